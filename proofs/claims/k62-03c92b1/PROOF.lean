import PyProof.Rows.All
import Wide.All
import OpenK.AllK
import Wide.FinOn
import PyProof.Rows.SortShellK
import KE.KSortTup
import Lean
import PyProof.EqAt
import PyProof.EqKinds
import PyProof.TupleCall
import PyProof.SetRoads
import PyProof.DictRoadsH
import PyProof.IsRules
import PyProof.CollectWalk
import PyProof.FactsAll.set
import PyProof.NeData
import PyProof.P3In
import PyProof.TupleOfSeq
import PyProof.ZipIter
import PyProof.Rows.ZipGen
import KE.KDictOf
import PyProof.AttrMissHeap
import PyProof.Rows.SumAny
import PyProof.DictIter
import PyProof.DictWalks
import PyProof.DictValues
import PyProof.ListRange
import PyProof.ListStr
import PyProof.DictTruth
import PySem.Challenge.RW_strikeweave_k62_words_of_a_keeper
set_option autoImplicit false
set_option genSizeOf false
set_option genSizeOfSpec false
set_option bootstrap.genMatcherCode false
set_option compiler.extract_closed false
set_option linter.all false
set_option maxRecDepth 100000
abbrev VA:=@PySem.W.Frag
def VB:=@False.elim
def VC:=@True.intro
def VD:=@Nat.le_refl
def VE:=@Nat.le_trans
def VF:=@Nat.le_of_eq
def VG:=@PySem.F.plainAttrs_list
def VH:=@PySem.F.slot_list_append
def VI:=@PySem.F.type_list_append
def VJ:=@PySem.F.slot_list_index
def VL:=@PySem.F.type_list_index
def VM:=@PySem.W.mg_none_of
def VN:=@PySem.F.slot_tuple_add
def VO:=@PySem.F.entry_tuple_add
def VP:=@PyProof.Rows.callWith_type1
def VQ:=@PySem.W.kia_one
def VR:=@PySem.W.kia_tup
section
open PySem PySem.Spec PyProof.Rows
abbrev A0:=@List
abbrev A2:=Value
abbrev A3:=Addr
def PySem.W.Fast:=Nat where
 tw12694557449260050804:=A3
 tw5957294305601927406:=A3
 tw8700483430433123428:=A3
 tw16723961924057337172:=A3
 tw5181723819990425464:=A3
 tw18327357200887043500:=A3
 tw11097725272619823294:=A3
 tw8451389607116406135:=A3
 tw3238508176821505271:=A3
 tw15048397126421474466:=A3
 tw17040558489967107131:=A3
 tw5531176061684110964:=A3
 tw2188355345445761592:=A3
 tw6167345231184246356:=A3
 tw8809050711131118795:=A3
 tw2072654229448483697:=A3
 tw13738226371328756903:=A3
 tw1529929537954228168:=A3
 tw11008339117169682065:=A3
 tw8095713099750032726:=A3
 tw5661713721320604504:=A3
 tw6241405427261522372:=A3
 tw10059643374974141043:=A3
 tw4376537566114091617:=A3
 tw12391319768439017430:=A3
 tw9883020045386227099:=A3
 tw14609477274104924151:=A3
 tw16455051303282155849:=A3
 tw732048143878502743:=A3
 tw634959322524801739:=A3
 tw3176854750560619030:=A3
 tw4079233532470245466:=A3
 tw5985791179912118237:=A3
 tw12017844334884106558:=A3
 tw12318444136192789355:=A3
 tw9917815284478718183:=A3
 tw12693572521507424374:=A3
 tw13575125776403350358:=A3
 tw4458955181397317909:=A3
 tw16442061823164206347:=A3
 tw17592675590036444724:=A3
 tw620214804754402018:=A3
 tw282291357911106647:=A3
 tw14840459088956365811:=A3
 tw11694746447879502221:=A3
 tw17064023625598318118:=A3
 tw5702071581336949809:=A3
 tw3786271977674432344:=A3
 tw4415032362926116315:=A3
 tw6577335582869220587:=A3
 tw2928687832928191116:=A3
 tw13815975908087810281:=A3
 tw12227822824140370622:=A3
 tw10285365814081486062:=A3
 tw1370077938471175764:=A3
 tw10319199323336866427:=A3
 tw10496207591943874352:=A3
 tw9715457551303935366:=A3
 tw16383916245996669512:=A3
 tw8258102069607498989:=A3
 tw7268164233587325602:=A3
 tw12681492719390322423:=A3
 tw10620980921796727993:=A3
 tw1396872070494930495:=A3
 tw15727322161348981433:=A3
 tw12282091851264302163:=A3
 tw15031852369983205771:=A3
 tw4904711512587224095:=A3
 tw4533378487594229871:=A3
 tw4151538706456201910:=A3
 tw9636950721606188642:=A3
 tw15423450147490507094:=A3
 tw12930964078353053126:=A3
 tw4109390371535008928:=A3
 tw328293615797262959:=A3
 tw12191913295384449248:=A3
 tw4074371409454337974:=A3
 tw6042820074186659312:=A3
 tw12453348675444137028:=A3
 tw7244801807495343888:=A3
 tw10372459391979149020:=A3
 tw10932350379999463583:=A3
 tw9100116140096722207:=A3
 tw5136088616747921445:=A3
 tw9672851977211102870:=A3
 tw4229842576939418514:=A3
 tw111743927978275404:=A3
 tw2695728261803936418:=A3
 tw4964607395527091000:=A3
 tw10748395991931948136:=A3
 tw18178395189303569293:=A3
 tw5988203483430456274:=A3
 tw1243816195323714823:=A3
 tw11922230013128456424:=A3
 tw6326538207516677901:=A3
 tw3019029262428225595:=A3
 tw12039258417560020495:=A3
 tw10163127258233619885:=A3
 tw831489023526379145:=A3
 tw10299862151038844503:=A3
 tw18169791032224725827:=A3
 tw3237018100592841057:=A3
 tw7290280403916277829:=A3
 tw16851882390110776534:=A3
 tw6707764859031988831:=A3
 tw17572525104015841880:=A3
 tw4431837608151904209:=A3
 tw6898643074591270139:=A3
 tw1473560763173448649:=A3
 tw17308773665075221951:=A3
 tw12916130763869800432:=A3
 tw5063575568587514211:=A3
 tw4206225172705866399:=A3
 tw1228803532858656353:=A3
 tw3098011110252667663:=A3
 tw12395445662483238729:=A3
 tw10448963092887350041:=A3
 tw968775329117086758:=A3
 tw10032322487816357979:=A3
 tw9019239734288464379:=A3
 tw11301951026893265664:=A3
 tw15946922428010296497:=A3
 tw16815948348424955311:=A3
 tw13301336664990783971:=A3
 tw17351422102297937856:=A3
 tw4952878181651670571:=A3
 tw4435937496500474867:=A3
 tw16734834909657968554:=A3
 tw15127645944433100699:=A3
 tw10956969211154812774:=A3
 tw13771077819066059851:=A3
 tw17300540422790082622:=A3
 tw2659645189809215831:=A3
 tw12779044808390635830:=A3
 tw7160055704084706409:=A3
 tw14715351908766731240:=A3
 tw5075099136020070509:=A3
 tw15660274870914386777:=A3
 tw1195973995336519756:=A3
 tw12317823769480851556:=A3
 tw4997287671026652779:=A3
 tw13298849515942807534:=A3
 tw5261396864144786251:=A3
 tw622048821822962722:=A3
 tw2949314036103195110:=A3
 tw12426405353859094311:=A3
 tw4313070679906763131:=A3
 tw12283973768458132753:=A3
 tw165420034531120329:=A3
 tw15947292925823305344:=A3
 tw2512595205308638928:=A3
 tw12289763115449392958:=A3
 tw14779495437844477964:=A3
 tw8864841737516595623:=A3
 tw2636994125644360984:=A3
 tw1883107013749268651:=A3
 tw14611473762742097464:=A3
 tw1615681224630230380:=A3
 tw4650516537821170850:=A3
 tw16443729054623838703:=A3
 tw13915798327808976055:=A3
 tw8253339658302571988:=A3
 tw13813284614200787564:=A3
 tw13951192726856195231:=A3
 tw4376086038019941287:=A3
 tw6248495833476316354:=A3
 tw12507236659065317327:=A3
 tw15373609822097631386:=A3
 tw13195674672978448380:=A3
 tw17975327765649990092:=A3
 tw15146435134781241824:=A3
 tw1442683411859719831:=A3
 tw14189259023407190122:=A3
 tw17204576238752194833:=A3
 tw11065776430116048263:=A3
 tw11188064753557926269:=A3
 tw7659518552123514320:=A3
 tw9900549082100130155:=A3
 tw7346873190089436834:=A3
 tw11485505643197139351:=A3
 tw14433454317343310812:=A3
 tw4734286741215027241:=A3
 tw16969017069879920750:=A3
 tw14505271588992483614:=A3
 tw8921214097249881746:=A3
 tw6650023568813888007:=A3
 tw2586324676591843968:=A3
 tw12419443782776891702:=A3
 tw558544131185916325:=A3
 tw2691964981971415191:=A3
 tw1281248690015941264:=A3
 tw11534388015422891088:=A3
 tw4009251380213075649:=A3
 tw13621637786058374809:=A3
 tw15683819410932351012:=A3
 tw14974247622023504149:=A3
 tw9680311153479383904:=A3
 tw103897249119565831:=A3
 tw7067345418271865246:=A3
 tw5945295820131498945:=A3
 tw1757269600086748005:=A3
 tw15099464813052501953:=A3
 tw8078828247894475075:=A3
 tw4353959188257502786:=A3
 tw5778402450797633579:=A3
 tw1283596606712447009:=A3
 tw7089832351236106368:=A3
 tw8664937832523355288:=A3
 tw15432352272117326946:=A3
 tw14155519636662077959:=A3
 tw14945829188590100639:=A3
 tw12952608223633424293:=A3
 tw1207127368409119622:=A3
 tw6944045430004187406:=A3
 tw3768983152047305405:=A3
 tw15429033437938749067:=A3
 tw11953446673490452093:=A3
 tw4300173628885891518:=A3
 tw14070482579718040059:=A3
 tw18079889161502260648:=A3
 tw17555288132223953853:=A3
 tw10965997256325484293:=A3
 tw595125535824063847:=A3
 tw416117728508624394:=A3
 tw12081121758381994164:=A3
 tw11664202486987991576:=A3
 tw14331037424380172559:=A3
 tw16672696672011629354:=A3
 tw8095937834236623123:=A3
 tw3460865713221225059:=A3
 tw8470476630068303653:=A3
 tw17649328464772172524:=A3
 tw6713703428348873314:=A3
 tw5301310090956203628:=A3
 tw5425213490633568813:=A3
 tw13853636396365446787:=A3
 tw108493231567155862:=A3
 tw17275290147014480360:=A3
 tw15270356602167452445:=A3
 tw5098540598859595112:=A3
 tw11017179437833862710:=A3
 tw5537185694349243070:=A3
 tw1488067993196089746:=A3
 tw8508224623771858513:=A3
 tw2023697619322299662:=A3
 tw2821532380242973545:=A3
 tw12133280216315686959:=A3
 tw6738816987655373364:=A3
 tw8963653704589269582:=A3
 tw1681468398489214614:=A3
 tw12960199098996837853:=A3
 tw706715107665055778:=A3
 tw6782846919580375108:=A3
 tw7622896985503886608:=A3
 tw11265370445486052447:=A3
 tw15075845429178236611:=A3
 tw16904333365551295231:=A3
 tw12357481679504971700:=A3
 tw5653144680584359513:=A3
 tw3357903464201225109:=A3
 tw9820821099536281939:=A3
 tw18112110143197812419:=A3
 tw17665119157058323079:=A3
 tw10258095830452806345:=A3
 tw2527292316433089997:=A3
 tw1453131341058380661:=A3
 tw2472250015363938943:=A3
 tw7211135525511688780:=A3
 tw4420331830612986677:=A3
 tw981038517173138569:=A3
 tw10835597820933098178:=A3
 tw3299603502782653326:=A3
 tw9661897257607835606:=A3
 tw2062306334287837153:=A3
 tw3806740543645721389:=A3
 tw4113138852294152943:=A3
 tw939060765537474599:=A3
 tw8454036547251501376:=A3
 tw10263657028520778122:=A3
 tw2826658740241076755:=A3
 tw16822749044464244749:=A3
 tw4183214798322656557:=A3
 tw10367672608613876567:=A3
 tw16387686420429717093:=A3
 tw7243693499639899446:=A3
 tw2575767059889908805:=A3
 tw6114512295693489233:=A3
 tw16815138437190005200:=A3
 tw3143495850046836825:=A3
 tw2652385749104716819:=A3
 tw7209887293245789887:=A3
 tw11329651294501451581:=A3
 tw918764070567372500:=A3
 tw10158131761169429385:=A3
 tw17570720173342697534:=A3
 tw5045273118548754129:=A3
 tw6203914638511556576:=A3
 tw18164341407376036094:=A3
 tw17918705522723889322:=A3
 tw4235746180452675439:=A3
 tw8933056238134087365:=A3
 tw302321400357019079:=A3
 tw15441935402149910363:=A3
 tw6998332090308066606:=A3
 tw3370386733098353085:=A3
 tw11896167515133859157:=A3
 tw15848584362122452136:=A3
 tw6195817821193369843:=A3
 tw17317769096336244362:=A3
 tw1212512249570301854:=A3
 tw2222492200761063318:=A3
 tw16746907562806367462:=A3
 tw3616991143172866489:=A3
 tw9554813603140104007:=A3
 tw4489164603269401018:=A3
 tw3597155132873509141:=A3
 tw12860789293049353582:=A3
 tw11015092896565355320:=A3
 tw17510384450824633375:=A3
 tw8724683002506732761:=A3
 tw12135811774204002241:=A3
 tw554508478240950511:=A3
 tw16404625971277769743:=A3
 tw13784156059098115509:=A3
 tw17091606686353526617:=A3
 tw9453006319989097387:=A3
 tw8261514827355077279:=A3
 tw6101877579697640633:=A3
 tw12014703028412894842:=A3
 tw17059502981833795550:=A3
 tw6668718463181637973:=A3
 tw13100193751607498036:=A3
 tw1268684001219100854:=A3
 tw8933804528463737974:=A3
 tw7137410091764494577:=A3
 tw13210112887762959829:=A3
 tw823518058212175144:=A3
 tw5653406809703144694:=A3
 tw6518092835150306135:=A3
 tw15582585624386778757:=A3
 tw10214987110081964161:=A3
 tw16531129142394760374:=A3
 tw3544781669272398110:=A3
 tw14243285809803971060:=A3
 tw9356150357567893079:=A3
 tw3708034557994990470:=A3
 tw11478856317415516367:=A3
 tw2085387827903752793:=A3
 tw13378253970655876725:=A3
 tw17095816587482250891:=A3
 tw8761104305054027559:=A3
 tw3034128561490409874:=A3
 tw4787982332189368520:=A3
 tw1984462039314300427:=A3
 tw16819627861146352117:=A3
 tw13796287590916878402:=A3
 tw4631501875843458650:=A3
 tw9612807566087769453:=A3
 tw11000795844289901819:=A3
 tw17291602213874267160:=A3
 tw7192316901051466059:=A3
 tw14950302587831440834:=A3
 tw6125886496388246014:=A3
 tw7971185783190409701:=A3
 tw6347048205665367378:=A3
 tw10553583984710176073:=A3
 tw11890943506584296803:=A3
 tw15652867833254432811:=A3
 tw5415497653168101506:=A3
 tw9245617210344290950:=A3
 tw4000713539304671092:=A3
 tw14658330599247587974:=A3
 tw16774997672259585720:=A3
 tw1289702291209022033:=A3
 tw17843288660191511676:=A3
 tw10251511843994612593:=A3
 tw16779553796752007348:=A3
 tw5187143498053634989:=A3
 tw584700132394671411:=A3
 tw5643571014139022390:=A3
 tw6194707748511718884:=A3
 tw7054040460878523045:=A3
 tw2055773304105251228:=A3
 tw2877847115714073982:=A3
 tw11858514694768171997:=A3
 tw5660815381854904104:=A3
 tw5275135894335763259:=A3
 tw8583985035144085686:=A3
 tw5137989665333191185:=A3
 tw14069049920856747923:=A3
 tw12582967695856676995:=A3
 tw4122351567097067398:=A3
 tw2408664757434155825:=A3
 tw12728063357126294299:=A3
 tw4077223634601966692:=A3
 tw5266497255656635391:=A3
 tw16980254377670293713:=A3
 tw3858060231665741442:=A3
 tw16578169982986814749:=A3
 tw4149192894204535664:=A3
 tw6262430962240019956:=A3
 tw10297278310599798560:=A3
 tw10326341048096421304:=A3
 tw2640284925347103048:=A3
 tw5880976545982593454:=A3
 tw2833921707970939240:=A3
 tw14565775190780160056:=A3
 tw1998250009421446347:=A3
 tw6837690135765242519:=A3
 tw4549182498605021321:=A3
 tw10068921364573340045:=A3
 tw15900281550286278080:=A3
 tw3484038498513125352:=A3
 tw5300178525443150967:=A3
 tw4149637201309226057:=A3
 tw4820042764002450175:=A3
 tw1572864196288764736:=A3
 tw2900139724735312503:=A3
 tw2138705596556895305:=A3
 tw8284638450382663459:=A3
 tw147699448226860066:=A3
 tw236886679587068716:=A3
 tw898029402744627517:=A3
 tw15312348499122598483:=A3
 tw5437235387919907752:=A3
 tw13296654292590741213:=A3
 tw10976016966836982469:=A3
 tw1879692086220810395:=A3
 tw2789719524365463265:=A3
 tw1948203903864980026:=A3
 tw17851895093824195243:=A3
 tw5768494576011911842:=A3
 tw7860122503697586456:=A3
 tw2535722747685809660:=A3
 tw9457293898390276558:=A3
 tw11206775159394496618:=A3
 tw11934639650430964950:=A3
 tw6012064622313459002:=A3
 tw969371390696662930:=A3
 tw6606379159278730435:=A3
 tw2125479170581955632:=A3
 tw12966645555297606559:=A3
 tw11886753265752762133:=A3
 tw17190010917110759885:=A3
 tw2319327632907334983:=A3
 tw9848148131610576947:=A3
 tw11171447576289421430:=A3
 tw15828345571941116867:=A3
 tw5947307321130765123:=A3
 tw7532871850381543064:=A3
 tw15818271568717011094:=A3
 tw10393480854457589323:=A3
 tw11875145906856969575:=A3
 tw15230483915722599049:=A3
 tw9738043641308377192:=A3
 tw73077502091220629:=A3
 tw274267705234565721:=A3
 tw2874146952666149902:=A3
 tw13087580112197209840:=A3
 tw9104399059438058097:=A3
 tw15762633272057404270:=A3
 tw9295471817244565059:=A3
 tw15667112208114062879:=A3
 tw11824841377284802216:=A3
 tw2961450745830994475:=A3
 tw762031265739112104:=A3
 tw2168848662537946402:=A3
 tw14939246673980840893:=A3
 tw16260814284764918982:=A3
 tw15436082999791988571:=A3
 tw15360945187806396142:=A3
 tw16968309553192807698:=A3
 tw1689358742179874598:=A3
 tw12751983638386928845:=A3
 tw16945139907870172151:=A3
 tw4139878880476248056:=A3
 tw4757649417056653620:=A3
 tw7763221627972801299:=A3
 tw5917194526799664610:=A3
 tw13032412137129458702:=A3
 tw9764820709423576399:=A3
 tw12294782696372567767:=A3
 tw3680162176030176589:=A3
 tw9538979848276740634:=A3
 tw7468958538360475636:=A3
 tw10518815728111174666:=A3
 tw7613757072158855016:=A3
 tw11433458958532060638:=A3
 tw1396485324016289172:=A3
 tw17084266311746673200:=A3
 tw15617961120545148148:=A3
abbrev A4:=Shared
abbrev A5:=@Option
abbrev IE:=Program
abbrev IG:=@Array
abbrev IH:=Keyed
abbrev IJ:=World
abbrev IK:=SortSt
abbrev IM:=Around
abbrev IP:=Heap
abbrev IQ:=Expr
abbrev IV:=SetTable
abbrev IY:=Stmt
abbrev I7:=FuncData
abbrev KC:=SortKind
abbrev KZ:=Scope
abbrev OO:=NameKind
abbrev QU:=Env
end
section
open PySem PySem.Spec PyProof.Rows
def AA:=@wpAny_bind
def AB:=@List.length_map
def AC:=@wpAny_pure
def AD:=@Heap.get?_push_of_some
def AE:=@List.mem_singleton
def AF:=@List.getElem?_eq_getElem
def AG:=@Heap.lt_size
def AH:=@List.map_append
def AI:=@if_neg
def AJ:=@List.getElem?_map
def AK:=@List.getElem?_eq_some_iff
def AL:=@decide_eq_false
def AM:=@List.mem_cons_of_mem
def AN:=@List.mem_append
def AO:=@if_pos
def AQ:=@decide_eq_true
def AR:=@List.size_toArray
def AS:=@List.length_append
def AU:=@Array.length_toList
def AV:=@List.mem_cons
def AW:=@List.mem_filter
def AX:=@List.length_take
def AY:=@Heap.get?_push_size
def AZ:=@List.mem_of_getElem?
def A_:=@List.not_mem_nil
def BA:=@List.mem_cons_self
def BB:=@Nat.ne_of_lt
def BC:=@List.length_filter_le
def BD:=@Bool.false_eq_true
def BE:=@Bool.false_ne_true
def BF:=@Heap.get?_update_other
def BG:=@Option.map_eq_some_iff
def BH:=@List.append_assoc
def BI:=@Nat.lt_of_lt_of_le
def BJ:=@List.mem_map
def BK:=@Array.getElem?_toList
def BL:=@of_decide_eq_true
def BM:=@List.map_cons
def BN:=@wpAny_holding
def BO:=@List.mem_append_right
def BP:=@List.take_length
def BQ:=@List.length_cons
def BR:=@List.filter_cons
def BS:=@wpAny_mono
def BT:=@Array.toList_append
def BU:=@Option.some.inj
def BV:=@wpAny_newObj_type
def BW:=@Heap.get?_update_self
def BZ:=@Nat.zero_le
def B_:=@List.map_map
def CA:=@List.take_append_drop
def CB:=@List.getD_eq_getElem?_getD
def CC:=@List.append_nil
def CD:=@wpAny_field
def CF:=@wpAny_setState_of
def CG:=@wpAny_call_entry
def CH:=@Array.getElem?_eq_some_iff
def CI:=@wpAny_callSpecial?_slot
def CJ:=@Int.toNat_natCast
def CL:=@List.nodup_append
def CM:=@Nat.le_of_ble_eq_true
def CN:=@List.nodup_cons
def CO:=@Heap.size_push
def CP:=@Array.getD_eq_getD_getElem?
def CQ:=@if_false
def CS:=@List.pairwise_append
def CT:=@List.mem_append_left
def CU:=@List.pairwise_map
def CV:=@List.filter_append
def CY:=@List.perm_append_comm
def CZ:=@List.Perm.append_left
def C_:=@Bool.and_eq_true
def DA:=@wpAny_truthy_bool
def DB:=@Nat.lt_irrefl
def DC:=@Nat.le_succ
def DD:=@List.replicate_succ
def DE:=@List.mem_range
def DF:=@Array.toList_push
def DG:=@List.mem_of_mem_take
def DH:=@wpAny_setField_rec
def DI:=@wpAny_ite_false
def DJ:=@List.length_drop
def DK:=@List.getElem?_take_of_lt
def DL:=@List.getElem_mem
def DM:=@Heap.SameBut.update
def DN:=@wpAny_rule
def DP:=@Bool.false_and
def DQ:=@Nat.le_of_lt
def DR:=@List.Perm.append_right
def DT:=@List.take_of_length_le
def DU:=@List.filterMap_cons
def DV:=@List.filter_sublist
def DW:=@List.length_range
def DX:=@List.nodup_nil
def DY:=@codeAny_builtin
def DZ:=@List.filter_nil
def D_:=@List.mem_iff_getElem
def EA:=@List.all_eq_true
def EB:=@wpAny_of_eq
def EC:=@wpAny_standAt
def ED:=@Bool.eq_false_iff
def EE:=@wpAny_seqItems
def EF:=@wpAny_setField
def EG:=@Array.getElem?_eq_none
def EH:=@wpAny_loadPart_at
def EI:=@Nat.add_le_add_left
def EJ:=@wpAny_execs_nil
def EK:=@List.drop_eq_getElem_cons
def EL:=@List.extract_eq_take_drop
def EM:=@Array.getElem?_eq_getElem
def EN:=@List.Pairwise.and_mem
def EO:=@List.getElem?_toArray
def EQ:=@Nat.le_add_right
def ER:=@decide_eq_decide
def ES:=@Nat.zero_add
def ET:=@Bool.not_true
def EU:=@List.filterMap_cons_some
def EV:=@List.mem_of_mem_drop
def EW:=@List.drop_zero
def EX:=@Array.toList_extract
def EY:=@List.take_sublist
def EZ:=@Nat.lt_succ_of_lt
def E_:=@List.length_eq_zero_iff
def FA:=@List.Perm.of_eq
def FB:=@List.drop_eq_nil_of_le
def FC:=@codeAny_mono
def FD:=@wpAny_attempt
def FE:=@Nat.succ_le_succ
def FF:=@Nat.lt_succ_self
def FG:=@List.drop_drop
def FH:=@wpAny_Call_Name_kw
def FI:=@Int.emod_lt_of_pos
def FJ:=@wpAny_passesOwn
def FK:=@List.drop_sublist
def FM:=@Array.toList_reverse
def FN:=@List.ext_getElem?
def FO:=@List.flatten_cons
def FP:=@Option.isSome_iff_exists
def FQ:=@wpAny_isInstance
def FR:=@Nat.zero_lt_succ
def FS:=@wpAny_ite_true
def FT:=@Nat.zero_testBit
def FU:=@Nat.lt_of_le_of_ne
def FV:=@Nat.eq_zero_of_not_pos
def FW:=@List.getElem?_drop
def FX:=@Array.size_extract
def FY:=@wpAny_pyIter_tuple
def FZ:=@wpAny_typeOf
def F_:=@List.map_nil
def GA:=@Nat.min_eq_left
def GB:=@List.nil_append
def GC:=@Bool.eq_iff_iff
def GD:=@List.find?_cons
def GE:=@wpAny_specialOf
def GF:=@Int.emod_nonneg
def GG:=@List.filter_map
def GH:=@List.any_cons
def GI:=@List.getElem?_eq_none
def GJ:=@List.length_replicate
def GK:=@List.length_singleton
def GL:=@if_true
def GM:=@Nat.lt_of_succ_lt
def GN:=@wpAny_pyIter_list
def GO:=@List.drop_take
def GP:=@List.getElem?_append_right
def GQ:=@wpAny_newTuple
def GR:=@List.getElem?_set_ne
def GS:=@Heap.size_update
def GT:=@wpAny_execs_cons
def GU:=@List.any_eq_true
def GV:=@wpAny_askSetting
def GX:=@List.getElem?_append_left
def GY:=@List.getElem?_eq_none_iff
def GZ:=@List.reverse_append
def G_:=@List.map_congr_left
def HG:=@wpAny_isSubtype_exc
def HH:=@List.map_eq_nil_iff
def HI:=@Array.size_setIfInBounds
def HJ:=@List.filterMap_cons_none
def HK:=@Nat.zero_lt_one
def HL:=@List.foldl_cons
def HM:=@Option.map_some
def HN:=@wpAny_call
def HP:=@of_decide_eq_false
def HQ:=@Nat.sub_pos_of_lt
def HR:=@Array.size_map
def HS:=@List.getElem?_set_self
def HU:=@Bool.and_false
def HV:=@Bool.not_false
def HW:=@wpAny_storeSet_of
def HX:=@wpAny_pyIter_enum
def HY:=@List.le_antisymm
def HZ:=@Heap.ExtBut.push
def H_:=@wpAny_pyIter_zip
def IA:=@List.cons.inj
def IB:=@List.all_cons
def IC:=@Bool.true_and
end
noncomputable section
namespace TS
def zBb{k x l r:Nat}(h:l<r)(a:r-l<=k-x):(l+r) / 2-l<=k-(x+1) :=
 VE (Nat.le_pred_of_lt (Nat.sub_lt_sub_right ((Nat.le_div_iff_mul_le (by decide)).mpr (by rw[Nat.mul_two];exact EI (DQ h) l)) ((Nat.div_lt_iff_lt_mul (by decide)).mpr (by rw[Nat.mul_two];exact Nat.add_lt_add_right h r)))) (Nat.pred_le_pred a)
def Ys{n x l r m:Nat}(h:l<=m)(a:r-l<=n-x):r-(m+1)<=n-(x+1):=VE (Nat.sub_le_sub_left (FE h) r) (Nat.pred_le_pred a)
def zBa{k x l r:Nat}(h:l<r)(a:r-l<=k-x):r-((l+r) / 2+1)<=k-(x+1) :=
 Ys ((Nat.le_div_iff_mul_le (by decide)).mpr (by rw[Nat.mul_two];exact EI (DQ h) l)) a
def zFi{n x l r:Nat}(h:l<r)(a:r-l<=n-x):l +(r-l) / 2-l<=n-(x+1):=by
 rw[Nat.add_sub_cancel_left];exact VE (Nat.le_pred_of_lt (Nat.div_lt_self (HQ h) (by decide))) (Nat.pred_le_pred a)
def zJu{lo x q k:Nat}(h:q+1<=x)(a:lo+x-(q+1)<=k):x-(q+1)<=k-lo:=Nat.le_sub_of_add_le' (by rw[Nat.add_sub_assoc h]at a;exact a)
open PySem PyProof.Rows
def kk(Z:KeyKind)(p:IH):Z.α:=(Z.keyOf p.1).getD Z.dflt
def R_(Z:KeyKind)(p:IH):Prop:=∃a,Z.keyOf p.1=some a
def le(Z:KeyKind)(p q:IH):Prop:=Z.kle (kk Z p) (kk Z q)
def LL(Z:KeyKind)(l:A0 IH):Prop:=l.Pairwise (le Z)
structure RO(prog:IE)(w:IJ)(A:IM)(s:A4)(Z:KeyKind)(kd:KC):Prop where
 lt:∀(x y:A2) (a b:Z.α) (Q:Bool->A4->Prop) (E:A2->A4->Prop),Z.keyOf x=some a->Z.keyOf y=some b->Q (Z.blt a b) s->wpAny (model prog w) A (keyLt' kd x y) Q E s
section
variable{prog:IE}{w:IJ}{A:IM}{E:A2->A4->Prop}{s:A4}{Z:KeyKind}{kd:KC}
theorem Hk(C:RO prog w A s Z kd){st:IK}{x y:IH}{Q:A5 Bool->IK->Prop}(e:kindOf st=kd)(f:R_ Z x)(g:R_ Z y)
  (h:Q (some (Z.blt (kk Z x) (kk Z y))) st):wpS (model prog w) A E s (lt' x y) Q st:=by
 obtain⟨a,c⟩:=f;obtain⟨b,d⟩:=g;have i:kk Z x=a:=by unfold kk;rw[c];rfl
 have j:kk Z y=b:=by unfold kk;rw[d];rfl
 rw[i,j]at h;rw[lt'_eq];refine wpS_bind (wpS_get ?_);rw[e];refine wpS_bind (wpS_lift (FD (C.lt x.1 y.1 a b _ _ c d ⟨rfl,?_⟩)));exact wpS_pure h
theorem I0{st:IK}{a:IG IH}{i:Nat}{p:IH}{Q:IH->IK->Prop}(hi:a[i]?=some p)(h:Q p st):wpS (model prog w) A E s (elem' a i) Q st:=by
 rw[elem'_eq,hi];exact wpS_pure h
def Y3:Bool->IH->IG IH->Nat->Nat->Nat->StateT IK Sem (A5 Nat):=sortPriv% PySem.Builtin.gallop
def TK(left:Bool)(a:IH)(b:IG IH)(bs:Nat)(i:Nat):StateT IK Sem (A5 Bool):=do
 let x <-elem' b (bs+i)
 if left then lt' x a else return(<-lt' a x).map (!·)
theorem Qc(left:Bool)(c:IH)(d:IG IH)(bs n b:Nat):Y3 left c d bs n b =(do
  let mut la:=0
  let mut a:=1
  let mut lo:=0
  let mut hi:=0
  let some g <-TK left c d bs b | return none
  if g then
   let e:=n-b
   for _ in [0:n] do
    if a ≥ e then break
    let some f <-TK left c d bs (b+a) | return none
    if !f then break
    la:=a
    a:=2*a+1
   lo:=b+la+1
   hi:=b+min a e
  else
   let e:=b+1
   for _ in [0:n] do
    if a ≥ e then break
    let some h <-TK left c d bs (b-a) | return none
    if h then break
    la:=a
    a:=2*a+1
   lo:=b+1-min a e
   hi:=b-la
  for _ in [0:n] do
   if lo ≥ hi then break
   let m:=lo +(hi-lo) / 2
   let some f <-TK left c d bs m | return none
   if f then lo:=m+1 else hi:=m
  return some hi):=rfl
def PB(Z:KeyKind)(left:Bool)(a:IH)(p:IH):Bool:=if left then Z.blt (kk Z p) (kk Z a)else !Z.blt (kk Z a) (kk Z p)
theorem zAm(C:RO prog w A s Z kd){st:IK}{left:Bool}{b p:IH}{c:IG IH}{bs i:Nat}{Q:A5 Bool->IK->Prop}(d:kindOf st=kd)(a:R_ Z b)(e:R_ Z p)(hi:c[bs+i]?=some p)
  (h:Q (some (PB Z left b p)) st):wpS (model prog w) A E s (TK left b c bs i) Q st:=by
 unfold TK;refine wpS_bind (I0 hi ?_);cases left with
 | true=>exact Hk C d e a h
 | false =>
  simp only[BD,CQ];refine wpS_bind (Hk C d a e ?_);exact wpS_pure h
theorem Px(C:RO prog w A s Z kd){st:IK}{left:Bool}{L:IH}{O:IG IH}{bs n g:Nat}{Q:A5 Nat->IK->Prop}(hk:kindOf st=kd)(R:R_ Z L)
  (P:Nat->Bool) (hP:∀i,i<n->∃p,O[bs+i]?=some p/\R_ Z p/\PB Z left L p=P i) (o:∀i j,i<=j->j<n->P j=true->P i=true) (T:g<n)
  (h:∀k,k<=n->(∀i,i<k->P i=true)->(∀i,k<=i->i<n->P i=false)->Q (some k) st):wpS (model prog w) A E s (Y3 left L O bs n g) Q st:=by
 have B:∀{a:IK} {i:Nat} {Q:A5 Bool->IK->Prop},a=st->i<n->Q (some (P i)) a->wpS (model prog w) A E s (TK left L O bs i) Q a:=by
  intro a i Q e hi q;subst e;obtain⟨p,U,V,W⟩:=hP i hi;exact zAm C hk R V U (by rw[W];exact q)
 have m:∀i j,i<=j->j<n->P i=false->P j=false:=by
  intro i j X hj hi;cases e:P j with
  | false=>rfl
  | true=>rw[o i j X hj e]at hi;cases hi
 rw[Qc];dsimp only;refine wpS_bind (B rfl T ?_);dsimp only;have S:∀{lo hi:Nat} {f:Nat->(A5 (A5 Nat)×Nat×Nat)->StateT IK Sem (ForInStep (A5 (A5 Nat)×Nat×Nat))},
   (∀x l h,wpS (model prog w) A E s (f x (none,l,h)) (λr a=>a=st/\(if h<=l then r = .done (none,l,h)else if P (l +(h-l) / 2)=true then r = .yield (none,l +(h-l) / 2+1,h)else r = .yield (none,l,l +(h-l) / 2))) st\/¬(h<=l\/l +(h-l) / 2<n)) ->
   lo<=hi->hi<=n->(∀i,i<lo->P i=true)->(∀i,hi<=i->i<n->P i=false) ->
   wpS (model prog w) A E s (forIn [0:n] (none,lo,hi) f) (λc a=>a=st/\∃k,c =(none,k,k)/\k<=n/\(∀i,i<k->P i=true)/\(∀i,k<=i->i<n->P i=false)) st:=by
  intro lo hi f hf U V W h4;refine wpS_forRange (I:=λx c a=>a=st/\∃l r,c =(none,l,r)/\l<=r/\r<=n/\r-l<=n-x/\(∀i,i<l->P i=true)/\(∀i,r<=i->i<n->P i=false)) ?_ ?_ ⟨rfl,lo,hi,rfl,U,V,by lia,W,h4⟩
  .rintro x c a _ hx ⟨rfl,l,r,rfl,hl,K,Y,M,N⟩;have hin:r<=l\/l +(r-l) / 2<n:=by lia
   rcases hf x l r with q | q
   .refine wpS_mono q λz st2 ⟨e,F⟩=>?_;subst e;by_cases b:r<=l
    .rw[AO b]at F;subst F;have:l=r:=by lia
     subst this;exact⟨rfl,l,rfl,K,M,N⟩
    .rw[AI b]at F;cases u:P (l +(r-l) / 2)with
     | true =>
      rw[AO u]at F;subst F;exact⟨rfl,_,_,rfl,by lia,by lia,Ys (EQ ..) Y,λi hi=>o i (l +(r-l) / 2) (by lia) (by lia) u,N⟩
     | false =>
      rw[AI (by rw[u];exact BE)]at F;subst F;exact⟨rfl,_,_,rfl,by lia,by lia,zFi (Nat.lt_of_not_le b) Y,M,λi G y=>m (l +(r-l) / 2) i G y u⟩
   .exact absurd hin q
  .rintro c a ⟨rfl,l,r,rfl,hl,K,Y,M,N⟩;have:l=r:=by lia
   subst this;exact⟨rfl,l,rfl,K,M,N⟩
 cases K:P g with
 | true =>
  rw[AO rfl];refine wpS_bind (wpS_mono (wpS_forRange (I:=λx c a=>a=st/\∃la d,c =(none,la,d)/\la<d/\x+1<=d/\g+la<n/\P (g+la)=true)
   (Q:=λc a=>a=st/\∃la d,c =(none,la,d)/\la<d/\g+la<n/\P (g+la)=true/\(n-g<=d\/(g+d<n/\P (g+d)=false))) ?st ?en ⟨rfl,0,1,rfl,by lia,by lia,by lia,K⟩) ?po)
  case en =>
   rintro c a ⟨rfl,la,d,rfl,D,a2,v,t⟩;exact⟨rfl,la,d,rfl,D,v,t,.inl (by lia)⟩
  case st =>
   rintro x c a _ hx ⟨rfl,la,d,rfl,D,a2,v,t⟩;dsimp only;by_cases b:d ≥ n-g
   .rw[AO b];exact wpS_pure ⟨rfl,la,d,rfl,D,v,t,.inl b⟩
   .rw[AI b];refine wpS_bind (B rfl (show g+d<n by lia) ?_);cases u:P (g+d)with
    | true=>exact wpS_pure ⟨rfl,d,2*d+1,rfl,by lia,by lia,by lia,u⟩
    | false=>exact wpS_pure ⟨rfl,la,d,rfl,D,v,t,.inr ⟨by lia,u⟩⟩
  case po =>
   rintro c a ⟨rfl,la,d,rfl,D,v,t,H⟩;dsimp only;refine wpS_bind (wpS_mono (S (lo:=g+la+1) (hi:=g+min d (n-g)) (λx l J=>by
    dsimp only;by_cases b:J<=l
    .refine .inl ?_;rw[AO b];exact wpS_pure ⟨rfl,by rw[AO b]⟩
    .by_cases hn:l +(J - l) / 2<n
     .refine .inl ?_;rw[AI b];refine wpS_bind (B rfl hn ?_);dsimp only;cases u:P (l +(J - l) / 2)with
      | true =>
       simp only[GL];exact wpS_pure ⟨rfl,by rw[AI b]⟩
      | false =>
       simp only[BD,CQ];exact wpS_pure ⟨rfl,by rw[AI b]⟩
     .exact .inr (by lia)) (by lia) (by lia) (λi hi=>o i (g+la) (by lia) v t) λi G y=>?_) λc a ⟨e,k,e2,b1,b2,b3⟩=>?_)
   .rcases H with H | ⟨H,a6⟩
    .lia
    .exact m (g+d) i (by lia) y a6
   .subst e e2;exact wpS_pure (h k b1 b2 b3)
 | false =>
  rw[AI BE];refine wpS_bind (wpS_mono (wpS_forRange (I:=λx c a=>a=st/\∃la d,c =(none,la,d)/\la<d/\x+1<=d/\la<=g/\P (g-la)=false)
   (Q:=λc a=>a=st/\∃la d,c =(none,la,d)/\la<d/\la<=g/\P (g-la)=false/\(g+1<=d\/(d<=g/\P (g-d)=true))) ?st ?en ⟨rfl,0,1,rfl,by lia,by lia,by lia,K⟩) ?po)
  case en =>
   rintro c a ⟨rfl,la,d,rfl,D,a2,v,t⟩;exact⟨rfl,la,d,rfl,D,v,t,.inl (by lia)⟩
  case st =>
   rintro x c a _ hx ⟨rfl,la,d,rfl,D,a2,v,t⟩;dsimp only;by_cases b:d ≥ g+1
   .rw[AO b];exact wpS_pure ⟨rfl,la,d,rfl,D,v,t,.inl b⟩
   .rw[AI b];refine wpS_bind (B rfl (show g-d<n by lia) ?_);cases u:P (g-d)with
    | false=>exact wpS_pure ⟨rfl,d,2*d+1,rfl,by lia,by lia,by lia,u⟩
    | true=>exact wpS_pure ⟨rfl,la,d,rfl,D,v,t,.inr ⟨by lia,u⟩⟩
  case po =>
   rintro c a ⟨rfl,la,d,rfl,D,v,t,H⟩;dsimp only;refine wpS_bind (wpS_mono (S (lo:=g+1-min d (g+1)) (hi:=g-la) (λx l J=>by
    dsimp only;by_cases b:J<=l
    .refine .inl ?_;rw[AO b];exact wpS_pure ⟨rfl,by rw[AO b]⟩
    .by_cases hn:l +(J - l) / 2<n
     .refine .inl ?_;rw[AI b];refine wpS_bind (B rfl hn ?_);dsimp only;cases u:P (l +(J - l) / 2)with
      | true =>
       simp only[GL];exact wpS_pure ⟨rfl,by rw[AI b]⟩
      | false =>
       simp only[BD,CQ];exact wpS_pure ⟨rfl,by rw[AI b]⟩
     .exact .inr (by lia)) (by lia) (by lia) (λi hi=>?_) λi G y=>m (g-la) i (by lia) y t) λc a ⟨e,k,e2,b1,b2,b3⟩=>?_)
   .rcases H with H | ⟨H,a6⟩
    .lia
    .exact o i (g-d) (by lia) (by lia) a6
   .subst e e2;exact wpS_pure (h k b1 b2 b3)
end
end TS
namespace TS
open PySem PyProof.Rows
section
variable{Z:KeyKind}
theorem SL(p:IH):le Z p p:=KeyOrd.kle_refl _
theorem JI{p q r:IH}(h1:le Z p q)(h2:le Z q r):le Z p r:=KeyOrd.kle_trans h1 h2
structure ML(Z:KeyKind)(a b:A0 IH)(o:A0 IH)(i j:Nat):Prop where
 perm:o.Perm (a.take i++b.take j)
 sor:LL Z o
 la:∀x∈o,∀y∈a.drop i,le Z x y
 lb:∀x∈o,∀y∈b.drop j,le Z x y
theorem ML.sym{a b o:A0 IH}{i j:Nat}(m:ML Z a b o i j):ML Z b a o j i:=⟨m.perm.trans CY,m.sor,m.lb,m.la⟩
theorem Hm{l:A0 IH}(k:Nat)(h:LL Z l):∀x∈l.take k,∀y∈l.drop k,le Z x y:=by
 have a:LL Z (l.take k++l.drop k):=by rw[CA];exact h
 exact(CS.mp a).2.2
theorem ML.addA{a b o:A0 IH}{i j:Nat}(m:ML Z a b o i j)(e:LL Z a)(k:Nat)(f:∀y∈(a.drop i).take k,∀z∈b.drop j,le Z y z):ML Z a b (o ++(a.drop i).take k) (i+k) j:=by
 have d:LL Z (a.drop i):=e.sublist (FK _ _);refine⟨?_,?_,λx hx y c=>?_,λx hx y c=>?_⟩
 .rw[List.take_add];refine(DR _ m.perm).trans ?_;rw[BH,BH];exact CZ _ CY
 .refine CS.mpr ⟨m.sor,d.sublist (EY _ _),λx hx y c=>m.la x hx y (DG c)⟩
 .rw[<-FG]at c;rcases AN.mp hx with hx | hx
  .exact m.la x hx y (EV c)
  .exact Hm k d x hx y c
 .rcases AN.mp hx with hx | hx
  .exact m.lb x hx y c
  .exact f x hx y c
theorem ML.addB{a b o:A0 IH}{i j:Nat}(m:ML Z a b o i j)(c:LL Z b)(k:Nat)(d:∀y∈(b.drop j).take k,∀z∈a.drop i,le Z y z):ML Z a b (o ++(b.drop j).take k) i (j+k) :=
 (m.sym.addA c k d).sym
theorem ML.endA{a b o:A0 IH}{i j:Nat}(m:ML Z a b o i j)(e:LL Z a)(f:LL Z b)(h:∀y∈a.drop i,∀z∈b.drop j,le Z y z):LL Z (o++a.drop i++b.drop j)/\(o++a.drop i++b.drop j).Perm (a++b):=by
 refine⟨?_,?_⟩
 .refine CS.mpr ⟨CS.mpr ⟨m.sor,e.sublist (FK _ _),m.la⟩,f.sublist (FK _ _),λx hx y c=>?_⟩;rcases AN.mp hx with hx | hx
  .exact m.lb x hx y c
  .exact h x hx y c
 .have g:(o++a.drop i++b.drop j).Perm ((a.take i++b.take j)++a.drop i++b.drop j):=DR _ (DR _ m.perm);refine g.trans ?_;have d:((a.take i++b.take j)++a.drop i++b.drop j).Perm ((a.take i++a.drop i) ++(b.take j++b.drop j)):=by
   rw[BH,BH,BH];refine CZ _ ?_;rw[<-BH,<-BH];exact DR _ CY
  rw[CA,CA]at d;exact d
theorem ML.endB{a b o:A0 IH}{i j:Nat}(m:ML Z a b o i j)(c:LL Z a)(d:LL Z b)(h:∀y∈b.drop j,∀z∈a.drop i,le Z y z):LL Z (o++b.drop j++a.drop i)/\(o++b.drop j++a.drop i).Perm (a++b) :=
 ⟨(m.sym.endA d c h).1,(m.sym.endA d c h).2.trans CY⟩
structure MH(Z:KeyKind)(a b:A0 IH)(o:A0 IH)(i j:Nat):Prop where
 perm:o.Perm (a.drop i++b.drop j)
 sor:LL Z o
 la:∀x∈o,∀y∈a.take i,le Z y x
 lb:∀x∈o,∀y∈b.take j,le Z y x
theorem MH.sym{a b o:A0 IH}{i j:Nat}(m:MH Z a b o i j):MH Z b a o j i:=⟨m.perm.trans CY,m.sor,m.lb,m.la⟩
theorem MH.addA{a b o:A0 IH}{i j:Nat}(m:MH Z a b o i j)(g:LL Z a)(k:Nat)(d:k<=i)(h:∀y∈(a.take i).drop k,∀z∈b.take j,le Z z y):MH Z a b ((a.take i).drop k++o) k j:=by
 have f:LL Z (a.take i):=g.sublist (EY _ _);have e:a.drop k =(a.take i).drop k++a.drop i:=by
  conv=>lhs;rw[<-CA i a]
  rw[List.drop_append];by_cases l:i<=a.length
  .rw[AX,GA l,Nat.sub_eq_zero_of_le d,EW]
  .have:a.drop i = []:=FB (by lia);rw[this,List.drop_nil]
 have n:(a.take i).take k=a.take k:=by rw[List.take_take,GA d]
 refine⟨?_,?_,λx hx y c=>?_,λx hx y c=>?_⟩
 .rw[e,BH];exact CZ _ m.perm
 .exact CS.mpr ⟨f.sublist (FK _ _),m.sor,λx hx y c=>m.la y c x (EV hx)⟩
 .rw[<-n]at c;rcases AN.mp hx with hx | hx
  .exact Hm k f y c x hx
  .exact m.la x hx y (DG c)
 .rcases AN.mp hx with hx | hx
  .exact h x hx y c
  .exact m.lb x hx y c
theorem MH.addB{a b o:A0 IH}{i j:Nat}(m:MH Z a b o i j)(d:LL Z b)(k:Nat)(c:k<=j)(e:∀y∈(b.take j).drop k,∀z∈a.take i,le Z z y):MH Z a b ((b.take j).drop k++o) i k :=
 (m.sym.addA d k c e).sym
theorem MH.endA{a b o:A0 IH}{i j:Nat}(m:MH Z a b o i j)(e:LL Z a)(f:LL Z b)(h:∀y∈a.take i,∀z∈b.take j,le Z y z):LL Z (a.take i++b.take j++o)/\(a.take i++b.take j++o).Perm (a++b):=by
 refine⟨?_,?_⟩
 .refine CS.mpr ⟨CS.mpr ⟨e.sublist (EY _ _),f.sublist (EY _ _),h⟩,m.sor,λx hx y c=>?_⟩;rcases AN.mp hx with hx | hx
  .exact m.la y c x hx
  .exact m.lb y c x hx
 .have g:(a.take i++b.take j++o).Perm (a.take i++b.take j ++(a.drop i++b.drop j)):=CZ _ m.perm;refine g.trans ?_;have d:(a.take i++b.take j ++(a.drop i++b.drop j)).Perm ((a.take i++a.drop i) ++(b.take j++b.drop j)):=by
   rw[BH,BH];refine CZ _ ?_;rw[<-BH,<-BH];exact DR _ CY
  rw[CA,CA]at d;exact d
theorem MH.endB{a b o:A0 IH}{i j:Nat}(m:MH Z a b o i j)(c:LL Z a)(d:LL Z b)(h:∀y∈b.take j,∀z∈a.take i,le Z y z):LL Z (b.take j++a.take i++o)/\(b.take j++a.take i++o).Perm (a++b) :=
 ⟨(m.sym.endA d c h).1,(m.sym.endA d c h).2.trans CY⟩
end
section
variable{prog:IE}{w:IJ}{A:IM}{E:A2->A4->Prop}{s:A4}{Z:KeyKind}{kd:KC}
def Ds(g:Nat):StateT IK Sem Unit:=modify λs=>SortSt.mk' (kindOf s) (arrOf s) (pendingOf s) g (failedOf s)
def Ga:IG IH->IG IH->StateT IK Sem (IG IH):=sortPriv% PySem.Builtin.mergeLo
theorem Lv(a b:IG IH):Ga a b =(do
  rule "list.sort.merge-lo"
  let e:=a.size+b.size
  let d (o:IG IH) (i j:Nat):=o++a.extract i a.size++b.extract j b.size
  let h (o:IG IH) (i j:Nat):=o++b.extract j b.size++a.extract i a.size
  let mut o:IG IH:=#[<-elem' b 0]
  let mut i:=0
  let mut j:=1
  if j == b.size then return d o i j
  if i+1 == a.size then return h o i j
  let mut c:=gallopOf (<-get)
  for _ in [0:e] do
   let mut f:=0
   let mut g:=0
   for _ in [0:e] do
    let some l <-lt' (<-elem' b j) (<-elem' a i) | return d o i j
    if l then
     o:=o.push (<-elem' b j);j:=j+1;g:=g+1;f:=0
     if j == b.size then return d o i j
     if g ≥ c then break
    else
     o:=o.push (<-elem' a i);i:=i+1;f:=f+1;g:=0
     if i+1 == a.size then return h o i j
     if f ≥ c then break
   rule "list.sort.gallop"
   c:=c+1
   for _ in [0:e] do
    if c>1 then c:=c-1
    Ds c
    let some k <-Y3 false (<-elem' b j) a i (a.size-i) 0 | return d o i j
    f:=k
    if k>0 then
     o:=o++a.extract i (i+k);i:=i+k
     if i+1 == a.size then return h o i j
     if i == a.size then return d o i j
    o:=o.push (<-elem' b j);j:=j+1
    if j == b.size then return d o i j
    let some k <-Y3 true (<-elem' a i) b j (b.size-j) 0 | return d o i j
    g:=k
    if k>0 then
     o:=o++b.extract j (j+k);j:=j+k
     if j == b.size then return d o i j
    o:=o.push (<-elem' a i);i:=i+1
    if i+1 == a.size then return h o i j
    if f<7&&g<7 then break
   c:=c+1
   Ds c
  unsupported "internal:list.sort.merge-bound"):=rfl
def Sm(st a:IK):Prop:=kindOf a=kindOf st/\arrOf a=arrOf st/\pendingOf a=pendingOf st/\failedOf a=failedOf st
theorem Sm.refl(st:IK):Sm st st:=⟨rfl,rfl,rfl,rfl⟩
theorem n9{st st0:IK}{g:Nat}{Q:Unit->IK->Prop}(b:Sm st0 st)(h:∀a,Sm st0 a->Q () a):wpS (model prog w) A E s (Ds g) Q st :=
 wpS_modify (h _ ⟨b.1,b.2.1,b.2.2.1,b.2.2.2⟩)
theorem Fr{l:A0 IH}{i k:Nat}{y:IH}(h:y∈(l.drop i).take k):∃t,t<k/\l[i+t]?=some y:=by
 obtain⟨t,a,e⟩:=D_.mp h;rw[AX,DJ]at a;refine⟨t,by lia,?_⟩;rw[List.getElem_take,List.getElem_drop]at e;rw[<-e];exact AF (by lia)
theorem Lk{l:A0 IH}{i:Nat}{y:IH}(h:y∈l.drop i):∃t,i+t<l.length/\l[i+t]?=some y:=by
 obtain⟨t,a,e⟩:=D_.mp h;rw[DJ]at a;refine⟨t,by lia,?_⟩;rw[List.getElem_drop]at e;rw[<-e];exact AF (by lia)
theorem Pn{l:A0 IH}{i:Nat}{y:IH}(h:y∈l.take i):∃t,t<i/\t<l.length/\l[t]?=some y:=by
 obtain⟨t,a,e⟩:=D_.mp h;rw[AX]at a;refine⟨t,by lia,by lia,?_⟩;rw[List.getElem_take]at e;rw[<-e];exact AF (by lia)
theorem Yu{l:A0 IH}{i k:Nat}{y:IH}(h:y∈(l.take i).drop k):∃t,k<=t/\t<i/\l[t]?=some y:=by
 obtain⟨t,b,a⟩:=Lk h;rw[AX]at b;rw[DK (by lia)]at a;exact⟨k+t,by lia,by lia,a⟩
theorem Bj{l:A0 IH}(h:LL Z l){i j:Nat}{p q:IH}(a:i<=j)(b:l[i]?=some p)(c:l[j]?=some q):le Z p q:=by
 obtain⟨d,rfl⟩:=AK.mp b;obtain⟨e,rfl⟩:=AK.mp c;rcases Nat.lt_or_eq_of_le a with z | z
 .exact List.pairwise_iff_getElem.mp h i j d e z
 .subst z;exact SL _
theorem Fv{l:A0 IH}(h:LL Z l){i:Nat}{p:IH}(a:l[i]?=some p):∀z∈l.drop i,le Z p z:=λz b=>by
 obtain⟨t,_,e⟩:=Lk b;exact Bj h (EQ _ _) a e
theorem IS{a:IG IH}{i:Nat}{p:IH}:a[i]?=some p↔a.toList[i]?=some p:=by rw[BK]
theorem w9{a:IG IH}{i:Nat}(h:i<a.size):∃p,a[i]?=some p:=⟨a[i],getElem?_pos a i h⟩
theorem Tz{l:A0 IH}{i:Nat}{p:IH}(h:l[i]?=some p):(l.drop i).take 1 = [p]:=by
 obtain⟨a,rfl⟩:=AK.mp h;rw[EK a];rfl
theorem Gg(a:IG IH)(i k:Nat):(a.extract i (i+k)).toList =(a.toList.drop i).take k:=by
 rw[EX,EL,Nat.add_sub_cancel_left]
theorem Be(a:IG IH)(i:Nat):(a.extract i a.size).toList=a.toList.drop i:=by
 rw[EX,EL,DT];rw[DJ,AU];exact VD _
theorem Az(a:IG IH)(i:Nat):(a.extract 0 i).toList=a.toList.take i:=by
 rw[EX,EL,EW,Nat.sub_zero]
def Rm(Z:KeyKind)(a b r:IG IH):Prop:=LL Z r.toList/\r.toList.Perm (a.toList++b.toList)
structure NS(Z:KeyKind)(a b:IG IH):Prop where
 sa:LL Z a.toList
 sb:LL Z b.toList
 ka:∀(i:Nat) p,a[i]?=some p->R_ Z p
 kb:∀(i:Nat) p,b[i]?=some p->R_ Z p
 na:1<=a.size
 nb:1<=b.size
 first:∀q,b[0]?=some q->∀z∈a.toList,le Z q z
 last:∀p,a[a.size-1]?=some p->∀z∈b.toList,le Z z p
section
variable{a b o:IG IH}{i j k:Nat}{p q:IH}
theorem NS.pushB(P:NS Z a b)(m:ML Z a.toList b.toList o.toList i j)(c:b[j]?=some q)(h:∀z∈a.toList.drop i,le Z q z):ML Z a.toList b.toList (o.push q).toList i (j+1):=by
 have d:=m.addB P.sb 1 (by rw[Tz (IS.mp c)];intro y e;rw[AE.mp e];exact h);rw[Tz (IS.mp c)]at d;rw[DF];exact d
theorem NS.pushA(P:NS Z a b)(m:ML Z a.toList b.toList o.toList i j)(c:a[i]?=some p)(h:∀z∈b.toList.drop j,le Z p z):ML Z a.toList b.toList (o.push p).toList (i+1) j:=by
 have d:=m.addA P.sa 1 (by rw[Tz (IS.mp c)];intro y e;rw[AE.mp e];exact h);rw[Tz (IS.mp c)]at d;rw[DF];exact d
theorem NS.extA(P:NS Z a b)(m:ML Z a.toList b.toList o.toList i j)(h:∀y∈(a.toList.drop i).take k,∀z∈b.toList.drop j,le Z y z):ML Z a.toList b.toList (o++a.extract i (i+k)).toList (i+k) j:=by
 rw[BT,Gg];exact m.addA P.sa k h
theorem NS.extB(P:NS Z a b)(m:ML Z a.toList b.toList o.toList i j)(h:∀y∈(b.toList.drop j).take k,∀z∈a.toList.drop i,le Z y z):ML Z a.toList b.toList (o++b.extract j (j+k)).toList i (j+k):=by
 rw[BT,Gg];exact m.addB P.sb k h
theorem NS.doneB(P:NS Z a b)(m:ML Z a.toList b.toList o.toList i j)(d:j=b.size):Rm Z a b (o++a.extract i a.size++b.extract j b.size):=by
 unfold Rm;rw[BT,BT,Be,Be];refine m.endA P.sa P.sb λy _ z c=>?_;rw[FB (by rw[AU];lia)]at c;exact absurd c (by simp)
theorem NS.doneA(P:NS Z a b)(m:ML Z a.toList b.toList o.toList i j)(hi:i=a.size):Rm Z a b (o++a.extract i a.size++b.extract j b.size):=by
 unfold Rm;rw[BT,BT,Be,Be];refine m.endA P.sa P.sb λy c z _=>?_;rw[FB (by rw[AU];lia)]at c;exact absurd c (by simp)
theorem NS.lastA(P:NS Z a b)(m:ML Z a.toList b.toList o.toList i j)(hi:i+1=a.size):Rm Z a b (o++b.extract j b.size++a.extract i a.size):=by
 unfold Rm;rw[BT,BT,Be,Be];refine m.endB P.sa P.sb λy d z f=>?_;obtain⟨t,g,c⟩:=Lk f;rw[AU]at g;have e:i+t=a.size-1:=by lia
 rw[e]at c;exact P.last z (IS.mpr c) y (EV d)
end
theorem Sm.knd{st a:IK}(h:Sm st a){k:KC}(b:kindOf st=k):kindOf a=k:=h.1.trans b
theorem Bc(C:RO prog w A s Z kd){st:IK}{left:Bool}{d:IH}{b:IG IH}{bs n e:Nat}{Q:A5 Nat->IK->Prop}(D:kindOf st=kd)(f:R_ Z d)
  (hsz:bs+n<=b.size) (F:∀(i:Nat) p,b[i]?=some p->R_ Z p) (G:∀(u v:Nat) p q,u<=v->v<n->b[bs+u]?=some p->b[bs+v]?=some q->le Z p q) (g:e<n)
  (h:∀k,k<=n->(∀(t:Nat) p,t<k->b[bs+t]?=some p->PB Z left d p=true)->(∀(t:Nat) p,k<=t->t<n->b[bs+t]?=some p->PB Z left d p=false)->Q (some k) st) :
  wpS (model prog w) A E s (Y3 left d b bs n e) Q st:=by
 have c:∀t,t<n->∃p,b[bs+t]?=some p:=λt e=>w9 (by lia);refine Px C D f (λt=>match b[bs+t]? with | some p=>PB Z left d p | none=>false) (λi H=>?_) (λi j m y a=>?_) g λk o I J=>?_
 .obtain⟨p,a⟩:=c i H;exact⟨p,a,F _ p a,by rw[a]⟩
 .obtain⟨p,z⟩:=c i (by lia);obtain⟨q,B⟩:=c j y;rw[B]at a;rw[z];have l:=G i j p q m y z B;dsimp only at a⊢;unfold PB at a⊢;cases left with
  | true =>
   simp only[GL]at a⊢;exact KeyOrd.klt_of_kle_of_klt l a
  | false =>
   simp only[BD,CQ,Bool.not_eq_true']at a⊢;exact KeyOrd.kle_trans l a
 .refine h k o (λt p e a=>?_) λt p r x a=>?_
  .have:=I t e;rw[a]at this;exact this
  .have:=J t r x;rw[a]at this;exact this
theorem Gv{a p:IH}(h:PB Z false a p=true):le Z p a:=by
 unfold PB at h;show Z.blt (kk Z a) (kk Z p)=false;simpa using h
theorem Cy{a p:IH}(h:PB Z false a p=false):Z.klt (kk Z a) (kk Z p):=by
 unfold PB at h;show Z.blt (kk Z a) (kk Z p)=true;simpa using h
theorem Ku{a p:IH}(h:PB Z true a p=true):Z.klt (kk Z p) (kk Z a):=by
 unfold PB at h;show Z.blt (kk Z p) (kk Z a)=true;simpa using h
theorem Ge{a p:IH}(h:PB Z true a p=false):le Z a p:=by
 unfold PB at h;show Z.blt (kk Z p) (kk Z a)=false;simpa using h
section
variable{α:Type}{Q:α->IK->Prop}{st:IK}
theorem X6{c:Prop}{_:Decidable c}{t e:StateT IK Sem α}(h1:c->wpS (model prog w) A E s t Q st)(h2:¬c->wpS (model prog w) A E s e Q st):wpS (model prog w) A E s (if c then t else e) Q st:=by
 split
 .rename_i h;exact h1 h
 .rename_i h;exact h2 h
theorem T6{x y:Nat}{t e:StateT IK Sem α}(h1:x=y->wpS (model prog w) A E s t Q st)(h2:x≠y->wpS (model prog w) A E s e Q st):wpS (model prog w) A E s (if(x == y)=true then t else e) Q st :=
 X6 (λh=>h1 (eq_of_beq h)) λh=>h2 λz=>h (beq_iff_eq.mpr z)
theorem Qh{c:Prop}{_:Decidable c}{t:StateT IK Sem α}{F:Nat->StateT IK Sem α}(x:Nat){y:Nat}(h:∀g,wpS (model prog w) A E s (F g) Q st)(e:t=F x):wpS (model prog w) A E s (if c then t else F y) Q st:=by
 subst e;exact X6 (λ_=>h _) λ_=>h _
theorem Fy{c:Prop}{_:Decidable c}{t:StateT IK Sem α}{F:IG IH->Nat->StateT IK Sem α}{o:IG IH}{i:Nat}(R:IG IH->Nat->Prop)(h:∀o i,R o i->wpS (model prog w) A E s (F o i) Q st)
  (a:(∀o i,R o i->wpS (model prog w) A E s (F o i) Q st)->c->wpS (model prog w) A E s t Q st) (b:¬c->R o i):wpS (model prog w) A E s (if c then t else F o i) Q st:=X6 (a h) λz=>h _ _ (b z)
end
theorem Rl{α β:Type}{h:Sem Unit}{i:StateT IK Sem IH}{x0:IH}{b e:Prop}{_:Decidable b}{_:Decidable e}{j k:IH->StateT IK Sem α}{d:IH->IK->β}{n:Nat}{f:Nat->β->StateT IK Sem (ForInStep β)}{g:β->StateT IK Sem α}{Q:α->IK->Prop}{st:IK}
  (m:∀R:Unit->IK->Prop,R () st->wpS (model prog w) A E s (liftM h:StateT IK Sem Unit) R st) (o:∀R:IH->IK->Prop,R x0 st->wpS (model prog w) A E s i R st) (h1:b->wpS (model prog w) A E s (j x0) Q st) (h2:¬b->e->wpS (model prog w) A E s (k x0) Q st)
  (p:¬b->¬e->wpS (model prog w) A E s (forIn [0:n] (d x0 st) f) (λc a=>wpS (model prog w) A E s (g c) Q a) st) :
  wpS (model prog w) A E s ((liftM h:StateT IK Sem Unit) >>= λ_=>i >>= λx=>if b then j x else if e then k x else get >>= λa=>forIn [0:n] (d x a) f >>= g) Q st :=
 wpS_bind (m _ (wpS_bind (o _ (X6 h1 λl=>X6 (h2 l) λq=>wpS_bind (wpS_get (wpS_bind (p l q)))))))
def MR(Z:KeyKind)(a b:IG IH)(st:IK){β:Type}(c:A5 (IG IH)×β)(d:IK):Prop:=Sm st d/\∃r,c.1=some r/\Rm Z a b r
theorem MR.mk{a b r:IG IH}{st d:IK}{β:Type}{c:β}(e:Sm st d)(h:Rm Z a b r):MR Z a b st (some r,c) d:=⟨e,r,rfl,h⟩
structure QQ(Z:KeyKind)(a b:IG IH)(n:Nat)(o:IG IH)(i j:Nat):Prop where
 m:ML Z a.toList b.toList o.toList i j
 hi:i+1<a.size
 hj:j<b.size
 hn:n<=i+j
theorem QQ.putB{a b o c:IG IH}{n i j:Nat}(h:QQ Z a b n o i j)(m:ML Z a.toList b.toList c.toList i (j+1))(e:j+1≠b.size):QQ Z a b (n+1) c i (j+1):=⟨m,h.hi,FU h.hj e,FE h.hn⟩
theorem QQ.putA{a b o c:IG IH}{n i j:Nat}(h:QQ Z a b n o i j)(m:ML Z a.toList b.toList c.toList (i+1) j)(e:i+1+1≠a.size):QQ Z a b (n+1) c (i+1) j:=⟨m,FU h.hi e,h.hj,by rw[Nat.add_right_comm];exact FE h.hn⟩
theorem QQ.mono{a b o:IG IH}{n c i j:Nat}(h:QQ Z a b n o i j)(l:c<=n):QQ Z a b c o i j:=⟨h.m,h.hi,h.hj,VE l h.hn⟩
def zJx(Z:KeyKind)(a b:IG IH)(st:IK)(n:Nat)(c:A5 (IG IH)×IG IH×Nat×Nat×Nat)(d:IK):Prop:=Sm st d/\∃o i j e,c =(none,o,i,j,e)/\QQ Z a b n o i j
def QF(Z:KeyKind)(a b:IG IH)(st:IK)(n:Nat)(c:A5 (IG IH)×IG IH×Nat×Nat×Nat×Nat)(d:IK):Prop:=Sm st d/\∃o i j e f,c =(none,o,i,j,e,f)/\QQ Z a b n o i j
def QR(Z:KeyKind)(a b:IG IH)(st:IK)(n:Nat)(c:A5 (IG IH)×IG IH×Nat×Nat×Nat×Nat×Nat)(d:IK):Prop:=Sm st d/\∃o i j e f g,c =(none,o,i,j,e,f,g)/\QQ Z a b n o i j
theorem QF.mk{a b o:IG IH}{st c:IK}{n i j d e:Nat}(f:Sm st c)(h:QQ Z a b n o i j):QF Z a b st n (none,o,i,j,d,e) c:=⟨f,_,_,_,_,_,rfl,h⟩
theorem QR.mk{a b o:IG IH}{st c:IK}{n i j d e f:Nat}(g:Sm st c)(h:QQ Z a b n o i j):QR Z a b st n (none,o,i,j,d,e,f) c:=⟨g,_,_,_,_,_,_,rfl,h⟩
theorem Ks(C:RO prog w A s Z kd){st:IK}{a b:IG IH}{Q:IG IH->IK->Prop}(hk:kindOf st=kd)(P:NS Z a b)
  (h:∀r d,Sm st d->Rm Z a b r->Q r d):wpS (model prog w) A E s (Ga a b) Q st:=by
 rw[Lv];obtain⟨b0,O⟩:=w9 (a:=b) (i:=0) P.nb;have m0:ML Z a.toList b.toList (#[]:IG IH).toList 0 0:=⟨by simp,List.Pairwise.nil,λx hx=>absurd hx (by simp),λx hx=>absurd hx (by simp)⟩;have m1:ML Z a.toList b.toList (#[b0]:IG IH).toList 0 1:=by
  have:=P.pushB m0 O (by rw[EW];exact P.first b0 O);simpa using this
 apply Rl (x0:=b0) (λR z=>wpS_lift (DN ⟨rfl,z⟩)) (λR z=>I0 O z)
 case h1=>exact λS=>wpS_pure (h _ _ (Sm.refl _) (P.doneB m1 (eq_of_beq S)))
 case h2=>exact λ_ T=>wpS_pure (h _ _ (Sm.refl _) (P.lastA m1 (eq_of_beq T)))
 intro S T;have p1:QQ Z a b 1 #[b0] 0 1:=⟨m1,FU P.na λz=>T (beq_iff_eq.mpr z),FU P.nb λz=>S (beq_iff_eq.mpr z),VD _⟩;refine wpS_mono (wpS_forRange (I:=λx=>zJx Z a b st (x+1)) (Q:=MR Z a b st) ?st ?en ⟨Sm.refl _,_,_,_,_,rfl,p1⟩) ?po
 case po =>
  rintro⟨c1,c2⟩ d ⟨sm,r,e,hr⟩;cases e;exact wpS_pure (h r d sm hr)
 case en =>
  rintro c d ⟨sm,o,i,j,mg,rfl,p⟩;obtain⟨_,h1,h2,h3⟩:=p;exfalso;lia
 case st =>
  rintro x c d _ hx ⟨sm,o,i,j,mg,rfl,p⟩;refine wpS_bind (wpS_mono (wpS_forRange (I:=λ_=>QF Z a b st (x+1)) (Q:=λc d=>MR Z a b st c d\/QF Z a b st (x+1) c d) ?st1 ?en1 (QF.mk sm p)) ?po1)
  case en1=>exact λc st2 z=>.inr z
  case st1 =>
   rintro x2 c st2 _ _ ⟨f,o,i',j',ac,bc,rfl,N⟩;obtain⟨bj,l⟩:=w9 (a:=b) (i:=j') N.hj;obtain⟨ai,n⟩:=w9 (a:=a) (i:=i') (GM N.hi);refine wpS_bind (I0 l (wpS_bind (I0 n (wpS_bind (Hk C (f.knd hk) (P.kb _ _ l) (P.ka _ _ n) ?_)))));refine X6 (λU=>wpS_bind (I0 l ?_)) λU=>wpS_bind (I0 n ?_)
   .have m3:=P.pushB N.m l λz H=>JI (KeyOrd.kle_of_klt U) (Fv P.sa (IS.mp n) z H);refine T6 (λG=>wpS_pure (.inl (MR.mk f (P.doneB m3 G)))) λG=>?_;have D:=(N.putB m3 G).mono (DC _);exact X6 (λ_=>wpS_pure (.inr (QF.mk f D))) λ_=>wpS_pure (QF.mk f D)
   .have m3:=P.pushA N.m n λz H=>JI (show le Z ai bj from ED.mpr U) (Fv P.sb (IS.mp l) z H);refine T6 (λG=>wpS_pure (.inl (MR.mk f (P.lastA m3 G)))) λG=>?_;have D:=(N.putA m3 G).mono (DC _);exact X6 (λ_=>wpS_pure (.inr (QF.mk f D))) λ_=>wpS_pure (QF.mk f D)
  case po1 =>
   rintro⟨c1,c2⟩ st2 (⟨f,r,e,hr⟩ | ⟨f,o2,i2,j2,ac,bc,e,N⟩)
   .cases e;exact wpS_pure (MR.mk f hr)
   .cases e;refine wpS_bind (wpS_lift (DN ⟨rfl,?_⟩));refine wpS_bind (wpS_mono (wpS_forRange (I:=λx3=>QR Z a b st (x+1+x3)) (Q:=λc d=>MR Z a b st c d\/QR Z a b st (x+1+1) c d) ?st2 ?en2 (QR.mk f N)) ?po2)
    case en2 =>
     rintro c st3 ⟨F,o',i',j',mg',ac,bc,rfl,D⟩;refine .inr (QR.mk F (D.mono ?_));have:=P.na;lia
    case po2 =>
     rintro⟨c1,c2⟩ st3 (⟨F,r,e,hr⟩ | ⟨F,o',i',j',mg',ac,bc,e,D⟩)
     .cases e;exact wpS_pure (MR.mk F hr)
     .cases e;refine wpS_bind (n9 F λst4 B=>?_);exact wpS_pure ⟨B,_,_,_,_,rfl,D⟩
    case st2 =>
     rintro x3 c st3 _ _ ⟨F,o3,V,j3,mg3,ac3,bc3,rfl,D⟩;obtain⟨bj,l⟩:=w9 (a:=b) (i:=j3) D.hj;have hi3:V +(a.size-V)<=a.size:=by rw[Nat.add_sub_cancel' (DQ (GM D.hi))];exact VD _
     have hj3:=D.hj;apply Qh (mg3-1) (y:=mg3)
     case e=>exact rfl
     intro g;refine wpS_bind (n9 F λst4 B=>?_);refine wpS_bind (I0 l (wpS_bind (Bc C (B.knd hk) (P.kb _ _ l) hi3 P.ka (λu v p q W _ G Y=>Bj P.sa (EI W _) (IS.mp G) (IS.mp Y)) (HQ (GM D.hi)) λk hk1 k1 k2=>?_)));have m4:ML Z a.toList b.toList (o3++a.extract V (V+k)).toList (V+k) j3:=P.extA D.m λy hy z H=>by
      obtain⟨t,X,e⟩:=Fr hy;exact JI (Gv (k1 t y X (IS.mpr e))) (Fv P.sb (IS.mp l) z H)
     have K:∀z∈a.toList.drop (V+k),le Z bj z:=λz H=>by
      obtain⟨t,X,e⟩:=Lk H;rw[AU]at X;exact KeyOrd.kle_of_klt (Cy (k2 (k+t) z (EQ _ _) (by lia) (by rw[<-Nat.add_assoc];exact IS.mpr e)))
     apply Fy (o:=o3) (i:=V) (λo i=>QQ Z a b (x+1+x3) o i j3/\∀z∈a.toList.drop i,le Z bj z)
     .rintro o4 i4 ⟨p4,K⟩;refine wpS_bind (I0 l ?_);have m5:=P.pushB p4.m l K;refine T6 (λe3=>wpS_pure (.inl (MR.mk B (P.doneB m5 e3)))) λe3=>?_;have L:=p4.putB m5 e3;generalize o4.push bj=o5 at m5 L⊢;generalize j3+1=j5 at m5 L⊢;obtain⟨ai,n⟩:=w9 (a:=a) (i:=i4) (GM L.hi);refine wpS_bind (I0 n (wpS_bind (Bc C (B.knd hk) (P.ka _ _ n) (by rw[Nat.add_sub_cancel' (DQ L.hj)];exact VD _) P.kb (λu v p q W _ G Y=>Bj P.sb (EI W _) (IS.mp G) (IS.mp Y)) (HQ L.hj) λk' hk1' k1' k2'=>?_)));have M:∀z∈b.toList.drop (j5+k'),le Z ai z:=λz H=>by
       obtain⟨t,X,e⟩:=Lk H;rw[AU]at X;exact Ge (k2' (k'+t) z (EQ _ _) (by lia) (by rw[<-Nat.add_assoc];exact IS.mpr e))
      apply Fy (o:=o5) (i:=j5) (λo j=>QQ Z a b (x+1+x3+1) o i4 j/\∀z∈b.toList.drop j,le Z ai z)
      .rintro o6 j6 ⟨p6,M⟩;refine wpS_bind (I0 n ?_);have m7:=P.pushA p6.m n M;refine T6 (λe5=>wpS_pure (.inl (MR.mk B (P.lastA m7 e5)))) λe5=>?_;have p7:=p6.putA m7 e5;exact X6 (λ_=>wpS_pure (.inr (QR.mk B (p7.mono (by lia))))) λ_=>wpS_pure (QR.mk B (p7.mono (by lia)))
      .intro hF J;have m6:ML Z a.toList b.toList (o5++b.extract j5 (j5+k')).toList i4 (j5+k'):=P.extB m5 λy hy z H=>by
        obtain⟨t,X,e⟩:=Fr hy;exact JI (KeyOrd.kle_of_klt (Ku (k1' t y X (IS.mpr e)))) (Fv P.sa (IS.mp n) z H)
       have hj5:=L.hj;exact T6 (λe4=>wpS_pure (.inl (MR.mk B (P.doneB m6 e4)))) λe4=>hF _ _ ⟨⟨m6,L.hi,by lia,VE L.hn (by lia)⟩,M⟩
      .intro J;have z0:k'=0:=FV J;subst z0;exact⟨L,M⟩
     .intro hF J;have hi:=D.hi;exact T6 (λG=>wpS_pure (.inl (MR.mk B (P.lastA m4 G)))) λG=>T6 (λY=>wpS_pure (.inl (MR.mk B (P.doneA m4 Y)))) λY=>hF _ _ ⟨⟨m4,by lia,D.hj,VE D.hn (by lia)⟩,K⟩
     .intro J;have z0:k=0:=FV J;subst z0;exact⟨D,K⟩
def Fw:IG IH->IG IH->StateT IK Sem (IG IH):=sortPriv% PySem.Builtin.mergeHi
theorem Kk(a b:IG IH):Fw a b =(do
  rule "list.sort.merge-hi"
  let f:=a.size+b.size
  let e (o:IG IH) (i j:Nat):=a.extract 0 i++b.extract 0 j++o.reverse
  let l (o:IG IH) (i j:Nat):=b.extract 0 j++a.extract 0 i++o.reverse
  let mut i:=a.size-1
  let mut j:=b.size
  let mut o:IG IH:=#[<-elem' a i]
  if i == 0 then return e o i j
  if j == 1 then return l o i j
  let mut d:=gallopOf (<-get)
  for _ in [0:f] do
   let mut g:=0
   let mut h:=0
   for _ in [0:f] do
    let some m <-lt' (<-elem' b (j-1)) (<-elem' a (i-1)) | return e o i j
    if m then
     i:=i-1;o:=o.push (<-elem' a i);g:=g+1;h:=0
     if i == 0 then return e o i j
     if g ≥ d then break
    else
     j:=j-1;o:=o.push (<-elem' b j);h:=h+1;g:=0
     if j == 1 then return l o i j
     if h ≥ d then break
   rule "list.sort.gallop"
   d:=d+1
   for _ in [0:f] do
    if d>1 then d:=d-1
    Ds d
    let some c <-Y3 false (<-elem' b (j-1)) a 0 i (i-1) | return e o i j
    let k:=i-c
    g:=k
    if k>0 then
     o:=o ++(a.extract c i).reverse;i:=c
     if i == 0 then return e o i j
    j:=j-1;o:=o.push (<-elem' b j)
    if j == 1 then return l o i j
    let some c <-Y3 true (<-elem' a (i-1)) b 0 j (j-1) | return e o i j
    let k:=j-c
    h:=k
    if k>0 then
     o:=o ++(b.extract c j).reverse;j:=c
     if j == 1 then return l o i j
     if j == 0 then return e o i j
    i:=i-1;o:=o.push (<-elem' a i)
    if i == 0 then return e o i j
    if g<7&&h<7 then break
   d:=d+1
   Ds d
  unsupported "internal:list.sort.merge-bound"):=rfl
abbrev PK(Z:KeyKind)(a b o:IG IH)(i j:Nat):Prop:=MH Z a.toList b.toList o.toList.reverse i j
section
variable{a b o:IG IH}{i j k:Nat}{p q:IH}
theorem td1{l:A0 IH}{i:Nat}{p:IH}(hi:1<=i)(h:l[i-1]?=some p):(l.take i).drop (i-1) = [p]:=by
 rw[GO,show i-(i-1)=1 by lia];exact Tz h
theorem Kq(a:IG IH)(k i:Nat):(a.extract k i).toList =(a.toList.take i).drop k:=by
 rw[EX,EL,GO]
theorem Gs{l:A0 IH}(h:LL Z l){i:Nat}{p:IH}(a:l[i-1]?=some p):∀z∈l.take i,le Z z p:=λz b=>by
 obtain⟨t,c,_,e⟩:=Pn b;exact Bj h (by lia) e a
theorem NS.hpA(P:NS Z a b)(m:PK Z a b o i j)(hi:1<=i)(c:a[i-1]?=some p)(h:∀z∈b.toList.take j,le Z z p):PK Z a b (o.push p) (i-1) j:=by
 have d:=m.addA P.sa (i-1) (by lia) (by rw[td1 hi (IS.mp c)];intro y e;rw[AE.mp e];exact h);rw[td1 hi (IS.mp c)]at d;unfold PK;rw[DF,GZ];exact d
theorem NS.hpB(P:NS Z a b)(m:PK Z a b o i j)(c:1<=j)(d:b[j-1]?=some q)(h:∀z∈a.toList.take i,le Z z q):PK Z a b (o.push q) i (j-1):=by
 have e:=m.addB P.sb (j-1) (by lia) (by rw[td1 c (IS.mp d)];intro y f;rw[AE.mp f];exact h);rw[td1 c (IS.mp d)]at e;unfold PK;rw[DF,GZ];exact e
theorem NS.heA(P:NS Z a b)(m:PK Z a b o i j)(c:k<=i)(h:∀y∈(a.toList.take i).drop k,∀z∈b.toList.take j,le Z z y):PK Z a b (o ++(a.extract k i).reverse) k j:=by
 unfold PK;rw[BT,FM,GZ,List.reverse_reverse,Kq];exact m.addA P.sa k c h
theorem NS.heB(P:NS Z a b)(m:PK Z a b o i j)(c:k<=j)(h:∀y∈(b.toList.take j).drop k,∀z∈a.toList.take i,le Z z y):PK Z a b (o ++(b.extract k j).reverse) i k:=by
 unfold PK;rw[BT,FM,GZ,List.reverse_reverse,Kq];exact m.addB P.sb k c h
theorem NS.hdA(P:NS Z a b)(m:PK Z a b o i j)(hi:i=0):Rm Z a b (a.extract 0 i++b.extract 0 j++o.reverse):=by
 unfold Rm;rw[BT,BT,FM,Az,Az];refine m.endA P.sa P.sb λy c z _=>?_;rw[hi,List.take_zero]at c;exact absurd c (by simp)
theorem NS.hdB(P:NS Z a b)(m:PK Z a b o i j)(d:j=0):Rm Z a b (a.extract 0 i++b.extract 0 j++o.reverse):=by
 unfold Rm;rw[BT,BT,FM,Az,Az];refine m.endA P.sa P.sb λy _ z c=>?_;rw[d,List.take_zero]at c;exact absurd c (by simp)
theorem NS.hfB(P:NS Z a b)(m:PK Z a b o i j)(g:j=1):Rm Z a b (b.extract 0 j++a.extract 0 i++o.reverse):=by
 unfold Rm;rw[BT,BT,FM,Az,Az];refine m.endB P.sa P.sb λy c z d=>?_;obtain⟨t,h,_,e⟩:=Pn c;have f:t=0:=by lia
 rw[f]at e;exact P.first y (IS.mpr e) z (DG d)
end
structure PH(Z:KeyKind)(a b:IG IH)(n:Nat)(o:IG IH)(i j:Nat):Prop where
 m:PK Z a b o i j
 hi:1<=i
 hj:2<=j
 ia:i<=a.size
 jb:j<=b.size
 hn:n+i+j<=a.size+b.size
theorem PH.putA{a b o c:IG IH}{n i j:Nat}(h:PH Z a b n o i j)(m:PK Z a b c (i-1) j)(e:i-1≠0):PH Z a b (n+1) c (i-1) j:=by
 obtain⟨_,g,d,k,f,l⟩:=h;exact⟨m,by lia,d,by lia,f,by lia⟩
theorem PH.putB{a b o c:IG IH}{n i j:Nat}(h:PH Z a b n o i j)(m:PK Z a b c i (j-1))(e:j-1≠1):PH Z a b (n+1) c i (j-1):=by
 obtain⟨_,d,g,f,k,l⟩:=h;exact⟨m,d,by lia,f,by lia,by lia⟩
theorem PH.mono{a b o:IG IH}{n c i j:Nat}(h:PH Z a b n o i j)(l:c<=n):PH Z a b c o i j:=⟨h.m,h.hi,h.hj,h.ia,h.jb,VE (Nat.add_le_add_right (Nat.add_le_add_right l _) _) h.hn⟩
theorem PH.la{a b o:IG IH}{n i j:Nat}(h:PH Z a b n o i j):i-1<a.size:=BI (Nat.sub_lt h.hi (HK)) h.ia
theorem PH.lb{a b o:IG IH}{n i j:Nat}(h:PH Z a b n o i j):j-1<b.size:=BI (Nat.sub_lt (GM h.hj) (HK)) h.jb
theorem PH.hj1{a b o:IG IH}{n i j:Nat}(h:PH Z a b n o i j):1<=j:=Nat.le_of_succ_le h.hj
def zJe(Z:KeyKind)(a b:IG IH)(st:IK)(n:Nat)(c:A5 (IG IH)×Nat×Nat×IG IH×Nat)(d:IK):Prop:=Sm st d/\∃i j o e,c =(none,i,j,o,e)/\PH Z a b n o i j
def QG(Z:KeyKind)(a b:IG IH)(st:IK)(n:Nat)(c:A5 (IG IH)×Nat×Nat×IG IH×Nat×Nat)(d:IK):Prop:=Sm st d/\∃i j o e f,c =(none,i,j,o,e,f)/\PH Z a b n o i j
def QT(Z:KeyKind)(a b:IG IH)(st:IK)(n:Nat)(c:A5 (IG IH)×Nat×Nat×IG IH×Nat×Nat×Nat)(d:IK):Prop:=Sm st d/\∃i j o e f g,c =(none,i,j,o,e,f,g)/\PH Z a b n o i j
theorem QG.mk{a b o:IG IH}{st c:IK}{n i j d e:Nat}(f:Sm st c)(h:PH Z a b n o i j):QG Z a b st n (none,i,j,o,d,e) c:=⟨f,_,_,_,_,_,rfl,h⟩
theorem QT.mk{a b o:IG IH}{st c:IK}{n i j d e f:Nat}(g:Sm st c)(h:PH Z a b n o i j):QT Z a b st n (none,i,j,o,d,e,f) c:=⟨g,_,_,_,_,_,_,rfl,h⟩
theorem Kl(C:RO prog w A s Z kd){st:IK}{a b:IG IH}{Q:IG IH->IK->Prop}(hk:kindOf st=kd)(P:NS Z a b)
  (h:∀r f,Sm st f->Rm Z a b r->Q r f):wpS (model prog w) A E s (Fw a b) Q st:=by
 rw[Kk];have hna:=P.na;have hnb:=P.nb;obtain⟨b0,U⟩:=w9 (a:=a) (i:=a.size-1) (Nat.sub_lt hna HK);have m0:PK Z a b (#[]:IG IH) a.size b.size:=⟨by simp,List.Pairwise.nil,λx hx=>absurd hx (by simp),λx hx=>absurd hx (by simp)⟩;have m1:PK Z a b (#[b0]:IG IH) (a.size-1) b.size:=by
  have:=P.hpA m0 hna U (λz J=>P.last b0 U z (DG J));simpa using this
 apply Rl (x0:=b0) (λR z=>wpS_lift (DN ⟨rfl,z⟩)) (λR z=>I0 U z)
 case h1=>exact λN=>wpS_pure (h _ _ (Sm.refl _) (P.hdA m1 (eq_of_beq N)))
 case h2=>exact λ_ O=>wpS_pure (h _ _ (Sm.refl _) (P.hfB m1 (eq_of_beq O)))
 intro N O;have N:¬a.size-1=0:=λz=>N (beq_iff_eq.mpr z);have O:¬b.size=1:=λz=>O (beq_iff_eq.mpr z);have p1:PH Z a b 1 #[b0] (a.size-1) b.size:=⟨m1,by lia,by lia,by lia,by lia,by lia⟩;refine wpS_mono (wpS_forRange (I:=λx=>zJe Z a b st (x+1)) (Q:=MR Z a b st) ?st ?en ⟨Sm.refl _,_,_,_,_,rfl,p1⟩) ?po
 case po =>
  rintro⟨c1,c2⟩ f ⟨sm,r,e,hr⟩;cases e;exact wpS_pure (h r f sm hr)
 case en =>
  rintro c f ⟨sm,i,j,o,mg,rfl,p⟩;obtain⟨_,h1,h2,_,_,h3⟩:=p;exfalso;lia
 case st =>
  rintro x c f _ hx ⟨sm,i,j,o,mg,rfl,p⟩;refine wpS_bind (wpS_mono (wpS_forRange (I:=λ_=>QG Z a b st (x+1)) (Q:=λc f=>MR Z a b st c f\/QG Z a b st (x+1) c f) ?st1 ?en1 (QG.mk sm p)) ?po1)
  case en1=>exact λc st2 z=>.inr z
  case st1 =>
   rintro x2 c st2 _ _ ⟨l,i',j',o,ac,bc,rfl,M⟩;obtain⟨bj,n⟩:=w9 (a:=b) (i:=j' - 1) M.lb;obtain⟨ai,B⟩:=w9 (a:=a) (i:=i' - 1) M.la;refine wpS_bind (I0 n (wpS_bind (I0 B (wpS_bind (Hk C (l.knd hk) (P.kb _ _ n) (P.ka _ _ B) ?_)))));refine X6 (λV=>wpS_bind (I0 B ?_)) λV=>wpS_bind (I0 n ?_)
   .have m3:=P.hpA M.m M.hi B λz J=>JI (Gs P.sb (IS.mp n) z J) (KeyOrd.kle_of_klt V);refine T6 (λH=>wpS_pure (.inl (MR.mk l (P.hdA m3 H)))) λH=>?_;have F:=(M.putA m3 H).mono (DC _);exact X6 (λ_=>wpS_pure (.inr (QG.mk l F))) λ_=>wpS_pure (QG.mk l F)
   .have m3:=P.hpB M.m M.hj1 n λz J=>JI (Gs P.sa (IS.mp B) z J) (show le Z ai bj from ED.mpr V);refine T6 (λH=>wpS_pure (.inl (MR.mk l (P.hfB m3 H)))) λH=>?_;have F:=(M.putB m3 H).mono (DC _);exact X6 (λ_=>wpS_pure (.inr (QG.mk l F))) λ_=>wpS_pure (QG.mk l F)
  case po1 =>
   rintro⟨c1,c2⟩ st2 (⟨l,r,e,hr⟩ | ⟨l,i2,j2,o2,ac,bc,e,M⟩)
   .cases e;exact wpS_pure (MR.mk l hr)
   .cases e;refine wpS_bind (wpS_lift (DN ⟨rfl,?_⟩));refine wpS_bind (wpS_mono (wpS_forRange (I:=λx3=>QT Z a b st (x+1+x3)) (Q:=λc f=>MR Z a b st c f\/QT Z a b st (x+1+1) c f) ?st2 ?en2 (QT.mk l M)) ?po2)
    case en2 =>
     rintro c st3 ⟨G,i',j',o',mg',ac,bc,rfl,F⟩;exact .inr (QT.mk G (F.mono (by lia)))
    case po2 =>
     rintro⟨c1,c2⟩ st3 (⟨G,r,e,hr⟩ | ⟨G,i',j',o',mg',ac,bc,e,F⟩)
     .cases e;exact wpS_pure (MR.mk G hr)
     .cases e;refine wpS_bind (n9 G λst4 D=>?_);exact wpS_pure ⟨D,_,_,_,_,rfl,F⟩
    case st2 =>
     rintro x3 c st3 _ _ ⟨G,i3,j3,o3,mg3,ac3,bc3,rfl,F⟩;obtain⟨bj,n⟩:=w9 (a:=b) (i:=j3-1) F.lb;apply Qh (mg3-1) (y:=mg3)
     case e=>exact rfl
     intro g;refine wpS_bind (n9 G λst4 D=>?_);refine wpS_bind (I0 n (wpS_bind (Bc C (D.knd hk) (P.kb _ _ n) (by rw[ES];exact F.ia) P.ka (λu v p q W _ H e2=>Bj P.sa (EI W _) (IS.mp H) (IS.mp e2)) (Nat.sub_lt F.hi HK) λk X k1 k2=>?_)));dsimp only;have m4:PK Z a b (o3 ++(a.extract k i3).reverse) k j3:=P.heA F.m X λy hy z J=>by
      obtain⟨t,Y,ht2,e⟩:=Yu hy;exact JI (Gs P.sb (IS.mp n) z J) (KeyOrd.kle_of_klt (Cy (k2 t y Y ht2 (by rw[ES];exact IS.mpr e))))
     have S:∀z∈a.toList.take k,le Z z bj:=λz J=>by
      obtain⟨t,ht,_,e⟩:=Pn J;exact Gv (k1 t z ht (by rw[ES];exact IS.mpr e))
     generalize hd:i3-k=d;apply Fy (o:=o3) (i:=i3) (λo i=>PH Z a b (x+1+x3) o i j3/\∀z∈a.toList.take i,le Z z bj)
     .rintro o4 i4 ⟨p4,S⟩;refine wpS_bind (I0 n ?_);have m5:=P.hpB p4.m p4.hj1 n S;refine T6 (λe3=>wpS_pure (.inl (MR.mk D (P.hfB m5 e3)))) λe3=>?_;have p5:=p4.putB m5 e3;generalize o4.push bj=o5 at m5 p5⊢;generalize j3-1=j5 at m5 p5⊢;obtain⟨ai,B⟩:=w9 (a:=a) (i:=i4-1) p5.la;refine wpS_bind (I0 B (wpS_bind (Bc C (D.knd hk) (P.ka _ _ B) (by rw[ES];exact p5.jb) P.kb (λu v p q W _ H e2=>Bj P.sb (EI W _) (IS.mp H) (IS.mp e2)) (Nat.sub_lt p5.hj1 HK) λk' K k1' k2'=>?_)));dsimp only;have T:∀z∈b.toList.take k',le Z z ai:=λz J=>by
       obtain⟨t,ht,_,e⟩:=Pn J;exact KeyOrd.kle_of_klt (Ku (k1' t z ht (by rw[ES];exact IS.mpr e)))
      generalize hd':j5-k'=d';apply Fy (o:=o5) (i:=j5) (λo j=>PH Z a b (x+1+x3+1) o i4 j/\∀z∈b.toList.take j,le Z z ai)
      .rintro o6 j6 ⟨p6,T⟩;refine wpS_bind (I0 B ?_);have m7:=P.hpA p6.m p6.hi B T;refine T6 (λe5=>wpS_pure (.inl (MR.mk D (P.hdA m7 e5)))) λe5=>?_;have p7:=p6.putA m7 e5;exact X6 (λ_=>wpS_pure (.inr (QT.mk D (p7.mono (by lia))))) λ_=>wpS_pure (QT.mk D (p7.mono (by lia)))
      .intro hF L;have m6:PK Z a b (o5 ++(b.extract k' j5).reverse) i4 k':=P.heB m5 K λy hy z J=>by
        obtain⟨t,Y,ht2,e⟩:=Yu hy;exact JI (Gs P.sa (IS.mp B) z J) (Ge (k2' t y Y ht2 (by rw[ES];exact IS.mpr e)))
       obtain⟨_,h1,h2,h3,h4,h5⟩:=p5;exact T6 (λe4=>wpS_pure (.inl (MR.mk D (P.hfB m6 e4)))) λe4=>T6 (λe5=>wpS_pure (.inl (MR.mk D (P.hdB m6 e5)))) λe5=>hF _ _ ⟨⟨m6,h1,by lia,h3,VE K h4,by lia⟩,T⟩
      .intro L;have z0:k'=j5:=Nat.le_antisymm K (Nat.le_of_sub_eq_zero (hd'.trans (FV L)));subst z0;exact⟨p5,T⟩
     .intro hF L;obtain⟨_,h1,h2,h3,h4,h5⟩:=F;exact T6 (λH=>wpS_pure (.inl (MR.mk D (P.hdA m4 H)))) λH=>hF _ _ ⟨⟨m4,by lia,h2,VE X h3,h4,by lia⟩,S⟩
     .intro L;have z0:k=i3:=Nat.le_antisymm X (Nat.le_of_sub_eq_zero (hd.trans (FV L)));subst z0;exact⟨F,S⟩
def JX(l:A0 IH)(lo n:Nat):A0 IH:=(l.drop lo).take n
theorem Tj(m:A0 IH)(lo:Nat):∀(n:Nat) (a:IG IH),lo+n+m.length<=a.size ->
  ((m.zipIdx n).foldl (λa (x:IH×Nat)=>a.setIfInBounds (lo+x.2) x.1) a).size=a.size /\
  ∀t:Nat,((m.zipIdx n).foldl (λa (x:IH×Nat)=>a.setIfInBounds (lo+x.2) x.1) a)[t]?=if lo+n<=t/\t<lo+n+m.length then m[t-(lo+n)]? else a[t]?:=by
 induction m with
 | nil =>
  intro n a h;refine⟨rfl,λt=>?_⟩;rw[AI (by simp only[List.length_nil];lia)];rfl
 | cons p m d =>
  intro n a h;rw[BQ]at h;rw[List.zipIdx_cons,HL];obtain⟨e,f⟩:=d (n+1) (a.setIfInBounds (lo+n) p) (by rw[HI];lia);refine⟨e.trans HI,λt=>?_⟩;rw[f t,BQ];by_cases b:lo+n=t
  .subst b;rw[AI (by lia),AO (by lia),Array.getElem?_setIfInBounds_self_of_lt (by lia),Nat.sub_self];rfl
  .by_cases c:lo +(n+1)<=t/\t<lo +(n+1)+m.length
   .rw[AO c,AO (by lia),show t-(lo+n) =(t-(lo +(n+1)))+1 by lia,List.getElem?_cons_succ]
   .rw[AI c,AI (by lia),Array.getElem?_setIfInBounds_ne b]
theorem En(m:A0 IH)(lo:Nat)(a:IG IH)(h:lo+m.length<=a.size) :
  (m.zipIdx.foldl (λa (x:IH×Nat)=>a.setIfInBounds (lo+x.2) x.1) a).toList=a.toList.take lo++m++a.toList.drop (lo+m.length):=by
 obtain⟨e,c⟩:=Tj m lo 0 a (by lia);refine FN λt=>?_;rw[BK,c t];have b:(a.toList.take lo).length=lo:=by rw[AX,AU];lia
 by_cases d:t<lo
 .rw[AI (by lia),BH,GX (by lia),DK d,BK]
 .by_cases f:t<lo+m.length
  .rw[AO (by lia),GX (by rw[AS];lia),GP (by lia),b];rfl
  .rw[AI (by lia),GP (by rw[AS];lia),AS,b,FW,BK];congr 1;lia
theorem Ue(l:A0 IH)(lo n:Nat):l=l.take lo++JX l lo n++l.drop (lo+n):=by
 unfold JX;rw[BH,<-FG,CA,CA]
theorem Kb(l:A0 IH)(lo n m:Nat):JX l lo (n+m)=JX l lo n++JX l (lo+n) m:=by
 unfold JX;rw[List.take_add,FG]
structure LR(Z:KeyKind)(l l':A0 IH)(lo n:Nat):Prop where
 perm:l'.Perm l
 front:l'.take lo=l.take lo
 back:l'.drop (lo+n)=l.drop (lo+n)
theorem LR.refl(l:A0 IH)(lo n:Nat):LR Z l l lo n:=⟨List.Perm.refl _,rfl,rfl⟩
theorem LR.seg_front{l a:A0 IH}{lo n:Nat}(h:LR Z l a lo n){u m:Nat}(b:u+m<=lo):JX a u m=JX l u m:=by
 have:∀x:A0 IH,JX x u m =((x.take lo).drop u).take m:=λx=>by
  unfold JX;rw[GO,List.take_take,GA (by lia)]
 rw[this,this,h.front]
theorem LR.seg_back{l a:A0 IH}{lo n:Nat}(h:LR Z l a lo n){u m:Nat}(b:lo+n<=u):JX a u m=JX l u m:=by
 have:∀x:A0 IH,JX x u m =((x.drop (lo+n)).drop (u-(lo+n))).take m:=λx=>by
  unfold JX;rw[FG,show lo+n +(u-(lo+n))=u by lia]
 rw[this,this,h.back]
theorem LR.of{l z:A0 IH}{lo n:Nat}(hz:z.Perm (JX l lo n))(c:lo+n<=l.length):LR Z l (l.take lo++z++l.drop (lo+n)) lo n/\JX (l.take lo++z++l.drop (lo+n)) lo n=z:=by
 have a:(l.take lo).length=lo:=by rw[AX];lia
 have b:z.length=n:=by
  rw[hz.length_eq];unfold JX;rw[AX,DJ];lia
 refine⟨⟨?_,?_,?_⟩,?_⟩
 .conv=>rhs;rw[Ue l lo n]
  exact DR _ (CZ _ hz)
 .rw[BH,List.take_append_of_le_length (by lia),DT (by lia)]
 .rw[List.drop_append,FB (by rw[AS];lia),GB,AS,a,b,Nat.sub_self,EW]
 .unfold JX;rw[BH,List.drop_append,FB (by lia),GB,a,Nat.sub_self,EW,List.take_append_of_le_length (by lia),DT (by lia)]
structure St(Z:KeyKind)(kd:KC)(a₀:IG IH)(st:IK):Prop where
 perm:(arrOf st).toList.Perm a₀.toList
 kind:kindOf st=kd
 failed:failedOf st=none
theorem St.size{a₀:IG IH}{st:IK}(h:St Z kd a₀ st):(arrOf st).size=a₀.size:=by
 have:=h.perm.length_eq;simpa using this
theorem St.has{a₀:IG IH}{st:IK}(h:St Z kd a₀ st)(b:KeysOf Z a₀)(i:Nat)(p:IH)(e:(arrOf st)[i]?=some p):R_ Z p :=
 b p (h.perm.mem_iff.mp (AZ (IS.mp e)))
theorem U7{l:A0 IH}{lo n t:Nat}(a:t<n):(JX l lo n)[t]?=l[lo+t]?:=by
 unfold JX;rw[DK a,FW]
theorem Kw(i:Nat):mergeAt' i =(do
  let u <-get
  let(some (b,c,f),some (e,d,_)):=((pendingOf u)[i]?,(pendingOf u)[i+1]?) | unsupported "internal:list.sort.pending"
  set (setPending u (((pendingOf u).setIfInBounds i (b,c+d,f)).eraseIdxIfInBounds (i+1)))
  let some k <-Y3 false (<-elem' (arrOf u) e) (arrOf u) b c 0 | return false
  let(b,c):=(b+k,c-k)
  if c == 0 then return true
  let some d <-Y3 true (<-elem' (arrOf u) (b+c-1)) (arrOf u) e d (d-1) | return false
  if d == 0 then return true
  let x:=(arrOf u).extract b e
  let y:=(arrOf u).extract e (e+d)
  let g <-if c<=d then Ga x y else Fw x y
  modify λv=>setArr v (g.toList.zipIdx.foldl (λa (z:IH×Nat)=>a.setIfInBounds (b+z.2) z.1) (arrOf v))
  return(failedOf (<-get)).isNone):=rfl
theorem zAz{st st2:IK}{Q:PUnit->IK->Prop}(h:Q ⟨⟩ st2):wpS (model prog w) A E s (set st2:StateT IK Sem PUnit) Q st:=by
 unfold wpS;rw[StateT.run_set];exact AC ⟨rfl,h⟩
theorem Kj(C:RO prog w A s Z kd){a₀:IG IH}(L:KeysOf Z a₀){st:IK}{i b c pw sb f pw2:Nat}{Q:Bool->IK->Prop}(j:St Z kd a₀ st)
  (hi:(pendingOf st)[i]?=some (b,c,pw)) (hj:(pendingOf st)[i+1]?=some (sb,f,pw2)) (hsb:sb=b+c) (hsz:sb+f<=a₀.size) (hna:1<=c) (hnb:1<=f)
  (N:LL Z (JX (arrOf st).toList b c)) (O:LL Z (JX (arrOf st).toList sb f))
  (h:∀n,St Z kd a₀ n->LR Z (arrOf st).toList (arrOf n).toList b (c+f)->LL Z (JX (arrOf n).toList b (c+f)) ->
   pendingOf n =((pendingOf st).setIfInBounds i (b,c+f,pw)).eraseIdxIfInBounds (i+1)->Q true n):wpS (model prog w) A E s (mergeAt' i) Q st:=by
 subst hsb;have hL:(arrOf st).toList.length=a₀.size:=by rw[AU];exact j.size
 have hsz':=j.size;rw[Kw];refine wpS_bind (wpS_get ?_);rw[hi,hj];dsimp only;refine wpS_bind (zAz ?_);obtain⟨R,D⟩:=w9 (a:=arrOf st) (i:=b+c) (by lia);have S:∀u v p q,u<=v->v<c->(arrOf st)[b+u]?=some p->(arrOf st)[b+v]?=some q->le Z p q:=λu v p q H hv T F =>
  Bj N H (by rw[U7 (by lia)];exact IS.mp T) (by rw[U7 hv];exact IS.mp F)
 have U:∀u v p q,u<=v->v<f->(arrOf st)[b+c+u]?=some p->(arrOf st)[b+c+v]?=some q->le Z p q:=λu v p q H hv T F =>
  Bj O H (by rw[U7 (by lia)];exact IS.mp T) (by rw[U7 hv];exact IS.mp F)
 refine wpS_bind (I0 D (wpS_bind (Bc C j.kind (j.has L _ _ D) (by lia) (j.has L) S (by lia) λk hk1 k1 k2=>?_)));dsimp only;have V:∀z∈JX (arrOf st).toList (b+c) f,le Z R z:=λz I=>by
  obtain⟨t,l,e⟩:=Fr I;exact U 0 t R z (by lia) l D (IS.mpr e)
 have xk:∀x∈(JX (arrOf st).toList b c).take k,le Z x R:=λx hx=>by
  obtain⟨t,l,o,e⟩:=Pn hx;unfold JX at o;rw[AX]at o;rw[U7 (by lia)]at e;exact Gv (k1 t x l (IS.mpr e))
 have kx:∀x∈(JX (arrOf st).toList b c).drop k,le Z R x:=λx hx=>by
  obtain⟨t,l,e⟩:=Lk hx;unfold JX at l;rw[AX]at l;rw[U7 (by lia)]at e;exact KeyOrd.kle_of_klt (Cy (k2 (k+t) x (by lia) (by lia) (IS.mpr e)))
 have W:St Z kd a₀ (setPending st (((pendingOf st).setIfInBounds i (b,c+f,pw)).eraseIdxIfInBounds (i+1))):=⟨j.perm,j.kind,j.failed⟩;by_cases X:c-k=0
 .rw[AO (by simpa using X)];have hkk:k=c:=by lia
  refine wpS_pure (h _ W (LR.refl _ _ _) ?_ rfl);show LL Z (JX (arrOf st).toList b (c+f));rw[Kb];refine CS.mpr ⟨N,O,λx hx y hy=>JI (xk x ?_) (V y hy)⟩;rw[DT (by unfold JX;rw[AX];lia)];exact hx
 rw[AI (by simpa using X)];obtain⟨M,J⟩:=w9 (a:=arrOf st) (i:=b+k +(c-k)-1) (by lia);refine wpS_bind (I0 J (wpS_bind (Bc C W.kind (j.has L _ _ J) (by lia) (j.has L) U (by lia) λg Y k1' k2'=>?_)));dsimp only;have G:(arrOf st)[b +(c-1)]?=some M:=by rw[show b +(c-1)=b+k +(c-k)-1 by lia];exact J
 have K:∀x∈JX (arrOf st).toList b c,le Z x M:=λx hx=>by
  obtain⟨t,l,e⟩:=Fr hx;exact S t (c-1) x M (by lia) (by lia) (IS.mpr e) G
 have yk:∀y∈(JX (arrOf st).toList (b+c) f).take g,le Z y M:=λy hy=>by
  obtain⟨t,l,o,e⟩:=Pn hy;unfold JX at o;rw[AX]at o;rw[U7 (by lia)]at e;exact KeyOrd.kle_of_klt (Ku (k1' t y l (IS.mpr e)))
 have ky:∀y∈(JX (arrOf st).toList (b+c) f).drop g,le Z M y:=λy hy=>by
  obtain⟨t,l,e⟩:=Lk hy;unfold JX at l;rw[AX]at l;rw[U7 (by lia)]at e;exact Ge (k2' (g+t) y (by lia) (by lia) (IS.mpr e))
 by_cases B:g=0
 .rw[AO (by simpa using B)];refine wpS_pure (h _ W (LR.refl _ _ _) ?_ rfl);show LL Z (JX (arrOf st).toList b (c+f));rw[Kb];refine CS.mpr ⟨N,O,λx hx y hy=>JI (K x hx) (ky y ?_)⟩;rw[B,EW];exact hy
 rw[AI (by simpa using B)];have ex:((arrOf st).extract (b+k) (b+c)).toList =(JX (arrOf st).toList b c).drop k:=by
  rw[Kq];unfold JX;rw[GO,GO,FG];congr 1;lia
 have ey:((arrOf st).extract (b+c) (b+c+g)).toList =(JX (arrOf st).toList (b+c) f).take g:=by
  rw[Gg];unfold JX;rw[List.take_take,GA Y]
 have P:NS Z ((arrOf st).extract (b+k) (b+c)) ((arrOf st).extract (b+c) (b+c+g)):=by
  refine⟨by rw[ex];exact N.sublist (FK _ _),by rw[ey];exact O.sublist (EY _ _),λt p e=>?_,λt p e=>?_,?_,?_,λq e z I=>?_,λp e z I=>?_⟩
  .have m:=AZ (IS.mp e);rw[ex]at m;obtain⟨u,_,F⟩:=Fr (EV m);exact j.has L _ p (IS.mpr F)
  .have m:=AZ (IS.mp e);rw[ey]at m;obtain⟨u,_,F⟩:=Fr (DG m);exact j.has L _ p (IS.mpr F)
  .rw[FX];lia
  .rw[FX];lia
  .have m:=IS.mp e;rw[ey,DK (by lia),U7 (by lia)]at m;have:q=R:=by
    have:=IS.mp D;rw[Nat.add_zero,this]at m;exact(BU m).symm
   subst this;rw[ex]at I;exact kx z I
  .have m:=IS.mp e;rw[ex,FX,FW,U7 (by lia)]at m;have:p=M:=by
    have q:=IS.mp G;rw[show k +(min (b+c) (arrOf st).size-(b+k)-1)=c-1 by lia,q]at m;exact(BU m).symm
   subst this;rw[ey]at I;exact yk z I
 have fin:∀(r:IG IH) (d:IK),Sm (setPending st (((pendingOf st).setIfInBounds i (b,c+f,pw)).eraseIdxIfInBounds (i+1))) d->Rm Z ((arrOf st).extract (b+k) (b+c)) ((arrOf st).extract (b+c) (b+c+g)) r ->
   Q (failedOf (setArr d (r.toList.zipIdx.foldl (λa (z:IH×Nat)=>a.setIfInBounds (b+k+z.2) z.1) (arrOf d)))).isNone (setArr d (r.toList.zipIdx.foldl (λa (z:IH×Nat)=>a.setIfInBounds (b+k+z.2) z.1) (arrOf d))):=by
  rintro r d ⟨q1,q2,q3,q4⟩ ⟨r1,r2⟩;rw[ex,ey]at r2;have hrl:r.toList.length =(c-k)+g:=by
   rw[r2.length_eq,AS];unfold JX;rw[DJ,AX,AX,DJ,AX,DJ];lia
  have q2':arrOf d=arrOf st:=q2;have ef:failedOf (setArr d (r.toList.zipIdx.foldl (λa (z:IH×Nat)=>a.setIfInBounds (b+k+z.2) z.1) (arrOf d)))=none:=q4.trans j.failed;rw[ef];have el:=En r.toList (b+k) (arrOf d) (by rw[q2'];lia);have eq:(r.toList.zipIdx.foldl (λa (z:IH×Nat)=>a.setIfInBounds (b+k+z.2) z.1) (arrOf d)).toList =(arrOf st).toList.take b ++((JX (arrOf st).toList b c).take k++r.toList ++(JX (arrOf st).toList (b+c) f).drop g) ++(arrOf st).toList.drop (b +(c+f)):=by
   rw[el,q2',hrl];have T:(arrOf st).toList.take (b+k) =(arrOf st).toList.take b ++(JX (arrOf st).toList b c).take k:=by
    unfold JX;rw[List.take_add,List.take_take,GA hk1]
   have F:(arrOf st).toList.drop (b+k +(c-k+g)) =(JX (arrOf st).toList (b+c) f).drop g ++(arrOf st).toList.drop (b +(c+f)):=by
    unfold JX;rw[GO,FG,show b+k +(c-k+g)=b+c+g by lia]
    conv=>lhs;rw[<-CA (f-g) ((arrOf st).toList.drop (b+c+g))]
    rw[FG,show b+c+g +(f-g)=b +(c+f) by lia]
   rw[T,F];simp only[BH]
  have hp:((JX (arrOf st).toList b c).take k++r.toList ++(JX (arrOf st).toList (b+c) f).drop g).Perm (JX (arrOf st).toList b (c+f)):=by
   rw[Kb];have a1:((JX (arrOf st).toList b c).take k++r.toList ++(JX (arrOf st).toList (b+c) f).drop g).Perm ((JX (arrOf st).toList b c).take k ++((JX (arrOf st).toList b c).drop k ++(JX (arrOf st).toList (b+c) f).take g) ++(JX (arrOf st).toList (b+c) f).drop g) :=
    DR _ (CZ _ r2)
   refine a1.trans (FA ?_);rw[<-BH,CA,BH,CA]
  obtain⟨pa,ps⟩:=LR.of (Z:=Z) hp (by rw[hL];lia);have hs:LL Z ((JX (arrOf st).toList b c).take k++r.toList ++(JX (arrOf st).toList (b+c) f).drop g):=by
   refine CS.mpr ⟨CS.mpr ⟨N.sublist (EY _ _),r1,λx hx y hy=>?_⟩,O.sublist (FK _ _),λx hx y hy=>?_⟩
   .rcases AN.mp (r2.mem_iff.mp hy)with hy | hy
    .exact JI (xk x hx) (kx y hy)
    .exact JI (xk x hx) (V y (DG hy))
   .rcases AN.mp hx with hx | hx
    .exact JI (K x (DG hx)) (ky y hy)
    .rcases AN.mp (r2.mem_iff.mp hx)with hx | hx
     .exact JI (K x (EV hx)) (ky y hy)
     .exact JI (yk x hx) (ky y hy)
  refine h _ ⟨?_,q1.trans j.kind,q4.trans j.failed⟩ ?_ ?_ q3
  .show(r.toList.zipIdx.foldl (λa (z:IH×Nat)=>a.setIfInBounds (b+k+z.2) z.1) (arrOf d)).toList.Perm a₀.toList;rw[eq];exact pa.perm.trans j.perm
  .show LR Z (arrOf st).toList (r.toList.zipIdx.foldl (λa (z:IH×Nat)=>a.setIfInBounds (b+k+z.2) z.1) (arrOf d)).toList b (c+f);rw[eq];exact pa
  .show LL Z (JX (r.toList.zipIdx.foldl (λa (z:IH×Nat)=>a.setIfInBounds (b+k+z.2) z.1) (arrOf d)).toList b (c+f));rw[eq,ps];exact hs
 by_cases hab:c-k<=g
 .rw[AO hab];refine wpS_bind (Ks C W.kind P λr d q r1=>?_);exact wpS_bind (wpS_modify (wpS_bind (wpS_get (wpS_pure (fin r d q r1)))))
 .rw[AI hab];refine wpS_bind (Kl C W.kind P λr d q r1=>?_);exact wpS_bind (wpS_modify (wpS_bind (wpS_get (wpS_pure (fin r d q r1)))))
section
variable{prog:IE}{w:IJ}{A:IM}{E:A2->A4->Prop}{s:A4}{Z:KeyKind}{kd:KC}{a₀:IG IH}
theorem Wu{xs:IG IH}{i:Nat}{p:IH}(h:xs[i]?=some p):KK Z xs i=kk Z p:=by unfold KK kk;rw[h]
def SI(Z:KeyKind)(xs:IG IH)(lo m:Nat):Prop:=∀i j,i<=j->j<m->Z.kle (KK Z xs (lo+i)) (KK Z xs (lo+j))
def NI(Z:KeyKind)(xs:IG IH)(lo m:Nat):Prop:=∀i j,i<=j->j<m->Z.kle (KK Z xs (lo+j)) (KK Z xs (lo+i))
theorem SI.sor{xs:IG IH}{lo m:Nat}(h:SI Z xs lo m):LL Z (JX xs.toList lo m):=by
 refine List.pairwise_iff_getElem.mpr λi j a b c=>?_;unfold JX at a b;rw[AX]at a b;have d:xs[lo+i]?=some (JX xs.toList lo m)[i]:=by
  rw[IS,<-U7 (n:=m) (by lia)];exact AF _
 have e:xs[lo+j]?=some (JX xs.toList lo m)[j]:=by
  rw[IS,<-U7 (n:=m) (by lia)];exact AF _
 have:=h i j (by lia) (by lia);rw[Wu d,Wu e]at this;exact this
structure Lo(Z:KeyKind)(kd:KC)(a₀:IG IH)(st0:IK)(lo n:Nat)(st:IK):Prop where
 S:St Z kd a₀ st
 pend:pendingOf st=pendingOf st0
 out:∀t,t<lo\/lo+n<=t->(arrOf st)[t]? =(arrOf st0)[t]?
theorem Lo.part{st0 st:IK}{lo n:Nat}(h:Lo Z kd a₀ st0 lo n st)(c:St Z kd a₀ st0):LR Z (arrOf st0).toList (arrOf st).toList lo n:=by
 refine⟨h.S.perm.trans c.perm.symm,FN λt=>?_,FN λt=>?_⟩
 .by_cases b:t<lo
  .rw[DK b,DK b,BK,BK];exact h.out t (.inl b)
  .rw[GI (by rw[AX];lia),GI (by rw[AX];lia)]
 .rw[FW,FW,BK,BK];exact h.out _ (.inr (by lia))
theorem Lo.mirror{st0 st:IK}{lo n i j:Nat}(h:Lo Z kd a₀ st0 lo n st)(hi:lo<=i)(c:j<=lo+n)(d:lo+n<=a₀.size):Lo Z kd a₀ st0 lo n (setArr st (mirror (arrOf st) i j ((j-i) / 2))):=by
 refine⟨⟨(Array.perm_iff_toList_perm.mp (mirror_perm _ _ _ _)).trans h.S.perm,h.S.kind,h.S.failed⟩,h.pend,λt b=>?_⟩;show(PyProof.Rows.mirror (arrOf st) i j ((j-i) / 2))[t]?=_;have:=h.S.size;rw[getElem?_mirror_all (by lia),AI (by lia)];exact h.out t b
theorem V6(C:RO prog w A s Z kd)(e:KeysOf Z a₀){st:IK}(b:St Z kd a₀ st){i j:Nat}{Q:A5 Bool->IK->Prop}(hi:i<a₀.size)(f:j<a₀.size)
  (h:Q (some (Z.blt (KK Z (arrOf st) i) (KK Z (arrOf st) j))) st):wpS (model prog w) A E s (ltAt' i j) Q st:=by
 have:=b.size;obtain⟨p,c⟩:=w9 (a:=arrOf st) (i:=i) (by lia);obtain⟨q,d⟩:=w9 (a:=arrOf st) (i:=j) (by lia);rw[ltAt'_eq];refine wpS_bind (wpS_get ?_);refine wpS_bind (I0 c (wpS_bind (I0 d (Hk C b.kind (b.has e _ _ c) (b.has e _ _ d) ?_))));rw[Wu c,Wu d]at h;exact h
theorem UK{st:IK}{lo a b:Nat}{f:Nat->(A5 (A5 Nat)×Nat)->StateT IK Sem (ForInStep (A5 (A5 Nat)×Nat))}{Q:(A5 (A5 Nat)×Nat)->IK->Prop}
  (z:∀x n,1<=n->n<b->wpS (model prog w) A E s (f x (none,n)) (λr k=>k=st/\r=if Z.blt (KK Z (arrOf st) (lo+n)) (KK Z (arrOf st) (lo+n-1))=true then .done (none,n)else .yield (none,n+1)) st)
  (C:1<=a) (o:a<=b) (B:SI Z (arrOf st) lo a)
  (h:∀n,a<=n->n<=b->SI Z (arrOf st) lo n->(n=b\/Z.klt (KK Z (arrOf st) (lo+n)) (KK Z (arrOf st) (lo+n-1)))->Q (none,n) st):wpS (model prog w) A E s (forIn [a:b] (none,a) f) Q st:=by
 refine wpS_forRange (I:=λx c k=>k=st/\c =(none,x)/\SI Z (arrOf st) lo x) ?_ ?_ ⟨rfl,rfl,B⟩
 .rintro x c k p q ⟨rfl,rfl,g⟩;refine wpS_mono (z x x (by lia) q) λr l ⟨e,m⟩=>?_;subst e;cases d:Z.blt (KK Z (arrOf l) (lo+x)) (KK Z (arrOf l) (lo+x-1))
  .rw[d,AI BE]at m;subst m;refine⟨rfl,rfl,λi j t D=>?_⟩;by_cases u:j<x
   .exact g i j t u
   .have v:j=x:=by lia
    subst v;by_cases y:i=j
    .subst y;exact KeyOrd.kle_refl _
    .have:=g i (j-1) (by lia) (by lia);rw[show lo +(j-1)=lo+j-1 by lia]at this;exact KeyOrd.kle_trans this d
  .rw[d,AO rfl]at m;subst m;exact h x p (by lia) g (.inr d)
 .rintro c k ⟨rfl,rfl,g⟩;rw[show max a b=b by lia]at g⊢;exact h b o (VD _) g (.inl rfl)
theorem NI.step{xs e:IG IH}{lo x:Nat}(l:1<=x)(f:∀k,KK Z e k=KK Z xs k)(g:NI Z xs lo x)(h:Z.kle (KK Z xs (lo+x)) (KK Z xs (lo+x-1))):NI Z e lo (x+1):=by
 intro i j a m;rw[f,f];by_cases b:j<x
 .exact g i j a b
 .have c:j=x:=by lia
  subst c;by_cases d:i=j
  .subst d;exact KeyOrd.kle_refl _
  .have:=g i (j-1) (by lia) (by lia);rw[show lo +(j-1)=lo+j-1 by lia]at this;exact KeyOrd.kle_trans h this
abbrev DS:=A5 (A5 Nat)×Nat×Nat
theorem zGn{st0 st:IK}{lo n d:Nat}(hsz:lo+d<=a₀.size){f:Nat->DS->StateT IK Sem (ForInStep DS)}{Q:DS->IK->Prop}
  (J:∀x n q b,1<=n->n<d->Lo Z kd a₀ st0 lo d b->wpS (model prog w) A E s (f x (none,n,q)) (λr st2 =>
   if Z.blt (KK Z (arrOf b) (lo+n)) (KK Z (arrOf b) (lo+n-1))=true then(st2=if q>0 then setArr b (mirror (arrOf b) (lo+n-(q+1)) (lo+n) ((lo+n-(lo+n-(q+1))) / 2))else b)/\r = .yield (none,n+1,0)
   else st2=b/\r=if Z.blt (KK Z (arrOf b) (lo+n-1)) (KK Z (arrOf b) (lo+n))=true then .done (none,n,q)else .yield (none,n+1,q+1)) b)
  (h1:1<=n) (B:n<=d) (K:Lo Z kd a₀ st0 lo d st) (L:NI Z (arrOf st) lo n)
  (h:∀m q b,Lo Z kd a₀ st0 lo d b->n<=m->m<=d->NI Z (arrOf b) lo m->q+1<=m->(∀i,m-(q+1)<=i->i<m->KK Z (arrOf b) (lo+i)=KK Z (arrOf b) (lo+m-1))->Q (none,m,q) b) :
  wpS (model prog w) A E s (forIn [n:d] (none,n,0) f) Q st:=by
 refine wpS_forRange (I:=λx c b=>∃q,c =(none,x,q)/\Lo Z kd a₀ st0 lo d b/\NI Z (arrOf b) lo x/\q+1<=x /\
   (∀i,x-(q+1)<=i->i<x->KK Z (arrOf b) (lo+i)=KK Z (arrOf b) (lo+x-1))) ?_ ?_ ⟨0,rfl,K,L,by lia,λi h1 N=>by congr 1;lia⟩
 .rintro x c b C D ⟨q,rfl,j,l,y,p⟩;have M:=j.S.size;refine wpS_mono (J x x q b (by lia) D j) λr st2 z=>?_;cases g:Z.blt (KK Z (arrOf b) (lo+x)) (KK Z (arrOf b) (lo+x-1))
  .rw[g,AI BE]at z;obtain⟨e,t⟩:=z;subst e;cases o:Z.blt (KK Z (arrOf st2) (lo+x-1)) (KK Z (arrOf st2) (lo+x))
   .rw[o,AI BE]at t;subst t;have u:KK Z (arrOf st2) (lo+x)=KK Z (arrOf st2) (lo+x-1):=KeyOrd.kle_antisymm o g;refine⟨q+1,rfl,j,NI.step (by lia) (λ_=>rfl) l o,by lia,λi F G=>?_⟩;rw[show lo +(x+1)-1=lo+x by lia];by_cases H:i=x
    .subst H;rfl
    .rw[u];exact p i (by lia) (by lia)
   .rw[o,AO rfl]at t;subst t;exact h x q st2 j C (by lia) l y p
  .rw[g,AO rfl]at z;obtain⟨e,t⟩:=z;subst t;have o:Z.kle (KK Z (arrOf b) (lo+x)) (KK Z (arrOf b) (lo+x-1)):=KeyOrd.kle_of_klt g;by_cases v:q>0
   .rw[AO v]at e;subst e;refine⟨0,rfl,j.mirror (by lia) (by lia) hsz,NI.step (by lia) (KK_mirror_equal (by lia) λk F G=>?_) l o,by lia,λi F G=>by congr 1;lia⟩;have:=p (k-lo) (by lia) (by lia);rw[show lo +(k-lo)=k by lia]at this;exact this
   .rw[AI v]at e;subst e;exact⟨0,rfl,j,NI.step (by lia) (λ_=>rfl) l o,by lia,λi F G=>by congr 1;lia⟩
 .rintro c b ⟨q,rfl,j,l,y,p⟩;rw[show max n d=d by lia]at l y p⊢;exact h d q b j B (VD _) l y p
theorem NI.turn{xs:IG IH}{lo n:Nat}(a:lo+n<=xs.size)(h:NI Z xs lo n):SI Z (mirror xs lo (lo+n) ((lo+n-lo) / 2)) lo n:=by
 intro i j b c;rw[KK_mirror a,KK_mirror a,AO (by lia),AO (by lia)];have:=h (n-1-j) (n-1-i) (by lia) (by lia);rw[show lo +(n-1-i)=lo +(lo+n)-1-(lo+i) by lia,show lo +(n-1-j)=lo +(lo+n)-1-(lo+j) by lia]at this;exact this
theorem Hu(C:RO prog w A s Z kd)(D:KeysOf Z a₀){st:IK}{lo c:Nat}{Q:A5 Nat->IK->Prop}(W:St Z kd a₀ st)(hsz:lo+c<=a₀.size)(h1:1<=c)
  (h:∀m b,Lo Z kd a₀ st lo c b->1<=m->m<=c->SI Z (arrOf b) lo m->Q (some m) b):wpS (model prog w) A E s (countRun' lo c) Q st:=by
 have X:Lo Z kd a₀ st lo c st:=⟨W,rfl,λ_ _=>rfl⟩;rw[countRun'_eq];dsimp only;refine wpS_bind (UK (Z:=Z) (lo:=lo) (λx n G H=>?_) (VD 1) h1 (λi j p P=>by have:i=j:=(by lia);subst this;exact KeyOrd.kle_refl _) λn R T F Y=>?_)
 .dsimp only;refine wpS_bind (V6 C D W (by lia) (by lia) ?_);dsimp only;cases Z.blt (KK Z (arrOf st) (lo+n)) (KK Z (arrOf st) (lo+n-1))
  .exact wpS_pure ⟨rfl,rfl⟩
  .exact wpS_pure ⟨rfl,rfl⟩
 dsimp only;by_cases I:n=c
 .rw[AO (by simpa using I)];exact wpS_pure (h n st X R T F)
 rw[AI (by simpa using I)];have U:Z.klt (KK Z (arrOf st) (lo+n)) (KK Z (arrOf st) (lo+n-1)):=Y.resolve_left I;have hz:=W.size;by_cases V:n>1
 .rw[AO V];refine wpS_bind (V6 C D W (by lia) (by lia) ?_);dsimp only;cases J:Z.blt (KK Z (arrOf st) lo) (KK Z (arrOf st) (lo+n-1))with
  | true =>
   simp only[GL];exact wpS_pure (h n st X R T F)
  | false =>
   simp only[BD,CQ];have r:∀k,lo<=k->k<lo+n->KK Z (arrOf st) k=KK Z (arrOf st) (lo+n-1):=by
    intro k hk1 hk2;have a1:=F 0 (k-lo) (by lia) (by lia);have a2:=F (k-lo) (n-1) (by lia) (by lia);rw[Nat.add_zero,show lo +(k-lo)=k by lia]at a1;rw[show lo +(k-lo)=k by lia,show lo +(n-1)=lo+n-1 by lia]at a2;exact KeyOrd.kle_antisymm a2 (KeyOrd.kle_trans J a1)
   have K:=KK_mirror_equal (κ:=Z) (xs:=arrOf st) (i:=lo) (j:=lo+n) (by lia) r;refine wpS_bind (wpS_reverse ?_);have L:=X.mirror (i:=lo) (j:=lo+n) (by lia) (by lia) hsz;have hN:NI Z (mirror (arrOf st) lo (lo+n) ((lo+n-lo) / 2)) lo (n+1):=by
    refine NI.step (by lia) K (λi j p P=>?_) (KeyOrd.kle_of_klt U);rw[r (lo+i) (by lia) (by lia),r (lo+j) (by lia) (by lia)];exact KeyOrd.kle_refl _
   refine wpS_bind (wpS_lift (DN ⟨rfl,?_⟩));refine wpS_bind (zGn (Z:=Z) (kd:=kd) (a₀:=a₀) (st0:=st) (lo:=lo) hsz (λx f q b G H t=>?_) (by lia) (by lia) L hN λm q b l hm1 u v y he=>?_)
   .dsimp only;refine wpS_bind (V6 C D t.S (by lia) (by lia) ?_);dsimp only;cases Z.blt (KK Z (arrOf b) (lo+f)) (KK Z (arrOf b) (lo+f - 1))
    .simp only[BD,CQ];refine wpS_bind (V6 C D t.S (by lia) (by lia) ?_);dsimp only;cases Z.blt (KK Z (arrOf b) (lo+f - 1)) (KK Z (arrOf b) (lo+f))
     .exact wpS_pure ⟨rfl,rfl⟩
     .exact wpS_pure ⟨rfl,rfl⟩
    .simp only[GL];by_cases y:q>0
     .rw[AO y,AO y];exact wpS_bind (wpS_reverse (wpS_pure ⟨rfl,rfl⟩))
     .rw[AI y,AI y];exact wpS_pure ⟨rfl,rfl⟩
   .dsimp only;have hz3:=l.S.size;by_cases z:q>0
    .rw[AO z];refine wpS_bind (wpS_reverse (wpS_bind (wpS_reverse ?_)));have g:=l.mirror (i:=lo+m-(q+1)) (j:=lo+m) (by lia) (by lia) hsz;have d:=g.mirror (i:=lo) (j:=lo+m) (by lia) (by lia) hsz;have hz4:=g.S.size;have M:NI Z (mirror (arrOf b) (lo+m-(q+1)) (lo+m) ((lo+m-(lo+m-(q+1))) / 2)) lo m:=by
      have K:=KK_mirror_equal (κ:=Z) (xs:=arrOf b) (i:=lo+m-(q+1)) (j:=lo+m) (by lia) (λk G H=>by
       have:=he (k-lo) (by lia) (by lia);rw[show lo +(k-lo)=k by lia]at this;exact this)
      intro i j p P;rw[K,K];exact v i j p P
     have N:=M.turn (Z:=Z) (lo:=lo) (n:=m) (by rw[mirror_size];lia);refine wpS_bind (UK (Z:=Z) (lo:=lo) (λx f G H=>?_) (by lia) u N λO B e o _=>wpS_pure (h O _ d (by lia) e o));dsimp only;refine wpS_bind (V6 C D d.S (by lia) (by lia) ?_);dsimp only;cases Z.blt (KK Z _ (lo+f)) (KK Z _ (lo+f - 1))
     .exact wpS_pure ⟨rfl,rfl⟩
     .exact wpS_pure ⟨rfl,rfl⟩
    .rw[AI z];refine wpS_bind (wpS_reverse ?_);have d:=l.mirror (i:=lo) (j:=lo+m) (by lia) (by lia) hsz;have N:=v.turn (Z:=Z) (lo:=lo) (n:=m) (by lia);refine wpS_bind (UK (Z:=Z) (lo:=lo) (λx f G H=>?_) (by lia) u N λO B e o _=>wpS_pure (h O _ d (by lia) e o));dsimp only;refine wpS_bind (V6 C D d.S (by lia) (by lia) ?_);dsimp only;cases Z.blt (KK Z _ (lo+f)) (KK Z _ (lo+f - 1))
     .exact wpS_pure ⟨rfl,rfl⟩
     .exact wpS_pure ⟨rfl,rfl⟩
 .rw[AI V];have hn1':n=1:=by lia
  have L:=X;have hN:NI Z (arrOf st) lo (n+1):=by
   refine NI.step (by lia) (λ_=>rfl) (λi j p P=>?_) (KeyOrd.kle_of_klt U);have:i=j:=by lia
   subst this;exact KeyOrd.kle_refl _
  refine wpS_bind (wpS_lift (DN ⟨rfl,?_⟩));refine wpS_bind (zGn (Z:=Z) (kd:=kd) (a₀:=a₀) (st0:=st) (lo:=lo) hsz (λx f q b G H t=>?_) (by lia) (by lia) L hN λm q b l hm1 u v y he=>?_)
  .dsimp only;refine wpS_bind (V6 C D t.S (by lia) (by lia) ?_);dsimp only;cases Z.blt (KK Z (arrOf b) (lo+f)) (KK Z (arrOf b) (lo+f - 1))
   .simp only[BD,CQ];refine wpS_bind (V6 C D t.S (by lia) (by lia) ?_);dsimp only;cases Z.blt (KK Z (arrOf b) (lo+f - 1)) (KK Z (arrOf b) (lo+f))
    .exact wpS_pure ⟨rfl,rfl⟩
    .exact wpS_pure ⟨rfl,rfl⟩
   .simp only[GL];by_cases y:q>0
    .rw[AO y,AO y];exact wpS_bind (wpS_reverse (wpS_pure ⟨rfl,rfl⟩))
    .rw[AI y,AI y];exact wpS_pure ⟨rfl,rfl⟩
  .dsimp only;have hz3:=l.S.size;by_cases z:q>0
   .rw[AO z];refine wpS_bind (wpS_reverse (wpS_bind (wpS_reverse ?_)));have g:=l.mirror (i:=lo+m-(q+1)) (j:=lo+m) (by lia) (by lia) hsz;have d:=g.mirror (i:=lo) (j:=lo+m) (by lia) (by lia) hsz;have hz4:=g.S.size;have M:NI Z (mirror (arrOf b) (lo+m-(q+1)) (lo+m) ((lo+m-(lo+m-(q+1))) / 2)) lo m:=by
     have K:=KK_mirror_equal (κ:=Z) (xs:=arrOf b) (i:=lo+m-(q+1)) (j:=lo+m) (by lia) (λk G H=>by
      have:=he (k-lo) (by lia) (by lia);rw[show lo +(k-lo)=k by lia]at this;exact this)
     intro i j p P;rw[K,K];exact v i j p P
    have N:=M.turn (Z:=Z) (lo:=lo) (n:=m) (by rw[mirror_size];lia);refine wpS_bind (UK (Z:=Z) (lo:=lo) (λx f G H=>?_) (by lia) u N λO B e o _=>wpS_pure (h O _ d (by lia) e o));dsimp only;refine wpS_bind (V6 C D d.S (by lia) (by lia) ?_);dsimp only;cases Z.blt (KK Z _ (lo+f)) (KK Z _ (lo+f - 1))
    .exact wpS_pure ⟨rfl,rfl⟩
    .exact wpS_pure ⟨rfl,rfl⟩
   .rw[AI z];refine wpS_bind (wpS_reverse ?_);have d:=l.mirror (i:=lo) (j:=lo+m) (by lia) (by lia) hsz;have N:=v.turn (Z:=Z) (lo:=lo) (n:=m) (by lia);refine wpS_bind (UK (Z:=Z) (lo:=lo) (λx f G H=>?_) (by lia) u N λO B e o _=>wpS_pure (h O _ d (by lia) e o));dsimp only;refine wpS_bind (V6 C D d.S (by lia) (by lia) ?_);dsimp only;cases Z.blt (KK Z _ (lo+f)) (KK Z _ (lo+f - 1))
    .exact wpS_pure ⟨rfl,rfl⟩
    .exact wpS_pure ⟨rfl,rfl⟩
theorem Lo.bubble{st0 st:IK}{lo n b d:Nat}(h:Lo Z kd a₀ st0 lo n st)(h1:lo+d<=b)(h2:b<lo+n)(e:lo+n<=a₀.size):Lo Z kd a₀ st0 lo n (setArr st (bubble (arrOf st) b d)):=by
 refine⟨⟨(Array.perm_iff_toList_perm.mp (bubble_perm _ _ _)).trans h.S.perm,h.S.kind,h.S.failed⟩,h.pend,λt c=>?_⟩;show(PyProof.Rows.bubble (arrOf st) b d)[t]?=_;have:=h.S.size;rw[getElem?_bubble (by lia) d (by lia),AI (by lia),AI (by lia)];exact h.out t c
theorem Eo(C:RO prog w A s Z kd)(H:KeysOf Z a₀){st0 st:IK}{lo g n v:Nat}{Q:Bool->IK->Prop}(J:Lo Z kd a₀ st0 lo g st)(hsz:lo+g<=a₀.size)(U:n<=g)(K:v<=n)(L:SI Z (arrOf st) lo v)
  (h:∀b,Lo Z kd a₀ st0 lo g b->SI Z (arrOf b) lo n->Q true b):wpS (model prog w) A E s (binarySort' lo n v) Q st:=by
 rw[binarySort'_eq];refine wpS_bind (wpS_mono (wpS_forRange (I:=λk c b=>c =(none,())/\Lo Z kd a₀ st0 lo g b/\SI Z (arrOf b) lo (min k n))
  (Q:=λc b=>c =(none,())/\Lo Z kd a₀ st0 lo g b/\SI Z (arrOf b) lo n) ?step ?fin ?init) ?post)
 case post =>
  rintro c b ⟨rfl,m,f⟩;exact wpS_pure (h b m f)
 case init =>
  refine⟨rfl,J,λi j y M=>?_⟩;by_cases B:v=0
  .have:i=j:=by lia
   subst this;exact KeyOrd.kle_refl _
  .exact L i j y (by lia)
 case fin =>
  rintro c b ⟨N,m,f⟩;refine⟨N,m,?_⟩
  rwa [show min (max (max v 1) n) n=n by lia]at f
 case step =>
  rintro k c b O P ⟨rfl,m,f⟩;rw[show min k n=k by lia]at f;dsimp only;refine wpS_bind (wpS_mono (wpS_forRange (I:=λx c d=>d=b/\∃l r,c =(none,l,r)/\l<=r/\r<=k/\r-l<=k-x /\
    (∀i,i<l->Z.kle (KK Z (arrOf b) (lo+i)) (KK Z (arrOf b) (lo+k)))/\(∀i,r<=i->i<k->Z.klt (KK Z (arrOf b) (lo+k)) (KK Z (arrOf b) (lo+i))))
   (Q:=λc d=>d=b/\∃l r,c =(none,l,r)/\l<=k /\
    (∀i,i<l->Z.kle (KK Z (arrOf b) (lo+i)) (KK Z (arrOf b) (lo+k)))/\(∀i,l<=i->i<k->Z.klt (KK Z (arrOf b) (lo+k)) (KK Z (arrOf b) (lo+i)))) ?istep ?ifin ?iinit) ?ipost)
  case iinit=>exact⟨rfl,0,k,rfl,by lia,by lia,by lia,λi V=>by lia,λi B G=>by lia⟩
  case ifin =>
   rintro c d ⟨rfl,l,r,rfl,D,u,F,o,p⟩;have:l=r:=by lia
   subst this;exact⟨rfl,l,l,rfl,u,o,p⟩
  case istep =>
   rintro x c d _ R ⟨rfl,l,r,rfl,D,u,F,o,p⟩;dsimp only;by_cases t:l ≥ r
   .rw[AO t];have:l=r:=by lia
    subst this;exact wpS_pure ⟨rfl,l,l,rfl,u,o,p⟩
   .rw[AI t];refine wpS_bind (V6 C H m.S (by lia) (by lia) ?_);dsimp only;cases q:Z.blt (KK Z (arrOf d) (lo+k)) (KK Z (arrOf d) (lo +(l+r) / 2))
    case true =>
     simp only[GL];refine wpS_pure ⟨rfl,l,(l+r) / 2,rfl,by lia,by lia,zBb (Nat.lt_of_not_le t) F,o,λi B G=>?_⟩;exact KeyOrd.klt_of_klt_of_kle q (f _ _ B G)
    case false =>
     simp only[BD,CQ];refine wpS_pure ⟨rfl,(l+r) / 2+1,r,rfl,by lia,by lia,zBa (Nat.lt_of_not_le t) F,λi B=>?_,p⟩;exact KeyOrd.kle_trans (f i ((l+r) / 2) (by lia) (by lia)) (show Z.kle _ _ from q)
  case ipost =>
   rintro c d ⟨rfl,l,r,rfl,T,o,p⟩;have W:=m.S.size;show wpS _ _ _ _ (do moveDown' (lo+k) (lo+l);pure (ForInStep.yield (none,()))) _ _;rw[moveDown'_eq];refine wpS_bind (wpS_modify (wpS_pure ⟨rfl,m.bubble (by lia) (by lia) hsz,?_⟩));rw[show min (k+1) n=k+1 by lia];intro i j y M;show Z.kle (KK Z (bubble (arrOf d) (lo+k) (lo+k-(lo+l))) (lo+i)) (KK Z (bubble (arrOf d) (lo+k) (lo+k-(lo+l))) (lo+j));rw[KK_bubble (by lia) (by lia),KK_bubble (by lia) (by lia),show lo+k-(lo+k-(lo+l))=lo+l by lia];have e:∀z,1<=z->lo+z-1=lo +(z-1):=λz _=>by lia
   repeat' split
   all_goals first
    | (exfalso;lia)
    | exact KeyOrd.kle_refl _
    | exact o _ (by lia)
    | exact KeyOrd.kle_of_klt (p _ (by lia) (by lia))
    | exact f _ _ (by lia) (by lia)
    | (rw[e j (by lia)];exact KeyOrd.kle_of_klt (p _ (by lia) (by lia)))
    | (rw[e i (by lia)];exact o _ (by lia))
    | (rw[e j (by lia)];exact f _ _ (by lia) (by lia))
    | (rw[e i (by lia),e j (by lia)];exact f _ _ (by lia) (by lia))
    | (rw[e i (by lia)];exact f _ _ (by lia) (by lia))
end
abbrev Run:=Nat×Nat×Nat
def NE:A0 Run->Nat->Nat->Prop
 | [],a,b=>a=b
 | x::r,a,b=>x.1=a/\1<=x.2.1/\NE r (a+x.2.1) b
def NE.app:∀{i l2:A0 Run} {a b:Nat},NE (i++l2) a b↔∃c,NE i a c/\NE l2 c b
 | [],l2,a,b=>⟨λh=>⟨a,rfl,h⟩,λ⟨c,d,e⟩=>by have:a=c:=d;subst this;exact e⟩
 | x::r,l2,a,b=>by
  constructor
  .rintro⟨d,e,j⟩;obtain⟨c,f,g⟩:=NE.app.mp j;exact⟨c,⟨d,e,f⟩,g⟩
  .rintro⟨c,⟨d,e,f⟩,g⟩;exact⟨d,e,NE.app.mpr ⟨c,f,g⟩⟩
def NE.le:∀{l:A0 Run} {a b:Nat},NE l a b->a+l.length<=b
 | [],a,b,h=>by have:a=b:=h;subst this;simp
 | x::r,a,b,⟨d,e,c⟩=>by have:=NE.le c;rw[BQ];lia
def NE.mem:∀{l:A0 Run} {a b:Nat} {x:Run},NE l a b->x∈l->a<=x.1/\x.1+x.2.1<=b
 | [],_,_,_,_,hx=>absurd hx (by simp)
 | y::r,a,b,x,⟨d,f,c⟩,hx=>by
  have g:=NE.le c;rcases AV.mp hx with e | hx
  .subst e;lia
  .have:=NE.mem c hx;lia
def zIz{l:A0 Run}{i:Nat}{x y:Run}(a:l[i]?=some x)(b:l[i+1]?=some y):l=l.take i++x::y::l.drop (i+2):=by
 obtain⟨c,rfl⟩:=AK.mp a;obtain⟨d,rfl⟩:=AK.mp b
 conv=>lhs;rw[<-CA i l]
 rw[EK c,EK d]
def zHe{l:A0 Run}{i:Nat}{x y:Run}(z:Run)(a:l[i]?=some x)(b:l[i+1]?=some y):(l.set i z).eraseIdx (i+1)=l.take i++z::l.drop (i+2):=by
 obtain⟨d,_⟩:=AK.mp a;obtain⟨f,_⟩:=AK.mp b;have e:=zIz a b;have c:(l.take i).length=i:=by rw[AX];lia
 generalize l.take i=p at *;generalize l.drop (i+2)=q at *;subst e;rw[List.set_append_right _ _ (by lia),c,Nat.sub_self,List.eraseIdx_append_of_length_le (by lia),c,show i+1-i=1 by lia];rfl
section
variable{prog:IE}{w:IJ}{A:IM}{E:A2->A4->Prop}{s:A4}{Z:KeyKind}{kd:KC}{a₀:IG IH}
structure RI(Z:KeyKind)(kd:KC)(a₀:IG IH)(lo:Nat)(st:IK):Prop where
 S:St Z kd a₀ st
 cov:NE (pendingOf st).toList 0 lo
 sor:∀x∈(pendingOf st).toList,LL Z (JX (arrOf st).toList x.1 x.2.1)
theorem La(C:RO prog w A s Z kd)(I:KeysOf Z a₀){st:IK}{lo i:Nat}{Q:Bool->IK->Prop}(R:RI Z kd a₀ lo st)(J:lo<=a₀.size)(hi:i+1 <(pendingOf st).size)
  (h:∀b,RI Z kd a₀ lo b->(pendingOf b).size+1 =(pendingOf st).size->LR Z (arrOf st).toList (arrOf b).toList 0 lo->Q true b):wpS (model prog w) A E s (mergeAt' i) Q st:=by
 obtain⟨⟨g,d,q⟩,u⟩:∃x,(pendingOf st)[i]?=some x:=⟨_,getElem?_pos _ i (by lia)⟩;obtain⟨⟨K,f,r⟩,n⟩:∃x,(pendingOf st)[i+1]?=some x:=⟨_,getElem?_pos _ (i+1) hi⟩;have j:(pendingOf st).toList[i]?=some (g,d,q):=by rw[BK];exact u
 have k:(pendingOf st).toList[i+1]?=some (K,f,r):=by rw[BK];exact n
 have e:=zIz j k;have c:=R.cov;rw[e]at c;obtain⟨v,B,L⟩:=NE.app.mp c;obtain⟨D,F,M,G,o⟩:=L;dsimp only at D F M G o;have N:=NE.le o;refine Kj C I R.S u n (by lia) (by lia) F G (R.sor _ (AZ j)) (R.sor _ (AZ k)) λb O p P T=>?_;have t:(pendingOf b).toList =(pendingOf st).toList.take i ++(g,d+f,q) ::(pendingOf st).toList.drop (i+2):=by
  rw[T,<-zHe (g,d+f,q) j k];simp
 refine h b ⟨O,?_,λx l=>?_⟩ ?_ ?_
 .rw[t];exact NE.app.mpr ⟨v,B,D,(by show 1<=d+f;lia),(by show NE _ (v +(d+f)) lo;rw[<-Nat.add_assoc];exact o)⟩
 .rw[t]at l;have m:∀y∈(pendingOf st).toList,(y.1+y.2.1<=g\/g +(d+f)<=y.1)->LL Z (JX (arrOf b).toList y.1 y.2.1):=λy n ho=>by
   have:=R.sor y n;rcases ho with ho | ho
   .rw[p.seg_front ho];exact this
   .rw[p.seg_back ho];exact this
  rcases AN.mp l with hm | hm
  .have:=NE.mem B hm;exact m x (DG hm) (.inl (by lia))
  .rcases AV.mp hm with hm | hm
   .subst hm;exact P
   .have:=NE.mem o hm;exact m x (EV hm) (.inr (by lia))
 .have:=congrArg List.length t;rw[AU,AS,BQ,AX,DJ,AU]at this;lia
 .have H:∀z:A0 IH,z.drop (0+lo) =(z.drop (g +(d+f))).drop (lo-(g +(d+f))):=λz=>by
   rw[FG];congr 1;lia
  exact⟨p.perm,rfl,by rw[H,H,p.back]⟩
theorem Cs{l:IG Run}{a:Nat}:(l.modify (l.size-1) λx=>(x.1,x.2.1,a)).toList.map (λx:Run=>(x.1,x.2.1))=l.toList.map λx:Run=>(x.1,x.2.1):=by
 refine FN λt=>?_;rw[AJ,AJ,BK,BK,Array.getElem?_modify];split
 .cases l[t]?<;>rfl
 .rfl
theorem NE.congr:∀{l c:A0 Run} {a b:Nat},c.map (λx:Run=>(x.1,x.2.1))=l.map (λx:Run=>(x.1,x.2.1))->NE l a b->NE c a b
 | [],[],_,_,_,h=>h
 | [],_::_,_,_,e,_=>by simp at e
 | _::_,[],_,_,e,_=>by simp at e
 | x::r,y::n,a,b,e,⟨f,g,i⟩=>by
  rw[BM,BM]at e;obtain⟨j,k⟩:=IA e;obtain⟨m,d⟩:=Prod.mk.inj j;exact⟨m.trans f,by rw[d];exact g,by rw[d];exact NE.congr k i⟩
theorem RI.congr{lo:Nat}{st:IK}(R:RI Z kd a₀ lo st){p:IG Run}(e:p.toList.map (λx:Run=>(x.1,x.2.1)) =(pendingOf st).toList.map λx:Run=>(x.1,x.2.1)):RI Z kd a₀ lo (setPending st p):=by
 refine⟨⟨R.S.perm,R.S.kind,R.S.failed⟩,NE.congr e R.cov,λx b=>?_⟩;have:(x.1,x.2.1)∈(pendingOf st).toList.map λx:Run=>(x.1,x.2.1):=by
  rw[<-e];exact BJ.mpr ⟨x,b,rfl⟩
 obtain⟨y,c,d⟩:=BJ.mp this;obtain⟨f,g⟩:=Prod.mk.inj d;have:=R.sor y c;rw[f,g]at this;exact this
theorem Hb(C:RO prog w A s Z kd)(v:KeysOf Z a₀){st:IK}{Q:Unit->IK->Prop}(hS:St Z kd a₀ st)(hp:pendingOf st = #[])
  (h:∀d,St Z kd a₀ d->LL Z (arrOf d).toList->Q () d):wpS (model prog w) A E s sortRuns' Q st:=by
 rw[sortRuns'_eq];refine wpS_bind (wpS_get ?_);dsimp only;have hz:=hS.size;rw[hz];generalize minRun' a₀.size a₀.size 0=B;refine wpS_bind (wpS_mono (wpS_forRange (I:=λx c d=>∃lo,c =(none,lo)/\RI Z kd a₀ lo d/\lo<=a₀.size/\min x a₀.size<=lo)
  (Q:=λc d=>∃lo,c =(none,lo)/\RI Z kd a₀ lo d/\lo=a₀.size) ?st ?en ⟨0,rfl,⟨hS,by rw[hp];rfl,λx K=>by rw[hp]at K;exact absurd K (by simp)⟩,BZ _,by lia⟩) ?po)
 case en =>
  rintro c d ⟨lo,rfl,R,P,h2⟩;exact⟨lo,rfl,R,by lia⟩
 case po =>
  rintro c d ⟨lo,rfl,R,rfl⟩;dsimp only;refine wpS_bind (wpS_mono (wpS_forRange (I:=λx c d=>c =(none,())/\RI Z kd a₀ a₀.size d/\(pendingOf d).size+x<=a₀.size+1)
   (Q:=λc d=>c =(none,())/\RI Z kd a₀ a₀.size d/\(pendingOf d).size<=1) ?st3 ?en3 ⟨rfl,R,?in3⟩) ?po3)
  case in3 =>
   have:=NE.le R.cov;rw[AU]at this;lia
  case en3 =>
   rintro c e ⟨rfl,R2,g⟩;exact⟨rfl,R2,by lia⟩
  case po3 =>
   rintro c e ⟨rfl,R2,g⟩;refine wpS_pure (h e R2.S ?_);have c:=R2.cov;have L:=R2.sor;have hz2:=R2.S.size;have M:(pendingOf e).toList.length<=1:=by rw[AU];exact g
   generalize (pendingOf e).toList=l at c L M
   match l,c,L,M with
   | [],c,_,_ =>
    have c':0=a₀.size:=c;have:(arrOf e).toList = []:=List.eq_nil_of_length_eq_zero (by rw[AU];lia);rw[this];exact List.Pairwise.nil
   | [x],⟨c1,c2,c3⟩,L,_ =>
    have c3':0+x.2.1=a₀.size:=c3;have:=L x (AE.mpr rfl);unfold JX at this;rw[c1,EW,DT (by rw[AU];lia)]at this;exact this
   | _::_::_,_,_,M=>exact absurd M (by simp)
  case st3 =>
   rintro x c e _ K ⟨rfl,R2,g⟩
   try dsimp only
   refine wpS_bind (wpS_get ?_);by_cases r:(pendingOf e).size<=1
   .rw[AO r];exact wpS_pure ⟨rfl,R2,r⟩
   rw[AI r];refine wpS_bind (La C v R2 (VD _) ?_ λst3 R3 e3 _=>?_)
   .have T:∀{c:Prop} [Decidable c] {n:Nat},(if c then n-1 else n)+1<=n+1:=by intro c _ n;split<;>lia
    exact Nat.lt_of_le_of_lt T (by lia)
   .simp only[ET,BD,CQ];exact wpS_pure ⟨rfl,R3,by lia⟩
 case st =>
  rintro x c d _ K ⟨lo,rfl,R,P,h2⟩;dsimp only;by_cases D:lo ≥ a₀.size
  .rw[AO D];exact wpS_pure ⟨lo,rfl,R,by lia⟩
  rw[AI D];refine wpS_bind (Hu C v R.S (by lia) (by lia) λm e L2 hm1 hm2 t=>?_);dsimp only;by_cases F:m<B
  .rw[AO F];refine wpS_bind (wpS_lift (DN ⟨rfl,?_⟩));refine wpS_bind (Eo C v L2 (by lia) (show min (a₀.size-lo) B<=a₀.size-lo by lia) (by lia) t λq O U=>?_);simp only[ET,BD,CQ];have hN:1<=min (a₀.size-lo) B/\min (a₀.size-lo) B<=a₀.size-lo:=by lia
   generalize min (a₀.size-lo) B=N at hN U⊢;have G:RI Z kd a₀ lo q:=by
    refine⟨O.S,by rw[O.pend];exact R.cov,λy k=>?_⟩;rw[O.pend]at k;have hc:=NE.mem R.cov k;rw[(O.part R.S).seg_front (by lia)];exact R.sor y k
   refine wpS_bind (wpS_get ?_);have i:∀(b:IK),RI Z kd a₀ lo b->LL Z (JX (arrOf b).toList lo N)->RI Z kd a₀ (lo+N) (setPending b ((pendingOf b).push (lo,N,0))):=λb f V=>by
    refine⟨⟨f.S.perm,f.S.kind,f.S.failed⟩,?_,λy k=>?_⟩
    .show NE ((pendingOf b).push (lo,N,0)).toList 0 (lo+N);rw[DF];exact NE.app.mpr ⟨lo,f.cov,rfl,(by show 1<=N;lia),rfl⟩
    .have hy':y∈((pendingOf b).push (lo,N,0)).toList:=k;rw[DF]at hy';rcases AN.mp hy' with hy' | hy'
     .exact f.sor y hy'
     .rw[AE.mp hy'];exact V
   cases W:(pendingOf q).back? with
   | none =>
    dsimp only;refine wpS_bind (wpS_modify (wpS_pure ⟨_,rfl,i _ G U.sor,by lia,by lia⟩))
   | some X =>
    obtain⟨H,u,pb⟩:=X;dsimp only;generalize power' a₀.size (2*H+u) (2*H+u+u+N) a₀.size=Y;refine wpS_bind (wpS_mono (wpS_forRange (I:=λx c b=>c =(none,())/\RI Z kd a₀ lo b/\LR Z (arrOf q).toList (arrOf b).toList 0 lo)
     (Q:=λc b=>c =(none,())/\RI Z kd a₀ lo b/\LR Z (arrOf q).toList (arrOf b).toList 0 lo) ?stc1 (λ_ _ z=>z) ⟨rfl,G,LR.refl _ _ _⟩) ?poc1)
    case stc1 =>
     rintro x' c b _ _ ⟨rfl,f,j⟩
     try dsimp only
     refine wpS_bind (wpS_get ?_);by_cases o:(pendingOf b).size>1
     .rw[AO o];obtain⟨⟨u1,u2,ol⟩,hu⟩:∃y,(pendingOf b)[(pendingOf b).size-2]?=some y:=⟨_,getElem?_pos _ _ (by lia)⟩;rw[hu];dsimp only;by_cases p:ol<=Y
      .rw[AO p];exact wpS_pure ⟨rfl,f,j⟩
      rw[AI p];refine wpS_bind (La C v f P (by lia) λst7 R7 _ J=>?_);simp only[ET,BD,CQ];exact wpS_pure ⟨rfl,R7,⟨J.perm.trans j.perm,rfl,J.back.trans j.back⟩⟩
     .rw[AI o];exact wpS_pure ⟨rfl,f,j⟩
    case poc1 =>
     rintro c b ⟨rfl,f,j⟩;dsimp only;refine wpS_bind (wpS_modify (wpS_bind (wpS_modify (wpS_pure ⟨_,rfl,i _ (f.congr Cs) ?_,by lia,by lia⟩))));show LL Z (JX (arrOf b).toList lo N);rw[j.seg_back (by lia)];exact U.sor
  .rw[AI F];have G:RI Z kd a₀ lo e:=by
    refine⟨L2.S,by rw[L2.pend];exact R.cov,λy k=>?_⟩;rw[L2.pend]at k;have hc:=NE.mem R.cov k;rw[(L2.part R.S).seg_front (by lia)];exact R.sor y k
   refine wpS_bind (wpS_get ?_);have i:∀(b:IK),RI Z kd a₀ lo b->LL Z (JX (arrOf b).toList lo m)->RI Z kd a₀ (lo+m) (setPending b ((pendingOf b).push (lo,m,0))):=λb f V=>by
    refine⟨⟨f.S.perm,f.S.kind,f.S.failed⟩,?_,λy k=>?_⟩
    .show NE ((pendingOf b).push (lo,m,0)).toList 0 (lo+m);rw[DF];exact NE.app.mpr ⟨lo,f.cov,rfl,(by show 1<=m;lia),rfl⟩
    .have hy':y∈((pendingOf b).push (lo,m,0)).toList:=k;rw[DF]at hy';rcases AN.mp hy' with hy' | hy'
     .exact f.sor y hy'
     .rw[AE.mp hy'];exact V
   cases W:(pendingOf e).back? with
   | none =>
    dsimp only;refine wpS_bind (wpS_modify (wpS_pure ⟨_,rfl,i _ G t.sor,by lia,by lia⟩))
   | some X =>
    obtain⟨H,u,pb⟩:=X;dsimp only;generalize power' a₀.size (2*H+u) (2*H+u+u+m) a₀.size=Y;refine wpS_bind (wpS_mono (wpS_forRange (I:=λx c b=>c =(none,())/\RI Z kd a₀ lo b/\LR Z (arrOf e).toList (arrOf b).toList 0 lo)
     (Q:=λc b=>c =(none,())/\RI Z kd a₀ lo b/\LR Z (arrOf e).toList (arrOf b).toList 0 lo) ?stc2 (λ_ _ z=>z) ⟨rfl,G,LR.refl _ _ _⟩) ?poc2)
    case stc2 =>
     rintro x' c b _ _ ⟨rfl,f,j⟩
     try dsimp only
     refine wpS_bind (wpS_get ?_);by_cases o:(pendingOf b).size>1
     .rw[AO o];obtain⟨⟨u1,u2,ol⟩,hu⟩:∃y,(pendingOf b)[(pendingOf b).size-2]?=some y:=⟨_,getElem?_pos _ _ (by lia)⟩;rw[hu];dsimp only;by_cases p:ol<=Y
      .rw[AO p];exact wpS_pure ⟨rfl,f,j⟩
      rw[AI p];refine wpS_bind (La C v f P (by lia) λst7 R7 _ J=>?_);simp only[ET,BD,CQ];exact wpS_pure ⟨rfl,R7,⟨J.perm.trans j.perm,rfl,J.back.trans j.back⟩⟩
     .rw[AI o];exact wpS_pure ⟨rfl,f,j⟩
    case poc2 =>
     rintro c b ⟨rfl,f,j⟩;dsimp only;refine wpS_bind (wpS_modify (wpS_bind (wpS_modify (wpS_pure ⟨_,rfl,i _ (f.congr Cs) ?_,by lia,by lia⟩))));show LL Z (JX (arrOf b).toList lo m);rw[j.seg_back (by lia)];exact t.sor
end
def kd1(Z:KeyKind)(v:A2):Z.α:=(Z.keyOf v).getD Z.dflt
def US(a:A3)(s c:A4):Prop:=∀b o,b≠a->s.heap.get? b=some o->c.heap.get? b=some o
structure SU(prog:IE)(w:IJ)(a:A3)(s:A4)(Z:KeyKind)(kd:KC)(vs:A0 A2):Prop where
 cmp:∀(A:IM) (s':A4),US a s s'->RO prog w A s' Z kd
 key:∀v∈vs,∃k,Z.keyOf v=some k
 kind:2<=vs.length->∀(A:IM) (E:A2->A4->Prop) (s':A4) (Q:KC->A4->Prop),US a s s'->Q kd s'->wpAny (model prog w) A (keyKind' vs.toArray) Q E s'
def Out(Z:KeyKind)(vs:A0 A2)(out:IG A2):Prop:=out.toList.Perm vs/\out.toList.Pairwise λu v=>Z.kle (kd1 Z u) (kd1 Z v)
theorem Zn{vs:A0 A2}{xs:IG IH}(a:xs.toList.Perm (pairsOf vs).toList)(b:LL Z xs.toList):Out Z vs (xs.map (·.2)):=by
 rw[pairsOf_toList]at a;have c:∀p∈xs.toList,p.1=p.2:=λp h=>(mem_zip_self (a.mem_iff.mp h)).1;have e:(xs.map (·.2)).toList=xs.toList.map (·.1):=by
  rw[Array.toList_map];exact G_ λp h=>(c p h).symm
 refine⟨?_,?_⟩
 .rw[e];have:=a.map Prod.fst
  rwa [List.map_fst_zip (VD _)]at this
 .rw[e,CU];exact b
theorem Gj{a:A3}{vs:A0 A2}{n:Nat}{P:Fin->A4->Prop}(k:s.heap.get? a=some (seqObj "list" vs.toArray n))(hz:vs.length<=sizeLine)(K:SU prog w a s Z kd vs)
  (h:∀out:IG A2,Out Z vs out->P (.done (.ret .none)) { s with heap:=sortedHeap s.heap a vs out }) :
  wpAny (model prog w) A (Builtin.«list.sort» ⟨[.ref a],[]⟩) P E s:=by
 rw[list_sort_plain];have m:a<s.heap.objs.size:=AG k;have i:vs.toArray.size=vs.length:=by simp
 refine AA (listItems_at k rfl ?_);refine AA (listUpdate_at k rfl ?_ (by rw[i];exact hz) (by simp));obtain⟨l,j⟩:∃l,(s.heap.update a (Obj.mapSeq λ_=>#[])).get? a=some (seqObj "list" #[] l):=⟨_,get?_update_seq k (λ_=>#[])⟩;refine AA (seqEpoch_at j rfl ?_);refine AA (GQ ?_ (by simpa using hz));refine AA (wpAny_newList ?_);refine BN ?_;have d:(((s.heap.update a (Obj.mapSeq λ_=>#[])).push (seqObj "tuple" vs.toArray 0)).push (seqObj "list" #[] 0)).get? a=some (seqObj "list" #[] l):=by
  rw[Heap.get?_push_ne _ _ _ (by rw[size_push',GS];exact BB (EZ m)),Heap.get?_push_ne _ _ _ (by rw[GS];exact BB m)];exact j
 show wpAny (model prog w) A _ P E { s with heap:=((s.heap.update a (Obj.mapSeq λ_=>#[])).push (seqObj "tuple" vs.toArray 0)).push (seqObj "list" #[] 0) };dsimp only;have q:US a s { s with heap:=((s.heap.update a (Obj.mapSeq λ_=>#[])).push (seqObj "tuple" vs.toArray 0)).push (seqObj "list" #[] 0) }:=λb o r e =>
  AD _ (AD _ ((BF s.heap _ (Ne.symm r)).trans e))
 by_cases f:vs.toArray.size<2
 .rw[AO f,AO f];refine AA (AC ?_);rw[StateT.run_pure];refine AA (AC ?_);dsimp only;refine AA (seqEpoch_at d rfl ?_);refine AA (listUpdate_at d rfl ?_ (by simp) (by rw[HR];show(pairsOf vs).size<=_;rw[pairsOf_size];lia));simp only[bne_self_eq_false,BD,CQ];refine AC (h _ (Zn (Z:=Z) (xs:=pairsOf vs) (List.Perm.refl _) ?_));rw[pairsOf_toList];rw[i]at f
  match vs,f with
  | [],_=>exact List.Pairwise.nil
  | [v],_=>exact List.pairwise_singleton _ _
  | _::_::_,f=>simp at f;lia
 .rw[AI f,AI f];refine AA (K.kind (by lia) A E _ _ q ?_);refine AA (BS (Hb (K.cmp A _ q) (a₀:=pairsOf vs) (st:=SortSt.mk' kd (vs.toArray.zip vs.toArray) #[] 7 none)
   (Q:=λ_ c=>St Z kd (pairsOf vs) c/\LL Z (arrOf c).toList)
   (λp g=>?_) ⟨List.Perm.refl _,rfl,rfl⟩ rfl λc t u=>⟨t,u⟩) ?_ λ_ _ e=>e)
  .rw[pairsOf_toList]at g;exact K.key _ (mem_zip_self g).2
  rintro⟨⟨⟩,c⟩ y ⟨rfl,g,x⟩;dsimp only;refine AA (seqEpoch_at d rfl ?_);refine AA (listUpdate_at d rfl ?_ (by simp) (by rw[HR];show(arrOf c).size<=_;rw[g.size,pairsOf_size];lia));rw[show failedOf c=none from g.failed];simp only[bne_self_eq_false,BD,CQ];exact AC (h _ (Zn g.perm x))
theorem LF{x:A2}{Q:A2->A4->Prop}
  (g:wpAny (model prog w) A.in1 (collect x) (λvs s1=>s1.os=s.os/\vs.length<=sizeLine/\(∃(Z:KeyKind) (kd:KC),(∀d:A4,US s1.heap.objs.size s1 d->SU prog w s1.heap.objs.size d Z kd vs) /\
   ∀(out:IG A2) (h':IP) (e:Nat),Out Z vs out->(∀b o,s1.heap.get? b=some o->h'.get? b=some o)->h'.get? s1.heap.objs.size=some (seqObj "list" out e)->Q (.ref s1.heap.objs.size) { s1 with heap:=h' })) E s) :
  wpAny (model prog w) A (call (.builtin "sorted") [x]) Q E s:=by
 refine Calls.call_function_entry kind_sorted plain_sorted entry_sorted (args_sorted1 _) ?_;unfold Builtin.«sorted»;refine AA (m:=checkCount "sorted" 1 1 _) (AC ?_);refine AA (BS g (λvs s1 ⟨i,j,Z,kd,K,q⟩=>?_) λ_ _ z=>z);refine AA (wpAny_newList ?_);have a:(s1.heap.push (seqObj "list" vs.toArray 0)).get? s1.heap.objs.size=some (seqObj "list" vs.toArray 0):=AY _ rfl;show wpAny _ _ _ _ _ { s1 with heap:=s1.heap.push (seqObj "list" vs.toArray 0) };have k:US s1.heap.objs.size s1 { s1 with heap:=s1.heap.push (seqObj "list" vs.toArray 0) }:=λb o _ e=>AD _ e;refine AA (BN (CG slot_list_sort ⟨_,a,rfl⟩ entry_list_sort (Gj (s:={ s1 with heap:=s1.heap.push (seqObj "list" vs.toArray 0) }) a j (K _ k) λout l=>⟨_,rfl,?_⟩) (args_list_sort _)));obtain⟨e,n⟩:=sortedHeap_at (h:=s1.heap.push (seqObj "list" vs.toArray 0)) (out:=out) a;refine AC ⟨_,rfl,q out _ e l (λb o f=>?_) n⟩;have c:=AG f;rw[sortedHeap_old (BB c) (by rw[size_push'];exact EZ c)];exact AD _ f
theorem NC{a:A3}{vs:A0 A2}{ss:A0 Str}(b:StrsAre vs ss):SU prog w a s strKind oneType' vs:=by
 refine⟨λA c _=>⟨λx y k l Q E d e q=>?_⟩,λv f=>?_,λg A E c Q _ q=>?_⟩
 .rw[keyLt'_oneType];exact strKind_oneLt prog w A E c x y k l d e q
 .obtain⟨x,t,rfl⟩:=b.all v f;exact⟨_,rfl⟩
 .match vs,g,b with
  | v1::h::r,_,b =>
   rw[keyKind_strs b];exact AC q
def JS(a b:A0 Nat×A0 Nat):Bool:=decide (a.1<b.1)||(decide (a.1=b.1)&&decide (a.2<b.2))
theorem JH{a b:A0 Nat×A0 Nat}:JS a b=true↔a.1<b.1\/(a.1=b.1/\a.2<b.2):=by
 unfold JS;simp
theorem UN(a b:A0 Nat):a<b\/a=b\/b<a:=by
 by_cases h:a<b
 .exact .inl h
 .by_cases c:b<a
  .exact .inr (.inr c)
  .exact .inr (.inl (HY (List.not_lt.mp c) (List.not_lt.mp h)))
def Rx:A0 A2->A5 (A0 Nat×A0 Nat)
 | [.str x _,.str y _]=>some (x.cps.toList,y.cps.toList)
 | _=>none
def Sc(c:A2):Data->A5 (A0 Nat×A0 Nat)
 | .seq a _=>if c = .type "tuple" then Rx a.toList else none
 | _=>none
def OE(h:IP):A2->A5 (A0 Nat×A0 Nat)
 | .ref p=>(h.get? p).bind λo=>Sc o.cls o.data
 | _=>none
@[reducible] def pairKind(h:IP):KeyKind where
 α:=A0 Nat×A0 Nat
 blt:=JS
 irrefl a:=by
  rw[ED];intro z;rcases JH.mp z with z | ⟨_,z⟩
  .exact List.lt_irrefl _ z
  .exact List.lt_irrefl _ z
 trans a b c e d:=by
  rw[JH]at *;rcases e with e | ⟨e,f⟩
  .rcases d with d | ⟨d,_⟩
   .exact .inl (List.lt_trans e d)
   .exact .inl (d▸e)
  .rcases d with d | ⟨d,g⟩
   .exact .inl (e▸d)
   .exact .inr ⟨e.trans d,List.lt_trans f g⟩
 negTrans a b c h:=by
  rw[JH]at h;simp only[JH];rcases h with h | ⟨h,i⟩
  .rcases UN a.1 b.1 with q | q | q
   .exact .inl (.inl q)
   .exact .inr (.inl (q▸h))
   .exact .inr (.inl (List.lt_trans q h))
  .rcases UN a.1 b.1 with q | q | q
   .exact .inl (.inl q)
   .rcases UN a.2 b.2 with r | r | r
    .exact .inl (.inr ⟨q,r⟩)
    .exact .inr (.inr ⟨q▸h,r▸i⟩)
    .exact .inr (.inr ⟨q▸h,List.lt_trans r i⟩)
   .exact .inr (.inl (h▸q))
 total a b e d:=by
  rw[ED]at e d;rcases UN a.1 b.1 with q | q | q
  .exact absurd (JH.mpr (.inl q)) e
  .rcases UN a.2 b.2 with r | r | r
   .exact absurd (JH.mpr (.inr ⟨q,r⟩)) e
   .exact Prod.ext q r
   .exact absurd (JH.mpr (.inr ⟨q.symm,r⟩)) d
  .exact absurd (JH.mpr (.inl q)) d
 keyOf:=OE h
 dflt:=([],[])
def MZ(h:IP)(v:A2)(x y:Str):Prop:=∃p o n t u,v = .ref p/\h.get? p=some o/\o.cls = .type "tuple"/\o.data = .seq #[.str x t,.str y u] n
theorem MZ.key{h:IP}{v:A2}{x y:Str}(z:MZ h v x y):OE h v=some (x.cps.toList,y.cps.toList):=by
 obtain⟨p,o,n,t,u,rfl,e,c,d⟩:=z;show(h.get? p).bind (λo=>Sc o.cls o.data)=_;rw[e];show Sc o.cls o.data=_;rw[d,c];unfold Sc;exact(AO rfl).trans rfl
theorem zEo{l:A0 A2}{k:A0 Nat×A0 Nat}(e:Rx l=some k):∃x t y u,l = [.str x t,.str y u]:=by
 match l,e with
 | [.str x t,.str y u],_=>exact⟨x,t,y,u,rfl⟩
theorem Uo{h:IP}{v:A2}{k:A0 Nat×A0 Nat}(e:OE h v=some k):∃x y,MZ h v x y:=by
 match v,e with
 | .ref p,e =>
  have g:(h.get? p).bind (λo=>Sc o.cls o.data)=some k:=e;obtain⟨o,i,b⟩:=Option.bind_eq_some_iff.mp g;cases d:o.data with
  | seq f n =>
   rw[d]at b;have a:(if o.cls = .type "tuple" then Rx f.toList else none)=some k:=b;by_cases c:o.cls = .type "tuple"
   .rw[AO c]at a;obtain⟨x,t,y,u,j⟩:=zEo a;refine⟨x,y,p,o,n,t,u,rfl,i,c,?_⟩;rw[d];have:f = #[.str x t,.str y u]:=by rw[<-Array.toList_inj,j]
    rw[this]
   .rw[AI c]at a;cases a
  | _=>rw[d]at b;cases b
theorem Ma{h:IP}{v:A2}{k:A0 Nat×A0 Nat}{x y:Str}(z:MZ h v x y)(e:OE h v=some k):k =(x.cps.toList,y.cps.toList):=by
 rw[z.key]at e;exact(BU e).symm
theorem QY{a:A3}{vs:A0 A2}{F:IP}(B:∀v∈vs,∃x y,MZ F v x y)(C:∀b o,F.get? b=some o->b≠a/\s.heap.get? b=some o) :
  SU prog w a s (pairKind F) (tuples' true) vs:=by
 refine⟨λA G J=>⟨λx y k l Q E O P q=>?_⟩,λv K=>?_,λh2 A E G Q J q=>?_⟩
 .obtain⟨g,m,R⟩:=Uo O;obtain⟨f,i,S⟩:=Uo P;have Y:=Ma R O;have Z:=Ma S P;subst Y Z;obtain⟨px,ox,nx,t1,u1,rfl,U,_,d1⟩:=R;obtain⟨py,oy,ny,t2,u2,rfl,V,_,d2⟩:=S;have f1:=J _ _ (C _ _ U).1 (C _ _ U).2;have f2:=J _ _ (C _ _ V).1 (C _ _ V).2;refine PySem.W.kat_lt f1 d1 f2 d2 ?_;show PySem.W.KatLex prog w A true _ Q [(.str g t1,.str f t2),(.str m u1,.str i u2)] 0 G;refine PySem.W.kat_cons (wpAny_eqBool_str (PySem.W.kat_go (λj=>?_) λj=>?_))
  .have j:g=f:=by simpa using j
   refine PySem.W.kat_yes (PySem.W.kat_cons (wpAny_eqBool_str (PySem.W.kat_go (λh=>?_) λh=>?_)))
   .have h:m=i:=by simpa using h
    refine PySem.W.kat_yes (PySem.W.kat_nil ?_);have:JS (g.cps.toList,m.cps.toList) (f.cps.toList,i.cps.toList)=decide (2<2):=by
     rw[j,h];exact(pairKind F).irrefl (f.cps.toList,i.cps.toList)
    show Q (decide (2<2)) G;rw[<-this];exact q
   .refine PySem.W.kat_no (PySem.W.kat_one _ _ (lt_str ?_));have:JS (g.cps.toList,m.cps.toList) (f.cps.toList,i.cps.toList)=decide (m.cps.toList<i.cps.toList):=by
     rw[j];unfold JS;simp[List.lt_irrefl]
    show Q (decide (m.cps.toList<i.cps.toList)) G;rw[<-this];exact q
  .have j:¬g=f:=by simpa using j
   refine PySem.W.kat_no (oneLt_str ?_);have L:¬g.cps.toList=f.cps.toList:=λz=>j (by cases g;cases f;simp at z;simp[z]);have:JS (g.cps.toList,m.cps.toList) (f.cps.toList,i.cps.toList)=decide (g.cps.toList<f.cps.toList):=by
    unfold JS;simp[L]
   rw[<-this];exact q
 .obtain⟨x,y,z⟩:=B v K;exact⟨_,z.key⟩
 .have hT:∀(H:A0 A2),(∀v∈H,∃x y,MZ F v x y)->∃D,PySem.W.KatTups G.heap H D/\D.length=H.length/\∀v∈D,∃x t,v = .str x t:=by
   intro H
   induction H with
   | nil=>exact λ_=>⟨[],.nil,rfl,λv B=>by simp at B⟩
   | cons v r ih =>
    intro I;obtain⟨D,M,X,N⟩:=ih λu hu=>I u (AM _ hu);obtain⟨x,y,p,o,n,t,u,rfl,e,c,d⟩:=I v (BA ..);refine⟨.str x t::D,.cons (J _ _ (C _ _ e).1 (C _ _ e).2) c d rfl M,by simp[X],λz hz=>?_⟩;rcases AV.mp hz with rfl | hz
    .exact⟨x,t,rfl⟩
    .exact N z hz
  obtain⟨D,M,X,N⟩:=hT vs B;refine PySem.W.kat_kind (T:=.type "str") M (by lia) (λv B=>?_) (by rfl) q;obtain⟨x,t,rfl⟩:=N v B;exact .now
end
end TS
set_option Elab.async false
namespace L2
open PySem PySem.Spec PyProof.Rows
abbrev JB:=Sum Int Str
def Em:JB->A2->Bool
 | .inl k,v=>Value.isInt k v
 | .inr x,v=>Value.isStrOf x v
def zJt(w:IJ):JB->Int
 | .inl k=>hashInt k
 | .inr x=>hashStr w x
def J0:∀{k:JB} {v:A2},Em k v=true->(∃i t,k=Sum.inl i/\v=Value.int i t)\/(∃x t,k=Sum.inr x/\v=Value.str x t)
 | .inl i,v,h=>by
  obtain⟨t,e⟩:=Value.isInt_shape (k:=i) (v:=v) h;exact .inl ⟨i,t,rfl,e⟩
 | .inr x,v,h=>by
  obtain⟨t,e⟩:=Value.isStrOf_shape (x:=x) (v:=v) h;exact .inr ⟨x,t,rfl,e⟩
def Sj(i:Int)(t:Tok):Em (.inl i) (.int i t)=true:=by simp[Em,Value.isInt]
def d9(x:Str)(t:Tok):Em (.inr x) (.str x t)=true:=by simp[Em,Value.isStrOf]
def zDm(a b:Int):decide ((Sum.inl a:JB)=Sum.inl b) =(a == b):=by
 by_cases e:a=b
 .subst e;simp
 .have h:¬(Sum.inl a:JB)=Sum.inl b:=λq=>e (Sum.inl.inj q);rw[AL h];exact(beq_eq_false_iff_ne.mpr e).symm
def zEg(a b:Str):decide ((Sum.inr a:JB)=Sum.inr b)=decide (a=b):=by
 by_cases e:a=b
 .subst e;simp
 .have h:¬(Sum.inr a:JB)=Sum.inr b:=λq=>e (Sum.inr.inj q);rw[AL h,AL e]
def zCx(a:Int)(b:Str):decide ((Sum.inl a:JB)=Sum.inr b)=false:=AL (λq=>nomatch q)
def zEa(a:Str)(b:Int):decide ((Sum.inr a:JB)=Sum.inl b)=false:=AL (λq=>nomatch q)
def E5(prog:IE)(w:IJ):PySem.KeyKind prog w JB where
 is:=Em
 hash:=zJt w
 inj:=λv a b g f=>by
  rcases J0 g with⟨i,t,rfl,rfl⟩ | ⟨x,t,rfl,rfl⟩
  .rcases J0 f with⟨j,u,rfl,e⟩ | ⟨y,u,rfl,e⟩
   .injection e with c _;rw[c]
   .exact nomatch e
  .rcases J0 f with⟨j,u,rfl,e⟩ | ⟨y,u,rfl,e⟩
   .exact nomatch e
   .injection e with c _;rw[c]
 byValue:=λk v h=>by
  rcases J0 h with⟨i,t,rfl,rfl⟩ | ⟨x,t,rfl,rfl⟩<;>rfl
 pyHash:=λd h=>by
  rcases J0 d with⟨i,t,rfl,rfl⟩ | ⟨x,t,rfl,rfl⟩
  .exact wpAny_pyHash_int h
  .exact wpAny_pyHash_str h
 eqBool:=λl d h=>by
  rcases J0 l with⟨i,t,rfl,rfl⟩ | ⟨x,t,rfl,rfl⟩
  .rcases J0 d with⟨j,u,rfl,rfl⟩ | ⟨y,u,rfl,rfl⟩
   .rw[zDm]at h;exact wpAny_eqBool_int h
   .rw[zCx]at h;exact SeqAt.EqAt.int_str i t y u _ _ _ _ h
  .rcases J0 d with⟨j,u,rfl,rfl⟩ | ⟨y,u,rfl,rfl⟩
   .rw[zEa]at h;exact SeqAt.EqAt.str_int x t j u _ _ _ _ h
   .rw[zEg]at h;exact wpAny_eqBool_str h
 «strs»:=λk x t v h=>by
  rcases J0 h with⟨i,u,rfl,e⟩ | ⟨y,u,rfl,e⟩
  .exact nomatch e
  .injection e with c _;subst c;cases v<;>rfl
def Lf(prog:IE)(w:IJ)(i:Int)(t:Tok):(E5 prog w).is (.inl i) (.int i t)=true:=Sj i t
def Lh(prog:IE)(w:IJ)(x:Str)(t:Tok):(E5 prog w).is (.inr x) (.str x t)=true:=d9 x t
inductive V where
 | non | bl (b:Bool) | int (i:Int) | str (x:Str) | byt (b:IG UInt8) | flt (b:UInt64) | ref (a:A3) | ty (n:String)
 deriving DecidableEq
def RelV:V->A2->Prop
 | .non,u=>u=Value.none
 | .bl b,u=>u=Value.bool b
 | .int i,u=>∃t,u=Value.int i t
 | .str x,u=>∃t,u=Value.str x t
 | .byt b,u=>∃t,u=Value.bytes b t
 | .flt b,u=>∃t,u=Value.float b t
 | .ref a,u=>u=Value.ref a
 | .ty n,u=>u=Value.type n
abbrev IT:A0 V->A0 A2->Prop:=Paired RelV
def IT.length{xs:A0 V}{us:A0 A2}(r:IT xs us):xs.length=us.length:=Paired.length r
def IT.get:∀{xs:A0 V} {us:A0 A2} {i:Nat} {x:V},IT xs us->xs[i]?=some x->∃u,us[i]?=some u/\RelV x u
 | _,_,_,_,.nil,e=>by simp at e
 | _,_,0,_,.cons r _,e=>by simp at e;subst e;exact⟨_,rfl,r⟩
 | _,_,i+1,x,.cons _ t,e=>by
  obtain⟨u,a,b⟩:=IT.get (i:=i) (x:=x) t (by simpa using e);exact⟨u,by simpa using a,b⟩
def IT.set{x:V}{u:A2}(r:RelV x u):∀{xs:A0 V} {us:A0 A2} (i:Nat),IT xs us->IT (xs.set i x) (us.set i u)
 | _,_,_,.nil=>.nil
 | _,_,0,.cons _ t=>.cons r t
 | _,_,i+1,.cons q t=>.cons q (IT.set r i t)
def IT.append:∀{xs a:A0 V} {us b:A0 A2},IT xs us->IT a b->IT (xs++a) (us++b)
 | _,_,_,_,.nil,s=>s
 | _,_,_,_,.cons r t,s=>.cons r (IT.append t s)
def IT.take:∀{xs:A0 V} {us:A0 A2} (n:Nat),IT xs us->IT (xs.take n) (us.take n)
 | _,_,0,_=>.nil
 | _,_,_+1,.nil=>.nil
 | _,_,n+1,.cons r t=>.cons r (IT.take n t)
def IT.drop:∀{xs:A0 V} {us:A0 A2} (n:Nat),IT xs us->IT (xs.drop n) (us.drop n)
 | _,_,0,r=>r
 | _,_,_+1,.nil=>.nil
 | _,_,n+1,.cons _ t=>IT.drop n t
def IT.none_of:∀{xs:A0 V} {us:A0 A2} {i:Nat},IT xs us->xs[i]?=none->us[i]?=none:=fun{xs us i} r e=>by
 have a:=r.length;have b:xs.length<=i:=GY.mp e;exact GY.mpr (by lia)
def MK:A5 V->A5 A2->Prop
 | some v,some u=>RelV v u
 | none,none=>True
 | _,_=>False
def KV{Z:Type}:A0 (Z×V)->A0 (Z×A2)->Prop:=Paired λ(p:Z×V) (q:Z×A2)=>p.1=q.1/\RelV p.2 q.2
def kV:JB->V
 | .inl i=>.int i
 | .inr x=>.str x
inductive HO where
 | lst (xs:A0 V)
 | tup (xs:A0 V)
 | dK (kvs:A0 (JB×V)) | dT (kvs:A0 (A0 JB×V))
 | set (S:Int->Bool) (n:Nat)
 | ins (C dx:A3) (fs:A0 (Str×V))
 | own (x:A3)
 | xd (fs:A0 (Str×V))
 | met (f x:A3)
 | rng (lo hi:Int)
 | frz (o:Obj) (u:HO)
 | tbl (ps:IG A2)
 | ext (φ:IP->Prop)
set_option genInjectivity false
abbrev Hp:=A3->A5 HO
def II(H:Hp)(a:A3)(o:HO):Hp:=λb=>if b=a then some o else H b
def A7{H:Hp}{a:A3}{o:HO}:II H a o a=some o:=by unfold II;rw[AO rfl]
def B7{H:Hp}{a b:A3}{o:HO}(h:b≠a):II H a o b=H b:=by unfold II;rw[AI h]
def zBv{H:Hp}{a:A3}{o u:HO}:II (II H a o) a u=II H a u:=by
 funext b;unfold II;split<;>rfl
def J4{H:Hp}{a b:A3}{o u:HO}(h:H a=some o)(h':H b=some u)(d:o≠u):a≠b:=by
 intro e;subst e;rw[h]at h';exact d (BU h')
def B0{H:Hp}{a b:A3}{o:HO}(h:H a=some o)(h':H b=none):a≠b:=by
 intro e;subst e;rw[h]at h';cases h'
section
variable(P:IE)(w:IJ)
def JA(H:Hp)(h:IP)(a:A3):HO->Prop
 | .lst d=>d.length<=sizeLine/\∃(b:A0 A2) (n:Nat),IT d b/\h.get? a=some { cls:=.type "list",data:=.seq b.toArray n }
 | .tup d=>d.length<=sizeLine/\∃b:A0 A2,IT d b/\IsTup h a b.toArray
 | .dK c=>c.length<=sizeLine/\(a == sysModules)=false/\∃j,KV c j/\h.DictOf (E5 P w) a j
 | .dT c=>c.length<=sizeLine/\(a == sysModules)=false/\∃d:A0 (A0 JB×A3×A2),
   Paired (λ(p:A0 JB×V) (q:A0 JB×A3×A2)=>p.1=q.1/\H q.2.1=some (.tup (p.1.map kV))/\RelV p.2 q.2.2) c d /\
   ∃o k r,h.get? a=some o/\o.ExactDict/\o.data = .dict k r/\k.toList=d.map (entryOfKey (tupleKind (E5 P w)))/\(d.map (·.1)).Nodup
 | .set S n=>h.SetOf (intKind P w) a S n
 | .ins C i g=>H i=some (.own a)/\g.length<=1000/\i≠a/\h.get? a=some (PySem.W.instObj C i) /\
   ∃e,h.Ns1 i e/\(∀f,MK (g.lookup f) (e f))/\PySem.Within e (g.map (·.1))
 | .own _=>∃o,h.get? a=some o
 | .xd g=>∃e,h.Ns1 a e/\∀f,MK (g.lookup f) (e f)
 | .rng lo s=>∃t u v,h.get? a=some { cls:=.type "range",data:=.fields #[.int lo t,.int s u,.int 1 v] }
 | .frz o u=>h.get? a=some o/\JA H h a u
 | .tbl ps=>h.get? a=some { cls:=.none,data:=.fields ps }
 | .met f x=>h.get? a=some (PySem.W.methodObj (.ref f) (.ref x))
 | .ext φ=>φ h/\(∃o,h.get? a=some o)/\∀l m:IP,φ l->(∀o,l.get? a=some o->m.get? a=some o)->φ m
def NP(H:Hp)(h:IP):Prop:=∀a o,H a=some o->JA P w H h a o
end
section
variable{P:IE}{w:IJ}{H H':Hp}{h h':IP}{a:A3}{o:HO}
theorem JA.lt(x:JA P w H h a o):a<h.objs.size:=by
 cases o with
 | lst c=>obtain⟨_,_,_,_,e⟩:=x;exact AG e
 | tup c=>obtain⟨_,_,_,p⟩:=x;exact p.lt
 | dK b=>obtain⟨_,_,_,_,o,_,_,e,_⟩:=x;exact AG e
 | dT b=>obtain⟨_,_,_,_,o,_,_,e,_⟩:=x;exact AG e
 | set S n=>obtain⟨o,_,_,_,e,_⟩:=x;exact AG e
 | ins C g d=>obtain⟨_,_,_,e,_⟩:=x;exact AG e
 | own y=>obtain⟨_,e⟩:=x;exact AG e
 | xd d=>obtain⟨_,⟨_,_,_,e,_⟩,_⟩:=x;exact AG e
 | rng lo i=>obtain⟨_,_,_,e⟩:=x;exact AG e
 | frz j u=>obtain⟨e,_⟩:=x;exact AG e
 | tbl ps=>exact AG (show h.get? a=some _ from x)
 | met f y=>exact AG (show h.get? a=some _ from x)
 | ext φ=>obtain⟨_,⟨_,e⟩,_⟩:=x;exact AG e
theorem Paired.mapP{α β:Type}{F G:α->β->Prop}:∀{l₁:A0 α} {l₂:A0 β},Paired F l₁ l₂->(∀a b,F a b->G a b)->Paired G l₁ l₂
 | _,_,.nil,_=>.nil
 | _,_,.cons r t,f=>.cons (f _ _ r) (Paired.mapP t f)
theorem JA.stay(x:JA P w H h a o)(k:∀b u,(b=a\/H b=some (.own a))->h.get? b=some u->h'.get? b=some u)
  (B:∀b,H b=some (.own a)->H' b=some (.own a)) (D:∀b xs,H b=some (.tup xs)->H' b=some (.tup xs)):JA P w H' h' a o:=by
 induction o with
 | lst xs=>obtain⟨z,l,n,r,e⟩:=x;exact⟨z,l,n,r,k _ _ (.inl rfl) e⟩
 | tup xs=>obtain⟨z,l,r,g,e,c⟩:=x;exact⟨z,l,r,g,k _ _ (.inl rfl) e,c⟩
 | dK m=>obtain⟨z,y,E,r,g,i,j,e,c⟩:=x;exact⟨z,y,E,r,g,i,j,k _ _ (.inl rfl) e,c⟩
 | dT m =>
  obtain⟨z,y,xs,r,g,i,j,e,c⟩:=x;exact⟨z,y,xs,Paired.mapP r λp q z=>⟨z.1,D _ _ z.2.1,z.2.2⟩,g,i,j,k _ _ (.inl rfl) e,c⟩
 | set S n=>obtain⟨g,i,j,t,e,c⟩:=x;exact⟨g,i,j,t,k _ _ (.inl rfl) e,c⟩
 | ins C K F =>
  obtain⟨d,z,G,e,s,⟨A,i,j,I,c⟩,r⟩:=x;exact⟨B _ d,z,G,k _ _ (.inl rfl) e,s,⟨A,i,j,k _ _ (.inr d) I,c⟩,r⟩
 | own y=>obtain⟨g,e⟩:=x;exact⟨g,k _ _ (.inl rfl) e⟩
 | xd F=>obtain⟨s,⟨A,i,j,e,c⟩,r⟩:=x;exact⟨s,⟨A,i,j,k _ _ (.inl rfl) e,c⟩,r⟩
 | rng lo L=>obtain⟨t,u,v,e⟩:=x;exact⟨t,u,v,k _ _ (.inl rfl) e⟩
 | frz g u J=>obtain⟨e,q⟩:=x;exact⟨k _ _ (.inl rfl) e,J q⟩
 | tbl ps =>
  have e:h.get? a=some { cls:=.none,data:=.fields ps }:=x;show h'.get? a=some { cls:=.none,data:=.fields ps };exact k a _ (.inl rfl) e
 | met f y =>
  have e:h.get? a=some (PySem.W.methodObj (.ref f) (.ref y)):=x;show h'.get? a=some (PySem.W.methodObj (.ref f) (.ref y));exact k a _ (.inl rfl) e
 | ext φ=>obtain⟨p,⟨o,e⟩,st⟩:=x;exact⟨st _ _ p λo q=>k _ _ (.inl rfl) q,⟨o,k _ _ (.inl rfl) e⟩,st⟩
theorem NP.lt(x:NP P w H h)(e:H a=some o):a<h.objs.size:=(x a o e).lt
theorem NP.fresh(x:NP P w H h)(e:h.objs.size<=a):H a=none:=by
 cases q:H a with
 | none=>rfl
 | some u=>exact absurd (BI (x.lt q) e) (DB _)
theorem NP.kept(x:NP P w H h)(k:∀b u,h.get? b=some u->h'.get? b=some u):NP P w H h':=λa o e =>
 (x a o e).stay (λb u _ q=>k b u q) (λ_ q=>q) λ_ _ q=>q
theorem NP.laid(x:NP P w H h)(k:∀b u,h.get? b=some u->h'.get? b=some u)(i:h.objs.size<=a)(d:JA P w (II H a o) h' a o):NP P w (II H a o) h':=λb u e=>by
 have f:=x.fresh i;by_cases g:b=a
 .subst g;rw[A7]at e;cases e;exact d
 .rw[B7 g]at e;exact(x b u e).stay (λc v _ q=>k c v q) (λc q=>by rw[B7 (B0 q f)];exact q) λc j q=>by rw[B7 (B0 q f)];exact q
end
def Rd(H:Hp)(a:A3)(u:HO):Prop:=H a=some u\/∃o,H a=some (.frz o u)
def Rd.ok{P:IE}{w:IJ}{H:Hp}{h:IP}{a:A3}{u:HO}(r:Rd H a u)(x:NP P w H h):JA P w H h a u:=by
 rcases r with r | ⟨o,r⟩
 .exact x a u r
 .obtain⟨_,q⟩:=x a _ r;exact q
def UR:A5 HO->Prop
 | some (.lst _)=>True
 | some (.dK _)=>True
 | some (.dT _)=>True
 | some (.set _ _)=>True
 | some (.ins _ _ _)=>True
 | some (.ext _)=>True
 | _=>False
section
variable{P:IE}{w:IJ}{H:Hp}{h h':IP}{x e:A3}{o':HO}
theorem NP.write(p:NP P w H h)(g:UR (H x))(n:e=x\/H e=some (.own x))(k:∀b u,b≠e->h.get? b=some u->h'.get? b=some u)(l:∃u,h'.get? e=some u)
  (m:JA P w (II H x o') h' x o'):NP P w (II H x o') h':=λb u q=>by
 have d:∀c y,H c=some (.own y)->c≠x:=λc y r z=>by subst z;rw[r]at g;exact g
 have f:∀c i,H c=some (.tup i)->c≠x:=λc i r z=>by subst z;rw[r]at g;exact g
 by_cases j:b=x
 .subst j;rw[A7]at q;cases q;exact m
 .rw[B7 j]at q;by_cases a:b=e
  .have o:H b=some (.own x):=by
    rcases n with z | z
    .exact absurd (a.trans z) j
    .rw[a];exact z
   rw[q]at o;cases o;obtain⟨v,s⟩:=l;exact⟨v,by rw[a];exact s⟩
  .refine(p b u q).stay (λc v hc r=>k c v ?_ r) (λc r=>by rw[B7 (d c b r)];exact r) λc i r=>by rw[B7 (f c i r)];exact r
   rcases hc with rfl | hc
   .exact a
   .rintro rfl;rcases n with z | z
    .exact d c b hc z
    .rw[hc]at z;cases z;exact j rfl
end
structure Un(fs ex:A0 A3)(H H':Hp)(h h':IP):Prop where
 keep:∀b o,h.get? b=some o->H b=none->b∉fs->b∉ex->h'.get? b=some o
 slot:∀b o,h.get? b=some o->H b=none->b∈fs->b∉ex->∃sl,h'.get? b=some { o with slots:=sl }
 free:∀b o,h.get? b=some o->H b=none->b∉ex->H' b=none
 there:∀b o,h.get? b=some o->b∉ex->∃o',h'.get? b=some o'
 tups:∀b xs,H b=some (.tup xs)->H' b=some (.tup xs)
 frzs:∀b o u,H b=some (.frz o u)->H' b=some (.frz o u)
 tbls:∀b ps,H b=some (.tbl ps)->∃more,H' b=some (.tbl (ps++more))
section
variable{fs fs' ex ex':A0 A3}{H H1 H2:Hp}{h h1 h2 h':IP}{a x e:A3}{o:HO}
theorem Un.any(u:Un fs ex H H1 h h1){b:A3}{ob:Obj}(q:h.get? b=some ob)(n:H b=none)(a:b∉ex):∃d,h1.get? b=some { ob with slots:=d }:=by
 by_cases c:b∈fs
 .exact u.slot b ob q n c a
 .exact⟨ob.slots,u.keep b ob q n c a⟩
theorem Un.kept(k:∀b u,h.get? b=some u->h'.get? b=some u):Un fs ex H H h h' :=
 ⟨λb a q _ _ _=>k b a q,λb a q _ _ _=>⟨a.slots,k b a q⟩,λ_ _ _ n _=>n,λb a q _=>⟨a,k b a q⟩,λ_ _ q=>q,λ_ _ _ q=>q,λ_ ps q=>⟨#[],by rw[q];simp⟩⟩
theorem Un.refl:Un fs ex H H h h:=Un.kept λ_ _ q=>q
theorem Un.laid(k:∀b u,h.get? b=some u->h'.get? b=some u)(d:h.objs.size<=a)(c:H a=none):Un fs ex H (II H a o) h h' where
 keep:=λb u q _ _ _=>k b u q
 slot:=λb u q _ _ _=>⟨u.slots,k b u q⟩
 free:=λb u q n _=>by rw[B7 (BB (BI (AG q) d))];exact n
 there:=λb u q _=>⟨u,k b u q⟩
 tups:=λb e q=>by rw[B7 (B0 q c)];exact q
 frzs:=λb u e q=>by rw[B7 (B0 q c)];exact q
 tbls:=λb ps q=>⟨#[],by rw[B7 (B0 q c),q];simp⟩
theorem Un.write(c:UR (H x))(j:e=x\/H e=some (.own x))(k:∀b u,b≠e->h.get? b=some u->h'.get? b=some u)(d:∃u,h'.get? e=some u):Un fs ex H (II H x o) h h':=by
 have g:∀b,H b=none->b≠x:=λb n z=>by subst z;rw[n]at c;exact c
 have i:∀b,H b=none->b≠e:=λb n z=>by
  subst z;rcases j with r | r
  .exact g b n r
  .rw[n]at r;cases r
 have f:∀b u,H b=some u->¬UR (some u)->b≠x:=λb u q l z=>by subst z;rw[q]at c;exact l c
 refine⟨λb u q n _ _=>k b u (i b n) q,λb u q n _ _=>⟨u.slots,k b u (i b n) q⟩,λb u q n _=>by rw[B7 (g b n)];exact n,λb u q _=>?_,
  λb m q=>by rw[B7 (f b _ q λz=>z)];exact q,λb u m q=>by rw[B7 (f b _ q λz=>z)];exact q,λb ps q=>⟨#[],by rw[B7 (f b _ q λz=>z),q];simp⟩⟩
 by_cases a:b=e
 .subst a;exact d
 .exact⟨u,k b u a q⟩
end
def SZ(h:IP)(H:Hp):A0 A3:=(List.range h.objs.size).filter λa=>(H a).isSome
def Xp(h:IP)(H:Hp):IP:=PySem.W.hideAll h (SZ h H)
def Qn(h:IP)(H:Hp):(Xp h H).objs.size=h.objs.size:=PySem.W.hideAll_size _ _
def Yl{h:IP}{H:Hp}{b:A3}{o:Obj}(e:h.get? b=some o)(n:H b=none):(Xp h H).get? b=some o :=
 PySem.W.hideAll_get _ e λa=>by
  have q:(H b).isSome=true:=(AW.mp a).2;rw[n]at q;simp at q
def zAa{h:IP}{H:Hp}{b:A3}{o:Obj}(e:(Xp h H).get? b=some o):h.get? b=some o/\H b=none:=by
 have a:h.get? b=some o:=PySem.W.of_hideAll (SZ h H) e;refine⟨a,?_⟩;cases q:H b with
 | none=>rfl
 | some x =>
  have c:b∈SZ h H:=AW.mpr ⟨DE.mpr (AG a),by simp[q]⟩;have z:(Xp h H).get? b=none:=PySem.W.hideAll_none (SZ h H) c;rw[z]at e;cases e
structure Mod(K:VA)(mg:Str->A5 A2)(base:IP):Prop where
 kin:K.In base
 glob:base.Ns mainGlobals mg
 blt:∃mb,base.Ns builtinsNs mb/\∀x:Str,x≠ "__name__"->mb x=bootBuiltins x
 nolimit:base.NoLimit
set_option genInjectivity false in
structure Cx where
 prog:IE
 w:IJ
 K:VA
 mg:Str->A5 A2
 base:IP
 A:IM
 N:A0 Str
 s₀:A4
 H₀:Hp
 env:QU
 outer:A0 QU
 stack:A0 QU
 ex:A0 A3
 fn:Str->Bool
 calm:Bool
 pn:A0 (A3×Obj)
 xe:A2->A4->Prop
def OF(l:A0 QU):A0 A3:=l.filterMap (·.frame)
abbrev Cx.fs(X:Cx):A0 A3:=OF X.outer
def Vis(a:KZ)(x:Str):Prop:=a.names.lookup x=some .local\/a.names.lookup x=some .cell\/a.names.lookup x=some .free
def Loc(a:KZ)(x:Str):Prop:=a.names.lookup x=some .local\/a.names.lookup x=some .cell
def zJf(a:QU)(h:IP)(m:Str->A5 A2)(x:Str)(u:A2):Prop :=
 (a.kindOf x=some .local/\m x=some u)\/((a.kindOf x=some .cell\/a.kindOf x=some .free)/\∃c,a.cells.lookup x=some c/\h.IsCell c (some u))
structure Cx.Ok(X:Cx):Prop where
 mod:Mod X.K X.mg X.base
 kind:X.env.scope.kind = .function
 glob:X.env.globals=mainGlobals
 blt:X.env.builtins=builtinsNs
 above:X.s₀.heap.objs.size<=X.env.locals
 inj:∀x y c,X.env.cells.lookup x=some c->X.env.cells.lookup y=some c->x=y
 has:∀x,(X.env.kindOf x=some .cell\/X.env.kindOf x=some .free)->∃c,X.env.cells.lookup x=some c
 cab:∀x c,X.fn x=true->X.env.cells.lookup x=some c->X.s₀.heap.objs.size<=c
 hd:X.calm=true->X.A.handled=none
 frames:X.A.frames=some X.stack
 stk:X.stack=X.outer\/(X.stack=X.env::X.outer/\X.env.frame=some X.env.locals)
 exf:∀b∈X.ex,b≠X.env.locals/\∀x c,X.env.cells.lookup x=some c->c≠b
 bs:∀b o,X.base.get? b=some o->X.s₀.heap.get? b=some o/\X.H₀ b=none
 bsz:X.base.objs.size<=X.s₀.heap.objs.size
 noex:∀b o,X.base.get? b=some o->b∉X.ex
 exfs:∀b∈X.ex,b∉X.fs
 funs:X.s₀.heap.FunFrames X.base X.outer
 frf:∀b∈X.fs,X.H₀ b=none
structure Inv(X:Cx)(pins:A0 (A3×Obj))(σ:A0 (A5 V))(H:Hp)(s:A4):Prop where
 ok:X.Ok
 os:s.os=X.s₀.os
 bare:AllBare s.gens
 base:Un X.fs X.ex X.H₀ H X.s₀.heap s.heap
 loc:∃m,s.heap.Ns X.env.locals m/\∀(i:Nat) (x:Str) (v:V),X.N[i]?=some x->σ[i]?=some (some v)->Vis X.env.scope x->∃u,RelV v u/\zJf X.env s.heap m x u
 cell:∀x c,X.env.cells.lookup x=some c->∃v,s.heap.IsCell c v
 free:H X.env.locals=none
 freeC:∀x c,X.env.cells.lookup x=some c->H c=none
 pin:∀p∈X.pn++pins,s.heap.get? p.1=some p.2/\H p.1=none/\p.1≠X.env.locals/\p.1∉X.fs/\∀v,p.2.data≠ .cell v
 hok:NP X.prog X.w H s.heap
 len:σ.length=X.N.length
section
variable{X:Cx}{pins:A0 (A3×Obj)}{σ:A0 (A5 V)}{H H':Hp}{s:A4}{h':IP}
theorem Cx.Ok.nofr(a:X.Ok){b:A3}{o:Obj}(e:X.base.get? b=some o):b∉X.fs:=λc=>by
 have:=(a.funs.mem c).1;rw[e]at this;cases this
theorem Inv.bs(I:Inv X pins σ H s):∀b o,X.base.get? b=some o->s.heap.get? b=some o/\H b=none:=λb o e =>
 ⟨I.base.keep b o (I.ok.bs b o e).1 (I.ok.bs b o e).2 (I.ok.nofr e) (I.ok.noex b o e),I.base.free b o (I.ok.bs b o e).1 (I.ok.bs b o e).2 (I.ok.noex b o e)⟩
theorem Inv.bk(I:Inv X pins σ H s):∀b o,X.base.get? b=some o->s.heap.get? b=some o:=λb o e=>(I.bs b o e).1
theorem Inv.mod(I:Inv X pins σ H s):Mod X.K X.mg X.base:=I.ok.mod
theorem Inv.kIn(I:Inv X pins σ H s):X.K.In s.heap:=I.ok.mod.kin.keeps I.bk
theorem Inv.lt(I:Inv X pins σ H s):X.env.locals<s.heap.objs.size:=let⟨_,a,_⟩:=I.loc;a.lt
theorem Inv.sz(I:Inv X pins σ H s):X.s₀.heap.objs.size<=s.heap.objs.size:=VE I.ok.above (DQ I.lt)
theorem Inv.nofs(I:Inv X pins σ H s){a:A3}(h:s.heap.objs.size<=a):a∉X.fs:=λb=>by
 obtain⟨_,o,c,_⟩:=I.ok.funs.mem b;exact absurd (BI (AG c) (VE I.sz h)) (DB _)
theorem Inv.cne(I:Inv X pins σ H s):∀x c,X.env.cells.lookup x=some c->c≠X.env.locals:=λx c e z=>by
 obtain⟨v,o,d,f⟩:=I.cell x c e;obtain⟨m,⟨g,h,i,a,b,_⟩,_⟩:=I.loc;rw[z,a]at d;cases d;rw[b]at f;cases f
theorem Inv.funs(I:Inv X pins σ H s):s.heap.FunFrames X.base X.outer:=by
 have a:∀(l:A0 QU),(∀b∈OF l,b∈X.fs)->X.s₀.heap.FunFrames X.base l->s.heap.FunFrames X.base l:=by
  intro l
  induction l with
  | nil=>intro _ _;trivial
  | cons h r i =>
   intro g j;obtain⟨k,⟨L,o,c,m,n,p⟩,q⟩:=j;have d:L∈X.fs:=g L (by unfold OF;rw[DU,c];exact BA);obtain⟨t,e⟩:=I.base.slot L o n (I.ok.frf L d) d λz=>I.ok.exfs L z d;exact⟨k,⟨L,_,c,m,e,p⟩,i (λb f=>g b (by unfold OF;rw[DU,c];exact AM _ f)) q⟩
 exact a X.outer (λ_ f=>f) I.ok.funs
theorem Inv.stack(I:Inv X pins σ H s):s.heap.FunFrames X.base X.stack:=by
 rcases I.ok.stk with e | ⟨e,a⟩
 .rw[e];exact I.funs
 .rw[e];obtain⟨m,b,_⟩:=I.loc;refine .cons (by rw[I.ok.kind];decide) a b ?_ I.funs;exact Heap.get?_none_of_le (VE I.ok.bsz I.ok.above)
theorem Inv.stkSub(I:Inv X pins σ H s):∀b∈OF X.stack,b∈X.env.locals::X.fs:=λb a=>by
 rcases I.ok.stk with e | ⟨e,c⟩
 .rw[e]at a;exact AM _ a
 .rw[e]at a;unfold OF at a;rw[DU,c]at a;exact a
theorem Inv.stkFree(I:Inv X pins σ H s):∀b∈OF X.stack,H b=none:=λb hb=>by
 rcases AV.mp (I.stkSub b hb)with e | hb
 .rw[e];exact I.free
 .obtain⟨_,o,a,_⟩:=I.ok.funs.mem hb;exact I.base.free b o a (I.ok.frf b hb) λz=>I.ok.exfs b z hb
theorem Inv.step{g':IG GenState}{t':Nat}{d':Drawn}{ch:A0 A3}(I:Inv X pins σ H s)
  (g:∀b∈ch,(b∈X.ex\/X.s₀.heap.objs.size<=b)/\b≠X.env.locals/\(∀x c,X.env.cells.lookup x=some c->c≠b)/\∀p∈X.pn++pins,p.1≠b)
  (h:∀b o,b≠X.env.locals->b∉X.fs->b∉ch->s.heap.get? b=some o->H b=none->h'.get? b=some o)
  (B:∀b o,b≠X.env.locals->b∈X.fs->b∉ch->s.heap.get? b=some o->H b=none->∃N,h'.get? b=some { o with slots:=N }) (f:∀b o,b∉ch->s.heap.get? b=some o->H b=none->H' b=none)
  (C:∀b o,b∉ch->s.heap.get? b=some o->∃F,h'.get? b=some F)
  (G:∀b xs,H b=some (.tup xs)->H' b=some (.tup xs)) (J:∀b o u,H b=some (.frz o u)->H' b=some (.frz o u)) (K:∀b ps,H b=some (.tbl ps)->∃more,H' b=some (.tbl (ps++more)))
  (ns:∀m,s.heap.Ns X.env.locals m->h'.Ns X.env.locals m) (O:NP X.prog X.w H' h') (V:AllBare g') :
  Inv X pins σ H' { s with heap:=h',gens:=g',drawn:=d',toks:=t' }:=by
 have L:∀b o,X.s₀.heap.get? b=some o->b≠X.env.locals:=λb o e=>BB (BI (AG e) I.ok.above);have y:∀b o,X.s₀.heap.get? b=some o->b∉X.ex->b∉ch:=λb o e a D=>by
  rcases(g b D).1 with z | z
  .exact a z
  .exact absurd (BI (AG e) z) (DB _)
 have j:∀x c,X.env.cells.lookup x=some c->∀v,s.heap.IsCell c v->h'.IsCell c v:=λx c e v ⟨o,E,P⟩=>by
  have t:c∉ch:=λz=>(g c z).2.2.1 x c e rfl;by_cases R:c∈X.fs
  .obtain⟨N,q⟩:=B c o (I.cne x c e) R t E (I.freeC x c e);exact⟨_,q,P⟩
  .exact⟨o,h c o (I.cne x c e) R t E (I.freeC x c e),P⟩
 refine⟨I.ok,I.os,V,⟨λb o e n D a=>?_,λb o e n D a=>?_,λb o e n a=>?_,λb o e a=>?_,λb xs e=>G b xs (I.base.tups b xs e),λb o xs e=>J b o xs (I.base.frzs b o xs e),λb ps e=>?_⟩,?_,λx c e=>?_,?_,λx c e=>?_,λp S=>?_,O,I.len⟩
 .exact h b o (L b o e) D (y b o e a) (I.base.keep b o e n D a) (I.base.free b o e n a)
 .obtain⟨N,A⟩:=I.base.slot b o e n D a;obtain⟨Q,M⟩:=B b _ (L b o e) D (y b o e a) A (I.base.free b o e n a);exact⟨Q,M⟩
 .obtain⟨F,A⟩:=I.base.there b o e a;exact f b F (y b o e a) A (I.base.free b o e n a)
 .obtain⟨F,A⟩:=I.base.there b o e a;exact C b F (y b o e a) A
 .obtain⟨W,A⟩:=I.base.tbls b ps e;obtain⟨Y,M⟩:=K b _ A;exact⟨W++Y,by rw[M,Array.append_assoc]⟩
 .obtain⟨m,Z,hl⟩:=I.loc;refine⟨m,ns m Z,λi x v A M e3=>?_⟩;obtain⟨u,r,l⟩:=hl i x v A M e3;refine⟨u,r,?_⟩;rcases l with l | ⟨k,c,e,z⟩
  .exact .inl l
  .exact .inr ⟨k,c,e,j x c e _ z⟩
 .obtain⟨v,z⟩:=I.cell x c e;exact⟨v,j x c e v z⟩
 .obtain⟨m,⟨o,_,_,E,_⟩,_⟩:=I.loc;exact f _ o (λz=>(g _ z).2.1 rfl) E I.free
 .obtain⟨v,o,E,P⟩:=I.cell x c e;exact f c o (λz=>(g c z).2.2.1 x c e rfl) E (I.freeC x c e)
 .obtain⟨e,n,T,U,d⟩:=I.pin p S;have t:p.1∉ch:=λz=>(g p.1 z).2.2.2 p S rfl;exact⟨h p.1 p.2 T U t e n,f p.1 p.2 t e n,T,U,d⟩
theorem Inv.un{t':Nat}(I:Inv X pins σ H s)(u:Un X.fs [] H H' s.heap h')(c:NP X.prog X.w H' h'):Inv X pins σ H' { s with heap:=h',toks:=t' }:=by
 obtain⟨m,⟨o,l,p,h,r⟩,_⟩:=id I.loc;obtain⟨q,i⟩:=u.any h I.free (by simp);exact I.step (g':=s.gens) (d':=s.drawn) (ch:=[]) (λ_ z=>nomatch z) (λb o _ d _ e n=>u.keep b o e n d (by simp)) (λb o _ d _ e n=>u.slot b o e n d (by simp)) (λb o _ e n=>u.free b o e n (by simp)) (λb o _ e=>u.there b o e (by simp)) u.tups u.frzs u.tbls (λt j=>by
  obtain⟨v,f,g,a,k⟩:=j;rw[h]at a;cases a;exact⟨_,f,g,i,k⟩) c I.bare
theorem Inv.call{g':IG GenState}{t':Nat}{d':Drawn}{ch:A0 A3}(I:Inv X pins σ H s)(u:Un (OF X.stack) ch H H' s.heap h')(g:NP X.prog X.w H' h')(l:AllBare g')
  (d:∀b∈ch,(b∈X.ex\/X.s₀.heap.objs.size<=b)/\b≠X.env.locals/\(∀x c,X.env.cells.lookup x=some c->c≠b)/\∀p∈X.pn++pins,p.1≠b) :
  Inv X pins σ H' { s with heap:=h',gens:=g',drawn:=d',toks:=t' }:=by
 obtain⟨m,⟨o,y,A,k,r⟩,_⟩:=id I.loc;obtain⟨B,h⟩:=u.any k I.free λz=>(d _ z).2.1 rfl;exact I.step (ch:=ch) d (λb o h q a e n=>u.keep b o e n (λz=>(AV.mp (I.stkSub b z)).elim h q) a) (λb o _ _ a e n=>u.any e n a) (λb o a e n=>u.free b o e n a) (λb o a e=>u.there b o e a) u.tups u.frzs u.tbls (λC t=>by
  obtain⟨D,i,j,f,v⟩:=t;rw[k]at f;cases f;exact⟨_,i,j,h,v⟩) g l
theorem Inv.turned{t':Nat}{a:A3}(I:Inv X pins σ H s)(k:∀b o,b≠a->s.heap.get? b=some o->h'.get? b=some o)(h:H a=none)(g:a≠X.env.locals)
  (h1:a∈X.ex\/X.s₀.heap.objs.size<=a) (h2:∀x c,X.env.cells.lookup x=some c->c≠a) (i:∀p∈X.pn++pins,p.1≠a):Inv X pins σ H { s with heap:=h',toks:=t' }:=by
 have f:∀b u,H b=some u->b≠a:=λb u e z=>by rw[z,h]at e;cases e
 refine I.step (g':=s.gens) (d':=s.drawn) (ch:=[a]) (λb j=>?_) (λb o _ _ d e _=>k b o (λz=>d (by simp[z])) e) (λb o _ _ d e _=>⟨o.slots,k b o (λz=>d (by simp[z])) e⟩) (λ_ _ _ _ n=>n)
  (λb o d e=>⟨o,k b o (λz=>d (by simp[z])) e⟩) (λ_ _ e=>e) (λ_ _ _ e=>e) (λb ps e=>⟨#[],by rw[e];simp⟩) (λm l=>?_) (λb u e=>?_) I.bare
 .have e:b=a:=by simpa using j
  subst e;exact⟨h1,g,h2,i⟩
 .obtain⟨o,t,w,y,r⟩:=l;exact⟨o,t,w,k _ o (Ne.symm g) y,r⟩
 .refine(I.hok b u e).stay (λc v d q=>k c v ?_ q) (λ_ q=>q) λ_ _ q=>q;rcases d with z | z
  .rw[z];exact f b u e
  .exact f c _ z
theorem Inv.tok(I:Inv X pins σ H s)(t:Nat):Inv X pins σ H { s with toks:=t }:=I.un (h':=s.heap) (t':=t) Un.refl I.hok
theorem Inv.kept{t':Nat}(I:Inv X pins σ H s)(k:∀b u,s.heap.get? b=some u->h'.get? b=some u):Inv X pins σ H { s with heap:=h',toks:=t' }:=I.un (Un.kept k) (I.hok.kept k)
theorem Inv.laid{a:A3}{o:HO}{t':Nat}(I:Inv X pins σ H s)(k:∀b u,s.heap.get? b=some u->h'.get? b=some u)(c:s.heap.objs.size<=a)(d:JA X.prog X.w (II H a o) h' a o) :
  Inv X pins σ (II H a o) { s with heap:=h',toks:=t' }:=I.un (Un.laid k c (I.hok.fresh c)) (I.hok.laid k c d)
theorem Inv.write{x e:A3}{o:HO}{t':Nat}(I:Inv X pins σ H s)(d:UR (H x))(f:e=x\/H e=some (.own x))(k:∀b u,b≠e->s.heap.get? b=some u->h'.get? b=some u)(a:∃u,h'.get? e=some u)
  (c:JA X.prog X.w (II H x o) h' x o):Inv X pins σ (II H x o) { s with heap:=h',toks:=t' }:=I.un (Un.write d f k a) (I.hok.write d f k a c)
theorem Inv.pins_of{a:A0 (A3×Obj)}(I:Inv X pins σ H s)(h:∀p∈a,s.heap.get? p.1=some p.2/\H p.1=none/\p.1≠X.env.locals/\p.1∉X.fs/\∀v,p.2.data≠ .cell v):Inv X a σ H s :=
 ⟨I.ok,I.os,I.bare,I.base,I.loc,I.cell,I.free,I.freeC,λp b=>(AN.mp b).elim (λz=>I.pin p (CT _ z)) (h p),I.hok,I.len⟩
theorem Gr{N:A0 Str}(c:N.Nodup){i j:Nat}{x:Str}(a:N[i]?=some x)(b:N[j]?=some x):i=j:=by
 obtain⟨f,d⟩:=AK.mp a;obtain⟨g,e⟩:=AK.mp b;exact(List.getElem_inj c).mp (d.trans e.symm)
theorem Dl{M:Model}{A:IM}{E:A2->A4->Prop}{i:Nat}{x:Str}{v:V}{u:A2}{Q:Unit->A4->Prop}(I:Inv X pins σ H s)(hN:X.N.Nodup)(hi:X.N[i]?=some x)(t:Loc X.env.scope x)(r:RelV v u)
  (h:∀W,Inv X pins (σ.set i (some v)) H W->(∃a,Heap.SameBut a s.heap W.heap/\(a=X.env.locals\/X.env.cells.lookup x=some a))->Q () W) (hf:X.fn x=true\/X.env.scope.names.lookup x=some .local:=by first | exact .inl rfl | exact .inr rfl | assumption):wpAny M A (storeName X.env x u) Q E s:=by
 obtain⟨m,Y,hl⟩:=id I.loc;have K:(X.env.scope.kind == .class||(X.env.scope.kind == .module&&X.env.locals != X.env.globals))=false:=by rw[I.ok.kind];rfl
 have hiσ:i<σ.length:=by rw[I.len];exact(AK.mp hi).1
 have D:=I.cne;have g:∀{a:A3} {h':IP},(∃o,s.heap.get? a=some o/\H a=none)->Heap.SameBut a s.heap h'->NP X.prog X.w H h':=fun{a h'} ha f b ob e=>by
  obtain⟨_,_,B⟩:=ha;refine(I.hok b ob e).stay (λc S hc q=>(f.2 c ?_).trans q) (λ_ q=>q) λ_ _ q=>q;rintro rfl;rcases hc with rfl | hc
  .rw[B]at e;cases e
  .rw[B]at hc;cases hc
 rcases t with hk | hk
 .refine wpAny_storeName_local hk Y (λh' Z f=>?_) K;obtain⟨oL,_,_,hoL,_⟩:=id Y;refine h _ ⟨I.ok,I.os,I.bare,⟨λb o e n F t=>?_,λb o e n F t=>?_,I.base.free,λb o e t=>?_,I.base.tups,I.base.frzs,I.base.tbls⟩,⟨_,Z,λj y v' l C e3=>?_⟩,λy c e=>?_,I.free,I.freeC,λp hp=>?_,g ⟨oL,hoL,I.free⟩ f,by simpa using I.len⟩ ⟨_,f,.inl rfl⟩
  .exact(f.2 b (BB (BI (AG e) I.ok.above))).trans (I.base.keep b o e n F t)
  .obtain⟨sl,l⟩:=I.base.slot b o e n F t;exact⟨sl,(f.2 b (BB (BI (AG e) I.ok.above))).trans l⟩
  .obtain⟨o',l⟩:=I.base.there b o e t;exact⟨o',(f.2 b (BB (BI (AG e) I.ok.above))).trans l⟩
  .by_cases G:j=i
   .subst G;rw[hi]at l;cases l;rw[HS hiσ]at C;cases C;exact⟨u,r,.inl ⟨hk,by simp⟩⟩
   .rw[GR (Ne.symm G)]at C;obtain⟨u',r',q⟩:=hl j y v' l C e3;refine⟨u',r',?_⟩;rcases q with⟨k,e⟩ | ⟨k,c,e,z⟩
    .refine .inl ⟨k,?_⟩;have:y≠x:=λe=>G (Gr hN l (e▸hi));simp[this,e]
    .exact .inr ⟨k,c,e,z.sameBut f (D y c e)⟩
  .obtain⟨S,z⟩:=I.cell y c e;exact⟨S,z.sameBut f (D y c e)⟩
  .obtain⟨e,n,T,nf,d⟩:=I.pin p hp;exact⟨(f.2 p.1 T).trans e,n,T,nf,d⟩
 .have J:X.fn x=true:=by
   rcases hf with z | z
   .exact z
   .rw[z]at hk;cases hk
  obtain⟨c,hc⟩:=I.ok.has x (.inl hk);obtain⟨S,z⟩:=I.cell x c hc;refine wpAny_storeName_cell I.ok.kind hk hc z (λh' L f=>?_);obtain⟨oc,O,P⟩:=id z;refine h { s with heap:=h' } ⟨I.ok,I.os,I.bare,⟨λb o e n F t=>?_,λb o e n F t=>?_,I.base.free,λb o e t=>?_,I.base.tups,I.base.frzs,I.base.tbls⟩,⟨m,Y.sameBut f (Ne.symm (D x c hc)),λj y v' l C e3=>?_⟩,λy U e=>?_,I.free,I.freeC,λp hp=>?_,g ⟨oc,O,I.freeC x c hc⟩ f,by simpa using I.len⟩ ⟨c,f,.inr hc⟩
  .exact(f.2 b (BB (BI (AG e) (I.ok.cab x c J hc)))).trans (I.base.keep b o e n F t)
  .obtain⟨sl,l⟩:=I.base.slot b o e n F t;exact⟨sl,(f.2 b (BB (BI (AG e) (I.ok.cab x c J hc)))).trans l⟩
  .obtain⟨o',l⟩:=I.base.there b o e t;exact⟨o',(f.2 b (BB (BI (AG e) (I.ok.cab x c J hc)))).trans l⟩
  .by_cases G:j=i
   .subst G;rw[hi]at l;cases l;rw[HS hiσ]at C;cases C;exact⟨u,r,.inr ⟨.inl hk,c,hc,L⟩⟩
   .rw[GR (Ne.symm G)]at C;obtain⟨u',r',q⟩:=hl j y v' l C e3;refine⟨u',r',?_⟩;rcases q with q | ⟨k,U,e,z'⟩
    .exact .inl q
    .refine .inr ⟨k,U,e,z'.sameBut f ?_⟩;rintro rfl;exact G (Gr hN l (I.ok.inj _ _ _ e hc▸hi))
  .by_cases R:U=c
   .subst R;exact⟨_,L⟩
   .obtain⟨w2,z2⟩:=I.cell y U e;exact⟨w2,z2.sameBut f R⟩
  .obtain⟨e,n,T,nf,d⟩:=I.pin p hp;refine⟨(f.2 p.1 ?_).trans e,n,T,nf,d⟩;intro q;rw[q,O]at e;have q':oc=p.2:=BU e;exact d S (by rw[<-q'];exact P)
theorem Y0{M:Model}{A:IM}{E:A2->A4->Prop}{i:Nat}{x:Str}{v:V}{u:A2}{Q:Unit->A4->Prop}(I:Inv X pins σ H s)(b:X.N.Nodup)(hi:X.N[i]?=some x)(c:Loc X.env.scope x)(r:RelV v u)
  (h:∀a,Inv X pins (σ.set i (some v)) H a->Q () a) (d:X.fn x=true\/X.env.scope.names.lookup x=some .local:=by first | exact .inl rfl | exact .inr rfl | assumption):wpAny M A (storeName X.env x u) Q E s :=
 Dl I b hi c r (λa e _=>h a e) d
theorem Inv.call'{a:A4}{ch:A0 A3}(I:Inv X pins σ H s)(g:a.os=s.os)(u:Un (OF X.stack) ch H H' s.heap a.heap)(d:NP X.prog X.w H' a.heap)(h:AllBare a.gens)
  (f:∀b∈ch,(b∈X.ex\/X.s₀.heap.objs.size<=b)/\b≠X.env.locals/\(∀x c,X.env.cells.lookup x=some c->c≠b)/\∀p∈X.pn++pins,p.1≠b):Inv X pins σ H' a:=by
 obtain⟨h',g',d',t',i⟩:=a;have e:i=s.os:=g;subst e;exact I.call (g':=g') (t':=t') (d':=d') u d h f
end
abbrev XK:=A2->A5 A3->Hp->Prop
abbrev St:=A0 (A5 V)
abbrev VK:=V->Hp->Prop
abbrev TE:=St->Hp->VK->Prop
abbrev TT:=St->Hp->(Bool->Hp->Prop)->Prop
abbrev TA:=St->Hp->(A0 V->Hp->Prop)->Prop
set_option genInjectivity false in
structure Ends where
 nx:St->Hp->Prop
 rt:VK
 bk:St->Hp->Prop:=λ_ _=>False
 ct:St->Hp->Prop:=λ_ _=>False
abbrev TS:=Ends->St->Hp->Prop
def EP(X:Cx)(a:A0 (A3×Obj))(σ:St)(Q:VK)(u:A2)(c:A4):Prop:=∃v b,Inv X a σ b c/\RelV v u/\Q v b
def TP(X:Cx)(a:A0 (A3×Obj))(σ:St)(Q:Bool->Hp->Prop)(b:Bool)(d:A4):Prop:=∃c,Inv X a σ c d/\Q b c
def AP(X:Cx)(a:A0 (A3×Obj))(σ:St)(Q:A0 V->Hp->Prop)(us:A0 A2)(d:A4):Prop:=∃b c,Inv X a σ c d/\IT b us/\Q b c
def SP(X:Cx)(a:A0 (A3×Obj))(D:Ends)(f:Flow)(c:A4):Prop :=
 match f with
 | .next=>∃σ' b,Inv X a σ' b c/\D.nx σ' b
 | .brk=>∃σ' b,Inv X a σ' b c/\D.bk σ' b
 | .cont=>∃σ' b,Inv X a σ' b c/\D.ct σ' b
 | .ret u=>∃v σ' b,Inv X a σ' b c/\RelV v u/\D.rt v b
def PE(X:Cx)(e:IQ)(t:TE):Prop :=
 ∀(a:A0 (A3×Obj)) (s:A4) (σ:St) (H:Hp) (Q:VK),Inv X a σ H s->t σ H Q->wpAny (model X.prog X.w) X.A (eval e X.env) (EP X a σ Q) X.xe s
def PT(X:Cx)(e:IQ)(t:TT):Prop :=
 ∀(a:A0 (A3×Obj)) (s:A4) (σ:St) (H:Hp) (Q:Bool->Hp->Prop),Inv X a σ H s->t σ H Q->wpAny (model X.prog X.w) X.A (isTrue e X.env (eval e X.env)) (TP X a σ Q) X.xe s
def PW(X:Cx)(e:IQ)(t:TT):Prop :=
 ∀(b:Sem A2) (a:A0 (A3×Obj)) (s:A4) (σ:St) (H:Hp) (Q:Bool->Hp->Prop),Inv X a σ H s->t σ H Q->wpAny (model X.prog X.w) X.A (isTrue e X.env b) (TP X a σ Q) X.xe s
def PW.pt{X:Cx}{e:IQ}{t:TT}(h:PW X e t):PT X e t:=h _
def PA(X:Cx)(c:A0 IQ)(t:TA):Prop :=
 ∀(b:Pos) (a:A0 (A3×Obj)) (s:A4) (σ:St) (H:Hp) (Q:A0 V->Hp->Prop),Inv X a σ H s->t σ H Q->wpAny (model X.prog X.w) X.A (spliced (backTo b (starEach c X.env))) (AP X a σ Q) X.xe s
def PS(X:Cx)(st:IY)(t:TS):Prop :=
 ∀(a:A0 (A3×Obj)) (s:A4) (σ:St) (H:Hp) (D:Ends),Inv X a σ H s->t D σ H->wpAny (model X.prog X.w) X.A (exec st X.env) (SP X a D) X.xe s
def QA(X:Cx)(st:A0 IY)(t:TS):Prop :=
 ∀(a:A0 (A3×Obj)) (s:A4) (σ:St) (H:Hp) (D:Ends),Inv X a σ H s->t D σ H->wpAny (model X.prog X.w) X.A (execs st X.env) (SP X a D) X.xe s
def JK{α:Type}{t:Sem α}{Q b:α->A4->Prop}{M:Model}{A:IM}{E:A2->A4->Prop}{s:A4}(h:wpAny M A t Q E s)(c:∀a s,Q a s->b a s):wpAny M A t b E s:=BS h c λ_ _ x=>x
section
variable{X:Cx}
def X0(i:Nat):TE:=λσ H Q=>∃v,σ[i]?=some (some v)/\Q v H
def tC(v:V):TE:=λ_ H Q=>Q v H
theorem zEq{i:Nat}{x:Str}{f:Pos}(n:X.N[i]?=some x)(o:Vis X.env.scope x)(g:(x ==("__debug__":Str))=false:=by decide)(j:(x ==("__classdict__":Str))=false:=by decide):PE X (.Name x f) (X0 i):=by
 intro d s σ H Q I h;obtain⟨v,e,h⟩:=h;obtain⟨m,p,q⟩:=I.loc;obtain⟨u,r,l⟩:=q i x v n e o;have b:EP X d σ Q u s:=⟨v,H,I,r,h⟩;rcases l with⟨hk,t⟩ | ⟨hk,c,k,a⟩
 .exact wpAny_Name (wpAny_loadName_local I.ok.kind hk p t b) g
 .rcases hk with hk | hk
  .exact wpAny_Name (wpAny_loadName_cell I.ok.kind hk k a b) g
  .exact wpAny_Name (wpAny_loadName_free I.ok.kind hk k a b j) g
theorem B5{i j a}:PE X (.Constant (.int i) j a) (tC (.int i)):=λ_ _ _ H _ I h=>wpAny_Constant_int ⟨.int i,H,I.tok _,⟨_,rfl⟩,h⟩
theorem j4{b j a}:PE X (.Constant (.bool b) j a) (tC (.bl b)):=λ_ _ _ H _ I h=>Constant_bool ⟨.bl b,H,I,rfl,h⟩
theorem U3{j a}:PE X (.Constant .none j a) (tC .non):=λ_ _ _ H _ I h=>Constant_none ⟨.non,H,I,rfl,h⟩
theorem C2{x j a}:PE X (.Constant (.str x) j a) (tC (.str x)):=λ_ _ _ H _ I h=>Calls.Constant_str ⟨.str x,H,I.tok _,⟨_,rfl⟩,h⟩
def Gl(X:Cx)(x:Str):Prop:=X.env.kindOf x=some .globalImplicit
theorem Cz{E:A2->A4->Prop}{a:A0 (A3×Obj)}{s:A4}{σ:St}{H:Hp}{x:Str}{u:A2}{b:Pos}{Q:A2->A4->Prop}(I:Inv X a σ H s)(c:Gl X x)(d:X.mg x=some u)(h:Q u s)
  (e:(x ==("__debug__":Str))=false:=by decide):wpAny (model X.prog X.w) X.A (eval (.Name x b) X.env) Q E s :=
 Calls.Name_function_global I.ok.kind c (Calls.loadGlobal_global (by rw[I.ok.glob];exact I.mod.glob.keeps I.bk) d h) e
theorem Bq{E:A2->A4->Prop}{a:A0 (A3×Obj)}{s:A4}{σ:St}{H:Hp}{x:Str}{u:A2}{b:Pos}{Q:A2->A4->Prop}(I:Inv X a σ H s)(c:Gl X x)(d:X.mg x=none)(e:bootBuiltins x=some u)(h:Q u s)
  (f:x≠ "__name__":=by decide) (g:(x ==("__debug__":Str))=false:=by decide):wpAny (model X.prog X.w) X.A (eval (.Name x b) X.env) Q E s:=by
 obtain⟨k,i,j⟩:=I.mod.blt;exact Calls.Name_function_global I.ok.kind c (Calls.loadGlobal_builtin (by rw[I.ok.glob];exact I.mod.glob.keeps I.bk) d (by rw[I.ok.blt];exact i.keeps I.bk) ((j x f).trans e) h) g
theorem Kp{x:Str}{v:V}{u:A2}{a:Pos}(b:Gl X x)(c:X.mg x=some u)(r:RelV v u)(d:(x ==("__debug__":Str))=false:=by decide):PE X (.Name x a) (tC v) :=
 λ_ _ _ H _ I h=>Cz I b c ⟨v,H,I,r,h⟩ d
theorem zBx{x:Str}{v:V}{u:A2}{a:Pos}(b:Gl X x)(c:X.mg x=none)(d:bootBuiltins x=some u)(r:RelV v u)(e:x≠ "__name__":=by decide)(f:(x ==("__debug__":Str))=false:=by decide):PE X (.Name x a) (tC v) :=
 λ_ _ _ H _ I h=>Bq I b c d ⟨v,H,I,r,h⟩ e f
variable{a b:IQ}{ta tb:TE}{pos:Pos}
def PC(X:Cx)(d:CmpOp)(a b:IQ)(t:TE):Prop :=
 ∀(c:A0 (A3×Obj)) (s:A4) (σ:St) (H:Hp) (Q:VK),Inv X c σ H s->t σ H Q ->
  wpAny (model X.prog X.w) X.A (eval a X.env) (λv i1=>wpAny (model X.prog X.w) X.A (eval b X.env) (λu q0=>wpAny (model X.prog X.w) X.A (compareOp d v u) (EP X c σ Q) X.xe q0) X.xe i1) X.xe s
def tB(t:TE):TT:=λσ H Q=>t σ H λx a=>∃c,x = .bl c/\Q c a
theorem zGe{g:CmpOp}{t:TE}(h:PC X g a b t)(h1:behindInMarks g b=false:=by first | exact e _ (by decide) (by decide) | rfl):PT X (.Compare a [g] [b] pos) (tB t):=by
 intro f s σ H Q I i;refine wpAny_isTrue_Compare1 (JK (h f s σ H _ I i) λv o h1=>JK h1 λu p j=>JK j λc r ⟨x,k,l,m,n⟩=>?_) h1;obtain⟨d,rfl,q⟩:=n;cases m;exact DA ⟨k,l,q⟩
theorem J9{e:IQ}{t:TE}(h:PE X e t)(c:∀a,isTrue e X.env a =(do let v <-a;standAt e.pos;holding [v] (truthy v)):=by intro _;rfl):PT X e (tB t):=by
 intro b s σ H Q I f;refine isTrue_plain (JK (h b s σ H _ I f) λv l ⟨x,g,i,j,k⟩=>?_) (c _);obtain⟨d,rfl,q⟩:=k;cases j;exact DA ⟨g,i,q⟩
variable{tA tB':TT}{rest:A0 IQ}
def zIr(t u:TT):TT:=λσ H Q=>t σ H λc a=>if c=true then u σ a Q else Q false a
def tOr(t u:TT):TT:=λσ H Q=>t σ H λc a=>if c=true then Q true a else u σ a Q
def zHm(t:TT):TT:=λσ H Q=>t σ H λc a=>Q (!c) a
theorem Ax(d:PT X a tA):PW X (.BoolOp .And [a] pos) tA:=by
 intro f b s σ H Q I h;refine isTrue_and (JK (d b s σ H Q I h) λc g e=>?_);cases c with
 | true=>exact isTrue_and_nil e
 | false=>exact e
theorem U2(d:PT X a tA):PW X (.BoolOp .Or [a] pos) tA:=by
 intro f b s σ H Q I h;refine isTrue_or (JK (d b s σ H Q I h) λc g e=>?_);cases c with
 | false=>exact isTrue_or_nil e
 | true=>exact e
theorem Fm(i:PT X a tA)(j:PW X (.BoolOp .And (b::rest) pos) tB'):PW X (.BoolOp .And (a::b::rest) pos) (zIr tA tB'):=by
 intro k d s σ H Q I h;refine isTrue_and (JK (i d s σ H _ I h) λc l ⟨e,f,g⟩=>?_);cases c with
 | true=>exact j k d l σ e Q f g
 | false=>exact⟨e,f,g⟩
theorem c9(i:PT X a tA)(j:PW X (.BoolOp .Or (b::rest) pos) tB'):PW X (.BoolOp .Or (a::b::rest) pos) (tOr tA tB'):=by
 intro k d s σ H Q I h;refine isTrue_or (JK (i d s σ H _ I h) λc l ⟨e,f,g⟩=>?_);cases c with
 | true=>exact⟨e,f,g⟩
 | false=>exact j k d l σ e Q f g
theorem P2(d:PT X a tA):PT X (.UnaryOp .Not a pos) (zHm tA):=by
 intro b s σ H Q I h;exact isTrue_not (d b s σ H (λc e=>Q (!c) e) I h)
def zHv(ta tb:TE):TE:=λσ H Q=>ta σ H λx a=>∃c,x = .bl c/\if c=true then tb σ a Q else Q (.bl false) a
def zIc(ta:TE):TE:=λσ H Q=>ta σ H λx a=>∃c,x = .bl c/\Q (.bl (!c)) a
theorem Cw{c}{t:TE}(h:PE X a t):PE X (.BoolOp c [a] pos) t:=λb s σ H Q I d=>BoolOp_one (h b s σ H Q I d)
theorem Bw(i:PE X a ta)(j:PE X (.BoolOp .And (b::rest) pos) tb):PE X (.BoolOp .And (a::b::rest) pos) (zHv ta tb):=by
 intro d s σ H Q I h;refine BoolOp_and (JK (i d s σ H _ I h) λv k ⟨x,f,g,l,e⟩=>?_);obtain⟨c,rfl,e⟩:=e;cases l;refine DA ?_;cases c with
 | true=>exact j d k σ f Q g e
 | false=>exact⟨.bl false,f,g,rfl,e⟩
theorem zFt(e:PE X a ta):PE X (.UnaryOp .Not a pos) (zIc ta):=by
 intro b s σ H Q I h;refine UnaryOp_ (JK (e b s σ H _ I h) λv j ⟨x,f,g,i,d⟩=>?_);obtain⟨c,rfl,d⟩:=d;cases i;exact not_of (DA ⟨.bl (!c),f,g,rfl,d⟩)
def tIf(t:TT)(ta tb:TE):TE:=λσ H Q=>t σ H λc a=>if c=true then ta σ a Q else tb σ a Q
theorem As{c:IQ}(k:PT X c tA)(l:PE X a ta)(m:PE X b tb):PE X (.IfExp c a b pos) (tIf tA ta tb):=by
 intro e s σ H Q I h;refine wpAny_IfExp (JK (k e s σ H _ I h) λd f ⟨g,i,j⟩=>?_);cases d with
 | true=>exact l e f σ g Q i j
 | false=>exact m e f σ g Q i j
end
def IR(K:VA)(H:Hp)(a:A3)(xs:A0 V):Prop :=
 Rd H a (.lst xs) \/
  ∃(o:Obj) (b:IG A2) (n:Nat),K.lookup a=some o/\o.cls = .type "list"/\o.dict=none/\o.data = .seq b n/\b.size<=sizeLine/\IT xs b.toList
def JG(K:VA)(H:Hp)(a:A3)(xs:A0 V):Prop :=
 Rd H a (.tup xs) \/
  ∃(o:Obj) (b:IG A2) (n:Nat),K.lookup a=some o/\o.cls = .type "tuple"/\o.data = .seq b n/\b.size<=sizeLine/\IT xs b.toList
def zJw:A2->A5 V
 | .none=>some .non
 | .bool b=>some (.bl b)
 | .int i _=>some (.int i)
 | .str x _=>some (.str x)
 | .bytes b _=>some (.byt b)
 | .float b _=>some (.flt b)
 | .ref a=>some (.ref a)
 | .type n=>some (.ty n)
 | _=>none
def RelV.abs{x:V}{u:A2}(r:RelV x u):zJw u=some x:=by
 cases x with
 | non=>cases r;rfl
 | bl _=>cases r;rfl
 | int _=>obtain⟨t,rfl⟩:=r;rfl
 | str _=>obtain⟨t,rfl⟩:=r;rfl
 | byt _=>obtain⟨t,rfl⟩:=r;rfl
 | flt _=>obtain⟨t,rfl⟩:=r;rfl
 | ref _=>cases r;rfl
 | ty _=>cases r;rfl
def RelV.inj{x y:V}{u:A2}(r:RelV x u)(q:RelV y u):x=y:=BU (r.abs.symm.trans q.abs)
def IT.inj:∀{xs a:A0 V} {us:A0 A2},IT xs us->IT a us->xs=a
 | _,_,_,.nil,.nil=>rfl
 | _,_,_,.cons r t,.cons b c=>by rw[r.inj b,IT.inj t c]
section
variable{X:Cx}{pins:A0 (A3×Obj)}{σ:St}{H:Hp}{s:A4}{a:A3}{xs ys:A0 V}
theorem IR.of{K:VA}(h:H a=some (.lst xs)):IR K H a xs:=.inl (.inl h)
theorem JG.of{K:VA}(h:H a=some (.tup xs)):JG K H a xs:=.inl (.inl h)
theorem Inv.list(I:Inv X pins σ H s)(h:IR X.K H a xs):∃its:A0 A2,IT xs its/\PlainL s.heap a its.toArray/\xs.length<=sizeLine:=by
 rcases h with h | ⟨o,its,n,b,c,d,f,g,r⟩
 .obtain⟨z,its,n,r,e⟩:=h.ok I.hok;exact⟨its,r,⟨_,n,e,rfl,rfl,rfl⟩,z⟩
 .refine⟨its.toList,r,⟨o,n,I.kIn a o b,c,d,by simpa using f⟩,?_⟩;have e:=r.length;simp only[AU]at e;lia
theorem Inv.tuple(I:Inv X pins σ H s)(h:JG X.K H a xs):∃its:A0 A2,IT xs its/\IsTup s.heap a its.toArray/\xs.length<=sizeLine:=by
 rcases h with h | ⟨o,its,n,b,c,d,f,r⟩
 .obtain⟨z,its,r,p⟩:=h.ok I.hok;exact⟨its,r,p,z⟩
 .refine⟨its.toList,r,⟨o,I.kIn a o b,c,n,by simpa using d⟩,?_⟩;have e:=r.length;simp only[AU]at e;lia
theorem Inv.list_inj(I:Inv X pins σ H s)(h:IR X.K H a xs)(h':IR X.K H a ys):xs=ys:=by
 obtain⟨c,r,⟨o,n,e,_,_,d⟩,_⟩:=I.list h;obtain⟨b,i,⟨k,l,f,_,_,g⟩,_⟩:=I.list h';rw[e]at f;cases f;rw[d]at g;injection g with j _;have:c=b:=by simpa using congrArg Array.toList j
 subst this;exact r.inj i
theorem Inv.tuple_inj(I:Inv X pins σ H s)(h:JG X.K H a xs)(h':JG X.K H a ys):xs=ys:=by
 obtain⟨c,r,⟨o,e,_,n,d⟩,_⟩:=I.tuple h;obtain⟨b,i,⟨k,f,_,l,g⟩,_⟩:=I.tuple h';rw[e]at f;cases f;rw[d]at g;injection g with j _;have:c=b:=by simpa using congrArg Array.toList j
 subst this;exact r.inj i
end
abbrev Cx.wish(X:Cx)(E:A2->A4->Prop):Cx:={ X with xe:=E }
abbrev Cx.nox(X:Cx):Cx:=X.wish λ_ _=>False
def Cx.Ok.wish{X:Cx}(a:X.Ok)(E:A2->A4->Prop):(X.wish E).Ok :=
 ⟨a.mod,a.kind,a.glob,a.blt,a.above,a.inj,a.has,a.cab,a.hd,a.frames,a.stk,a.exf,a.bs,a.bsz,a.noex,a.exfs,a.funs,a.frf⟩
def Cx.Ok.unwish{X:Cx}{E:A2->A4->Prop}(a:(X.wish E).Ok):X.Ok :=
 ⟨a.mod,a.kind,a.glob,a.blt,a.above,a.inj,a.has,a.cab,a.hd,a.frames,a.stk,a.exf,a.bs,a.bsz,a.noex,a.exfs,a.funs,a.frf⟩
section
variable{X:Cx}{pins:A0 (A3×Obj)}{σ:St}{H:Hp}{s:A4}{E:A2->A4->Prop}
theorem Inv.wish(I:Inv X pins σ H s)(E:A2->A4->Prop):Inv (X.wish E) pins σ H s:=⟨I.ok.wish E,I.os,I.bare,I.base,I.loc,I.cell,I.free,I.freeC,I.pin,I.hok,I.len⟩
theorem Inv.unwish(I:Inv (X.wish E) pins σ H s):Inv X pins σ H s:=⟨I.ok.unwish,I.os,I.bare,I.base,I.loc,I.cell,I.free,I.freeC,I.pin,I.hok,I.len⟩
theorem SP.unwish{D:Ends}{f:Flow}{b:A4}(h:SP (X.wish E) pins D f b):SP X pins D f b:=by
 cases f with
 | next=>obtain⟨σ',a,I,q⟩:=h;exact⟨σ',a,I.unwish,q⟩
 | brk=>obtain⟨σ',a,I,q⟩:=h;exact⟨σ',a,I.unwish,q⟩
 | cont=>obtain⟨σ',a,I,q⟩:=h;exact⟨σ',a,I.unwish,q⟩
 | ret u=>obtain⟨v,σ',a,I,r,q⟩:=h;exact⟨v,σ',a,I.unwish,r,q⟩
theorem QA.nox{st:A0 IY}{t:TS}(h:QA X.nox st t):QA X st t:=λpins s σ H D I a =>
 BS (h pins s σ H D (I.wish _) a) (λ_ _ q=>q.unwish) λ_ _ z=>VB z
end
section
variable{X:Cx}{st:IY}{rest:A0 IY}{t u:TS}{e:IQ}{te:TE}{pos:Pos}
def zHs:TS:=λD σ H=>D.nx σ H
def UH(t u:TS):TS:=λD σ H=>t { D with nx:=u D } σ H
theorem D0:QA X [] zHs:=λ_ _ σ H _ I h=>EJ ⟨σ,H,I,h⟩
theorem A9(h1:PS X st t)(h2:QA X rest u):QA X (st::rest) (UH t u):=by
 intro a s σ H D I h;refine GT (JK (h1 a s σ H { D with nx:=u D } I h) λf b q=>?_);cases f with
 | next =>
  obtain⟨σ',c,d,q⟩:=q;exact h2 a b σ' c D d q
 | ret v=>exact q
 | brk=>exact q
 | cont=>exact q
theorem B4(h1:PS X st t):QA X [st] t:=by
 intro a s σ H D I h;refine GT (JK (h1 a s σ H D I h) λf b q=>?_);cases f with
 | next=>exact EJ q
 | ret v=>exact q
 | brk=>exact q
 | cont=>exact q
def zEl:TS:=λD σ H=>D.bk σ H
theorem Wm:PS X (.Break pos) zEl:=λ_ _ σ H _ I h=>wpAny_Break ⟨σ,H,I,h⟩
theorem Inv.quiet{a:A0 (A3×Obj)}{σ:St}{H:Hp}{s:A4}(I:Inv X a σ H s):interactive X.env=false:=by simp[interactive,I.ok.kind]
def zEt(te:TE):TS:=λD σ H=>te σ H λ_ a=>D.nx σ a
theorem J8(b:PE X e te)(c:swapsWith e none pos.line X.env=pure false:=by rfl):PS X (.Expr e pos) (zEt te):=by
 intro a s σ H D I h;exact wpAny_Expr_any (JK (b a s σ H _ I h) λv i ⟨x,d,f,j,g⟩=>⟨σ,d,f,g⟩) I.quiet c
def zIv(te:TE):TS:=λD σ H=>te σ H D.rt
theorem C0(b:PE X e te):PS X (.Return (some e) pos) (zIv te):=by
 intro a s σ H D I h;exact wpAny_Return_some (JK (b a s σ H _ I h) λv i ⟨x,c,d,f,g⟩=>⟨x,σ,c,d,f,g⟩)
def zIl(c:TT)(t u:TS):TS:=λD σ H=>c σ H λb a=>if b=true then t D σ a else u D σ a
theorem K0{c:IQ}{a b:A0 IY}{f:TT}(l:PT X c f)(m:QA X a t)(n:QA X b u):PS X (.If c a b pos) (zIl f t u):=by
 intro e s σ H D I h;refine wpAny_If (JK (l e s σ H _ I h) λd g ⟨i,j,k⟩=>?_);cases d with
 | true=>exact m e g σ i D j k
 | false=>exact n e g σ i D j k
def zEv:TS:=λ_ _ _=>False
theorem m8:PS X st zEv:=λ_ _ _ _ _ _ h=>h.elim
end
abbrev TG:=V->St->Hp->(St->Hp->Prop)->Prop
abbrev RZ:=A0 V->St->Hp->(St->Hp->Prop)->Prop
def PG(X:Cx)(a:IQ)(t:TG):Prop :=
 ∀(b:A0 (A3×Obj)) (s:A4) (σ:St) (H:Hp) (v:V) (u:A2) (Q:St->Hp->Prop),Inv X b σ H s->RelV v u->t v σ H Q ->
  wpAny (model X.prog X.w) X.A (assign a X.env u) (λ_ d=>∃σ' c,Inv X b σ' c d/\Q σ' c) X.xe s
def TN(X:Cx)(ts:A0 IQ)(t:RZ):Prop :=
 ∀(a:A0 (A3×Obj)) (s:A4) (σ:St) (H:Hp) (b:A0 V) (c:A0 A2) (Q:St->Hp->Prop),Inv X a σ H s->IT b c->t b σ H Q ->
  wpAny (model X.prog X.w) X.A (assignInOrder ((assignEach ts X.env).map (·.2)) c) (λ_ e=>∃σ' d,Inv X a σ' d e/\Q σ' d) X.xe s
abbrev NR:=V->V->V->Hp->(Hp->Prop)->Prop
def zIi(X:Cx)(t:NR):Prop :=
 ∀(a:A0 (A3×Obj)) (s:A4) (σ:St) (H:Hp) (o i v:V) (b c u:A2) (Q:Hp->Prop),Inv X a σ H s->RelV o b->RelV i c->RelV v u->t o i v H Q ->
  wpAny (model X.prog X.w) X.A (setItem b c u) (λ_ e=>∃d,Inv X a σ d e/\Q d) X.xe s
abbrev TIp:=V->V->Hp->VK->Prop
def PIp(X:Cx)(b:Operator)(t:TIp):Prop :=
 ∀(a:A0 (A3×Obj)) (s:A4) (σ:St) (H:Hp) (x y:V) (v u:A2) (Q:VK),Inv X a σ H s->RelV x v->RelV y u->t x y H Q ->
  wpAny (model X.prog X.w) X.A (inplaceOp b v u) (EP X a σ Q) X.xe s
section
variable{X:Cx}{pos:Pos}
def Q4(i:Nat):TG:=λv σ H Q=>Q (σ.set i (some v)) H
theorem I9{i:Nat}{x:Str}(b:X.N.Nodup)(hi:X.N[i]?=some x)(c:Loc X.env.scope x)(d:X.fn x=true\/X.env.scope.names.lookup x=some .local:=by first | exact .inl rfl | exact .inr rfl | assumption):PG X (.Name x pos) (Q4 i):=by
 intro a s σ H v u Q I r h;exact wpAny_assign_Name (Y0 I b hi c r (λf e=>⟨_,H,e,h⟩) d)
def zGp:RZ:=λa σ H Q=>a = []/\Q σ H
def Jc(t:TG)(u:RZ):RZ:=λa σ H Q=>∃v r,a=v::r/\t v σ H λσ' b=>u r σ' b Q
theorem S5:TN X [] zGp:=by
 intro a s σ H b c Q I r h;obtain⟨e,h⟩:=h;subst e;cases r;exact assignInOrder_nil ⟨σ,H,I,h⟩
theorem E7{e:IQ}{b:A0 IQ}{t:TG}{u:RZ}(h1:PG X e t)(h2:TN X b u)
  (c:(assignEach (e::b) X.env).map (·.2)=assign e X.env ::(assignEach b X.env).map (·.2):=by rfl):TN X (e::b) (Jc t u):=by
 intro a s σ H l m Q I r h;obtain⟨v,n,d,h⟩:=h;subst d;cases r with
 | cons r f =>
  rw[c];refine assignInOrder_cons (JK (h1 a s σ H _ _ _ I r h) λ_ g ⟨σ1,i,j,k⟩=>?_);exact h2 a g σ1 i _ _ Q j f k
def UL(K:VA)(n:Nat)(t:RZ):TG:=λv σ H Q=>∃a b,v = .ref a/\JG K H a b/\b.length=n/\t b σ H Q
theorem zGh{d:A0 IQ}{k:Nat}{t:RZ}{n:Nat}(j:X.calm=true)(h:TN X d t)
  (l:(assignEach d X.env).length=n:=by rfl) (f:(assignEach d X.env).findIdx? (·.1)=none:=by rfl):PG X (.Tuple d k pos) (UL X.K n t):=by
 intro c s σ H v u Q I r g;obtain⟨a,m,p,q,w,g⟩:=g;subst p;cases r;obtain⟨x,i,y,C⟩:=I.tuple q;refine assign_Tuple_tuple (I.ok.hd j) y (by simp[l,<-w,i.length]) f λz A=>?_;have B:Inv X c σ H { s with heap:=z }:=I.kept (t':=s.toks) λb o e=>A b o (BB (AG e)) e;exact h c _ σ H m _ Q B (by simpa using i) g
def zJr(a b:TE)(t:NR):TG:=λv σ H Q=>a σ H λo c=>b σ c λi d=>t o i v d λe=>Q σ e
theorem Ng{o i:IQ}{d e:TE}{t:NR}(f:PE X o d)(hi:PE X i e)(g:zIi X t)
  (j:∀v,assign (.Subscript o i pos) X.env v =(do
   let b <-holding [v] (eval o X.env)
   let c <-holding [v,b] (eval i X.env)
   standAt pos
   holding [v,b,c] (setItem b c v)
   release [v,b,c] []):=by intro _;rfl):PG X (.Subscript o i pos) (zJr d e t):=by
 intro a s σ H v u Q I r h;rw[j];refine AA (BN (JK (f a s σ H _ I h) λb k ⟨x,l,m,n,p⟩=>?_));refine AA (BN (JK (hi a k σ l _ m p) λc q ⟨y,w,z,A,B⟩=>?_));refine AA (EC (AA (BN (JK (g a q σ w x y v b c u _ z n A r B) λ_ F ⟨C,D,E⟩=>?_))));exact wpAny_release ⟨σ,C,D,E⟩
def TZ(a:TE)(g:TG):TS:=λD σ H=>a σ H λx b=>g x σ b D.nx
theorem Bv{tg e:IQ}{b:TE}{g:TG}(c:PE X e b)(d:PG X tg g)(f:swapsWithSole [tg] e pos.line X.env=pure false:=by rfl)(hw:swappedStores [tg] e X.env=pure none:=by rfl)
  (h1:(assignEach [tg] X.env).map (·.2) = [assign tg X.env]:=by rfl):PS X (.Assign [tg] e pos) (TZ b g):=by
 intro a s σ H D I h;refine wpAny_Assign_stores (JK (c a s σ H _ I h) λv i ⟨x,j,k,l,m⟩=>?_) f hw;rw[h1];exact JK (d a i σ j x v _ k l m) λ_ n q=>q
theorem C8{i:Nat}{x:Str}{e:IQ}{c:TE}{a:Pos}(d:X.N.Nodup)(hi:X.N[i]?=some x)(f:Loc X.env.scope x)(g:PE X e c)(j:swapsWith e (some (.Name x a)) pos.line X.env=pure false:=by rfl)(k:X.fn x=true\/X.env.scope.names.lookup x=some .local:=by first | exact .inl rfl | exact .inr rfl | assumption) :
  PS X (.Assign [.Name x a] e pos) (TZ c (Q4 i)):=by
 intro b s σ H D I h;refine wpAny_Assign_Name (JK (g b s σ H _ I h) λv q ⟨y,l,m,n,o⟩=>?_) j;exact Y0 m d hi f n (λr p=>⟨_,l,p,o⟩) k
def zJd(i j:Nat)(a:TA):TS:=λD σ H=>a σ H λb c=>∃v w,b = [v,w]/\D.nx ((σ.set i (some v)).set j (some w)) c
theorem Sn{i j:Nat}{x y:Str}{a b:IQ}{B:TA}{k l m:Pos}{n k2 d}(K:X.calm=true)(C:X.N.Nodup)(hi:X.N[i]?=some x)(L:X.N[j]?=some y)(r:i≠j)
  (E:X.env.scope.names.lookup x=some .local) (F:X.env.scope.names.lookup y=some .local) (M:PA X [a,b] B)
  (hw:swappedStores [.Tuple [.Name x k,.Name y l] n m] (.Tuple [a,b] k2 d) X.env=pure (some [x,y]))
  (O:swapsWithSole [.Tuple [.Name x k,.Name y l] n m] (.Tuple [a,b] k2 d) pos.line X.env=pure false:=by rfl) :
  PS X (.Assign [.Tuple [.Name x k,.Name y l] n m] (.Tuple [a,b] k2 d) pos) (zJd i j B):=by
 intro c s σ H D I h;rw[exec_Assign_arm];refine AA (EC ?_);rw[O];refine AA (AC ?_);rw[AI (by decide)];refine AA (Tuple_ (JK (M _ c s σ H _ I h) λP s1 ⟨vs,G,Q,R,t⟩=>?_));obtain⟨v,w,S,t⟩:=t;subst S;obtain⟨f,g,rfl,T,u⟩:∃f g,P = [f,g]/\RelV v f/\RelV w g:=by
  cases R with
  | cons p q =>
   cases q with
   | cons U V =>
    cases V;exact⟨_,_,rfl,p,U⟩
 refine BV ?_ (by show 2<=sizeLine;decide);have W:Inv X c σ G { s1 with heap:=s1.heap.push { cls:=.type "tuple",data:=.seq [f,g].toArray } }:=Q.kept (t':=s1.toks) λb o e=>AD _ e;rw[hw];refine AA (AC ?_);show wpAny (model X.prog X.w) X.A (do rule "assign.swapped-stores";let items <-unpackItems (.ref s1.heap.objs.size) 2 none;assignInOrder [λv=>bindName X.env y v,λv=>bindName X.env x v] items.reverse;pure Flow.next) _ _ _;refine AA (DN (AA (unpackItems_tuple (items:=#[f,g]) (I.ok.hd K) (IsTup.new s1.heap _) λh' z=>?_)));have Y:=W.kept (h':=h') (t':=s1.toks) λb o e=>z b o (BB (AG e)) e;show wpAny _ _ (assignInOrder [λv=>bindName X.env y v,λv=>bindName X.env x v] [g,f] >>= λ_=>pure Flow.next) _ _ _;refine AA (assignInOrder_cons (wpAny_bindName (Y0 Y C L (.inl F) u (λs2 Z=>?_) (.inr F))));refine assignInOrder_cons (wpAny_bindName (Y0 Z C hi (.inl E) T (λs3 J=>assignInOrder_nil (AC ?_)) (.inr E)));rw[List.set_comm _ _ (Ne.symm r)]at J;exact⟨_,G,J,t⟩
def zJy(i:Nat)(a:TE)(b:TIp):TS:=λD σ H=>∃x,σ[i]?=some (some x)/\a σ H λy c=>b x y c λz d=>D.nx (σ.set i (some z)) d
theorem zEy{i:Nat}{x:Str}{e:IQ}{n:TE}{f:Operator}{o:TIp}{d:Pos}(p:X.N.Nodup)(hi:X.N[i]?=some x)(g:Loc X.env.scope x)(q:PE X e n)(t:PIp X f o)(B:X.fn x=true\/X.env.scope.names.lookup x=some .local:=by first | exact .inl rfl | exact .inr rfl | assumption) :
  PS X (.AugAssign (.Name x d) f e pos) (zJy i n o):=by
 intro a s σ H D I h;obtain⟨v,C,h⟩:=h;obtain⟨m,E,F⟩:=I.loc;have j:Vis X.env.scope x:=by rcases g with k | k;exact .inl k;exact .inr (.inl k)
 obtain⟨u,r,l⟩:=F i x v hi C j;refine wpAny_AugAssign_Name ?_;have go:wpAny (model X.prog X.w) X.A (eval e X.env) (λw q0=>wpAny (model X.prog X.w) X.A (inplaceOp f u w) (λr s₃=>wpAny (model X.prog X.w) X.A (storeName X.env x r) (λ_=>SP X a D .next) X.xe s₃) X.xe q0) X.xe s:=by
  refine JK (q a s σ H _ I h) λw G ⟨y,J,K,L,M⟩=>?_;refine JK (t a G σ J v y u w _ K r L M) λz V ⟨W,O,P,Q,R⟩=>?_;exact Y0 P p hi g Q (λY S=>⟨_,O,S,R⟩) B
 rcases l with⟨hk,T⟩ | ⟨hk,c,U,b⟩
 .exact wpAny_loadName_local I.ok.kind hk E T go
 .rcases hk with hk | hk
  .exact wpAny_loadName_cell I.ok.kind hk U b go
  .rcases g with k | k
   .have:X.env.scope.names.lookup x=some .free:=hk;rw[k]at this;cases this
   .have:X.env.scope.names.lookup x=some .free:=hk;rw[k]at this;cases this
def ipI(f:Int->Int->Int):TIp:=λx y H Q=>∃i j,x = .int i/\y = .int j/\Q (.int (f i j)) H
theorem zFw:PIp X .Add (ipI λi j=>i+j):=by
 intro a s σ H x y v u Q I b c h;obtain⟨i,j,d,e,q⟩:=h;subst d;subst e;obtain⟨t,rfl⟩:=b;obtain⟨f,rfl⟩:=c;exact iadd_int ⟨.int _,H,I.tok _,⟨_,rfl⟩,q⟩
def zEe(c:TT)(f:TS):TS:=λD σ H=>∃W:Nat->St->Hp->Prop,(∃m,W m σ H)/\∀m σ H,W m σ H ->
 c σ H λb a=>if b=true then ∃N:St->Hp->Prop,(∀σ' d,N σ' d->∃e,e < m/\W e σ' d)/\f { D with nx:=N,ct:=N,bk:=D.nx } σ a else D.nx σ a
theorem Gz{c:IQ}{d:A0 IY}{q:TT}{r:TS}(t:PassesOwn (model X.prog X.w) X.A X.env X.xe)(C:PT X c q)(E:QA X d r):PS X (.While c d [] pos) (zEe q r):=by
 intro a s σ H D I h;obtain⟨W,⟨F,G⟩,e⟩:=h;refine wpAny_While (codeAny_whileLoop (λn J=>∃σ' u,Inv X a σ' u J/\W n σ' u) ?_ F ⟨σ,H,I,G⟩);rintro n K ⟨σ1,x,L,M⟩;refine FJ t (JK (C a K σ1 x _ L (e n σ1 x M)) λb O ⟨y,z,i⟩=>?_);cases b with
 | true =>
  obtain⟨N,B,i⟩:=i;rw[AO rfl];refine FJ t (JK (E a O σ1 y _ z i) λf P j=>?_);cases f with
  | next =>
   obtain⟨σ3,g,k,l⟩:=j;obtain⟨m,o,p⟩:=B σ3 g l;exact⟨m,o,σ3,g,k,p⟩
  | cont =>
   obtain⟨σ3,g,k,l⟩:=j;obtain⟨m,o,p⟩:=B σ3 g l;exact⟨m,o,σ3,g,k,p⟩
  | brk=>exact j
  | ret v=>exact j
 | false =>
  rw[AI BE];exact EJ ⟨σ1,y,z,i⟩
end
set_option genInjectivity false in
structure It where
 go:Nat->Hp->Prop
 yld:Nat->Hp->V->Hp->Prop
 stop:Nat->Hp->Prop
def Fo(X:Cx)(a:A0 (A3×Obj))(H:Hp)(b:A3):Prop :=
 H b=none/\b≠X.env.locals/\b∉X.fs/\(b∈X.ex\/X.s₀.heap.objs.size<=b)/\(∀x c,X.env.cells.lookup x=some c->c≠b)/\∀p∈X.pn++a,p.1≠b
def Inv.fpOk{X:Cx}{a:A0 (A3×Obj)}{σ:St}{H H':Hp}{s:A4}{b:A3}(I:Inv X a σ H s)(d:s.heap.objs.size<=b)(f:H' b=none):Fo X a H' b:=by
 refine⟨f,Nat.ne_of_gt (BI I.lt d),I.nofs d,.inr (VE I.sz d),λx c e z=>?_,λp g z=>?_⟩
 .obtain⟨v,q⟩:=I.cell x c e;exact absurd (BI q.lt (by rw[z];exact d)) (DB _)
 .exact absurd (BI (AG (I.pin p g).1) (by rw[z];exact d)) (DB _)
structure ND(P:IE)(w:IJ)(K:VA)(tg:IQ)(J:It)(fp:A0 A3)(it:A3)(tn:Nat->IP->Prop):Prop where
 mem:it∈fp
 obj:∀i h,tn i h->∀b∈fp,∃o,h.get? b=some o/\∀v,o.data≠ .cell v
 keep:∀i h h',tn i h->(∀b∈fp,∀o,h.get? b=some o->h'.get? b=some o)->tn i h'
 item:∀(X:Cx),X.prog=P->X.w=w->X.K=K->X.calm=true->∀(i:Nat) (pins:A0 (A3×Obj)) (s:A4) (σ:St) (H:Hp) (E:A2->A4->Prop),Inv X pins σ H s->(∀b∈fp,Fo X pins H b)->tn i s.heap->J.go i H ->
  wpAny (model P w) X.A (pyNext (.ref it)) (λr s1=>∃u,r=some u /\
   wpAny (model P w) X.A (letOwnedTupleGo tg (.ref it) u) (λ_ s2=>∃x H',Inv X pins σ H' s2/\RelV x u/\J.yld i H x H'/\tn (i+1) s2.heap/\∀b∈fp,H' b=none) E s1) E s
 done:∀(X:Cx),X.prog=P->X.w=w->X.K=K->X.calm=true->∀(i:Nat) (pins:A0 (A3×Obj)) (s:A4) (σ:St) (H:Hp) (E:A2->A4->Prop),Inv X pins σ H s->(∀b∈fp,Fo X pins H b)->tn i s.heap->J.stop i H ->
  wpAny (model P w) X.A (pyNext (.ref it)) (λr s1=>r=none/\Inv X pins σ H s1) E s
 self:∀(A:IM) (i:Nat) (s:A4) (Q:A2->A4->Prop) (E:A2->A4->Prop),tn i s.heap->Q (.ref it) s->wpAny (model P w) A (pyIter (.ref it)) Q E s
abbrev TI:=St->Hp->(It->Hp->Prop)->Prop
def PIE(X:Cx)(a:A0 (A3×Obj))(σ:St)(tg:IQ)(R:It->Hp->Prop)(c:A2)(e:A4):Prop :=
 ∃(f:A3) (g:A0 A3) (tn:Nat->IP->Prop) (J:It) (d:Hp),c = .ref f/\Inv X a σ d e/\ND X.prog X.w X.K tg J g f tn/\tn 0 e.heap/\(∀b∈g,Fo X a d b)/\R J d
def PI(X:Cx)(tg iter:IQ)(b:TI):Prop :=
 ∀(a:A0 (A3×Obj)) (s:A4) (σ:St) (H:Hp) (R:It->Hp->Prop),Inv X a σ H s->b σ H R ->
  wpAny (model X.prog X.w) X.A (eval iter X.env) (λv c=>wpAny (model X.prog X.w) X.A (pyIter v) (PIE X a σ tg R) X.xe c) X.xe s
def Wo{M:Model}{A:IM}{E:A2->A4->Prop}{s:A4}{tg:IQ}{b:A3}{u:A2}{o:Obj}{n:String}{vs:IG A2}{Q:Unit->A4->Prop}(c:s.heap.get? b=some o)(d:o.cls = .type n)(e:o.data = .fields vs)
    (f:["enumerate","zip","dict_itemiterator","dict_reverseitemiterator","odict_iterator","itertools.zip_longest","itertools.pairwise"].contains n=false) (a:Q () s):wpAny M A (letOwnedTupleGo tg (.ref b) u) Q E s:=by
  unfold letOwnedTupleGo;cases tg<;>first
    | exact AC a
    | (cases u<;>first
        | exact AC a
        | (refine AA (wpAny_load c ?_)
           rw[d,e];show wpAny M A (if(["enumerate","zip","dict_itemiterator","dict_reverseitemiterator","odict_iterator","itertools.zip_longest","itertools.pairwise"].contains n&&vs[0]? == some (rawInt _))=true then _ else _) Q E s;rw[AI (by intro h;rw[f,DP]at h;cases h)];exact AC a))
def QS(K:VA)(a:A3):It :=
 ⟨λi H=>∃b x,IR K H a b/\b[i]?=some x,λi H x c=>c=H/\∀b,IR K H a b->b[i]?=some x,λi H=>∃b,IR K H a b/\b.length<=i⟩
def Itt(K:VA)(a:A3):It :=
 ⟨λi H=>∃b x,JG K H a b/\b[i]?=some x,λi H x c=>c=H/\∀b,JG K H a b->b[i]?=some x,λi H=>∃b,JG K H a b/\b.length<=i⟩
def RN(lo:Int)(n:Nat):It:=⟨λi _=>i<n,λi H x a=>a=H/\x = .int (lo+i),λi _=>n<=i⟩
def Uj{P:IE}{w:IJ}{K:VA}{tg:IQ}(a g:A3):ND P w K tg (QS K a) [g] g (λi h=>h.IsListIter g a i) where
 mem:=by simp
 obj:=λi h st b j=>by
  have e:b=g:=by simpa using j
  subst e;obtain⟨o,e,c,d⟩:=st;exact⟨o,e,λv z=>by rw[d]at z;cases z⟩
 keep:=λi h m st k=>st.at λo e=>k g (by simp) o e
 item:=by
  intro X r t y N i f s σ H E I n st A;subst r t y;obtain⟨O,x,q,B⟩:=A;obtain⟨C,D,p,Q⟩:=I.list q;obtain⟨u,R,S⟩:=D.get B;obtain⟨F,G,T,J,L,M⟩:=n g (by simp);refine wpAny_pyNext_list_item st p.isList (x:=u) (by simpa using R) λm l U=>?_;have V:Inv X f σ H { s with heap:=m }:=I.turned (t':=s.toks) (λb o j e=>(U.2 b j).trans e) F G J L M;obtain⟨o,e,c,d⟩:=id l;exact⟨u,rfl,Wo (s:={ s with heap:=m }) e c d (by decide) ⟨x,H,V,S,⟨rfl,λys Y=>by rw[I.list_inj Y q];exact B⟩,l,λb j=>(n b j).1⟩⟩
 done:=by
  intro X r t y N i f s σ H E I n st A;subst r t y;obtain⟨O,q,B⟩:=A;obtain⟨C,D,p,Q⟩:=I.list q;obtain⟨F,G,T,J,L,M⟩:=n g (by simp);have hl:=D.length;exact wpAny_pyNext_list_end (I.ok.hd N) st p.isList (by simp;lia) λm Z=>⟨rfl,I.turned (t':=s.toks) (λb o j e=>Z b o j e) F G J L M⟩
 self:=λ_ _ _ _ _ st h=>wpAny_pyIter_listiter st h
def Os{P:IE}{w:IJ}{K:VA}{tg:IQ}(a g:A3):ND P w K tg (Itt K a) [g] g (λi h=>h.IsTupleIter g a i) where
 mem:=by simp
 obj:=λi h st b j=>by
  have e:b=g:=by simpa using j
  subst e;obtain⟨o,e,c,d⟩:=st;exact⟨o,e,λv z=>by rw[d]at z;cases z⟩
 keep:=λi h n st k=>st.at λo e=>k g (by simp) o e
 item:=by
  intro X t y A N i f s σ H E I q st B;subst t y A;obtain⟨O,x,r,C⟩:=B;obtain⟨l,D,p,Q⟩:=I.tuple r;obtain⟨u,R,S⟩:=D.get C;obtain⟨F,G,T,J,L,M⟩:=q g (by simp);refine wpAny_pyNext_tuple_item st (show s.heap.IsTuple a l.toArray from p) (x:=u) (by simpa using R) λn m U=>?_;have V:Inv X f σ H { s with heap:=n }:=I.turned (t':=s.toks) (λb o j e=>(U.2 b j).trans e) F G J L M;obtain⟨o,e,c,d⟩:=id m;exact⟨u,rfl,Wo (s:={ s with heap:=n }) e c d (by decide) ⟨x,H,V,S,⟨rfl,λys Y=>by rw[I.tuple_inj Y r];exact C⟩,m,λb j=>(q b j).1⟩⟩
 done:=by
  intro X t y A N i f s σ H E I q st B;subst t y A;obtain⟨O,r,C⟩:=B;obtain⟨l,D,p,Q⟩:=I.tuple r;obtain⟨F,G,T,J,L,M⟩:=q g (by simp);have hl:=D.length;exact wpAny_pyNext_tuple_end (I.ok.hd N) st (show s.heap.IsTuple a l.toArray from p) (by simp;lia) λn Z=>⟨rfl,I.turned (t':=s.toks) (λb o j e=>Z b o j e) F G J L M⟩
 self:=λ_ _ _ _ _ st h=>wpAny_pyIter_tupleiter st h
def Pb{P:IE}{w:IJ}{K:VA}{tg:IQ}(a:A3)(lo:Int)(n:Nat):ND P w K tg (RN lo n) [a] a (λi h=>IsRangeIter h a (lo +(i:Nat)*1) ((n:Int)-(i:Nat)) 1) where
 mem:=by simp
 obj:=λi h st b d=>by
  have e:b=a:=by simpa using d
  subst e;exact⟨_,st,λv z=>by
   have D:Data.fields _=Data.cell v:=z;cases D⟩
 keep:=λi h g st k=>k a (by simp) _ st
 item:=by
  intro X l m p q i c s σ H E I j st r;subst l m p;obtain⟨u,x,F,y,A,B⟩:=j a (by simp);have W:=Walks.range (prog:=X.prog) (w:=X.w) (I.ok.hd q) a lo 1 n;refine W.item i s _ _ r st λv g C G f kk=>?_;obtain⟨t,rfl⟩:=G;have J:Inv X c σ H { s with heap:=g,toks:=C }:=I.turned (λb o d e=>kk b o (by simpa using d) e) u x y A B;refine⟨_,rfl,Wo (s:={ s with heap:=g,toks:=C }) (n := "range_iterator") f rfl rfl (by decide) ⟨.int (lo+i),H,J,⟨t,?_⟩,⟨rfl,rfl⟩,f,λb d=>(j b d).1⟩⟩;rw[Int.mul_one]
 done:=by
  intro X l m p q i c s σ H E I j st r;subst l m p;obtain⟨u,x,F,y,A,B⟩:=j a (by simp);exact wpAny_pyNext_range_end (I.ok.hd q) st (by have:n<=i:=r;lia) λg L=>⟨rfl,I.turned (t':=s.toks) (λb o d e=>L b o d e) u x y A B⟩
 self:=λ_ _ _ _ _ st h=>wpAny_pyIter_rangeiter st h
section
variable{X:Cx}{tg:IQ}
def zDx(K:VA)(tl:TE):TI:=λσ H R=>tl σ H λx b=>∃a,x = .ref a/\(∃c,IR K b a c)/\R (QS K a) b
def zIb(K:VA)(tl:TE):TI:=λσ H R=>tl σ H λx b=>∃a,x = .ref a/\(∃c,JG K b a c)/\R (Itt K a) b
theorem zAp{l:IQ}{tl:TE}(g:PE X l tl):PI X tg l (zDx X.K tl):=by
 intro c s σ H R I h;refine JK (g c s σ H _ I h) λv d ⟨x,i,f,j,k⟩=>?_;obtain⟨a,e,⟨t,m⟩,q⟩:=k;subst e;cases j;obtain⟨n,u,p,w⟩:=f.list m;refine GN p.isList ?_;refine⟨d.heap.objs.size,[d.heap.objs.size],_,_,i,rfl,f.kept (t':=d.toks) λb o e=>AD _ e,Uj a _,⟨_,AY _ rfl,rfl,rfl⟩,λb r=>?_,q⟩;have e:b=d.heap.objs.size:=by simpa using r
 subst e;exact f.fpOk (VD _) (f.hok.fresh (VD _))
theorem zFq{l:IQ}{tl:TE}(i:PE X l tl):PI X tg l (zIb X.K tl):=by
 intro c s σ H R I h;refine JK (i c s σ H _ I h) λv d ⟨x,j,f,k,m⟩=>?_;obtain⟨a,e,⟨t,n⟩,q⟩:=m;subst e;cases k;obtain⟨g,u,p,w⟩:=f.tuple n;refine FY (show d.heap.IsTuple a g.toArray from p) ?_;refine⟨d.heap.objs.size,[d.heap.objs.size],_,_,j,rfl,f.kept (t':=d.toks) λb o e=>AD _ e,Os a _,⟨_,AY _ rfl,rfl,rfl⟩,λb r=>?_,q⟩;have e:b=d.heap.objs.size:=by simpa using r
 subst e;exact f.fpOk (VD _) (f.hok.fresh (VD _))
theorem Mg{a:A0 (A3×Obj)}{σ:St}{H:Hp}{s:A4}{R:It->Hp->Prop}{E:A2->A4->Prop}{lo hi:Int}{t u v:Tok}{c:Nat}(I:Inv X a σ H s)(h1:-(2^62)<=lo)(h2:lo<2^62)(f:-(2^62)<=hi)(g:hi<2^62)
  (q:R (RN lo (hi-lo).toNat) H):wpAny (model X.prog X.w) X.A (pyIter (.ref s.heap.objs.size)) (PIE X a σ tg R) E { s with heap:=s.heap.push { cls:=.type "range",data:=.fields #[.int lo t,.int hi u,.int 1 v] },toks:=c }:=by
 refine wpAny_pyIter_range (IsRange.new ..) (small_one h1 h2 f g) ?_;have d:Inv X a σ H { s with heap:=s.heap.push { cls:=.type "range",data:=.fields #[.int lo t,.int hi u,.int 1 v] },toks:=c }:=I.kept λb o e=>AD _ e;refine⟨(s.heap.push { cls:=.type "range",data:=.fields #[.int lo t,.int hi u,.int 1 v] }).objs.size,[(s.heap.push { cls:=.type "range",data:=.fields #[.int lo t,.int hi u,.int 1 v] }).objs.size],_,_,H,rfl,
  d.kept (t':=c) λb o e=>AD _ e,Pb _ lo (hi-lo).toNat,?_,λb h=>?_,q⟩
 .have i:lo +((0:Nat):Int)*1=lo:=by simp
  have j:(((hi-lo).toNat:Nat):Int)-((0:Nat):Int)=Builtin.Range.rangeSize lo hi 1:=by rw[rangeSize_one];split<;>lia
  show IsRangeIter _ _ (lo +((0:Nat):Int)*1) ((((hi-lo).toNat:Nat):Int)-((0:Nat):Int)) 1;rw[i,j];exact AY _ rfl
 .have e:b =(s.heap.push { cls:=.type "range",data:=.fields #[.int lo t,.int hi u,.int 1 v] }).objs.size:=by simpa using h
  subst e;exact d.fpOk (VD _) (d.hok.fresh (VD _))
def zFo(a:TA):TI:=λσ H R=>a σ H λb c=>∃j:Int,b = [.int j]/\-(2^62)<=j/\j<2^62/\R (RN 0 j.toNat) c
def zGx(a:TA):TI:=λσ H R=>a σ H λb c=>∃i j:Int,b = [.int i,.int j]/\(-(2^62)<=i/\i<2^62/\-(2^62)<=j/\j<2^62)/\R (RN i (j-i).toNat) c
theorem Qj{a:IQ}{f:TA}{p b:Pos}(g:Gl X "range")(i:X.mg "range" = none)(k:PA X [a] f)(l:starEach [a] X.env = [(false,eval a X.env)]:=by rfl):PI X tg (.Call (.Name "range" p) [a] [] b) (zFo f):=by
 intro c s σ H R I h;refine Call_ (Bq I g i boot_range (VP (JK (k b c s σ H _ I h) λv w ⟨x,y,m,n,d⟩=>?_) l rfl));obtain⟨j,e,d,o,q⟩:=d;subst e;cases n with
 | cons r u =>
  cases u;obtain⟨t,rfl⟩:=r;exact call_range_1 (Mg m (by lia) (by lia) d o (by simpa using q))
theorem Vo{a b:IQ}{l:TA}{p c:Pos}(m:Gl X "range")(n:X.mg "range" = none)(o:PA X [a,b] l)(u:starEach [a,b] X.env = [(false,eval a X.env),(false,eval b X.env)]:=by rfl)(d:starEach [b] X.env = [(false,eval b X.env)]:=by rfl) :
  PI X tg (.Call (.Name "range" p) [a,b] [] c) (zGx l):=by
 intro f s σ H R I h;refine Call_ (Bq I m n boot_range (VP (JK (o c f s σ H _ I h) λB C ⟨D,E,v,w,g⟩=>?_) (by rw[u,d]) (by rw[d];rfl)));obtain⟨i,j,e,⟨g,x,y,z⟩,q⟩:=g;subst e;cases w with
 | cons r k =>
  cases k with
  | cons A k =>
   cases k;obtain⟨t,rfl⟩:=r;obtain⟨F,rfl⟩:=A;exact call_range_2 (Mg v g x y z q)
def zJp(c:TI)(g:TG)(d:TS):TS:=λD σ H=>c σ H λJ e=>∃W:Nat->Nat->St->Hp->Prop,(∃m,W 0 m σ e)/\∀i m σ H,W i m σ H ->
 (J.stop i H/\D.nx σ H)\/(J.go i H/\∃N:St->Hp->Prop,(∀σ' a,N σ' a->∃b,b < m/\W (i+1) b σ' a)/\∀x a,J.yld i H x a->g x σ a λσ2 f=>d { D with nx:=N,ct:=N,bk:=D.nx } σ2 f)
def Hx(fp:A0 A3)(h:IP):A0 (A3×Obj):=fp.filterMap λb=>(h.get? b).map λo=>(b,o)
theorem o0{fp:A0 A3}{h:IP}{b:A3}{o:Obj}(a:b∈fp)(e:h.get? b=some o):(b,o)∈Hx fp h:=List.mem_filterMap.mpr ⟨b,a,by rw[e];rfl⟩
theorem Re{fp:A0 A3}{h:IP}{p:A3×Obj}(a:p∈Hx fp h):p.1∈fp/\h.get? p.1=some p.2:=by
 obtain⟨b,c,e⟩:=List.mem_filterMap.mp a;cases q:h.get? b with
 | none=>rw[q]at e;cases e
 | some o =>
  rw[q]at e;have d:(b,o)=p:=BU e;subst d;exact⟨c,q⟩
theorem Inv.pinned{a:A0 (A3×Obj)}{σ:St}{H:Hp}{s:A4}{fp:A0 A3}(I:Inv X a σ H s)(g:∀b∈fp,Fo X a H b)(h:∀b∈fp,∃o,s.heap.get? b=some o/\∀v,o.data≠ .cell v):Inv X (a++Hx fp s.heap) σ H s :=
 I.pins_of λp i=>(AN.mp i).elim (λz=>I.pin p (BO _ z)) λz=>by
  obtain⟨c,e⟩:=Re z;obtain⟨j,k,l,_⟩:=g p.1 c;obtain⟨o,f,d⟩:=h p.1 c;rw[e]at f;cases f;exact⟨e,j,k,l,d⟩
theorem Inv.unpinned{a pl:A0 (A3×Obj)}{σ:St}{H:Hp}{s:A4}(I:Inv X (a++pl) σ H s):Inv X a σ H s:=I.pins_of λp b=>I.pin p (BO _ (CT _ b))
theorem W6{iter:IQ}{q:A0 IY}{S:TI}{g:TG}{U:TS}{L:Pos}(z:PassesOwn (model X.prog X.w) X.A X.env X.xe)(V:X.calm=true)(hi:PI X tg iter S)(hg:PG X tg g)(c:QA X q U)
  (hs:∀x,foldedSetIterable iter X.env x=pure x:=by intro _;rfl):PS X (.For tg iter q [] L) (zJp S g U):=by
 intro a s σ H D I h;refine wpAny_For (JK (hi a s σ H _ I h) λv s1 h1=>JK h1 λitv s2 h2=>?_) hs;obtain⟨it,B,tn,J,H2,e,I2,T,M,Y,W,⟨m0,w0⟩,C⟩:=h2;subst e;have j:∀{p:Hp},(∀b∈B,p b=none)->∀b∈B,Fo X a p b:=λhn b c=>⟨hn b c,(Y b c).2⟩;refine codeAny_forLoop_any (λn Z=>∃i σ' p,Inv X a σ' p Z/\tn i Z.heap/\(∀b∈B,p b=none)/\W i n σ' p) ?_ m0 ⟨0,σ,H2,I2,M,λb c=>(Y b c).1,w0⟩;rintro n s3 ⟨i,σ3,K,I3,E,F,w3⟩;rcases C i n σ3 K w3 with⟨stop,qn⟩ | ⟨go,N,hN,step⟩
 .refine FJ z (JK (T.done X rfl rfl rfl V i a s3 σ3 K X.xe I3 (j F) E stop) λr s4 ⟨O,I4⟩=>?_);subst O;exact EJ ⟨σ3,K,I4,qn⟩
 .refine FJ z (JK (T.item X rfl rfl rfl V i a s3 σ3 K X.xe I3 (j F) E go) λr s4 ⟨u,O,h4⟩=>?_);subst O;refine FJ z (JK h4 λ_ s5 ⟨x,H5,I5,r5,y5,y,P⟩=>?_);have Q:=I5.pinned (j P) (T.obj _ _ y);refine FJ z (JK (hg _ s5 σ3 H5 x u _ Q r5 (step x H5 y5)) λ_ s6 ⟨σ6,H6,I6,q6⟩=>?_);refine FJ z (JK (c _ s6 σ6 H6 _ I6 q6) λf R t=>?_);have again:∀{σ7:St} {k:Hp},Inv X (a++Hx B s5.heap) σ7 k R->N σ7 k->∃m,m<n/\∃i σ' p,Inv X a σ' p R/\tn i R.heap/\(∀b∈B,p b=none)/\W i m σ' p:=fun{σ7 k} l G=>by
   obtain⟨m',hm,w7⟩:=hN σ7 k G;refine⟨m',hm,i+1,σ7,k,l.unpinned,T.keep _ _ _ y λb c o e=>(l.pin (b,o) (BO _ (BO _ (o0 c e)))).1,λb c=>?_,w7⟩;obtain⟨o,e,d⟩:=T.obj _ _ y b c;exact(l.pin (b,o) (BO _ (BO _ (o0 c e)))).2.1
  cases f with
  | next=>obtain⟨σ7,k,l,G⟩:=t;exact again l G
  | cont=>obtain⟨σ7,k,l,G⟩:=t;exact again l G
  | brk=>obtain⟨σ7,k,l,t⟩:=t;exact⟨σ7,k,l.unpinned,t⟩
  | ret v=>obtain⟨x7,σ7,k,l,r7,t⟩:=t;exact⟨x7,σ7,k,l.unpinned,r7,t⟩
end
def Iw{lo:Int}{n:Nat}{g:TG}{c:TS}{D:Ends}{σ:St}{H:Hp}(Pv:Nat->St->Hp->Prop)(f:Pv 0 σ H)
  (h:∀i σ H,i<n->Pv i σ H->g (.int (lo+i)) σ H λσ2 b=>c { D with nx:=Pv (i+1),ct:=Pv (i+1),bk:=D.nx } σ2 b) (j:∀σ H,Pv n σ H->D.nx σ H) :
  ∃W:Nat->Nat->St->Hp->Prop,(∃m,W 0 m σ H)/\∀i m σ H,W i m σ H ->
   ((RN lo n).stop i H/\D.nx σ H)\/((RN lo n).go i H/\∃N:St->Hp->Prop,(∀σ' H',N σ' H'->∃d,d < m/\W (i+1) d σ' H')/\∀x H',(RN lo n).yld i H x H'->g x σ H' λσ2 b=>c { D with nx:=N,ct:=N,bk:=D.nx } σ2 b):=by
 refine⟨λi m σ H=>m=n-i/\i<=n/\Pv i σ H,⟨n,by simp,BZ _,f⟩,?_⟩;rintro i m σ H ⟨rfl,l,p⟩;by_cases a:i<n
 .refine .inr ⟨a,Pv (i+1),λσ' H' k=>⟨n-(i+1),by lia,rfl,a,k⟩,λx H' y=>?_⟩;obtain⟨e,y⟩:=y;subst e y;exact h i σ _ a p
 .have e:i=n:=by lia
  subst e;exact .inl ⟨VD _,j σ H p⟩
abbrev R2:=V->V->Hp->VK->Prop
def LB(X:Cx)(f:A2->A2->Sem A2)(r:R2):Prop :=
 ∀(a:A0 (A3×Obj)) (s:A4) (σ:St) (H:Hp) (x y:V) (v u:A2) (Q:VK),Inv X a σ H s->RelV x v->RelV y u->r x y H Q ->
  wpAny (model X.prog X.w) X.A (f v u) (EP X a σ Q) X.xe s
def UnR(X:Cx)(f:A2->Sem A2)(r:V->Hp->VK->Prop):Prop :=
 ∀(a:A0 (A3×Obj)) (s:A4) (σ:St) (H:Hp) (x:V) (v:A2) (Q:VK),Inv X a σ H s->RelV x v->r x H Q ->
  wpAny (model X.prog X.w) X.A (f v) (EP X a σ Q) X.xe s
def N0(X:Cx)(f:A2)(r:A0 V->Hp->VK->Prop):Prop :=
 ∀(a:A0 (A3×Obj)) (s:A4) (σ:St) (H:Hp) (b:A0 V) (c:A0 A2) (Q:VK),Inv X a σ H s->IT b c->r b H Q ->
  wpAny (model X.prog X.w) X.A (call f c) (EP X a σ Q) X.xe s
def zJq(X:Cx)(r:V->Hp->(Bool->Hp->Prop)->Prop):Prop :=
 ∀(a:A0 (A3×Obj)) (s:A4) (σ:St) (H:Hp) (x:V) (v:A2) (Q:Bool->Hp->Prop),Inv X a σ H s->RelV x v->r x H Q ->
  wpAny (model X.prog X.w) X.A (truthy v) (TP X a σ Q) X.xe s
def PN(r:R2)(a b:TE):TE:=λσ H Q=>a σ H λx c=>b σ c λy d=>r x y d Q
def tUn(r:V->Hp->VK->Prop)(a:TE):TE:=λσ H Q=>a σ H λx b=>r x b Q
def rI(C:Int->Int->Prop)(g:Int->Int->V):R2:=λx y H Q=>∃i j,x = .int i/\y = .int j/\C i j/\Q (g i j) H
def RU(g:Int->Int->V):R2:=λx y H Q=>∃i j,x = .int i/\y = .int j/\Q (g i j) H
def rU(g:Int->V):V->Hp->VK->Prop:=λx H Q=>∃i,x = .int i/\Q (g i) H
section
variable{X:Cx}{a b c:IQ}{ta tb tc:TE}{pos:Pos}
theorem zGz(i:PE X a ta)(j:PE X b tb){c:A0 (A3×Obj)}{s:A4}{σ:St}{H:Hp}{R:V->V->Hp->Prop}(I:Inv X c σ H s)
  (h:ta σ H λx g=>tb σ g λy d=>R x y d) {Q:A2->A4->Prop} {f:A2->A2->Sem A2}
  (k:∀v u e x y d,Inv X c σ d e->RelV x v->RelV y u->R x y d->wpAny (model X.prog X.w) X.A (f v u) Q X.xe e) :
  wpAny (model X.prog X.w) X.A (eval a X.env) (λv i1=>wpAny (model X.prog X.w) X.A (eval b X.env) (λu q0=>wpAny (model X.prog X.w) X.A (f v u) Q X.xe q0) X.xe i1) X.xe s:=by
 refine JK (i c s σ H _ I h) λv l ⟨x,g,m,n,o⟩=>?_;refine JK (j c l σ g _ m o) λu e ⟨y,d,p,q,r⟩=>?_;exact k v u e x y d p n q r
theorem G8{d:Operator}{r:R2}(e:LB X (binaryOp d) r)(f:PE X a ta)(g:PE X b tb):PE X (.BinOp a d b pos) (PN r ta tb):=by
 intro c s σ H Q I h;exact wpAny_BinOp (zGz f g I h λv u i x y j k l m q=>e c i σ j x y v u Q k l m q)
theorem zHj{c:UnaryOp}{r:V->Hp->VK->Prop}(d:UnR X (unaryOp c) r)(e:PE X a ta):PE X (.UnaryOp c a pos) (tUn r ta):=by
 intro b s σ H Q I h;exact UnaryOp_ (JK (e b s σ H _ I h) λv f ⟨x,g,i,j,k⟩=>d b f σ g x v Q i j k)
theorem UD{f:A2->A2->Sem A2}{C:Int->Int->Prop}{g:Int->Int->Int}
  (rule:∀(i j:Int) (t u:Tok) (s:A4) (Q:A2->A4->Prop) (E:A2->A4->Prop),C i j->Q (.int (g i j) s.toks) { s with toks:=s.toks+1 }->wpAny (model X.prog X.w) X.A (f (.int i t) (.int j u)) Q E s) :
  LB X f (rI C λi j=>.int (g i j)):=by
 intro a s σ H x y v u Q I b c h;obtain⟨i,j,rfl,rfl,d,q⟩:=h;obtain⟨t,rfl⟩:=b;obtain⟨e,rfl⟩:=c;exact rule i j t e s _ _ d ⟨.int (g i j),H,I.tok _,⟨_,rfl⟩,q⟩
theorem zHw{f:A2->A2->Sem A2}{g:Int->Int->Int}
  (rule:∀(i j:Int) (t u:Tok) (s:A4) (Q:A2->A4->Prop) (E:A2->A4->Prop),Q (.int (g i j) s.toks) { s with toks:=s.toks+1 }->wpAny (model X.prog X.w) X.A (f (.int i t) (.int j u)) Q E s) :
  LB X f (RU λi j=>.int (g i j)):=by
 intro a s σ H x y v u Q I b c h;obtain⟨i,j,rfl,rfl,q⟩:=h;obtain⟨t,rfl⟩:=b;obtain⟨d,rfl⟩:=c;exact rule i j t d s _ _ ⟨.int (g i j),H,I.tok _,⟨_,rfl⟩,q⟩
theorem zGs{f:A2->A2->Sem A2}{g:Int->Int->Bool}
  (rule:∀(i j:Int) (t u:Tok) (s:A4) (Q:A2->A4->Prop) (E:A2->A4->Prop),Q (.bool (g i j)) s->wpAny (model X.prog X.w) X.A (f (.int i t) (.int j u)) Q E s) :
  LB X f (RU λi j=>.bl (g i j)):=by
 intro a s σ H x y v u Q I b c h;obtain⟨i,j,rfl,rfl,q⟩:=h;obtain⟨t,rfl⟩:=b;obtain⟨d,rfl⟩:=c;exact rule i j t d s _ _ ⟨.bl (g i j),H,I,rfl,q⟩
def zJo(i j:Int):Prop:=0<j/\j<1073741824
def zIx(i j:Int):Prop:=0<=j/\j<=1000000/\i.natAbs<2^64
def TV(i j:Int):Prop:=(-(2^64)<i/\i<2^64)\/(-(2^64)<j/\j<2^64)
theorem TV.ok{i j:Int}(h:TV i j):IntMulOk i j:=by
 rcases h with⟨a,b⟩ | ⟨a,b⟩
 .exact .of_left (intBits_le_64 a b)
 .exact .of_right (intBits_le_64 a b)
theorem Oy(k:Nat):(0:Int)<=2^k:=by
 rw[two_pow_cast];exact Int.natCast_nonneg _
theorem X3:LB X (binaryOp .Add) (RU λi j=>.int (i+j)):=zHw λ_ _ _ _ _ _ _ q=>add_int q
theorem w4:LB X (binaryOp .Mult) (rI TV λi j=>.int (i*j)):=UD λ_ _ _ _ _ _ _ a q=>mul_int q a.ok
theorem Fz:LB X (binaryOp .FloorDiv) (rI zJo λi j=>.int (i / j)):=UD λi j _ _ _ _ _ a q=>by
 have b:(0:Int)<j:=a.1;have c:j<1073741824:=a.2;exact floordiv_int (by lia) (by rw[Int.fdiv_eq_ediv_of_nonneg i (by lia)];exact q) (.inl (PyProof.noPylong_small (by lia)))
theorem Fs:LB X (binaryOp .Mod) (rI (λ_ j=>0<j) λi j=>.int (i % j)):=UD λi j _ _ _ _ _ a q=>by
 have b:(0:Int)<j:=a;exact mod_int' (by lia) (by rw[Int.fmod_eq_emod_of_nonneg i (by lia)];exact q)
theorem zEx:LB X (binaryOp .Pow) (rI zIx λi j=>.int (i^j.toNat)):=UD λ_ _ _ _ _ _ _ a q=>pow_int_small a.1 a.2.1 a.2.2 q
theorem Te:LB X (binaryOp .LShift) (rI zIx λi j=>.int (i*2^j.toNat)):=UD λ_ _ _ _ _ _ _ a q=>lshift_int_small a.1 a.2.1 a.2.2 q
theorem Sv:LB X (binaryOp .RShift) (rI (λ_ j=>0<=j) λi j=>.int (i / 2^j.toNat)):=UD λi j _ _ _ _ _ a q =>
 rshift_int a (by rw[Int.fdiv_eq_ediv_of_nonneg i (Oy _)];exact q)
theorem Np:LB X (binaryOp .BitAnd) (RU λi j=>.int (Builtin.bitAnd i j)):=zHw λ_ _ _ _ _ _ _ q=>and_int q
theorem Wc:LB X (binaryOp .BitOr) (RU λi j=>.int (Builtin.bitOr i j)):=zHw λ_ _ _ _ _ _ _ q=>or_int q
theorem unI{f:A2->Sem A2}{g:Int->Int}
  (rule:∀(i:Int) (t:Tok) (s:A4) (Q:A2->A4->Prop) (E:A2->A4->Prop),Q (.int (g i) s.toks) { s with toks:=s.toks+1 }->wpAny (model X.prog X.w) X.A (f (.int i t)) Q E s) :
  UnR X f (rU λi=>.int (g i)):=by
 intro a s σ H x v Q I b h;obtain⟨i,rfl,q⟩:=h;obtain⟨t,rfl⟩:=b;exact rule i t s _ _ ⟨.int (g i),H,I.tok _,⟨_,rfl⟩,q⟩
theorem zFu:UnR X (unaryOp .Invert) (rU λi=>.int (Builtin.bitNot i)):=unI λ_ _ _ _ _ q=>invert_int q
end
def zHu:V->V->Bool
 | .non,.non=>true | .non,.int _=>true | .int _,.non=>true | .non,.bl _=>true | .bl _,.non=>true | .non,.str _=>true | .str _,.non=>true
 | .int _,.int _=>true | .bl _,.bl _=>true | .str _,.str _=>true | .byt _,.byt _=>true
 | .int _,.str _=>true | .str _,.int _=>true | .bl _,.str _=>true | .str _,.bl _=>true
 | _,_=>false
def rEq:R2:=λx y H Q=>zHu x y=true/\Q (.bl (decide (x=y))) H
def rNe:R2:=λx y H Q=>zHu x y=true/\Q (.bl (!decide (x=y))) H
def Qk{i j:Int}:decide (V.int i=V.int j) =(i == j):=by
 rw[GC];simp
def Zd{i j:Bool}:decide (V.bl i=V.bl j) =(i == j):=by
 rw[GC];simp
def Vd{i j:Str}:decide (V.str i=V.str j) =(i == j):=by
 rw[GC];simp
def Sg{i j:IG UInt8}:decide (V.byt i=V.byt j) =(i.toList == j.toList):=by
 rw[GC];cases i;cases j;simp
section
variable{X:Cx}{a b c:IQ}{ta tb tc:TE}{pos:Pos}
theorem J3{a:A0 (A3×Obj)}{σ:St}{H:Hp}{s:A4}{Q:VK}{k b:Bool}(I:Inv X a σ H s)(q:Q (.bl k) H)(e:k=b):EP X a σ Q (.bool b) s:=by
 subst e;exact⟨.bl k,H,I,rfl,q⟩
theorem X1:LB X (compareOp .Eq) rEq:=by
 intro e s σ H x y v u Q I d a h;obtain⟨c,q⟩:=h;cases x with
 | non =>
  cases d;cases y with
  | non=>cases a;exact PySem.EqNone.eq_none_none (J3 I q (by simp))
  | bl j=>cases a;exact PySem.EqNone.eq_none_bool (J3 I q (by simp))
  | int j=>obtain⟨b,rfl⟩:=a;exact PySem.EqNone.eq_none_int (J3 I q (by simp))
  | str j=>obtain⟨b,rfl⟩:=a;exact PySem.EqNone.eq_none_str (J3 I q (by simp))
  | _=>exact absurd (show false=true from c) BE
 | bl i =>
  cases d;cases y with
  | non=>cases a;exact PySem.EqNone.eq_bool_none (J3 I q (by simp))
  | bl j=>cases a;exact eq_bool (J3 I q Zd)
  | str j=>obtain⟨b,rfl⟩:=a;exact PySem.EqMixed.eq_bool_str (J3 I q (by simp))
  | _=>exact absurd (show false=true from c) BE
 | int i =>
  obtain⟨t,rfl⟩:=d;cases y with
  | non=>cases a;exact PySem.EqNone.eq_int_none (J3 I q (by simp))
  | int j=>obtain⟨b,rfl⟩:=a;exact eq_int (J3 I q Qk)
  | str j=>obtain⟨b,rfl⟩:=a;exact PySem.EqMixed.eq_int_str (J3 I q (by simp))
  | _=>exact absurd (show false=true from c) BE
 | str i =>
  obtain⟨t,rfl⟩:=d;cases y with
  | non=>cases a;exact PySem.EqNone.eq_str_none (J3 I q (by simp))
  | bl j=>cases a;exact PySem.EqMixed.eq_str_bool (J3 I q (by simp))
  | int j=>obtain⟨b,rfl⟩:=a;exact PySem.EqMixed.eq_str_int (J3 I q (by simp))
  | str j=>obtain⟨b,rfl⟩:=a;exact eq_str (J3 I q Vd)
  | _=>exact absurd (show false=true from c) BE
 | byt i =>
  obtain⟨t,rfl⟩:=d;cases y with
  | byt j=>obtain⟨b,rfl⟩:=a;exact PySem.W.eq_bytes (J3 I q Sg)
  | _=>exact absurd (show false=true from c) BE
 | _=>cases y<;>exact absurd (show false=true from c) BE
theorem Ed:LB X (compareOp .NotEq) rNe:=by
 intro e s σ H x y v u Q I d a h;obtain⟨c,q⟩:=h;cases x with
 | non =>
  cases d;cases y with
  | non=>cases a;exact PySem.EqNone.ne_none_none (J3 I q (by simp))
  | bl j=>cases a;exact PySem.EqNone.ne_none_bool (J3 I q (by simp))
  | int j=>obtain⟨b,rfl⟩:=a;exact PySem.EqNone.ne_none_int (J3 I q (by simp))
  | str j=>obtain⟨b,rfl⟩:=a;exact PySem.EqNone.ne_none_str (J3 I q (by simp))
  | _=>exact absurd (show false=true from c) BE
 | bl i =>
  cases d;cases y with
  | non=>cases a;exact PySem.EqNone.ne_bool_none (J3 I q (by simp))
  | bl j=>cases a;exact ne_bool (J3 I q (congrArg not Zd))
  | str j=>obtain⟨b,rfl⟩:=a;exact PySem.EqMixed.ne_bool_str (J3 I q (by simp))
  | _=>exact absurd (show false=true from c) BE
 | int i =>
  obtain⟨t,rfl⟩:=d;cases y with
  | non=>cases a;exact PySem.EqNone.ne_int_none (J3 I q (by simp))
  | int j=>obtain⟨b,rfl⟩:=a;exact ne_int (J3 I q (congrArg not Qk))
  | str j=>obtain⟨b,rfl⟩:=a;exact PySem.EqMixed.ne_int_str (J3 I q (by simp))
  | _=>exact absurd (show false=true from c) BE
 | str i =>
  obtain⟨t,rfl⟩:=d;cases y with
  | non=>cases a;exact PySem.EqNone.ne_str_none (J3 I q (by simp))
  | bl j=>cases a;exact PySem.EqMixed.ne_str_bool (J3 I q (by simp))
  | int j=>obtain⟨b,rfl⟩:=a;exact PySem.EqMixed.ne_str_int (J3 I q (by simp))
  | str j=>obtain⟨b,rfl⟩:=a;exact ne_str (J3 I q (congrArg not Vd))
  | _=>exact absurd (show false=true from c) BE
 | byt i =>
  obtain⟨t,rfl⟩:=d;cases y with
  | byt j=>obtain⟨b,rfl⟩:=a;exact PySem.W.ne_bytes (J3 I q (congrArg not Sg))
  | _=>exact absurd (show false=true from c) BE
 | _=>cases y<;>exact absurd (show false=true from c) BE
theorem Pd:LB X (compareOp .Lt) (RU λi j=>.bl (decide (i<j))):=zGs λ_ _ _ _ _ _ _ q=>lt_int q
theorem Vv:LB X (compareOp .LtE) (RU λi j=>.bl (decide (i<=j))):=zGs λ_ _ _ _ _ _ _ q=>le_int q
theorem zBq:LB X (compareOp .Gt) (RU λi j=>.bl (decide (j<i))):=zGs λ_ _ _ _ _ _ _ q=>gt_int q
theorem zHp:LB X (compareOp .GtE) (RU λi j=>.bl (decide (j<=i))):=zGs λ_ _ _ _ _ _ _ q=>ge_int q
theorem Ra:LB X (compareOp .In) (λx y H Q=>∃i j,x = .str i/\y = .str j/\Q (.bl (!(Builtin.Str.occurrences j i 0 j.length 1).isEmpty)) H):=by
 intro a s σ H x y v u Q I b c h;obtain⟨i,j,rfl,rfl,q⟩:=h;obtain⟨t,rfl⟩:=b;obtain⟨d,rfl⟩:=c;exact in_str (J3 I q rfl)
theorem Uu:LB X (compareOp .Is) (λx y H Q=>y = .non/\Q (.bl (decide (x = .non))) H):=by
 intro a s σ H x y v u Q I b c h;obtain⟨rfl,q⟩:=h;cases c;refine is_none_gen (J3 I q ?_);cases x<;>first
  | (cases b;rfl)
  | (obtain⟨t,rfl⟩:=b;rfl)
theorem So:LB X (compareOp .IsNot) (λx y H Q=>y = .non/\Q (.bl (!decide (x = .non))) H):=by
 intro a s σ H x y v u Q I b c h;obtain⟨rfl,q⟩:=h;cases c;refine isnot_none_gen (J3 I q ?_);cases x<;>first
  | (cases b;rfl)
  | (obtain⟨t,rfl⟩:=b;rfl)
theorem D8(b:IQ){a:CmpOp}(h:a≠ .In:=by decide)(h2:a≠ .NotIn:=by decide):behindInMarks a b=false:=by
 have c:(a == CmpOp.In)=false:=by cases a<;>first | rfl | exact absurd rfl h
 have d:(a == CmpOp.NotIn)=false:=by cases a<;>first | rfl | exact absurd rfl h2
 cases b<;>simp[behindInMarks,c,d]
theorem R0{d:CmpOp}{r:R2}(e:LB X (compareOp d) r)(f:PE X a ta)(g:PE X b tb)(i:behindInMarks d b=false):PE X (.Compare a [d] [b] pos) (PN r ta tb):=by
 intro c s σ H Q I h;exact wpAny_Compare1 (zGz f g I h λv u j x y k l m n q=>e c j σ k x y v u Q l m n q) i
def Aq(t:TE):TT:=λσ H Q=>t σ H λx a=>∃k,x = .bl k/\Q k a
theorem B8{f:CmpOp}{r:R2}(g:LB X (compareOp f) r)(i:PE X a ta)(j:PE X b tb)(l:behindInMarks f b=false):PT X (.Compare a [f] [b] pos) (Aq (PN r ta tb)):=by
 intro d s σ H Q I h;refine wpAny_isTrue_Compare1 (JK (i d s σ H _ I h) λv m ⟨x,n,o,p,q⟩=>JK (j d m σ n _ o q) λu t ⟨y,w,A,B,C⟩ =>
  JK (g d t σ w x y v u _ A p B C) λc J ⟨z,D,E,F,k,e,G⟩=>?_) l
 subst e;cases F;exact DA ⟨D,E,G⟩
def Yz(r b:R2)(ta tb tc:TE):TE:=λσ H Q=>ta σ H λx c=>tb σ c λy d=>r x y d λz a=>∃k,z = .bl k /\
 (if k=true then tc σ a λe f=>b y e f Q else Q (.bl false) a)
theorem Wv{i g:CmpOp}{r l:R2}(q:LB X (compareOp i) r)(j:LB X (compareOp g) l)(t:PE X a ta)(w:PE X b tb)(A:PE X c tc)
  (B:lastMarks [i,g] [b,c]=false:=by with_unfolding_all rfl):PE X (.Compare a [i,g] [b,c] pos) (Yz r l ta tb tc):=by
 intro f s σ H Q I h;refine Compare_chain (JK (t f s σ H _ I h) λv C ⟨x,D,E,F,G⟩=>chain_link (JK (w f C σ D _ E G) λu J ⟨y,K,L,m,M⟩ =>
  JK (q f J σ K x y v u _ L F m M) λd N ⟨z,n,o,O,k,e,p⟩=>?_)) B
 subst e;cases O;refine DA ?_;cases k with
 | false=>exact ite_ff ⟨.bl false,n,o,rfl,p⟩
 | true=>exact ite_tt (chain_last (JK (A f N σ n _ o p) λP R ⟨S,T,U,V,W⟩=>j f R σ T y S u P Q U m V W))
theorem Xr{i g:CmpOp}{r l:R2}(q:LB X (compareOp i) r)(j:LB X (compareOp g) l)(t:PE X a ta)(w:PE X b tb)(A:PE X c tc)
  (B:lastMarks [i,g] [b,c]=false:=by with_unfolding_all rfl):PT X (.Compare a [i,g] [b,c] pos) (Aq (Yz r l ta tb tc)):=by
 intro f s σ H Q I h;refine isTrue_chain (JK (t f s σ H _ I h) λv C ⟨x,D,E,F,G⟩=>test_link (JK (w f C σ D _ E G) λu J ⟨y,K,L,m,M⟩ =>
  JK (q f J σ K x y v u _ L F m M) λd N ⟨z,n,o,O,k,e,p⟩=>?_)) B
 subst e;cases O;refine DA ?_;cases k with
 | false =>
  obtain⟨k',P,R⟩:=p;cases P;exact ite_ff ⟨n,o,R⟩
 | true =>
  refine ite_tt (test_last (JK (A f N σ n _ o p) λS T ⟨U,V,W,Y,Z⟩=>JK (j f T σ V y U u S _ W m Y Z) λd' s5 ⟨z2,H5,I5,r5,k2,e2,q5⟩=>?_));subst e2;cases r5;exact DA ⟨H5,I5,q5⟩
def zId(K:VA)(x:V)(H:Hp)(k:Bool):Prop :=
 match x with
 | .non=>k=false
 | .bl b=>k=b
 | .int i=>k =(i != 0)
 | .str y=>y.length<=sizeLine/\k =((y.length:Int) != 0)
 | .byt y=>y.size<=sizeLine/\k =((y.size:Int) != 0)
 | .ref p=>(∃a,IR K H p a/\k=!a.isEmpty)\/(∃a,JG K H p a/\k=!a.isEmpty)\/∃c,H p=some (.dK c)/\k=!c.isEmpty
 | _=>False
theorem Pa{Z:Type}{kvs:A0 (Z×V)}{vs:A0 (Z×A2)}(r:KV kvs vs):(!vs.isEmpty)=!kvs.isEmpty:=by
 cases r<;>rfl
theorem Fk{xs:A0 V}{its:A0 A2}(r:IT xs its):(!its.toArray.isEmpty)=!xs.isEmpty:=by
 cases r<;>simp
theorem Dm:(sizeLine:Nat)<2^63:=by rw[sizeLine_eq];decide
theorem zEu:zJq X (λx H Q=>∃k,zId X.K x H k/\Q k H):=by
 intro u s σ H x v Q I g h;obtain⟨k,e,q⟩:=h;have C:=Dm;have D:sizeLine=16777216:=sizeLine_eq;cases x with
 | non =>
  cases g;have a:k=false:=e;subst a;exact truthy_none ⟨H,I,q⟩
 | bl b =>
  cases g;have a:k=b:=e;subst a;exact DA ⟨H,I,q⟩
 | int i =>
  obtain⟨t,rfl⟩:=g;have a:k =(i != 0):=e;subst a;exact PySem.P.truthy_int ⟨H,I,q⟩
 | str y =>
  obtain⟨t,rfl⟩:=g;obtain⟨A,a⟩:y.length<=sizeLine/\k =((y.length:Int) != 0):=e;subst a;exact PySem.P.truthy_str (by lia) ⟨H,I.tok _,q⟩
 | byt y =>
  obtain⟨t,rfl⟩:=g;obtain⟨A,a⟩:y.size<=sizeLine/\k =((y.size:Int) != 0):=e;subst a;exact PySem.W.truthy_bytes (by lia) ⟨H,I.tok _,q⟩
 | ref p =>
  cases g;have a:(∃f,IR X.K H p f/\k=!f.isEmpty)\/(∃f,JG X.K H p f/\k=!f.isEmpty)\/∃c,H p=some (.dK c)/\k=!c.isEmpty:=e;rcases a with⟨f,j,a⟩ | ⟨f,j,a⟩ | ⟨c,j,a⟩
  .subst a;obtain⟨n,r,o,z⟩:=I.list j;have d:=r.length;exact wpAny_truthy_list o.isList (by simp only[AR];lia) ⟨H,I.tok _,by rw[Fk r];exact q⟩
  .subst a;obtain⟨n,r,o,z⟩:=I.tuple j;have d:=r.length;exact truthy_tuple o (by simp only[AR];lia) ⟨H,I.tok _,by rw[Fk r];exact q⟩
  .subst a;obtain⟨z,B,l,r,m⟩:c.length<=sizeLine/\(p == sysModules)=false/\∃l,KV c l/\s.heap.DictOf (E5 X.prog X.w) p l:=I.hok p _ j;have d:c.length=l.length:=Paired.length r;exact wpAny_truthy_dict B m (by lia) ⟨H,I.tok _,by rw[Pa r];exact q⟩
 | _=>exact(show False from e).elim
theorem Wa(d:PE X a ta)(e:∀b,isTrue a X.env b =(do let v <-b;standAt a.pos;holding [v] (truthy v))) :
  PT X a (λσ H Q=>ta σ H λx H'=>∃k,zId X.K x H' k/\Q k H'):=by
 intro c s σ H Q I h;exact isTrue_plain (JK (d c s σ H _ I h) λv f ⟨x,g,i,j,l⟩=>zEu c f σ g x v Q i j l) (e _)
theorem Pc:LB X (binaryOp .Add) (λx y H Q=>∃i j,x = .str i/\y = .str j/\i.length+j.length<=sizeLine/\Q (.str (i++j)) H):=by
 intro a s σ H x y v u Q I b c h;obtain⟨i,j,rfl,rfl,d,q⟩:=h;obtain⟨t,rfl⟩:=b;obtain⟨e,rfl⟩:=c;exact add_str (λe f=>⟨.str (i++j),H,I.tok _,⟨_,rfl⟩,q⟩) d
theorem o8{x:V}{us:A0 A2}(r:IT [x] us):∃u,us = [u]/\RelV x u:=by
 cases r with
 | cons a b=>cases b;exact⟨_,rfl,a⟩
theorem zDg{x y:V}{us:A0 A2}(r:IT [x,y] us):∃u a,us = [u,a]/\RelV x u/\RelV y a:=by
 cases r with
 | cons b c =>
  cases c with
  | cons d e=>cases e;exact⟨_,_,rfl,b,d⟩
theorem Mn:N0 X (.builtin "abs") (λxs H Q=>∃i,xs = [.int i]/\Q (.int (if i<0 then -i else i)) H):=by
 intro a s σ H xs b Q I r h;obtain⟨i,rfl,q⟩:=h;obtain⟨u,rfl,t,rfl⟩:=o8 r;exact call_abs_int λu c=>⟨.int (if i<0 then -i else i),H,I.tok _,⟨_,rfl⟩,q⟩
theorem Uh(c:X.calm=true):N0 X (.builtin "max") (λxs H Q=>∃i j,xs = [.int i,.int j]/\Q (.int (if j>i then j else i)) H):=by
 intro b s σ H xs d Q I r h;obtain⟨i,j,rfl,q⟩:=h;obtain⟨u,e,rfl,⟨t,rfl⟩,⟨f,rfl⟩⟩:=zDg r;refine max_two_ints (I.ok.hd c) λg l k=>⟨_,H,I.kept k,?_,q⟩;by_cases a:j>i
 .rw[AO a,AO a];exact⟨_,rfl⟩
 .rw[AI a,AI a];exact⟨_,rfl⟩
theorem Td(c:X.calm=true):N0 X (.builtin "min") (λxs H Q=>∃i j,xs = [.int i,.int j]/\Q (.int (if j<i then j else i)) H):=by
 intro b s σ H xs d Q I r h;obtain⟨i,j,rfl,q⟩:=h;obtain⟨u,e,rfl,⟨t,rfl⟩,⟨f,rfl⟩⟩:=zDg r;refine min_two_ints (I.ok.hd c) λg l k=>⟨_,H,I.kept k,?_,q⟩;by_cases a:j<i
 .rw[AO a,AO a];exact⟨_,rfl⟩
 .rw[AI a,AI a];exact⟨_,rfl⟩
theorem Sd:N0 X (.type "int") (λxs H Q=>(∃i,xs = [.int i]/\Q (.int i) H)\/∃k,xs = [.bl k]/\Q (.int (if k then 1 else 0)) H):=by
 intro a s σ H xs c Q I r h;rcases h with⟨i,rfl,q⟩ | ⟨k,rfl,q⟩
 .obtain⟨u,rfl,t,rfl⟩:=o8 r;exact call_int_int ⟨.int i,H,I,⟨_,rfl⟩,q⟩
 .obtain⟨u,rfl,b⟩:=o8 r;cases b;exact call_int_bool ⟨.int (if k then 1 else 0),H,I.tok _,⟨_,rfl⟩,q⟩
end
structure Q_(h:IP)(x dx C:A3)(mA:Str->A5 A2):Prop where
 obj:h.get? x=some (PySem.W.instObj C dx)
 ns:h.Ns1 dx mA
 ne:dx≠x
def Tw{h:IP}{c:A3}{d:Str->A5 A2}(n:h.Ns1 c d):∃f,h.get? c=some f/\∀name,PySem.W.lookIn name f=some (d name):=by
 obtain⟨o,g,r,i,j,k,_,l⟩:=n;refine⟨o,i,λname=>?_⟩;have e:=l name;unfold nsFind findBy at e;rw[<-Array.find?_toList]at e;unfold PySem.W.lookIn;rw[j];dsimp only;split
 .rename_i y q;rw[q]at e;exact congrArg some e
 .rename_i q;rw[q]at e;have a:g.toList.any (·.refKey)=false:=by
   rw[List.any_eq_false];intro y m;obtain⟨z,t,b⟩:=k y (Array.mem_toList_iff.mp m);simp[DictEntry.refKey,b]
  have p:¬g.toList.any (·.refKey)=true:=by rw[a];exact BE
  rw[AI p];exact congrArg some e
def Q_.look{h:IP}{x b C:A3}{c:Str->A5 A2}(I:Q_ h x b C c):∃a,PySem.W.InstAt h x (PySem.W.instObj C b) C (some a)/\∀name,PySem.W.lookIn name a=some (c name) :=
 let⟨a,d,e⟩:=Tw I.ns
 ⟨a,⟨I.obj,rfl,rfl,d⟩,e⟩
section
variable{prog:IE}{w:IJ}{A:IM}{E:A2->A4->Prop}{s:A4}{K:VA}{x dx C f:A3}{mA:Str->A5 A2}{name:Str}{v:A2}
theorem zCh{a:Bool}{Q:A2->A4->Prop}(X:K.In s.heap)(I:Q_ s.heap x dx C mA)(c:PySem.W.plainGet K C name=true)(d:PySem.W.hasDictIn K C=true)
  (e:PySem.W.findIn K (.ref C) name=some none) (f:mA name=some v) (b:PySem.W.handedIn v=true) (h:Q v { s with toks:=s.toks+1 }) :
  wpAny (model prog w) A (getAttr (.ref x) name a) Q E s:=by
 obtain⟨i,J,g⟩:=I.look;exact PySem.W.get_value X J (PySem.W.plainGet_of c).1 (PySem.W.findObj_own d e rfl (by rw[g,f])) b h
theorem Ye{pl:Sem Bool}{Q:A2×A0 A2->A4->Prop}(X:K.In s.heap)(I:Q_ s.heap x dx C mA)(a:PySem.W.plainGet K C name=true)
  (b:PySem.W.findIn K (.ref C) name=some (some (.ref f))) (c:PySem.W.isFn K (.ref f)=true) (d:mA name=none) (h:Q (.ref f,[.ref x]) s) :
  wpAny (model prog w) A (getMethod (.ref x) name pl) Q E s:=by
 obtain⟨e,J,g⟩:=I.look;exact PySem.W.method_fn X J (PySem.W.plainGet_of a).1 (PySem.W.plainGet_of a).2 b (beq_iff_eq.mp c) (by show(PySem.W.lookIn name e).map (·.isSome)=some false;rw[g,d];rfl) h
theorem zBf{ns:A0 Str}{Q:Unit->A4->Prop}(X:K.In s.heap)(I:Q_ s.heap x dx C mA)
  (j:PySem.W.findIn K (.ref C) "__setattr__" = some (some (.builtin "object.__setattr__"))) (k:PySem.W.plainOver K C=true) (l:PySem.W.takerIn K C name=some none) (m:PySem.W.hasDictIn K C=true)
  (hw:PySem.Within mA ns) (hsz:ns.length<=sizeLine)
  (h:∀h',Q_ h' x dx C (λy=>if y=name then some v else mA y)->Heap.SameBut dx s.heap h'->Q () { s with heap:=h',toks:=s.toks+2 }) :
  wpAny (model prog w) A (setAttr (.ref x) name v) Q E s:=by
 obtain⟨t,J,u⟩:=I.look;refine PySem.W.set_plain X J j (PySem.W.osa_open (s:={ s with toks:=s.toks+1 }) (r:=none) X J k l λb=>?_);obtain⟨z,n,e⟩:=PySem.W.any_some m;have o:s.heap.get? x=some ⟨.ref C,some dx,.plain,#[]⟩:=I.obj;refine AA (AC (AA (AA (wpAny_loadPart o (AA (PySem.W.Looks.here (s:={ s with toks:=s.toks+1 }) (PySem.W.looks_clsIn X n) ?_))))));rw[e];refine AC (a:=some dx) (AA (AC (AA ?_)));refine wpAny_nsSet1 (s:={ s with toks:=s.toks+1 }) I.ns λh' c d=>?_;obtain⟨B,p,q,f,g,i⟩:=c.count (PySem.Within.cons name v hw);refine AA (wpAny_lookBehind f (by rw[g];exact pastItsLine_dict (VE i (by rw[BQ];lia))) ?_);exact AC (h _ ⟨(d.2 _ (Ne.symm I.ne)).trans I.obj,c,I.ne⟩ d)
theorem Xv{R:Result->A4->Prop}{vs:A0 A2}{b:A0 (Str×A2)}(X:K.In s.heap)(c:PySem.W.makesIn K C=true)
  (hi:PySem.W.findIn K (.ref C) "__init__" = some (some (.ref f))) (e:PySem.W.typeIn K (.ref f)=some (.type "function"))
  (h:codeAny (model prog w) (A.under (.builtin "type.__call__" ⟨.ref C::vs,b⟩)) (.call (.ref f) ⟨.ref (s.heap.objs.size+1)::vs,b⟩) (PySem.W.InitBack (s.heap.objs.size+1) R)
   { s with heap:=(s.heap.push PySem.W.emptyDict).push (PySem.W.instObj C s.heap.objs.size) }) :
  codeAny (model prog w) A (.call (.ref C) ⟨vs,b⟩) R s:=by
 obtain⟨i,g,d,t,os⟩:=s;exact PySem.W.make_core (PySem.W.makes_of X c) (PySem.W.looks_findIn X hi) (λa=>PySem.W.bind_fn X a e) (.inl rfl) h
end
def Q1(f:Str)(v:V):A0 (Str×V)->A0 (Str×V)
 | []=>[(f,v)]
 | (g,x)::r=>if g=f then(g,v)::r else(g,x)::Q1 f v r
def Dt(f g:Str)(v:V):∀c:A0 (Str×V),(Q1 f v c).lookup g=if g=f then some v else c.lookup g
 | []=>by
  show List.lookup g [(f,v)]=_;by_cases h:g=f
  .have a:(g == f)=true:=beq_iff_eq.mpr h;simp only[List.lookup,a,AO h]
  .have a:(g == f)=false:=beq_eq_false_iff_ne.mpr h;simp only[List.lookup,a,AI h]
 | (k,x)::r=>by
  have d:=Dt f g v r;rw[show Q1 f v ((k,x)::r) =(if k=f then(k,v)::r else(k,x)::Q1 f v r)from rfl];by_cases b:k=f
  .rw[AO b];by_cases h:g=k
   .have a:(g == k)=true:=beq_iff_eq.mpr h;simp only[List.lookup,a,AO (h.trans b)]
   .have a:(g == k)=false:=beq_eq_false_iff_ne.mpr h;simp only[List.lookup,a,AI (λe:g=f=>h (e.trans b.symm))]
  .rw[AI b];by_cases h:g=k
   .have a:(g == k)=true:=beq_iff_eq.mpr h;simp only[List.lookup,a,AI (λe:g=f=>b (h.symm.trans e))]
   .have a:(g == k)=false:=beq_eq_false_iff_ne.mpr h;simp only[List.lookup,a];exact d
def Cq(f:Str)(v:V):∀a:A0 (Str×V),f∈(Q1 f v a).map (·.1)/\∀g,g∈a.map (·.1)->g∈(Q1 f v a).map (·.1)
 | []=>⟨by simp[Q1],λg h=>by simp at h⟩
 | (k,x)::r=>by
  obtain⟨c,d⟩:=Cq f v r;rw[show Q1 f v ((k,x)::r) =(if k=f then(k,v)::r else(k,x)::Q1 f v r)from rfl];by_cases b:k=f
  .rw[AO b];subst b;exact⟨by simp,λg h=>by simpa using h⟩
  .rw[AI b];refine⟨?_,λg h=>?_⟩
   .rw[BM];exact AM _ c
   .rw[BM]at h⊢;rcases AV.mp h with e | e
    .exact AV.mpr (.inl e)
    .exact AM _ (d g e)
def Dv(f:Str)(v:V):∀a:A0 (Str×V),(Q1 f v a).length<=a.length+1
 | []=>by simp[Q1]
 | (k,x)::r=>by
  have c:=Dv f v r;rw[show Q1 f v ((k,x)::r) =(if k=f then(k,v)::r else(k,x)::Q1 f v r)from rfl];by_cases b:k=f
  .rw[AO b,BQ,BQ];lia
  .rw[AI b,BQ,BQ];lia
def MK.some_of{v:V}{o:A5 A2}(r:MK (some v) o):∃u,o=some u/\RelV v u:=by
 cases o with
 | none=>exact(show False from r).elim
 | some u=>exact⟨u,rfl,r⟩
def MK.none_of{o:A5 A2}(r:MK none o):o=none:=by
 cases o with
 | none=>rfl
 | some u=>exact(show False from r).elim
def Tl{v:V}{u:A2}(r:RelV v u):PySem.W.handedIn u=true:=by
 cases v with
 | non=>cases(show u=Value.none from r);rfl
 | bl b=>cases(show u=Value.bool b from r);rfl
 | int i=>obtain⟨t,e⟩:=(show ∃t,u=Value.int i t from r);cases e;rfl
 | str x=>obtain⟨t,e⟩:=(show ∃t,u=Value.str x t from r);cases e;rfl
 | byt b=>obtain⟨t,e⟩:=(show ∃t,u=Value.bytes b t from r);cases e;rfl
 | flt b=>obtain⟨t,e⟩:=(show ∃t,u=Value.float b t from r);cases e;rfl
 | ref a=>cases(show u=Value.ref a from r);rfl
 | ty n=>cases(show u=Value.type n from r);rfl
section
variable{P:IE}{w:IJ}{H H':Hp}{h h':IP}{a C dx:A3}{fs fs':A0 (Str×V)}
theorem Gf(c:NP P w H h)(e:H a=some (.ins C dx fs)):∃b,Q_ h a dx C b/\(∀f,MK (fs.lookup f) (b f))/\PySem.Within b (fs.map (·.1))/\fs.length<=1000/\H dx=some (.own a):=by
 obtain⟨d,z,g,i,b,n,r,q⟩:=(show JA P w H h a (.ins C dx fs)from c a _ e);exact⟨b,⟨i,n,g⟩,r,q,z,d⟩
end
structure RP(K:VA)(C:A3):Prop where
 pg:PySem.W.plainGet K C Str.empty=true
 hd:PySem.W.hasDictIn K C=true
 po:PySem.W.plainOver K C=true
 sa:PySem.W.findIn K (.ref C) "__setattr__" = some (some (.builtin "object.__setattr__"))
def RP.get{K:VA}{C:A3}(c:RP K C)(f:Str):PySem.W.plainGet K C f=true:=c.pg
def JV(K:VA)(C:A3)(f:Str):Prop:=PySem.W.findIn K (.ref C) f=some none
def JV.taker{K:VA}{C:A3}{f:Str}(n:JV K C f):PySem.W.takerIn K C f=some none:=by
 unfold PySem.W.takerIn;rw[show PySem.W.findIn K (.ref C) f=some none from n];rfl
structure RA(K:VA)(C:A3)(m:Str)(f:A3):Prop where
 at_:PySem.W.findIn K (.ref C) m=some (some (.ref f))
 fn:PySem.W.isFn K (.ref f)=true
 kp:PySem.W.keepIn K (.ref f)=true
section
variable{X:Cx}{pins:A0 (A3×Obj)}{σ:St}{H:Hp}{s:A4}{a C dx:A3}{fs:A0 (Str×V)}{f:Str}{v:V}{A:IM}{E:A2->A4->Prop}
theorem Oz{b:Bool}{Q:A2->A4->Prop}(I:Inv X pins σ H s)(e:H a=some (.ins C dx fs))(c:RP X.K C)(n:JV X.K C f)(l:fs.lookup f=some v)
  (h:∀u d,Inv X pins σ H d->RelV v u->Q u d):wpAny (model X.prog X.w) A (getAttr (.ref a) f b) Q E s:=by
 obtain⟨i,O,r,_,_,_⟩:=Gf I.hok e;obtain⟨u,j,g⟩:=MK.some_of (v:=v) (o:=i f) (by rw[<-l];exact r f);exact zCh I.kIn O (c.get f) c.hd n j (Tl g) (h u _ (I.tok _) g)
theorem Bf{m:Str}{g:A3}{pl:Sem Bool}{Q:A2×A0 A2->A4->Prop}(I:Inv X pins σ H s)(e:H a=some (.ins C dx fs))(c:RP X.K C)(k:RA X.K C m g)(l:fs.lookup m=none)
  (h:Q (.ref g,[.ref a]) s):wpAny (model X.prog X.w) A (getMethod (.ref a) m pl) Q E s:=by
 obtain⟨b,O,r,_,_,_⟩:=Gf I.hok e;have d:b m=none:=MK.none_of (by rw[<-l];exact r m);exact Ye I.kIn O (c.get m) k.at_ k.fn d h
theorem Oq{y:V}{u:A2}{Q:Unit->A4->Prop}(I:Inv X pins σ H s)(e:H a=some (.ins C dx fs))(c:RP X.K C)(n:JV X.K C f)(J:fs.length<1000)(m:RelV y u)
  (h:∀i,Inv X pins σ (II H a (.ins C dx (Q1 f y fs))) i->Q () i):wpAny (model X.prog X.w) A (setAttr (.ref a) f u) Q E s:=by
 obtain⟨j,O,r,k,_,l⟩:=Gf I.hok e;have p:(fs.map (·.1)).length<=sizeLine:=by rw[AB,sizeLine_eq];lia
 refine zBf I.kIn O c.sa c.po n.taker c.hd k p λt d v=>h _ ?_;have B:∃o,t.get? dx=some o:=let⟨o,_,_,D,_⟩:=d.ns;⟨o,D⟩;refine I.write (x:=a) (e:=dx) (by rw[e];exact VC) (.inr l) (λb q F z=>(v.2 b F).trans z) B ?_;refine⟨by rw[B7 O.ne];exact l,?_,O.ne,d.obj,_,d.ns,λg=>?_,λg G=>?_⟩
 .have:=Dv f y fs;lia
 .show MK ((Q1 f y fs).lookup g) (if g=f then some u else j g);rw[Dt];by_cases q:g=f
  .rw[AO q,AO q];exact m
  .rw[AI q,AI q];exact r g
 .by_cases q:g=f
  .rw[q];exact(Cq f y fs).1
  .refine(Cq f y fs).2 g (k g λz=>G ?_);show(if g=f then some u else j g)=none;rw[AI q];exact z
theorem Inv.made(I:Inv X pins σ H s):Inv X pins σ (II (II H s.heap.objs.size (.own (s.heap.objs.size+1))) (s.heap.objs.size+1) (.ins C s.heap.objs.size []))
  { s with heap:=(s.heap.push PySem.W.emptyDict).push (PySem.W.instObj C s.heap.objs.size) }:=by
 have c:(s.heap.push PySem.W.emptyDict).get? s.heap.objs.size=some PySem.W.emptyDict:=AY s.heap rfl;have f:((s.heap.push PySem.W.emptyDict).push (PySem.W.instObj C s.heap.objs.size)).get? (s.heap.objs.size+1)=some (PySem.W.instObj C s.heap.objs.size):=by
  have:=AY (s.heap.push PySem.W.emptyDict) (o:=PySem.W.instObj C s.heap.objs.size) rfl
  rwa [CO]at this
 have g:(s.heap.push PySem.W.emptyDict).Ns s.heap.objs.size (λ_=>none):=⟨PySem.W.emptyDict,#[],_,c,rfl,(λe h=>absurd h (by simp)),λ_=>rfl⟩;have i:=I.laid (a:=s.heap.objs.size) (o:=.own (s.heap.objs.size+1)) (h':=s.heap.push PySem.W.emptyDict) (t':=s.toks) (λb u q=>AD _ q) (VD _) ⟨_,c⟩;refine i.laid (a:=s.heap.objs.size+1) (o:=.ins C s.heap.objs.size []) (t':=s.toks) (λb u q=>AD _ q) (VF (CO _ _)) ?_;have d:s.heap.objs.size≠s.heap.objs.size+1:=BB (FF _);refine⟨by rw[B7 d,A7],BZ _,d,f,λ_=>none,(Heap.Ns1.of_empty g).at λo q=>AD _ q,λ_=>VC,λy j=>absurd rfl j⟩
theorem zBd{prog:IE}{w:IJ}{a:QU}{e:IQ}{f:Str}{b:Pos}{s:A4}{Q:A2->A4->Prop}(c:attributeBase e f a (eval e a)=eval e a)
  (h:wpAny (model prog w) A (eval e a) (λo i1=>wpAny (model prog w) A (getAttr o f true) Q E i1) E s):wpAny (model prog w) A (eval (.Attribute e f b) a) Q E s :=
 Attribute_any_ h (by rw[arm_eval_Attribute,c])
end
def zIu(K:VA)(d:TE)(f:Str):TE:=λσ H Q=>d σ H λx b=>∃a C e c v,x = .ref a/\b a=some (.ins C e c)/\RP K C/\JV K C f/\c.lookup f=some v/\Q v b
def zIj(K:VA)(e g:TE)(f:Str):TS:=λD σ H=>g σ H λy h=>e σ h λx c=>∃a C d b,x = .ref a/\c a=some (.ins C d b)/\RP K C/\JV K C f/\b.length<1000 /\
 D.nx σ (II c a (.ins C d (Q1 f y b)))
section
variable{X:Cx}{o e value:IQ}{f:Str}{pos pos' tpos:Pos}{ta tv:TE}
theorem zEw(d:PE X e ta)(g:attributeBase e f X.env (eval e X.env)=eval e X.env):PE X (.Attribute e f pos) (zIu X.K ta f):=by
 intro b s σ H Q I h;refine zBd g (JK (d b s σ H _ I h) λu t ⟨x,i,j,k,a,C,w,y,v,m,o,c,n,l,q⟩=>?_);subst m;obtain rfl:u=Value.ref a:=k;exact Oz j o c n l λz A p r=>⟨v,i,p,r,q⟩
theorem zFx(d:PE X o ta)(e:PE X value tv)(g:swapsWith value (some (.Attribute o f pos')) pos.line X.env=pure false):PS X (.Assign [.Attribute o f pos'] value pos) (zIj X.K ta tv f):=by
 intro b s σ H D I h;refine plainObj_wpAny_Assign_Attribute (JK (e b s σ H _ I h) λu i ⟨y,j,k,m,q⟩=>JK (d b i σ j _ k q) λp B ⟨x,E,r,t,a,C,F,G,v,w,c,n,l,z⟩=>?_) g;subst v;obtain rfl:p=Value.ref a:=t;exact Oq r w c n l m λJ A=>⟨σ,_,A,z⟩
end
section
variable{X:Cx}{pins:A0 (A3×Obj)}{σ:St}{H:Hp}{s:A4}{A:IM}{E:A2->A4->Prop}{Q:A2->A4->Prop}{c:A2}{b:Bool}
inductive MX(K:VA)(H:Hp):V->A2->Prop where
 | non:MX K H .non (.type "NoneType")
 | bl (x:Bool):MX K H (.bl x) (.type "bool")
 | int (i:Int):MX K H (.int i) (.type "int")
 | str (x:Str):MX K H (.str x) (.type "str")
 | flt (x:UInt64):MX K H (.flt x) (.type "float")
 | lst {a:A3} {xs:A0 V} (e:H a=some (.lst xs)):MX K H (.ref a) (.type "list")
 | frz {a:A3} {o:Obj} {xs:A0 V} (e:H a=some (.frz o (.lst xs))):MX K H (.ref a) (.type "list")
 | tup {a:A3} {xs:A0 V} (e:H a=some (.tup xs)):MX K H (.ref a) (.type "tuple")
 | dK {a:A3} {kvs:A0 (JB×V)} (e:H a=some (.dK kvs)):MX K H (.ref a) (.type "dict")
 | dT {a:A3} {kvs:A0 (A0 JB×V)} (e:H a=some (.dT kvs)):MX K H (.ref a) (.type "dict")
 | ins {a C dx:A3} {fs:A0 (Str×V)} (e:H a=some (.ins C dx fs)) (cl:RP K C) (ha:PySem.W.findIn K (.ref C) "__class__" = some (some (.builtin "object.__class__")))
   (hn:PySem.W.specialIn K (.builtin "object.__class__") "__get__" = some (some (.builtin "getset_descriptor.__get__"))) (htk:PySem.W.takesIn K (.builtin "object.__class__")=some true)
   (hm:PySem.W.mroIn K C (.type "object")=some true):MX K H (.ref a) (.ref C)
theorem Rk{x:V}{u t:A2}(I:Inv X pins σ H s)(d:RelV x u)(ty:MX X.K H x t)(e:PySem.W.kitOne X.K t c=some b)(h:∀v,Q (.bool b) { s with toks:=v }) :
  wpAny (model X.prog X.w) A (call (.builtin "isinstance") [u,c]) Q E s:=by
 cases ty with
 | non=>cases(show u=Value.none from d);exact VQ PySem.W.kitx_none I.kIn VC e (λz=>nomatch z) h
 | bl y=>cases(show u=Value.bool y from d);exact VQ PySem.W.kitx_bool I.kIn VC e (λz=>nomatch z) h
 | int i=>obtain⟨t,q⟩:=(show ∃t,u=Value.int i t from d);cases q;exact VQ PySem.W.kitx_int I.kIn VC e (λz=>nomatch z) h
 | str y=>obtain⟨t,q⟩:=(show ∃t,u=Value.str y t from d);cases q;exact VQ PySem.W.kitx_str I.kIn VC e (λz=>nomatch z) h
 | flt y=>obtain⟨t,q⟩:=(show ∃t,u=Value.float y t from d);cases q;exact VQ PySem.W.kitx_float I.kIn VC e (λz=>nomatch z) h
 | @lst a k f =>
  cases(show u=Value.ref a from d);obtain⟨_,_,n,_,g⟩:=(show JA X.prog X.w H s.heap a (.lst k)from I.hok a _ f);exact VQ PySem.W.kitx_list I.kIn ⟨_,g,rfl⟩ e (λz=>nomatch z) h
 | @frz a B k f =>
  cases(show u=Value.ref a from d);obtain⟨_,_,_,n,_,g⟩:=(show JA X.prog X.w H s.heap a (.frz B (.lst k))from I.hok a _ f);exact VQ PySem.W.kitx_list I.kIn ⟨_,g,rfl⟩ e (λz=>nomatch z) h
 | @tup a k f =>
  cases(show u=Value.ref a from d);obtain⟨_,_,_,p⟩:=(show JA X.prog X.w H s.heap a (.tup k)from I.hok a _ f);obtain⟨o,g,l,_⟩:=p;exact VQ PySem.W.kitx_tuple I.kIn ⟨o,g,l⟩ e (λz=>nomatch z) h
 | @dK a j f =>
  cases(show u=Value.ref a from d);obtain⟨_,_,N,_,p⟩:=(show JA X.prog X.w H s.heap a (.dK j)from I.hok a _ f);obtain⟨o,D,F,g,l,_⟩:=p;exact VQ PySem.W.kitx_dict I.kIn ⟨o,g,l.1⟩ e (λz=>nomatch z) h
 | @dT a j f =>
  cases(show u=Value.ref a from d);obtain⟨_,_,k,_,o,D,F,g,l,_⟩:=(show JA X.prog X.w H s.heap a (.dT j)from I.hok a _ f);exact VQ PySem.W.kitx_dict I.kIn ⟨o,g,l.1⟩ e (λz=>nomatch z) h
 | @ins a C P R f r G L m M =>
  cases(show u=Value.ref a from d);obtain⟨S,O,_⟩:=Gf I.hok f;obtain⟨T,J,_⟩:=O.look;exact VQ (PySem.W.kitx_own (r.get _) r.hd G L m M) I.kIn J e (λz=>nomatch z) h
end
structure KD(k:Nat)(A:IM):Prop where
 hd:A.handled=none
 dp:A.depth+3*k+5<recursionLimit
 un:A.units+16*k+200<cLine
def KD.mono{j k:Nat}{A:IM}(r:KD k A)(h:j<=k):KD j A:=⟨r.hd,by have:=r.dp;lia,by have:=r.un;lia⟩
def KD.deeper{k:Nat}{A:IM}(r:KD (k+1) A)(a:QU):KD k (A.deeper a) :=
 ⟨r.hd,by have:=r.dp;show A.depth+1+3*k+5<_;lia,by have:=r.un;show A.units+3+16*k+200<_;lia⟩
def Oj{A:IM}{C:A3}{us:A0 A2}{a:A0 (Str×A2)}:(A.under (.builtin "type.__call__" ⟨.ref C::us,a⟩)).depth=A.depth+1:=by
 first | rfl | simp[Around.under,Code.weight,Code.isCreation,Code.isGuard,Code.isCaller,Code.frames,Code.isFrame,guardIds]
def Ps{A:IM}{C:A3}{us:A0 A2}{a:A0 (Str×A2)}:(A.under (.builtin "type.__call__" ⟨.ref C::us,a⟩)).units=A.units+1:=by
 first | rfl | simp[Around.under,Code.cUnits,Code.frames,Code.isFrame]
def KD.make{k:Nat}{A:IM}(r:KD (k+1) A)(C:A3)(us:A0 A2)(a:A0 (Str×A2)):KD k (A.under (.builtin "type.__call__" ⟨.ref C::us,a⟩)) :=
 ⟨r.hd,by have:=r.dp;rw[Oj];lia,by have:=r.un;rw[Ps];lia⟩
def KD.depth{k:Nat}{A:IM}(r:KD k A):A.depth<recursionLimit:=by have:=r.dp;lia
def KD.units{k:Nat}{A:IM}(r:KD k A):A.units+64<cLine:=by have:=r.un;lia
def Fh:TA:=λ_ H Q=>Q [] H
def U9(a:TE)(b:TA):TA:=λσ H Q=>a σ H λx c=>b σ c λd e=>Q (x::d) e
section
variable{X:Cx}{e:IQ}{es:A0 IQ}{te:TE}{t:TA}{pos:Pos}
theorem A8:PA X [] Fh:=λ_ _ _ _ H Q I h=>Calls.spliced_nil ⟨[],H,I,.nil,h⟩
theorem A6(b:PE X e te)(c:PA X es t)(d:starEach (e::es) X.env =(false,eval e X.env)::starEach es X.env:=by rfl):PA X (e::es) (U9 te t):=by
 intro pos a s σ H Q I h;rw[d];show wpAny _ _ (spliced ((false,eval e X.env)::backTo pos (starEach es X.env))) _ _ s;refine Calls.spliced_cons (JK (b a s σ H _ I h) λu f ⟨x,g,i,j,k⟩=>?_);exact JK (c pos a f σ g _ i k) λq r ⟨l,m,n,o,p⟩=>⟨x::l,m,n,.cons j o,p⟩
def zGt(t:TA):TE:=λσ H Q=>t σ H λa b=>a.length<=sizeLine/\∀p,b p=none->Q (.ref p) (II b p (.tup a))
def T_(t:TA):TE:=λσ H Q=>t σ H λa b=>a.length<=sizeLine/\∀p,b p=none->Q (.ref p) (II b p (.lst a))
theorem J6{g}(h:PA X es t):PE X (.Tuple es g pos) (zGt t):=by
 intro a s σ H Q I i;refine wpAny_Tuple_spliced (JK (h pos a s σ H _ I i) λj c ⟨k,d,f,r,z,q⟩=>⟨by rw[<-r.length];exact z,?_⟩);have l:d c.heap.objs.size=none:=f.hok.fresh (VD _);refine⟨.ref c.heap.objs.size,II d c.heap.objs.size (.tup k),f.laid (t':=c.toks) (λb u e=>AD _ e) (VD _) ?_,rfl,q _ l⟩;exact⟨z,j,r,⟨_,AY _ rfl,rfl,_,rfl⟩⟩
theorem E9(h:PA X es t):PE X (.List es pos) (T_ t):=by
 intro a s σ H Q I g;refine wpAny_List_spliced (JK (h pos a s σ H _ I g) λi c ⟨j,d,f,r,z,q⟩=>⟨by rw[<-r.length];exact z,?_⟩);have k:d c.heap.objs.size=none:=f.hok.fresh (VD _);refine⟨.ref c.heap.objs.size,II d c.heap.objs.size (.lst j),f.laid (t':=c.toks) (λb u e=>AD _ e) (VD _) ?_,rfl,q _ k⟩;exact⟨z,i,0,r,AY _ rfl⟩
end
abbrev Sp:=A0 V->Hp->VK->XK->Prop
abbrev RS:=A0 QU->Hp->A4->XK->A2->A4->Prop
structure RB(P:IE)(w:IJ)(K:VA)(mg:Str->A5 A2)(base:IP)(A:IM)(outer:A0 QU)(s:A4)(H:Hp):Prop where
 frames:A.frames=some outer
 mod:Mod K mg base
 bs:∀b o,base.get? b=some o->s.heap.get? b=some o/\H b=none
 bsz:base.objs.size<=s.heap.objs.size
 funs:s.heap.FunFrames base outer
 frf:∀b∈OF outer,H b=none
 hok:NP P w H s.heap
 bare:AllBare s.gens
def CE(a:A0 QU)(P:IE)(w:IJ)(H:Hp)(s:A4)(Q:VK)(u:A2)(b:A4):Prop :=
 ∃v c,b.os=s.os/\AllBare b.gens/\Un (OF a) [] H c s.heap b.heap/\NP P w c b.heap/\RelV v u/\Q v c
def CR(CX:RS)(a:A0 QU)(P:IE)(w:IJ)(H:Hp)(s:A4)(Q:VK)(E:XK)(r:Result)(b:A4):Prop :=
 match r with
 | .ok (.ret u)=>CE a P w H s Q u b
 | .ok _=>False
 | .error e=>CX a H s E e b
structure IU(P:IE)(w:IJ)(K:VA)(mg:Str->A5 A2)(base:IP)(CX:RS)(k:Nat)(f:A3)(fd:I7)(ps:A0 Str)(sp:Sp):Prop where
 len:∀vs H Q E,sp vs H Q E->vs.length=ps.length
 run:∀(A:IM) (outer:A0 QU) (s:A4) (H:Hp) (args:Args) (us:A0 A2) (vs:A0 V) (Q:VK) (E:XK),KD k A->RB P w K mg base A outer s H->BindsTo s fd args (ps.zip us)->IT vs us->sp vs H Q E ->
  codeAny (model P w) A (.call (.ref f) args) (CR CX outer P w H s Q E) s
def RB.make{P:IE}{w:IJ}{K:VA}{c:Str->A5 A2}{b:IP}{A:IM}{a:A0 QU}{s:A4}{H:Hp}(e:RB P w K c b A a s H)(C:A3)(us:A0 A2)(d:A0 (Str×A2)) :
  RB P w K c b (A.under (.builtin "type.__call__" ⟨.ref C::us,d⟩)) a s H:=⟨by first | exact e.frames | (simpa [Around.under,Code.envs,Code.isFrame,pushEnvs] using e.frames),e.mod,e.bs,e.bsz,e.funs,e.frf,e.hok,e.bare⟩
section
variable{X:Cx}{pins:A0 (A3×Obj)}{σ:St}{H:Hp}{s s':A4}
theorem Inv.env0(I:Inv X pins σ H s):RB X.prog X.w X.K X.mg X.base X.A X.stack s H :=
 ⟨I.ok.frames,I.ok.mod,I.bs,VE I.ok.bsz I.sz,I.stack,I.stkFree,I.hok,I.bare⟩
theorem Inv.after{Q:VK}{u:A2}(I:Inv X pins σ H s)(h:CE X.stack X.prog X.w H s Q u s'):EP X pins σ Q u s':=by
 obtain⟨v,f,os,a,i,c,r,q⟩:=h;obtain⟨j,g,d,t,e⟩:=s';obtain rfl:e=s.os:=os;exact⟨v,f,I.call (h':=j) (g':=g) (d':=d) (t':=t) (ch:=[]) i c a (λb z=>absurd z (by simp)),r,q⟩
end
def Hr(sp:Sp)(a:A0 V)(E:XK)(t:TA):TE:=λσ H Q=>t σ H λb c=>sp (b++a) c Q E
def Rj(C:A3)(m:Str)(sp:Sp)(b:A0 V)(E:XK)(e:TE)(t:TA):TE:=λσ H Q=>e σ H λx c=>∃a f d,x = .ref a/\c a=some (.ins C f d)/\d.lookup m=none /\
 t σ c λg h=>sp (x ::(g++b)) h Q E
def zHb(C:A3)(sp:Sp)(b:A0 V)(E:XK)(t:TA):TE:=λσ H Q=>t σ H λd c=>∀x a,c x=none->c a=none->a≠x ->
 sp (.ref x ::(d++b)) (II (II c a (.own x)) x (.ins C a [])) (λv e=>v = .non/\Q (.ref x) e) E
def Binds(K:VA)(c:I7)(ps:A0 Str)(b:A0 A2):Prop :=
 ∀(s:A4) (a:A0 A2),K.In s.heap->(a++b).length=ps.length->BindsTo s c ⟨a,[]⟩ (ps.zip (a++b))
def Binds.all{K:VA}{a:I7}{ps:A0 Str}(h:∀us:A0 A2,us.length=ps.length->bindArgs a ⟨us,[]⟩=pure (ps.zip us)):Binds K a ps []:=λs us _ b=>by
 rw[CC]at b⊢;exact .of_eq (h us b)
def Bm(CX:RS)(X:Cx)(E:XK):Prop:=∀(a:A0 (A3×Obj)) (σ:St) (H:Hp) (s:A4) (e:A2) (b:A4),Inv X a σ H s->CX X.stack H s E e b->X.xe e b
section
variable{X:Cx}{CX:RS}{k:Nat}{f C:A3}{fd:I7}{ps:A0 Str}{sp:Sp}{dvs:A0 V}{ds:A0 A2}{E:XK}{x m:Str}{p pos apos:Pos}{e o:IQ}{es:A0 IQ}{ta:TE}{t:TA}
theorem Sb{a:A0 (A3×Obj)}{σ:St}{H:Hp}{s:A4}{Q:VK}{us:A0 A2}{vs:A0 V}(F:IU X.prog X.w X.K X.mg X.base CX k f fd ps sp)(d:KD k X.A)(g:Binds X.K fd ps ds)(i:IT dvs ds)(j:Bm CX X E)
  (I:Inv X a σ H s) (r:IT vs us) (h:sp (vs++dvs) H Q E):wpAny (model X.prog X.w) X.A (call (.ref f) us) (EP X a σ Q) X.xe s:=by
 have c:IT (vs++dvs) (us++ds):=r.append i;have l:(us++ds).length=ps.length:=by rw[<-c.length];exact F.len _ _ _ _ h
 refine HN (FC (F.run X.A X.stack s H ⟨us,[]⟩ (us++ds) (vs++dvs) Q E d I.env0 (g s us I.kIn l) c h) λr m b=>?_);cases r with
 | error e=>exact j a σ H s e m I b
 | ok n =>
  cases n with
  | ret u=>exact I.after b
  | next=>exact VB b
  | brk=>exact VB b
  | cont=>exact VB b
theorem Zw(F:IU X.prog X.w X.K X.mg X.base CX k f fd ps sp)(g:KD k X.A)(i:Gl X x)(j:X.mg x=some (.ref f))(l:PySem.W.keepIn X.K (.ref f)=true)(m:Binds X.K fd ps ds)(n:IT dvs ds)(o:Bm CX X E)
  (u:PA X (e::es) t) (b:(x ==("__debug__":Str))=false:=by decide) (v:starEach (e::es) X.env =(false,eval e X.env)::starEach es X.env:=by rfl) (c:(backTo pos (starEach es X.env)).any (·.1)=false:=by rfl) :
  PE X (.Call (.Name x p) (e::es) [] pos) (Hr sp dvs E t):=by
 intro a s σ H Q I h;refine FH (Cz I i j ?_ b);refine PySem.W.callWith_K (h₀:=X.base) I.ok.mod.kin l (JK (u pos a s σ H _ I h) λy z ⟨B,C,d,r,q⟩=>⟨d.kIn,?_⟩) v c;exact Sb F g m n o d r q
theorem M0{pl:Sem Bool}(v:PE X o ta)(c:RP X.K C)(i:RA X.K C m f)(F:IU X.prog X.w X.K X.mg X.base CX k f fd ps sp)(y:KD k X.A)(z:Binds X.K fd ps ds)(B:IT dvs ds)(D:Bm CX X E)(G:PA X (e::es) t)
  (d:starEach (e::es) X.env =(false,eval e X.env)::starEach es X.env:=by rfl) (g:(backTo pos (starEach es X.env)).any (·.1)=false:=by rfl)
  (J:eval (.Call (.Attribute o m apos) (e::es) [] pos) X.env =(do
   let j <-eval o X.env
   standAt apos.atName
   let(f,first) <-holding [j] (getMethod j m pl)
   callWith pos f first (backTo pos (starEach (e::es) X.env)) (backToKw pos (keywordEach [] X.env))):=by rfl) :
  PE X (.Call (.Attribute o m apos) (e::es) [] pos) (Rj C m sp dvs E ta t):=by
 intro b s σ H Q I h;refine PySem.W.methodCall_KW (pl:=pl) (JK (v b s σ H _ I h) λu L ⟨x,M,n,N,a,S,T,O,P,l,q⟩=>?_) J;subst O;obtain rfl:u=Value.ref a:=N;refine Bf n P c i l ?_;refine PySem.W.callWith_K (first:=[.ref a]) (h₀:=X.base) I.ok.mod.kin i.kp (JK (G pos b L σ M _ n q) λus U ⟨vs,V,p,r,R⟩=>⟨p.kIn,?_⟩) d g;exact Sb (us:=.ref a::us) (vs:=.ref a::vs) F y z B D p (.cons rfl r) R
theorem F5{pl:Sem Bool}(i:PE X o ta)(c:RP X.K C)(e:RA X.K C m f)(F:IU X.prog X.w X.K X.mg X.base CX k f fd ps sp)(j:KD k X.A)(n:Binds X.K fd ps ds)(p:IT dvs ds)(r:Bm CX X E)
  (t:eval (.Call (.Attribute o m apos) [] [] pos) X.env =(do
   let g <-eval o X.env
   standAt apos.atName
   let(f,first) <-holding [g] (getMethod g m pl)
   callWith pos f first (backTo pos (starEach [] X.env)) (backToKw pos (keywordEach [] X.env))):=by rfl) :
  PE X (.Call (.Attribute o m apos) [] [] pos) (Rj C m sp dvs E ta Fh):=by
 intro b s σ H Q I h;refine PySem.W.methodCall_KW (pl:=pl) (JK (i b s σ H _ I h) λu B ⟨x,D,d,v,a,G,J,y,z,l,q⟩=>?_) t;subst y;obtain rfl:u=Value.ref a:=v;refine Bf d z c e l ?_;exact PySem.W.callWith_K0 (first:=[.ref a]) d.kIn e.kp (Sb (us:=[.ref a]) (vs:=[.ref a]) F j n p r d (.cons rfl .nil) q)
structure Mk(K:VA)(C f:A3):Prop where
 makes:PySem.W.makesIn K C=true
 init:PySem.W.findIn K (.ref C) "__init__" = some (some (.ref f))
 fn:PySem.W.isFn K (.ref f)=true
 kp:PySem.W.keepIn K (.ref C)=true
theorem Xk{a:A0 (A3×Obj)}{σ:St}{H:Hp}{s:A4}{Q:VK}{us:A0 A2}{vs:A0 V}(M:Mk X.K C f)(F:IU X.prog X.w X.K X.mg X.base CX k f fd ps sp)(j:KD (k+1) X.A)(l:Binds X.K fd ps ds)(m:IT dvs ds)
  (n:Bm CX X E) (I:Inv X a σ H s) (r:IT vs us)
  (h:∀x c,H x=none->H c=none->c≠x->sp (.ref x ::(vs++dvs)) (II (II H c (.own x)) x (.ins C c [])) (λv o=>v = .non/\Q (.ref x) o) E) :
  wpAny (model X.prog X.w) X.A (call (.ref C) us) (EP X a σ Q) X.xe s:=by
 have g:=h (s.heap.objs.size+1) s.heap.objs.size (I.hok.fresh (DC _)) (I.hok.fresh (VD _)) (BB (FF _));have d:=Inv.made (C:=C) I;have i:IT (V.ref (s.heap.objs.size+1) ::(vs++dvs)) (Value.ref (s.heap.objs.size+1) ::(us++ds)):=.cons rfl (r.append m);have p:(Value.ref (s.heap.objs.size+1)::us++ds).length=ps.length:=by
  have e:=i.length;rw[F.len _ _ _ _ g]at e;exact e.symm
 refine HN (Xv (f:=f) I.kIn M.makes M.init (beq_iff_eq.mp M.fn) (FC (F.run _ X.stack _ _ ⟨Value.ref (s.heap.objs.size+1)::us,[]⟩ (Value.ref (s.heap.objs.size+1) ::(us++ds)) _ _ E (j.make C us [])
  (d.env0.make C us []) (l _ (Value.ref (s.heap.objs.size+1)::us) d.kIn p) i g) λr q b=>?_))
 cases r with
 | error e=>exact n a σ _ _ e q d b
 | ok t =>
  cases t with
  | ret u =>
   obtain⟨v,y,z,B,D,G⟩:=d.after b;subst D;exact⟨B,⟨V.ref (s.heap.objs.size+1),y,z,rfl,G⟩⟩
  | next=>exact VB b
  | brk=>exact VB b
  | cont=>exact VB b
theorem j7(M:Mk X.K C f)(F:IU X.prog X.w X.K X.mg X.base CX k f fd ps sp)(g:KD (k+1) X.A)(i:Gl X x)(j:X.mg x=some (.ref C))(l:Binds X.K fd ps ds)(m:IT dvs ds)(n:Bm CX X E)
  (o:PA X (e::es) t) (b:(x ==("__debug__":Str))=false:=by decide) (u:starEach (e::es) X.env =(false,eval e X.env)::starEach es X.env:=by rfl) (c:(backTo pos (starEach es X.env)).any (·.1)=false:=by rfl) :
  PE X (.Call (.Name x p) (e::es) [] pos) (zHb C sp dvs E t):=by
 intro a s σ H Q I h;refine FH (Cz I i j ?_ b);refine PySem.W.callWith_K (h₀:=X.base) I.ok.mod.kin M.kp (JK (o pos a s σ H _ I h) λv y ⟨z,B,d,r,q⟩=>⟨d.kIn,?_⟩) u c;exact Xk M F g l m n d r q
end
structure IL(N P:A0 Str)(sc:KZ):Prop where
 kind:sc.kind = .function
 co:sc.isCoroutine=false
 gen:sc.isGenerator=false
 nd:N.Nodup
 pre:N.take P.length=P
 par:∀x∈P,sc.names.lookup x=some .local\/sc.names.lookup x=some .cell
 nofree:∀y∈sc.names,y.2≠ .free
def Iq{kindOf:Str->A5 OO}{x:Str}:∀{a:A0 (Str×A2)} {m:Str->A5 A2},(∀v,(x,v)∉a)->bindL kindOf a m x=m x
 | [],_,_=>rfl
 | (n,v)::r,m,h=>by
  unfold bindL;rw[Iq λw b=>h w (AM _ b)];split
  .have:x≠n:=by rintro rfl;exact h v BA
   simp[this]
  .rfl
def Jw{kindOf:Str->A5 OO}{x:Str}:∀{a:A0 (Str×A2)} {m:Str->A5 A2},(∀v,(x,v)∉a)->bindC kindOf a m x=m x
 | [],_,_=>rfl
 | (n,v)::r,m,h=>by
  unfold bindC;rw[Jw λw b=>h w (AM _ b)];split
  .rfl
  .have:x≠n:=by rintro rfl;exact h v BA
   simp[this]
def Jo{kindOf:Str->A5 OO}{x:Str}{v:A2}:∀{P:A0 Str} {vs:A0 A2} {i:Nat} {m:Str->A5 A2},P.Nodup->P[i]?=some x->vs[i]?=some v->kindOf x=some .local ->
  bindL kindOf (P.zip vs) m x=some v
 | [],_,_,_,_,h,_,_=>by simp at h
 | _::_,[],_,_,_,_,h,_=>by simp at h
 | p::P,w::vs,0,m,c,a,b,d=>by
  simp at a b;subst a;subst b;show bindL kindOf ((p,w)::P.zip vs) m p=_;unfold bindL;rw[Iq λv e=>(CN.mp c).1 (List.of_mem_zip e).1,AO d];simp
 | p::P,w::vs,i+1,m,c,a,b,d=>by
  show bindL kindOf ((p,w)::P.zip vs) m x=_;unfold bindL;exact Jo (i:=i) (CN.mp c).2 (by simpa using a) (by simpa using b) d
def Hn{kindOf:Str->A5 OO}{x:Str}{v:A2}:∀{P:A0 Str} {vs:A0 A2} {i:Nat} {m:Str->A5 A2},P.Nodup->P[i]?=some x->vs[i]?=some v->kindOf x≠some .local ->
  bindC kindOf (P.zip vs) m x=some v
 | [],_,_,_,_,h,_,_=>by simp at h
 | _::_,[],_,_,_,_,h,_=>by simp at h
 | p::P,w::vs,0,m,c,a,b,d=>by
  simp at a b;subst a;subst b;show bindC kindOf ((p,w)::P.zip vs) m p=_;unfold bindC;rw[Jw λv e=>(CN.mp c).1 (List.of_mem_zip e).1,AI d];simp
 | p::P,w::vs,i+1,m,c,a,b,d=>by
  show bindC kindOf ((p,w)::P.zip vs) m x=_;unfold bindC;exact Hn (i:=i) (CN.mp c).2 (by simpa using a) (by simpa using b) d
def Da(N:A0 Str)(vs:A0 V):St:=vs.map some++List.replicate (N.length-vs.length) none
def Xi(CX:RS)(P:IE)(w:IJ)(K:VA)(mg:Str->A5 A2)(base:IP)(N:A0 Str)(b:Str)(a:KZ)(f:A3)(d:A2)(A:IM)(outer:A0 QU)(s:A4)(H:Hp)(E:XK):Cx where
 prog:=P
 w:=w
 K:=K
 mg:=mg
 base:=base
 A:=A.deeper (envOfC b a s.heap.objs.size f d)
 N:=N
 s₀:=s
 H₀:=H
 env:=envOfC b a s.heap.objs.size f d
 outer:=outer
 stack:=envOfC b a s.heap.objs.size f d::outer
 ex:=[]
 calm:=true
 fn:=λ_=>true
 pn:=[]
 xe:=λe g=>wpAny (model P w) (A.deeper (envOfC b a s.heap.objs.size f d)) (leaving (envOfC b a s.heap.objs.size f d) e) (λ_ c=>CX outer H s E e c) (λh c=>CX outer H s E h c) g
def Ml{a:KZ}{n:Nat}{x:Str}(h:a.names.lookup x=some .cell):∃c,(cellsFrom n a.names []).lookup x=some c:=by
 have q:=PySem.W.cellsFrom_some a.names n [] (.inl h);exact FP.mp q
def Qx{CX:RS}{P:IE}{w:IJ}{K:VA}{I:Str->A5 A2}{m:IP}{N ps:A0 Str}{j:Str}{d:KZ}{f:A3}{D:A2}{A:IM}{g:A0 QU}{s J:A4}{H:Hp}{E:XK}{us:A0 A2}{vs:A0 V}
  (S:IL N ps d) (O:A.handled=none) (o:RB P w K I m A g s H) (U:vs.length=ps.length) (r:IT vs us)
  (x:InCallC s s.heap.objs.size (bindL (envOfC j d s.heap.objs.size f D).kindOf (ps.zip us) λ_=>none) (cellsFrom (s.heap.objs.size+1) d.names []) (bindC (envOfC j d s.heap.objs.size f D).kindOf (ps.zip us) λ_=>none) J) :
  Inv (Xi CX P w K I m N j d f D A g s H E) [] (Da N vs) H J:=by
 have Q:ps.length<=N.length:=by have:=congrArg List.length S.pre;rw[AX]at this;lia
 obtain⟨F,X,rfl,L⟩:=x.done;have t:∀b:A3,b∉(Xi CX P w K I m N j d f D A g s H E).ex:=λb z=>absurd (show b∈([]:A0 A3)from z) (by simp);refine⟨⟨o.mod,S.kind,rfl,rfl,VD _,λy z c F l=>?_,λy hy=>?_,λy c _ h=>?_,λ_=>O,Around.frames_deeper o.frames,.inr ⟨rfl,rfl⟩,λb z=>absurd z (t b),o.bs,o.bsz,λb _ _=>t b,λb z=>absurd z (t b),o.funs,o.frf⟩,
  rfl,o.bare,Un.kept L,⟨_,x.toInCall.ns,λi y v F l Y=>?_⟩,λy c h=>⟨_,x.cell y c h⟩,o.hok.fresh (VD _),λy c h=>?_,λp B=>absurd (show p∈([]:A0 (A3×Obj))from B) (by simp),o.hok.kept L,?_⟩
 .exact name_of_addr x.apart (PySem.mem_of_lookup F) (PySem.mem_of_lookup l)
 .have hy:d.names.lookup y=some .cell\/d.names.lookup y=some .free:=hy;rcases hy with hy | hy
  .exact Ml hy
  .exact absurd rfl (S.nofree _ (PySem.mem_of_lookup hy))
 .exact DQ (x.above y c (PySem.mem_of_lookup h))
 .have G:i<vs.length:=by
   unfold Da at l;by_cases G:i<vs.length
   .exact G
   .rw[GP (by simpa using G)]at l;rw[List.getElem?_replicate]at l;split at l<;>cases l
  have R:vs[i]?=some v:=by
   unfold Da at l;rw[GX (by simpa using G),AJ]at l;cases e:vs[i]? with
   | none=>rw[e]at l;cases l
   | some a=>rw[e]at l;cases l;rfl
  obtain⟨u,M,T⟩:=r.get R;have B:ps[i]?=some y:=by
   rw[<-S.pre,DK (by lia)];exact F
  have C:ps.Nodup:=by rw[<-S.pre];exact S.nd.sublist (EY _ _)
  refine⟨u,T,?_⟩;rcases S.par y (AZ B)with k | k
  .exact .inl ⟨k,Jo C B M k⟩
  .obtain⟨c,e⟩:=Ml (n:=s.heap.objs.size+1) k;refine .inr ⟨.inl k,c,e,?_⟩;have q:=x.cell y c e;rw[Hn C B M (by show d.names.lookup y≠_;rw[k];decide)]at q;exact q
 .exact o.hok.fresh (DQ (x.above y c (PySem.mem_of_lookup h)))
 .unfold Da;show _=N.length;rw[AS,AB,GJ];lia
def zFp{CX:RS}{P:IE}{w:IJ}{K:VA}{G:Str->A5 A2}{h:IP}{k:Nat}{f:A3}{name d:Str}{i:Arguments}{j:A0 IY}{a:KZ}{X kV z Y g ct oc:A2}{Z od:A5 A3}
  {L:IG (A5 A2)} {N ps:A0 Str} {sp:Sp} (lk:K.lookup f=some ⟨oc,od,.func (PySem.W.fnOf name d i j a X kV z Y Z g ct),L⟩) (M:PySem.W.codeIn K g d=true) (S:IL N ps a)
  (B:∀vs H Q E,sp vs H Q E->vs.length=ps.length)
  (l:∀(A:IM) (c:A0 QU) (s:A4) (H:Hp) (vs:A0 V) (Q:VK) (E:XK),KD k (A.deeper (envOfC d a s.heap.objs.size f g))->sp vs H Q E ->
   ∃t,QA (Xi CX P w K G h N d a f g A c s H E) j t/\t { nx:=λ_ H'=>Q .non H',rt:=Q } (Da N vs) H) :
  IU P w K G h CX (k+1) f (PySem.W.fnOf name d i j a X kV z Y Z g ct) ps sp:=by
 refine⟨B,λA c s H args us vs Q E O C hb r D=>?_⟩;have hl:=B _ _ _ _ D;have KX:K.In s.heap:=C.mod.kin.keeps λb o e=>(C.bs b o e).1;have R:s.heap.NoLimit:=C.mod.nolimit.keeps λb o e=>(C.bs b o e).1;have m:∀y∈ps.zip us,a.names.lookup y.1=some .local\/(a.names.lookup y.1=some .cell/\((cellsFrom (s.heap.objs.size+1) a.names []).lookup y.1).isSome=true):=λ⟨n,v⟩ hy=>by
  rcases S.par n (List.of_mem_zip hy).1 with q | q
  .exact .inl q
  .exact .inr ⟨q,PySem.W.cellsFrom_some _ _ _ (.inl q)⟩
 refine codeAny_call_function O.depth (KX _ _ lk) rfl S.co S.gen rfl (PySem.W.codeRec_of KX M) (hb _ _ _ _ ?_);refine wpAny_newFunctionEnv_cells S.kind m λenv he s1 x=>?_;subst he;refine⟨R.keeps x.toInCall.keep,codeAny_func ?_⟩;obtain⟨t,ht,hq⟩:=l A c s H vs Q E (O.deeper _) D;have I:Inv (Xi CX P w K G h N d a f g A c s H E) [] (Da N vs) H s1:=Qx S O.hd C hl r x;refine BS (ht [] s1 (Da N vs) H _ I hq) (λfl T p=>?_) λe T p=>p;have F:∀{σ':St} {H':Hp} {v:V} {u:A2},Inv (Xi CX P w K G h N d a f g A c s H E) [] σ' H' T->RelV v u->Q v H'->CE c P w H s Q u T :=
  fun{σ' H' v u} J U q=>⟨v,H',J.os,J.bare,J.base,J.hok,U,q⟩
 cases fl with
 | ret u =>
  obtain⟨v,σ',H',J,U,q⟩:=p;exact F J U q
 | next =>
  obtain⟨σ',H',J,q⟩:=p;exact F (v:=V.non) (u:=Value.none) J rfl q
 | brk =>
  obtain⟨_,_,_,q⟩:=p;exact VB q
 | cont =>
  obtain⟨_,_,_,q⟩:=p;exact VB q
section
variable{X:Cx}{x:Str}{p pos:Pos}{e:IQ}{es:A0 IQ}{t:TA}{id T:String}{r:A0 V->Hp->VK->Prop}
def S_(r:A0 V->Hp->VK->Prop)(t:TA):TE:=λσ H Q=>t σ H λa b=>r a b Q
theorem Yc(d:N0 X (.builtin id) r)(f:Gl X x)(g:X.mg x=none)(i:bootBuiltins x=some (.builtin id))(j:PA X (e::es) t)(k:x≠ "__name__":=by decide)(b:(x ==("__debug__":Str))=false:=by decide)
  (l:starEach (e::es) X.env =(false,eval e X.env)::starEach es X.env:=by rfl) (c:(backTo pos (starEach es X.env)).any (·.1)=false:=by rfl):PE X (.Call (.Name x p) (e::es) [] pos) (S_ r t):=by
 intro a s σ H Q I h;refine FH (Bq I f g i ?_ k b);exact PyProof.Rows.callWith_builtin1 (JK (j pos a s σ H _ I h) λm n ⟨o,q,u,v,w⟩=>d a n σ q o m Q u v w) l c
theorem Ur(d:N0 X (.type T) r)(f:Gl X x)(g:X.mg x=none)(i:bootBuiltins x=some (.type T))(j:PA X (e::es) t)(k:x≠ "__name__":=by decide)(b:(x ==("__debug__":Str))=false:=by decide)
  (l:starEach (e::es) X.env =(false,eval e X.env)::starEach es X.env:=by rfl) (c:(backTo pos (starEach es X.env)).any (·.1)=false:=by rfl):PE X (.Call (.Name x p) (e::es) [] pos) (S_ r t):=by
 intro a s σ H Q I h;refine FH (Bq I f g i ?_ k b);exact VP (JK (j pos a s σ H _ I h) λm n ⟨o,q,u,v,w⟩=>d a n σ q o m Q u v w) l c
theorem Et(c:N0 X (.type T) r)(d:Gl X x)(e:X.mg x=none)(f:bootBuiltins x=some (.type T))(g:x≠ "__name__":=by decide)(b:(x ==("__debug__":Str))=false:=by decide) :
  PE X (.Call (.Name x p) [] [] pos) (S_ r Fh):=by
 intro a s σ H Q I h;refine FH (Bq I d e f ?_ g b);exact PyProof.Rows.callWith_type0 (c a s σ H [] [] Q I .nil h)
end
end L2
namespace HT
open PySem PyProof.Rows
section
variable{prog:IE}{w:IJ}{A:IM}{E:A2->A4->Prop}{s:A4}
theorem SO{t b:A3}{vs a:A0 A2}{Q:A2->A4->Prop}(u:IsTup s.heap t vs.toArray)(v:IsTup s.heap b a.toArray)(k:vs≠[])
  (h1:a = []->Q (.ref t) s) (h2:a≠[]->Q (.ref s.heap.objs.size) { s with heap:=s.heap.push { cls:=.type "tuple",data:=.seq (vs++a).toArray } })
  (hsz:vs.length+a.length<=sizeLine):wpAny (model prog w) A (binaryOp .Add (.ref t) (.ref b)) Q E s:=by
 obtain⟨⟨cls,l,data,m⟩,i,o,n,p⟩:=id u;obtain⟨⟨q,d,data2,f⟩,c,g,r,h⟩:=id v;simp only at o p g h;subst o p g h;have e:vs.toArray++a.toArray =(vs++a).toArray:=by simp
 by_cases j:a = []
 .exact concat_meets ⟨_,i,rfl⟩ ⟨_,c,rfl⟩ noFill_tuple_add seq_tuple_add VN VO (PySem.F.args_tuple_add_2 _ _)
   (tuple_addW1 t b vs.toArray a.toArray n r l d m f (by simpa using k) (by simp[j])) ⟨i,c,h1 j⟩
 .refine concat_meets ⟨_,i,rfl⟩ ⟨_,c,rfl⟩ noFill_tuple_add seq_tuple_add VN VO (PySem.F.args_tuple_add_2 _ _)
   (tuple_addW2 t b vs.toArray a.toArray n r l d m f (by simpa using k) (by simpa using j) (by rw[AR,AR];exact hsz)) ⟨i,c,?_⟩
  rw[e];exact h2 j
def JU(n d:Nat):A5 Int->Nat
 | none=>d
 | some v=>if v<0 then(v +(n:Int)).toNat else min v.toNat n
theorem zFy(n d:Nat)(b:d<=n)(o:A5 Int):JU n d o<=n:=by
 cases o with
 | none=>exact b
 | some v =>
  show(if v<0 then(v +(n:Int)).toNat else min v.toNat n)<=n;by_cases a:v<0
  .rw[AO a];lia
  .rw[AI a];exact Nat.min_le_right _ _
theorem Qm(v:Int)(n d:Nat):(if v<0 then max (v +(n:Int)) 0 else min v (n:Int)) =((JU n d (some v):Nat):Int):=by
 show(if v<0 then max (v +(n:Int)) 0 else min v (n:Int)) =(((if v<0 then(v +(n:Int)).toNat else min v.toNat n):Nat):Int);by_cases a:v<0
 .simp only[AO a];lia
 .simp only[AI a];lia
theorem Ou(lo hi:A5 Int)(n:Nat):Builtin.Slice.sliceAdjust lo hi 1 (n:Int) =(((JU n 0 lo:Nat):Int),((JU n n hi:Nat):Int)):=by
 have a:¬((1:Int)<0):=by lia
 unfold Builtin.Slice.sliceAdjust;simp only[a,CQ];refine Prod.ext ?_ ?_
 .cases lo with
  | none=>rfl
  | some v=>exact Qm v n 0
 .cases hi with
  | none=>rfl
  | some v=>exact Qm v n n
theorem Pz(i j:Nat):Builtin.Slice.slicePlaces (i:Int) (j:Int) 1=j-i:=by
 unfold Builtin.Slice.slicePlaces;have a:(1:Int)>0:=by lia
 simp only[a,GL,Int.ediv_one];split<;>lia
theorem Fq{v:A2}{o:A5 Int}{Q:A5 Int->A4->Prop}(p:IsPart v o)(h:Q o s):wpAny (model prog w) A (Builtin.Slice.slicePartIndex v) Q E s:=by
 cases p with
 | none=>exact slicePart_none h
 | int i t=>exact slicePart_int h
theorem Y6{e:A3}{c d:A2}{lo hi:A5 Int}{n:Nat}{Q:Int×Int×Nat->A4->Prop}(f:s.heap.IsSliceOf e c d .none)(pl:IsPart c lo)(g:IsPart d hi)
  (h:Q (((JU n 0 lo:Nat):Int),1,JU n n hi-JU n 0 lo) s):wpAny (model prog w) A (Builtin.Slice.sliceApplied (.ref e) (pure (n:Int))) Q E s:=by
 obtain⟨os,a,i,b⟩:=id f;unfold Builtin.Slice.sliceApplied Builtin.Slice.sliceFields;refine AA (AA (CD a b (x:=c) rfl (AA (CD a b (x:=d) rfl (AA (CD a b (x:=.none) rfl (AC ?_)))))));refine AA (slicePart_none ?_);show wpAny _ _ (if((1:Int) == 0)=true then _ else _) _ _ s;rw[AI (by decide)];refine AA (Fq pl (AA (Fq g (AA (AC ?_)))));show wpAny _ _ (match Builtin.Slice.sliceAdjust lo hi 1 (n:Int)with | (lo,hi)=>pure (lo,(1:Int),Builtin.Slice.slicePlaces lo hi 1)) _ _ s;rw[Ou lo hi n];show wpAny _ _ (pure (((JU n 0 lo:Nat):Int),(1:Int),Builtin.Slice.slicePlaces ((JU n 0 lo:Nat):Int) ((JU n n hi:Nat):Int) 1)) _ _ s;rw[Pz];exact AC h
theorem Wj(xs:IG A2)(i k:Nat):((List.range k).filterMap λ(m:Nat)=>xs[((i:Int) +(m:Int)*1).toNat]?).toArray =((xs.toList.drop i).take k).toArray:=by
 have e:(λ(m:Nat)=>xs[((i:Int) +(m:Int)*1).toNat]?)=λm=>xs[i+m]?:=by
  funext m;have:((i:Int) +(m:Int)*1).toNat=i+m:=by lia
  rw[this]
 rw[e];have:=pick_run xs i k;rw[List.filterMap_map]at this;have a:((λx=>xs[x]?)∘λx=>i+x)=λm=>xs[i+m]?:=rfl;rw[a]at this;rw[this]
theorem OA{t c:A3}{items:IG A2}{i j:A2}{lo hi:A5 Int}{Q:A2->A4->Prop}(b:IsTup s.heap t items)(k:s.heap.IsSliceOf c i j .none)(pl:IsPart i lo)(l:IsPart j hi)
  (hw:¬(JU items.size 0 lo=0/\JU items.size items.size hi=items.size))
  (h:Q (.ref s.heap.objs.size) { s with heap:=s.heap.push { cls:=.type "tuple",data:=.seq ((items.toList.drop (JU items.size 0 lo)).take (JU items.size items.size hi-JU items.size 0 lo)).toArray } })
  (hsz:items.size<=sizeLine):wpAny (model prog w) A (getItem (.ref t) (.ref c)) Q E s:=by
 have a:sizeOk (.seq ((items.toList.drop (JU items.size 0 lo)).take (JU items.size items.size hi-JU items.size 0 lo)).toArray):=by
  show((items.toList.drop (JU items.size 0 lo)).take (JU items.size items.size hi-JU items.size 0 lo)).toArray.size<=sizeLine;rw[AR,AX,DJ,AU];lia
 have o:JU items.size items.size hi<=items.size:=zFy _ _ (VD _) hi;obtain⟨os,d,e,n⟩:=id k;have f:s.TypeIs (.ref c) "slice":=⟨os,d,e⟩;unfold getItem
 try with_reducible refine BN ?_
 first | refine AA (AC ?_) | skip
 refine AA (wpAny_sequenceKey b.typeIs (by decide) ?_);refine AA (CI (name:=Str.ofString "__getitem__") b.typeIs PyProof.Rows.slot_tuple_getitem
  (CG PyProof.Rows.slot_tuple_getitem b.typeIs entry_tuple_getitem ?_ (args_tuple_getitem _ _)))
 show wpAny _ _ (Builtin.Tuple.tupleItemsOf (.ref t) >>= _) _ _ s;refine AA (tupleItemsOf_ b ?_);refine AA (FZ f ?_);rw[AO (by decide)];refine AA (Y6 k pl l ?_);have g:¬((((JU items.size 0 lo:Nat):Int) == 0 &&(1:Int) == 1 &&(JU items.size items.size hi-JU items.size 0 lo) == items.size)=true):=by
  intro q;rw[C_,C_]at q;have p:((JU items.size 0 lo:Nat):Int)=0:=eq_of_beq q.1.1;have r:JU items.size items.size hi-JU items.size 0 lo=items.size:=eq_of_beq q.2;exact hw ⟨by lia,by lia⟩
 show wpAny _ _ (if(((JU items.size 0 lo:Nat):Int) == 0 &&(1:Int) == 1 &&(JU items.size items.size hi-JU items.size 0 lo) == items.size)=true then _ else _) _ _ s;rw[AI g,Wj]
 first
  | exact AA (m:=Builtin.Tuple.tupleExact _) (BV (AC ⟨_,rfl,AC h⟩) a)
  | exact AA (m:=Builtin.Tuple.tupleExact _) (BV (AA (AC (AC ⟨_,rfl,AC h⟩))) a)
  | exact AA (AA (m:=Builtin.Tuple.tupleExact _) (BV (AC (AC ⟨_,rfl,AC h⟩)) a))
  | exact AA (AA (m:=Builtin.Tuple.tupleExact _) (BV (AC ⟨_,rfl,AC h⟩) a))
end
end HT
namespace L2
open PySem PySem.Spec PyProof.Rows
abbrev TO:=St->Hp->(A5 Int->Hp->Prop)->Prop
def PO(X:Cx)(e:A5 IQ)(t:TO):Prop :=
 ∀(a:A0 (A3×Obj)) (s:A4) (σ:St) (H:Hp) (Q:A5 Int->Hp->Prop),Inv X a σ H s->t σ H Q ->
  wpAny (model X.prog X.w) X.A (evalPart e X.env) (λu c=>∃o b,Inv X a σ b c/\IsPart u o/\Q o b) X.xe s
def Ri:TO:=λ_ H Q=>Q none H
def zCu(t:TE):TO:=λσ H Q=>t σ H λx a=>∃i,x = .int i/\Q (some i) a
section
variable{X:Cx}{e:IQ}{te:TE}{lo hi:A5 IQ}{tl th:TO}{pos p2:Pos}
theorem y4:PO X none Ri:=by
 intro a s σ H Q I h;rw[evalPart_none];exact AC ⟨none,H,I,.none,h⟩
theorem Ab(h:PE X e te):PO X (some e) (zCu te):=by
 intro a s σ H Q I b;rw[evalPart_some];refine JK (h a s σ H _ I b) λu j ⟨x,c,d,f,g⟩=>?_;obtain⟨i,rfl,q⟩:=g;obtain⟨t,rfl⟩:=f;exact⟨some i,c,d,.int i t,q⟩
def SR(X:Cx)(r:V->A5 Int->A5 Int->Hp->VK->Prop):Prop :=
 ∀(a:A0 (A3×Obj)) (s:A4) (σ:St) (H:Hp) (x:V) (v b c:A2) (lo hi:A5 Int) (d:A3) (Q:VK),Inv X a σ H s->RelV x v->s.heap.IsSliceOf d b c .none->IsPart b lo->IsPart c hi->r x lo hi H Q ->
  ∃T id,typeLookup (.type T) "__getitem__" = pure (some (.builtin id))/\s.TypeIs v T/\wpAny (model X.prog X.w) X.A (getItem v (.ref d)) (EP X a σ Q) X.xe s
theorem SR.or{r b:V->A5 Int->A5 Int->Hp->VK->Prop}(h:SR X r)(h':SR X b):SR X (λx lo hi H Q=>r x lo hi H Q\/b x lo hi H Q):=by
 intro a s σ H x v c d lo hi e Q I f g i j q;rcases q with q | q
 .exact h a s σ H x v c d lo hi e Q I f g i j q
 .exact h' a s σ H x v c d lo hi e Q I f g i j q
def tSl(r:V->A5 Int->A5 Int->Hp->VK->Prop)(te:TE)(tl th:TO):TE:=λσ H Q=>te σ H λx a=>tl σ a λl b=>th σ b λu c=>r x l u c Q
theorem Y1{r:V->A5 Int->A5 Int->Hp->VK->Prop}(f:SR X r)(g:PE X e te)(i:PO X lo tl)(j:PO X hi th):PE X (.Subscript e (.Slice lo hi none p2) pos) (tSl r te tl th):=by
 intro a s σ H Q I h;refine Subscript_ (JK (g a s σ H _ I h) λv k ⟨x,m,n,o,p⟩=>?_);refine wpAny_Slice (JK (i a k σ m _ n p) λc t ⟨l,y,z,B,C⟩=>JK (j a t σ y _ z C) λvu s3 ⟨u,d,D,E,F⟩=>?_);rw[evalPart_none];refine AC ?_;have G:Inv X a σ d { s3 with heap:=s3.heap.push { cls:=.type "slice",data:=.fields #[c,vu,.none] } }:=D.kept (t':=s3.toks) λb M q=>AD _ q;obtain⟨T,id,J,K,L⟩:=f a { s3 with heap:=s3.heap.push { cls:=.type "slice",data:=.fields #[c,vu,.none] } } σ d x v c vu l u s3.heap.objs.size Q G o (Heap.IsSliceOf.new ..) B E F;show wpAny (model X.prog X.w) X.A (subscriptTail e (.Slice lo hi none p2) v (.ref s3.heap.objs.size)) (EP X a σ Q) X.xe { s3 with heap:=s3.heap.push { cls:=.type "slice",data:=.fields #[c,vu,.none] } };exact tail_any (ops:=[.ref s3.heap.objs.size,v]) K J L (by with_unfolding_all rfl)
def Ju(xs:A0 V)(lo hi:A5 Int):A0 V:=(xs.drop (HT.JU xs.length 0 lo)).take (HT.JU xs.length xs.length hi-HT.JU xs.length 0 lo)
theorem Lu(xs:A0 V)(lo hi:A5 Int):(Ju xs lo hi).length<=xs.length:=by
 unfold Ju;rw[AX,DJ];lia
def zGr(K:VA):V->A5 Int->A5 Int->Hp->VK->Prop:=λx lo hi H Q=>∃a b,x = .ref a/\JG K H a b /\
 ¬(HT.JU b.length 0 lo=0/\HT.JU b.length b.length hi=b.length)/\∀p,H p=none->Q (.ref p) (II H p (.tup (Ju b lo hi)))
theorem RT:SR X (zGr X.K):=by
 intro f s σ H x v t u lo hi w Q I j k l m h;obtain⟨a,d,rfl,n,p,q⟩:=h;cases j;obtain⟨e,r,g,i⟩:=I.tuple n;have c:e.toArray.size=d.length:=by rw[AR];exact r.length.symm
 refine⟨"tuple",_,PyProof.Rows.slot_tuple_getitem.lookup,g.typeIs,?_⟩;refine HT.OA g k l m (by rw[c];exact p) ?_ (by rw[c];exact i);rw[c];refine⟨.ref s.heap.objs.size,_,I.laid (t':=s.toks) (o:=.tup (Ju d lo hi)) (λb y q=>AD _ q) (VD _) ?_,rfl,q _ (I.hok.fresh (VD _))⟩;exact⟨VE (Lu d lo hi) i,_,(r.drop (HT.JU d.length 0 lo)).take (HT.JU d.length d.length hi-HT.JU d.length 0 lo),IsTup.new _ _⟩
def zHa(K:VA):R2:=λx y H Q=>∃a b d c,x = .ref a/\y = .ref b/\JG K H a d/\JG K H b c/\d≠[]/\d.length+c.length<=sizeLine /\
 (c = []->Q (.ref a) H)/\(c≠[]->∀p,H p=none->Q (.ref p) (II H p (.tup (d++c))))
theorem IT.nil_iff{xs:A0 V}{us:A0 A2}(r:IT xs us):us = []↔xs = []:=by
 cases r with
 | nil=>simp
 | cons _ _=>simp
theorem zBi:LB X (binaryOp .Add) (zHa X.K):=by
 intro e s σ H x y v u Q I i j h;obtain⟨a,b,k,l,rfl,rfl,m,n,p,f,r,t⟩:=h;cases i;cases j;obtain⟨A,d,B,_⟩:=I.tuple m;obtain⟨g,c,p2,_⟩:=I.tuple n;refine HT.SO B p2 (λz=>p (d.nil_iff.mp z)) (λz=>⟨.ref a,H,I,rfl,r (c.nil_iff.mp z)⟩) (λz=>?_) (by rw[<-d.length,<-c.length];exact f);refine⟨.ref s.heap.objs.size,_,I.laid (t':=s.toks) (o:=.tup (k++l)) (λb C q=>AD _ q) (VD _) ?_,rfl,t (λw=>z (c.nil_iff.mpr w)) _ (I.hok.fresh (VD _))⟩;exact⟨by rw[AS];exact f,_,d.append c,IsTup.new _ _⟩
end
def SM(n:Nat)(i:Int):A5 Nat:=if 0<=i then(if i<n then some i.toNat else none)else if -(n:Int)<=i then some (i+n).toNat else none
def QW{α:Type}(xs:A0 α)(i:Int):A5 α:=(SM xs.length i).bind λj=>xs[j]?
def Up{n:Nat}{i:Int}{j:Nat}(h:SM n i=some j):seqIndex? i n=some j/\j<n/\-(n:Int)<=i/\i<n:=by
 unfold SM at h;by_cases b:0<=i
 .rw[AO b]at h;by_cases a:i<n
  .rw[AO a]at h;have e:i.toNat=j:=BU h;exact⟨by rw[seqIndex_of b a,e],by lia,by lia,a⟩
  .rw[AI a]at h;cases h
 .rw[AI b]at h;by_cases a:-(n:Int)<=i
  .rw[AO a]at h;have e:(i+n).toNat=j:=BU h;exact⟨by rw[seqIndex_neg (by lia) a,e],by lia,a,by lia⟩
  .rw[AI a]at h;cases h
def Ln{α:Type}{xs:A0 α}{i:Int}{v:α}(h:QW xs i=some v):∃j,seqIndex? i xs.length=some j/\xs[j]?=some v/\j<xs.length/\-(xs.length:Int)<=i/\i<xs.length:=by
 unfold QW at h;cases e:SM xs.length i with
 | none=>rw[e]at h;cases h
 | some j =>
  rw[e]at h;obtain⟨a,b,c,d⟩:=Up e;exact⟨j,a,h,b,c,d⟩
def Q9{α:Type}{xs:A0 α}{j:Nat}{v:α}(h:xs[j]?=some v):QW xs (j:Int)=some v:=by
 have a:j<xs.length:=(AK.mp h).1;have e:SM xs.length (j:Int)=some j:=by
  unfold SM;rw[AO (by lia),AO (by lia)];simp
 unfold QW;rw[e];exact h
def Zu(b:IQ):Prop:=∀o i,subscripted b false o i=operate [o,i] (getItem o i)
def UG(X:Cx)(r:R2):Prop :=
 ∀(c a:IQ) (b:A0 (A3×Obj)) (s:A4) (σ:St) (H:Hp) (x y:V) (v u:A2) (Q:VK),Inv X b σ H s->RelV x v->RelV y u->r x y H Q ->
  subscripted a false v u=operate [v,u] (getItem v u)->wpAny (model X.prog X.w) X.A (subscriptTail c a v u) (EP X b σ Q) X.xe s
def MtR(X:Cx)(id:String)(r:V->A0 V->Hp->VK->Prop):Prop :=
 ∀(a:A0 (A3×Obj)) (s:A4) (σ:St) (H:Hp) (x:V) (b:A0 V) (v:A2) (c:A0 A2) (Q:VK),Inv X a σ H s->RelV x v->IT b c->r x b H Q ->
  wpAny (model X.prog X.w) X.A (call (.builtin id) (v::c)) (EP X a σ Q) X.xe s
section
variable{X:Cx}{a b:IQ}{ta tb:TE}{pos:Pos}
theorem E8{r:R2}(d:UG X r)(e:PE X a ta)(f:PE X b tb)(g:Zu b):PE X (.Subscript a b pos) (PN r ta tb):=by
 intro c s σ H Q I h;exact Subscript_ (zGz e f I h λv u i x y j k l m q=>d a b c i σ j x y v u Q k l m q (g _ _))
def UC(K:VA):R2:=λx y H Q=>∃p a i v,x = .ref p/\y = .int i/\IR K H p a/\QW a i=some v/\Q v H
def zIw(K:VA):R2:=λx y H Q=>∃p a i v,x = .ref p/\y = .int i/\JG K H p a/\QW a i=some v/\Q v H
def zJs:R2:=λx y H Q=>∃z i c,x = .str z/\y = .int i/\z.length<=sizeLine/\QW z.cps.toList i=some c/\Q (.str ⟨#[c]⟩) H
theorem zAg:UG X (UC X.K):=by
 intro d e a s σ H x y v u Q I A B h m;obtain⟨p,M,i,z,rfl,rfl,C,D,q⟩:=h;cases A;obtain⟨t,rfl⟩:=B;obtain⟨f,r,g,N⟩:=I.list C;obtain⟨j,c,E,O,F,G⟩:=Ln D;obtain⟨w,n,k⟩:=r.get E;have J:=r.length;have P:=Dm;have b:EP X a σ Q w s:=⟨z,H,I,k,q⟩;by_cases o:0<=i
 .have l:i.toNat=j:=by
   rw[seqIndex_of o G]at c;exact BU c
  exact item_listR g.isList o (by lia) (by rw[l];simpa using n) b m
 .have l:(i +(f.toArray.size:Int)).toNat=j:=by
   rw[seqIndex_neg (by lia) F]at c;rw[AR,<-J];exact BU c
  exact subscriptTail_builtinR (x:=w) g.isList.typeIs slot_list_getitem.lookup
   (wpAny_getItem_list_neg (Q:=λr L=>r=w/\EP X a σ Q r L) g.isList (by lia) (by rw[AR]<;>lia) (by lia) (by rw[l];simpa using n) ⟨rfl,b⟩) m
theorem zFj:UG X (zIw X.K):=by
 intro b c a s σ H x y v u Q I g k h l;obtain⟨p,F,i,z,rfl,rfl,m,n,q⟩:=h;cases g;obtain⟨t,rfl⟩:=k;obtain⟨o,r,f,G⟩:=I.tuple m;obtain⟨j,A,B,J,L,M⟩:=Ln n;obtain⟨w,C,d⟩:=r.get B;have D:=r.length;have N:=Dm;have e:EP X a σ Q w s:=⟨z,H,I,d,q⟩;exact subscriptTail_builtinR (x:=w) f.typeIs slot_tuple_getitem.lookup
  (getItem_tuple (j:=j) (Q:=λr E=>r=w/\EP X a σ Q r E) f (by lia) (by lia) (by rw[AR,<-D];exact A) (by simpa using C) ⟨rfl,e⟩) l
theorem zGa:UG X zJs:=by
 intro a b d s σ H x y v u Q I f g h k;obtain⟨z,i,c,rfl,rfl,A,l,q⟩:=h;obtain⟨t,rfl⟩:=f;obtain⟨B,rfl⟩:=g;obtain⟨j,e,m,C,n,o⟩:=Ln l;have p:z.cps.toList.length=z.length:=by simp[Str.length]
 rw[p]at e n o;have D:=Dm;exact tail_any (typeIs_str s z t) slot_str_getitem.lookup (getItem_str (c:=c) (by
  have r:decide (i < -(2^63:Int))=false:=AL (by lia);have w:decide (i ≥ 2^63)=false:=AL (by lia);rw[r,w,Bool.or_false]) (by rw[e];simpa using m) ⟨.str ⟨#[c]⟩,H,I.tok _,⟨_,rfl⟩,q⟩) k
theorem Oh(its:A0 A2)(n j:Nat)(u:A2):Obj.mapSeq (·.setIfInBounds j u) { cls:=.type "list",data:=.seq its.toArray n } ={ cls:=.type "list",data:=.seq (its.set j u).toArray n }:=by
 simp[Obj.mapSeq]
theorem Inv.lst{a:A0 (A3×Obj)}{σ:St}{H:Hp}{s:A4}{p:A3}{xs:A0 V}(I:Inv X a σ H s)(h:H p=some (.lst xs)) :
  ∃(its:A0 A2) (n:Nat),IT xs its/\s.heap.get? p=some { cls:=.type "list",data:=.seq its.toArray n }/\xs.length<=sizeLine:=by
 obtain⟨z,its,n,r,e⟩:=I.hok p _ h;exact⟨its,n,r,e,z⟩
theorem Inv.lstUpd{a:A0 (A3×Obj)}{σ:St}{H:Hp}{s:A4}{p:A3}{xs c:A0 V}{its its':A0 A2}{n d:Nat}{f:Obj->Obj}(I:Inv X a σ H s)(h:H p=some (.lst xs))
  (i:s.heap.get? p=some { cls:=.type "list",data:=.seq its.toArray n }) (g:f { cls:=.type "list",data:=.seq its.toArray n } ={ cls:=.type "list",data:=.seq its'.toArray d }) (r:IT c its') (hz:c.length<=sizeLine) (t:Nat) :
  Inv X a σ (II H p (.lst c)) { s with heap:=s.heap.update p f,toks:=t }:=by
 have e:(s.heap.update p f).get? p=some { cls:=.type "list",data:=.seq its'.toArray d }:=by
  rw[BW f i (by rw[g]<;>rfl),g]
 refine I.write (x:=p) (e:=p) (by rw[h];trivial) (.inl rfl) (λb u j q=>(BF _ _ (Ne.symm j)).trans q) ⟨_,e⟩ ?_;exact⟨hz,its',d,r,e⟩
def zHq:V->V->V->Hp->(Hp->Prop)->Prop:=λo i v H Q=>∃p a k j,o = .ref p/\i = .int k/\H p=some (.lst a)/\SM a.length k=some j/\Q (II H p (.lst (a.set j v)))
theorem Cn:zIi X zHq:=by
 intro a s σ H o i v E F u Q I y z A h;obtain⟨p,B,k,j,rfl,rfl,g,C,q⟩:=h;cases y;obtain⟨t,rfl⟩:=z;obtain⟨b,n,r,d,D⟩:=I.lst g;obtain⟨c,G,l,m⟩:=Up C;have e:=r.length;have J:=Dm;have w:Inv X a σ (II H p (.lst (B.set j v))) { s with heap:=s.heap.update p (Obj.mapSeq (·.setIfInBounds j u)) } :=
  I.lstUpd g d (Oh b n j u) (r.set A j) (by rw[List.length_set];exact D) s.toks
 by_cases x:0<=k
 .have f:k.toNat=j:=by
   rw[seqIndex_of x m]at c;exact BU c
  exact PySem.W.ki_setAt d x (by lia) (by rw[AR,<-e];exact m) (by rw[f];exact⟨_,w,q⟩)
 .have f:(k +(b.toArray.size:Int)).toNat=j:=by
   rw[seqIndex_neg (by lia) l]at c;rw[AR,<-e];exact BU c
  exact PySem.W.ki_setBack d (by lia) (by rw[AR,<-e];exact l) (by lia) (by rw[f];exact⟨_,w,q⟩)
def Ac:V->Bool
 | .non=>true
 | .bl _=>true
 | .int _=>true
 | .str _=>true
 | _=>false
def RE:V->V->Bool
 | .non,.non=>true
 | .bl a,.bl b=>a == b
 | .bl a,.int b=>(if a then 1 else 0) == b
 | .int a,.bl b=>a ==(if b then 1 else 0)
 | .int a,.int b=>a == b
 | .str a,.str b=>a == b
 | _,_=>false
theorem zFv{A:IM}{s:A4}{y x:V}{u v:A2}(e:RelV y u)(c:RelV x v)(g:Ac y=true)(f:Ac x=true):SeqAt.EqAt A s u v (RE y x):=by
 cases y with
 | non =>
  cases e;cases x with
  | non=>cases c;exact SeqAt.EqAt.same _
  | bl b=>cases c;exact SeqAt.EqAt.none_bool b
  | int b=>obtain⟨t,rfl⟩:=c;exact SeqAt.EqAt.none_int b t
  | str b=>obtain⟨t,rfl⟩:=c;exact SeqAt.EqAt.none_str b t
  | _=>exact absurd (show false=true from f) BE
 | bl a =>
  cases e;cases x with
  | non=>cases c;exact SeqAt.EqAt.bool_none a
  | bl b=>cases c;exact SeqAt.EqAt.bool_bool a b
  | int b=>obtain⟨t,rfl⟩:=c;exact SeqAt.EqAt.bool_int a b t
  | str b=>obtain⟨t,rfl⟩:=c;exact SeqAt.EqAt.bool_str a b t
  | _=>exact absurd (show false=true from f) BE
 | int a =>
  obtain⟨d,rfl⟩:=e;cases x with
  | non=>cases c;exact SeqAt.EqAt.int_none a d
  | bl b=>cases c;exact SeqAt.EqAt.int_bool a d b
  | int b=>obtain⟨t,rfl⟩:=c;exact SeqAt.EqAt.int_int a d b t
  | str b=>obtain⟨t,rfl⟩:=c;exact SeqAt.EqAt.int_str a d b t
  | _=>exact absurd (show false=true from f) BE
 | str a =>
  obtain⟨d,rfl⟩:=e;cases x with
  | non=>cases c;exact SeqAt.EqAt.str_none a d
  | bl b=>cases c;exact SeqAt.EqAt.str_bool a d b
  | int b=>obtain⟨t,rfl⟩:=c;exact SeqAt.EqAt.str_int a d b t
  | str b=>obtain⟨t,rfl⟩:=c;exact SeqAt.EqAt.str_str a d b t
  | _=>exact absurd (show false=true from f) BE
 | _=>exact absurd (show false=true from g) BE
def PJ(x:V)(u:A2):Bool:=match u with
 | .none=>RE .non x
 | .bool b=>RE (.bl b) x
 | .int i _=>RE (.int i) x
 | .str z _=>RE (.str z) x
 | _=>false
theorem Mm{x y:V}{u:A2}(r:RelV y u)(f:Ac y=true):PJ x u=RE y x:=by
 cases y with
 | non=>cases r;rfl
 | bl b=>cases r;rfl
 | int i=>obtain⟨t,rfl⟩:=r;rfl
 | str z=>obtain⟨t,rfl⟩:=r;rfl
 | _=>exact absurd (show false=true from f) BE
theorem Db{x:V}:∀{xs:A0 V} {us:A0 A2},IT xs us->xs.all Ac=true->us.any (PJ x)=xs.any λy=>RE y x
 | _,_,.nil,_=>rfl
 | y::xs,u::us,.cons r t,f=>by
  rw[IB,C_]at f;rw[GH,GH,Mm r f.1,Db t f.2]
theorem Y4{A:IM}{s:A4}{x:V}{v:A2}(a:RelV x v)(b:Ac x=true):∀{xs:A0 V} {us:A0 A2},IT xs us->xs.all Ac=true->∀u∈us,SeqAt.EqAt A s u v (PJ x u)
 | _,_,.nil,_=>λu hu=>by cases hu
 | y::xs,u::us,.cons r t,f=>λc hu=>by
  rw[IB,C_]at f;rcases AV.mp hu with rfl | hu
  .rw[Mm r f.1];exact zFv r a f.1 b
  .exact Y4 a b t f.2 c hu
def inV(x:V)(xs:A0 V):Bool:=xs.any λy=>RE y x
def TD(K:VA)(neg:Bool):R2:=λx y H Q=>∃p a,y = .ref p/\(IR K H p a\/JG K H p a)/\Ac x=true/\a.all Ac=true/\Q (.bl (if neg then !inV x a else inV x a)) H
theorem Uq:LB X (compareOp .In) (TD X.K false):=by
 intro e s σ H x y v u Q I f i h;obtain⟨p,k,rfl,hq,g,b,q⟩:=h;cases i;rcases hq with hq | hq
 .obtain⟨a,r,c,j⟩:=I.list hq;refine SeqAt.in_listAt (PJ x) c.isList (λw d=>Y4 f g r b w (by simpa using d)) ⟨.bl _,H,I,rfl,?_⟩;rw[show a.toArray.any (PJ x)=a.any (PJ x) by simp,Db r b];exact q
 .obtain⟨a,r,c,j⟩:=I.tuple hq;refine SeqAt.in_tupleAt (PJ x) c (λw d=>Y4 f g r b w (by simpa using d)) ⟨.bl _,H,I,rfl,?_⟩;rw[show a.toArray.any (PJ x)=a.any (PJ x) by simp,Db r b];exact q
theorem Jm:LB X (compareOp .NotIn) (TD X.K true):=by
 intro e s σ H x y v u Q I f i h;obtain⟨p,k,rfl,hq,g,b,q⟩:=h;cases i;rcases hq with hq | hq
 .obtain⟨a,r,c,j⟩:=I.list hq;refine SeqAt.notIn_listAt (PJ x) c.isList (λw d=>Y4 f g r b w (by simpa using d)) ⟨.bl _,H,I,rfl,?_⟩;rw[show a.toArray.any (PJ x)=a.any (PJ x) by simp,Db r b];exact q
 .obtain⟨a,r,c,j⟩:=I.tuple hq;refine SeqAt.notIn_tupleAt (PJ x) c (λw d=>Y4 f g r b w (by simpa using d)) ⟨.bl _,H,I,rfl,?_⟩;rw[show a.toArray.any (PJ x)=a.any (PJ x) by simp,Db r b];exact q
theorem Ka:LB X (compareOp .NotIn) (λx y H Q=>∃i j,x = .str i/\y = .str j/\Q (.bl (!(!(Builtin.Str.occurrences j i 0 j.length 1).isEmpty))) H):=by
 intro a s σ H x y v u Q I b c h;obtain⟨i,j,rfl,rfl,q⟩:=h;obtain⟨t,rfl⟩:=b;obtain⟨d,rfl⟩:=c;exact notIn_str ⟨.bl _,H,I,rfl,q⟩
theorem Ij:N0 X (.builtin "len") (λxs H Q=>∃p b,xs = [.ref p]/\(IR X.K H p b\/JG X.K H p b)/\Q (.int b.length) H):=by
 intro f s σ H xs j Q I r h;obtain⟨p,b,rfl,hq,q⟩:=h;obtain⟨u,rfl,g⟩:=o8 r;cases g;have k:=Dm;rcases hq with hq | hq
 .obtain⟨c,d,e,i⟩:=I.list hq;have a:=d.length;exact Calls.call_len_list e.isList (by simp only[AR]<;>lia) ⟨.int b.length,H,I.tok _,⟨s.toks+1,by rw[AR,a]⟩,q⟩
 .obtain⟨c,d,e,i⟩:=I.tuple hq;have a:=d.length;exact len_tuple e (by simp only[AR]<;>lia) ⟨.int b.length,H,I.tok _,⟨s.toks+1,by rw[AR,a]⟩,q⟩
theorem Bl:N0 X (.builtin "len") (λxs H Q=>∃z,xs = [.str z]/\z.length<=sizeLine/\Q (.int z.length) H):=by
 intro a s σ H xs b Q I r h;obtain⟨z,rfl,c,q⟩:=h;obtain⟨u,rfl,t,rfl⟩:=o8 r;have d:=Dm;exact len_str (by lia) ⟨.int z.length,H,I.tok _,⟨_,rfl⟩,q⟩
theorem Ir:N0 X (.type "list") (λxs H Q=>∃p d,xs = [.ref p]/\(IR X.K H p d\/JG X.K H p d)/\∀l,H l=none->Q (.ref l) (II H l (.lst d))):=by
 intro i s σ H xs C Q I r h;obtain⟨p,d,rfl,hq,q⟩:=h;obtain⟨u,rfl,B⟩:=o8 r;cases B;have j:∀(a:A0 A2),IT d a->d.length<=sizeLine->∀(c:IP) (f:Nat),(∀b A,s.heap.get? b=some A->c.get? b=some A) ->
   c.get? s.heap.objs.size=some { cls:=.type "list",dict:=none,data:=.seq a.toArray f,slots:=#[] }->EP X i σ Q (.ref s.heap.objs.size) { s with heap:=c }:=λa g k c f m e =>
  ⟨.ref s.heap.objs.size,_,I.laid (t':=s.toks) m (VD _) (show JA X.prog X.w _ c _ (.lst d)from⟨k,a,f,g,e⟩),rfl,q _ (I.hok.fresh (VD _))⟩
 rcases hq with hq | hq
 .obtain⟨a,g,v,k⟩:=I.list hq;have t:=g.length;obtain⟨o,x,y,n,z⟩:=v.isList;exact call_list_seq p (.inl rfl) x y z (λc f m e=>j a g k c f m e) (by simp only[AR]<;>lia)
 .obtain⟨a,g,v,k⟩:=I.tuple hq;have t:=g.length;obtain⟨o,x,y,n,z⟩:=v;exact call_list_seq p (.inr rfl) x y z (λc f m e=>j a g k c f m e) (by simp only[AR]<;>lia)
def tyV(K:VA)(T:String)(x:V)(H:Hp):Prop:=match x with
 | .str _=>T = "str"
 | .int _=>T = "int"
 | .ref p=>(T = "list"/\∃b,IR K H p b)\/(T = "tuple"/\∃o,K.lookup p=some o/\o.cls = .type "tuple"/\o.dict=none) \/
   (T = "dict"/\((∃a,H p=some (.dK a))\/∃a,H p=some (.dT a)))\/(T = "set"/\∃S n,H p=some (.set S n))
 | _=>False
theorem Ze{f:A0 (A3×Obj)}{σ:St}{H:Hp}{s:A4}{T:String}{x:V}{v:A2}(I:Inv X f σ H s)(r:RelV x v)(ty:tyV X.K T x H) :
  s.TypeIs v T/\∀a,v = .ref a->∃k,s.heap.get? a=some k/\k.dict=none:=by
 cases x with
 | str z =>
  obtain⟨t,rfl⟩:=r;cases(show T = "str" from ty);exact⟨typeIs_str s z t,λ_ e=>nomatch e⟩
 | int i =>
  obtain⟨t,rfl⟩:=r;cases(show T = "int" from ty);exact⟨typeIs_int s i t,λ_ e=>nomatch e⟩
 | ref p =>
  cases r;rcases ty with⟨rfl,w,m⟩ | ⟨rfl,o,b,q,g⟩ | ⟨rfl,b⟩ | ⟨rfl,S,n,b⟩
  .obtain⟨u,_,l,_⟩:=I.list m;refine⟨l.isList.typeIs,λa e=>?_⟩;cases e;obtain⟨o,n,e,c,g,_⟩:=l;exact⟨o,e,g⟩
  .refine⟨⟨o,I.kIn p o b,q⟩,λa e=>?_⟩;cases e;exact⟨o,I.kIn _ o b,g⟩
  .have z:∃o,s.heap.get? p=some o/\o.ExactDict:=by
    rcases b with⟨h,b⟩ | ⟨h,b⟩
    .obtain⟨_,_,_,_,o,_,_,e,d,_⟩:=I.hok p _ b;exact⟨o,e,d⟩
    .obtain⟨_,_,_,_,o,_,_,e,d,_⟩:=I.hok p _ b;exact⟨o,e,d⟩
   obtain⟨o,e,d⟩:=z;refine⟨⟨o,e,d.1⟩,λa j=>?_⟩;cases j;exact⟨o,e,d.2.1⟩
  .obtain⟨o,_,_,_,e,d,_⟩:=I.hok p _ b;refine⟨⟨o,e,d.1⟩,λa j=>?_⟩;cases j;exact⟨o,e,d.2.1⟩
 | _=>exact VB ty
def zIy(K:VA)(T:String)(r:V->A0 V->Hp->VK->Prop)(b:TE):TE:=λσ H Q=>b σ H λx a=>tyV K T x a/\r x [] a Q
def tBM(K:VA)(T:String)(r:V->A0 V->Hp->VK->Prop)(b:TE)(t:TA):TE:=λσ H Q=>b σ H λx a=>tyV K T x a/\t σ a λc d=>r x c d Q
variable{o e:IQ}{es:A0 IQ}{to:TE}{t:TA}{name:Str}{apos cpos:Pos}{T id:String}{r:V->A0 V->Hp->VK->Prop}
theorem zGo(i:PlainAttrs T)(d:Slot T name id)(e:typeOf (.builtin id)=pure (.type "method_descriptor"))(j:MtR X id r)(k:PE X o to)
  (b:attributeBase o name X.env (eval o X.env)=eval o X.env:=by rfl) (c:(apos.endLine == cpos.line)=true:=by rfl):PE X (.Call (.Attribute o name apos) [] [] cpos) (zIy X.K T r to):=by
 intro a s σ H Q I h;refine wpAny_Call_method0_late b c (JK (k a s σ H _ I h) λv l ⟨x,m,f,g,ty,n⟩=>?_);obtain⟨p,q⟩:=Ze f g ty;exact⟨T,id,i,d,e,p,q,Calls.callWith_builtin rfl (PySem.evalArgs_none (j a l σ m x [] v [] Q f g .nil n))⟩
theorem zHc(m:PlainAttrs T)(f:Slot T name id)(i:typeOf (.builtin id)=pure (.type "method_descriptor"))(n:MtR X id r)(p:PE X o to)(q:PA X (e::es) t)
  (c:attributeBase o name X.env (eval o X.env)=eval o X.env:=by rfl)
  (g:((backTo cpos (starEach (e::es) X.env)).all (λx=>!x.1) &&(backToKw cpos (keywordEach [] X.env)).all (λx=>x.1.isSome)
   && decide ((e::es).length +([]:A0 Keyword).length +(if([]:A0 Keyword).isEmpty then 0 else 1)<30))=true:=by rfl)
  (d:(apos.endLine == cpos.line)=true:=by rfl) (u:starEach (e::es) X.env =(false,eval e X.env)::starEach es X.env:=by rfl) (b:(backTo cpos (starEach es X.env)).any (·.1)=false:=by rfl) :
  PE X (.Call (.Attribute o name apos) (e::es) [] cpos) (tBM X.K T r to t):=by
 intro a s σ H Q I h;refine wpAny_Call_method_late c g d rfl (JK (p a s σ H _ I h) λv w ⟨x,y,j,k,ty,z⟩=>?_);obtain⟨A,B⟩:=Ze j k ty;refine⟨T,id,m,f,i,A,B,?_⟩;have l:=q cpos a w σ y _ j z;rw[u]at l⊢;refine Calls.callWith_builtin (by show(false||(backTo cpos (starEach es X.env)).any (·.1))=false;rw[b]<;>rfl) (Calls.evalArgs_plain ?_);exact JK l λC D ⟨E,F,G,J,L⟩=>n a D σ F x E v C Q G k J L
end
def QH(X:Cx)(id:String)(r:V->A0 V->Hp->VK->Prop):Prop :=
 ∀(a:A0 (A3×Obj)) (s:A4) (σ:St) (H:Hp) (x:V) (b:A0 V) (v:A2) (c:A0 A2) (Q:VK),Inv X a σ H s->RelV x v->IT b c->r x b H Q ->
  wpAny (model X.prog X.w) X.A (call (.builtin id) (v::c)) (EP X a σ Q) X.xe s
def IT.one:∀{x:V} {us:A0 A2},IT [x] us->∃u,us = [u]/\RelV x u
 | _,_,.cons r .nil=>⟨_,rfl,r⟩
def IT.two:∀{x y:V} {us:A0 A2},IT [x,y] us->∃u v,us = [u,v]/\RelV x u/\RelV y v
 | _,_,_,.cons r (.cons q .nil)=>⟨_,_,rfl,r,q⟩
def IT.zero:∀{us:A0 A2},IT [] us->us = []
 | _,.nil=>rfl
def IT.dropLast{xs:A0 V}{us:A0 A2}(h:IT xs us):IT xs.dropLast us.dropLast:=by
 induction h with
 | nil=>exact .nil
 | cons r t a =>
  cases t with
  | nil=>exact .nil
  | cons q b=>exact .cons r a
def IT.eraseIdx:∀{xs:A0 V} {us:A0 A2} (i:Nat),IT xs us->IT (xs.eraseIdx i) (us.eraseIdx i)
 | _,_,_,.nil=>.nil
 | _,_,0,.cons _ t=>t
 | _,_,i+1,.cons r t=>.cons r (IT.eraseIdx i t)
def IT.rep{xs:A0 V}{us:A0 A2}(h:IT xs us):∀k:Nat,IT (List.replicate k xs).flatten (List.replicate k us).flatten
 | 0=>.nil
 | k+1=>by
  rw[DD,DD,FO,FO];exact IT.append h (IT.rep h k)
def Pj{α:Type}(l:A0 α):l.eraseIdx (l.length-1)=l.dropLast:=by
 induction l with
 | nil=>rfl
 | cons a r c =>
  cases r with
  | nil=>rfl
  | cons b r =>
   have e:(a::b::r).length-1 =((b::r).length-1)+1:=by
    have d:(a::b::r).length=r.length+2:=rfl;have f:(b::r).length=r.length+1:=rfl;lia
   rw[e,List.eraseIdx_cons_succ,c]
   all_goals rfl
def Jy{α:Type}:∀(l:A0 α) (i:Nat),(l.eraseIdx i).length<=l.length
 | [],_=>VD _
 | _::_,0=>DC _
 | _::r,i+1=>FE (Jy r i)
def Jp(its:A0 A2):∀(k:Nat) (a:A0 A2),
  List.foldl (λb c=>b++c) a.toArray (List.replicate k its.toArray) =(a ++(List.replicate k its).flatten).toArray
 | 0,a=>by simp
 | k+1,a=>by
  have e:a.toArray++its.toArray =(a++its).toArray:=by simp
  have d:(a++its) ++(List.replicate k its).flatten=a ++(List.replicate (k+1) its).flatten:=by
   rw[DD,FO,BH]
  rw[<-d,<-Jp its k (a++its),<-e,DD,HL]
section
variable{X:Cx}{pins:A0 (A3×Obj)}{σ:St}{H:Hp}{s:A4}{l b:A3}{xs ys zs:A0 V}
theorem Inv.lset{its its':A0 A2}{n:Nat}{f:IG A2->IG A2}{t':Nat}(I:Inv X pins σ H s)(a:H l=some (.lst xs))
  (e:s.heap.get? l=some { cls:=.type "list",data:=.seq its.toArray n }) (b:f its.toArray=its'.toArray) (c:IT ys its') (hz:ys.length<=sizeLine) :
  Inv X pins σ (II H l (.lst ys)) { s with heap:=s.heap.update l (Obj.mapSeq f),toks:=t' }:=by
 have q:=PySem.IsL.update e f;rw[b]at q;refine I.write (x:=l) (e:=l) (by rw[a];exact trivial) (.inl rfl) (λh u d g=>(BF s.heap (Obj.mapSeq f) (Ne.symm d)).trans g) ⟨_,q⟩ ?_;exact⟨hz,its',_,c,q⟩
theorem Inv.lnew{its:A0 A2}{t':Nat}(I:Inv X pins σ H s)(a:IT ys its)(hz:ys.length<=sizeLine) :
  Inv X pins σ (II H s.heap.objs.size (.lst ys)) { s with heap:=s.heap.push { cls:=.type "list",data:=.seq its.toArray },toks:=t' } :=
 I.laid (λ_ _ q=>AD _ q) (VD _) ⟨hz,its,0,a,AY _ rfl⟩
theorem Inv.fresh(I:Inv X pins σ H s):H s.heap.objs.size=none:=I.hok.fresh (VD _)
theorem Inv.lstM(I:Inv X pins σ H s)(a:H l=some (.lst xs)):xs.length<=sizeLine/\∃(its:A0 A2) (n:Nat),IT xs its/\xs.length=its.length/\s.heap.get? l=some { cls:=.type "list",data:=.seq its.toArray n }:=by
 obtain⟨z,its,n,r,e⟩:=I.hok l _ a;exact⟨z,its,n,r,r.length,e⟩
theorem Mw{n:Nat}(h:n<=sizeLine):Builtin.List.listTooLong n=false:=by
 unfold Builtin.List.listTooLong;exact AL (by lia)
end
section
variable{X:Cx}
def zAy:V->A0 V->Hp->VK->Prop:=λx b H Q=>∃l a y,x = .ref l/\b = [y]/\H l=some (.lst a)/\a.length<sizeLine/\Q .non (II H l (.lst (a ++ [y])))
theorem U4:QH X "list.append" zAy:=by
 intro b s σ H x i v j Q I d f h;obtain⟨l,k,y,rfl,rfl,c,m,q⟩:=h;cases d;obtain⟨u,rfl,g⟩:=f.one;obtain⟨z,a,n,r,o,e⟩:=I.lstM c;refine call_meets F.slot_list_append ⟨_,e,rfl⟩ F.entry_list_append (F.args_list_append_2 _ _) (PySem.list_append l a.toArray n u (by rw[AR];lia)) ⟨e,?_⟩;refine⟨.non,_,I.lset (its':=a ++ [u]) c e (by simp) (r.append (.cons g .nil)) ?_,rfl,q⟩;rw[AS,GK];lia
def zCg:V->A0 V->Hp->VK->Prop:=λx d H Q=>∃l b a c,x = .ref l/\d = [.ref b]/\H l=some (.lst a)/\H b=some (.lst c)/\a.length+c.length<=sizeLine/\Q .non (II H l (.lst (a++c)))
theorem Sl:QH X "list.extend" zCg:=by
 intro g s σ H x A v B Q I j k h;obtain⟨l,b,C,D,rfl,rfl,i,m,E,q⟩:=h;cases j;obtain⟨u,rfl,o⟩:=k.one;cases o;obtain⟨z,c,n,r,G,e⟩:=I.lstM i;obtain⟨J,a,p,t,w,y⟩:=I.lstM m;have f:c.toArray.size+a.toArray.size<=sizeLine:=by rw[AR,AR];lia
 have d:¬(!c.toArray.isEmpty&&Builtin.List.listTooLong (c.toArray.size+a.toArray.size))=true:=by
  rw[Mw f,HU];exact BE
 refine call_meets F.slot_list_extend ⟨_,e,rfl⟩ F.entry_list_extend (F.args_list_extend_2 _ _)
  (AutoSeq1.list_extend_list_list_0 l c.toArray n b a.toArray p d (by rw[AR];lia) (by lia)) ⟨e,y,?_⟩
 refine⟨.non,_,I.lset (its':=c++a) i e (by simp) (r.append t) ?_,rfl,q⟩;rw[AS];lia
def zJv:V->A0 V->Hp->VK->Prop:=λx b H Q=>∃l a y,x = .ref l/\b = []/\H l=some (.lst a)/\a[a.length-1]?=some y/\Q y (II H l (.lst a.dropLast))
theorem Yv:QH X "list.pop" zJv:=by
 intro d s σ H x p v t Q I g i h;obtain⟨l,w,y,rfl,rfl,f,j,q⟩:=h;cases g;have b:=i.zero;subst b;obtain⟨z,a,n,r,k,e⟩:=I.lstM f;obtain⟨u,m,o⟩:=r.get j;have c:a.toArray[a.toArray.size-1]?=some u:=by
  show a.toArray[a.length-1]?=some u;rw[<-BK,<-k];exact m
 refine call_meets F.slot_list_pop ⟨_,e,rfl⟩ F.entry_list_pop (F.args_list_pop_1 _) (MeetsSeq.list_pop_last l a.toArray n u c (by rw[AR];lia)) ⟨e,?_⟩;refine⟨y,_,I.lset (its':=a.dropLast) f e ?_ r.dropLast ?_,o,q⟩
 .show a.toArray.eraseIdxIfInBounds (a.toArray.size-1)=a.dropLast.toArray;rw[AR,List.eraseIdxIfInBounds_toArray,Pj]
 .rw[List.length_dropLast];lia
def zFs:V->A0 V->Hp->VK->Prop:=λx b H Q=>∃l a i k y,x = .ref l/\b = [.int i]/\H l=some (.lst a)/\-(2^63)<=i/\i<2^63/\seqIndex? i a.length=some k/\a[k]?=some y/\Q y (II H l (.lst (a.eraseIdx k)))
theorem Wd:QH X "list.pop" zFs:=by
 intro c s σ H x E v G Q I f g h;obtain⟨l,j,i,k,y,rfl,rfl,d,m,o,p,A,q⟩:=h;cases f;obtain⟨u,rfl,B⟩:=g.one;obtain⟨t,rfl⟩:=B;obtain⟨z,a,n,r,C,e⟩:=I.lstM d;obtain⟨w,D,b⟩:=r.get A;refine call_meets F.slot_list_pop ⟨_,e,rfl⟩ F.entry_list_pop (F.args_list_pop_2 _ _)
  (MeetsSeq.list_pop_at l a.toArray n i t k w (fitsIndex_both m o) (by rw[AR,<-C];exact p) (by rw[<-BK];exact D) (by rw[AR];lia)) ⟨e,?_⟩
 refine⟨y,_,I.lset (its':=a.eraseIdx k) d e ?_ (r.eraseIdx k) ?_,b,q⟩
 .show a.toArray.eraseIdxIfInBounds k =(a.eraseIdx k).toArray;rw[List.eraseIdxIfInBounds_toArray]
 .have:=Jy j k;lia
def zJn:R2:=λx y H Q=>∃l b a c,x = .ref l/\y = .ref b/\H l=some (.lst a)/\H b=some (.lst c)/\a.length+c.length<=sizeLine/\∀p,H p=none->Q (.ref p) (II H p (.lst (a++c)))
theorem Ap:LB X (binaryOp .Add) zJn:=by
 intro d s σ H x y v u Q I f g h;obtain⟨l,b,t,w,rfl,rfl,i,j,A,q⟩:=h;cases f;cases g;obtain⟨z,c,n,r,B,e⟩:=I.lstM i;obtain⟨C,a,D,k,m,o⟩:=I.lstM j;refine PySem.P.add_list e o ?_ (by rw[AR,AR];lia);have p:c.toArray++a.toArray =(c++a).toArray:=by simp
 rw[p];exact⟨.ref _,_,I.lnew (t':=s.toks) (r.append k) (by rw[AS];lia),rfl,q _ I.fresh⟩
def zJc:R2:=λx y H Q=>∃l k a,x = .ref l/\y = .int k/\H l=some (.lst a)/\-(2^63)<=k/\k<2^63/\a.length*k.toNat<=sizeLine /\
 ∀p,H p=none->Q (.ref p) (II H p (.lst (List.replicate k.toNat a).flatten))
theorem Zx{α:Type}(xs:A0 α)(k:Nat):(List.replicate k xs).flatten.length=k*xs.length:=by
 induction k with
 | zero=>simp
 | succ k a=>rw[DD,FO,AS,a,Nat.succ_mul,Nat.add_comm]
theorem Yy:LB X (binaryOp .Mult) zJc:=by
 intro p s σ H x y v u Q I A B h;obtain⟨l,k,L,rfl,rfl,C,D,E,w,q⟩:=h;cases A;obtain⟨t,rfl⟩:=B;obtain⟨z,b,n,r,G,e⟩:=I.lstM C;have d:b.toArray.size*k.toNat<=sizeLine:=by rw[AR,<-G];exact w
 have f:¬b.toArray.size*k.toNat >(2^63-1) / 8:=by
  have:(sizeLine:Nat)<=(2^63-1) / 8:=by decide
  lia
 have g:¬(!Builtin.List.listFitsIndex k)=true:=by
  rw[fitsIndex_both D E];exact BE
 have c:¬Builtin.List.listTooLong (b.toArray.size*k.toNat)=true:=by
  rw[Mw d];exact BE
 have i:List.foldl (λj o=>j++o) #[] (List.replicate (if b.toArray.isEmpty=true then 0 else k.toNat) b.toArray) =(List.replicate k.toNat b).flatten.toArray:=by
  have J:∀m:Nat,List.foldl (λj o=>j++o) #[] (List.replicate m b.toArray) =(List.replicate m b).flatten.toArray:=λm=>by
   have:=Jp b m [];rw[GB]at this;exact this
  rw[J];cases b with
  | nil=>simp
  | cons a M=>rw[AI (by simp)]
 refine wpAny_binaryOp_repeat_ref (T := "list") (U := "int") (by decide) ⟨_,e,rfl⟩ (λK=>typeIs_int K k t) noFill_list_mul F.fills_int_mul F.slot_int_rmul repeat_list F.slot_int_index.lookup
  (call_meets F.slot_int_rmul (typeIs_int s k t) F.entry_int_rmul (F.args_int_rmul_2 _ _) (int___rmul___int_list k t l b.toArray n)
   ⟨e,rfl,⟨_,e,rfl⟩,call_meets F.slot_list_mul ⟨_,e,rfl⟩ F.entry_list_mul (F.args_list_mul_2 _ _) (AutoListH.list___mul___list_int_3 l b.toArray n k t g f c) ⟨e,?_⟩⟩)
 rw[i];exact⟨.ref _,_,I.lnew (t':=s.toks) (r.rep k.toNat) (by rw[Zx,Nat.mul_comm];exact w),rfl,q _ I.fresh⟩
end
section
variable{Z:Type}[DecidableEq Z]
def Z0(kvs:A0 (Z×V))(k:Z):A5 V:=(kvs.find? λa=>decide (a.1=k)).map (·.2)
def Cl(kvs:A0 (Z×V))(k:Z)(v:V):A0 (Z×V) :=
 if(kvs.any λa=>decide (a.1=k))=true then kvs.map (λa=>if a.1=k then(a.1,v)else a)else kvs ++ [(k,v)]
theorem S7{p:Z×V}{r:A0 (Z×V)}{k:Z}(e:p.1=k):Z0 (p::r) k=some p.2:=by simp[Z0,GD,e]
theorem T5{p:Z×V}{r:A0 (Z×V)}{k:Z}(e:¬p.1=k):Z0 (p::r) k=Z0 r k:=by simp[Z0,GD,e]
theorem Ak(k:Z):∀kvs:A0 (Z×V),(kvs.any λa=>decide (a.1=k)) =(Z0 kvs k).isSome
 | []=>rfl
 | p::r=>by
  rw[GH];by_cases e:p.1=k
  .simp only[S7 e,AQ e,Bool.true_or,Option.isSome_some]
  .rw[T5 e,AL e,Bool.false_or];exact Ak k r
theorem Nx(k j:Z)(y:V):∀kvs:A0 (Z×V),Z0 (kvs.map λa=>if a.1=k then(a.1,y)else a) j =(Z0 kvs j).map λx=>if j=k then y else x
 | []=>rfl
 | p::r=>by
  have b:=Nx k j y r;rw[BM];by_cases h:p.1=k
  .rw[AO h];by_cases e:p.1=j
   .rw[S7 (p:=(p.1,y)) e,S7 e,HM,AO (e.symm.trans h)]
   .rw[T5 (p:=(p.1,y)) e,T5 e,b]
  .rw[AI h];by_cases e:p.1=j
   .rw[S7 (p:=p) e,S7 e,HM,AI (λz=>h (e.trans z))]
   .rw[T5 (p:=p) e,T5 e,b]
theorem Hj(k j:Z)(y:V):∀kvs:A0 (Z×V),Z0 kvs k=none->Z0 (kvs ++ [(k,y)]) j=if j=k then some y else Z0 kvs j
 | [],_=>by
  by_cases e:k=j
  .rw[AO e.symm];exact S7 (p:=(k,y)) e
  .rw[AI (λz=>e z.symm)];exact T5 (p:=(k,y)) e
 | p::r,a=>by
  rw[List.cons_append];have b:¬p.1=k:=λz=>by rw[S7 z]at a;cases a
  rw[T5 b]at a;have c:=Hj k j y r a;by_cases e:p.1=j
  .rw[S7 e,S7 e,AI (λz=>b (e.trans z))]
  .rw[T5 e,T5 e,c]
theorem Xn(kvs:A0 (Z×V))(k j:Z)(y:V):Z0 (Cl kvs k y) j=if j=k then some y else Z0 kvs j:=by
 unfold Cl;by_cases a:(kvs.any λb=>decide (b.1=k))=true
 .rw[AO a,Nx];rw[Ak]at a;by_cases e:j=k
  .obtain⟨x,c⟩:=FP.mp a;rw[AO e,e,c,HM,AO rfl]
  .rw[AI e];cases Z0 kvs j with
   | none=>rfl
   | some x=>rw[HM,AI e]
 .rw[AI a];refine Hj k j y kvs ?_;rw[Ak]at a;cases q:Z0 kvs k with
  | none=>rfl
  | some x=>rw[q]at a;exact(a rfl).elim
theorem Y2(kvs:A0 (Z×V))(k:Z)(v:V):(Cl kvs k v).length<=kvs.length+1:=by
 unfold Cl;split
 .rw[AB];lia
 .rw[AS,BQ,List.length_nil];lia
theorem Me{kvs:A0 (Z×V)}{k:Z}(v:V)(h:Z0 kvs k=none):Cl kvs k v=kvs ++ [(k,v)]:=by
 unfold Cl;rw[Ak,h];exact AI (by decide)
theorem MK.isSome_eq{o:A5 V}{u:A5 A2}(r:MK o u):o.isSome=u.isSome:=by
 cases o with
 | none=>cases u with
  | none=>rfl
  | some _=>exact(show False from r).elim
 | some _=>cases u with
  | none=>exact(show False from r).elim
  | some _=>rfl
theorem MK.getD{o:A5 V}{u:A5 A2}{d:V}{d':A2}(r:MK o u)(a:RelV d d'):RelV (o.getD d) (u.getD d'):=by
 cases o with
 | none=>cases u with
  | none=>exact a
  | some _=>exact(show False from r).elim
 | some _=>cases u with
  | none=>exact(show False from r).elim
  | some _=>exact r
theorem KV.val{kvs:A0 (Z×V)}{vs:A0 (Z×A2)}(r:KV kvs vs)(k:Z):MK (Z0 kvs k) (valueAt vs k):=by
 unfold KV at r
 induction r with
 | nil=>exact VC
 | @cons p q ps a h t f =>
  obtain⟨d,g⟩:=h;by_cases e:p.1=k
  .have c:q.1=k:=d.symm.trans e;have b:valueAt (q::a) k=some q.2:=by simp[valueAt,GD,c]
   rw[S7 e,b];exact g
  .have c:¬q.1=k:=λz=>e (d.trans z);have b:valueAt (q::a) k=valueAt a k:=by simp[valueAt,GD,c]
   rw[T5 e,b];exact f
theorem KV.any{kvs:A0 (Z×V)}{vs:A0 (Z×A2)}(r:KV kvs vs)(k:Z):(kvs.any λa=>decide (a.1=k))=vs.any λa=>decide (a.1=k):=by
 unfold KV at r
 induction r with
 | nil=>rfl
 | cons h t b=>rw[GH,GH,b,h.1]
theorem KV.repl{kvs:A0 (Z×V)}{vs:A0 (Z×A2)}(r:KV kvs vs)(k:Z){y:V}{u:A2}(c:RelV y u) :
  KV (kvs.map λa=>if a.1=k then(a.1,y)else a) (vs.map λa=>if a.1=k then(a.1,u)else a):=by
 unfold KV at r⊢
 induction r with
 | nil=>exact .nil
 | @cons p q ps g h t d =>
  rw[BM,BM];refine .cons ?_ d;obtain⟨b,f⟩:=h;by_cases e:p.1=k
  .rw[AO e,AO (b.symm.trans e)];exact⟨b,c⟩
  .rw[AI e,AI (λz=>e (b.trans z))];exact⟨b,f⟩
theorem KV.put{kvs:A0 (Z×V)}{vs:A0 (Z×A2)}(r:KV kvs vs)(k:Z){y:V}{u:A2}(a:RelV y u):KV (Cl kvs k y) (stored vs k u):=by
 unfold Cl stored;rw[r.any k];by_cases e:(vs.any λb=>decide (b.1=k))=true
 .rw[AO e,AO e];exact r.repl k a
 .rw[AI e,AI e];exact Paired.snoc r ⟨rfl,a⟩
theorem KV.length{kvs:A0 (Z×V)}{vs:A0 (Z×A2)}(r:KV kvs vs):kvs.length=vs.length:=Paired.length r
end
def Lj{P:IE}{w:IJ}{k:JB}{u:A2}(r:RelV (kV k) u):(E5 P w).is k u=true:=by
 cases k with
 | inl i=>obtain⟨t,e⟩:=(show ∃t,u=Value.int i t from r);subst e;exact Lf P w i t
 | inr x=>obtain⟨t,e⟩:=(show ∃t,u=Value.str x t from r);subst e;exact Lh P w x t
def Ix{P:IE}{w:IJ}:∀{a:A0 JB} {us:A0 A2},IT (a.map kV) us->ItemsAre (E5 P w) a us
 | [],_,r=>by rw[F_]at r;cases r;exact .nil
 | k::a,_,r=>by
  rw[BM]at r;cases r with
  | cons h t=>exact .cons (Lj h) (Ix t)
abbrev KT(H:Hp):A0 (A0 JB×V)->A0 (A0 JB×A3×A2)->Prop:=Paired λp q=>p.1=q.1/\H q.2.1=some (.tup (p.1.map kV))/\RelV p.2 q.2.2
def KT.val{H:Hp}{kvs:A0 (A0 JB×V)}{xs:A0 (A0 JB×A3×A2)}(r:KT H kvs xs)(k:A0 JB):MK (Z0 kvs k) ((atKey xs k).map (·.2)):=by
 induction r with
 | nil=>exact VC
 | @cons p q ps a h t f =>
  obtain⟨d,_,g⟩:=h;by_cases e:p.1=k
  .have c:q.1=k:=d.symm.trans e;have b:atKey (q::a) k=some q.2:=by simp[atKey,GD,c]
   rw[S7 e,b];exact g
  .have c:¬q.1=k:=λz=>e (d.trans z);have b:atKey (q::a) k=atKey a k:=by simp[atKey,GD,c]
   rw[T5 e,b];exact f
section
variable{P:IE}{w:IJ}{H:Hp}{h:IP}{a:A3}
theorem zFc{u:HO}(b:NP P w H h)(e:Rd H a u):JA P w H h a u:=e.ok b
theorem Oe{kvs:A0 (JB×V)}(b:NP P w H h)(e:Rd H a (.dK kvs)):kvs.length<=sizeLine/\(a == sysModules)=false/\∃vs,KV kvs vs/\h.DictOf (E5 P w) a vs :=
 show JA P w H h a (.dK kvs)from zFc b e
theorem Xb{kvs:A0 (JB×V)}(b:NP P w H h)(e:H a=some (.dK kvs)):kvs.length<=sizeLine/\(a == sysModules)=false/\∃vs,KV kvs vs/\h.DictOf (E5 P w) a vs:=Oe b (.inl e)
theorem Bo{b:A0 JB}(d:NP P w H h)(e:H a=some (.tup (b.map kV))):(tupleKind (E5 P w)).is h b a:=by
 obtain⟨_,c,r,o,f,g,n,i⟩:=(show JA P w H h a (.tup (b.map kV))from d a _ e);exact⟨o,c.toArray,n,f,g,i,by simpa using Ix r⟩
theorem Rq{kvs:A0 (A0 JB×V)}(c:NP P w H h)(e:Rd H a (.dT kvs)):kvs.length<=sizeLine/\(a == sysModules)=false /\
  ∃xs,KT H kvs xs/\h.DictOfH (tupleKind (E5 P w)) a xs:=by
 obtain⟨z,y,xs,r,o,f,g,i,j,k,n,s⟩:=(show JA P w H h a (.dT kvs)from zFc c e);refine⟨z,y,xs,r,o,f,g,i,j,k,n,λx hx=>?_,s⟩;have b:∀{l:A0 (A0 JB×V)} {m:A0 (A0 JB×A3×A2)},KT H l m->∀x∈m,(tupleKind (E5 P w)).is h x.1 x.2.1:=by
  intro l m q
  induction q with
  | nil=>intro x hx;exact nomatch hx
  | @cons p q ps v d t u =>
   intro x hx;rcases AV.mp hx with e | hx
   .subst e;exact Bo c (by rw[<-d.1];exact d.2.1)
   .exact u x hx
 exact b r x hx
end
def LW(H:Hp)(a:A3)(y:V)(r:A5 V):Prop :=
 (∃c k,Rd H a (.dK c)/\y=kV k/\r=Z0 c k)\/∃c k b,Rd H a (.dT c)/\y = .ref b/\H b=some (.tup (k.map kV))/\r=Z0 c k
def LW.k{H:Hp}{a:A3}{kvs:A0 (JB×V)}{k:JB}(e:H a=some (.dK kvs)):LW H a (kV k) (Z0 kvs k):=.inl ⟨kvs,k,.inl e,rfl,rfl⟩
section
variable{X:Cx}{pins:A0 (A3×Obj)}{σ:St}{H:Hp}{s:A4}{a:A3}{y v:V}{u r:A2}{o:A5 V}{A:IM}{E:A2->A4->Prop}
theorem Inv.big(I:Inv X pins σ H s):sysModules<s.heap.objs.size:=by
 have h:mainGlobals<s.heap.objs.size:=(I.mod.glob.keeps I.bk).lt;exact Nat.lt_trans (by decide) h
theorem Uw{Q:A2->A4->Prop}(x:A.units+1<cLine)(I:Inv X pins σ H s)(g:LW H a y (some v))(r:RelV y u)(h:∀f t,Inv X pins σ H t->RelV v f->Q f t) :
  wpAny (model X.prog X.w) A (getItem (.ref a) u) Q E s:=by
 rcases g with⟨i,k,e,j,l⟩ | ⟨i,k,b,e,j,B,l⟩
 .subst j;obtain⟨z,C,D,c,m⟩:=Oe I.hok e;obtain⟨f,n,d⟩:=MK.some_of (v:=v) (o:=valueAt D k) (by rw[l];exact c.val k);exact wpAny_getItem_of (Lj r) m.mapOf n (h f _ (I.tok _) d)
 .subst j;cases(show u=Value.ref b from r);obtain⟨z,C,F,c,m⟩:=Rq I.hok e;obtain⟨f,n,d⟩:=MK.some_of (v:=v) (o:=(atKey F k).map (·.2)) (by rw[l];exact c.val k);obtain⟨p,G,q⟩:=BG.mp n;refine wpAny_getItem_heap (tupleKind_room_in1 x) (Bo I.hok B) m G ?_;rw[q];exact h f _ (I.tok _) d
theorem zAw{Q:A2->A4->Prop}(p:A.units+1<cLine)(I:Inv X pins σ H s)(g:LW H a y o)(m:RelV y u)(h:∀n,Inv X pins σ H n->Q (.bool (!o.isSome)) n) :
  wpAny (model X.prog X.w) A (compareOp .NotIn u (.ref a)) Q E s:=by
 rcases g with⟨d,k,e,f,l⟩ | ⟨d,k,b,e,f,r,l⟩
 .subst f;obtain⟨z,i,t,c,j⟩:=Oe I.hok e;refine wpAny_notIn_of (Lj m) i j.mapOf ?_;rw[<-(c.val k).isSome_eq,<-l];exact h _ (I.tok _)
 .subst f;cases(show u=Value.ref b from m);obtain⟨z,i,v,c,j⟩:=Rq I.hok e;refine wpAny_notIn_heap (tupleKind_room_in1 p) (Bo I.hok r) i j ?_;have q:=(c.val k).isSome_eq;rw[Option.isSome_map]at q;rw[<-q,<-l];exact h _ (I.tok _)
theorem Qi{h':IP}{t':Nat}{c:HO}(I:Inv X pins σ H s)(f:UR (H a))(g:Heap.SameBut a s.heap h')(h:∃q,h'.get? a=some q)(d:JA X.prog X.w (II H a c) h' a c) :
  Inv X pins σ (II H a c) { s with heap:=h',toks:=t' } :=
 I.write (x:=a) (e:=a) f (.inl rfl) (λb q i z=>(g.2 b i).trans z) h d
theorem Qw{P:IE}{w:IJ}{H':Hp}{h':IP}{kvs:A0 (JB×V)}{vs:A0 (JB×A2)}(z:kvs.length<=sizeLine)(c:(a == sysModules)=false)(b:KV kvs vs)(dd:h'.DictOf (E5 P w) a vs) :
  JA P w H' h' a (.dK kvs):=⟨z,c,vs,b,dd⟩
end
def zIq(i:IQ):Prop:=∀a b,subscripted i false a b=operate [a,b] (getItem a b)
def zBu{prog:IE}{w:IJ}{A:IM}{E:A2->A4->Prop}{s:A4}{c:QU}{b a:IQ}{e:Pos}{T id:String}{Q:A2->A4->Prop}
  (g:typeLookup (.type T) "__getitem__" = pure (some (.builtin id))) (j:zIq a)
  (h:wpAny (model prog w) A (eval b c) (λo i1=>wpAny (model prog w) A (eval a c) (λi q0=>q0.TypeIs o T/\wpAny (model prog w) A (getItem o i) Q E q0) E i1) E s) :
  wpAny (model prog w) A (eval (.Subscript b a e) c) Q E s:=by
 refine Subscript_ (BS h (λo i1 n0=>BS n0 (λi q0 h₂=>?_) λ_ _ x=>x) λ_ _ x=>x);obtain⟨f,h₂⟩:=h₂;unfold subscriptTail;refine AA ?_;rw[getitemInPython_of_ne f.not_modules];refine AA (GE f g ?_);have d:wpAny (model prog w) A (subscripted a false o i) (λr s₃=>wpAny (model prog w) A (letTemporaryGo b o r >>= λ_=>pure r) Q E s₃) E q0:=by
  rw[j o i];exact wpAny_operating (BS h₂ (λr s₃ h₃=>AA (wpAny_letTemporaryGo (AC h₃))) λ_ _ x=>x)
 first
  | exact AC (AA d)
  | exact AA (AC (AA d))
  | exact AA d
def Ke{X:Cx}{c:A0 (A3×Obj)}{σ:St}{H:Hp}{s:A4}{a:A3}{y:V}{o:A5 V}(I:Inv X c σ H s)(g:LW H a y o):s.TypeIs (.ref a) "dict":=by
 rcases g with⟨d,k,e,_,_⟩ | ⟨d,k,b,e,_,_,_⟩
 .obtain⟨_,_,h,_,f⟩:=Oe I.hok e;exact f.typeIs
 .obtain⟨_,_,i,_,f⟩:=Rq I.hok e;exact f.typeIs
def zEb(c ty:TE):TE:=λσ H Q=>c σ H λx d=>ty σ d λy b=>∃a v,x = .ref a/\LW b a y (some v)/\Q v b
def zAb(ty c:TE):TE:=λσ H Q=>ty σ H λy d=>c σ d λx b=>∃a o,x = .ref a/\LW b a y o/\Q (.bl (!o.isSome)) b
section
variable{X:Cx}{o i e value:IQ}{pos pos' tpos:Pos}{td ty tv:TE}
theorem V7(e:X.A.units+1<cLine)(f:PE X o td)(hi:PE X i ty)(j:zIq i):PE X (.Subscript o i pos) (zEb td ty):=by
 intro b s σ H Q I h;refine zBu PySem.F.slot_dict_getitem.lookup j (JK (f b s σ H _ I h) λu k ⟨x,l,m,n,p⟩=>JK (hi b k σ l _ m p) λB C ⟨y,q,d,r,a,v,t,g,w⟩=>?_);subst t;obtain rfl:u=Value.ref a:=n;exact⟨Ke d g,Uw e d g r λD E z c=>⟨v,q,z,c,w⟩⟩
theorem Tg(c:X.A.units+1<cLine)(hi:PE X i ty)(d:PE X o td):PC X .NotIn i o (zAb ty td):=by
 intro b s σ H Q I h;refine JK (hi b s σ H _ I h) λw e ⟨y,f,j,k,l⟩=>JK (d b e σ f _ j l) λu z ⟨x,m,n,p,a,q,r,g,t⟩=>?_;subst r;obtain rfl:u=Value.ref a:=p;exact zAw c n g k λB v=>⟨.bl (!q.isSome),m,v,rfl,t⟩
end
def Hh{P:IE}{w:IJ}{H:Hp}(h:IP)(a:sysModules<h.objs.size):JA P w H (h.push { cls:=.type "dict",data:=.dict #[] }) h.objs.size (.dK []) :=
 ⟨BZ _,beq_eq_false_iff_ne.mpr (Ne.symm (BB a)),[],.nil,Heap.DictOf.new h⟩
def zGl:TE:=λ_ H Q=>∀p,H p=none->Q (.ref p) (II H p (.dK []))
section
variable{X:Cx}{pos:Pos}
theorem Nm:PE X (.Dict [] [] pos) zGl:=λb s σ H Q I h =>
 wpAny_Dict_empty ⟨.ref s.heap.objs.size,_,I.laid (a:=s.heap.objs.size) (o:=.dK []) (t':=s.toks) (λ_ _ q=>AD _ q) (VD _) (Hh s.heap I.big),rfl,h _ (I.hok.fresh (VD _))⟩
end
structure M1(X:Cx)(o:IQ)(m:Str)(apos:Pos)(e:IQ)(cpos:Pos):Prop where
 base:attributeBase o m X.env (eval o X.env)=eval o X.env
 few:((backTo cpos (starEach [e] X.env)).all (λx=>!x.1) &&(backToKw cpos (keywordEach [] X.env)).all (λx=>x.1.isSome)
  && decide (([e]:A0 IQ).length +([]:A0 Keyword).length +(if([]:A0 Keyword).isEmpty then 0 else 1)<30))=true
 line:(apos.endLine == cpos.line)=true
 trees:backTo cpos (starEach [e] X.env) = [(false,eval e X.env)]
def IsD(H:Hp)(a:A3):Prop:=(∃b,Rd H a (.dK b))\/∃b,Rd H a (.dT b)
def Zr{X:Cx}{f:A0 (A3×Obj)}{σ:St}{H:Hp}{s:A4}{a:A3}(I:Inv X f σ H s)(d:IsD H a) :
  s.TypeIs (.ref a) "dict"/\(∀b,Value.ref a = .ref b->∃c,s.heap.get? b=some c/\c.dict=none)/\(a == sysModules)=false:=by
 rcases d with⟨h,e⟩ | ⟨h,e⟩
 .obtain⟨_,i,l,_,g⟩:=Oe I.hok e;refine⟨g.typeIs,λb q=>?_,i⟩;cases q;obtain⟨c,_,_,j,k,_⟩:=g;exact⟨c,j,k.2.1⟩
 .obtain⟨_,i,m,_,g⟩:=Rq I.hok e;refine⟨g.typeIs,λb q=>?_,i⟩;cases q;obtain⟨c,_,_,j,k,_⟩:=g;exact⟨c,j,k.2.1⟩
section
variable{X:Cx}{pins:A0 (A3×Obj)}{σ:St}{H:Hp}{s:A4}{a:A3}{y d:V}{u r:A2}{o:A5 V}{A:IM}{E:A2->A4->Prop}
theorem zFz{Q:A2->A4->Prop}(q:A.units+1<cLine)(I:Inv X pins σ H s)(g:LW H a y o)(m:RelV y u)(h:∀n p,Inv X pins σ H p->RelV (o.getD .non) n->Q n p) :
  wpAny (model X.prog X.w) A (call (.builtin "dict.get") [.ref a,u]) Q E s:=by
 rcases g with⟨f,k,e,i,l⟩ | ⟨f,k,b,e,i,r,l⟩
 .subst i;obtain⟨z,j,v,c,d⟩:=Oe I.hok e;refine call_meetsIn PySem.F.slot_dict_get d.typeIs PySem.F.entry_dict_get (PySem.F.args_dict_get_2 _ _) (meets_dict_get (E5 X.prog X.w) a (Lj m) j) ⟨_,d.mapOf,h _ _ (I.tok _) ?_⟩;rw[l];exact(c.val k).getD rfl
 .subst i;cases(show u=Value.ref b from m);obtain⟨z,j,t,c,d⟩:=Rq I.hok e;refine call_meetsIn PySem.F.slot_dict_get d.typeIs PySem.F.entry_dict_get (PySem.F.args_dict_get_2 _ _) (meetsH_dict_get (tupleKind (E5 X.prog X.w)) a b j) ⟨tupleKind_room_in1 q,k,t,Bo I.hok r,d,h _ _ (I.tok _) ?_⟩;rw[l];exact(c.val k).getD rfl
end
def Se(d ty:TE):TE:=λσ H Q=>d σ H λx b=>∃a,x = .ref a/\IsD b a/\ty σ b λy c=>∃o,LW c a y o/\Q (o.getD .non) c
section
variable{X:Cx}{o e f:IQ}{apos cpos:Pos}{td ty tx:TE}
theorem Co(i:X.A.units+1<cLine)(j:PE X o td)(k:PE X e ty)(m:M1 X o "get" apos e cpos):PE X (.Call (.Attribute o "get" apos) [e] [] cpos) (Se td ty):=by
 intro b s σ H Q I h;refine wpAny_Call_method m.base m.few m.line PySem.F.plainAttrs_dict PySem.F.slot_dict_get PySem.F.type_dict_get (JK (j b s σ H _ I h) λu l ⟨x,n,f,p,a,q,d,r⟩=>?_);subst q;obtain rfl:u=Value.ref a:=p;obtain⟨t,v,_⟩:=Zr f d;refine⟨t,v,?_⟩;rw[m.trees];refine Calls.callWith_builtin rfl (Calls.evalArgs_plain (Calls.spliced_cons (JK (k b l σ n _ f r) λE G ⟨y,w,z,B,J,g,C⟩=>Calls.spliced_nil ?_)));exact zFz i z g B λK L D c=>⟨_,w,D,c,C⟩
end
end L2
namespace Att
open PySem PySem.W PySem.Calls PyProof.Rows
def Df{P:Params}{h:IP}:∀(ns:A0 Int) (vs:A0 A2),WellAll P h vs (ns.map WData.int)->IntsAre vs ns:=by
 intro ns
 induction ns with
 | nil =>
  intro vs w;rw[F_]at w;cases w;exact .nil
 | cons n ns c =>
  intro vs w;rw[BM]at w;cases w with
  | cons a b =>
   cases a;exact .cons _ _ (c _ b)
def Rw{l:OpenLaw}{n:Nat}(o:l.most=some n){P:Params}{h:IP}{args:A0 WData}{b:A0 A2}
  (c:l.row.toRowW.claim.pre args=true) (j:WellAll P h b args) :
  ∃a vs ns,b = [Value.ref a]/\args = [WData.list (ns.map WData.int)]/\h.get? a=some { cls:=.type "list",data:=.seq vs.toArray }/\IntsAre vs ns/\ns.length<=n:=by
 have k:WShape.hasAll [] args [.list .int]=true:=(pre_splitW c).1;have m:l.pre.holds [] { args:=args }=true:=(pre_splitW c).2;obtain⟨d,r,rfl,p,s⟩:=hasAllW_cons k;obtain rfl:=hasAllW_nil s;obtain⟨y,rfl,t⟩:=hasW_list p;obtain⟨ns,rfl⟩:=items_int t;have e:ns.length<=n:=by
  unfold OpenLaw.pre at m;have g:(WTm.not (.lt (.lit (.int (n:Int))) (.len (.arg 0)))).holds [] { args:=[.list (ns.map .int)] }=true:=by
   have g:=(holds_andW m).1;rw[o]at g;exact g
  have i:=condW_of g (w_not (w_lt w_lit (w_len_list (w_arg rfl))));rw[AB]at i;refine Nat.le_of_not_lt λq=>?_;have u:(n:Int) <((ns.length:Nat):Int):=by lia
  first
   | (rw[AQ u]at i;exact absurd i (by decide))
   | (simp at i;lia)
 cases j with
 | cons v w =>
  cases w;cases v with
  | list x f=>exact⟨_,_,ns,rfl,rfl,x,Df ns _ f,e⟩
def Vi(l:OpenLaw)(args:A0 WData):l.row.toRowW.claim.post args (.bool true) args=true :=
 postW_of (r:=l.row.toRowW) (X:=(true == true))
  (show WShape.has [] (.bool true) .bool=true by first | rfl | decide | simp[WShape.has,WShape.arms,WShape.armsAll])
  (show(WTm.eq .res (.lit (.bool true))).value [] { args:=args,res:=some (.bool true),after:=args }=some (.bool (true == true))from w_eq_bool (w_res rfl) w_lit) rfl
def QN{l:OpenLaw}{n:Nat}{q:IE}{b:A0 Str}{A:(Str->A5 A2)->IP->Prop}{B:IJ->IP->Prop}{d:DefRec}
  (F:l.most=some n) (t:d.params.defaults = [])
  (call:∀(w:IJ) (s₀ i1:A4) (k u:Str->A5 A2) (g:A3) (o:Obj) (v m c:A2) (a:A3) (vs:A0 A2) (ns:A0 Int),
   Ground q b [] A w s₀ k u i1.heap->B w i1.heap ->
   i1.heap.get? g=some o->o.data = .func (docDef d.name d.params d.body d.scope v m c)->i1.heap.CodeRec m d.name->k d.name=some (.ref g) ->
   i1.heap.get? a=some { cls:=.type "list",data:=.seq vs.toArray }->IntsAre vs ns->ns.length<=n->i1.gens = #[] ->
   codeAny (model l.prog w) callerA (.call (.ref g) ⟨[.ref a],[]⟩) (λr p=>r = .ok (.ret (.bool true))/\OldK i1.heap p.heap/\p.os=i1.os/\AllBare p.gens) i1) :
  WalkO q b A B l.row.toRowW d [] (λf vs=>PySem.call f vs):=by
 intro w s₀ i1 k u G Y g o v m c H kV I J x C y K args D S h E L z M;obtain rfl:H = .none:=Dflts.none C t;obtain rfl:kV = .none:=Dflts.noKw C;obtain⟨a,vs,ns,rfl,rfl,i,e,j⟩:=Rw F h z;refine enter_call (FC (call w s₀ i1 k u g o v m c a vs ns G Y I (fd_plain J) x y i e j K) λr p N=>?_);obtain⟨rfl,O,P,Q⟩:=N;exact⟨.inl ⟨.bool true,.bool true,[],rfl,λ_=>rfl,.bool true,Vi l _,λ_=>⟨List.Pairwise.nil,λ_ R=>(nomatch R)⟩⟩,O,P,Q⟩
end Att
namespace L2
open PySem PySem.Spec PyProof.Rows
def Ji:∀{vs:A0 A2} {ns:A0 Int},IntsAre vs ns->IT (ns.map V.int) vs
 | _,_,.nil=>.nil
 | _,_,.cons n t h=>.cons ⟨t,rfl⟩ (Ji h)
def zHx(H:Hp):Prop:=∀b,H b=none\/∃o a,H b=some (.frz o (.lst a))
def Xy{P:IE}{w:IJ}{K:VA}{t N:Str->A5 A2}{CX:RS}{k:Nat}{O a:A3}{Y:I7}{x:Str}{sp:Sp}{i1:A4}{vs:A0 A2}{ns:A0 Int}
  (Z:K.In i1.heap) (y:i1.heap.Ns mainGlobals t) (f:i1.heap.Ns builtinsNs N) (Q:∀x:Str,x≠ "__name__"->N x=bootBuiltins x) (A:i1.heap.NoLimit) (hg:i1.gens = #[])
  (M:i1.heap.get? a=some { cls:=.type "list",data:=.seq vs.toArray }) (hi:IntsAre vs ns) (hl:ns.length<=sizeLine) (hr:KD k callerA)
  (F:∀g:IP,K.In g->g.Ns mainGlobals t->IU P w K t g CX k O Y [x] sp) (p:∀(s:A4) (u:A2),BindsTo s Y ⟨[u],[]⟩ [(x,u)])
  (R:∀H:Hp,zHx H->IR K H a (ns.map V.int)->sp [.ref a] H (λv _=>v = .bl true) λ_ _ _=>False)
  (S:∀H e i,CX [] H i1 (λ_ _ _=>False) e i->False) :
  codeAny (model P w) callerA (.call (.ref O) ⟨[.ref a],[]⟩) (λr i=>r = .ok (.ret (.bool true))/\OldK i1.heap i.heap/\i.os=i1.os/\AllBare i.gens) i1:=by
 have rv:=Ji hi;have B:=hi.length;have l:∀H:Hp,zHx H->IR K H a (ns.map V.int)->NP P w H i1.heap->(∀b,H b≠none->b=a)->(H a≠none->K.lookup a=none) ->
   codeAny (model P w) callerA (.call (.ref O) ⟨[.ref a],[]⟩) (λr i=>r = .ok (.ret (.bool true))/\OldK i1.heap i.heap/\i.os=i1.os/\AllBare i.gens) i1:=by
  intro H hO hS C hA hK;have c:∀{b:A3} {o:Obj},i1.heap.get? b=some o->H b=none->(Xp i1.heap H).get? b=some o:=λe n=>Yl e n;have T:∀{b:A3} {o:Obj} {D:IG DictEntry} {E:Nat},i1.heap.get? b=some o->o.data = .dict D E->H b=none:=fun{b o D E} e d=>by
   cases q:H b with
   | none=>rfl
   | some u =>
    have U:b=a:=hA b (by rw[q];simp);subst U;rw[M]at e;cases e;have d':Data.seq vs.toArray _=Data.dict D E:=d;cases d'
  have j:∀{b:A3} {m:Str->A5 A2},i1.heap.Ns b m->(Xp i1.heap H).Ns b m:=fun{b m} ⟨o,D,E,e,d,r⟩=>⟨o,D,E,c e (T e d),d,r⟩;have G:K.In (Xp i1.heap H):=λb o e=>c (Z b o e) (by
   cases q:H b with
   | none=>rfl
   | some u =>
    have U:b=a:=hA b (by rw[q];simp);subst U;rw[hK (by rw[q];simp)]at e;cases e)
  have hM:Mod K t (Xp i1.heap H):=⟨G,j y,⟨N,j f,Q⟩,let⟨mc,h1,h2⟩:=A;⟨mc,j h1,h2⟩⟩;have e0:RB P w K t (Xp i1.heap H) callerA [] i1 H:=⟨rfl,hM,λb o e=>zAa e,VF (Qn _ _),trivial,λb f=>absurd (show b∈([]:A0 A3)from f) (by simp),C,.of_eq hg⟩;refine FC ((F _ G (j y)).run callerA [] i1 H ⟨[.ref a],[]⟩ [.ref a] [.ref a] _ _ hr e0 (p i1 (.ref a)) (.cons rfl .nil) (R H hO hS)) λr i h=>?_;cases r with
  | error e=>exact(S H e i h).elim
  | ok fl =>
   cases fl with
   | next=>exact VB h
   | brk=>exact VB h
   | cont=>exact VB h
   | ret u =>
    obtain⟨v,H',os,I,un,J,r',q⟩:=h;have q':v = .bl true:=q;subst q';obtain rfl:u=Value.bool true:=r';refine⟨rfl,OldK.of_keep λb o e=>?_,os,I⟩;cases q:H b with
    | none=>exact un.keep b o e q (by intro z;exact absurd (show b∈([]:A0 A3)from z) (by simp)) (by simp)
    | some u =>
     rcases hO b with z | ⟨ob,xs,z⟩
     .rw[q]at z;cases z
     .have z2:=un.frzs b ob _ z;obtain⟨e1,_⟩:=C b _ z;obtain⟨e2,_⟩:=J b _ z2;rw[e]at e1;cases e1;exact e2
 cases X:K.lookup a with
 | some o =>
  have e:=Z a o X;rw[M]at e;cases e;refine l (λ_=>none) (λ_=>.inl rfl) (.inr ⟨_,vs.toArray,_,X,rfl,rfl,rfl,by rw[AR,B];exact hl,by simpa using rv⟩) (λb u z=>by have L:(none:A5 HO)=some u:=z;cases L) (λb z=>absurd rfl z) λz=>absurd rfl z
 | none =>
  refine l (λb=>if b=a then some (.frz { cls:=.type "list",data:=.seq vs.toArray } (.lst (ns.map V.int)))else none) (λb=>?_) (.inl (.inr ⟨{ cls:=.type "list",data:=.seq vs.toArray },AO rfl⟩)) (λb u z=>?_) (λb z=>?_) λ_=>X
  .by_cases f:b=a
   .exact .inr ⟨_,_,AO f⟩
   .exact .inl (AI f)
  .by_cases f:b=a
   .have L:=(AO f).symm.trans z;cases L;subst f;exact⟨M,by rw[AB];exact hl,vs,_,rv,M⟩
   .have L:=(AI f).symm.trans z;cases L
  .by_cases f:b=a
   .exact f
   .exact absurd (AI f) z
def SE{l:PySem.W.OpenLaw}{n k:Nat}{q:IE}{j:A0 Str}{L:(Str->A5 A2)->IP->Prop}{I:IJ->IP->Prop}{d:DefRec}{K:Params->VA}{CX:IJ->RS}{sp:IJ->Sp}{x:Str}
  (M:l.most=some n) (y:n<=sizeLine) (z:d.params.defaults = []) (N:KD k callerA)
  (O:∀(w:IJ) (h:IP),I w h->(K w.params).In h)
  (F:∀(w:IJ) (p:Str->A5 A2) (t:A3) (h:IP),(K w.params).In h->h.Ns mainGlobals p->p d.name=some (.ref t) ->
   ∃A:I7,(∀(s:A4) (u:A2),BindsTo s A ⟨[u],[]⟩ [(x,u)]) /\
    ∀c:IP,(K w.params).In c->c.Ns mainGlobals p->IU l.prog w (K w.params) p c (CX w) k t A [x] (sp w))
  (B:∀(w:IJ) (H:Hp) (a:A3) (ns:A0 Int),ns.length<=n->zHx H->IR (K w.params) H a (ns.map V.int)->sp w [.ref a] H (λv _=>v = .bl true) λ_ _ _=>False)
  (C:∀(w:IJ) (H:Hp) (s:A4) (e:A2) (D:A4),CX w [] H s (λ_ _ _=>False) e D->False) :
  PySem.W.WalkO q j L I l.row.toRowW d [] (λf vs=>PySem.call f vs):=by
 refine Att.QN M z λw s₀ i1 p mb t o pm cd P a vs ns G Y ho hd Q E r m i R=>?_;have J:=O w _ Y;obtain⟨A,S,U⟩:=F w p t _ J G.T.g E;exact Xy J G.T.g G.T.b G.T.builtins G.T.nolimit R r m (VE i y) N U S (λH X Z=>B w H a ns i X Z) λH e D=>C w H i1 e D
def M9(s:IY)(j:Nat):IY:=match s with
 | .ClassDef _ _ _ a _ _ _ _ _ _ _=>a.getD j (.Pass ⟨0,0,0,0⟩)
 | _=>.Pass ⟨0,0,0,0⟩
def X2(s:IY):Arguments:=match s with
 | .FunctionDef _ a _ _ _ _ _ _ _ _=>a
 | _=>{ posonlyargs:=[],args:=[],vararg:=none,kwonlyargs:=[],kw_defaults:=[],kwarg:=none,defaults:=[] }
def T3(s:IY):A0 IY:=match s with
 | .FunctionDef _ _ b _ _ _ _ _ _ _=>b
 | _=>[]
def B6(s:IY):KZ:=match s with
 | .FunctionDef _ _ _ _ _ _ a _ _ _=>a
 | _=>{ kind:=.function,names:=[],isGenerator:=false,isCoroutine:=false }
abbrev JW:RS:=λ_ _ _ _ _ _=>False
abbrev E0:XK:=λ_ _ _=>False
def J1{X:Cx}:Bm JW X E0:=λ_ _ _ _ _ _ _ h=>h.elim
structure PL(K:VA)(x qual:Str)(st:IY)(f:A3)(fd:I7):Prop where
 ex:∃(oc:A2) (od:A5 A3) (kV doc pm:A2) (an:A5 A3) (cdv ct:A2) (osl:IG (A5 A2)),
  fd=PySem.W.fnOf x qual (X2 st) (T3 st) (B6 st) .none kV doc pm an cdv ct/\K.lookup f=some ⟨oc,od,.func fd,osl⟩/\PySem.W.codeIn K cdv qual=true
 kp:PySem.W.keepIn K (.ref f)=true
section
variable{P:IE}{w:IJ}{K:VA}{mg:Str->A5 A2}{base:IP}
theorem PL.ok{x b:Str}{st:IY}{f:A3}{j:I7}{N ps:A0 Str}{k:Nat}{sp:Sp}(F:PL K x b st f j)(S:IL N ps (B6 st))(e:∀vs H Q E,sp vs H Q E->vs.length=ps.length)
  (d:∀(c:A2) (A:IM) (a:A0 QU) (s:A4) (H:Hp) (vs:A0 V) (Q:VK) (E:XK),KD k (A.deeper (envOfC b (B6 st) s.heap.objs.size f c))->sp vs H Q E ->
   ∃t,QA (Xi JW P w K mg base N b (B6 st) f c A a s H E).nox (T3 st) t/\t { nx:=λ_ H'=>Q .non H',rt:=Q } (Da N vs) H):IU P w K mg base JW (k+1) f j ps sp:=by
 obtain⟨o,p,kV,l,r,u,c,v,m,rfl,lk,g⟩:=F.ex;refine zFp lk g S e λA a s H vs Q E n i=>?_;obtain⟨t,h,q⟩:=d c A a s H vs Q E n i;exact⟨t,h.nox,q⟩
theorem PL.binds{x a:Str}{st:IY}{f:A3}{g:I7}{ps:A0 Str}(F:PL K x a st f g)
  (h:∀(kV b d:A2) (e:A5 A3) (c ct:A2) (us:A0 A2),us.length=ps.length->bindArgs (PySem.W.fnOf x a (X2 st) (T3 st) (B6 st) .none kV b d e c ct) ⟨us,[]⟩=pure (ps.zip us)):Binds K g ps []:=by
 obtain⟨k,l,kV,b,d,e,c,ct,i,rfl,lk,j⟩:=F.ex;exact .all (h kV b d e c ct)
theorem KY{x a:Str}{st:IY}{f:A3}{i:A2}{j g:A5 A3}{e:IG (A5 A2)}{kV d h b ct:A2}(l:K.lookup f=some ⟨i,j,.func (PySem.W.fnOf x a (X2 st) (T3 st) (B6 st) .none kV d h g b ct),e⟩)
  (c:PySem.W.codeIn K b a=true) (k:PySem.W.keepIn K (.ref f)=true):PL K x a st f (PySem.W.fnOf x a (X2 st) (T3 st) (B6 st) .none kV d h g b ct):=⟨⟨i,j,kV,d,h,g,b,ct,e,rfl,l,c⟩,k⟩
end
def Q6{A:IM}{k:Nat}(a:KD k A):A.units+1<cLine:=Nat.lt_of_le_of_lt (EI (by decide:1<=64) _) a.units
section
variable{X:Cx}
theorem pv(i:Nat){x:Str}{a:Pos}(c:X.N[i]?=some x:=by rfl)(d:Vis X.env.scope x:=by first | exact Or.inl rfl | exact Or.inr (Or.inl rfl) | exact Or.inr (Or.inr rfl))(e:(x ==("__debug__":Str))=false:=by decide)
  (b:(x ==("__classdict__":Str))=false:=by decide):PE X (.Name x a) (X0 i):=zEq c d e b
def O9{A B:Prop}(h:B):if false=true then A else B:=by
 rw[AI BE];exact h
def Z7{A B:Prop}(h:A):if true=true then A else B:=by
 rw[AO rfl];exact h
def w8{c A B:Prop}[Decidable c](h1:c->A)(h2:¬c->B):if c then A else B:=by
 by_cases h:c
 .rw[AO h];exact h1 h
 .rw[AI h];exact h2 h
def Cv(H H':Hp):Prop:=∀b o,H b=some o->H' b=some o
def Cv.refl(H:Hp):Cv H H:=λ_ _ h=>h
def Cv.trans{H d e:Hp}(a:Cv H d)(b:Cv d e):Cv H e:=λc o h=>b c o (a c o h)
def Cv.free{H H':Hp}(e:Cv H H'){l:A3}(h:H' l=Option.none):H l=Option.none:=by
 cases q:H l with
 | none=>rfl
 | some o =>
  rw[e l o q]at h;cases h
section
variable{Z:Type}[DecidableEq Z]
theorem Rc{kvs:A0 (Z×V)}{k:Z}{v:V}(h:Z0 kvs k=some v):k∈kvs.map (·.1):=by
 have q:(kvs.any λa=>decide (a.1=k))=true:=by
  rw[Ak,h]
  all_goals rfl
 obtain⟨p,b,e⟩:=GU.mp q;exact BJ.mpr ⟨p,b,BL e⟩
end
def MJ(X:Cx)(a:KZ)(cl:A0 (Str×A3))(N':A0 Str)(b:A0 (A3×Obj))(ex:A0 A3)(c:A4)(d:Hp):Cx where
 prog:=X.prog
 w:=X.w
 K:=X.K
 mg:=X.mg
 base:=X.base
 A:=X.A
 N:=N'
 s₀:=c
 H₀:=d
 env:=compEnvC a cl c.heap.objs.size X.env
 outer:=X.stack
 stack:=X.stack
 ex:=ex
 fn:=λ_=>false
 calm:=X.calm
 pn:=X.pn++b
 xe:=λ_ _=>False
def OP(X:Cx)(a:KZ)(cl:A0 (Str×A3)):A0 Str->A0 (A5 Nat)->Prop
 | [],[]=>True
 | _::N,none::c=>OP X a cl N c
 | x::N,some j::c=>(X.N[j]?=some x/\X.env.scope.names.lookup x=some .cell/\(relabel a X.env).names.lookup x=some .cell/\cl.lookup x=X.env.cells.lookup x)/\OP X a cl N c
 | _,_=>False
def RQ(X:Cx):A0 (Str×A3)->Prop
 | []=>True
 | p::r=>X.env.cells.lookup p.1=some p.2/\RQ X r
structure NA(X:Cx)(scope:KZ)(cl:A0 (Str×A3))(N':A0 Str)(cap:A0 (A5 Nat)):Prop where
 kind:scope.kind = .function
 nocell:∀y∈scope.names,y.2≠ .cell
 loc:∀y∈scope.names,y.2 = .local->scope.names.lookup y.1=some .local
 clos:closureFor scope X.env=pure cl
 cin:RQ X cl
 has:((relabel scope X.env).names.all λy=>!(y.2 == .cell||y.2 == .free)||(cl.lookup y.1).isSome)=true
 caps:OP X scope cl N' cap
def Zb(cap:A0 (A5 Nat))(σ:St):St:=cap.map λo=>o.bind λj=>(σ[j]?).join
def RQ.get{X:Cx}:∀{cl:A0 (Str×A3)} {x:Str} {c:A3},RQ X cl->cl.lookup x=some c->X.env.cells.lookup x=some c
 | [],_,_,_,h=>by simp at h
 | (y,d)::r,x,c,⟨a,b⟩,h=>by
  rw[List.lookup_cons]at h;cases e:x == y with
  | true =>
   rw[e]at h;cases h;rw[beq_iff_eq.mp e];exact a
  | false =>
   rw[e]at h;exact RQ.get b h
def OP.len{X:Cx}{a:KZ}{cl:A0 (Str×A3)}:∀{N:A0 Str} {cap:A0 (A5 Nat)},OP X a cl N cap->cap.length=N.length
 | [],[],_=>rfl
 | _::N,none::c,h=>by rw[BQ,BQ,OP.len (N:=N) (cap:=c) h]
 | _::N,some j::c,h=>by rw[BQ,BQ,OP.len h.2]
 | [],_::_,h=>h.elim
 | _::_,[],h=>h.elim
def OP.get{X:Cx}{a:KZ}{cl:A0 (Str×A3)}{j:Nat}{x:Str}:∀{N:A0 Str} {cap:A0 (A5 Nat)} {i:Nat},OP X a cl N cap->N[i]?=some x->cap[i]?=some (some j) ->
  X.N[j]?=some x/\X.env.scope.names.lookup x=some .cell/\(relabel a X.env).names.lookup x=some .cell/\cl.lookup x=X.env.cells.lookup x
 | [],_,_,_,h,_=>by simp at h
 | _::_,[],_,_,_,h=>by simp at h
 | y::N,none::c,0,_,_,h=>by simp at h
 | y::N,none::c,i+1,h,b,d=>OP.get (N:=N) (cap:=c) (i:=i) h (by simpa using b) (by simpa using d)
 | y::N,some k::c,0,h,b,d=>by
  simp at b d;subst b;subst d;exact h.1
 | y::N,some k::c,i+1,h,b,d=>OP.get (N:=N) (cap:=c) (i:=i) h.2 (by simpa using b) (by simpa using d)
section
variable{X:Cx}{scope:KZ}{cl:A0 (Str×A3)}{N':A0 Str}{cap:A0 (A5 Nat)}{pins:A0 (A3×Obj)}{σ:St}{H3:Hp}{s3:A4}{ex:A0 A3}
theorem Fj{p:OO->Bool}:∀{names:A0 (Str×OO)} {q:Str->OO->Bool} {x:Str} {k:OO},(names.all λy=>q y.1 y.2)=true->names.lookup x=some k->q x k=true
 | [],_,_,_,_,h=>by simp at h
 | (y,d)::r,q,x,k,a,h=>by
  rw[IB,C_]at a;rw[List.lookup_cons]at h;cases e:x == y with
  | true =>
   rw[e]at h;cases h;rw[beq_iff_eq.mp e];exact a.1
  | false =>
   rw[e]at h;exact Fj (p:=p) (names:=r) (q:=q) a.2 h
theorem Inv.block(I:Inv X pins σ H3 s3)(S:NA X scope cl N' cap)(hc:X.calm=true)(t:∀b∈ex,Fo X pins H3 b/\∃o,s3.heap.get? b=some o){h1:IP}{T:Nat}
  (G:h1.Ns s3.heap.objs.size (λ_=>none)) (B:∀b o,s3.heap.get? b=some o->h1.get? b=some o) :
  Inv (MJ X scope cl N' pins ex s3 H3) [] (Zb cap σ) H3 { s3 with heap:=h1,toks:=T }:=by
 have C:∀b o,s3.heap.get? b=some o->b≠s3.heap.objs.size:=λb o e=>BB (AG e);have w:∀x c,cl.lookup x=some c->∃v,s3.heap.IsCell c v:=λx c e=>I.cell x c (S.cin.get e);have A:H3 s3.heap.objs.size=none:=I.hok.fresh (VD _);refine⟨⟨I.ok.mod,?_,I.ok.glob,I.ok.blt,VD _,λx y c H g=>I.ok.inj x y c (S.cin.get H) (S.cin.get g),λx U=>?_,λx c h _=>absurd h BE,I.ok.hd,I.ok.frames,.inl rfl,λb D=>?_,I.bs,VE I.ok.bsz I.sz,λb o e D=>?_,λb D=>?_,I.stack,I.stkFree⟩,
  rfl,I.bare,Un.kept B,⟨_,G,λi x v H g e3=>?_⟩,λx c e=>?_,A,λx c e=>I.freeC x c (S.cin.get e),λp V=>?_,I.hok.kept B,?_⟩
 .exact S.kind
 .have q:∀k,(relabel scope X.env).names.lookup x=some k->(!(k == .cell||k == .free)||(cl.lookup x).isSome)=true:=λk e=>Fj (p:=λ_=>true) (q:=λa k=>!(k == .cell||k == .free)||(cl.lookup a).isSome) S.has e;have J:(relabel scope X.env).names.lookup x=some .cell\/(relabel scope X.env).names.lookup x=some .free:=U;have:(cl.lookup x).isSome=true:=by
   rcases J with e | e
   .exact q _ e
   .exact q _ e
  exact FP.mp this
 .obtain⟨⟨_,_,_,_,W,_⟩,o,e⟩:=t b D;exact⟨C b o e,λx c E=>W x c (S.cin.get E)⟩
 .obtain⟨⟨f0,P,Q,f3,_⟩,_⟩:=t b D;rcases f3 with f3 | f3
  .exact I.ok.noex b o e f3
  .have:=(I.ok.bs b o e).1;exact absurd (BI (AG this) f3) (DB _)
 .intro K;obtain⟨⟨_,P,Q,_⟩,_⟩:=t b D;rcases AV.mp (I.stkSub b K)with z | z
  .exact P z
  .exact Q z
 .unfold Zb at g;rw[AJ]at g;cases E:cap[i]? with
  | none=>rw[E]at g;cases g
  | some o =>
   rw[E]at g;cases o with
   | none=>cases g
   | some j =>
    have f:(σ[j]?).join=some v:=BU g;obtain⟨Y,R,Z,c4⟩:=S.caps.get H E;have F:σ[j]?=some (some v):=by
     cases F:σ[j]? with
     | none=>rw[F]at f;cases f
     | some z=>rw[F]at f;cases z with
      | none=>cases f
      | some z=>cases f;rfl
    obtain⟨m,hn,hl⟩:=I.loc;obtain⟨u,r,l⟩:=hl j x v Y F (.inr (.inl R));refine⟨u,r,?_⟩;rcases l with⟨k,_⟩ | ⟨_,c,L,s⟩
    .have:X.env.scope.names.lookup x=some .local:=k;rw[R]at this;cases this
    .exact .inr ⟨.inl Z,c,c4.trans L,let⟨o,M,N⟩:=s;⟨o,B _ _ M,N⟩⟩
 .obtain⟨v,o,M,N⟩:=w x c e;exact⟨v,o,B _ _ M,N⟩
 .have O:p∈X.pn++pins:=by simpa [MJ] using V
  obtain⟨e,n,ne,nf,d⟩:=I.pin p O;refine⟨B _ _ e,n,C _ _ e,λK=>?_,d⟩;rcases AV.mp (I.stkSub p.1 K)with z | z
  .exact ne z
  .exact nf z
 .unfold Zb;rw[AB];exact S.caps.len
theorem Inv.unblock{σ':St}{H':Hp}{s':A4}{h':IP}(I:Inv X pins σ H3 s3)(g:∀b∈ex,Fo X pins H3 b)(J:Inv (MJ X scope cl N' pins ex s3 H3) [] σ' H' s')(f:Heap.SameBut s3.heap.objs.size s'.heap h') :
  Inv X pins σ H' { s' with heap:=h' }:=by
 have d:H' s3.heap.objs.size=none:=J.free;refine I.call' (ch:=ex) J.os ⟨λb o e n h a=>?_,λb o e n h a=>?_,λb o e n a=>?_,λb o e a=>?_,J.base.tups,J.base.frzs,J.base.tbls⟩ (λb j e=>?_) J.bare λb i=>?_
 .exact(f.2 b (BB (AG e))).trans (J.base.keep b o e n h a)
 .obtain⟨k,q⟩:=J.base.slot b o e n h a;exact⟨k,(f.2 b (BB (AG e))).trans q⟩
 .exact J.base.free b o e n a
 .obtain⟨l,q⟩:=J.base.there b o e a;exact⟨l,(f.2 b (BB (AG e))).trans q⟩
 .refine(J.hok b j e).stay (λc u m q=>(f.2 c ?_).trans q) (λ_ q=>q) λ_ _ q=>q;rintro rfl;rcases m with z | z
  .rw[<-z,d]at e;cases e
  .rw[d]at z;cases z
 .obtain⟨_,p,_,r,s,t⟩:=g b i;exact⟨r,p,s,t⟩
end
def Ni(e:IQ)(d:Nat)(iter tg:IQ)(ifs:A0 IQ)(b:Sem Fin->Sem Fin)(g f:A2)(a:QU):Sem Fin:=do
 standAt iter.pos
 match <-pyNext g with
 | none=>pure (.done .next)
 | some v =>
  letOwnedTupleGo tg g v
  assign tg a v
  let mut h:=true
  for c in ifs do
   if h then h <-isTrue c a (eval c a)
  if h then b (again (.compLoop e d g f a))else again (.compLoop e d g f a)
def emL(a:IQ)(b:A2)(c:QU)(k:Sem Fin):Sem Fin:=(do let _ <-call (.builtin "list.append") [b,<-eval a c]:Sem Unit) >>= λ_=>k
def emD(a b:IQ)(D:A3)(c:QU)(k:Sem Fin):Sem Fin:=(do
   let d <-eval a c
   let e <-holding [d] (eval b c)
   standAt { a.pos with endLine:=b.pos.endLine,endCol:=b.pos.endCol }
   holding [d,e] (dictSet D d e):Sem Unit) >>= λ_=>k
def Ez(b tg iter:IQ)(ifs:A0 IQ)(a:KZ)(e:Pos)(f c:A2)(d:QU) :
  compTurn (.ListComp b [⟨tg,iter,ifs,0⟩] a e) 0 f c d=Ni (.ListComp b [⟨tg,iter,ifs,0⟩] a e) 0 iter tg ifs (emL b c d) f c d:=rfl
def Es(k v tg iter:IQ)(ifs:A0 IQ)(a:KZ)(c:Pos)(d:A2)(D:A3)(b:QU) :
  compTurn (.DictComp k v [⟨tg,iter,ifs,0⟩] a c) 0 d (.ref D) b=Ni (.DictComp k v [⟨tg,iter,ifs,0⟩] a c) 0 iter tg ifs (emD k v D b) d (.ref D) b:=rfl
abbrev SQ:=St->Hp->(St->Hp->Prop)->Prop
def PEm(X:Cx)(b:Sem Fin->Sem Fin)(t:SQ):Prop :=
 ∀(a:A0 (A3×Obj)) (s:A4) (σ:St) (H:Hp) (Q:St->Hp->Prop) (k:Sem Fin) (F:Fin->A4->Prop) (E:A2->A4->Prop),Inv X a σ H s->t σ H Q ->
  (∀c σ' d,Inv X a σ' d c->Q σ' d->wpAny (model X.prog X.w) X.A k F E c)->wpAny (model X.prog X.w) X.A (b k) F E s
def TM(X:Cx)(ifs:A0 IQ)(t:TT):Prop :=
 ∀(a:A0 (A3×Obj)) (s:A4) (σ:St) (H:Hp) (Q:Bool->Hp->Prop),Inv X a σ H s->t σ H Q ->
  wpAny (model X.prog X.w) X.A (forIn ifs true λc r=>if r=true then do let b <-isTrue c X.env (eval c X.env);pure (ForInStep.yield b)else pure (ForInStep.yield r)) (TP X a σ Q) X.xe s
def Ef:TT:=λ_ H Q=>Q true H
def P1{X:Cx}:TM X [] Ef:=λ_ _ _ H _ I h=>wpAny_tests_nil ⟨H,I,h⟩
def P0{X:Cx}{c:IQ}{t:TT}(h:PT X c t):TM X [c] t:=λa s σ H Q I q=>wpAny_tests_one (h a s σ H Q I q)
def Bi(g:TG)(e:TT)(em:SQ)(J:It)(σ:St)(H:Hp)(Q:St->Hp->Prop):Prop :=
 ∃W:Nat->Nat->St->Hp->Prop,(∃m,W 0 m σ H)/\∀i m σ H,W i m σ H->(J.stop i H/\Q σ H)\/(J.go i H/\∀x c,J.yld i H x c->g x σ c λσ2 f=>e σ2 f λb d =>
  if b=true then em σ2 d λσ3 h=>∃a,a < m/\W (i+1) a σ3 h else ∃a,a < m/\W (i+1) a σ2 d)
section
variable{X:Cx}{e tg iter:IQ}{d:Nat}{ifs:A0 IQ}{emit:Sem Fin->Sem Fin}{it:A3}{acc:A2}{g:TG}{tc:TT}{em:SQ}{J:It}{fp:A0 A3}{tn:Nat->IP->Prop}{R:Result->A4->Prop}
theorem At(G:X.A.under (.compLoop e d (.ref it) acc X.env)=X.A)(t:(model X.prog X.w).den (.compLoop e d (.ref it) acc X.env) =(compTurn e d (.ref it) acc X.env).onRaise (λx=>do noteFrame x X.env;theTreesLotGoes x))(V:X.calm=true)(L:X.xe=λ_ _=>False)(M:compTurn e d (.ref it) acc X.env=Ni e d iter tg ifs emit (.ref it) acc X.env)(hg:PG X tg g)(ht:TM X ifs tc)(N:PEm X emit em)
  (T:ND X.prog X.w X.K tg J fp it tn) {a:A0 (A3×Obj)} {s:A4} {σ:St} {H:Hp} {Q:St->Hp->Prop} (I:Inv X a σ H s) (st:tn 0 s.heap) (Y:∀b∈fp,Fo X a H b) (h:Bi g tc em J σ H Q)
  (hR:∀v σ' H',Inv X a σ' H' v->Q σ' H'->R (.ok .next) v):codeAny (model X.prog X.w) X.A (.compLoop e d (.ref it) acc X.env) R s:=by
 obtain⟨W,⟨m0,w0⟩,y⟩:=h;have c:∀{H':Hp},(∀b∈fp,H' b=none)->∀b∈fp,Fo X a H' b:=λhn b f=>⟨hn b f,(Y b f).2⟩;have Z:∀{α:Type} {m:Sem α} {P:α->A4->Prop} {E:A2->A4->Prop} {s:A4},wpAny (model X.prog X.w) X.A m P X.xe s->wpAny (model X.prog X.w) X.A m P E s:=λq=>by
  rw[L]at q;exact BS q (λ_ _ z=>z) λ_ _ z=>z.elim
 refine codeAny_loop rfl (λn v=>∃i σ' H',Inv X a σ' H' v/\tn i v.heap/\(∀b∈fp,H' b=none)/\W i n σ' H') (λn s3 hI=>?_) m0 ⟨0,σ,H,I,st,λb f=>(Y b f).1,w0⟩;obtain⟨i,σ3,D,I3,B,C,w3⟩:=hI;rw[G,t];refine wpAny_noted ?_;rw[M];unfold Ni;refine AA (EC (AA ?_));rcases y i n σ3 D w3 with⟨stop,qn⟩ | ⟨go,step⟩
 .refine BS (T.done X rfl rfl rfl V i a s3 σ3 D _ I3 (c C) B stop) (λr s4 ⟨O,I4⟩=>?_) λ_ _ z=>z;subst O;exact AC (hR s4 σ3 D I4 qn)
 .refine BS (T.item X rfl rfl rfl V i a s3 σ3 D _ I3 (c C) B go) (λr s4 ⟨u,O,h4⟩=>?_) λ_ _ z=>z;subst O;refine AA (BS h4 (λ_ s5 ⟨x,H5,I5,r5,y5,j,S⟩=>?_) λ_ _ z=>z);have U:=I5.pinned (c S) (T.obj _ _ j);have again:∀{σ7:St} {k:Hp} {l:A4},Inv X (a++Hx fp s5.heap) σ7 k l->(∃F,F < n/\W (i+1) F σ7 k)->∃m,m<n/\∃i σ' H',Inv X a σ' H' l/\tn i l.heap/\(∀b∈fp,H' b=none)/\W i m σ' H':=fun{σ7 k l} p n7=>by
   obtain⟨F,hm,w7⟩:=n7;refine⟨F,hm,i+1,σ7,k,p.unpinned,T.keep _ _ _ j λb f o e=>(p.pin (b,o) (BO _ (BO _ (o0 f e)))).1,λb f=>?_,w7⟩;obtain⟨o,e,d⟩:=T.obj _ _ j b f;exact(p.pin (b,o) (BO _ (BO _ (o0 f e)))).2.1
  refine AA (BS (Z (hg _ s5 σ3 H5 x u _ U r5 (step x H5 y5))) (λ_ s6 ⟨σ6,H6,I6,q6⟩=>?_) λ_ _ z=>z);refine AA (BS (Z (ht _ s6 σ6 H6 _ I6 q6)) (λok l ⟨k,p,q7⟩=>?_) λ_ _ z=>z);cases ok with
  | false=>exact AC ⟨rfl,again p q7⟩
  | true =>
   exact N _ l σ6 k _ _ _ _ p q7 λs8 σ8 H8 I8 q8=>AC ⟨rfl,again I8 q8⟩
theorem Fg(f:X.A.under (.compStart e d (.ref it) acc X.env)=X.A)(b:(model X.prog X.w).den (.compStart e d (.ref it) acc X.env) =(compStart e d (.ref it) acc X.env).onRaise (λx=>do noteFrame x X.env;standAt theWindowsPlace)){gs:A0 Comprehension}(g:clausesOf e=gs)(k:gs[d]?=some ⟨tg,iter,ifs,0⟩){s:A4}(T:ND X.prog X.w X.K tg J fp it tn)(st:tn 0 s.heap)
  (h:codeAny (model X.prog X.w) X.A (.compLoop e d (.ref it) acc X.env) R s):codeAny (model X.prog X.w) X.A (.compStart e d (.ref it) acc X.env) R s:=by
 refine codeAny_of_tree ?_;rw[f,b];refine wpAny_notedAt ?_;unfold compStart;rw[g,k];show wpAny _ X.A (ask >>= _) _ _ s;refine AA (GV (wpAny_ite ?_));have j:=T.self X.A 0 s (λa c=>codeAny (model X.prog X.w) X.A (.compLoop e d a acc X.env) R c) (notedBy (model X.prog X.w) X.A X.env λx c=>R (.error x) c) st h;split
 .first
   | exact AA (AC (AC (And.intro rfl h)))
   | exact AC (And.intro rfl h)
 .first
   | exact AA (DN (AA (EC (AA (BS j (λa c i=>AC (And.intro rfl i)) λ_ _ x=>x)))))
   | (refine AA (DN ?_);show wpAny _ _ (standAt iter.pos >>= _) _ _ s;exact AA (EC (AA (BS j (λa c i=>AC (And.intro rfl i)) λ_ _ x=>x))))
end
section
variable{X:Cx}{tg iter:IQ}{ifs:A0 IQ}{g:TG}{tc:TT}{em:SQ}{scope:KZ}{cl:A0 (Str×A3)}{N':A0 Str}{cap:A0 (A5 Nat)}{pos:Pos}{wi:TI}
def Kg(wi:TI)(o:A3->HO)(cap:A0 (A5 Nat))(b:A3->It->St->Hp->(St->Hp->Prop)->Prop):TE:=λσ H Q=>wi σ H λJ a=>∀D,a D=none->b D J (Zb cap σ) (II a D (o D)) λ_ c=>Q (.ref D) c
theorem Mj{e:IQ}{gs:A0 Comprehension}{newAcc:Sem A2}{p2:Pos}(r:clausesOf e =⟨tg,iter,ifs,0⟩::gs)(o:A3->HO)(hs:∀x,foldedSetIterable iter X.env x=pure x)(S:NA X scope cl N' cap)(hc:X.calm=true)(hi:PI X tg iter wi)
  {lp:A3->It->St->Hp->(St->Hp->Prop)->Prop}
  (t:∀(a:A0 (A3×Obj)) (s:A4) (σ:St) (H:Hp) (Q:A2->A4->Prop) (E:A2->A4->Prop),Inv X a σ H s->(∀l,Inv X a σ (II H s.heap.objs.size (o s.heap.objs.size)) l->(∀b f,s.heap.get? b=some f->l.heap.get? b=some f)->Q (.ref s.heap.objs.size) l)->wpAny (model X.prog X.w) X.A newAcc Q E s)
  (G:∀(a:A0 (A3×Obj)) (L:A0 A3) (s3:A4) (M:Hp) (D k:A3) (fp:A0 A3) (tn:Nat->IP->Prop) (J:It) (σ:St) (s:A4) (H:Hp) (Q:St->Hp->Prop) (R:Result->A4->Prop),
   ND X.prog X.w X.K tg J fp k tn->Inv (MJ X scope cl N' a L s3 M) [] σ H s->tn 0 s.heap->(∀b∈fp,Fo (MJ X scope cl N' a L s3 M) [] H b)->lp D J σ H Q ->
   (∀l σ' H',Inv (MJ X scope cl N' a L s3 M) [] σ' H' l->Q σ' H'->R (.ok .next) l) ->
   codeAny (model X.prog X.w) X.A (.compLoop e 0 (.ref k) (.ref D) (compEnvC scope cl s3.heap.objs.size X.env)) R s)
  (N:∀k D g,X.A.under (.compStart e 0 (.ref k) (.ref D) g)=X.A) (u:∀k D g,(model X.prog X.w).den (.compStart e 0 (.ref k) (.ref D) g) =(compStart e 0 (.ref k) (.ref D) g).onRaise (λx=>do noteFrame x g;standAt theWindowsPlace))
  (O:∀E Q s,wpAny (model X.prog X.w) X.A (comprehension e scope X.env p2 newAcc false (eval iter X.env)) Q E s->wpAny (model X.prog X.w) X.A (eval e X.env) Q E s) :
  PE X e (Kg wi o cap lp):=by
 intro a s σ H Q I h;refine O _ _ _ (wpAny_comprehension_free (use:=none) r hs S.clos S.kind S.loc (JK (hi a s σ H _ I h) λv s1 B=>JK B λitv i h2=>?_));obtain⟨k,fp,tn,J,q,P,I2,T,C,f2,R2⟩:=h2;subst P;refine t a i σ q _ _ I2 λs3 U k3=>?_;have hD:q i.heap.objs.size=none:=I2.hok.fresh (VD _);have n:∀b∈fp,Fo X a (II q i.heap.objs.size (o i.heap.objs.size)) b/\∃f,s3.heap.get? b=some f:=λb j=>by
  obtain⟨f,e,_⟩:=T.obj _ _ C b j;obtain⟨V,fr⟩:=f2 b j;exact⟨⟨by rw[B7 (BB (AG e))];exact V,fr⟩,f,k3 b f e⟩
 refine wpAny_newFunctionEnv S.nocell (by intro y hy;simp at hy) (λB W Y=>?_) S.kind;have hk:∀b f,s3.heap.get? b=some f->B.get? b=some f:=λb f e=>(Y.2 b (BB (AG e))).trans (AD _ e);have I4:Inv (MJ X scope cl N' a fp s3 (II q i.heap.objs.size (o i.heap.objs.size))) [] (Zb cap σ) (II q i.heap.objs.size (o i.heap.objs.size)) { s3 with heap:=B,toks:=s3.toks +([]:A0 (Str×A2)).length } :=
  U.block S hc n W hk
 have F:tn 0 B:=T.keep 0 _ _ C λb j f e=>hk b f (k3 b f e);refine Fg (X:=MJ X scope cl N' a fp s3 (II q i.heap.objs.size (o i.heap.objs.size))) (gs:=⟨tg,iter,ifs,0⟩::gs) (e:=e) (d:=0) (tg:=tg) (iter:=iter) (ifs:=ifs) (N _ _ _) (u _ _ _) r rfl T F ?_;refine G a fp s3 _ i.heap.objs.size k fp tn J (Zb cap σ) _ _ _ _ T I4 F (λb j=>?_) (R2 _ hD) λl σ' H' I' q'=>?_
 .obtain⟨⟨V,f1,Z,f3,f4,f5⟩,f,eo⟩:=n b j;refine⟨V,BB (AG eo),λhf=>?_,.inl j,λx c e=>f4 x c (S.cin.get e),λp hp=>f5 p (by simpa [MJ] using hp)⟩;rcases AV.mp (U.stkSub b hf)with z | z
  .exact f1 z
  .exact Z z
 .obtain⟨m,hn,_⟩:=I'.loc;exact⟨m,hn,λh' j=>⟨.ref _,H',U.unblock (λb j=>(n b j).1) I' j,rfl,q'⟩⟩
end
section
variable{X:Cx}{tg iter elt:IQ}{ifs:A0 IQ}{g:TG}{tc:TT}{te:TE}{scope:KZ}{cl:A0 (Str×A3)}{N':A0 Str}{cap:A0 (A5 Nat)}{pos:Pos}{wi:TI}
def Z8(D:A3)(te:TE):SQ:=λσ H Q=>te σ H λy b=>∃a,b D=some (.lst a)/\a.length<sizeLine/\Q σ (II b D (.lst (a ++ [y])))
theorem Nj{α:Type}{X:Cx}(a:X.xe=λ_ _=>False){m:Sem α}{P:α->A4->Prop}{E:A2->A4->Prop}{s:A4}(q:wpAny (model X.prog X.w) X.A m P X.xe s):wpAny (model X.prog X.w) X.A m P E s:=by
 rw[a]at q;exact BS q (λ_ _ z=>z) λ_ _ z=>z.elim
theorem Na{D:A3}(b:X.xe=λ_ _=>False)(d:PE X elt te):PEm X (emL elt (.ref D) X.env) (Z8 D te):=by
 intro a s σ H Q k F E I h e;unfold emL;refine AA (AA (BS (Nj b (d a s σ H _ I h)) (λu f ⟨y,g,i,j,l,m,n,o⟩=>?_) λ_ _ z=>z));refine AA (BS (Nj b (U4 a f σ g (.ref D) [y] (.ref D) [u] (λv c=>v = .non/\Q σ c) i rfl (.cons j .nil) ⟨D,l,y,rfl,rfl,m,n,rfl,o⟩)) (λv p ⟨t,c,q,w,_,r⟩=>?_) λ_ _ z=>z);exact AC (e p σ c q r)
theorem W9(S:NA X scope cl N' cap)(i:X.calm=true)(hi:PI X tg iter wi)
  (j:∀(a:A0 (A3×Obj)) (c:A0 A3) (d:A4) (f:Hp),PG (MJ X scope cl N' a c d f) tg g/\TM (MJ X scope cl N' a c d f) ifs tc/\PE (MJ X scope cl N' a c d f) elt te)
  (k:∀x,foldedSetIterable iter X.env x=pure x:=by intro _;rfl) :
  PE X (.ListComp elt [⟨tg,iter,ifs,0⟩] scope pos) (Kg wi (λ_=>.lst []) cap λD J σ H Q=>Bi g tc (Z8 D te) J σ H Q):=by
 refine Mj (newAcc:=newList []) (p2:=firstIterPos [⟨tg,iter,ifs,0⟩] pos) rfl (λ_=>.lst []) k S i hi (λa s σ H Q E I h=>?_) (λa c d f D q r tn J σ s H Q R T I st l h m=>?_) (λ_ _ _=>rfl) (λ_ _ _=>rfl) (λE Q s h=>h)
 .refine wpAny_newList ?_;exact h _ (I.lnew (t':=s.toks) (its:=[]) .nil (BZ _)) λb t e=>AD _ e
 .obtain⟨n,o,p⟩:=j a c d f;exact At (X:=MJ X scope cl N' a c d f) rfl rfl i rfl (Ez elt tg iter ifs scope pos _ _ _) n o (Na rfl p) T I st l h m
def Gc(D:A3)(c d:TE):SQ:=λσ H Q=>c σ H λy e=>d σ e λv b=>∃a k,b D=some (.dK a)/\y=kV k/\a.length<sizeLine/\Q σ (II b D (.dK (Cl a k v)))
theorem Mi{D:A3}{a b:IQ}{j m:TE}(d:X.xe=λ_ _=>False)(o:PE X a j)(p:PE X b m):PEm X (emD a b D X.env) (Gc D j m):=by
 intro c s σ H Q k F E I h t;unfold emD;refine AA (AA (BS (Nj d (o c s σ H _ I h)) (λu w ⟨y,x,A,B,C⟩=>?_) λ_ _ z=>z));refine AA (BN (BS (Nj d (p c w σ x _ A C)) (λr G ⟨v,W,n,J,f,kk,e,K,l,L⟩=>?_) λ_ _ z=>z));refine AA (EC (BN ?_));subst K;obtain⟨z,M,N,g,O⟩:=Xb n.hok e;have P:N.length<=sizeLine:=by rw[<-g.length];exact z
 have R:(Cl f kk v).length<=sizeLine:=by have:=Y2 f kk v;lia
 refine wpAny_dictSet_pairs (hsz:=P) (Lj B) O λS i T=>?_;have U:∃q,S.get? D=some q:=let⟨q,_,_,V,_⟩:=i;⟨q,V⟩;exact t _ σ _ (Qi (t':=G.toks+1) n (by rw[e];exact VC) T U (Qw R M (g.put kk J) i)) L
theorem Ot{a b:IQ}{j k:TE}(S:NA X scope cl N' cap)(l:X.calm=true)(hi:PI X tg iter wi)
  (m:∀(c:A0 (A3×Obj)) (d:A0 A3) (f:A4) (i:Hp),PG (MJ X scope cl N' c d f i) tg g/\TM (MJ X scope cl N' c d f i) ifs tc/\PE (MJ X scope cl N' c d f i) a j/\PE (MJ X scope cl N' c d f i) b k)
  (n:∀x,foldedSetIterable iter X.env x=pure x:=by intro _;rfl) :
  PE X (.DictComp a b [⟨tg,iter,ifs,0⟩] scope pos) (Kg wi (λ_=>.dK []) cap λD J σ H Q=>Bi g tc (Gc D j k) J σ H Q):=by
 refine Mj (newAcc:=newDict) (p2:=firstIterPos [⟨tg,iter,ifs,0⟩] pos) rfl (λ_=>.dK []) n S l hi (λc s σ H Q E I h=>?_) (λc d f i D y z tn J σ s H Q R T I st p h r=>?_) (λ_ _ _=>rfl) (λ_ _ _=>rfl) (λE Q s h=>h)
 .refine BV ?_;exact h _ (I.laid (a:=s.heap.objs.size) (o:=.dK []) (t':=s.toks) (λ_ _ q=>AD _ q) (VD _) (Hh s.heap I.big)) λb A e=>AD _ e
 .obtain⟨t,u,v,w⟩:=m c d f i;exact At (X:=MJ X scope cl N' c d f i) rfl rfl l rfl (Es a b tg iter ifs scope pos _ _ _) t u (Mi rfl v w) T I st p h r
end
instance:LawfulBEq JB where
 rfl {a}:=by cases a with
  | inl i=>show(i == i)=true;simp
  | inr x=>show(x == x)=true;simp
 eq_of_beq {a b} h:=by
  cases a with
  | inl i=>cases b with
   | inl j=>exact congrArg Sum.inl (eq_of_beq (show(i == j)=true from h))
   | inr j=>exact absurd h (by intro z;cases z)
  | inr i=>cases b with
   | inl j=>exact absurd h (by intro z;cases z)
   | inr j=>exact congrArg Sum.inr (eq_of_beq (show(i == j)=true from h))
def Qg(P:IE)(w:IJ)(a:A3)(l:A0 JB):HO:=.ext λh=>h.SetOf (E5 P w) a (λk=>decide (k∈l)) l.length
section
variable{X:Cx}{pins:A0 (A3×Obj)}{σ:St}{H:Hp}{s:A4}{a:A3}{l:A0 JB}
theorem zDe{P:IE}{w:IJ}{H:Hp}{h:IP}(z:h.SetOf (E5 P w) a (λk=>decide (k∈l)) l.length):JA P w H h a (Qg P w a l) :=
 ⟨z,let⟨o,_,_,_,e,_⟩:=z;⟨o,e⟩,λd f ⟨o,b,c,t,e,r⟩ k=>⟨o,b,c,t,k o e,r⟩⟩
theorem Inv.set(I:Inv X pins σ H s)(e:H a=some (Qg X.prog X.w a l)):s.heap.SetOf (E5 X.prog X.w) a (λk=>decide (k∈l)) l.length:=by
 obtain⟨z,_⟩:=(show JA X.prog X.w H s.heap a (Qg X.prog X.w a l)from I.hok a _ e);exact z
theorem Nw{k:JB}{u:A2}(r:RelV (kV k) u):u.scannable=true:=by
 cases k with
 | inl i=>obtain⟨t,rfl⟩:=r;rfl
 | inr x=>obtain⟨t,rfl⟩:=r;rfl
def zGq(l:A0 JB)(k:JB):A0 JB:=if k∈l then l else l ++ [k]
theorem Kx{P:IE}{w:IJ}{h:IP}{S b:JB->Bool}{n c:Nat}(z:h.SetOf (E5 P w) a S n)(e:∀k,b k=S k)(en:c=n):h.SetOf (E5 P w) a b c:=by
 have:b=S:=funext e;subst this;subst en;exact z
theorem Vk:N0 X (.type "set") (λxs H Q=>xs = []/\∀p,H p=none->Q (.ref p) (II H p (Qg X.prog X.w p []))):=by
 intro pins s σ H xs c Q I r h;obtain⟨rfl,q⟩:=h;cases r;refine call_set_0 λa=>⟨.ref s.heap.objs.size,_,I.laid (t':=s.toks) (λb o e=>AD _ e) (VD _) (zDe ?_),rfl,q _ (I.hok.fresh (VD _))⟩;exact(setObjOf_fresh a).setOf (AY _ rfl) (by decide)
def zCv(P:IE)(w:IJ):V->A0 V->Hp->VK->Prop:=λx b H Q=>∃a l k,x = .ref a/\b = [kV k]/\H a=some (Qg P w a l)/\l.length+1<4096/\Q .non (II H a (Qg P w a (zGq l k)))
theorem zFl:QH X "set.add" (zCv X.prog X.w):=by
 intro pins s σ H x r v t Q I g i h;obtain⟨a,l,k,rfl,rfl,c,j,q⟩:=h;cases g;obtain⟨u,rfl,d⟩:=i.one;refine call_set_add (Lj d) (Nw d) (I.set c) j λy m z=>?_;refine⟨.non,_,I.write (x:=a) (e:=a) (t':=s.toks+1) (by rw[c];exact VC) (.inl rfl) (λb q n e=>(m.2 b n).trans e) (let⟨o,_,_,_,e,_⟩:=z;⟨o,e⟩) (zDe (Kx z (λp=>?_) ?_)),rfl,q⟩
 .unfold zGq;by_cases e:k∈l
  .rw[AO e];by_cases f:p=k
   .subst f;simp[e]
   .simp[f]
  .rw[AI e];simp
 .unfold zGq;by_cases e:k∈l
  .rw[AO e];simp[e]
  .rw[AI e];simp[e]
def zIm(P:IE)(w:IJ)(neg:Bool):R2:=λx y H Q=>∃a l k,y = .ref a/\x=kV k/\H a=some (Qg P w a l)/\Q (.bl (if neg then !decide (k∈l)else decide (k∈l))) H
theorem Ub:LB X (compareOp .In) (zIm X.prog X.w false):=by
 intro pins s σ H x y v u Q I b c h;obtain⟨a,l,k,rfl,rfl,d,q⟩:=h;cases c;exact wpAny_inSet_of (Lj b) (Nw b) (I.set d) ⟨.bl (decide (k∈l)),H,I.tok _,rfl,q⟩
end
def Its(x:Str):It:=⟨λi _=>i<x.cps.size,λi H v a=>a=H/\∃c,x.cps[i]?=some c/\v = .str ⟨#[c]⟩,λi _=>i=x.cps.size⟩
def Mx{P:IE}{w:IJ}{K:VA}{tg:IQ}(a:A3)(x:Str)(t:Tok)(ty:String)(p:["enumerate","zip","dict_itemiterator","dict_reverseitemiterator","odict_iterator","itertools.zip_longest","itertools.pairwise"].contains ty=false)
  (W:∀R:IM,R.handled=none->Walks P w R a [a] [a] x.cps.size (SignAt x) (λi h=>h.IsStrIter a ty x t i))
  (g:∀(A:IM) (i:Nat) (s:A4) (Q:A2->A4->Prop) (E:A2->A4->Prop),s.heap.IsStrIter a ty x t i->Q (.ref a) s->wpAny (model P w) A (pyIter (.ref a)) Q E s):ND P w K tg (Its x) [a] a (λi h=>h.IsStrIter a ty x t i) where
 mem:=by simp
 obj:=λi h st b j=>by
  have e:b=a:=by simpa using j
  subst e;obtain⟨o,e,c,d⟩:=st;exact⟨o,e,λv z=>by rw[d]at z;cases z⟩
 keep:=λi h m st k=>let⟨o,e,r⟩:=st;⟨o,k a (by simp) o e,r⟩
 item:=by
  intro X q y B C i f s σ H E I n st D;subst q y B;obtain⟨F,G,S,J,L,M⟩:=n a (by simp);refine(W X.A (I.ok.hd C)).item i s _ _ D st λv m N T l k=>?_;obtain⟨c,u,U,V⟩:=T;have Y:Inv X f σ H { s with heap:=m,toks:=N }:=I.turned (λb o j e=>k b o (by simpa using j) e) F G J L M;obtain⟨o,e,Z,d⟩:=id l;exact⟨v,rfl,Wo (s:={ s with heap:=m,toks:=N }) e Z d p ⟨.str ⟨#[c]⟩,H,Y,⟨u,V⟩,⟨rfl,c,U,rfl⟩,l,λb j=>(n b j).1⟩⟩
 done:=by
  intro X q y B C i f s σ H E I n st D;subst q y B;obtain⟨F,G,S,J,L,M⟩:=n a (by simp);have O:i=x.cps.size:=D;subst O;exact(W X.A (I.ok.hd C)).done s _ _ st λm N k=>⟨rfl,I.turned (λb o j e=>k b o (by simpa using j) e) F G J L M⟩
 self:=λA i s Q E st h=>g A i s Q E st h
section
variable{X:Cx}{tg:IQ}
def zJk(a:TE):TI:=λσ H R=>a σ H λx b=>∃z,x = .str z/\R (Its z) b
theorem Yt{l:IQ}{tl:TE}(m:PE X l tl):PI X tg l (zJk tl):=by
 intro a s σ H R I h;refine JK (m a s σ H _ I h) λv s1 ⟨x,n,g,p,r⟩=>?_;obtain⟨z,e,q⟩:=r;subst e;obtain⟨t,rfl⟩:=p;have f:∀(o:Obj) (ty:String),o.cls = .type ty->o.data = .fields #[.str z t,.int (0:Nat) 0]->o.isFreed=false->ND X.prog X.w X.K tg (Its z) [s1.heap.objs.size] s1.heap.objs.size (λi h=>h.IsStrIter s1.heap.objs.size ty z t i) ->
   PIE X a σ tg R (.ref s1.heap.objs.size) { s1 with heap:=s1.heap.push o }:=λo ty c d u T=>by
  refine⟨s1.heap.objs.size,[s1.heap.objs.size],_,_,n,rfl,g.kept (t':=s1.toks) λb o e=>AD _ e,T,⟨o,AY _ u,c,d⟩,λb y=>?_,q⟩;have e:b=s1.heap.objs.size:=by simpa using y
  subst e;exact g.fpOk (VD _) (g.hok.fresh (VD _))
 cases k:z.cps.all (· < 128)
 .exact wpAny_pyIter_wide k (f _ _ rfl rfl rfl (Mx _ z t "str_iterator" (by decide) (λB j=>Walks.strWide j _ z t) λA i s Q E st h=>wpAny_pyIter_striter_wide st h))
 .exact wpAny_pyIter_ascii k (f _ _ rfl rfl rfl (Mx _ z t "str_ascii_iterator" (by decide) (λB j=>Walks.strAscii j _ z t) λA i s Q E st h=>wpAny_pyIter_striter_ascii st h))
end
theorem Yi(E:X.calm=true):N0 X (.builtin "all") (λxs H Q=>∃(p:A3) (bs:A0 Bool),xs = [.ref p]/\IR X.K H p (bs.map V.bl)/\Q (.bl (bs.all id)) H):=by
 intro B s σ H xs M Q I r h;obtain⟨p,bs,rfl,F,q⟩:=h;obtain⟨u,rfl,t⟩:=o8 r;cases t;obtain⟨a,w,x,N⟩:=I.list F;refine call_all_walk (GN x.isList ?_);have y:p≠s.heap.objs.size:=by
  obtain⟨o,n,e,_⟩:=x;exact BB (AG e)
 refine⟨s.heap.objs.size,_,_,_,_,_,λi=>bs.getD i true,rfl,Walks.list (A:=X.A.in1) (show X.A.in1.handled=none from I.ok.hd E) _ p y a.toArray,⟨⟨_,AY _ rfl,rfl,rfl⟩,?_⟩,λi v O P R G J=>?_,λS T k=>?_⟩
 .obtain⟨o,n,e,c,d,L⟩:=x;exact⟨o,AD _ e,c,n,L⟩
 .have f:(bs.map V.bl)[i]?=some (V.bl (bs.getD i true))/\RelV (V.bl (bs.getD i true)) v:=by
   have g:a[i]?=some v:=by simpa using G
   have j:i<a.length:=(AK.mp g).1;have m:=w.length;rw[AB]at m;have e:(bs.map V.bl)[i]?=some (V.bl (bs.getD i true)):=by
    rw[AJ,AF (by lia)];simp[CB,AF (show i<bs.length by lia)]
   obtain⟨u,C,t⟩:=w.get e;rw[g]at C;cases C;exact⟨e,t⟩
  cases f.2;exact DA J
 .have m:=w.length;rw[AB]at m;have e:(List.range a.toArray.size).all (λi=>bs.getD i true)=bs.all id:=by
   rw[AR,<-m];rw[GC,EA,EA];constructor
   .intro z b f;obtain⟨i,j,rfl⟩:=D_.mp f;have:=z i (DE.mpr j);simpa [CB,AF j] using this
   .intro z i j;have l:=DE.mp j;have:=z bs[i] (DL l);simpa [CB,AF l] using this
  rw[e];exact⟨.bl (bs.all id),H,I.kept λb o D=>k b o (by
   intro f;have:b=s.heap.objs.size:=by simpa using f
   exact absurd (AG D) (by rw[this];exact DB _)) (AD _ D),rfl,q⟩
theorem n6:∀{ss:A0 Str} {us:A0 A2},IT (ss.map V.str) us->StrsAre us ss
 | [],_,.nil=>.nil
 | _::_,_,.cons ⟨t,e⟩ r=>by subst e;exact .cons _ _ (n6 r)
def NZ(a b:Str):Prop:=¬b.cps.toList<a.cps.toList
theorem Bp:N0 X (.builtin "sorted") (λxs H Q=>∃(p:A3) (ss:A0 Str),xs = [.ref p]/\IR X.K H p (ss.map V.str)/\∀(l:A3) (a:A0 Str),H l=none->a.Perm ss->a.Pairwise NZ->Q (.ref l) (II H l (.lst (a.map V.str)))):=by
 intro D s σ H xs d Q I r h;obtain⟨p,ss,rfl,J,q⟩:=h;obtain⟨u,rfl,L⟩:=o8 r;cases L;obtain⟨f,E,M,U⟩:=I.list J;have i:=n6 E;have W:=E.length;refine TS.LF (collect_list (vs:=f) M.isList ?_ (by lia));refine⟨rfl,by lia,strKind,oneType',λY _=>TS.NC i,λout F e N k O=>?_⟩;have g:((s.heap.push (seqObj "list" #[] 0)).update s.heap.objs.size (Obj.mapSeq (· ++ f.toArray))).objs.size=s.heap.objs.size+1:=by rw[GS,size_push']
 obtain⟨j,P⟩:=N;have m:∀v∈out.toList,∃x t,v = .str x t:=λv n=>i.all v (j.mem_iff.mp n);have n:IT ((out.toList.map strOf).map V.str) out.toList:=by
  have:∀d:A0 A2,(∀v∈d,∃x t,v = .str x t)->IT ((d.map strOf).map V.str) d:=by
   intro d
   induction d with
   | nil=>exact λ_=>.nil
   | cons v r R =>
    intro h;obtain⟨x,t,rfl⟩:=h v (BA ..);exact .cons ⟨t,rfl⟩ (R λu w=>h u (AM _ w))
  exact this _ m
 have c:(out.toList.map strOf).Perm ss:=by
  have:=j.map strOf
  rwa [i.strs]at this
 have z:(out.toList.map strOf).Pairwise NZ:=by
  rw[CU];refine(EN.mp P).imp fun{u v} ⟨w,A,q⟩=>?_;obtain⟨x,t,rfl⟩:=m u w;obtain⟨y,t',rfl⟩:=m v A;have S:decide (y.cps.toList<x.cps.toList)=false:=q;exact HP S
 have B:∀b o,s.heap.get? b=some o->F.get? b=some o:=λb o G=>k b o (by
  rw[Heap.get?_update_ne _ _ _ _ (BB (AG G))];exact AD _ G)
 have T:H (s.heap.objs.size+1)=none:=I.hok.fresh (DC _);have C:F.get? (s.heap.objs.size+1)=some (seqObj "list" out e):=by rw[<-g];exact O
 refine⟨.ref (s.heap.objs.size+1),II H (s.heap.objs.size+1) (.lst ((out.toList.map strOf).map V.str)),?_,by show Value.ref _=_;rw[<-g],q _ _ T c z⟩;refine I.laid (t':=s.toks) B (DC _) ⟨?_,out.toList,e,n,by simpa using C⟩;rw[AB,AB,j.length_eq];lia
def Jr{α β:Type}(f:α->β){l m:A0 β}(h:l.Perm m):∀ps:A0 α,m=ps.map f->∃a:A0 α,a.Perm ps/\l=a.map f:=by
 induction h with
 | nil=>intro ps e;exact⟨ps,.refl _,e⟩
 | cons x _ n =>
  intro ps e;cases ps with
  | nil=>cases e
  | cons p ps =>
   rw[BM]at e;obtain⟨rfl,b⟩:=IA e;obtain⟨a,c,d⟩:=n ps b;exact⟨p::a,.cons _ c,by rw[BM,d]⟩
 | swap x y l =>
  intro ps e
  match ps,e with
  | p::q::ps,e =>
   rw[BM,BM]at e;obtain⟨rfl,b⟩:=IA e;obtain⟨rfl,o⟩:=IA b;exact⟨q::p::ps,.swap _ _ _,by rw[BM,BM,o]⟩
 | trans _ _ g i =>
  intro ps e;obtain⟨j,c,d⟩:=i ps e;obtain⟨k,r,s⟩:=g j d;exact⟨k,r.trans c,s⟩
abbrev IZ:=A3×Str×Str
def Hi(q:IZ):A0 Nat×A0 Nat:=(q.2.1.cps.toList,q.2.2.cps.toList)
def QX(q r:IZ):Prop:=TS.JS (Hi r) (Hi q)=false
def G0(H:Hp)(q:IZ):Prop:=H q.1=some (.tup [.str q.2.1,.str q.2.2])
def Je:∀{ps:A0 IZ} {us:A0 A2},IT (ps.map λq=>V.ref q.1) us->us=ps.map λq=>Value.ref q.1
 | [],_,.nil=>rfl
 | _::_,_,.cons r t=>by rw[BM,Je t];cases r;rfl
def Iu:∀(ps:A0 IZ),IT (ps.map λq=>V.ref q.1) (ps.map λq=>Value.ref q.1)
 | []=>.nil
 | _::ps=>.cons rfl (Iu ps)
theorem Inv.pairAt{a:A0 (A3×Obj)}{σ:St}{H:Hp}{s:A4}{q:IZ}(I:Inv X a σ H s)(h:G0 H q):TS.MZ s.heap (.ref q.1) q.2.1 q.2.2:=by
 obtain⟨b,f,⟨o,e,c,n,d⟩,_⟩:=I.tuple (JG.of h);obtain⟨i,j,rfl,⟨t,rfl⟩,⟨g,rfl⟩⟩:=f.two;exact⟨q.1,o,n,t,g,rfl,e,c,d⟩
theorem Hs:N0 X (.builtin "sorted") (λxs H Q=>∃(p:A3) (ps:A0 IZ),xs = [.ref p]/\IR X.K H p (ps.map λq=>V.ref q.1)/\(∀q∈ps,G0 H q) /\
  ∀(l:A3) (c:A0 IZ),H l=none->c.Perm ps->c.Pairwise QX->Q (.ref l) (II H l (.lst (c.map λq=>V.ref q.1)))):=by
 intro A s σ H xs us Q I r h;obtain⟨p,ps,rfl,j,w,q⟩:=h;obtain⟨u,rfl,M⟩:=o8 r;cases M;obtain⟨d,B,N,C⟩:=I.list j;have D:=Je B;have hl:=B.length;refine TS.LF (collect_list (vs:=d) N.isList ?_ (by lia));have f:((s.heap.push (seqObj "list" #[] 0)).update s.heap.objs.size (Obj.mapSeq (· ++ d.toArray))).objs.size=s.heap.objs.size+1:=by rw[GS,size_push']
 have m:∀b o,s.heap.get? b=some o->((s.heap.push (seqObj "list" #[] 0)).update s.heap.objs.size (Obj.mapSeq (· ++ d.toArray))).get? b=some o:=λb o g=>by
  rw[Heap.get?_update_ne _ _ _ _ (BB (AG g))];exact AD _ g
 have i:∀q∈ps,TS.MZ s.heap (.ref q.1) q.2.1 q.2.2:=λq j=>I.pairAt (w q j);refine⟨rfl,by lia,TS.pairKind s.heap,tuples' true,λs2 O=>TS.QY (λv E=>?_) (λb o g=>?_),λout P e R k S=>?_⟩
 .rw[D]at E;obtain⟨q,j,rfl⟩:=BJ.mp E;exact⟨_,_,i q j⟩
 .have n:b≠((s.heap.push (seqObj "list" #[] 0)).update s.heap.objs.size (Obj.mapSeq (· ++ d.toArray))).objs.size:=by
   rw[f];exact BB (EZ (AG g))
  exact⟨n,O b o n (m b o g)⟩
 .obtain⟨F,G⟩:=R;rw[D]at F;obtain⟨c,t,J⟩:=Jr (λq:IZ=>Value.ref q.1) F ps rfl;have x:c.Pairwise QX:=by
   rw[J,CU]at G;refine(EN.mp G).imp fun{a b} ⟨T,U,z⟩=>?_;have W:=(i a (t.mem_iff.mp T)).key;have Y:=(i b (t.mem_iff.mp U)).key;have L:TS.JS ((TS.OE s.heap (.ref b.1)).getD ([],[])) ((TS.OE s.heap (.ref a.1)).getD ([],[]))=false:=z;rw[W,Y]at L;exact L
  have Z:H (s.heap.objs.size+1)=none:=I.hok.fresh (DC _);have y:P.get? (s.heap.objs.size+1)=some (seqObj "list" out e):=by rw[<-f];exact S
  refine⟨.ref (s.heap.objs.size+1),II H (s.heap.objs.size+1) (.lst (c.map λq=>V.ref q.1)),?_,by show Value.ref _=_;rw[<-f],q _ _ Z t x⟩;refine I.laid (t':=s.toks) (λb o g=>k b o (m b o g)) (DC _) ⟨?_,out.toList,e,by rw[J];exact Iu c,by simpa using y⟩;rw[AB,t.length_eq];rw[AB]at C;exact C
end
def Inv.turnLaid{X:Cx}{d:A0 (A3×Obj)}{σ:St}{H:Hp}{s:A4}{h':IP}{t':Nat}{fp:A0 A3}{T:A3}{o:HO}(I:Inv X d σ H s)(k:∀b a,b∉fp->s.heap.get? b=some a->h'.get? b=some a)
  (i:∀b∈fp,Fo X d H b) (x:∀b∈fp,∃a,s.heap.get? b=some a) (l:s.heap.objs.size<=T) (j:JA X.prog X.w (II H T o) h' T o):Inv X d σ (II H T o) { s with heap:=h',toks:=t' }:=by
 have h:=I.hok.fresh l;have y:∀b a,s.heap.get? b=some a->b≠T:=λb a e=>BB (BI (AG e) l);have p:∀b u,H b=some u->b∉fp:=λb u e f=>by rw[(i b f).1]at e;cases e
 refine I.step (g':=s.gens) (d':=s.drawn) (ch:=fp) (λb f=>let⟨_,A,_,B,C,D⟩:=i b f;⟨B,A,C,D⟩) (λb a _ _ g e _=>k b a g e) (λb a _ _ g e _=>⟨a.slots,k b a g e⟩) (λb a _ e n=>by rw[B7 (y b a e)];exact n)
  (λb a g e=>⟨a,k b a g e⟩) (λb t e=>by rw[B7 (B0 e h)];exact e) (λb u t e=>by rw[B7 (B0 e h)];exact e) (λb ps e=>⟨#[],by rw[B7 (B0 e h),e];simp⟩) (λm E=>?_) (λb u e=>?_) I.bare
 .obtain⟨a,F,G,J,r⟩:=E;exact⟨a,F,G,k _ a (λf=>(i _ f).2.1 rfl) J,r⟩
 .by_cases f:b=T
  .subst f;rw[A7]at e;cases e;exact j
  .rw[B7 f]at e;refine(I.hok b u e).stay (λc v g q=>k c v ?_ q) (λc q=>by rw[B7 (B0 q h)];exact q) λc t q=>by rw[B7 (B0 q h)];exact q
   rcases g with z | z
   .rw[z];exact p b u e
   .exact p c _ z
end L2
namespace ST
open PySem
def stp(mask i:Nat):Nat:=(5*i+1) %(mask+1)
def SA(mask:Nat):Nat->Nat->Nat
 | 0,i=>i
 | t+1,i=>SA mask t (stp mask i)
def orb(mask:Nat):Nat->Nat->A0 Nat
 | 0,_=>[]
 | n+1,i=>i::orb mask n (stp mask i)
def Kr(mask a b i:Nat):SA mask (a+b) i=SA mask b (SA mask a i):=by
 induction a generalizing i with
 | zero=>rw[ES];rfl
 | succ a c=>rw[Nat.succ_add];exact c (stp mask i)
def Tk{mask j:Nat}:∀{n i:Nat},j∈orb mask n i->∃t,t<n/\SA mask t i=j
 | 0,_,h=>by simp[orb]at h
 | n+1,i,h=>by
  rcases AV.mp h with rfl | h
  .exact⟨0,by lia,rfl⟩
  .obtain⟨t,b,a⟩:=Tk h;exact⟨t+1,by lia,a⟩
def SD(mask:Nat):Prop:=mask=7\/mask=31\/mask=127\/mask=511
def RH(mask:Nat):Bool:=(List.range (mask+1)).all (λj=>(orb mask (mask+1) 0).contains j)&&SA mask (mask+1) 0 == 0
def zHz:RH 7=true:=by decide +kernel
def zDh:RH 31=true:=by decide +kernel
def zAc:RH 127=true:=by decide +kernel
def zBo:RH 511=true:=by decide +kernel
def SD.full{mask:Nat}(h:SD mask):RH mask=true:=by
 rcases h with rfl | rfl | rfl | rfl
 .exact zHz
 .exact zDh
 .exact zAc
 .exact zBo
def cyc{mask:Nat}(h:SD mask){i j:Nat}(hi:i<=mask)(l:j<=mask):∃t,t<=mask/\SA mask t i=j:=by
 have f:=h.full;unfold ST.RH at f;rw[C_,EA]at f;obtain⟨m,d⟩:=f;have d:SA mask (mask+1) 0=0:=by simpa using d
 have c:∀k,k<=mask->∃t,t<mask+1/\SA mask t 0=k:=λk o=>Tk (by simpa using m k (DE.mpr (by lia)));obtain⟨a,p,e⟩:=c i hi;obtain⟨b,q,g⟩:=c j l;by_cases n:a<=b
 .refine⟨b-a,by lia,?_⟩;rw[<-e,<-Kr,show a +(b-a)=b by lia,g]
 .refine⟨mask+1-a+b,by lia,?_⟩;rw[<-e,<-Kr,show a +(mask+1-a+b) =(mask+1)+b by lia,Kr,d,g]
def P_(mask:Nat):Nat->Nat×Nat->Nat×Nat
 | 0,x=>x
 | t+1,x=>P_ mask t (SetTable.leap mask x.1 x.2)
def zAe(mask a b:Nat)(x:Nat×Nat):P_ mask (a+b) x=P_ mask b (P_ mask a x):=by
 induction a generalizing x with
 | zero=>rw[ES];rfl
 | succ a c=>rw[Nat.succ_add];exact c _
def Nd(mask:Nat):∀(t:Nat) (x:Nat×Nat),(P_ mask t x).2=x.2 / 32^t
 | 0,x=>by simp[P_]
 | t+1,x=>by
  show(P_ mask t (SetTable.leap mask x.1 x.2)).2=_;rw[Nd mask t];show x.2 / 32 / 32^t=_;rw[Nat.div_div_eq_div_mul,Nat.pow_succ,Nat.mul_comm]
def Zo(mask:Nat):∀(t:Nat) (x:Nat×Nat),x.1<=mask->(P_ mask t x).1<=mask
 | 0,_,h=>h
 | t+1,x,_=>Zo mask t _ (Nat.lt_succ_iff.mp (Nat.mod_lt _ (Nat.succ_pos _)))
def Nr(mask:Nat):∀(t i:Nat),P_ mask t (i,0) =(SA mask t i,0)
 | 0,_=>rfl
 | t+1,i=>by
  show P_ mask t ((i*5+1+0 / 32) %(mask+1),0 / 32)=_;rw[Nat.zero_div,Nat.add_zero,Nr mask t,Nat.mul_comm];rfl
def Qt{mask:Nat}(h:SD mask){i j p:Nat}(hi:i<=mask)(a:j<=mask)(b:p<2^64):∃t,t<=mask+13/\(P_ mask t (i,p)).1=j:=by
 have c:(P_ mask 13 (i,p)).2=0:=by
  rw[Nd];exact Nat.div_eq_of_lt (BI b (by decide))
 obtain⟨t,e,d⟩:=cyc h (Zo mask 13 (i,p) hi) a;refine⟨13+t,by lia,?_⟩;rw[zAe];have:P_ mask 13 (i,p) =((P_ mask 13 (i,p)).1,0):=Prod.ext rfl c;rw[this,Nr];exact d
def OC(t:IV):Nat->SetTable.Probe->SetTable.Probe
 | 0,p=>p
 | n+1,p=>OC t n (t.advance p)
def Ug(t:IV)(a b:Nat)(p:SetTable.Probe):OC t (a+b) p=OC t b (OC t a p):=by
 induction a generalizing p with
 | zero=>rw[ES];rfl
 | succ a c=>rw[Nat.succ_add];exact c _
def Rz(t:IV):∀(m:Nat) (p:SetTable.Probe),p.more=m->∃a,OC t (m+1) p=a/\a.i =(SetTable.leap t.mask p.i p.perturb).1/\a.perturb =(SetTable.leap t.mask p.i p.perturb).2/\a.j=a.i/\a.more=SetTable.runEnd t.mask a.i-a.i/\a.dummy=p.dummy
 | 0,p,h=>by
  have b:t.advance p ={ p with j:=(SetTable.leap t.mask p.i p.perturb).1,more:=SetTable.runEnd t.mask (SetTable.leap t.mask p.i p.perturb).1-(SetTable.leap t.mask p.i p.perturb).1,i:=(SetTable.leap t.mask p.i p.perturb).1,perturb:=(SetTable.leap t.mask p.i p.perturb).2 }:=by
   unfold SetTable.advance;rw[AI (by lia)]
  refine⟨t.advance p,rfl,?_⟩;rw[b];exact⟨rfl,rfl,rfl,rfl,rfl⟩
 | m+1,p,h=>by
  have b:t.advance p ={ p with j:=p.j+1,more:=p.more-1 }:=by unfold SetTable.advance;rw[AO (by lia)]
  obtain⟨a,d,c⟩:=Rz t m (t.advance p) (by rw[b];show p.more-1=m;lia);rw[b]at c;exact⟨a,d,c⟩
def zDr(mask i:Nat):SetTable.runEnd mask i-i<=9:=by unfold SetTable.runEnd;split<;>lia
def Ve(t:IV):∀(n:Nat) (p:SetTable.Probe),p.j=p.i->p.more=SetTable.runEnd t.mask p.i-p.i->∃k,k<=10*n/\(OC t k p).j =(P_ t.mask n (p.i,p.perturb)).1
 | 0,p,a,_=>⟨0,by lia,a⟩
 | n+1,p,a,l=>by
  obtain⟨b,e,c,d,f,g,_⟩:=Rz t p.more p rfl;obtain⟨k,m,h⟩:=Ve t n b f g;have:=zDr t.mask p.i;refine⟨p.more+1+k,by lia,?_⟩;rw[Ug,e,h,c,d];rfl
def Il(t:IV):∀(n:Nat) (p:SetTable.Probe),(OC t n p).dummy=p.dummy
 | 0,_=>rfl
 | n+1,p=>by
  show(OC t n (t.advance p)).dummy=_;rw[Il t n];unfold SetTable.advance;split<;>rfl
def Rf{t:IV}(a:SD t.mask)(h:Int){j:Nat}(b:j<=t.mask):∃n,n<10*SetTable.turns t.mask/\(OC t n (t.probeStart h)).j=j:=by
 have c:SetTable.bits h<2^64:=by
  unfold SetTable.bits;have g:0<=h %(2^64:Int):=GF _ (by decide);have i:h %(2^64:Int)<2^64:=FI _ (by decide);lia
 have d:SetTable.bits h %(t.mask+1)<=t.mask:=Nat.lt_succ_iff.mp (Nat.mod_lt _ (Nat.succ_pos _));obtain⟨n,l,e⟩:=Qt a d b c;obtain⟨k,m,f⟩:=Ve t n (t.probeStart h) rfl rfl;refine⟨k,by unfold SetTable.turns;lia,f.trans e⟩
def Ay{t:IV}(a:t.dummies = #[])(j:Nat):t.slot j = .empty\/∃i,t.slot j = .live i/\t.place[i]?=some j:=by
 unfold SetTable.slot;dsimp only;by_cases h:(t.place[SetTable.below t.place j]? == some j)=true
 .rw[AO h];exact .inr ⟨_,rfl,by simpa using h⟩
 .rw[AI h];have:SetTable.has t.dummies j=false:=by
   rw[a];unfold SetTable.has;simp
  rw[this];exact .inl rfl
def Pg{t:IV}(c:t.dummies = #[])(f:t.place.size<=t.mask):∃j,j<=t.mask/\t.slot j = .empty:=by
 by_cases h:∃j,j<=t.mask/\t.slot j = .empty
 .exact h
 .exfalso;have a:∀j∈List.range (t.mask+1),j∈t.place.toList:=λj d=>by
   have b:j<=t.mask:=by have:=DE.mp d;lia
   rcases Ay c j with e | ⟨i,_,e⟩
   .exact absurd ⟨j,b,e⟩ h
   .exact AZ (by rw[BK];exact e)
  have:=(List.nodup_range (n:=t.mask+1)).length_le_of_subset a;rw[DW,AU]at this;lia
def Yo{t:IV}(o:t.dummies = #[])(hashAt:Nat->Int)(h:Int)(p:SetTable.Probe)(c:p.dummy=none):∀(k m n a:Nat),m+k=n->t.slot (OC t n p).j = .empty->k<a ->
  (∃j,SetTable.probe.go t hashAt h a (OC t m p)=some (.empty j none)/\t.slot j = .empty) \/
   ∃l i,m<=l/\l<n/\t.slot (OC t l p).j = .live i/\hashAt i=h/\SetTable.probe.go t hashAt h a (OC t m p)=some (.candidate (OC t l p).j i (OC t (l+1) p))
 | k,m,n,0,_,_,q=>absurd q (Nat.not_lt_zero _)
 | k,m,n,a+1,e,r,q=>by
  have d:(OC t m p).dummy=none:=(Il t m p).trans c;have s:OC t (m+1) p=t.advance (OC t m p):=Ug t m 1 p;rcases Ay o (OC t m p).j with b | ⟨i,b,A⟩
  .refine .inl ⟨(OC t m p).j,?_,b⟩;unfold SetTable.probe.go;rw[b,d]
  .have B:k≠0:=by
    rintro rfl;have:m=n:=by lia
    subst this;rw[r]at b;cases b
   by_cases f:hashAt i=h
   .refine .inr ⟨m,i,VD _,by lia,b,f,?_⟩;unfold SetTable.probe.go;rw[b];dsimp only;rw[AO (by simpa using f),s]
   .have u:SetTable.probe.go t hashAt h (a+1) (OC t m p)=SetTable.probe.go t hashAt h a (OC t (m+1) p):=by
     conv=>lhs;unfold SetTable.probe.go
     rw[b];dsimp only;rw[AI (by simpa using f),s]
    rcases Yo o hashAt h p c (k-1) (m+1) n a (by lia) r (by lia)with⟨j,v,g⟩ | ⟨l,w,v,g,x,y,z⟩
    .exact .inl ⟨j,u.trans v,g⟩
    .exact .inr ⟨l,w,by lia,g,x,y,u.trans z⟩
def Gq{α β:Type}{f g:α->A5 β}:∀{l:A0 α},(∀x∈l,f x=g x)->l.filterMap f=l.filterMap g
 | [],_=>rfl
 | a::r,h=>by
  have b:=h a (BA ..);have c:=Gq (l:=r) λx d=>h x (AM _ d);rw[DU,DU,b,c]
def Zq{α:Type}{f g:Nat->A5 α}{j:Nat}{k:α}(d:g j=some k)(m:f j=none):∀{l:A0 Nat},l.Nodup->j∈l->(∀i,i≠j->g i=f i)->(l.filterMap g).Perm (k::l.filterMap f)
 | [],_,h,_=>by simp at h
 | i::r,o,h,a=>by
  obtain⟨p,q⟩:=CN.mp o;by_cases e:i=j
  .subst e;have s:r.filterMap g=r.filterMap f:=Gq λx t=>a x λz=>p (z▸t);rw[EU d,HJ m,s]
  .have n:=Zq d m q ((AV.mp h).resolve_left λz=>e z.symm) a;cases c:f i with
   | none=>rw[HJ ((a i e).trans c),HJ c];exact n
   | some b =>
    rw[EU ((a i e).trans c),EU c];exact(List.Perm.cons b n).trans (List.Perm.swap _ _ _)
def UE(mask:Nat)(a:IG (A5 Nat)):A0 Nat:=(List.range (mask+1)).filterMap λj=>a.getD j none
structure LI(mask:Nat)(ow:IG (A5 Nat))(k:Nat):Prop where
 sz:ow.size=mask+1
 pm:(UE mask ow).Perm (List.range k)
def Uz{mask:Nat}{b:IG (A5 Nat)}{j:Nat}(c:b[j]?=some none):∀(t a i p:Nat),(P_ mask t (i,p)).1=j->t<a->∃d,SetTable.layClean.free mask b a i p=some d/\b[d]?=some none
 | t,0,_,_,_,h=>absurd h (Nat.not_lt_zero _)
 | t,a+1,i,p,e,h=>by
  unfold SetTable.layClean.free;cases q:(List.range (SetTable.runEnd mask i+1-i)).find? λk=>(b.getD (i+k) (some 0)).isNone with
  | some k =>
   refine⟨i+k,rfl,?_⟩;have:=List.find?_some q;rw[CP]at this;cases g:b[i+k]? with
   | none=>rw[g]at this;simp at this
   | some z=>rw[g]at this;simp at this;rw[this]
  | none =>
   dsimp only;cases t with
   | zero =>
    exfalso;have f:i=j:=e;subst f;have l:0∈List.range (SetTable.runEnd mask i+1-i):=DE.mpr (by unfold SetTable.runEnd;split<;>lia);have:=List.find?_eq_none.mp q 0 l;rw[CP,Nat.add_zero,c]at this;simp at this
   | succ t=>exact Uz c t a _ _ e (by lia)
def LI.room{mask:Nat}{a:IG (A5 Nat)}{k:Nat}(h:LI mask a k)(p:k<=mask):∃j,j<=mask/\a[j]?=some none:=by
 by_cases q:∃j,j<=mask/\a[j]?=some none
 .exact q
 .exfalso;have b:∀j∈List.range (mask+1),∃v,a.getD j none=some v:=λj c=>by
   have g:j<a.size:=by rw[h.sz];exact DE.mp c
   cases e:a[j]? with
   | none=>rw[Array.getElem?_eq_none_iff]at e;lia
   | some v =>
    cases v with
    | none=>exact absurd ⟨j,by have:=DE.mp c;lia,e⟩ q
    | some v=>exact⟨v,by rw[CP,e];rfl⟩
  have i:∀l:A0 Nat,(∀j∈l,∃v,a.getD j none=some v)->(l.filterMap λj=>a.getD j none).length=l.length:=by
   intro l
   induction l with
   | nil=>intro _;rfl
   | cons j r m =>
    intro d;obtain⟨v,n⟩:=d j (BA ..);rw[EU (f:=λj=>a.getD j none) n,BQ,BQ,m λx o=>d x (AM _ o)]
  have:=h.pm.length_eq;unfold UE at this;rw[i _ b,DW,DW]at this;lia
def LI.put{mask:Nat}{a:IG (A5 Nat)}{k j:Nat}(h:LI mask a k)(c:a[j]?=some none):LI mask (a.setIfInBounds j (some k)) (k+1):=by
 have b:j<a.size:=by
  obtain⟨d,_⟩:=CH.mp c;exact d
 refine⟨by rw[HI];exact h.sz,?_⟩;have p:=Zq (f:=λj=>a.getD j none) (g:=λi=>(a.setIfInBounds j (some k)).getD i none) (j:=j) (k:=k) (by rw[CP,Array.getElem?_setIfInBounds_self_of_lt b];rfl) (by rw[CP,c];rfl)
  (l:=List.range (mask+1)) List.nodup_range (DE.mpr (by rw[<-h.sz];exact b)) λi m=>by
   rw[CP,Array.getElem?_setIfInBounds_ne (Ne.symm m),<-CP]
 have e:List.range (k+1)=List.range k ++ [k]:=List.range_succ;refine p.trans ?_;rw[e];exact(List.Perm.cons k h.pm).trans (CY (l₁:=[k]))
def zCf(h:Int):SetTable.bits h<2^64:=by
 unfold SetTable.bits;have a:0<=h %(2^64:Int):=GF _ (by decide);have b:h %(2^64:Int)<2^64:=FI _ (by decide);lia
def Zm{mask:Nat}(e:SD mask):∀(c:A0 Int) (a:IG (A5 Nat)) (k:Nat),LI mask a k->k+c.length<=mask->∃b,(c.foldl (init:=some (a,k)) λd h=>do
   let(owner,k) <-d
   let j <-SetTable.layClean.free mask owner (SetTable.turns mask) (SetTable.bits h %(mask+1)) (SetTable.bits h)
   pure (owner.setIfInBounds j (some k),k+1))=some (b,k+c.length)/\LI mask b (k+c.length)
 | [],a,k,h,_=>⟨a,rfl,h⟩
 | x::r,a,k,h,g=>by
  rw[BQ]at g;obtain⟨j,l,m⟩:=h.room (by lia);obtain⟨t,u,n⟩:=Qt e (i:=SetTable.bits x %(mask+1)) (j:=j) (Nat.lt_succ_iff.mp (Nat.mod_lt _ (Nat.succ_pos _))) l (zCf x);obtain⟨f,o,p⟩:=Uz m t (SetTable.turns mask) _ _ n (by unfold SetTable.turns;lia);obtain⟨b,q,s⟩:=Zm e r (a.setIfInBounds f (some k)) (k+1) (h.put p) (by lia);refine⟨b,?_,by rw[BQ,show k +(r.length+1)=k+1+r.length by lia];exact s⟩;rw[HL];show List.foldl _ ((SetTable.layClean.free mask a (SetTable.turns mask) (SetTable.bits x %(mask+1)) (SetTable.bits x)).bind λj=>some (a.setIfInBounds j (some k),k+1)) r=_;rw[o];show List.foldl _ (some (a.setIfInBounds f (some k),k+1)) r=_;rw[BQ,show k +(r.length+1)=k+1+r.length by lia];exact q
def zAq{mask:Nat}(h:SD mask)(finger moves:Nat)(led plain:Bool)(c:IG Int)(l:c.size<=mask) :
  ∃place a,SetTable.laid mask finger moves led plain c=some ({ mask,place,dummies:=#[],finger,led,moves,plain },a)/\place.size=c.size/\a.toList.Perm (List.range c.size):=by
 have i:LI mask (Array.replicate (mask+1) none) 0:=by
  refine⟨Array.size_replicate,?_⟩;have:UE mask (Array.replicate (mask+1) none) = []:=by
   unfold UE;rw[List.filterMap_eq_nil_iff];intro j m;rw[CP,Array.getElem?_replicate];split<;>rfl
  rw[this];exact List.Perm.refl _
 obtain⟨b,e,d⟩:=Zm h c.toList _ 0 i (by rw[AU];lia);rw[ES,AU]at e d;have k:SetTable.layClean mask c=some b:=by
  unfold SetTable.layClean;rw[<-Array.foldl_toList,e];rfl
 have g:((List.range (mask+1)).filterMap λj=>(b.getD j none).map (j,·)).map (·.2)=UE mask b:=by
  unfold UE;rw[List.map_filterMap];refine Gq λj _=>?_;cases b.getD j none<;>rfl
 refine⟨(((List.range (mask+1)).filterMap λj=>(b.getD j none).map (j,·)).map (·.1)).toArray,(((List.range (mask+1)).filterMap λj=>(b.getD j none).map (j,·)).map (·.2)).toArray,?_,?_,?_⟩
 .unfold SetTable.laid;rw[k];rfl
 .rw[AR,AB,<-AB (f:=(·.2)),g,d.pm.length_eq,DW]
 .show(((List.range (mask+1)).filterMap λj=>(b.getD j none).map (j,·)).map (·.2)).Perm _;rw[g];exact d.pm
def Wp{c:IG (Int×A2)}{b:IG Nat}(h:b.toList.Perm (List.range c.size)):(b.filterMap (c[·]?)).toList.Perm c.toList:=by
 rw[Array.toList_filterMap];refine(h.filterMap _).trans (FA ?_);refine FN λt=>?_;have:(List.range c.size).filterMap (λx=>c[x]?)=c.toList:=by
  have:∀(l:A0 (Int×A2)),(List.range l.length).filterMap (λx=>l[x]?)=l:=by
   intro l
   induction l with
   | nil=>rfl
   | cons a r d =>
    rw[BQ,List.range_succ_eq_map,EU (by rfl:(a::r)[0]?=some a),List.filterMap_map];congr 1
  have q:=this c.toList;rw[AU]at q;simpa using q
 rw[this]
section
variable{prog:IE}{w:IJ}{K:Type}[DecidableEq K]{knd:KeyKind prog w K}{A:IM}{E:A2->A4->Prop}{s:A4}
structure SX(t:IV)(n:Nat):Prop where
 dm:t.dummies = #[]
 pl:t.place.size=n
 mm:SD t.mask
 rm:n*5<t.mask*3
theorem SX.fits{t:IV}{n:Nat}(h:SX t n):t.fits n=true:=by
 have:=h.rm;have:=h.pl;unfold SetTable.fits SetTable.fill;rw[h.dm];simp;lia
theorem SX.odd{t:IV}{n:Nat}(h:SX t n):t.gaveWay=false:=by
 unfold SetTable.gaveWay;rcases h.mm with e | e | e | e<;>rw[e]<;>rfl
def TU(knd:KeyKind prog w K)(a:IG (Int×A2))(b:A0 (A0 K×A3)):Prop:=a.toList.Perm (b.map λq=>((tupleKind knd).hash q.1,Value.ref q.2))
def NR(knd:KeyKind prog w K)(h:IP)(a:A3)(c:A0 (A0 K×A3)):Prop:=∃o b d t,h.get? a=some o/\o.ExactSet/\o.data = .set b d t/\TU knd b c/\SX t b.size
theorem TU.get{a:IG (Int×A2)}{b:A0 (A0 K×A3)}(h:TU knd a b){i:Nat}{e:Int×A2}(c:a[i]?=some e):∃k p,(k,p)∈b/\e =((tupleKind knd).hash k,.ref p):=by
 have:e∈a.toList:=AZ (by rw[BK];exact c);obtain⟨q,d,rfl⟩:=BJ.mp (h.mem_iff.mp this);exact⟨q.1,q.2,d,rfl⟩
theorem Cu{β:Type}{c:β}{f:A2->β->Sem (ForInStep β)}:∀{l:A0 A2},(∀y∈l,f y c=pure (.yield c))->forIn l c f=pure c
 | [],_=>List.forIn_nil
 | a::r,h=>by
  rw[List.forIn_cons,h a (BA ..),pure_bind];exact Cu λy b=>h y (AM _ b)
theorem Jd{a:A0 K}{vs:A0 A2}(h:ItemsAre knd a vs):∀v∈vs,∃x,knd.is x v=true:=by
 induction h with
 | nil=>intro v hv;simp at hv
 | cons b _ c =>
  intro v hv;rcases AV.mp hv with rfl | hv
  .exact⟨_,b⟩
  .exact c v hv
def Flat(knd:KeyKind prog w K):Prop:=∀v,(∃x,knd.is x v=true)->carriedByValue v=true
theorem Flat.no{v:A2}(a:Flat knd)(h:∃x,knd.is x v=true)(d:Nat):ofAClassStatement d v=pure false:=by
 have:=a v h;cases v<;>first
  | (cases d<;>rfl)
  | (exact absurd this (by intro z;cases z))
theorem Zs{k:A0 K}{p:A3}{Q:Bool->A4->Prop}(c:Flat knd)(d:(tupleKind knd).is s.heap k p)(h:Q false s):wpAny (model prog w) A (ofAClassStatement 8 (.ref p)) Q E s:=by
 obtain⟨o,a,n,b,e,f,g⟩:=d;have i:s.TypeIs (.ref p) "tuple":=⟨o,b,e⟩;unfold ofAClassStatement;refine AA (FZ i ?_);dsimp only;rw[AO (by rfl)];refine AA (AC ?_);simp only[ET,BD,CQ];refine AA (EE b f ?_);dsimp only;rw[<-Array.forIn_toList,Cu λy j=>by rw[c.no (Jd g y j)];rfl];exact AA (AC (AC h))
theorem zDy{m:A0 K}{b:A3}{Q:Bool->A4->Prop}(g:Flat knd)(i:(tupleKind knd).is s.heap m b)(h:Q false s){l:A0 A2}(n:∀v∈l,∃k p,v = .ref p/\(tupleKind knd).is s.heap k p) :
  wpAny (model prog w) A (searchCouldBeSeen (.ref b) l) Q E s:=by
 unfold searchCouldBeSeen;refine AA (wpAny_forIn_list _ (λa c d=>d=s/\c =(none,())/\∀v∈a,v∈l) _ ?_ ?_ l _ ⟨rfl,rfl,λ_ h=>h⟩)
 .rintro v a c d ⟨rfl,rfl,e⟩;obtain⟨k,p,rfl,j⟩:=n v (e v (BA ..));dsimp only;have o:carriedByValue (Value.ref b)=false:=rfl;rw[o,DP,Bool.or_false];split
  .exact AC ⟨rfl,rfl,λu f=>e u (AM _ f)⟩
  .refine AA ((tupleKind knd).quiet i ?_);simp only[ET,BD,CQ];refine AA ((tupleKind knd).quiet j ?_);simp only[ET,BD,CQ];refine AA (Zs g i ?_);simp only[BD,CQ];refine AA (Zs g j ?_);simp only[BD,CQ];exact AC ⟨rfl,rfl,λu f=>e u (AM _ f)⟩
 .rintro c d ⟨rfl,rfl,_⟩;exact AC h
theorem Yj(t:IV):t.sameMemory t.moves t.mask=some true:=by
 unfold SetTable.sameMemory;simp
theorem Ko{a:A3}{o:Obj}{r:IG (Int×A2)}{ep:Nat}{t:IV}{M:A0 (A0 K×A3)}{d:A0 K}{G:A3}{c:Bool}{Q:SetFound->A4->Prop}{n:Nat}
  (hr:(tupleKind knd).room A) (hF:Flat knd) (V:s.heap.get? a=some o) (W:o.data = .set r ep t) (X:TU knd r M) (D:SX t r.size)
  (H:∀q∈M,(tupleKind knd).is s.heap q.1 q.2) (Y:(tupleKind knd).is s.heap d G) (N:∀q∈M,q.1≠d) (hn:n<10*SetTable.turns t.mask)
  (he:t.slot (OC t n (t.probeStart ((tupleKind knd).hash d))).j = .empty) (h:∀j,t.slot j = .empty->Q (.free j false) s) :
  ∀(k m b:Nat) (e:A5 SetTable.Probe),e.getD (t.probeStart ((tupleKind knd).hash d))=OC t m (t.probeStart ((tupleKind knd).hash d))->m+k=n->k<b ->
   wpAny (model prog w) A (setSearchFrom a (.ref G) ((tupleKind knd).hash d) c b e) Q E s:=by
 intro k
 induction k using Nat.strongRecOn with
 | _ k ih =>
  intro m b e O P hf;cases b with
  | zero=>lia
  | succ b =>
   unfold setSearchFrom;refine AA (CF V W D.fits ?_);dsimp only;rw[D.odd];simp only[BD,CQ];rw[O];unfold SetTable.probe;rcases Yo D.dm _ ((tupleKind knd).hash d) (t.probeStart ((tupleKind knd).hash d)) rfl k m n (10*SetTable.turns t.mask) P he (by lia)with⟨j,F,Z⟩ | ⟨l,i,h1,h2,F,Z,e3⟩
   .rw[F];dsimp only;exact AC (h j Z)
   .rw[e3];dsimp only;obtain⟨u,I,R⟩:∃u,t.slot (OC t l (t.probeStart ((tupleKind knd).hash d))).j = .live u/\t.place[u]?=some (OC t l (t.probeStart ((tupleKind knd).hash d))).j:=by
     rcases Ay D.dm (OC t l (t.probeStart ((tupleKind knd).hash d))).j with z | z
     .rw[z]at F;cases F
     .exact z
    rw[F]at I;cases I;have S:i<r.size:=by
     have:=(CH.mp R).1;rw[D.pl]at this;exact this
    obtain⟨J,f⟩:∃J,r[i]?=some J:=⟨r[i],CH.mpr ⟨S,rfl⟩⟩;obtain⟨k',p',L,rfl⟩:=X.get f;have B:∀v∈(r.filter (·.1 ==(tupleKind knd).hash d)).toList.map (·.2),∃k p,v = .ref p/\(tupleKind knd).is s.heap k p:=by
     intro v hv;obtain⟨z,hz,rfl⟩:=BJ.mp hv;have T:z∈r.toList:=by
      rw[Array.toList_filter]at hz;exact(AW.mp hz).1
     obtain⟨q,hq,rfl⟩:=BJ.mp (X.mem_iff.mp T);exact⟨q.1,q.2,rfl,H q hq⟩
    have x:wpAny (model prog w) A (do
      let some (_,y):=r[i]? | unsupported "internal:set-entry"
      let g <-holding [y] (eqBool y (.ref G))
      let(U,_,t') <-setState a
      if c&&g then return .there none
      let some same:=t'.sameMemory t.moves t.mask | unsupported "set.changed-during-lookup:is-the-new-block-at-the-old-address"
      let C <-match(if same then t'.slot (OC t l (t.probeStart ((tupleKind knd).hash d))).j else .empty)with
       | .live u=>match U[u]? with
        | some (_,y')=>do pure (if <-isSame y' y then some u else none)
        | none=>pure none
       | _=>pure none
      match C with
      | none=>rule "set.search.anew";setSearchFrom a (.ref G) ((tupleKind knd).hash d) c b none
      | some u=>if g then return .there (some u)else setSearchFrom a (.ref G) ((tupleKind knd).hash d) c b (some (OC t (l+1) (t.probeStart ((tupleKind knd).hash d))))) Q E s:=by
     rw[f];dsimp only;refine AA (BN ((tupleKind knd).eqBool hr (H _ L) Y ?_));rw[AL (N _ L)];refine AA (CF V W D.fits ?_);dsimp only;rw[Yj,HU];simp only[BD,CQ,GL];rw[F];dsimp only;rw[f];dsimp only;refine AA (wpAny_isSame_ref_self (AA (AC ?_)));simp only[GL];exact ih (n-(l+1)) (by lia) (l+1) b _ rfl (by lia) (by lia)
    cases hled:t.led with
    | true =>
     simp only[ET,BD,CQ];exact x
    | false =>
     simp only[HV,GL];refine AA (zDy hF Y ?_ B);simp only[BD,CQ];exact x
theorem Dw{a:A3}{o:Obj}{f:IG (Int×A2)}{ep:Nat}{t:IV}{g:A0 (A0 K×A3)}{d:A0 K}{l:A3}{b:Bool}{Q:SetFound->A4->Prop}
  (m:(tupleKind knd).room A) (p:Flat knd) (r:s.heap.get? a=some o) (u:o.data = .set f ep t) (v:TU knd f g) (c:SX t f.size)
  (i:∀q∈g,(tupleKind knd).is s.heap q.1 q.2) (x:(tupleKind knd).is s.heap d l) (k:∀q∈g,q.1≠d) (h:∀j,t.slot j = .empty->Q (.free j false) s) :
  wpAny (model prog w) A (setSearch a (.ref l) ((tupleKind knd).hash d) b) Q E s:=by
 obtain⟨j,y,z⟩:=Pg c.dm (by rw[c.pl];have:=c.rm;lia);obtain⟨n,B,e⟩:=Rf c.mm ((tupleKind knd).hash d) y;unfold setSearch;refine Ko m p r u v c i x k B (by rw[e];exact z) h n 0 100000 none rfl (by lia) ?_;have:SetTable.turns t.mask<=526:=by
  unfold SetTable.turns;rcases c.mm with e | e | e | e<;>lia
 lia
theorem NR.typeIs{a:A3}{b:A0 (A0 K×A3)}(h:NR knd s.heap a b):s.TypeIs (.ref a) "set":=let⟨o,_,_,_,c,d,_⟩:=h;⟨o,c,d.1⟩
theorem Vr{a:A3}{b:IG (Int×A2)}:byScan (.ref a) b=false:=rfl
theorem Rt{a:A3}{b:A0 (A0 K×A3)}{c:A0 K}{f:A3}{Q:A5 Nat->A4->Prop}(l:(tupleKind knd).room A)(m:Flat knd)(n:NR knd s.heap a b)
  (d:∀q∈b,(tupleKind knd).is s.heap q.1 q.2) (p:(tupleKind knd).is s.heap c f) (e:∀q∈b,q.1≠c) (h:Q none s):wpAny (model prog w) A (setFind a (.ref f) ((tupleKind knd).hash c)) Q E s:=by
 obtain⟨o,u,v,t,g,_,i,r,k⟩:=n;unfold setFind setFindIn;refine AA (CF g i k.fits ?_);dsimp only;rw[Vr];simp only[BD,CQ];refine AA (Dw l m g i r k d p e λj _=>?_);dsimp only;exact AC h
theorem SN{neg:Bool}{a:A3}{d:A0 (A0 K×A3)}{b:A0 K}{e:A3}{Q:A2->A4->Prop}(i:A.units+1<cLine)(k:Flat knd)(c:NR knd s.heap a d)
  (f:∀q∈d,(tupleKind knd).is s.heap q.1 q.2) (j:(tupleKind knd).is s.heap b e) (g:∀q∈d,q.1≠b) (h:Q (.bool false) { s with toks:=s.toks +(tupleKind knd).draws b }) :
  wpAny (model prog w) A (compareOp .In (.ref e) (.ref a)) Q E s:=by
 show wpAny _ _ (do return .bool (<-contains (.ref a) (.ref e))) Q E s;refine AA ?_;unfold contains
 try with_reducible refine BN ?_
 refine AA (GE c.typeIs F.slot_set_contains.lookup ?_);show wpAny _ _ (if(some (Value.builtin "set.__contains__") == some Value.none)=true then _ else _) _ E s;rw[AI (by rw[beq_builtin_none];exact BE)];refine AA (wpAny_callSpecialUnlessNone?_slot (name:=Str.ofString "__contains__") c.typeIs F.slot_set_contains
  (CG F.slot_set_contains c.typeIs entry_set_contains ?_ (F.args_set_contains_2 _ _)))
 unfold Builtin.«frozenset.__contains__» Builtin.Frozenset.oneOther;simp only[List.isEmpty_nil,bind_assoc];unfold Builtin.Frozenset.addrOf Builtin.Frozenset.withSetAsKey setContains;refine AA (AC ?_)
 try dsimp only
 refine AA (AC ?_)
 try dsimp only
 refine AA (wpAny_tryCatch ?_);refine BN ?_;refine AA ((tupleKind knd).pyHash ?hroom j ?_)
 case hroom=>exact i
 refine AA (Rt (s:={ s with toks:=s.toks +(tupleKind knd).draws b }) ?hroom k c f j g ?_)
 case hroom=>exact i
 refine AC ?_;show wpAny _ _ (ret (Value.bool false)) _ _ _;exact AC ⟨_,rfl,DA (AC h)⟩
def SS(knd:KeyKind prog w K):Prop:=∀v,(∃x,knd.is x v=true)->v.scannable=true
theorem hbv{j:A0 K}{f:A3}{Q:Bool->A4->Prop}(k:SS knd)(l:(tupleKind knd).is s.heap j f)(h:∀b,Q b s):wpAny (model prog w) A (hashByValue 8 (.ref f)) Q E s:=by
 obtain⟨o,d,n,g,m,p,r⟩:=l;have t:s.TypeIs (.ref f) "tuple":=⟨o,g,m⟩;unfold hashByValue;refine AA (GE t F.slot_tuple_hash.lookup ?_);dsimp only;refine AA (EE g p ?_);dsimp only[Option.getD_some];rw[<-Array.forIn_toList];refine AA (BS (wpAny_forIn_list _ (λa c e=>e=s/\c =(none,())/\∀v∈a,v∈d.toList) (λc e=>e=s/\(c =(none,())\/c =(some false,()))) ?_ ?_ _ _ ⟨rfl,rfl,λ_ z=>z⟩) ?_ λ_ _ q=>q)
 .rintro v a c e ⟨rfl,rfl,i⟩;rw[hashByValue_scannable _ (k v (Jd r v (i v (BA ..))))];refine AA (AC ?_);cases plainKind v with
  | true =>
   simp only[ET,BD,CQ];exact AC ⟨rfl,rfl,λu x=>i u (AM _ x)⟩
  | false =>
   simp only[HV,GL];exact AC ⟨rfl,.inr rfl⟩
 .rintro c e ⟨rfl,rfl,_⟩;exact⟨rfl,.inl rfl⟩
 .rintro c e ⟨rfl,rfl | rfl⟩
  .exact AC (h _)
  .exact AC (h _)
theorem Ao{α:Type}(xs:IG α)(p:Nat)(x:α)(a:p<=xs.size):(SetTable.insertAt xs p x).size=xs.size+1:=by
 unfold SetTable.insertAt;rw[Array.size_append,Array.size_push,FX,FX];lia
theorem He{α:Type}(xs:IG α)(p:Nat)(x:α)(b:p<=xs.size):(SetTable.insertAt xs p x).toList.Perm (xs.toList ++ [x]):=by
 unfold SetTable.insertAt;rw[BT,DF,EX,EX];simp only[EL,EW,Nat.sub_zero];have e:List.take (xs.size-p) (List.drop p xs.toList)=List.drop p xs.toList:=by
  rw[DT];rw[DJ,AU];lia
 rw[e];have a:xs.toList=xs.toList.take p++xs.toList.drop p:=(CA ..).symm
 conv=>rhs;rw[a]
 rw[BH,BH];exact CZ _ CY
theorem y9(xs:IG Nat)(j:Nat):∀(f lo hi:Nat),lo<=hi->SetTable.below.go xs j f lo hi<=hi
 | 0,lo,hi,h=>h
 | f+1,lo,hi,h=>by
  unfold SetTable.below.go;split
  .rename_i a;dsimp only;split
   .exact y9 xs j f _ _ (by lia)
   .exact VE (y9 xs j f _ _ (by lia)) (by lia)
  .exact h
theorem We(xs:IG Nat)(j:Nat):SetTable.below xs j<=xs.size:=y9 xs j _ _ _ (BZ _)
theorem zFr{t:IV}(a:t.dummies = #[])(j:Nat):t.put j =({ t with place:=SetTable.insertAt t.place (SetTable.below t.place j) j },SetTable.below t.place j):=by
 unfold SetTable.put;have:SetTable.has t.dummies j=false:=by
  rw[a];unfold SetTable.has;simp
 rw[this];rfl
theorem zJh:SetTable.sizeAbove 20=32:=by decide
theorem zJg:SetTable.sizeAbove 76=128:=by decide
theorem zGu:SetTable.sizeAbove 308=512:=by decide
theorem Wy{f:IG (Int×A2)->A5 (IV×IG Nat)->Sem (IG (Int×A2)×IV)}(y:∀c g,f c g =(do
  let some (t,b):=g | unsupported "internal:set-table-without-room"
  let d:=b.filterMap (c[·]?)
  if d.size != c.size then unsupported "internal:set-table-lost-an-element"
  pure (d,t)))
  {a:A3} {o:Obj} {c:IG (Int×A2)} {ep:Nat} {t:IV} {n m:Nat} {Q:Unit->A4->Prop} (q:s.heap.get? a=some o) (r:o.data = .set c ep t) (z:t.dummies = #[]) (j:t.fits c.size=true)
  (l:SetTable.sizeAbove n=m+1) (i:SD m) (hsz:c.size*5<m*3)
  (h:∀(d:IG (Int×A2)) (t':IV),d.toList.Perm c.toList->SX t' d.size->Q () { s with heap:=s.heap.update a (Obj.putSet d t') }) :
  wpAny (model prog w) A (do
   let(c,_,t) <-setState a
   if SetTable.sizeAbove n>sizeLine then unsupported "set:memory"
   let(c,t) <-f c (t.relaid (c.map (·.1)) n)
   storeSet a c t) Q E s:=by
 refine AA (CF q r j ?_);dsimp only;have p:m<=511:=by rcases i with e | e | e | e<;>lia
 rw[l,AI (by rw[sizeLine_eq];lia)];rw[y];have B:(c.map (·.1)).size<=m:=by rw[HR];lia
 obtain⟨place,b,u,C,v⟩:=zAq i t.finger (t.movedTo (SetTable.sizeAbove n-1)) t.led t.plain (c.map (·.1)) B;have D:t.relaid (c.map (·.1)) n=some ({ mask:=m,place,dummies:=#[],finger:=t.finger,led:=t.led,moves:=t.movedTo (SetTable.sizeAbove n-1),plain:=t.plain },b):=by
  unfold SetTable.relaid;rw[l];rw[l]at u;exact u
 rw[D];dsimp only;have x:(b.filterMap (c[·]?)).toList.Perm c.toList:=Wp (by rw[HR]at v;exact v);have k:(b.filterMap (c[·]?)).size=c.size:=by rw[<-AU,x.length_eq,AU]
 rw[AI (by rw[k];simp)];refine AA (AC ?_);dsimp only;refine HW q r (h _ _ x ⟨rfl,?_,i,?_⟩) (by rw[k,sizeLine_eq];lia)
 .rw[k,C,HR]
 .rw[k];exact hsz
theorem Gk{h:IP}{a:A3}{o:Obj}{d:IG (Int×A2)}{ep:Nat}{t:IV}(e:h.get? a=some o)(c:o.data = .set d ep t)(b:IG (Int×A2))(t':IV) :
  (h.update a (Obj.putSet b t')).get? a=some { o with data:=.set b (ep+1) t' }:=by
 have:=BW (Obj.putSet b t') e (by rw[putSet_of b t' c];rfl);rw[putSet_of b t' c]at this;exact this
theorem Pi{a:A3}{p:A0 (A0 K×A3)}{g:A0 K}{l:A3}{Q:Bool->A4->Prop}(W:(tupleKind knd).room A)(X:Flat knd)(Y:SS knd)(Z:NR knd s.heap a p)
  (J:∀q∈p,(tupleKind knd).is s.heap q.1 q.2) (T:(tupleKind knd).is s.heap g l) (L:∀q∈p,q.1≠g) (hl:p.length+1<=300)
  (h:∀h',Heap.SameBut a s.heap h'->NR knd h' a (p ++ [(g,l)])->Q true { s with heap:=h' }) :
  wpAny (model prog w) A (setAddHashed a (.ref l) ((tupleKind knd).hash g)) Q E s:=by
 obtain⟨o,c,ep,t,z,B,C,M,i⟩:=Z;have hsz:c.size=p.length:=by
  have:=M.length_eq;rw[AU,AB]at this;exact this
 unfold setAddHashed setAddHashedIn;refine BN ?_;refine AA (CF z C i.fits ?_);dsimp only;rw[Vr];simp only[BD,CQ];refine AA (Dw W X z C M i J T L λj hj=>?_);dsimp only;refine AA (CF z C i.fits ?_);dsimp only;rw[zFr i.dm];dsimp only;have N:=We t.place j;have D:SetTable.below t.place j<=c.size:=by rw[i.pl]at N;exact N
 have hrm:=i.rm;have r:=i.mm;have d:=Ao c (SetTable.below t.place j) ((tupleKind knd).hash g,Value.ref l) D;have O:=He c (SetTable.below t.place j) ((tupleKind knd).hash g,Value.ref l) D;have F:∀f:IG (Int×A2),f.toList.Perm (SetTable.insertAt c (SetTable.below t.place j) ((tupleKind knd).hash g,Value.ref l)).toList->TU knd f (p ++ [(g,l)]):=λf P=>by
  unfold TU;rw[AH];exact P.trans (O.trans (M.append_right _))
 have u:∀n:IV,n.dummies = #[]->n.mask=t.mask->n.place.size=c.size+1->wpAny (model prog w) A (do
   storeSet a (SetTable.insertAt c (SetTable.below t.place j) ((tupleKind knd).hash g,Value.ref l)) n
   if(!false&&n.tooFull)=true then do
    setRelay a (SetTable.grown (c.size+1))
    pure true
   else pure true) Q E s:=by
  intro n H I R;refine AA (HW z C ?_ (by rw[d,sizeLine_eq];lia));have v:=Gk z C (SetTable.insertAt c (SetTable.below t.place j) ((tupleKind knd).hash g,Value.ref l)) n;have G:=DM s.heap a (Obj.putSet (SetTable.insertAt c (SetTable.below t.place j) ((tupleKind knd).hash g,Value.ref l)) n);have S:n.tooFull=decide ((c.size+1)*5 ≥ t.mask*3):=by
   unfold SetTable.tooFull SetTable.fill;rw[H,I,R];rfl
  rw[S,HV,IC];by_cases k:(c.size+1)*5 ≥ t.mask*3
  .rw[AQ k,AO rfl];have x:∃m,SetTable.sizeAbove (SetTable.grown (c.size+1))=m+1/\SD m/\(c.size+1)*5<m*3:=by
    have hg:SetTable.grown (c.size+1) =(c.size+1)*4:=by
     unfold SetTable.grown;rw[AI (by lia)]
    rw[hg];rcases r with e | e | e | e
    .have:c.size+1=5:=by lia
     rw[this];exact⟨31,zJh,.inr (.inl rfl),by decide⟩
    .have:c.size+1=19:=by lia
     rw[this];exact⟨127,zJg,.inr (.inr (.inl rfl)),by decide⟩
    .have:c.size+1=77:=by lia
     rw[this];exact⟨511,zGu,.inr (.inr (.inr rfl)),by decide⟩
    .lia
   obtain⟨m,c1,c2,c3⟩:=x;refine AA ?_;unfold setRelay;refine Wy (λ_ _=>rfl) (s:={ s with heap:=_ }) v rfl H ?_ c1 c2 (by rw[d];exact c3) λf U P ht=>?_
   .unfold SetTable.fits SetTable.fill;rw[d,R,H,I];have V:c.size+1+0<=t.mask:=by rcases r with e | e | e | e<;>lia
    simp;lia
   .refine AC (h _ (G.trans (DM _ a _)) ?_);exact⟨_,f,_,U,Gk v rfl f U,B,rfl,F f P,ht⟩
  .rw[AL k,AI (by decide)];refine AC (h _ G ⟨_,_,_,n,v,B,rfl,F _ (.refl _),⟨H,?_,?_,?_⟩⟩)
   .rw[R,d]
   .rw[I];exact r
   .rw[I,d];lia
 have y:(SetTable.insertAt t.place (SetTable.below t.place j) j).size=c.size+1:=by rw[Ao _ _ _ N,i.pl]
 cases hpl:t.plain with
 | true =>
  simp only[GL];refine AA (hbv Y T λb=>?_);cases b with
  | true =>
   simp only[GL];exact u _ i.dm rfl y
  | false =>
   simp only[BD,CQ];exact u _ i.dm rfl y
 | false =>
  simp only[BD,CQ];refine AA (AC ?_);simp only[GL];exact u _ i.dm rfl y
theorem RY{a:A3}{b:A0 (A0 K×A3)}{c:A0 K}{d:A3}{Q:A2->A4->Prop}(j:A.units+1<cLine)(m:Flat knd)(n:SS knd)(k:NR knd s.heap a b)
  (e:∀q∈b,(tupleKind knd).is s.heap q.1 q.2) (l:(tupleKind knd).is s.heap c d) (f:∀q∈b,q.1≠c) (o:b.length+1<=300)
  (h:∀h',Heap.SameBut a s.heap h'->NR knd h' a (b ++ [(c,d)])->Q .none { s with heap:=h',toks:=s.toks +(tupleKind knd).draws c }) :
  wpAny (model prog w) A (call (.builtin "set.add") [.ref a,.ref d]) Q E s:=by
 refine CG F.slot_set_add k.typeIs F.entry_set_add ?_ (F.args_set_add_2 _ _);unfold Builtin.«set.add» Builtin.Frozenset.oneOther;simp only[List.isEmpty_nil,bind_assoc];unfold Builtin.Frozenset.addrOf setAdd;refine AA (AC ?_)
 try dsimp only
 refine AA (AC ?_)
 try dsimp only
 refine AA ?_;refine BN ?_;refine AA ((tupleKind knd).pyHash ?hroom l ?_)
 case hroom=>exact j
 refine Pi (s:={ s with toks:=s.toks +(tupleKind knd).draws c }) ?hroom m n k e l f o λh' g i=>?_
 case hroom=>exact j
 show wpAny _ _ (ret Value.none) _ _ _;exact AC ⟨_,rfl,h h' g i⟩
end
def Nt:Manifest.owners.lookup (String.ofList ['r','o','t','a','r','e','t','i','_','t','e','s'].reverse)=some Manifest.sig_set_iterator:=by kernel_rfl
def JY:Slot "set_iterator" "__next__" "set_iterator.__next__" :=
 .of (owner := "set_iterator") (n := "__next__") (by rw[typeLookup_type,builtinLookup_eq_fast];kernel_rfl) (by decide +kernel) (by decide +kernel) (by decide +kernel) (by first | exact .inl (by decide +kernel) | exact .inr (by decide +kernel)) (by rw[isSubtype_type];kernel_rfl)
def Ai:entryFor table "set_iterator.__next__" = some Builtin.«set_iterator.__next__»:=entryFor_of_tree (by kernel_rfl)
def Bs(a:A2):argsOk "set_iterator.__next__" ⟨[a],[]⟩:=by
 unfold argsOk;rw[signature?_of (id := "set_iterator.__next__") (n:=['_','_','t','x','e','n','_','_']) (o:=['r','o','t','a','r','e','t','i','_','t','e','s']) (by kernel_rfl) Nt];kernel_rfl
def Bn:Slot "set_iterator" "__iter__" "set_iterator.__iter__" :=
 .of (owner := "set_iterator") (n := "__iter__") (by rw[typeLookup_type,builtinLookup_eq_fast];kernel_rfl) (by decide +kernel) (by decide +kernel) (by decide +kernel) (by first | exact .inl (by decide +kernel) | exact .inr (by decide +kernel)) (by rw[isSubtype_type];kernel_rfl)
def Hq(a:A2):argsOk "set_iterator.__iter__" ⟨[a],[]⟩:=by
 unfold argsOk;rw[signature?_of (id := "set_iterator.__iter__") (n:=['_','_','r','e','t','i','_','_']) (o:=['r','o','t','a','r','e','t','i','_','t','e','s']) (by kernel_rfl) Nt];kernel_rfl
def Gi:entryFor table "set_iterator.__iter__" = some Builtin.«dict_keyiterator.__iter__» :=
 entryFor_alias (id' := "dict_keyiterator.__iter__") (by kernel_rfl) (by first | rfl | decide +kernel | (unfold String.splitOn;simp +decide [String.splitOnAux])) (by decide +kernel) (by kernel_rfl)
def Ie:entryFor table "set.__iter__" = some Builtin.«frozenset.__iter__» :=
 entryFor_alias (id' := "frozenset.__iter__") (by kernel_rfl) rfl (by decide +kernel) (by kernel_rfl)
def zGy:typeLookup (.type "set") "__len__" = pure (some (.builtin "set.__len__")):=by rw[typeLookup_type,builtinLookup_eq_fast];kernel_rfl
section
variable{prog:IE}{w:IJ}{A:IM}{E:A2->A4->Prop}{s:A4}
theorem Qp{n:Nat}{Q:Nat->A4->Prop}(a:n≠0)(h:∀i d,i<n->Q i { s with drawn:=d }):wpAny (model prog w) A (choose .order n) Q E s:=λΓ p hΓ=>by
 unfold choose;rw[Sem.wp_choose];exact⟨a,h _ _ (Nat.mod_lt _ (Nat.pos_of_ne_zero a))⟩
theorem KI{α:Type}:∀{l:A0 α} {i:Nat} {x:α},l[i]?=some x->(x::l.eraseIdx i).Perm l
 | [],i,x,h=>by simp at h
 | y::l,0,x,h=>by
  have:y=x:=by simpa using h
  subst this;exact .refl _
 | y::l,i+1,x,h=>by
  have a:l[i]?=some x:=by simpa using h
  exact(List.Perm.swap y x _).trans ((KI a).cons y)
theorem Ip{α:Type}{l:A0 α}{i:Nat}{x:α}(h:l[i]?=some x):(l.eraseIdx i).length+1=l.length:=(KI h).length_eq
theorem Vn{α:Type}:∀(n:Nat) (l:A0 α) (s:A4) (Q:A0 α->A4->Prop),l.length=n->(∀b d,b.Perm l->Q b { s with drawn:=d })->wpAny (model prog w) A (drawOrder n l) Q E s
 | 0,l,s,Q,a,h=>by
  unfold drawOrder;obtain rfl:=E_.mp a;exact AC (h [] s.drawn (.refl _))
 | n+1,[],s,Q,a,h=>by simp at a
 | n+1,x::f,s,Q,a,h=>by
  unfold drawOrder;refine AA (Qp (by simp) λi d g=>?_);have e:(x::f)[i]?=some ((x::f)[i]):=AF g;rw[e];dsimp only;have j:=KI e;refine AA (Vn n _ _ _ (by have:=Ip e;lia) λb k c=>?_);exact AC (h _ k ((c.cons _).trans j))
theorem Rg{α:Type}(nx:Nat->Nat):∀(f k:Nat) (left:A0 α) (out:IG α),left.length=f->(pickOrder.go nx f k left out).toList.Perm (out.toList++left)
 | 0,k,left,out,h=>by
  obtain rfl:=E_.mp h;unfold pickOrder.go;simp
 | f+1,k,left,out,h=>by
  have a:nx k % left.length<left.length:=Nat.mod_lt _ (by lia);have e:left[nx k % left.length]?=some left[nx k % left.length]:=AF a;unfold pickOrder.go;rw[e];dsimp only;have b:=KI e;refine(Rg nx f (k+1) _ _ (by have:=Ip e;lia)).trans ?_;rw[DF,BH];exact b.append_left _
theorem Dc{α:Type}(nx:Nat->Nat)(xs:IG α):(pickOrder nx xs).toList.Perm xs.toList:=by
 unfold pickOrder;have:=Rg nx xs.size 0 xs.toList #[] (AU ..);simpa using this
structure SC(w:IJ)(h:IP)(a:A3)(o:Obj)(es:IG (Int×A2))(ep:Nat)(t:IV):Prop where
 ho:h.get? a=some o
 ex:o.ExactSet
 hd:o.data = .set es ep t
 ft:t.fits es.size=true
 led:t.led=!(w.params.followText "set-order")
 pln:t.plain=true->es.size=0
 few:es.size<4096
def SJ(first:A2)(i n ep:Nat)(a:A3):Obj:={ cls:=.type "set_iterator",data:=.fields #[first,rawInt i,.ref a,rawInt n,rawInt ep] }
theorem V4{Q:Bool->A4->Prop}(h:Q (w.params.followText "set-order") s):wpAny (model prog w) A setsByText Q E s:=by
 unfold setsByText;exact AA (GV (AC h))
variable{a it:A3}{o:Obj}{es:IG (Int×A2)}{ep:Nat}{t:IV}
theorem Ci{i g:Nat}{r:A5 (A2×Nat)}{Q:A5 A2->A4->Prop}(h:A.handled=none)(S:SC w s.heap a o es ep t)(n:it≠a)(hi:s.heap.get? it=some (SJ (rawInt g) i es.size ep a))
  (c:∀(j:A5 (A2×Nat)->A4->Prop) (q:IM) (u:A2->A4->Prop),j r s->wpAny (model prog w) q (setNext a g i ep) j u s)
  (d:∀x nx h',r=some (x,nx)->h'.get? it=some (SJ (rawInt nx) (i+1) es.size ep a)->Heap.SameBut it s.heap h'->Q (some x) { s with heap:=h' })
  (f:r=none->∀h',Heap.ExtBut it s.heap h'->Q none { s with heap:=h' }):wpAny (model prog w) A (pyNext (.ref it)) Q E s:=by
 have k:s.TypeIs (.ref it) "set_iterator":=⟨_,hi,rfl⟩;unfold pyNext;refine AA (FD (CI (name:=Str.ofString "__next__") k JY (CG JY k Ai ?_ (Bs _))));unfold Builtin.«set_iterator.__next__»;refine AA (EB (a:=(Value.ref it,[])) rfl ?_);dsimp only;refine AA (wpAny_fieldsOf hi rfl ?_);dsimp only[rawInt];refine AA (wpAny_setEntries_of S.ho S.hd S.ft ?_);rw[AI (by simp)];simp only[CJ];refine AA (c _ _ _ ?_);cases r with
 | some p =>
  obtain⟨x,nx⟩:=p;dsimp only;refine AA (EF hi rfl (by simp) ?_);have l:=BW (Obj.mapFields (·.setIfInBounds 0 (rawInt (nx:Nat)))) hi rfl;refine AA (EF l rfl (by simp) ?_);have v:=BW (Obj.mapFields (·.setIfInBounds 1 (rawInt ((i:Int)+1)))) l rfl;refine AC ⟨x,rfl,AC (d x nx _ rfl ?_ ((DM ..).trans (DM ..)))⟩;exact v
 | none =>
  dsimp only;refine AA (EF hi rfl (by simp) ?_);refine AA ?_;simp only[newExc,newTuple];refine AA (BV ?_ (by size_fits));refine AA (m:=firstArgMember _ _) (EB (a:=Value.none) (by first | rfl | (simp only[firstArgMember];rfl)) ?_);refine BV ?_ (by size_fits);simp only[raiseNew];refine AA (wpAny_handled ?_)
  first | rw[show A.in1.handled=none from h] | rw[h]
  refine AA (AC (wpAny_throw ?_));refine AA (FQ (T := "StopIteration") (b:=true) ⟨_,AY _ rfl,rfl⟩ isSubtype_stop ?_);exact AC (f rfl _ ((HZ (HZ (λb o y e=>(BF _ _ (Ne.symm y)).trans e) _)) _))
end
def UM(ps:A0 Nat):Obj:={ cls:=.type "tuple",data:=.seq (ps.map λ(i:Nat)=>rawInt i).toArray }
section
variable{prog:IE}{w:IJ}{A:IM}{E:A2->A4->Prop}{s:A4}{a it T:A3}{o:Obj}{es:IG (Int×A2)}{ep:Nat}{t:IV}
theorem Nq{i:Nat}{ps:A0 Nat}{Q:A5 A2->A4->Prop}(l:A.handled=none)(S:SC w s.heap a o es ep t)(hi:s.heap.get? it=some (SJ (.ref T) i es.size ep a))(n:s.heap.get? T=some (UM ps))
  (f:∀p x h',ps[i]?=some p->es[p]?=some x->h'.get? it=some (SJ (.ref T) (i+1) es.size ep a)->Heap.SameBut it s.heap h'->Q (some x.2) { s with heap:=h' }) (g:∀p∈ps,p<es.size)
  (h:ps.length<=i->∀h',Heap.ExtBut it s.heap h'->Q none { s with heap:=h' }):wpAny (model prog w) A (pyNext (.ref it)) Q E s:=by
 have d:s.TypeIs (.ref it) "set_iterator":=⟨_,hi,rfl⟩;unfold pyNext;refine AA (FD (CI (name:=Str.ofString "__next__") d JY (CG JY d Ai ?_ (Bs _))));unfold Builtin.«set_iterator.__next__»;refine AA (EB (a:=(Value.ref it,[])) rfl ?_);dsimp only;refine AA (wpAny_fieldsOf hi rfl ?_);dsimp only[rawInt];refine AA (wpAny_setEntries_of S.ho S.hd S.ft ?_);rw[AI (by simp)];simp only[CJ];refine AA (EE n rfl ?_);dsimp only;cases e:ps[i]? with
 | some p =>
  have q:(ps.map λ(i:Nat)=>Value.int (i:Int) 0).toArray[i]?=some (.int (p:Int) 0):=by
   rw[EO,AJ,e];rfl
  have c:(ps.map λ(i:Nat)=>rawInt i).toArray[i]?=some (.int (p:Int) 0):=q;rw[c];have r:p<es.size:=g p (AZ e);obtain⟨x,j⟩:∃x,es[p]?=some x:=⟨es[p],CH.mpr ⟨r,rfl⟩⟩;dsimp only;simp only[CJ];unfold setNextDrawn;refine AA (AA (CF S.ho S.hd S.ft ?_));dsimp only;rw[AI (by simp),j];dsimp only;refine AC ?_;refine AA (EF hi rfl (by simp) ?_);have u:=BW (Obj.mapFields (·.setIfInBounds 1 (rawInt ((i:Int)+1)))) hi rfl;exact AC ⟨x.2,rfl,AC (f p x _ e j u (DM ..))⟩
 | none =>
  have c:(ps.map λ(i:Nat)=>rawInt i).toArray[i]?=none:=by
   rw[EO,AJ,e];rfl
  rw[c];dsimp only;refine AA (EF hi rfl (by simp) ?_);have v:=BW (Obj.mapFields (·.setIfInBounds 0 (rawInt 0))) hi rfl;refine AA (EF v rfl (by simp) ?_);refine AA ?_;simp only[newExc,newTuple];refine AA (BV ?_ (by size_fits));refine AA (m:=firstArgMember _ _) (EB (a:=Value.none) (by first | rfl | (simp only[firstArgMember];rfl)) ?_);refine BV ?_ (by size_fits);simp only[raiseNew];refine AA (wpAny_handled ?_);rw[show A.in1.handled=none from l];refine AA (AC (wpAny_throw ?_));refine AA (FQ (T := "StopIteration") (b:=true) ⟨_,AY _ rfl,rfl⟩ isSubtype_stop ?_);refine AC (h (GY.mp e) _ (HZ (HZ (λb z k y=>?_) _) _));exact(BF _ _ (Ne.symm k)).trans ((BF _ _ (Ne.symm k)).trans y)
def zJa(w:IJ)(a T:A3)(es:IG (Int×A2))(ep:Nat)(t:IV)(b:A0 A2)(i:Nat)(h:IP)(first:A2):Prop :=
 (w.params.followText "set-order" = true/\first=rawInt (0:Nat)/\b =(pickOrder (w.params.setOrder a ep) es).toList.map (·.2)) \/
 (w.params.followText "set-order" = false/\∃ps:A0 Nat,first = .ref T/\h.get? T=some (UM ps)/\ps.Perm (List.range es.size)/\b=ps.filterMap λp=>es[p]?.map (·.2)) \/
 (w.params.followText "set-order" = false/\es.size<=1/\b=es.toList.map (·.2)/\∃c:Nat,first=rawInt c/\(i=0->c=0)/\(i=1->∃j,t.place = #[j]/\c=j+1))
def SSt(w:IJ)(a it T:A3)(o:Obj)(es:IG (Int×A2))(ep:Nat)(t:IV)(b:A0 A2)(i:Nat)(h:IP):Prop :=
 SC w h a o es ep t/\∃first,h.get? it=some (SJ first i es.size ep a)/\zJa w a T es ep t b i h first
theorem SC.at{h h':IP}(S:SC w h a o es ep t)(e:h'.get? a=some o):SC w h' a o es ep t:=⟨e,S.ex,S.hd,S.ft,S.led,S.pln,S.few⟩
theorem zEk(j:Nat):SetTable.below #[j] 0=0:=by simp[SetTable.below,SetTable.below.go]
theorem zEm(j:Nat):SetTable.below #[j] (j+1)=1:=by simp[SetTable.below,SetTable.below.go]
theorem Vu(S:SC w s.heap a o es ep t):t.place.size=es.size:=by
 have:=S.ft;unfold SetTable.fits at this;rw[C_]at this;simpa using this.1
theorem Ro(L:A.handled=none){u:A0 A2}(m:it≠a)(Z:it≠T):Walks prog w A it [it,a,T] [it] es.size (λi v=>u[i]?=some v) (SSt w a it T o es ep t u) where
 sub:=λb M=>by simp at M;simp[M]
 frame:=λi h c ⟨S,first,B,N⟩ k=>by
  refine⟨S.at (k a (by simp) _ S.ho),first,k it (by simp) _ B,?_⟩;rcases N with z | ⟨g,ps,V,n,F,G⟩ | z
  .exact .inl z
  .exact .inr (.inl ⟨g,ps,V,k T (by simp) _ n,F,G⟩)
  .exact .inr (.inr z)
 item:=λi s Q E hlt ⟨S,first,B,N⟩ I=>by
  have d:∀c,Heap.SameBut it s.heap c->∀b H,b∉[it]->s.heap.get? b=some H->c.get? b=some H:=λc f b H M e=>(f.2 b (by simpa using M)).trans e;rcases N with⟨g,rfl,n⟩ | ⟨g,ps,rfl,n,F,G⟩ | ⟨g,V,n,sl,rfl,G,z6⟩
  .have J:=Dc (w.params.setOrder a ep) es;have C:(pickOrder (w.params.setOrder a ep) es).size=es.size:=by rw[<-AU,J.length_eq,AU]
   obtain⟨x,P⟩:∃x,(pickOrder (w.params.setOrder a ep) es)[i]?=some x:=⟨_,CH.mpr ⟨by rw[C];exact hlt,rfl⟩⟩;refine Ci (r:=some (x.2,0)) L S m B (λR A' E' q=>?_) (λy nx c D O f=>?_) (λe=>nomatch e)
   .unfold setNext setWalk;refine AA (CF S.ho S.hd S.ft ?_);dsimp only;refine AA (V4 ?_);rw[g,AO rfl,AI (by simp)];refine AA (AA (CF S.ho S.hd S.ft ?_));dsimp only;refine AA (V4 ?_);rw[g,AO rfl];refine AA (GV (AC (AC ?_)));show R (((pickOrder (w.params.setOrder a ep) es)[i]?).map λe=>(e.2,0)) s;rw[P];exact q
   .cases D;have:=I x.2 c s.toks (by rw[n,AJ,BK,P];rfl) ⟨S.at ((f.2 a (Ne.symm m)).trans S.ho),_,O,.inl ⟨g,rfl,n⟩⟩ (d c f);exact this
  .refine Nq L S B n (λp x c D O e3 f=>?_) (λp hp=>DE.mp (F.mem_iff.mp hp)) (λhle=>?_)
   .have U:∀q∈ps,(es[q]?.map (·.2)).isSome=true:=λq hq=>by
     have:q<es.size:=DE.mp (F.mem_iff.mp hq);rw[CH.mpr ⟨this,rfl⟩];rfl
    refine I x.2 c s.toks ?_ ⟨S.at ((f.2 a (Ne.symm m)).trans S.ho),_,e3,.inr (.inl ⟨g,ps,rfl,(f.2 T (Ne.symm Z)).trans n,F,G⟩)⟩ (d c f);have gen:∀(l:A0 Nat) (i p:Nat),(∀q∈l,(es[q]?.map (·.2)).isSome=true)->l[i]?=some p->(l.filterMap λp=>es[p]?.map (·.2))[i]?=es[p]?.map (·.2):=by
     intro l
     induction l with
     | nil=>intro i p _ e;simp at e
     | cons q r ih =>
      intro i p W e;obtain⟨v,hv⟩:=FP.mp (W q (BA ..));rw[DU,hv];dsimp only;cases i with
      | zero =>
       have:q=p:=by simpa using e
       subst this;simpa using hv.symm
      | succ i=>simpa using ih i p (λq hq=>W q (AM _ hq)) (by simpa using e)
    rw[G,gen ps i p U D,O];rfl
   .have:=F.length_eq;rw[DW]at this;lia
  .have X:i=0:=by lia
   have h1:es.size=1:=by lia
   obtain⟨j,Y⟩:∃j,t.place = #[j]:=Array.size_eq_one_iff.mp ((Vu S).trans h1);obtain⟨x,P⟩:∃x,es = #[x]:=Array.size_eq_one_iff.mp h1;have hs0:=G X;subst hs0;have hx0:es[0]?=some x:=by rw[P];rfl
   refine Ci (r:=some (x.2,j+1)) L S m B (λR A' E' q=>?_) (λy nx c D O f=>?_) (λe=>nomatch e)
   .unfold setNext;refine AA (CF S.ho S.hd S.ft ?_);dsimp only;refine AA (V4 ?_);rw[g,AI (by decide)];show wpAny _ _ (if(!t.plain&&decide (es.size>1))=true then _ else _) _ _ _;rw[AI (by rw[h1];simp)];show wpAny _ _ (do (if(!t.led&&!es.isEmpty)=true then unsupported "set:maker-not-led" else pure ());_) _ _ _;rw[S.led,g,AI (by simp)];refine AA (AC ?_);rw[Y,zEk,hx0];exact AC q
   .cases D;refine I x.2 c s.toks (by rw[n,X,P];rfl) ⟨S.at ((f.2 a (Ne.symm m)).trans S.ho),_,O,.inr (.inr ⟨g,V,n,j+1,rfl,λe=>by lia,λ_=>⟨j,Y,rfl⟩⟩)⟩ (d c f)
 done:=λs Q E ⟨S,first,B,N⟩ I=>by
  have d:∀c,Heap.ExtBut it s.heap c->∀b H,b∉[it]->s.heap.get? b=some H->c.get? b=some H:=λc f b H M e=>f b H (by simpa using M) e;rcases N with⟨g,rfl,n⟩ | ⟨g,ps,rfl,n,F,G⟩ | ⟨g,V,n,sl,rfl,G,z6⟩
  .have J:=Dc (w.params.setOrder a ep) es;have C:(pickOrder (w.params.setOrder a ep) es).size=es.size:=by rw[<-AU,J.length_eq,AU]
   refine Ci (r:=none) L S m B (λR A' E' q=>?_) (λy nx c D=>nomatch D) (λ_ c f=>I c s.toks (d c f));unfold setNext setWalk;refine AA (CF S.ho S.hd S.ft ?_);dsimp only;refine AA (V4 ?_);rw[g,AO rfl,AI (by simp)];refine AA (AA (CF S.ho S.hd S.ft ?_));dsimp only;refine AA (V4 ?_);rw[g,AO rfl];refine AA (GV (AC (AC ?_)));show R (((pickOrder (w.params.setOrder a ep) es)[es.size]?).map λe=>(e.2,0)) s;rw[EG (by rw[C];exact VD _)];exact q
  .have W:=F.length_eq;rw[DW]at W;refine Nq L S B n (λp x c D O e3 f=>?_) (λp hp=>DE.mp (F.mem_iff.mp hp)) (λ_ c f=>I c s.toks (d c f));have:=(AK.mp D).1;lia
  .refine Ci (r:=none) L S m B (λR A' E' q=>?_) (λy nx c D=>nomatch D) (λ_ c f=>I c s.toks (d c f));unfold setNext;refine AA (CF S.ho S.hd S.ft ?_);dsimp only;refine AA (V4 ?_);rw[g,AI (by decide)];show wpAny _ _ (if(!t.plain&&decide (es.size>1))=true then _ else _) _ _ _;rw[AI (by simp;intro _;lia)];show wpAny _ _ (do (if(!t.led&&!es.isEmpty)=true then unsupported "set:maker-not-led" else pure ());_) _ _ _;rw[S.led,g,AI (by simp)];refine AA (AC ?_);have K:es[SetTable.below t.place sl]?=none:=by
    by_cases X:es.size=0
    .exact EG (by rw[X];exact BZ _)
    .obtain⟨j,Y,rfl⟩:=z6 (by lia);rw[Y,zEm];exact EG (by lia)
   rw[K];exact AC q
 self:=λi s Q E ⟨S,first,B,N⟩ h=>by
  have hT:s.TypeIs (.ref it) "set_iterator":=⟨_,B,rfl⟩;refine wpAny_pyIter_slot hT Bn (CG Bn hT Gi ?_ (Hq _));show wpAny _ _ (ret (.ref it)) _ _ s;exact AC ⟨_,rfl, "set_iterator",_,hT,JY.lookup,h⟩
theorem Xs{Q:A2->A4->Prop}(S:SC w s.heap a o es ep t)
  (h:∀(it T:A3) (c:A0 A2) (h':IP) (d:Drawn),it≠a->it≠T->(T=a\/s.heap.objs.size<=T)->s.heap.objs.size<=it->(∀b g,s.heap.get? b=some g->h'.get? b=some g)->c.Perm (es.toList.map (·.2))->SSt w a it T o es ep t c 0 h'->(∀b∈[it,a,T],b<h'.objs.size) ->
   (∀H:IM,H.handled=none->Walks prog w H it [it,a,T] [it] es.size (λi v=>c[i]?=some v) (SSt w a it T o es ep t c))->Q (.ref it) { s with heap:=h',drawn:=d }):wpAny (model prog w) A (pyIter (.ref a)) Q E s:=by
 have L:s.TypeIs (.ref a) "set":=⟨_,S.ho,S.ex.1⟩;have D:=AG S.ho;refine wpAny_pyIter_slot L F.slot_set_iter (CG F.slot_set_iter L Ie ?_ (F.args_set_iter_1 _));unfold Builtin.«frozenset.__iter__» Builtin.Frozenset.slot0 Builtin.Frozenset.sizeOf;refine AA (AA (EB (a:=(Value.ref a,[])) rfl ?_));dsimp only;refine EB (a:=a) rfl ?_;refine AA (AA (wpAny_setEntries_of S.ho S.hd S.ft (AC ?_)));have m:∀(first:A2) (T:A3) (c:A0 A2) (f:IP) (d:Drawn),(∀b g,s.heap.get? b=some g->f.get? b=some g)->s.heap.objs.size<=f.objs.size->c.Perm (es.toList.map (·.2))->T<f.objs.size->(T=a\/s.heap.objs.size<=T) ->
   (∀q:IP,(∀b g,f.get? b=some g->q.get? b=some g)->zJa w a T es ep t c 0 q first) ->
   wpAny (model prog w) A.in1 (do let e <-setEpoch a;let x <-newFields "set_iterator" [first,rawInt 0,.ref a,rawInt (es.size:Nat),rawInt (e:Nat)];ret x) (λr M=>∃v,r=Fin.done (Flow.ret v)/\∃N r,M.TypeIs v N/\typeLookup (Value.type N) (Str.ofString "__next__")=pure (some r)/\Q v M) E { s with heap:=f,drawn:=d }:=by
  intro first T c f d k n l y I O
  refine AA (wpAny_setEpoch_of (s:={ s with heap:=f,drawn:=d }) (k a o S.ho) S.hd S.ft ?_);refine AA (BV ?_);have G:(f.push (SJ first 0 es.size ep a)).get? f.objs.size=some (SJ first 0 es.size ep a):=AY _ rfl;have z:∀b g,f.get? b=some g->(f.push (SJ first 0 es.size ep a)).get? b=some g:=λb g e=>AD _ e;have B:f.objs.size≠a:=λe=>absurd (BI D n) (by rw[<-e];exact DB _);have C:f.objs.size≠T:=λe=>absurd y (by rw[<-e];exact DB _);refine AC ⟨.ref f.objs.size,rfl, "set_iterator",_,⟨_,G,rfl⟩,JY.lookup,?_⟩;refine h f.objs.size T c (f.push (SJ first 0 es.size ep a)) d B C I n (λb g e=>z b g (k b g e)) l ⟨S.at (z a o (k a o S.ho)),first,G,O _ z⟩ (λb u=>?_) λH P=>Ro P B C;rw[CO];simp only[AV,A_,or_false]at u;rcases u with rfl | rfl | rfl
  .exact FF _
  .exact EZ (BI D n)
  .exact EZ y
 unfold setDrawn;refine AA (AA (CF S.ho S.hd S.ft ?_));dsimp only;refine AA (V4 (AC ?_));cases u:w.params.followText "set-order" with
 | true =>
  show wpAny _ _ (if(!true &&(!t.plain&&decide (es.size>1)))=true then _ else _) _ _ _;rw[ET,DP,AI (by decide)];refine AA (AC ?_);exact m _ a _ s.heap s.drawn (λ_ _ e=>e) (VD _) ((Dc _ es).map _) D (.inl rfl) λq _=>.inl ⟨u,rfl,rfl⟩
 | false =>
  show wpAny _ _ (if(!false &&(!t.plain&&decide (es.size>1)))=true then _ else _) _ _ _;by_cases j:(!t.plain&&decide (es.size>1))=true
  .rw[HV,IC,AO j];refine AA (Vn es.size (List.range es.size) s _ (DW ..) λps d l=>AA ?_);unfold newTuple;refine BV ?_ ?_
   .have G:(s.heap.push (UM ps)).get? s.heap.objs.size=some (UM ps):=AY _ rfl;refine m _ s.heap.objs.size (ps.filterMap λp=>es[p]?.map (·.2)) (s.heap.push (UM ps)) d (λb g e=>AD _ e) (by rw[CO];exact DC _) ?_ (by rw[CO];exact FF _) (.inr (VD _)) λq z=>.inr (.inl ⟨u,ps,rfl,z _ _ G,l,rfl⟩);refine(l.filterMap _).trans (FA ?_);have:=filterMap_getElem?_range es;rw[<-this,List.map_filterMap]
   .have f:=l.length_eq;have q:=S.few;rw[DW]at f;show(List.map _ ps).toArray.size<=sizeLine;rw[AR,AB,sizeLine_eq];lia
  .rw[HV,IC,AI j];refine AA (AC ?_);have J:es.size<=1:=by
    by_cases l:t.plain=true
    .have:=S.pln l;lia
    .have K:t.plain=false:=by simpa using l
     rw[K]at j;simp at j;lia
   exact m _ a _ s.heap s.drawn (λ_ _ e=>e) (VD _) (.refl _) D (.inl rfl) λq _=>.inr (.inr ⟨u,J,rfl,0,rfl,λ_=>rfl,λe=>absurd e (by decide)⟩)
end
section
variable{prog:IE}{w:IJ}{A:IM}{E:A2->A4->Prop}{s:A4}{a:A3}{o:Obj}{es:IG (Int×A2)}{ep:Nat}{t:IV}
theorem Ww{a:A0 A2}{b:IG A2}(h:ItemsOf (λi v=>a[i]?=some v) b a.length):b.toList=a:=by
 refine FN λi=>?_;rw[BK];by_cases c:i<b.size
 .have e:b[i]?=some b[i]:=CH.mpr ⟨c,rfl⟩;rw[e,h.2 i _ e]
 .rw[EG (by lia),GI (by have:=h.1;lia)]
theorem QM{Q:A0 A2->A4->Prop}(O:A.handled=none)(S:SC w s.heap a o es ep t)
  (U:∀f q,(∀b c,s.heap.get? b=some c->f.heap.get? b=some c)->f.gens=s.gens->f.os=s.os->s.heap.objs.size<f.heap.objs.size->q.Perm (es.toList.map (·.2))->Q q f):wpAny (model prog w) A (collect (.ref a)) Q E s:=by
 have V:=AG S.ho;unfold collect;refine AA (wpAny_runValue (DY F.entry_proto_collect ?_));rw[Around.under_plainId F.plain_proto_collect _];show wpAny _ A.in1 (newList [] >>= λl=>again (.builtin "list.__iadd__" ⟨[l,.ref a],[]⟩)) _ _ s;refine AA (BV ?_);refine AC ⟨plainId_quiet F.plain_list_iadd _,DY F.entry_list_iadd ?_⟩;rw[Around.under_plainId F.plain_list_iadd _];show wpAny _ A.in1 (Builtin.List.listExtendWith (.ref s.heap.objs.size) (.ref a) (.ref s.heap.objs.size)) _ _ _;unfold Builtin.List.listExtendWith;have h:s.heap.objs.size≠a:=λe=>absurd V (by rw[<-e];exact DB _);generalize J:s.heap.push { cls:=.type "list",data:=.seq ([]:A0 A2).toArray }=H;have G:∀b c,s.heap.get? b=some c->H.get? b=some c:=λb c e=>by rw[<-J];exact AD _ e
 have i:H.objs.size=s.heap.objs.size+1:=by rw[<-J,CO]
 have X:H.get? s.heap.objs.size=some { cls:=.type "list",data:=.seq ([]:A0 A2).toArray }:=by rw[<-J];exact AY _ rfl
 have Y:Shared.TypeIs { s with heap:=H } (.ref a) "set":=⟨o,G a o S.ho,S.ex.1⟩;refine AA (FZ Y ?_);have Z:Builtin.List.listSameRef (.ref s.heap.objs.size) (.ref a)=false:=by simp[Builtin.List.listSameRef,h]
 have h2:(Value.type "set" == Value.type "list")=false:=by decide
 have h3:(Value.type "set" == Value.type "tuple")=false:=by decide
 simp only[Z,h2,h3,Bool.or_false,BD,CQ];refine AA (Xs (s:={ s with heap:=H }) (S.at (G a o S.ho)) λI T j r d hia hiT K u k P st hlt W=>?_);have m:Shared.TypeIs { s with heap:=r,drawn:=d } (.ref a) "set":=⟨o,k a o (G a o S.ho),S.ex.1⟩;refine AA (BN ?_);unfold Builtin.List.listLengthHint;refine AA (GE m zGy ?_);wp_delta;refine AA (FQ m (b:=true) (by rw[isSubtype_type];kernel_rfl) ?_);show wpAny _ A.in1 (typeOf (Value.ref a) >>= _) _ _ _;refine AA (FZ m ?_);refine AC ?_;rw[AO (by decide)];refine AA (DN ?_);have v:r.get? s.heap.objs.size=some { cls:=.type "list",data:=.seq ([]:A0 A2).toArray }:=k _ _ X;refine AA ?_;show wpAny _ A.in1 (updateSeq s.heap.objs.size (·.push .none) >>= λ_=>updateSeq s.heap.objs.size (·.pop)) _ _ _;refine AA (wpAny_updateSeq v rfl ?_);have x:=BW (Obj.mapSeq (·.push Value.none)) v rfl;refine wpAny_updateSeq x rfl ?_;have L:=BW (Obj.mapSeq (·.pop)) x rfl;have y:∀b c,b≠s.heap.objs.size->r.get? b=some c->((r.update s.heap.objs.size (Obj.mapSeq (·.push Value.none))).update s.heap.objs.size (Obj.mapSeq (·.pop))).get? b=some c :=
  λb c p e=>(BF _ _ (Ne.symm p)).trans ((BF _ _ (Ne.symm p)).trans e)
 have B:s.heap.objs.size∉[I,a,T]:=by
  have e1:s.heap.objs.size≠I:=λe=>absurd u (by
   show ¬H.objs.size<=I;rw[i,<-e];exact Nat.not_succ_le_self _)
  have e2:s.heap.objs.size≠T:=λe=>by
   rcases K with z | z
   .exact h (e.trans z)
   .exact absurd z (by
     show ¬H.objs.size<=T;rw[i,<-e];exact Nat.not_succ_le_self _)
  simp only[AV,A_,or_false,not_or];exact⟨e1,h,e2⟩
 have M:es.size=j.length:=by
  have:=P.length_eq;rw[AB,AU]at this;exact this.symm
 have R:=S.few;refine AC ⟨plainId_quiet F.plain_extend_loop _,codeAny_extend_loopS (W A.in1 O).toS (by rw[sizeLine_eq];lia) _ B _ es.size 0 _ _ _ rfl (BZ _)
  ((W A.in1 O).frame 0 r _ st λb p c e=>y b c (λz=>B (z▸p)) e) L (ItemsOf.nil _) λf C c' N D g=>?_⟩
 show wpAny _ A (load s.heap.objs.size >>= _) _ _ f;refine AA (wpAny_load D ?_);rw[M]at g;refine AC (U f C.toList (λb c e=>N.heap b c (λp=>?_) (y b c (λz=>?_) (k b c (G b c e)))) N.gens N.os (AG D) (by rw[Ww g];exact P))
 .have n:=AG e;rcases AV.mp p with z | z
  .exact absurd n (by rw[z];exact DB _)
  .rw[AE.mp z]at n;have:H.objs.size<=I:=u;rw[i]at this;exact absurd (BI n (Nat.le_of_succ_le this)) (DB _)
 .exact absurd (AG e) (by rw[z];exact DB _)
end
end ST
namespace ST
open PySem L2
def zDz(t:IV)(n:Nat):(t.orStandIn n).led=t.led:=by
 unfold SetTable.orStandIn;split<;>rfl
def zAu(t:IV)(a:IG (Int×A2))(h:Int)(x:A2):(layNew t a h x).2.1.led=t.led:=by
 unfold layNew;split
 .rename_i b c e;show((t.put b).1.orStandIn _).led=_;rw[zDz];rfl
 .rfl
def Oo{t t':IV}{b:IG Int}{n:Nat}{a:IG Nat}(h:t.relaid b n=some (t',a)):t'.led=t.led/\t'.plain=t.plain:=by
 unfold SetTable.relaid SetTable.laid at h;cases e:SetTable.layClean (SetTable.sizeAbove n-1) b with
 | none=>rw[e]at h;cases h
 | some c =>
  rw[e]at h;cases h;exact⟨rfl,rfl⟩
def Tu(t:IV)(a:IG (Int×A2))(n:Nat)(b:t.plain=false):(relayAll t a n).2.1.led=t.led/\(relayAll t a n).2.1.plain=false:=by
 unfold relayAll;split
 .rename_i g c e;obtain⟨d,f⟩:=Oo e;dsimp only;split
  .exact⟨d,f.trans b⟩
  .exact⟨rfl,rfl⟩
 .exact⟨rfl,rfl⟩
def zJj:A2->Str
 | .str x _=>x
 | _=>Str.empty
section
variable{prog:IE}{w:IJ}{A:IM}{E:A2->A4->Prop}{s:A4}{a:A3}
structure NN(w:IJ)(es:IG (Int×A2))(ss:A0 Str):Prop where
 el:∀e∈es.toList,∃x tk,e =(hashStr w x,Value.str x tk)
 pm:(es.toList.map λe=>zJj e.2).Perm ss
 nd:ss.Nodup
def WS(w:IJ)(h:IP)(a:A3)(ss:A0 Str):Prop:=∃o b c t,SC w h a o b c t/\NN w b ss
theorem NN.elems{a:IG (Int×A2)}{ss:A0 Str}(h:NN w a ss):ElemsOf (E5 prog w) a.toList:=λe b=>by
 obtain⟨x,c,rfl⟩:=h.el e b;exact⟨⟨.inr x,d9 x c,rfl⟩,rfl⟩
theorem NN.mem{d:IG (Int×A2)}{ss:A0 Str}(h:NN w d ss)(x:Str):x∈ss↔∃e∈d.toList,(E5 prog w).is (.inr x) e.2=true:=by
 rw[<-h.pm.mem_iff];constructor
 .intro g;obtain⟨e,a,rfl⟩:=BJ.mp g;obtain⟨y,b,rfl⟩:=h.el e a;exact⟨_,a,d9 y b⟩
 .rintro⟨e,a,j⟩;obtain⟨y,b,rfl⟩:=h.el e a;have:y=x:=by
   rcases J0 (show Em (.inr x) (.str y b)=true from j)with⟨i,t,f,c⟩ | ⟨z,t,f,c⟩
   .cases c
   .cases f;cases c;rfl
  subst this;exact BJ.mpr ⟨_,a,rfl⟩
theorem NN.int{a:IG (Int×A2)}{ss:A0 Str}(h:NN w a ss)(i:Int):¬∃e∈a.toList,(E5 prog w).is (.inl i) e.2=true:=by
 rintro⟨e,d,f⟩;obtain⟨y,g,rfl⟩:=h.el e d;rcases J0 (show Em (.inl i) (.str y g)=true from f)with⟨i,t,b,c⟩ | ⟨z,t,b,c⟩
 .cases c
 .cases b
theorem NN.len{a:IG (Int×A2)}{ss:A0 Str}(h:NN w a ss):a.size=ss.length:=by
 have:=h.pm.length_eq;rw[AB,AU]at this;exact this
def inS(ss:A0 Str):JB->Bool
 | .inl _=>false
 | .inr x=>decide (x∈ss)
theorem WS.setOf{h:IP}{ss:A0 Str}(S:WS w h a ss):h.SetOf (E5 prog w) a (inS ss) ss.length:=by
 obtain⟨o,b,c,t,S,T⟩:=S;refine⟨o,b,c,t,S.ho,S.ex,S.hd,T.elems,λk=>?_,S.few,S.ft,T.len⟩;cases k with
 | inl i=>exact⟨λz=>Bool.noConfusion (show false=true from z),λz=>absurd z (T.int i)⟩
 | inr x =>
  show decide (x∈ss)=true↔_;rw[decide_eq_true_eq];exact T.mem x
theorem RF{ss:A0 Str}{x:Str}{m:Tok}{Q:Bool->A4->Prop}(S:WS w s.heap a ss)(hl:ss.length+1<4096)
  (h:∀h' b,Heap.SameBut a s.heap h'->WS w h' a (if x∈ss then ss else ss ++ [x])->Q b { s with heap:=h' }) :
  wpAny (model prog w) A (setAddHashed a (.str x m) (hashStr w x)) Q E s:=by
 obtain⟨o,n,ep,t,S,T⟩:=id S;have C:(E5 prog w).is (.inr x) (.str x m)=true:=d9 x m;have hsz:=T.len;unfold setAddHashed setAddHashedIn;refine BN (AA (CF S.ho S.hd S.ft ?_));dsimp only;rw[byScan_of (knd:=E5 prog w) rfl S.few T.elems,AO rfl];unfold setAddByScan;refine AA (AA (DN ?_));refine AA (wpAny_setScan_of C S.ho S.hd S.ft T.elems ?_);cases W:List.findIdx? (λe=>(E5 prog w).is (.inr x) e.2) n.toList with
 | some j =>
  dsimp only;obtain⟨hj,M,_⟩:=List.findIdx?_eq_some_iff_getElem.mp W;have p:x∈ss:=(T.mem (prog:=prog) x).mpr ⟨n.toList[j],DL hj,M⟩;refine AC (AC ?_);have:=h s.heap false (Heap.SameBut.refl a s.heap) (by rw[AO p];exact⟨o,n,ep,t,S,T⟩);exact this
 | none =>
  dsimp only;have p:¬x∈ss:=λp=>by
   obtain⟨e,N,K⟩:=(T.mem (prog:=prog) x).mp p;have:=List.findIdx?_eq_none_iff.mp W e N;rw[K]at this;exact Bool.noConfusion this
  have D:∀(b:Bool) {O:A4} {P:Unit->A4->Prop},P () O->wpAny (model prog w) A (match b with | true=>rule "set.scan.the-table-gave-way" | false=>pure ()) P E O :=
   λb O P X=>by cases b<;>first | exact AC X | exact DN X
  have d:=layNew_perm t n (hashStr w x) (.str x m);have g:=layNew_fits t n (hashStr w x) (.str x m);have k:=zAu t n (hashStr w x) (.str x m);show wpAny _ _ (match layNew t n (hashStr w x) (.str x m)with | (n,t,f,F)=>_) _ _ _;generalize layNew t n (hashStr w x) (.str x m)=L at d g k⊢;obtain⟨c,t1,f,F⟩:=L;dsimp only at d g k⊢;rw[DF]at d;have q:∀u:IG (Int×A2),u.toList.Perm c.toList->NN w u (ss ++ [x]):=λu G=>by
   refine⟨λe N=>?_,?_,?_⟩
   .rcases AN.mp (d.mem_iff.mp (G.mem_iff.mp N))with z | z
    .exact T.el e z
    .exact⟨x,m,AE.mp z⟩
   .refine((G.trans d).map _).trans ?_;rw[AH];exact T.pm.append (.refl _)
   .rw[CL];refine⟨T.nd,by simp,λy hy z hz=>?_⟩;rw[AE.mp hz];rintro rfl;exact p hy
  have l:c.size=ss.length+1:=by
   have:=(q c (.refl _)).len;rw[AS]at this;exact this
  refine AA (D _ ?_);have H:∀i:IV,i.led=t.led->i.plain=false->i.fits c.size=true->wpAny (model prog w) A (do
    storeSet a c i
    if(!f&&i.tooFull)=true then do
      (match(relayAll i c (SetTable.grown c.size)).2.2 with | true=>rule "set.scan.the-table-gave-way" | false=>pure ())
      storeSet a (relayAll i c (SetTable.grown c.size)).1 (relayAll i c (SetTable.grown c.size)).2.1
      pure (some true)
     else pure (some true)) (λr s'=>wpAny (model prog w) A (match r with | some v=>pure v | none=>setAddHashedIn a (.str x m) (hashStr w x) 99999) Q E s') E s:=by
   intro i Y Z f2;refine AA (HW S.ho S.hd ?_ (by rw[l,sizeLine_eq];lia));have B:=Gk S.ho S.hd c i;have I:=DM s.heap a (Obj.putSet c i);split
   .have K:=relayAll_perm i c (SetTable.grown c.size);have hf:=relayAll_fits i c (SetTable.grown c.size);obtain⟨R,U⟩:=Tu i c (SetTable.grown c.size) Z;have J:(relayAll i c (SetTable.grown c.size)).1.size=c.size:=by rw[<-AU,K.length_eq,AU]
    refine AA (D _ ?_);refine AA (HW B rfl ?_ (by rw[J,l,sizeLine_eq];lia));refine AC (AC (h _ true (I.trans (DM _ a _)) ?_));rw[AI p];exact⟨_,_,_,_,⟨Gk B rfl _ _,S.ex,rfl,hf,R.trans (Y.trans S.led),(λz=>by rw[U]at z;cases z),by rw[J,l];lia⟩,q _ K⟩
   .refine AC (AC (h _ true I ?_));rw[AI p];exact⟨_,c,_,i,⟨B,S.ex,rfl,f2,Y.trans S.led,(λz=>by rw[Z]at z;cases z),by rw[l];lia⟩,q _ (.refl _)⟩
  cases V:t1.plain with
  | true =>
   rw[AO rfl,hashByValue_scannable 8 (x:=Value.str x m) rfl];refine AA (AC ?_);exact H { t1 with plain:=false } k rfl (SetTable.fits_plain_off g)
  | false =>
   rw[AI (by decide)];refine AA (AC ?_);exact H t1 k V g
end
end ST
namespace L2
open PySem PySem.Spec PyProof.Rows
def Dd(w:IJ)(a:A3)(ss:A0 Str):HO:=.ext λh=>ST.WS w h a ss
section
variable{X:Cx}{pins:A0 (A3×Obj)}{σ:St}{H:Hp}{s:A4}{a:A3}{ss:A0 Str}
theorem Yr{P:IE}{w:IJ}{H:Hp}{h:IP}(z:ST.WS w h a ss):JA P w H h a (Dd w a ss) :=
 ⟨z,let⟨o,_,_,_,S,_⟩:=z;⟨o,S.ho⟩,λd e ⟨o,b,c,t,S,r⟩ k=>⟨o,b,c,t,S.at (k o S.ho),r⟩⟩
theorem Inv.setw(I:Inv X pins σ H s)(e:H a=some (Dd X.w a ss)):ST.WS X.w s.heap a ss:=by
 obtain⟨z,_⟩:=(show JA X.prog X.w H s.heap a (Dd X.w a ss)from I.hok a _ e);exact z
def Zg(l:A0 Str)(x:Str):A0 Str:=if x∈l then l else l ++ [x]
def zDq(w:IJ):V->A0 V->Hp->VK->Prop:=λx b H Q=>∃a l k,x = .ref a/\b = [.str k]/\H a=some (Dd w a l)/\l.length+1<4096/\Q .non (II H a (Dd w a (Zg l k)))
theorem WS.typeIs{ss:A0 Str}(z:ST.WS X.w s.heap a ss):s.TypeIs (.ref a) "set":=let⟨o,_,_,_,S,_⟩:=z;⟨o,S.ho,S.ex.1⟩
theorem Zy:QH X "set.add" (zDq X.w):=by
 intro pins s σ H x n v p Q I g i h;obtain⟨a,l,k,rfl,rfl,d,j,q⟩:=h;cases g;obtain⟨u,rfl,⟨r,rfl⟩⟩:=i.one;have z:=I.setw d;refine CG F.slot_set_add (WS.typeIs z) F.entry_set_add ?_ (F.args_set_add_2 _ _);unfold Builtin.«set.add» Builtin.Frozenset.oneOther;simp only[List.isEmpty_nil,bind_assoc];unfold Builtin.Frozenset.addrOf setAdd;refine AA (AC ?_)
 try dsimp only
 refine AA (AC ?_)
 try dsimp only
 refine AA ?_;refine BN ?_;refine AA (wpAny_pyHash_str ?_);refine ST.RF (s:={ s with toks:=s.toks+1 }) z j λt b c f=>?_;show wpAny _ _ (ret Value.none) _ _ _;refine AC ⟨_,rfl,.non,_,I.write (x:=a) (e:=a) (t':=s.toks+1) (by rw[d];exact VC) (.inl rfl) (λb q m e=>(c.2 b m).trans e) (let⟨o,_,_,_,S,_⟩:=f;⟨o,S.ho⟩) (Yr f),rfl,q⟩
def zIh(w:IJ)(neg:Bool):R2:=λx y H Q=>∃a l k,y = .ref a/\x = .str k/\H a=some (Dd w a l)/\Q (.bl (if neg then !decide (k∈l)else decide (k∈l))) H
theorem Hd:LB X (compareOp .NotIn) (zIh X.w true):=by
 intro pins s σ H x y v u Q I b c h;obtain⟨a,l,k,rfl,rfl,d,q⟩:=h;cases c;obtain⟨e,rfl⟩:=b;exact wpAny_notInSet_of (knd:=E5 X.prog X.w) (k:=.inr k) (d9 k e) rfl (I.setw d).setOf ⟨.bl (!decide (k∈l)),H,I.tok _,rfl,q⟩
end
def Inv.drawn{X:Cx}{a:A0 (A3×Obj)}{σ:St}{H:Hp}{s:A4}(I:Inv X a σ H s)(d:Drawn):Inv X a σ H { s with drawn:=d } :=
 ⟨I.ok,I.os,I.bare,I.base,I.loc,I.cell,I.free,I.freeC,I.pin,I.hok,I.len⟩
section
variable{X:Cx}
theorem Ib(Y:X.calm=true):N0 X (.builtin "sorted") (λxs H Q=>∃(p:A3) (ss:A0 Str),xs = [.ref p]/\H p=some (Dd X.w p ss)/\∀(l:A3) (d:A0 Str),H l=none->d.Perm ss->d.Pairwise NZ->Q (.ref l) (II H l (.lst (d.map V.str)))):=by
 intro O s σ H xs j Q I r h;obtain⟨p,ss,rfl,Z,q⟩:=h;obtain⟨u,rfl,ru⟩:=o8 r;cases ru;obtain⟨o,es,ep,t,S,T⟩:=I.setw Z;refine TS.LF (ST.QM (show X.A.in1.handled=none from I.ok.hd Y) S λC c k1 g1 P D f=>?_);have R:∀v∈c,∃x g,v=Value.str x g:=λv m=>by
  obtain⟨e,E,rfl⟩:=BJ.mp (f.mem_iff.mp m);obtain⟨x,g,rfl⟩:=T.el e E;exact⟨x,g,rfl⟩
 have n:StrsAre c (c.map strOf):=by
  have:∀l:A0 A2,(∀v∈l,∃x g,v=Value.str x g)->StrsAre l (l.map strOf):=by
   intro l
   induction l with
   | nil=>exact λ_=>.nil
   | cons v r F =>
    intro h;obtain⟨x,g,rfl⟩:=h v (BA ..);exact .cons _ _ (F λu z=>h u (AM _ z))
  exact this c R
 have U:c.length=es.size:=by rw[f.length_eq,AB,AU]
 have W:=S.few;have G:(c.map strOf).Perm ss:=by
  refine(f.map strOf).trans ?_;rw[B_];refine List.Perm.trans (FA ?_) T.pm;refine G_ λe E=>?_;obtain⟨x,g,rfl⟩:=T.el e E;rfl
 refine⟨P,by rw[sizeLine_eq];lia,strKind,oneType',λs2 _=>TS.NC n,λout h' e ho k hg=>?_⟩;obtain⟨J,hs⟩:=ho;have K:∀v∈out.toList,∃x t,v = .str x t:=λv m=>R v (J.mem_iff.mp m);have m:IT ((out.toList.map strOf).map V.str) out.toList:=by
  have:∀j:A0 A2,(∀v∈j,∃x t,v = .str x t)->IT ((j.map strOf).map V.str) j:=by
   intro j
   induction j with
   | nil=>exact λ_=>.nil
   | cons v r F =>
    intro h;obtain⟨x,t,rfl⟩:=h v (BA ..);exact .cons ⟨t,rfl⟩ (F λu z=>h u (AM _ z))
  exact this _ K
 have i:(out.toList.map strOf).Perm ss:=(J.map strOf).trans G;have L:(out.toList.map strOf).Pairwise NZ:=by
  rw[CU];refine(EN.mp hs).imp fun{u v} ⟨z,M,q⟩=>?_;obtain⟨x,t,rfl⟩:=K u z;obtain⟨y,t',rfl⟩:=K v M;have q':decide (y.cps.toList<x.cps.toList)=false:=q;exact HP q'
 have k0:∀b o,s.heap.get? b=some o->h'.get? b=some o:=λb o eb=>k b o (k1 b o eb);have B:s.heap.objs.size<=C.heap.objs.size:=DQ D;have hn:H C.heap.objs.size=none:=I.hok.fresh B;obtain⟨N,g',d',t',o'⟩:=C;have eo:o'=s.os:=P;have eg:g'=s.gens:=g1;subst eo;subst eg;refine⟨.ref N.objs.size,II H N.objs.size (.lst ((out.toList.map strOf).map V.str)),?_,rfl,q _ _ hn i L⟩;exact(I.laid (a:=N.objs.size) (o:=.lst ((out.toList.map strOf).map V.str)) (t':=t') k0 B ⟨by rw[AB,AB,J.length_eq,sizeLine_eq];lia,out.toList,e,m,by simpa using hg⟩).drawn d'
end
def Qf(P:IE)(w:IJ)(a:A3)(b:A0 (A0 JB×A3)):HO:=.ext λh=>ST.NR (E5 P w) h a b
def Mh(H:Hp)(a:A0 (A0 JB×A3)):Prop:=∀q∈a,H q.2=some (.tup (q.1.map kV))
section
variable{X:Cx}{pins:A0 (A3×Obj)}{σ:St}{H:Hp}{s:A4}{a:A3}{ks:A0 (A0 JB×A3)}
theorem Ms(P:IE)(w:IJ):ST.Flat (E5 P w):=λv ⟨x,h⟩=>(E5 P w).byValue x v h
theorem Xd(P:IE)(w:IJ):ST.SS (E5 P w):=λv ⟨x,h⟩=>by
 rcases J0 (show Em x v=true from h)with⟨i,t,_,rfl⟩ | ⟨y,t,_,rfl⟩<;>rfl
theorem Yq{P:IE}{w:IJ}{H:Hp}{h:IP}(z:ST.NR (E5 P w) h a ks):JA P w H h a (Qf P w a ks) :=
 ⟨z,let⟨o,_,_,_,e,_⟩:=z;⟨o,e⟩,λd f ⟨o,b,c,t,e,r⟩ k=>⟨o,b,c,t,k o e,r⟩⟩
theorem Inv.sett(I:Inv X pins σ H s)(e:H a=some (Qf X.prog X.w a ks)):ST.NR (E5 X.prog X.w) s.heap a ks:=by
 obtain⟨z,_⟩:=(show JA X.prog X.w H s.heap a (Qf X.prog X.w a ks)from I.hok a _ e);exact z
theorem Pq:N0 X (.type "set") (λxs H Q=>xs = []/\∀p,H p=none->Q (.ref p) (II H p (Qf X.prog X.w p []))):=by
 intro pins s σ H xs c Q I r h;obtain⟨rfl,q⟩:=h;cases r;refine call_set_0 λa=>⟨.ref s.heap.objs.size,_,I.laid (t':=s.toks) (λb o e=>AD _ e) (VD _) (Yq ?_),rfl,q _ (I.hok.fresh (VD _))⟩;exact⟨_,#[],0,_,AY _ rfl,⟨rfl,rfl,rfl⟩,rfl,.refl _,⟨rfl,rfl,.inl rfl,by show 0*5<7*3;decide⟩⟩
def zIk(P:IE)(w:IJ):R2:=λx y H Q=>∃a p ks k,y = .ref a/\x = .ref p/\H a=some (Qf P w a ks)/\H p=some (.tup (k.map kV))/\Mh H ks/\(∀q∈ks,q.1≠k)/\Q (.bl false) H
theorem Oi(b:X.A.units+1<cLine):LB X (compareOp .In) (zIk X.prog X.w):=by
 intro pins s σ H x y v u Q I c d h;obtain⟨a,p,ks,k,rfl,rfl,e,f,g,i,q⟩:=h;cases d;cases c;exact ST.SN (neg:=false) b (Ms _ _) (I.sett e) (λz j=>Bo I.hok (g z j)) (Bo I.hok f) i ⟨.bl false,H,I.tok _,rfl,q⟩
def zEc(P:IE)(w:IJ):V->A0 V->Hp->VK->Prop:=λx b H Q=>∃a p ks k,x = .ref a/\b = [.ref p]/\H a=some (Qf P w a ks)/\H p=some (.tup (k.map kV))/\Mh H ks/\(∀q∈ks,q.1≠k)/\ks.length+1<=300/\Q .non (II H a (Qf P w a (ks ++ [(k,p)])))
theorem zCa(d:X.A.units+1<cLine):QH X "set.add" (zEc X.prog X.w):=by
 intro pins s σ H x B v C Q I f g h;obtain⟨a,p,ks,k,rfl,rfl,c,i,j,l,m,q⟩:=h;cases f;obtain⟨u,rfl,n⟩:=g.one;cases n;refine ST.RY d (Ms _ _) (Xd _ _) (I.sett c) (λz r=>Bo I.hok (j z r)) (Bo I.hok i) l m λD t z=>?_;exact⟨.non,_,I.write (x:=a) (e:=a) (by rw[c];exact VC) (.inl rfl) (λb q y e=>(t.2 b y).trans e) (let⟨o,_,_,_,e,_⟩:=z;⟨o,e⟩) (Yq z),rfl,q⟩
end
section
variable{X:Cx}
theorem Tr:N0 X (.builtin "isinstance") (λxs H Q=>∃x n t b,xs = [x,.ty n]/\MX X.K H x t/\PySem.W.kitOne X.K t (.type n)=some b/\Q (.bl b) H):=by
 intro a s σ H xs g Q I r h;obtain⟨x,n,t,b,rfl,c,d,q⟩:=h;obtain⟨u,v,rfl,e,f⟩:=r.two;cases f;exact Rk I e c d λi=>⟨.bl b,H,I.tok _,rfl,q⟩
end
mutual
def Rp(K:VA)(H:Hp):PyData->V->Prop
 | .none,v=>v = .non
 | .bool b,v=>v = .bl b
 | .int i,v=>v = .int i
 | .str x,v=>v = .str x
 | .list d,v=>∃a c,v = .ref a/\IR K H a c/\QE K H d c
 | .tuple d,v=>∃a c,v = .ref a/\JG K H a c/\QE K H d c
 | .dict _,_=>False
def QE(K:VA)(H:Hp):A0 PyData->A0 V->Prop
 | [],a=>a = []
 | d::b,a=>∃v r,a=v::r/\Rp K H d v/\QE K H b r
end
section
variable{X:Cx}{pins:A0 (A3×Obj)}{σ:St}{H:Hp}{s:A4}
mutual
theorem Inv.reads(I:Inv X pins σ H s):∀(d:PyData) (v:V) (u:A2),Rp X.K H d v->RelV v u->∃as,Reads s.heap u d as
 | .none,v,u,h,r=>by
  cases(show v = .non by simpa [Rp] using h);cases r;exact⟨_,.none⟩
 | .bool b,v,u,h,r=>by
  cases(show v = .bl b by simpa [Rp] using h);cases r;exact⟨_,.bool b⟩
 | .int i,v,u,h,r=>by
  cases(show v = .int i by simpa [Rp] using h);obtain⟨t,rfl⟩:=r;exact⟨_,.int i t⟩
 | .str x,v,u,h,r=>by
  cases(show v = .str x by simpa [Rp] using h);obtain⟨t,rfl⟩:=r;exact⟨_,.str x t⟩
 | .list j,v,u,h,r=>by
  obtain⟨a,c,e,k,l⟩:=(show ∃a c,v=V.ref a/\IR X.K H a c/\QE X.K H j c by simpa [Rp] using h);subst e;cases r;obtain⟨f,m,⟨o,n,e,p,q,g⟩,_⟩:=I.list k;obtain⟨as,z⟩:=I.readsAll j c f l m;exact⟨_,.list e p g (by simpa using z)⟩
 | .tuple j,v,u,h,r=>by
  obtain⟨a,c,e,k,l⟩:=(show ∃a c,v=V.ref a/\JG X.K H a c/\QE X.K H j c by simpa [Rp] using h);subst e;cases r;obtain⟨f,m,⟨o,e,p,n,g⟩,_⟩:=I.tuple k;obtain⟨as,z⟩:=I.readsAll j c f l m;exact⟨_,.tuple e p g (by simpa using z)⟩
 | .dict _,v,u,h,r=>by simp[Rp]at h
theorem Inv.readsAll(I:Inv X pins σ H s):∀(a:A0 PyData) (vs:A0 V) (us:A0 A2),QE X.K H a vs->IT vs us->∃as,ReadsAll s.heap us a as
 | [],vs,us,h,r=>by
  cases(show vs = [] by simpa [QE] using h);cases r;exact⟨_,.nil⟩
 | d::a,vs,us,h,r=>by
  obtain⟨v,b,e,c,f⟩:=(show ∃v r,vs=v::r/\Rp X.K H d v/\QE X.K H a r by simpa [QE] using h);subst e;cases r with
  | cons g i =>
   obtain⟨as,z⟩:=I.reads d v _ c g;obtain⟨k,j⟩:=I.readsAll a b _ f i;exact⟨_,.cons z j⟩
end
def Pl(d:PyData):Prop:=d.canLay0=true/\d.depth<=50
def TX(K:VA):R2:=λx y H Q=>∃d e,Rp K H d x/\Rp K H e y/\Pl d/\Pl e/\Q (.bl (PyData.eqv d e)) H
def UB(K:VA):R2:=λx y H Q=>∃d e,Rp K H d x/\Rp K H e y/\Pl d/\Pl e/\Q (.bl (!PyData.eqv d e)) H
def zGk(m:X.A.units+64<cLine):LB X (compareOp .Eq) (TX X.K):=by
 intro a s σ H x y v u Q I f g h;obtain⟨d,e,i,j,b,c,q⟩:=h;obtain⟨n,k⟩:=I.reads d x v i f;obtain⟨o,l⟩:=I.reads e y u j g;exact PySem.SeqAt.compareEq_reads k l b.1 c.1 (by have:=b.2;have:=c.2;lia) ⟨.bl (PyData.eqv d e),H,I,rfl,q⟩
def zFh(m:X.A.units+64<cLine):LB X (compareOp .NotEq) (UB X.K):=by
 intro a s σ H x y v u Q I f g h;obtain⟨d,e,i,j,b,c,q⟩:=h;obtain⟨n,k⟩:=I.reads d x v i f;obtain⟨o,l⟩:=I.reads e y u j g;exact PySem.SeqAt.compareNe_reads k l b.1 c.1 (by have:=b.2;have:=c.2;lia) ⟨.bl (!PyData.eqv d e),H,I,rfl,q⟩
def UA(K:VA)(neg:Bool):R2:=λx y H Q=>∃d a,Rp K H d x/\(Rp K H (.list a) y\/Rp K H (.tuple a) y)/\Pl d/\PyData.canLayAll0 a=true/\Q (.bl (if neg then !(a.any λz=>PyData.eqv z d)else a.any λz=>PyData.eqv z d)) H
def zGb(n:X.A.units+64<cLine):LB X (compareOp .In) (UA X.K false):=by
 intro f s σ H x y v u Q I k g h;obtain⟨d,b,l,h2,c,i,q⟩:=h;obtain⟨o,j⟩:=I.reads d x v l k;have a:X.A.units+1+min (PyData.depthAll b) d.depth<cLine:=by have:=c.2;lia
 rcases h2 with h2 | h2
 .obtain⟨m,e⟩:=I.reads (.list b) y u h2 g;exact PySem.SeqAt.in_list_reads e j i c.1 a ⟨.bl _,H,I,rfl,q⟩
 .obtain⟨m,e⟩:=I.reads (.tuple b) y u h2 g;exact PySem.SeqAt.in_tuple_reads e j i c.1 a ⟨.bl _,H,I,rfl,q⟩
def To(n:X.A.units+64<cLine):LB X (compareOp .NotIn) (UA X.K true):=by
 intro f s σ H x y v u Q I k g h;obtain⟨d,b,l,h2,c,i,q⟩:=h;obtain⟨o,j⟩:=I.reads d x v l k;have a:X.A.units+1+min (PyData.depthAll b) d.depth<cLine:=by have:=c.2;lia
 rcases h2 with h2 | h2
 .obtain⟨m,e⟩:=I.reads (.list b) y u h2 g;exact PySem.SeqAt.notIn_list_reads e j i c.1 a ⟨.bl _,H,I,rfl,q⟩
 .obtain⟨m,e⟩:=I.reads (.tuple b) y u h2 g;exact PySem.SeqAt.notIn_tuple_reads e j i c.1 a ⟨.bl _,H,I,rfl,q⟩
end
section
variable{X:Cx}
def Tt(K:VA):V->A0 V->Hp->VK->Prop:=λx b H Q=>∃(l:A3) (a:A0 Str) (y:Str) (j:Nat),x = .ref l/\b = [.str y]/\IR K H l (a.map V.str)/\a[j]?=some y/\(∀m,m<j->a[m]?≠some y)/\Q (.int (j:Nat)) H
theorem i5{ss:A0 Str}{us:A0 A2}(h:IT (ss.map V.str) us){i:Nat}(hi:i<us.length):∃x t,ss[i]?=some x/\us[i] = .str x t:=by
 have b:=h.length;rw[AB]at b;obtain⟨x,a⟩:∃x,ss[i]?=some x:=⟨ss[i]'(by lia),AF (by lia)⟩;obtain⟨u,c,t,rfl⟩:=h.get (i:=i) (x:=.str x) (by rw[AJ,a];rfl);refine⟨x,t,a,?_⟩;have:=AF hi;rw[c]at this;exact(BU this).symm
theorem Ui:QH X "list.index" (Tt X.K):=by
 intro B s σ H x W v Y Q I L M h;obtain⟨l,Z,y,j,rfl,rfl,N,C,k,q⟩:=h;cases L;obtain⟨u,rfl,⟨D,rfl⟩⟩:=M.one;obtain⟨a,r,⟨o,n,e,E,O,c⟩,G⟩:=I.list N;have d:=r.length;rw[AB]at d G;have b:j<a.length:=by
  have:=(AK.mp C).1;lia
 obtain⟨P,R,J,S⟩:=o;simp only at E O c;subst E c
 let p:A2->Bool:=λv=>match v with | .str x _=>x == y | _=>false
 have T:=PySem.SeqAt.list_indexAt l a.toArray n R S (.str y D) p j (by simpa using b) (by rw[sizeLine_eq]at G;lia) ?_ ?_
 .refine call_meets F.slot_list_index ⟨_,e,rfl⟩ F.entry_list_index (F.args_list_index_2 _ _) T ⟨e,?_,?_⟩
  .intro v U;have w:v∈a:=by simpa using U
   obtain⟨i,V,rfl⟩:=List.getElem_of_mem w;obtain⟨x,t,_,f⟩:=i5 r V;rw[f];exact PySem.SeqAt.EqAt.str_str x t y D
  .exact⟨.int (j:Nat),H,I.tok _,⟨_,rfl⟩,q⟩
 .obtain⟨x,t,g,f⟩:=i5 r b;rw[C]at g;cases g;show p (a.toArray[j]'(by simpa using b))=true;rw[show a.toArray[j]'(by simpa using b)=a[j]from by simp,f];exact beq_self_eq_true y
 .intro m hm z;have A:m<a.length:=by simpa using hm
  obtain⟨x,t,g,f⟩:=i5 r A;show p (a.toArray[m]'hm)=false;rw[show a.toArray[m]'hm=a[m]from by simp,f];show(x == y)=false;rw[beq_eq_false_iff_ne];rintro rfl;exact k m z g
end
end L2
namespace L2
open PySem PySem.Spec PyProof.Rows
section
variable{X:Cx}
def Ik(x:Str)(n:Nat):Str:=⟨(List.replicate n x.cps).foldl (· ++ ·) #[]⟩
theorem Yh(x:Str):Ik x 1=x:=by
 unfold Ik;simp
theorem Jv:∀(n:Nat) (a:IG Nat),(List.replicate n (#[]:IG Nat)).foldl (· ++ ·) a=a
 | 0,_=>rfl
 | n+1,a=>by rw[DD,HL,Array.append_empty];exact Jv n a
theorem Mp(a:IG Nat):∀(n:Nat) (b:IG Nat),((List.replicate n a).foldl (· ++ ·) b).size=b.size+n*a.size
 | 0,_=>by simp
 | n+1,b=>by rw[DD,HL,Mp a n,Array.size_append,Nat.succ_mul];lia
theorem Py:LB X (binaryOp .Mult) (λx y H Q=>∃z i n,x = .str z/\y = .int i/\i =((n:Nat):Int)/\n<=100/\z.length<=1000/\Q (.str (Ik z n)) H):=by
 intro j s σ H x y v u Q I l m h;obtain⟨z,i,n,rfl,rfl,w,o,e,q⟩:=h;obtain⟨t,rfl⟩:=l;obtain⟨A,rfl⟩:=m;have d:z.length=z.cps.size:=rfl;refine PySem.P.mul_str ?_ ?_ ?_ ?_
 .rw[AL (by lia),AL (by lia)];rfl
 .intro f _ p;have k:(z.length:Int)*i<=1000*100:=Int.mul_le_mul (by lia) (by lia) (by lia) (by lia);have:=Int.le_ediv_of_mul_le (a:=(z.length:Int)) (b:=2^63-1) (c:=i) (by lia) (by lia);lia
 .intro _ _;have k:z.length*i.toNat<=1000*100:=Nat.mul_le_mul e (by lia);unfold Builtin.Str.tooLong;exact AL (by rw[sizeLine_eq];lia)
 .have r:i.toNat=n:=by lia
  rw[r];by_cases f:i<1
  .rw[AO f];have:n=0:=by lia
   subst this;exact⟨by decide,.str (Ik z 0),H,I.tok _,⟨_,rfl⟩,q⟩
  .rw[AI f];by_cases g:(i == 1||z.length == 0)=true
   .rw[AO g];have e:Ik z n=z:=by
     rcases Bool.or_eq_true _ _▸g with z1 | z1
     .have:n=1:=by have:=eq_of_beq z1;lia
      subst this;exact Yh z
     .have:z.cps = #[]:=Array.eq_empty_of_size_eq_zero (by rw[d]at z1;exact eq_of_beq z1);unfold Ik;rw[this,Jv];cases z;simp at this;rw[this]
    rw[e]at q;exact⟨.str z,H,I,⟨t,rfl⟩,q⟩
   .rw[AI g];refine⟨?_,.str (Ik z n),H,I.tok _,⟨_,rfl⟩,q⟩;show(Ik z n).cps.size<=sizeLine;unfold Ik;rw[Mp,sizeLine_eq];have k:n*z.cps.size<=100*1000:=Nat.mul_le_mul o (by rw[<-d];exact e);simp only[Array.size_empty];lia
set_option genInjectivity false in
structure Fn(K:VA)(mg:Str->A5 A2)(x:Str)(st:IY)(ps:A0 Str) where
 f:A3
 fd:I7
 F:PL K x x st f fd
 b:Binds K fd ps []
 m:mg x=some (.ref f)
set_option genInjectivity false in
structure Mt(K:VA)(C:A3)(m qual:Str)(st:IY)(ps:A0 Str) where
 f:A3
 fd:I7
 F:PL K m qual st f fd
 b:Binds K fd ps []
 m:RA K C m f
theorem D9{x:Str}{st:IY}{ps:A0 Str}{k:Nat}{sp:Sp}{e:IQ}{a:A0 IQ}{t:TA}{p c:Pos}(D:Fn X.K X.mg x st ps)(G:IU X.prog X.w X.K X.mg X.base JW k D.f D.fd ps sp)(h:KD k X.A)(i:PA X (e::a) t)
  (j:Gl X x:=by rfl) (d:(x ==("__debug__":Str))=false:=by decide) (l:starEach (e::a) X.env =(false,eval e X.env)::starEach a X.env:=by rfl) (g:(backTo c (starEach a X.env)).any (·.1)=false:=by rfl) :
  PE X (.Call (.Name x p) (e::a) [] c) (Hr sp [] E0 t):=Zw G h j D.m D.F.kp D.b .nil J1 i d l g
def Uy(P:IE)(w:IJ)(x:V)(H:Hp):Prop:=∃p,x = .ref p/\((∃l,H p=some (Qg P w p l))\/(∃l,H p=some (Dd w p l))\/∃a,H p=some (Qf P w p a))
theorem zEp{c:A0 (A3×Obj)}{σ:St}{H:Hp}{s:A4}{x:V}{v:A2}(I:Inv X c σ H s)(r:RelV x v)(ty:Uy X.prog X.w x H):s.TypeIs v "set"/\∀a,v = .ref a->∃d,s.heap.get? a=some d/\d.dict=none:=by
 obtain⟨p,rfl,h⟩:=ty;cases r;have z:∃o,s.heap.get? p=some o/\o.ExactSet:=by
  rcases h with⟨l,h⟩ | ⟨l,h⟩ | ⟨l,h⟩
  .obtain⟨o,_,_,_,e,b,_⟩:=I.set h;exact⟨o,e,b⟩
  .obtain⟨o,_,_,_,S,_⟩:=I.setw h;exact⟨o,S.ho,S.ex⟩
  .obtain⟨o,_,_,_,e,b,_⟩:=I.sett h;exact⟨o,e,b⟩
 obtain⟨o,e,b⟩:=z;refine⟨⟨o,e,b.1⟩,λa f=>?_⟩;cases f;exact⟨o,e,b.2.1⟩
def zIt(P:IE)(w:IJ)(r:V->A0 V->Hp->VK->Prop)(b:TE)(t:TA):TE:=λσ H Q=>b σ H λx a=>Uy P w x a/\t σ a λc d=>r x c d Q
theorem zAi{o e:IQ}{i:TE}{t:TA}{c a:Pos}{r:V->A0 V->Hp->VK->Prop}(m:QH X "set.add" r)(n:PE X o i)(p:PA X [e] t)
  (d:attributeBase o "add" X.env (eval o X.env)=eval o X.env:=by rfl)
  (g:((backTo a (starEach [e] X.env)).all (λx=>!x.1) &&(backToKw a (keywordEach [] X.env)).all (λx=>x.1.isSome)
   && decide ([e].length +([]:A0 Keyword).length +(if([]:A0 Keyword).isEmpty then 0 else 1)<30))=true:=by rfl)
  (f:(c.endLine == a.line)=true:=by rfl) (q:starEach [e] X.env = [(false,eval e X.env)]:=by rfl) :
  PE X (.Call (.Attribute o "add" c) [e] [] a) (zIt X.prog X.w r i t):=by
 intro b s σ H Q I h;refine wpAny_Call_method_late d g f rfl (JK (n b s σ H _ I h) λv u ⟨x,y,j,k,ty,z⟩=>?_);obtain⟨A,B⟩:=zEp j k ty;refine⟨"set", "set.add",F.plainAttrs_set,F.slot_set_add,F.type_set_add,A,B,?_⟩;have l:=p a b u σ y _ j z;rw[q]at l⊢;refine Calls.callWith_builtin rfl (Calls.evalArgs_plain ?_);exact JK l λC D ⟨E,G,J,K,L⟩=>m b D σ G x E v C Q J k K L
theorem zHt{x:Str}{i:Int}{a:Pos}(h:∃t,X.mg x=some (.int i t))(b:Gl X x:=by rfl)(c:(x ==("__debug__":Str))=false:=by decide):PE X (.Name x a) (tC (.int i)):=by
 obtain⟨t,e⟩:=h;exact Kp b e ⟨t,rfl⟩ c
theorem zHl{x y:Str}{a:Pos}(h:∃t,X.mg x=some (.str y t))(b:Gl X x:=by rfl)(c:(x ==("__debug__":Str))=false:=by decide):PE X (.Name x a) (tC (.str y)):=by
 obtain⟨t,e⟩:=h;exact Kp b e ⟨t,rfl⟩ c
theorem i7{x:Str}{n:String}{a:Pos}(b:X.mg x=none)(c:bootBuiltins x=some (.type n))(d:Gl X x:=by rfl)(e:x≠ "__name__":=by decide)(f:(x ==("__debug__":Str))=false:=by decide):PE X (.Name x a) (tC (.ty n)) :=
 zBx d b c rfl e f
theorem F9{x:Str}{id:String}{r:A0 V->Hp->VK->Prop}{e:IQ}{a:A0 IQ}{t:TA}{p b:Pos}(f:N0 X (.builtin id) r)(g:X.mg x=none)(h:bootBuiltins x=some (.builtin id))(i:PA X (e::a) t)(j:Gl X x:=by rfl)(k:x≠ "__name__":=by decide)(c:(x ==("__debug__":Str))=false:=by decide)
  (l:starEach (e::a) X.env =(false,eval e X.env)::starEach a X.env:=by rfl) (d:(backTo b (starEach a X.env)).any (·.1)=false:=by rfl):PE X (.Call (.Name x p) (e::a) [] b) (S_ r t):=Yc f j g h i k c l d
theorem g7{x:Str}{T:String}{r:A0 V->Hp->VK->Prop}{e:IQ}{a:A0 IQ}{t:TA}{p b:Pos}(f:N0 X (.type T) r)(g:X.mg x=none)(h:bootBuiltins x=some (.type T))(i:PA X (e::a) t)(j:Gl X x:=by rfl)(k:x≠ "__name__":=by decide)(c:(x ==("__debug__":Str))=false:=by decide)
  (l:starEach (e::a) X.env =(false,eval e X.env)::starEach a X.env:=by rfl) (d:(backTo b (starEach a X.env)).any (·.1)=false:=by rfl):PE X (.Call (.Name x p) (e::a) [] b) (S_ r t):=Ur f j g h i k c l d
theorem P4{a:KZ}{cl:A0 (Str×A3)}{N':A0 Str}{cap:A0 (A5 Nat)}(c:OP X a cl N' cap)(e:RQ X cl)(d:closureFor a X.env=pure cl:=by rfl)(kind:a.kind = .function:=by rfl)(b:∀y∈a.names,y.2≠ .cell:=by decide +kernel)
  (f:∀y∈a.names,y.2 = .local->a.names.lookup y.1=some .local:=by decide +kernel) (g:((relabel a X.env).names.all λy=>!(y.2 == .cell||y.2 == .free)||(cl.lookup y.1).isSome)=true:=by rfl):NA X a cl N' cap:=⟨kind,b,f,d,e,g,c⟩
theorem LS{a:KZ}{cl:A0 (Str×A3)}{N':A0 Str}{b:A0 (A3×Obj)}{c:A0 A3}{d:A4}{e:Hp}{x:Str}{f:Pos}(i:Nat)(g:N'.Nodup:=by decide +kernel)(hi:N'[i]?=some x:=by rfl)(h:Loc (MJ X a cl N' b c d e).env.scope x:=by exact Or.inl rfl)
  (j:(MJ X a cl N' b c d e).env.scope.names.lookup x=some .local:=by rfl):PG (MJ X a cl N' b c d e) (.Name x f) (Q4 i):=I9 (X:=MJ X a cl N' b c d e) g hi h (.inr j)
def Q5:bootBuiltins "len" = some (.builtin "len"):=by decide +kernel
def Jk:bootBuiltins "enumerate" = some (.type "enumerate"):=by decide +kernel
def zDw:bootBuiltins "min" = some (.builtin "min"):=by decide +kernel
def zGf:bootBuiltins "max" = some (.builtin "max"):=by decide +kernel
def Zf:bootBuiltins "abs" = some (.builtin "abs"):=by decide +kernel
def K8:bootBuiltins "sorted" = some (.builtin "sorted"):=by decide +kernel
def Zl:bootBuiltins "int" = some (.type "int"):=by decide +kernel
def Nc:bootBuiltins "str" = some (.type "str"):=by decide +kernel
def Gx:bootBuiltins "bool" = some (.type "bool"):=by decide +kernel
def Q0:bootBuiltins "list" = some (.type "list"):=by decide +kernel
def Cj:bootBuiltins "tuple" = some (.type "tuple"):=by decide +kernel
def Us:bootBuiltins "set" = some (.type "set"):=by decide +kernel
def B9:bootBuiltins "isinstance" = some (.builtin "isinstance"):=by decide +kernel
def Uv:bootBuiltins "all" = some (.builtin "all"):=by decide +kernel
def KJ(a:A3)(b H:Hp):Prop:=∀o,b a=some o->H a=some o
def Sm(D:A0 A3)(H H':Hp):Prop:=∀b o,H b=some o->b∉D->H' b=some o
def Cv.at{b H:Hp}(h:Cv b H)(a:A3):KJ a b H:=λo e=>h a o e
def Cv.new{H:Hp}{p:A3}{o:HO}(h:H p=none):Cv H (II H p o):=λb u e=>by rw[B7 (B0 e h)];exact e
def Cv.upd{a H:Hp}{p:A3}{o:HO}(s:Cv a H)(h:a p=none):Cv a (II H p o):=λb u e=>by rw[B7 (B0 e h)];exact s b u e
def Cv.sm{D:A0 A3}{H H':Hp}(h:Cv H H'):Sm D H H':=λb o e _=>h b o e
def Sm.refl(D:A0 A3)(H:Hp):Sm D H H:=λ_ _ e _=>e
def Sm.trans{D:A0 A3}{H d e:Hp}(a:Sm D H d)(b:Sm D d e):Sm D H e:=λc o h n=>b c o (a c o h n) n
def Sm.new{D:A0 A3}{H c:Hp}{p:A3}{o:HO}(a:Sm D H c)(h:c p=none):Sm D H (L2.II c p o):=λb u e n=>by
 have:=a b u e n;rw[B7 (B0 this h)];exact this
def Sm.upd{D:A0 A3}{H c:Hp}{p:A3}{o:HO}(a:Sm D H c)(h:p∈D):Sm D H (L2.II c p o):=λb u e n=>by
 rw[B7 (show b≠p from λz=>n (by rw[z];exact h))];exact a b u e n
def Sm.updN{D:A0 A3}{H c:Hp}{p:A3}{o:HO}(a:Sm D H c)(h:H p=none):Sm D H (L2.II c p o):=λb u e n=>by rw[B7 (B0 e h)];exact a b u e n
def KJ.seqL{K:VA}{H H':Hp}{a:A3}{xs:A0 V}(e:KJ a H H')(h:IR K H a xs):IR K H' a xs:=by
 rcases h with(h | ⟨o,h⟩) | h
 .exact .inl (.inl (e _ h))
 .exact .inl (.inr ⟨o,e _ h⟩)
 .exact .inr h
def KJ.seqT{K:VA}{H H':Hp}{a:A3}{xs:A0 V}(e:KJ a H H')(h:JG K H a xs):JG K H' a xs:=by
 rcases h with(h | ⟨o,h⟩) | h
 .exact .inl (.inl (e _ h))
 .exact .inl (.inr ⟨o,e _ h⟩)
 .exact .inr h
def RG(K:VA)(H:Hp)(a:A3)(xs:A0 V):Prop:=IR K H a xs\/JG K H a xs
def KJ.seq{K:VA}{H H':Hp}{a:A3}{xs:A0 V}(e:KJ a H H')(h:RG K H a xs):RG K H' a xs:=h.imp e.seqL e.seqT
structure OD(J:It)(xs:A0 V)(a:A3)(H0:Hp):Prop where
 go:∀H i,KJ a H0 H->i<xs.length->J.go i H
 stop:∀H,KJ a H0 H->J.stop xs.length H
 yld:∀H i x H',KJ a H0 H->i<xs.length->J.yld i H x H'->H'=H/\xs[i]?=some x
def PQ{K:VA}{b:Hp}{a:A3}{xs:A0 V}(h:IR K b a xs):OD (QS K a) xs a b :=
 ⟨λH i k c=>⟨xs,xs[i],k.seqL h,AF c⟩,λH k=>⟨xs,k.seqL h,VD _⟩,λH i x d k c ⟨e,y⟩=>⟨e,y xs (k.seqL h)⟩⟩
def asT{K:VA}{b:Hp}{a:A3}{xs:A0 V}(h:JG K b a xs):OD (Itt K a) xs a b :=
 ⟨λH i k c=>⟨xs,xs[i],k.seqT h,AF c⟩,λH k=>⟨xs,k.seqT h,VD _⟩,λH i x d k c ⟨e,y⟩=>⟨e,y xs (k.seqT h)⟩⟩
def Xz{J:It}{n:Nat}{g:TG}{f:TS}{D:Ends}{σ:St}{H:Hp}(Pv:Nat->St->Hp->Prop)(j:Pv 0 σ H)(b:∀i σ H,i<n->Pv i σ H->J.go i H)(c:∀σ H,Pv n σ H->J.stop n H)
  (k:∀i σ H x H',i<n->Pv i σ H->J.yld i H x H'->g x σ H' λσ2 d=>f { D with nx:=Pv (i+1),ct:=Pv (i+1),bk:=D.nx } σ2 d) (l:∀σ H,Pv n σ H->D.nx σ H) :
  ∃W:Nat->Nat->St->Hp->Prop,(∃m,W 0 m σ H)/\∀i m σ H,W i m σ H ->
   (J.stop i H/\D.nx σ H)\/(J.go i H/\∃N:St->Hp->Prop,(∀σ' H',N σ' H'->∃h,h < m/\W (i+1) h σ' H')/\∀x H',J.yld i H x H'->g x σ H' λσ2 d=>f { D with nx:=N,ct:=N,bk:=D.nx } σ2 d):=by
 refine⟨λi m σ H=>m=n-i/\i<=n/\Pv i σ H,⟨n,by simp,BZ _,j⟩,?_⟩;rintro i m σ H ⟨rfl,q,p⟩;by_cases a:i<n
 .exact .inr ⟨b i σ H a p,Pv (i+1),λσ' H' o=>⟨n-(i+1),by lia,rfl,a,o⟩,λx H' y=>k i σ H x H' a p y⟩
 .have e:i=n:=by lia
  subst e;exact .inl ⟨c σ H p,l σ H p⟩
def zFk{J:It}{xs:A0 V}{a:A3}{f:Hp}(as:OD J xs a f){g:TG}{h:TS}{D:Ends}{σ:St}{H:Hp}(Pv:Nat->St->Hp->Prop)(k:Pv 0 σ H)(c:∀i σ H,i<=xs.length->Pv i σ H->KJ a f H)
  (l:∀i σ H x,xs[i]?=some x->Pv i σ H->g x σ H λσ2 d=>h { D with nx:=Pv (i+1),ct:=Pv (i+1),bk:=D.nx } σ2 d) (o:∀σ H,Pv xs.length σ H->D.nx σ H) :
  ∃W:Nat->Nat->St->Hp->Prop,(∃m,W 0 m σ H)/\∀i m σ H,W i m σ H ->
   (J.stop i H/\D.nx σ H)\/(J.go i H/\∃N:St->Hp->Prop,(∀σ' H',N σ' H'->∃j,j < m/\W (i+1) j σ' H')/\∀x H',J.yld i H x H'->g x σ H' λσ2 d=>h { D with nx:=N,ct:=N,bk:=D.nx } σ2 d) :=
 Xz (n:=xs.length) Pv k (λi σ H b p=>as.go H i (c i σ H (DQ b) p) b) (λσ H p=>as.stop H (c _ σ H (VD _) p)) (λi σ H x H' b p y=>by
  obtain⟨rfl,e⟩:=as.yld H i x H' (c i σ H (DQ b) p) b y;exact l i σ _ x e p) o
def Iz{J:It}{n:Nat}{g:TG}{f:TT}{em:SQ}{σ:St}{H:Hp}{Q:St->Hp->Prop}(Pv:Nat->St->Hp->Prop)(j:Pv 0 σ H)(c:∀i σ H,i<n->Pv i σ H->J.go i H)(d:∀σ H,Pv n σ H->J.stop n H)
  (k:∀i σ H x H' (N:St->Hp->Prop),i<n->Pv i σ H->J.yld i H x H'->(∀σ' H',Pv (i+1) σ' H'->N σ' H')->g x σ H' λσ2 l=>f σ2 l λb h=>if b=true then em σ2 h N else N σ2 h)
  (o:∀σ H,Pv n σ H->Q σ H):Bi g f em J σ H Q:=by
 refine⟨λi m σ H=>m=n-i/\i<=n/\Pv i σ H,⟨n,by simp,BZ _,j⟩,?_⟩;rintro i m σ H ⟨rfl,r,p⟩;by_cases a:i<n
 .exact .inr ⟨c i σ H a p,λx H' y=>k i σ H x H' _ a p y λσ3 s q=>⟨n-(i+1),by lia,rfl,a,q⟩⟩
 .have e:i=n:=by lia
  subst e;exact .inl ⟨d σ H p,o σ H p⟩
def Q3{J:It}{xs:A0 V}{a:A3}{f:Hp}(as:OD J xs a f){g:TG}{h:TT}{em:SQ}{σ:St}{H:Hp}{Q:St->Hp->Prop}(Pv:Nat->St->Hp->Prop)(k:Pv 0 σ H)(d:∀i σ H,i<=xs.length->Pv i σ H->KJ a f H)
  (l:∀i σ H x (N:St->Hp->Prop),xs[i]?=some x->Pv i σ H->(∀σ' H',Pv (i+1) σ' H'->N σ' H')->g x σ H λσ2 m=>h σ2 m λb j=>if b=true then em σ2 j N else N σ2 j)
  (o:∀σ H,Pv xs.length σ H->Q σ H):Bi g h em J σ H Q :=
 Iz (n:=xs.length) Pv k (λi σ H c p=>as.go H i (d i σ H (DQ c) p) c) (λσ H p=>as.stop H (d _ σ H (VD _) p)) (λi σ H x H' N c p y q=>by
  obtain⟨rfl,e⟩:=as.yld H i x H' (d i σ H (DQ c) p) c y;exact l i σ _ x N e p q) o
def By{em:SQ}{N:St->Hp->Prop}{σ:St}{H:Hp}{i:Nat}{x:V}(h:em (σ.set i (some x)) H N):Q4 i x σ H λσ2 c=>Ef σ2 c λb a=>if b=true then em σ2 a N else N σ2 a:=by
 show if true=true then em (σ.set i (some x)) H N else N (σ.set i (some x)) H
 rw[AO rfl];exact h
section
variable{X:Cx}(K:VA)(P:IE)(w:IJ){tg:IQ}
theorem MW{l:IQ}{tl:TE}(a:PE X l tl)(b:X.K=K:=by rfl):PI X tg l (zDx K tl):=by subst b;exact zAp a
theorem piT{l:IQ}{tl:TE}(a:PE X l tl)(b:X.K=K:=by rfl):PI X tg l (zIb K tl):=by subst b;exact zFq a
theorem T2{a:IQ}{c:TA}{p b:Pos}(d:X.mg "range" = none)(e:PA X [a] c)(f:Gl X "range":=by rfl)(g:starEach [a] X.env = [(false,eval a X.env)]:=by rfl):PI X tg (.Call (.Name "range" p) [a] [] b) (zFo c):=Qj f d e g
theorem RR{a:A0 IQ}{k:Nat}{t:RZ}{n:Nat}{b:Pos}(h:TN X a t)(d:X.calm=true:=by rfl)(e:(assignEach a X.env).length=n:=by rfl)(c:(assignEach a X.env).findIdx? (·.1)=none:=by rfl)(f:X.K=K:=by rfl):PG X (.Tuple a k b) (UL K n t):=by subst f;exact zGh d h e c
theorem LX{e:IQ}{b:TE}{f:Str}{a:Pos}(c:PE X e b)(d:attributeBase e f X.env (eval e X.env)=eval e X.env:=by rfl)(g:X.K=K:=by rfl):PE X (.Attribute e f a) (zIu K b f):=by subst g;exact zEw c d
theorem RC{o a:IQ}{d e:TE}{f:Str}{c b:Pos}(g:PE X o d)(h:PE X a e)(i:swapsWith a (some (.Attribute o f b)) c.line X.env=pure false:=by rfl)(j:X.K=K:=by rfl):PS X (.Assign [.Attribute o f b] a c) (zIj K d e f):=by subst j;exact zFx g h i
theorem T0(b:X.K=K:=by rfl):N0 X (.builtin "len") (λxs H Q=>∃p a,xs = [.ref p]/\(IR K H p a\/JG K H p a)/\Q (.int a.length) H):=by subst b;exact Ij
theorem T7(b:X.K=K:=by rfl):N0 X (.type "list") (λxs H Q=>∃p a,xs = [.ref p]/\(IR K H p a\/JG K H p a)/\∀l,H l=none->Q (.ref l) (II H l (.lst a))):=by subst b;exact Ir
theorem Vm(a:X.calm=true:=by rfl)(b:X.K=K:=by rfl):N0 X (.builtin "all") (λxs H Q=>∃(p:A3) (bs:A0 Bool),xs = [.ref p]/\IR K H p (bs.map V.bl)/\Q (.bl (bs.all id)) H):=by subst b;exact Yi a
theorem Ar(b:X.K=K:=by rfl):N0 X (.builtin "sorted") (λxs H Q=>∃(p:A3) (ss:A0 Str),xs = [.ref p]/\IR K H p (ss.map V.str)/\∀(l:A3) (a:A0 Str),H l=none->a.Perm ss->a.Pairwise NZ->Q (.ref l) (II H l (.lst (a.map V.str)))):=by subst b;exact Bp
theorem Au(b:X.K=K:=by rfl):N0 X (.builtin "sorted") (λxs H Q=>∃(p:A3) (ps:A0 IZ),xs = [.ref p]/\IR K H p (ps.map λq=>V.ref q.1)/\(∀q∈ps,G0 H q)/\∀(l:A3) (a:A0 IZ),H l=none->a.Perm ps->a.Pairwise QX->Q (.ref l) (II H l (.lst (a.map λq=>V.ref q.1)))):=by subst b;exact Hs
theorem Wg(b:X.calm=true:=by rfl)(hw:X.w=w:=by rfl):N0 X (.builtin "sorted") (λxs H Q=>∃(p:A3) (ss:A0 Str),xs = [.ref p]/\H p=some (Dd w p ss)/\∀(l:A3) (a:A0 Str),H l=none->a.Perm ss->a.Pairwise NZ->Q (.ref l) (II H l (.lst (a.map V.str)))):=by subst hw;exact Ib b
theorem S9(a:X.K=K:=by rfl):N0 X (.builtin "isinstance") (λxs H Q=>∃x n t b,xs = [x,.ty n]/\MX K H x t/\PySem.W.kitOne K t (.type n)=some b/\Q (.bl b) H):=by subst a;exact Tr
theorem zBw(a:X.prog=P:=by rfl)(hw:X.w=w:=by rfl):N0 X (.type "set") (λxs H Q=>xs = []/\∀p,H p=none->Q (.ref p) (II H p (Qg P w p []))):=by subst a;subst hw;exact Vk
theorem Xq(a:X.prog=P:=by rfl)(hw:X.w=w:=by rfl):N0 X (.type "set") (λxs H Q=>xs = []/\∀p,H p=none->Q (.ref p) (II H p (Qf P w p []))):=by subst a;subst hw;exact Pq
theorem zHd(a:X.A.units+64<cLine)(b:X.K=K:=by rfl):LB X (compareOp .In) (UA K false):=by subst b;exact zGb a
theorem Md(a:X.A.units+64<cLine)(b:X.K=K:=by rfl):LB X (compareOp .NotIn) (UA K true):=by subst b;exact To a
theorem On(a:X.A.units+64<cLine)(b:X.K=K:=by rfl):LB X (compareOp .Eq) (TX K):=by subst b;exact zGk a
theorem Sk(a:X.A.units+64<cLine)(b:X.K=K:=by rfl):LB X (compareOp .NotEq) (UB K):=by subst b;exact zFh a
theorem Od(a:X.K=K:=by rfl):LB X (compareOp .In) (TD K false):=by subst a;exact Uq
theorem X8(a:X.K=K:=by rfl):LB X (compareOp .NotIn) (TD K true):=by subst a;exact Jm
theorem zGw(a:X.prog=P:=by rfl)(hw:X.w=w:=by rfl):LB X (compareOp .In) (zIm P w false):=by subst a;subst hw;exact Ub
theorem zHn(a:X.A.units+1<cLine)(b:X.prog=P:=by rfl)(hw:X.w=w:=by rfl):LB X (compareOp .In) (zIk P w):=by subst b;subst hw;exact Oi a
theorem zDd(a:X.prog=P:=by rfl)(hw:X.w=w:=by rfl):QH X "set.add" (zCv P w):=by subst a;subst hw;exact zFl
theorem zDu(a:X.A.units+1<cLine)(b:X.prog=P:=by rfl)(hw:X.w=w:=by rfl):QH X "set.add" (zEc P w):=by subst b;subst hw;exact zCa a
theorem Vq{o e:IQ}{g:TE}{t:TA}{b a:Pos}{r:V->A0 V->Hp->VK->Prop}(h:QH X "set.add" r)(i:PE X o g)(j:PA X [e] t)
  (c:attributeBase o "add" X.env (eval o X.env)=eval o X.env:=by rfl)
  (f:((backTo a (starEach [e] X.env)).all (λx=>!x.1) &&(backToKw a (keywordEach [] X.env)).all (λx=>x.1.isSome)
   && decide ([e].length +([]:A0 Keyword).length +(if([]:A0 Keyword).isEmpty then 0 else 1)<30))=true:=by rfl)
  (d:(b.endLine == a.line)=true:=by rfl) (k:starEach [e] X.env = [(false,eval e X.env)]:=by rfl) (l:X.prog=P:=by rfl) (hw:X.w=w:=by rfl) :
  PE X (.Call (.Attribute o "add" b) [e] [] a) (zIt P w r g t):=by subst l;subst hw;exact zAi h i j c f d k
theorem K_(a:X.K=K:=by rfl):UG X (UC K):=by subst a;exact zAg
theorem PP(a:X.K=K:=by rfl):UG X (zIw K):=by subst a;exact zFj
theorem Mz(a:X.K=K:=by rfl):QH X "list.index" (Tt K):=by subst a;exact Ui
theorem ptV{a:IQ}{c:TE}(d:PE X a c)(e:∀b,isTrue a X.env b =(do let v <-b;standAt a.pos;holding [v] (truthy v)):=by intro _;rfl)(f:X.K=K:=by rfl):PT X a (λσ H Q=>c σ H λx H'=>∃k,zId K x H' k/\Q k H'):=by subst f;exact Wa d e
theorem Ph{T id:String}{name:Str}{o e:IQ}{d:A0 IQ}{k:TE}{t:TA}{c a:Pos}{r:V->A0 V->Hp->VK->Prop}(l:PlainAttrs T)(h:Slot T name id)(j:typeOf (.builtin id)=pure (.type "method_descriptor"))(m:QH X id r)(n:PE X o k)(p:PA X (e::d) t)
  (f:attributeBase o name X.env (eval o X.env)=eval o X.env:=by rfl)
  (i:((backTo a (starEach (e::d) X.env)).all (λx=>!x.1) &&(backToKw a (keywordEach [] X.env)).all (λx=>x.1.isSome)
   && decide ((e::d).length +([]:A0 Keyword).length +(if([]:A0 Keyword).isEmpty then 0 else 1)<30))=true:=by rfl)
  (g:(c.endLine == a.line)=true:=by rfl) (q:starEach (e::d) X.env =(false,eval e X.env)::starEach d X.env:=by rfl) (b:(backTo a (starEach d X.env)).any (·.1)=false:=by rfl) (s:X.K=K:=by rfl) :
  PE X (.Call (.Attribute o name c) (e::d) [] a) (tBM K T r k t):=by subst s;exact zHc l h j m n p f i g q b
theorem zDk{T id:String}{name:Str}{o:IQ}{g:TE}{a b:Pos}{r:V->A0 V->Hp->VK->Prop}(h:PlainAttrs T)(e:Slot T name id)(f:typeOf (.builtin id)=pure (.type "method_descriptor"))(i:QH X id r)(j:PE X o g)
  (c:attributeBase o name X.env (eval o X.env)=eval o X.env:=by rfl) (d:(a.endLine == b.line)=true:=by rfl) (k:X.K=K:=by rfl):PE X (.Call (.Attribute o name a) [] [] b) (zIy K T r g):=by subst k;exact zGo h e f i j c d
end
section
variable{prog:IE}{w:IJ}{A:IM}{E:A2->A4->Prop}{s:A4}
theorem Lq{t:A3}{vs:A0 A2}{Q:A0 A2->A4->Prop}(k:IsTup s.heap t vs.toArray)(hsz:vs.length<=sizeLine)(h:∀h',(∀b u,s.heap.get? b=some u->h'.get? b=some u)->s.heap.objs.size<=h'.objs.size->Q vs { s with heap:=h' }):wpAny (model prog w) A (collect (.ref t)) Q E s:=by
 obtain⟨o,m,p,n,q⟩:=k;unfold collect;refine AA (wpAny_runValue (DY F.entry_proto_collect ?_));rw[show A.under _=A.in1 from Around.under_plainId F.plain_proto_collect _];show wpAny _ A.in1 (newList [] >>= λl=>again (.builtin "list.__iadd__" ⟨[l,.ref t],[]⟩)) _ _ s;refine AA (BV (AC ⟨plainId_quiet F.plain_list_iadd _,DY F.entry_list_iadd ?_⟩));rw[show A.under _=A.in1 from Around.under_plainId F.plain_list_iadd _];show wpAny _ A.in1 (Builtin.List.listExtendWith (.ref s.heap.objs.size) (.ref t) (.ref s.heap.objs.size)) _ _ _;have i:(s.heap.push { cls:=.type "list",data:=.seq ([]:A0 A2).toArray }).get? s.heap.objs.size=some { cls:=.type "list",data:=.seq #[] 0 }:=AY _ rfl;have v:=BW (Obj.mapSeq (· ++ vs.toArray)) i rfl;have d:wpAny (model prog w) A (match Value.ref s.heap.objs.size with
   | Value.ref a=>do
    match(<-load a).data with
     | Data.seq x _=>pure x.toList
     | _=>unsupported "internal:collect"
   | _=>unsupported "internal:collect") Q E { s with heap:=(s.heap.push { cls:=.type "list",data:=.seq ([]:A0 A2).toArray }).update s.heap.objs.size (Obj.mapSeq (· ++ vs.toArray)) }:=by
  show wpAny _ A (load s.heap.objs.size >>= _) _ _ _;refine AA (wpAny_load v (AC ?_));show Q ((#[]:IG A2)++vs.toArray).toList _;rw[show((#[]:IG A2)++vs.toArray).toList=vs from by simp];exact h _ (λb u j=>(BF _ _ (Nat.ne_of_gt (AG j))).trans (AD _ j)) (by rw[GS,CO];lia)
 refine BS (wpAny_extend_seq (A:=A) (hsz:=by rw[AR];exact hsz) (R:=λr g=>r = .ok (.ret (.ref s.heap.objs.size))/\g ={ s with heap:=(s.heap.push { cls:=.type "list",data:=.seq ([]:A0 A2).toArray }).update s.heap.objs.size (Obj.mapSeq (· ++ vs.toArray)) })
  (s:={ s with heap:=s.heap.push { cls:=.type "list",data:=.seq ([]:A0 A2).toArray } }) _ t _ 0 (.inr rfl) i (AD _ m) p q ⟨rfl,rfl⟩) (λf g z=>?_) (λe g z=>absurd z.1 (by simp))
 match f,z with
 | .done f,⟨y,B⟩=>subst B;cases y;exact d
 | .again c,z=>exact⟨z.1,FC z.2 λr D C=>by obtain⟨rfl,rfl⟩:=C;exact d⟩
end
theorem Jj:N0 X (.builtin "sorted") (λxs H Q=>∃(p:A3) (ss:A0 Str),xs = [.ref p]/\RG X.K H p (ss.map V.str)/\∀(l:A3) (a:A0 Str),H l=none->a.Perm ss->a.Pairwise NZ->Q (.ref l) (II H l (.lst (a.map V.str)))):=by
 intro f s σ H xs c Q I r h;obtain⟨p,ss,rfl,hq,q⟩:=h;rcases hq with hq | hq
 .exact Bp f s σ H _ c Q I r ⟨p,ss,rfl,hq,q⟩
 obtain⟨u,rfl,G⟩:=o8 r;cases G;obtain⟨J,E,⟨o,i,L,n,M⟩,W⟩:=I.tuple hq;have j:=n6 E;have Y:=E.length;refine TS.LF (Lq ⟨o,i,L,n,M⟩ (by lia) λF N g=>?_);refine⟨rfl,by lia,strKind,oneType',λZ _=>TS.NC j,λout O e i k P=>?_⟩;obtain⟨m,R⟩:=i;have w:∀v∈out.toList,∃x t,v = .str x t:=λv z=>j.all v (m.mem_iff.mp z);have z:IT ((out.toList.map strOf).map V.str) out.toList:=by
  have:∀c:A0 A2,(∀v∈c,∃x t,v = .str x t)->IT ((c.map strOf).map V.str) c:=by
   intro c
   induction c with
   | nil=>exact λ_=>.nil
   | cons v r S =>
    intro h;obtain⟨x,t,rfl⟩:=h v (BA ..);exact .cons ⟨t,rfl⟩ (S λu A=>h u (AM _ A))
  exact this _ w
 have d:(out.toList.map strOf).Perm ss:=by
  have:=m.map strOf
  rwa [j.strs]at this
 have B:(out.toList.map strOf).Pairwise NZ:=by
  rw[CU];refine(EN.mp R).imp fun{u v} ⟨A,C,q⟩=>?_;obtain⟨x,t,rfl⟩:=w u A;obtain⟨y,t',rfl⟩:=w v C;have T:decide (y.cps.toList<x.cps.toList)=false:=q;exact HP T
 have D:∀b o,s.heap.get? b=some o->O.get? b=some o:=λb o U=>k b o (N b o U);refine⟨.ref F.objs.size,II H F.objs.size (.lst ((out.toList.map strOf).map V.str)),?_,rfl,q _ _ (I.hok.fresh g) d B⟩;refine I.laid (t':=s.toks) D g ⟨?_,out.toList,e,z,by simpa using P⟩;rw[AB,AB,m.length_eq];lia
theorem Ox{f:A0 (A3×Obj)}{σ:St}{H:Hp}{s:A4}{A:IM}{E:A2->A4->Prop}{Q:A2->A4->Prop}{b:Bool}{x:V}{u t:A2}{l:A3}{its:A0 A2}(I:Inv X f σ H s)(g:RelV x u)(ty:MX X.K H x t)(i:IsTup s.heap l its.toArray)(e:PySem.W.kitAny X.K t its=some b)(m:(∃y,x = .str y)\/(∃a xs,x = .ref a/\(H a=some (.lst xs)\/H a=some (.tup xs))))(h:∀r,Q (.bool b) { s with toks:=r }) :
  wpAny (model X.prog X.w) A (call (.builtin "isinstance") [u,.ref l]) Q E s:=by
 obtain⟨⟨G,J,v,B⟩,j,C,n,D⟩:=i;cases C;cases D;rcases m with⟨y,rfl⟩ | ⟨a,xs,rfl,ea | ea⟩
 .cases ty;obtain⟨t,q⟩:=(show ∃t,u=Value.str y t from g);cases q;exact VR PySem.W.kitx_str I.kIn VC j e (λz=>nomatch z) h
 .cases(show u=Value.ref a from g);have d:t = .type "list":=by cases ty with
   | lst=>rfl
   | frz=>rfl
   | tup c=>rw[ea]at c;cases c
   | dK c=>rw[ea]at c;cases c
   | dT c=>rw[ea]at c;cases c
   | ins c=>rw[ea]at c;cases c
  subst d;obtain⟨_,_,n,_,k⟩:=(show JA X.prog X.w H s.heap a (.lst xs)from I.hok a _ ea);exact VR PySem.W.kitx_list I.kIn ⟨_,k,rfl⟩ j e (λz=>nomatch z) h
 .cases(show u=Value.ref a from g);have d:t = .type "tuple":=by cases ty with
   | tup=>rfl
   | frz c=>rw[ea]at c;cases c
   | lst c=>rw[ea]at c;cases c
   | dK c=>rw[ea]at c;cases c
   | dT c=>rw[ea]at c;cases c
   | ins c=>rw[ea]at c;cases c
  subst d;obtain⟨_,_,_,p⟩:=(show JA X.prog X.w H s.heap a (.tup xs)from I.hok a _ ea);obtain⟨o,k,F,_⟩:=p;exact VR PySem.W.kitx_tuple I.kIn ⟨o,k,F⟩ j e (λz=>nomatch z) h
def zGi(K:VA):A0 V->Hp->VK->Prop:=λc H Q=>∃(x:V) (p:A3) (d:A0 String) (t:A2) (b:Bool),c = [x,.ref p]/\H p=some (.tup (d.map V.ty))/\MX K H x t/\((∃y,x = .str y)\/(∃a c,x = .ref a/\(H a=some (.lst c)\/H a=some (.tup c))))/\PySem.W.kitAny K t (d.map Value.type)=some b/\Q (.bl b) H
theorem Ul:∀{ns:A0 String} {us:A0 A2},IT (ns.map V.ty) us->us=ns.map Value.type
 | [],_,.nil=>rfl
 | _::_,_,.cons r t=>by rw[BM,Ul t];cases r;rfl
theorem Po:N0 X (.builtin "isinstance") (zGi X.K):=by
 intro c s σ H l m Q I r h;obtain⟨x,p,n,t,b,rfl,e,f,g,i,q⟩:=h;obtain⟨u,v,rfl,j,a⟩:=r.two;cases a;obtain⟨k,a,d,o⟩:=I.tuple (JG.of e);rw[Ul a]at d;exact Ox I j f d i g λw=>⟨.bl b,H,I.tok _,rfl,q⟩
variable(K:VA)
theorem Xj(b:X.K=K:=by rfl):N0 X (.builtin "sorted") (λxs H Q=>∃(p:A3) (ss:A0 Str),xs = [.ref p]/\RG K H p (ss.map V.str)/\∀(l:A3) (a:A0 Str),H l=none->a.Perm ss->a.Pairwise NZ->Q (.ref l) (II H l (.lst (a.map V.str)))):=by subst b;exact Jj
theorem Wn(a:X.K=K:=by rfl):N0 X (.builtin "isinstance") (zGi K):=by subst a;exact Po
section
variable{prog:IE}{w:IJ}{A:IM}{E:A2->A4->Prop}{s:A4}{it l:A3}{i:Nat}{items:IG A2}{x:A2}{Q:A2->A4->Prop}
theorem zAh{α:Type}{Q:α->A4->Prop}(a:A.handled=none)(h:∀h' e,(∀b o,s.heap.get? b=some o->h'.get? b=some o)->(∃o,h'.get? e=some o/\o.cls = .type "StopIteration")->E (.ref e) { s with heap:=h' }):wpAny (model prog w) A (Builtin.SmallTypes.stopIteration (α:=α)) Q E s:=by
 refine AA (AA (GQ (AA (AC (BV ?_ (sizeOk_excFields ..)))) (by show 0<=sizeLine;decide)));refine AA (wpAny_handled ?_);rw[a];exact wpAny_throw (h _ _ (λb o e=>AD _ (AD _ e)) ⟨_,AY _ rfl,rfl⟩)
theorem V8(a:s.heap.IsTupleIter it l i)(g:s.heap.IsTuple l items)(h:items[i]?=some x)
  (j:∀h',h'.IsTupleIter it l (i+1)->Heap.SameBut it s.heap h'->Q x { s with heap:=h' }):wpAny (model prog w) A (Builtin.SmallTypes.nextOf (.ref it)) Q E s:=by
 obtain⟨o,d,k,b⟩:=id a;obtain⟨m,e,_,n,f⟩:=g;refine AA (CI a.typeIs F.slot_tuple_iterator_next (CG F.slot_tuple_iterator_next a.typeIs F.entry_tuple_iterator_next ?_ (F.args_tuple_iterator_next_1 _)));refine AA (AC (AA (CD d b rfl ?_)));refine DI (c:=(Value.ref l == Value.none)=true) rfl ?_;refine AA (CD d b rfl (AA (EE e f ?_)));dsimp only;rw[show items[(i:Int).toNat]?=some x from h];refine AA (EF d b (FF 1) (AC ⟨x,rfl,AC (j _ ⟨_,BW _ d (Obj.isFreed_of_fields (Obj.data_mapFields b _)),(Obj.cls_mapFields o _).trans k,(Obj.data_mapFields b _).trans ?_⟩ (DM _ _ _))⟩));rfl
theorem t7(j:A.handled=none)(a:s.heap.IsTupleIter it l i)(m:s.heap.IsTuple l items)(n:items[i]?=none)
  (p:∀h' e,Heap.ExtBut it s.heap h'->(∃o,h'.get? e=some o/\o.cls = .type "StopIteration")->E (.ref e) { s with heap:=h' }):wpAny (model prog w) A (Builtin.SmallTypes.nextOf (.ref it)) Q E s:=by
 obtain⟨o,d,r,f⟩:=id a;obtain⟨t,g,_,u,h⟩:=m;refine AA (CI a.typeIs F.slot_tuple_iterator_next (CG F.slot_tuple_iterator_next a.typeIs F.entry_tuple_iterator_next ?_ (F.args_tuple_iterator_next_1 _)));refine AA (AC (AA (CD d f rfl ?_)));refine DI (c:=(Value.ref l == Value.none)=true) rfl ?_;refine AA (CD d f rfl (AA (EE g h ?_)));dsimp only;rw[show items[(i:Int).toNat]?=none from n];refine AA (DN (AA (EF d f (FR 1) ?_)));exact zAh j λh' e k d=>p h' e (λb o q e=>k b o (((DM _ _ _).2 b q).trans e)) d
theorem Rh{M:Model}{α β:Type}{a b:α}{i u v:β}{f:α->β->Sem (ForInStep β)}{Q:β->A4->Prop}(h:wpAny M A (f a i) (λr c=>r = .yield u/\wpAny M A (f b u) (λr c=>r = .yield v/\Q v c) E c) E s):wpAny M A (forIn [a,b] i f) Q E s:=by
 rw[List.forIn_cons];refine AA (BS h (λr c z=>?_) λe c z=>z);obtain⟨rfl,z⟩:=z;show wpAny M A (forIn [b] u f) Q E c;rw[List.forIn_cons];refine AA (BS z (λr c z=>?_) λe c z=>z);obtain⟨rfl,z⟩:=z;exact AC z
theorem Ep{z TI TO d f m l2:A3}{k1 k2:Nat}{xs I:IG A2}{x y a b:A2}(D:ZipApart z TI TO d f m l2)(hz:IsZip s.heap z TI TO .none)(r:IsPair s.heap TI (.ref d) (.ref f))(t:IsPair s.heap TO a b)
  (h1:s.heap.IsTupleIter d m k1) (h2:s.heap.IsTupleIter f l2 k2) (R:s.heap.IsTuple m xs) (S:s.heap.IsTuple l2 I) (T:xs[k1]?=some x) (U:I[k2]?=some y)
  (V:∀h',IsZip h' z TI TO (rawInt s.heap.objs.size)->IsPair h' TO x y->h'.IsTupleIter d m (k1+1)->h'.IsTupleIter f l2 (k2+1)->IsPair h' s.heap.objs.size x y->h'.objs.size=s.heap.objs.size+1->(∀c o,c≠z->c≠TO->c≠d->c≠f->s.heap.get? c=some o->h'.get? c=some o)->Q (.ref s.heap.objs.size) { s with heap:=h' }) :
  wpAny (model prog w) A (Builtin.«zip.__next__» ⟨[.ref z],[]⟩) (λfin W=>∃v,fin = .done (.ret v)/\Q v W) E s:=by
 obtain⟨B,gg,dd,tt,oo⟩:=s;refine AA (AC (AA (CD hz rfl rfl (AA (CD hz rfl rfl (AA (EE r rfl ?_)))))));refine DI rfl (AA (AA (CD hz rfl rfl (AC (FS rfl ?_)))));refine AA (DN (AA (CD hz rfl rfl (AA (DH hz (FR 4) λh3 X g=>?_)))));have Y:=h1.extBut g.extBut D.i1z;have Z:=h2.extBut g.extBut D.i2z;have c3:=R.extBut g.extBut D.l1z;have d3:=S.extBut g.extBut D.l2z;have e3:=(g.2 TO D.TOz).trans t;refine AA ?_;rw[show(#[Value.ref d,Value.ref f].toList.zipIdx) = [(Value.ref d,0),(Value.ref f,1)]from rfl];refine Rh (u:=(none,())) (v:=(none,())) ?_;refine AA (wpAny_onRaise (DI rfl (AA (V8 Y c3 T λh4 a4 h=>AC ?_))));have J:=(h.2 TO D.TOi1).trans e3;refine AA (EE J rfl (AA (wpAny_updateSeq_pair J λh5 e5 i=>AA (wpAny_letGo (AC ⟨rfl,?_⟩)))));have b5:=(Z.extBut h.extBut D.i12.symm).extBut i.extBut D.TOi2.symm;have d5:=(d3.extBut h.extBut D.l2i1).extBut i.extBut D.l2TO;refine AA (wpAny_onRaise (DI rfl (AA (V8 b5 d5 U λh6 b6 j=>AC ?_))));have K:=(j.2 TO D.TOi2).trans e5;refine AA (EE K rfl (AA (wpAny_updateSeq_pair K λn L k=>AA (wpAny_letGo (AC ⟨rfl,?_⟩)))));have z7:=(k.2 z D.TOz.symm).trans ((j.2 z D.i2z.symm).trans ((i.2 z D.TOz.symm).trans ((h.2 z D.i1z.symm).trans X)));have C:n.objs.size=B.objs.size:=k.1.trans (j.1.trans (i.1.trans (h.1.trans g.1)));have M:∀{c:A3} {o:Obj},B.get? c=some o->c≠n.objs.size:=λe=>by rw[C];exact BB (AG e)
 refine AA (EE L rfl (AA (GQ (AA (AA (DH (AD _ z7) (FR 4) λh8 z8 F=>DH z8 (Nat.succ_lt_succ (FR 3)) λp N G=>AC ⟨_,rfl,?_⟩))) (by show 2<=sizeLine;decide))));have q:∀{c:A3} {o:Obj},c≠z->n.get? c=some o->p.get? c=some o:=λl e=>(G.2 _ l).trans ((F.2 _ l).trans (AD _ e));have H:p.objs.size=B.objs.size+1:=G.1.trans (F.1.trans ((CO ..).trans (congrArg (· + 1) C)));have O:p.get? n.objs.size=some ⟨.type "tuple",none,.seq #[x,y],#[]⟩:=(G.2 _ (M hz).symm).trans ((F.2 _ (M hz).symm).trans (AY _ rfl));rw[C]at N O⊢;refine V p N (q D.TOz L) (a4.at λo e=>?_) (b6.at λo e=>?_) O H λc o l P n1 n2 e=>q l ?_
 .exact q D.i1z ((k.2 _ D.TOi1.symm).trans ((j.2 _ D.i12).trans ((i.2 _ D.TOi1.symm).trans e)))
 .exact q D.i2z ((k.2 _ D.TOi2.symm).trans e)
 .exact(k.2 _ P).trans ((j.2 _ n2).trans ((i.2 _ P).trans ((h.2 _ n1).trans ((g.2 _ l).trans e))))
theorem Gb{z TI TO a b f l2:A3}{k1:Nat}{xs:IG A2}{Q:PySem.Fin->A4->Prop}(n:A.handled=none)(D:ZipApart z TI TO a b f l2)(hz:IsZip s.heap z TI TO .none)(g:IsPair s.heap TI (.ref a) (.ref b))
  (h1:s.heap.IsTupleIter a f k1) (p:s.heap.IsTuple f xs) (r:xs[k1]?=none)
  (t:∀h' e,(∀c o,c≠z->c≠TO->c≠a->c≠b->s.heap.get? c=some o->h'.get? c=some o)->(∃o,h'.get? e=some o/\o.cls = .type "StopIteration")->E (.ref e) { s with heap:=h' }) :
  wpAny (model prog w) A (Builtin.«zip.__next__» ⟨[.ref z],[]⟩) Q E s:=by
 obtain⟨y,B,C,tt,F⟩:=s;refine AA (AC (AA (CD hz rfl rfl (AA (CD hz rfl rfl (AA (EE g rfl ?_)))))));refine DI rfl (AA (AA (CD hz rfl rfl (AC (FS rfl ?_)))));refine AA (DN (AA (CD hz rfl rfl (AA (DH hz (FR 4) λG j h=>?_)))));refine AA ?_;rw[show(#[Value.ref a,Value.ref b].toList.zipIdx) = [(Value.ref a,0),(Value.ref b,1)]from rfl,List.forIn_cons];refine AA (AA (wpAny_onRaise (DI rfl (AA (t7 n (h1.extBut h.extBut D.i1z) (p.extBut h.extBut D.l1z) r λH e i d=>?_)))));refine DH (i z _ D.i1z.symm j) (FR 4) λu I k=>t u e (λc o l _ v _ e=>(k.2 _ l).trans (i c o v ((h.2 _ l).trans e))) ?_;obtain⟨o,d,m⟩:=d;have x:e≠z:=λq=>by
  subst q;rw[i e _ D.i1z.symm j]at d;cases d;exact absurd (show Value.type "zip" = .type "StopIteration" from m) (by decide)
 exact⟨o,(k.2 _ x).trans d,m⟩
theorem Nu{z TI TO:A3}{a:A2}(hz:IsZip s.heap z TI TO a):s.TypeIs (.ref z) "zip":=⟨_,hz,rfl⟩
theorem zBy(O:A.handled=none)(z TI TO f g j l2:A3)(D:ZipApart z TI TO f g j l2)(xs v:IG A2)(P:xs.size<=v.size) :
  WalksT prog w A z [z,TI,TO,f,g,j,l2] [z,TO,f,g] xs.size (λi C=>∃x y,xs[i]?=some x/\v[i]?=some y/\C = #[x,y])
   (λi h=>IsZip h z TI TO .none/\IsPair h TI (.ref f) (.ref g)/\(∃a b,IsPair h TO a b)/\h.IsTupleIter f j i/\h.IsTupleIter g l2 i/\h.IsTuple j xs/\h.IsTuple l2 v)
   (λi T h=>IsZip h z TI TO (rawInt T)/\IsPair h TI (.ref f) (.ref g)/\(∃a b,IsPair h TO a b)/\h.IsTupleIter f j (i+1)/\h.IsTupleIter g l2 (i+1)/\h.IsTuple j xs/\h.IsTuple l2 v/\T≠z/\T≠TO/\T≠f/\T≠g) where
 sub:=by simp
 frame:=λi h B ⟨c,l,⟨a,b,p⟩,m,r,n,t⟩ k=>⟨k z (by simp) _ c,k TI (by simp) _ l,⟨a,b,k TO (by simp) _ p⟩,m.at (k f (by simp)),r.at (k g (by simp)),n.at (k j (by simp)),t.at (k l2 (by simp))⟩
 item:=λi s Q E K ⟨c,l,⟨a,b,p⟩,m,r,n,t⟩ G=>by
  have H:xs[i]?=some xs[i]:=EM K;have L:v[i]?=some (v[i]'(BI K P)):=EM _;refine AA (FD (CI (Nu c) F.slot_zip_next (CG F.slot_zip_next (Nu c) F.entry_zip_next (Ep D c l p m r n t H L λB I R S U V sz k=>AC ?_) (F.args_zip_next_1 _))));refine G _ _ B s.toks ⟨_,_,H,L,rfl⟩ (VD _) ⟨_,V,rfl,_,rfl⟩ ⟨I,k TI _ D.TIz D.TITO D.TIi1 D.TIi2 l,⟨_,_,R⟩,S,U,n.at λo e=>k j o D.l1z D.l1TO D.l1i1 D.l1i2 e,t.at λo e=>k l2 o D.l2z D.l2TO D.l2i1 D.l2i2 e,?_,?_,?_,?_⟩ λb o d e=>?_
  .exact(BB (AG c)).symm
  .exact(BB (AG p)).symm
  .obtain⟨o,e,_⟩:=m;exact(BB (AG e)).symm
  .obtain⟨o,e,_⟩:=r;exact(BB (AG e)).symm
  .simp only[AV,A_,or_false,not_or]at d;exact k b o d.1 d.2.1 d.2.2.1 d.2.2.2 e
 go:=λM k W i T s Q E ⟨c,l,⟨a,b,p⟩,m,r,n,t,_⟩ G=>wpAny_letOwnedTupleGo_zip c λB I u=>G B ⟨I,(u.2 _ D.TIz).trans l,⟨a,b,(u.2 _ D.TOz).trans p⟩,m.extBut u.extBut D.i1z,r.extBut u.extBut D.i2z,n.extBut u.extBut D.l1z,t.extBut u.extBut D.l2z⟩ λb o d e=>(u.2 b λq=>d (by rw[q];exact BA ..)).trans e
 apart:=λi T h ⟨_,_,_,_,_,_,_,X,Y,Z,n4⟩ N=>by
  simp only[AV,A_,or_false]at N;rcases N with e | e | e | e
  .exact X e
  .exact Y e
  .exact Z e
  .exact n4 e
 done:=λs Q E ⟨c,l,⟨a,b,p⟩,m,r,n,t⟩ G=>by
  have H:xs[xs.size]?=none:=EG (VD _);refine AA (FD (CI (Nu c) F.slot_zip_next (CG F.slot_zip_next (Nu c) F.entry_zip_next (Gb O D c l m n H λB e k J=>?_) (F.args_zip_next_1 _))));obtain⟨o,J,hc⟩:=J;refine AA (FQ ⟨o,J,hc⟩ isSubtype_stop (AC (G B s.toks λb o d e=>?_)));simp only[AV,A_,or_false,not_or]at d;exact k b o d.1 d.2.1 d.2.2.1 d.2.2.2 e
 self:=λi s Q E ⟨c,_⟩ q=>H_ c q
end
section
variable{prog:IE}{w:IJ}{A:IM}{E:A2->A4->Prop}{s:A4}
theorem Bk{M:Model}{T:String}{vs:A0 A2}{Q:A2->A4->Prop}(h:Q (.ref s.heap.objs.size) { s with heap:=s.heap.push { cls:=.type T,data:=.fields vs.toArray } })(a:sizeOk (.fields vs.toArray)):wpAny M A (Builtin.SmallTypes.newRecord (.type T) vs) Q E s:=BV h a
theorem Rs{d l2:A3}{xs n:IG A2}{Q:A2->A4->Prop}(y:s.heap.IsTuple d xs)(z:s.heap.IsTuple l2 n)
  (B:∀h',IsZip h' (s.heap.objs.size+4) (s.heap.objs.size+2) (s.heap.objs.size+3) .none->IsPair h' (s.heap.objs.size+2) (.ref s.heap.objs.size) (.ref (s.heap.objs.size+1))->IsPair h' (s.heap.objs.size+3) .none .none ->
   h'.IsTupleIter s.heap.objs.size d 0->h'.IsTupleIter (s.heap.objs.size+1) l2 0->(∀c o,s.heap.get? c=some o->h'.get? c=some o)->Q (.ref (s.heap.objs.size+4)) { s with heap:=h' }) :
  wpAny (model prog w) A (call (.type "zip") [.ref d,.ref l2]) Q E s:=by
 refine callType_new (S:=λA R j=>j=s/\∀h',IsZip h' (s.heap.objs.size+4) (s.heap.objs.size+2) (s.heap.objs.size+3) .none->IsPair h' (s.heap.objs.size+2) (.ref s.heap.objs.size) (.ref (s.heap.objs.size+1))->IsPair h' (s.heap.objs.size+3) .none .none ->
   h'.IsTupleIter s.heap.objs.size d 0->h'.IsTupleIter (s.heap.objs.size+1) l2 0->(∀c o,s.heap.get? c=some o->h'.get? c=some o)->R (.ok (.ret (.ref (s.heap.objs.size+4)))) { s with heap:=h' }) F.called_zip rfl (F.typeCall_zip_2 _ _) (F.newCall_zip_2 _ _) (λ_=>F.args_object_init_3 _ _ _) F.entry_zip_new (.of_wp λprog w A R j l=>?_) ⟨rfl,λh' p C D G H k=>⟨⟨_,p,rfl⟩,B h' p C D G H k⟩⟩
 obtain⟨rfl,l⟩:=l;obtain⟨a,I,J,tt,K⟩:=j;refine AA (AA (AC (DI rfl (AA (EB sub_zip (DI rfl (AC ?_)))))))
 let b:=a.push { cls:=.type "tuple_iterator",data:=.fields #[.ref d,.int 0 0] }
 let f:=b.push { cls:=.type "tuple_iterator",data:=.fields #[.ref l2,.int 0 0] }
 let g:=f.push { cls:=.type "tuple",data:=.seq #[.ref a.objs.size,.ref b.objs.size] }
 let i:=g.push { cls:=.type "tuple",data:=.seq #[.none,.none] }
 have r:b.objs.size=a.objs.size+1:=CO ..;have t:f.objs.size=a.objs.size+2:=(CO ..).trans (congrArg (· + 1) r);have x:g.objs.size=a.objs.size+3:=(CO ..).trans (congrArg (· + 1) t);have L:i.objs.size=a.objs.size+4:=(CO ..).trans (congrArg (· + 1) x);have m:b.IsTuple l2 n:=z.at λo e=>AD _ e;have M:b.get? a.objs.size=some { cls:=.type "tuple_iterator",data:=.fields #[.ref d,.int 0 0] }:=AY _ rfl;have N:f.get? b.objs.size=some { cls:=.type "tuple_iterator",data:=.fields #[.ref l2,.int 0 0] }:=AY _ rfl;have O:g.get? f.objs.size=some { cls:=.type "tuple",data:=.seq #[.ref a.objs.size,.ref b.objs.size] }:=AY _ rfl;have P:i.get? g.objs.size=some { cls:=.type "tuple",data:=.seq #[.none,.none] }:=AY _ rfl;have u:∀{h:IP} {o:Obj} {c:A3} {q:Obj},h.get? c=some q->(h.push o).get? c=some q:=λe=>AD _ e;refine DI rfl (AA (AA (Rh (u:=#[.ref a.objs.size]) (v:=#[.ref a.objs.size,.ref b.objs.size]) (AA (BN (FY y (AC ⟨rfl,AA (BN (FY m (AC ⟨rfl,AC ?_⟩)))⟩)))))));refine AA (GQ (AA (GQ (AA (Bk (AC ⟨_,rfl,?_⟩) ?_)) (by show 2<=sizeLine;decide))) (by show 2<=sizeLine;decide))
 .have T:=AY i (o:={ cls:=.type "zip",data:=.fields #[.none,.bool false,.bool false,.ref f.objs.size,.ref g.objs.size] }) rfl;have q:=l (i.push { cls:=.type "zip",data:=.fields #[.none,.bool false,.bool false,.ref f.objs.size,.ref g.objs.size] });rw[show(Shared.mk a I J tt K).heap.objs.size=a.objs.size from rfl,<-r,<-t,<-x,<-L]at q;exact q T (u (u O)) (u P) ⟨_,u (u (u (u M))),rfl,rfl⟩ ⟨_,u (u (u N)),rfl,rfl⟩ λc o e=>u (u (u (u (u e))))
 .show 5<=sizeLine+2;decide
end
def TW(e:Hp->A3->A0 V->Prop)(a b:A3):It :=
  ⟨λi H=>∃c d x y,e H a c/\e H b d/\c.length<=d.length/\c[i]?=some x/\d[i]?=some y,λi H v f=>∃T x y,v = .ref T/\H T=none/\f=II H T (.tup [x,y])/\(∀c,e H a c->c[i]?=some x)/\∀d,e H b d->d[i]?=some y,
   λi H=>∃c d,e H a c/\e H b d/\c.length<=d.length/\c.length=i⟩
def Uk(isIt:IP->A3->A3->Nat->Prop)(z TI TO c d a b:A3)(i:Nat)(h:IP):Prop:=IsZip h z TI TO .none/\IsPair h TI (.ref c) (.ref d)/\(∃u v,IsPair h TO u v)/\isIt h c a i/\isIt h d b i
section
variable{P:IE}{w:IJ}{K:VA}{elts:A0 IQ}{kk:Nat}{tp:Pos}{isIt:IP->A3->A3->Nat->Prop}{isq:IP->A3->IG A2->Prop}{sq:Hp->A3->A0 V->Prop}
theorem Iy(oI:∀h c l i,isIt h c l i->∃o,h.get? c=some o/\∀v,o.data≠ .cell v)(kI:∀h h' c l i,isIt h c l i->(∀o,h.get? c=some o->h'.get? c=some o)->isIt h' c l i)
  (gI:∀(X:Cx) f σ H s c xs,X.K=K->Inv X f σ H s->sq H c xs->∃its,IT xs its/\isq s.heap c its.toArray) (uI:∀(X:Cx) f σ H s c xs D,X.K=K->Inv X f σ H s->sq H c xs->sq H c D->xs=D)
  (z TI TO g j a b:A3) (WI:∀(A:IM),A.handled=none->∀xs D:IG A2,xs.size<=D.size->WalksT P w A z [z,TI,TO,g,j,a,b] [z,TO,g,j] xs.size (λi G=>∃x y,xs[i]?=some x/\D[i]?=some y/\G = #[x,y])
   (λi h=>IsZip h z TI TO .none/\IsPair h TI (.ref g) (.ref j)/\(∃a b,IsPair h TO a b)/\isIt h g a i/\isIt h j b i/\isq h a xs/\isq h b D)
   (λi T h=>IsZip h z TI TO (rawInt T)/\IsPair h TI (.ref g) (.ref j)/\(∃a b,IsPair h TO a b)/\isIt h g a (i+1)/\isIt h j b (i+1)/\isq h a xs/\isq h b D/\T≠z/\T≠TO/\T≠g/\T≠j)) :
  ND P w K (.Tuple elts kk tp) (TW sq a b) [z,TI,TO,g,j] z (Uk isIt z TI TO g j a b) where
 mem:=BA ..
 obj:=λi h st c t=>by
  obtain⟨h1,R,⟨u,v,U⟩,V,Y⟩:=st;simp only[AV,A_,or_false]at t;rcases t with rfl | rfl | rfl | rfl | rfl
  .exact⟨_,h1,λv z=>by cases z⟩
  .exact⟨_,R,λv z=>by cases z⟩
  .exact⟨_,U,λv z=>by cases z⟩
  .exact oI _ _ _ _ V
  .exact oI _ _ _ _ Y
 keep:=λi h h' st k=>by
  obtain⟨h1,R,⟨u,v,U⟩,V,Y⟩:=st;exact⟨k z (by simp) _ h1,k TI (by simp) _ R,⟨u,v,k TO (by simp) _ U⟩,kI _ _ _ _ _ V (k g (by simp)),kI _ _ _ _ _ Y (k j (by simp))⟩
 item:=by
  intro X hP hw L t i f s σ H E I S st hg;subst hP hw;obtain⟨xs,D,x,y,hq,hr,M,hx,hy⟩:=hg;obtain⟨its,rv,p⟩:=gI _ _ _ _ _ _ _ L I hq;obtain⟨N,F,p'⟩:=gI _ _ _ _ _ _ _ L I hr;obtain⟨u,hu,ru⟩:=rv.get hx;obtain⟨v,hv,rv'⟩:=F.get hy;have hl:=rv.length;have O:=F.length;have W:=WI X.A (I.ok.hd t) its.toArray N.toArray (by rw[AR,AR,<-hl,<-O];exact M);have hi:i<its.toArray.size:=by rw[AR];exact(AK.mp hu).1
  obtain⟨s1,s2,s3,Z,s5⟩:=id st;refine W.item i s _ _ hi ⟨s1,s2,s3,Z,s5,p,p'⟩ λT G h' tk hvs hT ht hm k=>?_;obtain⟨x',y',hx',hy',rfl⟩:=hvs;have ex:x'=u:=BU (hx'.symm.trans ((EO ..).trans hu));have ey:y'=v:=BU (hy'.symm.trans ((EO ..).trans hv));subst ex ey;refine⟨.ref T,rfl,W.go elts kk tp i T _ _ _ hm λR C k2=>?_⟩;have kk2:∀b o,b∉[z,TI,TO,g,j]->s.heap.get? b=some o->R.get? b=some o:=λc o d ec=>by
   have n4:c∉[z,TO,g,j]:=λm=>d (by
    simp only[AV,A_,or_false]at m⊢;exact m.imp_right .inr)
   exact k2 c o n4 (k c o n4 ec)
  have hT2:R.IsTuple T #[x',y']:=ht.at λo e=>k2 T o (W.apart i T h' hm) e;have J:∀c∈[z,TI,TO,g,j],∃B,s.heap.get? c=some B:=λc d=>by
   obtain⟨u3,v3,U⟩:=s3;obtain⟨o4,V,_⟩:=oI _ _ _ _ Z;obtain⟨o5,Y,_⟩:=oI _ _ _ _ s5;simp only[AV,A_,or_false]at d;rcases d with rfl | rfl | rfl | rfl | rfl
   .exact⟨_,s1⟩
   .exact⟨_,s2⟩
   .exact⟨_,U⟩
   .exact⟨_,V⟩
   .exact⟨_,Y⟩
  refine⟨.ref T,II H T (.tup [x,y]),I.turnLaid (fp:=[z,TI,TO,g,j]) kk2 S J hT ⟨?_,[x',y'],.cons ru (.cons rv' .nil),hT2⟩,rfl,⟨T,x,y,rfl,I.hok.fresh hT,rfl,λzs hz=>by rw[uI _ _ _ _ _ _ _ _ L I hz hq];exact hx,λzs hz=>by rw[uI _ _ _ _ _ _ _ _ L I hz hr];exact hy⟩,⟨C.1,C.2.1,C.2.2.1,C.2.2.2.1,C.2.2.2.2.1⟩,λc d=>?_⟩
  .show 2<=sizeLine;decide
  .obtain⟨B,eb⟩:=J c d;rw[B7 (BB (BI (AG eb) hT))];exact(S c d).1
 done:=by
  intro X hP hw L t i f s σ H E I S st hg;subst hP hw;obtain⟨xs,D,hq,hr,M,hx⟩:=hg;obtain⟨its,rv,p⟩:=gI _ _ _ _ _ _ _ L I hq;obtain⟨N,F,p'⟩:=gI _ _ _ _ _ _ _ L I hr;have hl:=rv.length;have O:=F.length;have W:=WI X.A (I.ok.hd t) its.toArray N.toArray (by rw[AR,AR,<-hl,<-O];exact M);have hi:i=its.toArray.size:=by rw[AR,<-hl,hx]
  obtain⟨s1,s2,s3,Z,s5⟩:=id st;rw[hi]at Z s5;refine W.done s _ _ ⟨s1,s2,s3,Z,s5,p,p'⟩ λh' tk k=>⟨rfl,?_⟩;have nf:∀b u,H b=some u->b∉[z,TI,TO,g,j]:=λb u e hb=>by rw[(S b hb).1]at e;cases e
  have k':∀c o,c∉[z,TI,TO,g,j]->s.heap.get? c=some o->h'.get? c=some o:=λc o d ec=>k c o (λm=>d (by
    simp only[AV,A_,or_false]at m⊢;exact m.imp_right .inr)) ec
  refine I.step (h':=h') (H':=H) (t':=tk) (g':=s.gens) (d':=s.drawn) (ch:=[z,TI,TO,g,j]) (λb hb=>let⟨_,f1,_,f3,f4,f5⟩:=S b hb;⟨f3,f1,f4,f5⟩) (λb B _ _ t e _=>k' b B t e) (λb B _ _ t e _=>⟨B.slots,k' b B t e⟩) (λ_ _ _ _ n=>n)
   (λb B t e=>⟨B,k' b B t e⟩) (λ_ _ e=>e) (λ_ _ _ e=>e) (λb ps e=>⟨#[],by rw[e];simp⟩) (λm hm=>?_) (λb u eb=>?_) I.bare
  .obtain⟨B,es,ep,ho,r⟩:=hm;exact⟨B,es,ep,k' _ B (λhb=>(S _ hb).2.1 rfl) ho,r⟩
  .refine(I.hok b u eb).stay (λc v t q=>k' c v ?_ q) (λ_ q=>q) λ_ _ q=>q;rcases t with z | z
   .rw[z];exact nf b u eb
   .exact nf c _ z
 self:=λA i s Q E st h=>H_ st.1 h
theorem Ta(z TI TO f g a b:A3)(D:ZipApart z TI TO f g a b):ND P w K (.Tuple elts kk tp) (TW (IR K) a b) [z,TI,TO,f,g] z (Uk Heap.IsListIter z TI TO f g a b) :=
 Iy (isq:=Heap.IsList) (λh c l i ⟨o,e,_,d⟩=>⟨o,e,λv z=>by rw[d]at z;cases z⟩) (λh C c l i z k=>z.at k) (λX j σ H s c m n I q=>by subst n;obtain⟨r,u,p,_⟩:=I.list q;exact⟨r,u,p.isList⟩) (λX j σ H s c m t n I q x=>by subst n;exact I.list_inj q x)
  z TI TO f g a b λA y m t B=>by
   have W:=WalksT.zip2 (prog:=P) (w:=w) y z TI TO f g a b D m t
   rwa [GA B]at W
theorem Ss(z TI TO f g a b:A3)(D:ZipApart z TI TO f g a b):ND P w K (.Tuple elts kk tp) (TW (JG K) a b) [z,TI,TO,f,g] z (Uk Heap.IsTupleIter z TI TO f g a b) :=
 Iy (isq:=Heap.IsTuple) (λh c l i ⟨o,e,_,d⟩=>⟨o,e,λv z=>by rw[d]at z;cases z⟩) (λh C c l i z k=>z.at k) (λX j σ H s c m n I q=>by subst n;obtain⟨r,u,p,_⟩:=I.tuple q;exact⟨r,u,p⟩) (λX j σ H s c m t n I q x=>by subst n;exact I.tuple_inj q x)
  z TI TO f g a b λA y m t B=>zBy y z TI TO f g a b D m t B
end
section
variable{X:Cx}{elts:A0 IQ}{kk:Nat}{tp:Pos}
def zIf(K:VA)(R:It->Hp->Prop)(a b:A3)(xs c:A0 V)(H:Hp):Prop:=IR K H a xs/\IR K H b c/\R (TW (IR K) a b) H\/JG K H a xs/\JG K H b c/\R (TW (JG K) a b) H
def zCz(K:VA)(c:TA):TI:=λσ H R=>c σ H λd e=>∃a b f g,d = [.ref a,.ref b]/\zIf K R a b f g e
theorem zBg:bootBuiltins "zip" = some (.type "zip"):=by decide +kernel
theorem zBz{a b:IQ}{M:TA}{p i:Pos}(O:Gl X "zip")(P:X.mg "zip" = none)(Q:PA X [a,b] M)(S:starEach [a,b] X.env =(false,eval a X.env)::starEach [b] X.env:=by rfl)(w:(backTo i (starEach [b] X.env)).any (·.1)=false:=by rfl):PI X (.Tuple elts kk tp) (.Call (.Name "zip" p) [a,b] [] i) (zCz X.K M):=by
 intro f s σ H R I h;refine Call_ (Bq I O P zBg (VP (JK (Q i f s σ H _ I h) λus d ⟨vs,x,g,T,U⟩=>?_) S w));obtain⟨l,m,xs,ys,e,q⟩:=U;subst e;obtain⟨u,v,rfl,V,W⟩:=T.two;cases V;cases W;have j:∀c∈[d.heap.objs.size+4,d.heap.objs.size+2,d.heap.objs.size+3,d.heap.objs.size,d.heap.objs.size+1],Fo X f x c:=λc N=>by
  have n:d.heap.objs.size<=c:=by
   simp only[AV,A_,or_false]at N;rcases N with rfl | rfl | rfl | rfl | rfl
   .exact EQ ..
   .exact EQ ..
   .exact EQ ..
   .exact VD _
   .exact EQ ..
  exact g.fpOk n (g.hok.fresh n)
 rcases q with⟨y,z,q⟩ | ⟨y,z,q⟩
 .obtain⟨A,Y,o,Z⟩:=g.list y;obtain⟨B,ry,r,C⟩:=g.list z;have D:l<d.heap.objs.size:=by obtain⟨_,e,_⟩:=o.isList;exact AG e
  have E:m<d.heap.objs.size:=by obtain⟨_,e,_⟩:=r.isList;exact AG e
  refine call_zip_2 o.isList r.isList λh' t F G J L hsz k=>H_ t ?_;exact⟨d.heap.objs.size+4,_,_,_,x,rfl,g.kept (t':=d.toks) k,Ta _ _ _ _ _ l m (zipApart_new D E),⟨t,F,⟨_,_,G⟩,J,L⟩,j,q⟩
 .obtain⟨A,Y,o,Z⟩:=g.tuple y;obtain⟨B,ry,r,C⟩:=g.tuple z;have D:l<d.heap.objs.size:=by obtain⟨_,e,_⟩:=id o;exact AG e
  have E:m<d.heap.objs.size:=by obtain⟨_,e,_⟩:=id r;exact AG e
  refine Rs o r λh' t F G J L k=>H_ t ?_;exact⟨d.heap.objs.size+4,_,_,_,x,rfl,g.kept (t':=d.toks) k,Ss _ _ _ _ _ l m (zipApart_new D E),⟨t,F,⟨_,_,G⟩,J,L⟩,j,q⟩
variable(K:VA)
theorem zJi{a b:IQ}{e:TA}{p c:Pos}(f:X.mg "zip" = none)(g:PA X [a,b] e)(h:Gl X "zip":=by rfl)(i:starEach [a,b] X.env =(false,eval a X.env)::starEach [b] X.env:=by rfl)(d:(backTo c (starEach [b] X.env)).any (·.1)=false:=by rfl)(j:X.K=K:=by rfl):PI X (.Tuple elts kk tp) (.Call (.Name "zip" p) [a,b] [] c) (zCz K e):=by subst j;exact zBz h f g i d
end
section
variable{prog:IE}{w:IJ}{A:IM}{E:A2->A4->Prop}{s:A4}{e it l:A3}{i:Nat}{items:IG A2}{x old:A2}{Q:A2->A4->Prop}
theorem Dq(d:IsEnum s.heap e it (i:Int) old)(h1:s.heap.IsTupleIter it l i)(G:s.heap.IsTuple l items)(H:items[i]?=some x)(f:e≠it)
  (I:∀h',IsEnumOut h' e it ((i:Int)+1) x s.heap.objs.size->h'.IsTupleIter it l (i+1)->h'.get? s.heap.objs.size=some { cls:=.type "tuple",data:=.seq #[.int (i:Int) s.toks,x] }->(∀b o,b≠e->b≠it->s.heap.get? b=some o->h'.get? b=some o)->Q (.ref s.heap.objs.size) { s with heap:=h',toks:=s.toks+1 }) :
  wpAny (model prog w) A (Builtin.«enumerate.__next__» ⟨[.ref e],[]⟩) (λfin J=>∃v,fin = .done (.ret v)/\Q v J) E s:=by
 obtain⟨p,U,V,tt,W⟩:=s;refine AA (AC (AA (CD d rfl rfl (AA (V8 h1 G H λK L j=>?_)))));have k:=(j.2 e f).trans d;refine AA (CD k rfl rfl (AA (CD k rfl rfl (FS rfl ?_))));refine AA (wpAny_mkInt (AA (DH k (CM rfl) λX M q=>AA (DH M (CM rfl) λg N r=>?_))));have t:g.objs.size=p.objs.size:=r.1.trans (q.1.trans j.1);have m:∀{c:A3} {o:Obj},p.get? c=some o->c≠g.objs.size:=λe=>by rw[t];exact BB (AG e)
 refine AA (GQ ?_ (by show 2<=sizeLine;decide));have n:=AD { cls:=.type "tuple",data:=.seq [.int (i:Int) tt,x].toArray } N;refine AA (AA (CD n rfl rfl (AC (FS rfl ?_))));refine AA (DN (AA (CD n rfl rfl (AA (DH n (CM rfl) λY O u=>?_)))));refine AA (AA (DH O (CM rfl) λZ P y=>DH P (CM rfl) λh B C=>AA (wpAny_letGo (AC ⟨_,rfl,?_⟩))));have R:∀{c:A3} {o:Obj},c≠e->g.get? c=some o->h.get? c=some o:=λa z=>(C.2 _ a).trans ((y.2 _ a).trans ((u.2 _ a).trans (AD _ z)));have D:∀{c:A3} {o:Obj},c≠e->K.get? c=some o->h.get? c=some o:=λa z=>R a ((r.2 _ a).trans ((q.2 _ a).trans z));have F:h.get? g.objs.size=some { cls:=.type "tuple",data:=.seq #[.int (i:Int) tt,x] }:=(C.2 _ (m d).symm).trans ((y.2 _ (m d).symm).trans ((u.2 _ (m d).symm).trans (AY _ rfl)));rw[t]at B F⊢;exact I h B (L.at λo z=>D f.symm z) F λb o S T z=>D S ((j.2 _ T).trans z)
theorem Eg{Q:PySem.Fin->A4->Prop}(a:A.handled=none)(b:IsEnum s.heap e it (i:Int) old)(h1:s.heap.IsTupleIter it l i)(c:s.heap.IsTuple l items)(d:items[i]?=none)
  (f:∀h' z,Heap.ExtBut it s.heap h'->(∃o,h'.get? z=some o/\o.cls = .type "StopIteration")->E (.ref z) { s with heap:=h' }) :
  wpAny (model prog w) A (Builtin.«enumerate.__next__» ⟨[.ref e],[]⟩) Q E s :=
 AA (AC (AA (CD b rfl rfl (AA (t7 a h1 c d f)))))
theorem Ha(a:IsEnum s.heap e it (i:Int) old):s.TypeIs (.ref e) "enumerate":=⟨_,a,rfl⟩
theorem zAt(G:A.handled=none)(e it l:A3)(j:e≠it)(m:l≠e)(u:l≠it)(items:IG A2) :
  WalksT prog w A e [e,it,l] [e,it] items.size (λi n=>∃t x,items[i]?=some x/\n = #[.int (i:Int) t,x])
   (λi h=>(∃old,IsEnum h e it (i:Int) old)/\h.IsTupleIter it l i/\h.IsTuple l items)
   (λi T h=>(∃x,IsEnumOut h e it ((i:Int)+1) x T)/\h.IsTupleIter it l (i+1)/\h.IsTuple l items/\T≠e/\T≠it) where
 sub:=by simp
 frame:=λi h g ⟨⟨old,a⟩,c,d⟩ k=>⟨⟨old,k e (by simp) _ a⟩,c.at (k it (by simp)),d.at (k l (by simp))⟩
 item:=λi s Q E H ⟨⟨old,a⟩,c,d⟩ p=>by
  have r:items[i]?=some items[i]:=EM H;refine AA (FD (CI (Ha a) F.slot_enumerate_next (CG F.slot_enumerate_next (Ha a) F.entry_enumerate_next (Dq a c d r j λg v I J k=>AC ?_) (F.args_enumerate_next_1 _))));refine p _ _ g (s.toks+1) ⟨_,_,r,rfl⟩ (VD _) ⟨_,J,rfl,_,rfl⟩ ⟨⟨_,v⟩,I,d.at λo z=>k l o m u z,?_,?_⟩ λb o f z=>?_
  .exact(BB (AG a)).symm
  .obtain⟨o,z,_⟩:=c;exact(BB (AG z)).symm
  .simp only[AV,A_,or_false,not_or]at f;exact k b o f.1 f.2 z
 go:=λC k K i T s Q E ⟨⟨x,a⟩,c,d,_⟩ p=>wpAny_letOwnedTupleGo_enum a λg v y=>p g ⟨⟨_,v⟩,c.extBut y.extBut j.symm,d.extBut y.extBut m⟩ λb o f z=>(y.2 b λq=>f (by rw[q];exact BA ..)).trans z
 apart:=λi T h ⟨_,_,_,L,M⟩ D=>by
  simp only[AV,A_,or_false]at D;rcases D with z | z
  .exact L z
  .exact M z
 done:=λs Q E ⟨⟨old,a⟩,c,d⟩ p=>by
  have r:items[items.size]?=none:=EG (VD _);refine AA (FD (CI (Ha a) F.slot_enumerate_next (CG F.slot_enumerate_next (Ha a) F.entry_enumerate_next (Eg G a c d r λg z k B=>?_) (F.args_enumerate_next_1 _))));obtain⟨o,B,N⟩:=B;refine AA (FQ ⟨o,B,N⟩ isSubtype_stop (AC (p g s.toks λb o f z=>?_)));simp only[AV,A_,or_false,not_or]at f;exact k b o f.2 z
 self:=λi s Q E ⟨⟨_,a⟩,_⟩ q=>HX a q
theorem zCt{M:Model}{α:Type}{c:Prop}[Decidable c]{a b:Sem α}{Q:α->A4->Prop}(h1:wpAny M A a Q E s)(h2:wpAny M A b Q E s):wpAny M A (if c then a else b) Q E s:=by
 by_cases h:c
 .rw[AO h];exact h1
 .rw[AI h];exact h2
theorem Qb(n:s.heap.IsTuple l items)
  (p:∀h',IsEnum h' (s.heap.objs.size+1) s.heap.objs.size 0 .none->h'.IsTupleIter s.heap.objs.size l 0->(∀b o,s.heap.get? b=some o->h'.get? b=some o)->Q (.ref (s.heap.objs.size+1)) { s with heap:=h' }) :
  wpAny (model prog w) A (call (.type "enumerate") [.ref l]) Q E s:=by
 refine callType_new (S:=λA R f=>f=s/\∀h',IsEnum h' (s.heap.objs.size+1) s.heap.objs.size 0 .none->h'.IsTupleIter s.heap.objs.size l 0->(∀b o,s.heap.get? b=some o->h'.get? b=some o)->R (.ok (.ret (.ref (s.heap.objs.size+1)))) { s with heap:=h' })
  F.called_enumerate rfl (F.typeCall_enumerate_1 _) (F.newCall_enumerate_1 _) (λ_=>F.args_object_init_2 _ _) F.entry_enumerate_new (.of_wp λprog w A R f g=>?_) ⟨rfl,λh' h t k=>⟨⟨_,h,rfl⟩,p h' h t k⟩⟩
 obtain⟨rfl,g⟩:=g;obtain⟨c,i,j,tt,m⟩:=f;have u:(c.push { cls:=.type "tuple_iterator",data:=.fields #[.ref l,.int 0 0] }).objs.size=c.objs.size+1:=CO ..;refine AA (AA (AC (DI rfl (AA (EB sub_enumerate (DI rfl (AC ?_)))))));refine FS rfl (AA (AA (wpAny_stack_any λst=>AC ?_)));have d:wpAny (model prog w) A.in1 (pyIter (.ref l) >>= λv=>Builtin.SmallTypes.newRecord (.type "enumerate") (Builtin.SmallTypes.ownedTupleFields ++ [v,rawInt 0,.none,.none]) >>= λr=>ret r) (λd f=>∃v,d = .done (.ret v)/\R (.ok (.ret v)) f) (λe f=>R (.error e) f) ⟨c,i,j,tt,m⟩:=by
  refine AA (FY n (AA (Bk (AC ⟨_,rfl,?_⟩) (by show 6<=sizeLine+2;decide))));have x:=AY (c.push { cls:=.type "tuple_iterator",data:=.fields #[.ref l,.int 0 0] }) (o:={ cls:=.type "enumerate",data:=.fields #[.none,.bool false,.ref c.objs.size,rawInt 0,.none,.none] }) rfl;have q:=g ((c.push { cls:=.type "tuple_iterator",data:=.fields #[.ref l,.int 0 0] }).push { cls:=.type "enumerate",data:=.fields #[.none,.bool false,.ref c.objs.size,rawInt 0,.none,.none] });rw[show(Shared.mk c i j tt m).heap.objs.size=c.objs.size from rfl,<-u]at q;exact q x ⟨_,AD _ (AY _ rfl),rfl,rfl⟩ λb o z=>AD _ (AD _ z)
 exact zCt (AA (EB (a:=(Value.ref l,none)) rfl d)) (AA (EB (a:=(Value.ref l,none)) rfl d))
end
def TY(c:Hp->A3->A0 V->Prop)(a:A3):It :=
 ⟨λi H=>∃b x,c H a b/\b[i]?=some x,λi H v d=>∃T x,v = .ref T/\H T=none/\d=II H T (.tup [.int i,x])/\∀b,c H a b->b[i]?=some x,λi H=>∃b,c H a b/\b.length=i⟩
section
variable{P:IE}{w:IJ}{K:VA}{elts:A0 IQ}{kk:Nat}{tp:Pos}{isIt:IP->A3->A3->Nat->Prop}{isq:IP->A3->IG A2->Prop}{sq:Hp->A3->A0 V->Prop}
theorem Fc(oI:∀h c l i,isIt h c l i->∃o,h.get? c=some o/\∀v,o.data≠ .cell v)(kI:∀h h' c l i,isIt h c l i->(∀o,h.get? c=some o->h'.get? c=some o)->isIt h' c l i)
  (gI:∀(X:Cx) g σ H s c xs,X.K=K->Inv X g σ H s->sq H c xs->∃its,IT xs its/\isq s.heap c its.toArray) (uI:∀(X:Cx) g σ H s c xs ys,X.K=K->Inv X g σ H s->sq H c xs->sq H c ys->xs=ys)
  (nE:∀h c e f i d its,IsEnum h e f i d->isq h c its->c≠e) (nI:∀h c l i its e,isIt h e l i->isq h c its->c≠e)
  (a f e:A3) (hei:e≠f) (WI:∀(A:IM),A.handled=none->a≠e->a≠f->∀items:IG A2,WalksT P w A e [e,f,a] [e,f] items.size (λi C=>∃t x,items[i]?=some x/\C = #[.int (i:Int) t,x])
   (λi h=>(∃d,IsEnum h e f (i:Int) d)/\isIt h f a i/\isq h a items)
   (λi T h=>(∃x,IsEnumOut h e f ((i:Int)+1) x T)/\isIt h f a (i+1)/\isq h a items/\T≠e/\T≠f)) :
  ND P w K (.Tuple elts kk tp) (TY sq a) [e,f] e (λi h=>(∃d,IsEnum h e f (i:Int) d)/\isIt h f a i) where
 mem:=BA ..
 obj:=λi h st b hb=>by
  obtain⟨⟨d,U⟩,V⟩:=st;rcases AV.mp hb with rfl | hb
  .exact⟨_,U,λv z=>by cases z⟩
  .rw[AE.mp hb];exact oI _ _ _ _ V
 keep:=λi h h' st k=>⟨let⟨d,U⟩:=st.1;⟨d,k e (by simp) _ U⟩,kI _ _ _ _ _ st.2 (k f (by simp))⟩
 item:=by
  intro X Y Z L y i g s σ H E I F st hg;subst Y Z;obtain⟨xs,x,M,N⟩:=hg;obtain⟨its,rv,p⟩:=gI _ _ _ _ _ _ _ L I M;obtain⟨u,hu,ru⟩:=rv.get N;obtain⟨⟨d,O⟩,R⟩:=id st;have W:=WI X.A (I.ok.hd y) (nE _ _ _ _ _ _ _ O p) (nI _ _ _ _ _ _ R p) its.toArray;have hi:i<its.toArray.size:=by rw[AR];exact(AK.mp hu).1
  refine W.item i s _ _ hi ⟨st.1,st.2,p⟩ λT C h' tk hv hT ht S k=>?_;obtain⟨t,x',hx',rfl⟩:=hv;have ex:x'=u:=BU (hx'.symm.trans ((EO ..).trans hu));subst ex;refine⟨.ref T,rfl,W.go elts kk tp i T _ _ _ S λV J k2=>?_⟩;have hT2:V.IsTuple T #[.int i t,x']:=ht.at λo z=>k2 T o (W.apart i T h' S) z;have D:∀c∈[e,f],∃j,s.heap.get? c=some j:=λc B=>by
   rcases AV.mp B with rfl | hb
   .exact⟨_,O⟩
   .rw[AE.mp hb];obtain⟨o,h4,_⟩:=oI _ _ _ _ R;exact⟨o,h4⟩
  refine⟨.ref T,II H T (.tup [.int i,x]),I.turnLaid (fp:=[e,f]) (λb o hb G=>k2 b o hb (k b o hb G)) F D hT ⟨?_,[.int i t,x'],.cons ⟨t,rfl⟩ (.cons ru .nil),hT2⟩,rfl,⟨T,x,rfl,I.hok.fresh hT,rfl,λzs hz=>by rw[uI _ _ _ _ _ _ _ _ L I hz M];exact N⟩,⟨J.1,J.2.1⟩,λc B=>?_⟩
  .show 2<=sizeLine;decide
  .obtain⟨j,G⟩:=D c B;rw[B7 (BB (BI (AG G) hT))];exact(F c B).1
 done:=by
  intro X Y Z L y i g s σ H E I F st hg;subst Y Z;obtain⟨xs,M,N⟩:=hg;obtain⟨its,rv,p⟩:=gI _ _ _ _ _ _ _ L I M;obtain⟨⟨d,O⟩,R⟩:=id st;have W:=WI X.A (I.ok.hd y) (nE _ _ _ _ _ _ _ O p) (nI _ _ _ _ _ _ R p) its.toArray;have hi:i=its.toArray.size:=by rw[AR,<-rv.length,N]
  rw[hi]at st;refine W.done s _ _ ⟨st.1,st.2,p⟩ λh' tk k=>⟨rfl,?_⟩;refine I.step (h':=h') (H':=H) (t':=tk) (g':=s.gens) (d':=s.drawn) (ch:=[e,f]) (λb hb=>let⟨_,f1,_,f3,f4,f5⟩:=F b hb;⟨f3,f1,f4,f5⟩) (λb j _ _ y e _=>k b j y e) (λb j _ _ y e _=>⟨j.slots,k b j y e⟩) (λ_ _ _ _ n=>n)
   (λb j y e=>⟨j,k b j y e⟩) (λ_ _ e=>e) (λ_ _ _ e=>e) (λb ps e=>⟨#[],by rw[e];simp⟩) (λm S=>?_) (λb u G=>?_) I.bare
  .obtain⟨j,es,ep,ho,r⟩:=S;exact⟨j,es,ep,k _ j (λhb=>(F _ hb).2.1 rfl) ho,r⟩
  .have nf:∀b u,H b=some u->b∉[e,f]:=λb u e hb=>by rw[(F b hb).1]at e;cases e
   refine(I.hok b u G).stay (λc v y q=>k c v ?_ q) (λ_ q=>q) λ_ _ q=>q;rcases y with z | z
   .rw[z];exact nf b u G
   .exact nf c _ z
 self:=λA i s Q E st h=>let⟨_,he⟩:=st.1;HX he h
theorem Pt(a b e:A3)(j:e≠b):ND P w K (.Tuple elts kk tp) (TY (IR K) a) [e,b] e (λi h=>(∃m,IsEnum h e b (i:Int) m)/\h.IsListIter b a i) :=
 Fc (isIt:=Heap.IsListIter) (isq:=Heap.IsList) (λh c l i ⟨o,e,_,d⟩=>⟨o,e,λv z=>by rw[d]at z;cases z⟩) (λh L c l i z k=>z.at k) (λX n σ H s c B t I u=>by subst t;obtain⟨f,C,p,_⟩:=I.list u;exact⟨f,C,p.isList⟩) (λX n σ H s c B M t I u D=>by subst t;exact I.list_inj u D)
  (λh c e b i m f E ⟨o,q,r,_⟩ z=>by
   rw[z,E]at q;cases q;exact absurd (show Value.type "enumerate" = .type "list" from r) (by decide))
  (λh c l i f e ⟨N,x,y,_⟩ ⟨o,q,r,_⟩ z=>by
   rw[z,x]at q;cases q;rw[y]at r;exact absurd r (by decide)) a b e j λA F G J g=>WalksT.enumerate F e b a j G J g
theorem Oc(a b e:A3)(j:e≠b):ND P w K (.Tuple elts kk tp) (TY (JG K) a) [e,b] e (λi h=>(∃m,IsEnum h e b (i:Int) m)/\h.IsTupleIter b a i) :=
 Fc (isIt:=Heap.IsTupleIter) (isq:=Heap.IsTuple) (λh c l i ⟨o,e,_,d⟩=>⟨o,e,λv z=>by rw[d]at z;cases z⟩) (λh L c l i z k=>z.at k) (λX n σ H s c B t I u=>by subst t;obtain⟨f,C,p,_⟩:=I.tuple u;exact⟨f,C,p⟩) (λX n σ H s c B M t I u D=>by subst t;exact I.tuple_inj u D)
  (λh c e b i m f E ⟨o,q,r,_⟩ z=>by
   rw[z,E]at q;cases q;exact absurd (show Value.type "enumerate" = .type "tuple" from r) (by decide))
  (λh c l i f e ⟨N,x,y,_⟩ ⟨o,q,r,_⟩ z=>by
   rw[z,x]at q;cases q;rw[y]at r;exact absurd r (by decide)) a b e j λA F G J g=>zAt F e b a j G J g
end
section
variable{X:Cx}{elts:A0 IQ}{kk:Nat}{tp:Pos}
def zEh(K:VA)(R:It->Hp->Prop)(a:A3)(xs:A0 V)(H:Hp):Prop:=IR K H a xs/\R (TY (IR K) a) H\/JG K H a xs/\R (TY (JG K) a) H
def Yp(K:VA)(b:TA):TI:=λσ H R=>b σ H λc d=>∃a e,c = [.ref a]/\zEh K R a e d
theorem Yd{a:IQ}{v:TA}{p i:Pos}(w:Gl X "enumerate")(x:X.mg "enumerate" = none)(y:bootBuiltins "enumerate" = some (.type "enumerate"))(A:PA X [a] v)(B:starEach [a] X.env = [(false,eval a X.env)]:=by rfl):PI X (.Tuple elts kk tp) (.Call (.Name "enumerate" p) [a] [] i) (Yp X.K v):=by
 intro d s σ H R I h;refine Call_ (Bq I w x y (VP (JK (A i d s σ H _ I h) λM c ⟨N,n,f,C,D⟩=>?_) B rfl));obtain⟨l,O,e,q⟩:=D;subst e;obtain⟨u,rfl,E⟩:=o8 C;cases E;have j:∀b∈[c.heap.objs.size+1,c.heap.objs.size],Fo X d n b:=λb hb=>by
  rcases AV.mp hb with z | hb
  .rw[z];exact f.fpOk (DC _) (f.hok.fresh (DC _))
  .rw[AE.mp hb];exact f.fpOk (VD _) (f.hok.fresh (VD _))
 rcases q with⟨o,q⟩ | ⟨o,q⟩
 .obtain⟨r,F,t,G⟩:=f.list o;exact call_enumerate_list t.isList λJ m g L k=>HX m ⟨c.heap.objs.size+1,_,_,_,n,rfl,f.kept (t':=c.toks) k,Pt l c.heap.objs.size (c.heap.objs.size+1) (Nat.succ_ne_self _),⟨⟨_,m⟩,g⟩,j,q⟩
 .obtain⟨r,F,t,G⟩:=f.tuple o;exact Qb t λJ m g k=>HX m ⟨c.heap.objs.size+1,_,_,_,n,rfl,f.kept (t':=c.toks) k,Oc l c.heap.objs.size (c.heap.objs.size+1) (Nat.succ_ne_self _),⟨⟨_,m⟩,g⟩,j,q⟩
end
def No{K:VA}{R:It->Hp->Prop}{a:A3}{xs:A0 V}{H H':Hp}(h:RG K H a xs)(k:KJ a H H')(q:∀c:Hp->A3->A0 V->Prop,(∀b,KJ a H b->c b a xs)->R (TY c a) H'):zEh K R a xs H':=by
 rcases h with h | h
 .exact .inl ⟨k.seqL h,q _ λb k=>k.seqL h⟩
 .exact .inr ⟨k.seqT h,q _ λb k=>k.seqT h⟩
section
variable{X:Cx}(K:VA)
theorem zHr{b:A0 IQ}{kk:Nat}{e:Pos}{a:IQ}{d:TA}{p c:Pos}(f:X.mg "enumerate" = none)(g:PA X [a] d)(h:Gl X "enumerate":=by rfl)(i:starEach [a] X.env = [(false,eval a X.env)]:=by rfl)(j:X.K=K:=by rfl) :
  PI X (.Tuple b kk e) (.Call (.Name "enumerate" p) [a] [] c) (Yp K d):=by subst j;exact Yd h f Jk g i
end
section
variable{X:Cx}{tg iter elt:IQ}{ifs:A0 IQ}{scope:KZ}{cl:A0 (Str×A3)}{N':A0 Str}{cap:A0 (A5 Nat)}{wi:TI}{pos:Pos}
theorem Iv{e:IQ}{gs:A0 Comprehension}{newAcc:Sem A2}{p2:Pos}{use:A5 (A2->Sem Unit)}{Qv:A2->A4->Prop}(q:clausesOf e =⟨tg,iter,ifs,0⟩::gs)(o:A3->HO)(hs:∀x,foldedSetIterable iter X.env x=pure x)(S:NA X scope cl N' cap)(hc:X.calm=true)(hi:PI X tg iter wi)
  {lp:A3->It->St->Hp->(St->Hp->Prop)->Prop}
  (r:∀(a:A0 (A3×Obj)) (s:A4) (σ:St) (H:Hp) (Q:A2->A4->Prop) (E:A2->A4->Prop),Inv X a σ H s->(∀g,Inv X a σ (II H s.heap.objs.size (o s.heap.objs.size)) g->(∀b f,s.heap.get? b=some f->g.heap.get? b=some f)->Q (.ref s.heap.objs.size) g)->wpAny (model X.prog X.w) X.A newAcc Q E s)
  (G:∀(a:A0 (A3×Obj)) (L:A0 A3) (s3:A4) (M:Hp) (D l:A3) (fp:A0 A3) (tn:Nat->IP->Prop) (J:It) (σ:St) (s:A4) (H:Hp) (Q:St->Hp->Prop) (R:Result->A4->Prop),
   ND X.prog X.w X.K tg J fp l tn->Inv (MJ X scope cl N' a L s3 M) [] σ H s->tn 0 s.heap->(∀b∈fp,Fo (MJ X scope cl N' a L s3 M) [] H b)->lp D J σ H Q ->
   (∀g σ' H',Inv (MJ X scope cl N' a L s3 M) [] σ' H' g->Q σ' H'->R (.ok .next) g) ->
   codeAny (model X.prog X.w) X.A (.compLoop e 0 (.ref l) (.ref D) (compEnvC scope cl s3.heap.objs.size X.env)) R s)
  (N:∀l D i,X.A.under (.compStart e 0 (.ref l) (.ref D) i)=X.A) (t:∀l D i,(model X.prog X.w).den (.compStart e 0 (.ref l) (.ref D) i) =(compStart e 0 (.ref l) (.ref D) i).onRaise (λx=>do noteFrame x i;standAt theWindowsPlace))
  {a:A0 (A3×Obj)} {s:A4} {σ:St} {H:Hp} {Q:V->Hp->Prop} (I:Inv X a σ H s) (h:Kg wi o cap lp σ H Q)
  (u:∀(D:A3) (fp:A0 A3) (k:Hp) (s3 g:A4) (σ':St) (H':Hp),Inv X a σ k s3->(∀b∈fp,Fo X a k b)->Inv (MJ X scope cl N' a fp s3 k) [] σ' H' g->Q (.ref D) H'->compPost (model X.prog X.w) X.A X.xe use Qv (.ref D) s3.heap.objs.size (.ok .next) g) :
  wpAny (model X.prog X.w) X.A (comprehension e scope X.env p2 newAcc false (eval iter X.env) use) Qv X.xe s:=by
 refine wpAny_comprehension_free q hs S.clos S.kind S.loc (JK (hi a s σ H _ I h) λv s1 B=>JK B λitv j h2=>?_);obtain⟨l,fp,tn,J,k,O,I2,T,C,f2,R2⟩:=h2;subst O;refine r a j σ k _ _ I2 λs3 P k3=>?_;have hD:k j.heap.objs.size=none:=I2.hok.fresh (VD _);have n:∀b∈fp,Fo X a (II k j.heap.objs.size (o j.heap.objs.size)) b/\∃f,s3.heap.get? b=some f:=λb m=>by
  obtain⟨f,e,_⟩:=T.obj _ _ C b m;obtain⟨U,fr⟩:=f2 b m;exact⟨⟨by rw[B7 (BB (AG e))];exact U,fr⟩,f,k3 b f e⟩
 refine wpAny_newFunctionEnv S.nocell (by intro y hy;simp at hy) (λB W Y=>?_) S.kind;have hk:∀b f,s3.heap.get? b=some f->B.get? b=some f:=λb f e=>(Y.2 b (BB (AG e))).trans (AD _ e);have I4:Inv (MJ X scope cl N' a fp s3 (II k j.heap.objs.size (o j.heap.objs.size))) [] (Zb cap σ) (II k j.heap.objs.size (o j.heap.objs.size)) { s3 with heap:=B,toks:=s3.toks +([]:A0 (Str×A2)).length } :=
  P.block S hc n W hk
 have F:tn 0 B:=T.keep 0 _ _ C λb m f e=>hk b f (k3 b f e);refine Fg (X:=MJ X scope cl N' a fp s3 (II k j.heap.objs.size (o j.heap.objs.size))) (gs:=⟨tg,iter,ifs,0⟩::gs) (e:=e) (d:=0) (tg:=tg) (iter:=iter) (ifs:=ifs) (N _ _ _) (t _ _ _) q rfl T F ?_;refine G a fp s3 _ j.heap.objs.size l fp tn J (Zb cap σ) _ _ _ _ T I4 F (λb m=>?_) (R2 _ hD) λg σ' H' I' q'=>?_
 .obtain⟨⟨U,f1,Z,f3,f4,f5⟩,f,eo⟩:=n b m;refine⟨U,BB (AG eo),λhf=>?_,.inl m,λx c e=>f4 x c (S.cin.get e),λp hp=>f5 p (by simpa [MJ] using hp)⟩;rcases AV.mp (P.stkSub b hf)with z | z
  .exact f1 z
  .exact Z z
 .exact u _ fp _ s3 g σ' H' P (λb m=>(n b m).1) I' q'
theorem X7{i:Nat}{x:Str}{o j:Pos}{g:TG}{V:TT}{W:TE}(hN:X.N.Nodup)(hi:X.N[i]?=some x)(hx:Loc X.env.scope x)(S:NA X scope cl N' cap)(p:X.calm=true)(hI:PI X tg iter wi)
  (t:∀(d:A0 (A3×Obj)) (y:A0 A3) (l:A4) (A:Hp),PG (MJ X scope cl N' d y l A) tg g/\TM (MJ X scope cl N' d y l A) ifs V/\PE (MJ X scope cl N' d y l A) elt W)
  (hs:∀x,foldedSetIterable iter X.env x=pure x:=by intro _;rfl)
  (F:swapsWith (.ListComp elt [⟨tg,iter,ifs,0⟩] scope j) (some (.Name x o)) pos.line X.env=pure true:=by rfl)
  (G:X.fn x=true\/X.env.scope.names.lookup x=some .local:=by first | exact .inl rfl | exact .inr rfl | assumption) :
  PS X (.Assign [.Name x o] (.ListComp elt [⟨tg,iter,ifs,0⟩] scope j) pos) (TZ (Kg wi (λ_=>.lst []) cap λD J σ H Q=>Bi g V (Z8 D W) J σ H Q) (Q4 i)):=by
 intro d s σ H D I h;rw[exec_Assign];refine AA (EC (AA (EB F (FS rfl (AA (AA ?_))))));refine Iv (newAcc:=newList []) (p2:=firstIterPos [⟨tg,iter,ifs,0⟩] j) rfl (λ_=>.lst []) hs S p hI (λd s σ H Q E I h=>?_) (λd y l A D it fp tn J σ s H Q R T I st G h hR=>?_) (λ_ _ _=>rfl) (λ_ _ _=>rfl) I h λE fp H2 l s' σ' H' Y K L q=>?_
 .refine wpAny_newList ?_;exact h _ (I.lnew (t':=s.toks) (its:=[]) .nil (BZ _)) λb f e=>AD _ e
 .obtain⟨b1,b2,b3⟩:=t d y l A;exact At (X:=MJ X scope cl N' d y l A) rfl rfl p rfl (Ez elt tg iter ifs scope j _ _ _) b1 b2 (Na rfl b3) T I st G h hR
 .have IX:Inv X d σ H' s':=Y.unblock K L ⟨rfl,λ_ _=>rfl⟩;have w:Fo X d H' l.heap.objs.size:=Y.fpOk (VD _) L.free;obtain⟨m,hn,_⟩:=L.loc;show wpAny _ _ (assign (.Name x o) X.env (.ref E)) _ _ _;refine wpAny_assign_Name (Dl (v:=.ref E) IX hN hi hx rfl (λC M ⟨a,O,ha⟩=>?_) G);have nC:l.heap.objs.size≠a:=by
   rcases ha with rfl | ha
   .exact w.2.1
   .exact(w.2.2.2.2.1 _ _ ha).symm
  refine⟨m,?_,λh' B=>AC (AC ?_)⟩
  .obtain⟨f,P,U,e1,r⟩:=hn;exact⟨f,P,U,(O.2 _ nC).trans e1,r⟩
  refine⟨_,H',?_,q⟩;have k:∀b f,b∉[l.heap.objs.size]->C.heap.get? b=some f->h'.get? b=some f:=λb f t e=>(B.2 b λz=>t (AE.mpr z)).trans e;refine M.step (h':=h') (H':=H') (t':=C.toks) (g':=C.gens) (d':=C.drawn) (ch:=[l.heap.objs.size]) (λb t=>by rw[AE.mp t];exact⟨w.2.2.2.1,w.2.1,w.2.2.2.2⟩) (λb f _ _ p e _=>k b f p e) (λb f _ _ p e _=>⟨f.slots,k b f p e⟩) (λ_ _ _ _ n=>n)
   (λb f p e=>⟨f,k b f p e⟩) (λ_ _ e=>e) (λ_ _ _ e=>e) (λb ps e=>⟨#[],by rw[e];simp⟩) (λm hm=>?_) (λb u Z=>?_) M.bare
  .obtain⟨f,P,U,ho,r⟩:=hm;exact⟨f,P,U,k _ f (λt=>w.2.1 (AE.mp t).symm) ho,r⟩
  .have nf:∀b u,H' b=some u->b∉[l.heap.objs.size]:=λb u e t=>by rw[AE.mp t,w.1]at e;cases e
   refine(M.hok b u Z).stay (λc v p q=>k c v ?_ q) (λ_ q=>q) λ_ _ q=>q;rcases p with z | z
   .rw[z];exact nf b u Z
   .exact nf c _ z
end
structure TR(K:VA)(C:A3):Prop where
 ha:PySem.W.findIn K (.ref C) "__class__" = some (some (.builtin "object.__class__"))
 hn:PySem.W.specialIn K (.builtin "object.__class__") "__get__" = some (some (.builtin "getset_descriptor.__get__"))
 htk:PySem.W.takesIn K (.builtin "object.__class__")=some true
 hm:PySem.W.mroIn K C (.type "object")=some true
 one:PySem.W.kitOne K (.ref C) (.ref C)=some true
def N_(K:VA)(a:A3):PySem.W.kitOne K (.ref a) (.ref a)=some true:=AO (beq_self_eq_true _)
theorem Hy{x:Str}{C:A3}{a:Pos}(h:X.mg x=some (.ref C))(b:Gl X x:=by rfl)(c:(x ==("__debug__":Str))=false:=by decide):PE X (.Name x a) (tC (.ref C)):=Kp b h rfl c
def Cr(l xs:A0 Str):A0 Str:=xs.foldl Zg l
def Yb(l:A0 Str)(x:Str):(Zg l x).length<=l.length+1:=by
 unfold Zg;split
 .lia
 .rw[AS];exact VD _
def zEn{w:IJ}{h h':IP}{a:A3}{ss:A0 Str}(z:ST.WS w h a ss)(k:∀o,h.get? a=some o->h'.get? a=some o):ST.WS w h' a ss:=by
 obtain⟨o,b,c,t,S,r⟩:=z;exact⟨o,b,c,t,S.at (k o S.ho),r⟩
section
variable{prog:IE}{w:IJ}{A:IM}{R:Result->A4->Prop}{I:A3}{fp wr:A0 A3}{G:IG GenState->IG GenState->Prop}{n:Nat}{P:Nat->A2->Prop}{St:Nat->A4->Prop}
theorem Vc(W:WalksS prog w A.in1 I fp wr G n P St)(S:A3)(d:S∉fp)(xs:A0 Str)(E:xs.length=n)(f:∀i v,P i v->∃x t,xs[i]?=some x/\v = .str x t) :
  ∀(k i:Nat) (s:A4) (ss:A0 Str),n-i=k->i<=n->St i s->ST.WS w s.heap S ss->ss.length+k<4096 ->
   (∀s',Moved (S::wr) G s s'->ST.WS w s'.heap S (Cr ss (xs.drop i))->R (.ok (.ret .none)) s') ->
   codeAny (model prog w) A (.builtin "set.update.loop" ⟨[.ref S,.ref I],[]⟩) R s:=by
 have g:S∉wr:=λh=>d (W.sub _ h);have a:∀b∈wr,b∈S::wr:=λb j=>AM _ j;intro k
 induction k with
 | zero =>
  intro i s ss H J c y _ z;have B:i=n:=by lia
  subst B;refine DY F.entry_set_update_loop ?_;rw[Around.under_plainId F.plain_set_update_loop _];refine AA (W.done s _ _ c λs' l=>?_);have q:=z s' (l.mono a);rw[<-E,List.drop_length]at q;exact AC (q (zEn y λo=>l.heap S o g))
 | succ k K =>
  intro i s ss H J c y T z;refine DY F.entry_set_update_loop ?_;rw[Around.under_plainId F.plain_set_update_loop _];refine AA (W.item i s _ _ (by lia) c λv s' L m l=>?_);obtain⟨x,t,M,rfl⟩:=f i v L;show wpAny _ A.in1 (holding [Value.str x t] (setAdd S (.str x t)) >>= _) _ _ s';refine AA (BN ?_);unfold setAdd;refine BN (AA (wpAny_pyHash_str ?_));refine ST.RF (s:={ s' with toks:=s'.toks+1 }) (zEn y λo=>l.heap S o g) (by lia) λU b p N=>?_;refine AC ⟨plainId_quiet F.plain_set_update_loop _,K (i+1) _ (Zg ss x) (by lia) (by lia) (W.frame _ s' _ _ m (DC _) λb j o e=>?_) N (by have:=Yb ss x;lia) λC r u=>?_⟩
  .rw[p.2 b (λh:b=S=>d (by rw[<-h];exact j))];exact e
  .refine z C (Moved.trans W.gtrans ((l.mono a).then_heap (DC _) λb o j e=>?_) r) ?_
   .rw[p.2 b (λh:b=S=>j (by rw[h];exact BA))];exact e
   .have O:xs.drop i=x::xs.drop (i+1):=by
     obtain⟨D,Q⟩:=AK.mp M;rw[<-Q];exact EK D
    rw[O];exact u
end
section
variable{prog:IE}{w:IJ}{A:IM}{E:A2->A4->Prop}{s:A4}
abbrev LP(w:IJ):Obj:={ cls:=.type "set",dict:=none,data:=.set #[] 0 (.fresh 0 0 (!(w.params.followText "set-order"))) }
theorem Xf{h:IP}{a:A3}(e:h.get? a=some (LP w)):ST.WS w h a [] :=
 ⟨_,#[],0,_,⟨e,⟨rfl,rfl,rfl⟩,rfl,by rfl,rfl,λ_=>rfl,by decide⟩,⟨λe b=>by simp at b,by simp,DX⟩⟩
theorem Xt(a:A2){Q₁:A2->A4->Prop}(h:Q₁ (.ref s.heap.objs.size) { s with heap:=s.heap.push (LP w) }) :
  codeAny (model prog w) A (.call (.builtin "set.__new__") ⟨[.type "set",a],[]⟩) (wants Q₁ E) s:=by
 refine codeAny_of_tree ?_;show wpAny _ A.in1 (do checkBuiltinCall "set.__new__" ⟨[.type "set",a],[]⟩;again (.builtin "set.__new__" ⟨[.type "set",a],[]⟩)) _ _ s;refine AA (EB (F.newCall_set_1 a) (AC ⟨plainId_quiet F.plain_set_new _,DY F.entry_set_new ?_⟩));rw[Around.under_plainId F.plain_set_new _];unfold Builtin.«set.__new__» Builtin.Frozenset.newClass;have b:=sub_set_self;obtain⟨c,g,d,e,os⟩:=s;dsimp only;wp_walk;refine GV (AC ?_);dsimp only;simp only[newObj];refine AA (wpAny_alloc (AC ?_));exact AC h
set_option maxHeartbeats 3200000 in
theorem Fd{l:A3}{g G:Obj}{nm:String}{xs:A0 Str}{n:Nat}{P:Nat->A2->Prop}{St:A3->Nat->IP->Prop}{Q:A2->A4->Prop}(hh:A.handled=none)(j:s.heap.get? l=some g)(k:g.cls = .type nm)
  (hs1:isSubtype (.type nm) (.type "set")=pure false) (hs2:isSubtype (.type nm) (.type "frozenset")=pure false) (hne:(Value.type nm == Value.type "dict")=false)
  (H:∀{A:IM} {E:A2->A4->Prop} {Q:A2->A4->Prop} (s1:A4),s1.heap.get? l=some g->Q (.ref s1.heap.objs.size) { s1 with heap:=s1.heap.push G }->wpAny (model prog w) A (pyIter (.ref l)) Q E s1)
  (hW:∀(A:IM) (I:A3),A.handled=none->l≠I->Walks prog w A I [I,l] [I] n P (St I)) (J:∀(h:IP) (I:A3),h.get? I=some G->h.get? l=some g->St I 0 h) (m:G.isFreed=false)
  (hn:xs.length=n) (p:∀i v,P i v->∃x t,xs[i]?=some x/\v = .str x t) (z:n<4096)
  (h:∀(h':IP) (B:Nat),ST.WS w h' s.heap.objs.size (Cr [] xs)->(∀b o,s.heap.get? b=some o->h'.get? b=some o)->Q (.ref s.heap.objs.size) { s with heap:=h',toks:=B }) :
  wpAny (model prog w) A (call (.type "set") [.ref l]) Q E s:=by
 obtain⟨c,tl,Z⟩:=F.called_set.mro;have K:=F.called_set.made;have hsub:=F.called_set.sub;refine HN (codeAny_of_tree ?_);show wpAny _ _ (callAny (.type "set") _) _ _ _;refine AC ⟨Code.quiet_builtin _ (by decide +kernel),DY F.entry_type_call ?_⟩;rw[Around.under_plain (weight_type_call_type "set" [.ref l] []) rfl];have h1:=F.called_set.notType;have h2:=F.called_set.canCreate;have hct:=F.typeCall_set_1 (.ref l)
 repeat (any_goals (first | assumption | wp_step))
 refine FC (Xt (.ref l) (E:=E) (Q₁:=λq i1=>q = .ref s.heap.objs.size/\i1 ={ s with heap:=s.heap.push (LP w) }) ⟨rfl,rfl⟩) λr i1 d=>?_;cases r with
 | error e=>exact d
 | ok L =>
  cases L with
  | ret q =>
   obtain⟨rfl,rfl⟩:=d;have hS:(s.heap.push (LP w)).get? s.heap.objs.size=some (LP w):=AY _ rfl;have hT:Shared.TypeIs { s with heap:=s.heap.push (LP w) } (.ref s.heap.objs.size) "set":=⟨_,hS,rfl⟩;have hli:=F.called_set.init.lookup;have hbi:=F.called_set.init.bind (.ref s.heap.objs.size)
   repeat (any_goals (first | assumption | wp_step))
   refine FC (codeAny_call_builtin (R:=wants (λr q0=>r = .none/\∃h' B,q0 ={ s with heap:=h',toks:=B }/\ST.WS w h' s.heap.objs.size (Cr [] xs) /\
     (∀b o,s.heap.get? b=some o->h'.get? b=some o)) E) F.called_set.init.plain F.entry_set_init (check_set_init_1 hT ?_)) λr₂ q0 d₂=>?_
   .have a:(s.heap.push (LP w)).get? l=some g:=AD _ j;obtain⟨ocls,M,N,C⟩:=g;simp only at k;subst k;unfold Builtin.«set.__init__» noKeywords Builtin.Frozenset.updateFrom;generalize O:pyIter=PI;wp_walk;subst O;refine H _ a ?_;refine AA (wpAny_runValue ?_);have u:l<s.heap.objs.size:=AG j;have S:A.in1.in1.in1.handled=none:=by simp[hh]
    have y:l≠(s.heap.push (LP w)).objs.size:=by
     rw[CO];exact BB (EZ u)
    have T:s.heap.objs.size∉[(s.heap.push (LP w)).objs.size,l]:=by
     rw[CO];simp only[AV,A_,or_false,not_or];exact⟨BB (FF _),Nat.ne_of_gt u⟩
    refine Vc ((hW _ _ S y).toS) s.heap.objs.size T xs hn p (n-0) 0 _ [] rfl (BZ _) (J _ _ (AY _ m) (AD _ a)) (Xf (AD _ hS)) (by simpa using z) λs' D f=>?_;obtain⟨h',g',d',U,V⟩:=s';have eg:g'=s.gens:=D.gens;have ed:d'=s.drawn:=D.drawn;have eo:V=s.os:=D.os;subst eg;subst ed;subst eo;show wpAny _ _ _ _ _ _;refine AC ?_;show wpAny _ _ (ret Value.none) _ _ _;refine AC ⟨rfl,h',U,rfl,f,λb o e=>?_⟩;have z:=AG e;have W:b≠s.heap.objs.size:=BB z;have X:b≠(s.heap.push (LP w)).objs.size:=by
     rw[CO];exact BB (EZ z)
    exact D.heap b o (by simp only[AV,A_,or_false,not_or];exact⟨W,X⟩) (AD _ (AD _ e))
   .cases r₂ with
    | error e=>exact d₂
    | ok L₂ =>
     cases L₂ with
     | ret r =>
      obtain⟨rfl,h',B,rfl,f,Y⟩:=d₂
      repeat (any_goals (first | assumption | wp_step))
      exact h _ _ f Y
     | _=>exact d₂.elim
  | _=>exact d.elim
end
def Gd:isSubtype (.type "tuple") (.type "set")=pure false:=by rw[isSubtype_type];kernel_rfl
def Aa:isSubtype (.type "tuple") (.type "frozenset")=pure false:=by rw[isSubtype_type];kernel_rfl
def Ii:∀{xs l:A0 Str},xs.Nodup->(∀x∈xs,x∉l)->Cr l xs=l++xs
 | [],l,_,_=>(CC l).symm
 | x::xs,l,c,a=>by
  obtain⟨d,f⟩:=CN.mp c;show Cr (Zg l x) xs=_;have e:Zg l x=l ++ [x]:=AI (a x (BA ..));rw[e,Ii f λy b hm=>?_,BH]
  .rfl
  .rcases AN.mp hm with hm | hm
   .exact a y (AM _ b) hm
   .exact d (AE.mp hm▸b)
def Ru{ss:A0 Str}{its:A0 A2}(r:IT (ss.map V.str) its)(i:Nat)(v:A2)(e:its.toArray[i]?=some v):∃x t,ss[i]?=some x/\v = .str x t:=by
 rw[EO]at e;cases h:ss[i]? with
 | none =>
  have:=r.none_of (i:=i) (by rw[AJ,h];rfl);rw[this]at e;cases e
 | some x =>
  obtain⟨u,a,t,b⟩:=r.get (i:=i) (x:=.str x) (by rw[AJ,h];rfl);rw[a]at e;cases e;exact⟨x,t,rfl,b⟩
theorem zBh(K:VA)(w:IJ)(E:X.calm=true:=by rfl)(J:X.K=K:=by rfl)(hw:X.w=w:=by rfl):N0 X (.type "set") (λxs H Q=>∃(p:A3) (ss:A0 Str),xs = [.ref p]/\(IR K H p (ss.map V.str)\/JG K H p (ss.map V.str))/\ss.Nodup/\ss.length<4096/\∀l,H l=none->Q (.ref l) (II H l (Dd w l ss))):=by
 subst J;subst hw;intro g s σ H xs R Q I r h;obtain⟨p,ss,rfl,hq,L,G,q⟩:=h;obtain⟨u,rfl,M⟩:=o8 r;cases M;have N:Cr [] ss=ss:=Ii L λ_ _ h=>nomatch h
 have i:∀(t:IP) (v:Nat),ST.WS X.w t s.heap.objs.size (Cr [] ss)->(∀b o,s.heap.get? b=some o->t.get? b=some o)->EP X g σ Q (.ref s.heap.objs.size) { s with heap:=t,toks:=v }:=λt v z k=>by
  rw[N]at z;exact⟨.ref s.heap.objs.size,_,I.laid (t':=v) k (VD _) (Yr z),rfl,q _ (I.hok.fresh (VD _))⟩
 rcases hq with hq | hq
 .obtain⟨d,j,x,O⟩:=I.list hq;have a:=j.length;rw[AB]at a;obtain⟨o,y,c,n,m⟩:=x.isList;exact Fd (I.ok.hd E) y c F.sub_list_set F.sub_list_frozenset (by decide) (λP e q=>GN ⟨_,e,c,n,m⟩ q) (λA I B f=>Walks.list B I p f d.toArray) (λh I C D=>⟨⟨_,C,rfl,rfl⟩,⟨_,D,c,n,m⟩⟩) rfl (by simp[a]) (Ru j) (by simpa [<-a] using G) i
 .obtain⟨d,j,x,O⟩:=I.tuple hq;have a:=j.length;rw[AB]at a;obtain⟨o,y,c,n,m⟩:=x;exact Fd (I.ok.hd E) y c Gd Aa (by decide) (λP e q=>FY ⟨_,e,c,n,m⟩ q) (λA I B f=>Walks.tuple B I p f d.toArray) (λh I C D=>⟨⟨_,C,rfl,rfl⟩,⟨_,D,c,n,m⟩⟩) rfl (by simp[a]) (Ru j) (by simpa [<-a] using G) i
theorem zFe(w:IJ)(hw:X.w=w:=by rfl):QH X "set.add" (zDq w):=by subst hw;exact Zy
section
variable{X:Cx}{tg iter elt:IQ}{ifs:A0 IQ}{scope:KZ}{cl:A0 (Str×A3)}{N':A0 Str}{cap:A0 (A5 Nat)}{wi:TI}{pos:Pos}
theorem Ya{i:Nat}{x:Str}{p j:Pos}{g:TG}{W:TT}{a b:IQ}{Y Z:TE}(hN:X.N.Nodup)(hi:X.N[i]?=some x)(hx:Loc X.env.scope x)(S:NA X scope cl N' cap)(t:X.calm=true)(hI:PI X tg iter wi)
  (w:∀(d:A0 (A3×Obj)) (y:A0 A3) (l:A4) (A:Hp),PG (MJ X scope cl N' d y l A) tg g/\TM (MJ X scope cl N' d y l A) ifs W/\PE (MJ X scope cl N' d y l A) a Y/\PE (MJ X scope cl N' d y l A) b Z)
  (hs:∀x,foldedSetIterable iter X.env x=pure x:=by intro _;rfl)
  (G:swapsWith (.DictComp a b [⟨tg,iter,ifs,0⟩] scope j) (some (.Name x p)) pos.line X.env=pure true:=by rfl)
  (K:X.fn x=true\/X.env.scope.names.lookup x=some .local:=by first | exact .inl rfl | exact .inr rfl | assumption) :
  PS X (.Assign [.Name x p] (.DictComp a b [⟨tg,iter,ifs,0⟩] scope j) pos) (TZ (Kg wi (λ_=>.dK []) cap λD J σ H Q=>Bi g W (Gc D Y Z) J σ H Q) (Q4 i)):=by
 intro d s σ H D I h;rw[exec_Assign];refine AA (EC (AA (EB G (FS rfl (AA (AA ?_))))));refine Iv (newAcc:=newDict) (p2:=firstIterPos [⟨tg,iter,ifs,0⟩] j) rfl (λ_=>.dK []) hs S t hI (λd s σ H Q E I h=>?_) (λd y l A D it fp tn J σ s H Q R T I st K h hR=>?_) (λ_ _ _=>rfl) (λ_ _ _=>rfl) I h λE fp H2 l s' σ' H' I3 L M q=>?_
 .refine BV ?_;exact h _ (I.laid (a:=s.heap.objs.size) (o:=.dK []) (t':=s.toks) (λ_ _ q=>AD _ q) (VD _) (Hh s.heap I.big)) λb f e=>AD _ e
 .obtain⟨b1,b2,b3,b4⟩:=w d y l A;exact At (X:=MJ X scope cl N' d y l A) rfl rfl t rfl (Es a b tg iter ifs scope j _ _ _) b1 b2 (Mi rfl b3 b4) T I st K h hR
 .have IX:Inv X d σ H' s':=I3.unblock L M ⟨rfl,λ_ _=>rfl⟩;have B:Fo X d H' l.heap.objs.size:=I3.fpOk (VD _) M.free;obtain⟨m,hn,_⟩:=M.loc;show wpAny _ _ (assign (.Name x p) X.env (.ref E)) _ _ _;refine wpAny_assign_Name (Dl (v:=.ref E) IX hN hi hx rfl (λF O ⟨a,P,ha⟩=>?_) K);have nC:l.heap.objs.size≠a:=by
   rcases ha with rfl | ha
   .exact B.2.1
   .exact(B.2.2.2.2.1 _ _ ha).symm
  refine⟨m,?_,λh' C=>AC (AC ?_)⟩
  .obtain⟨f,U,V,e1,r⟩:=hn;exact⟨f,U,V,(P.2 _ nC).trans e1,r⟩
  refine⟨_,H',?_,q⟩;have k:∀b f,b∉[l.heap.objs.size]->F.heap.get? b=some f->h'.get? b=some f:=λb f w e=>(C.2 b λz=>w (AE.mpr z)).trans e;refine O.step (h':=h') (H':=H') (t':=F.toks) (g':=F.gens) (d':=F.drawn) (ch:=[l.heap.objs.size]) (λb w=>by rw[AE.mp w];exact⟨B.2.2.2.1,B.2.1,B.2.2.2.2⟩) (λb f _ _ t e _=>k b f t e) (λb f _ _ t e _=>⟨f.slots,k b f t e⟩) (λ_ _ _ _ n=>n)
   (λb f t e=>⟨f,k b f t e⟩) (λ_ _ e=>e) (λ_ _ _ e=>e) (λb ps e=>⟨#[],by rw[e];simp⟩) (λm hm=>?_) (λb u eb=>?_) O.bare
  .obtain⟨f,U,V,ho,r⟩:=hm;exact⟨f,U,V,k _ f (λw=>B.2.1 (AE.mp w).symm) ho,r⟩
  .have nf:∀b u,H' b=some u->b∉[l.heap.objs.size]:=λb u e w=>by rw[AE.mp w,B.1]at e;cases e
   refine(O.hok b u eb).stay (λc v t q=>k c v ?_ q) (λ_ q=>q) λ_ _ q=>q;rcases t with z | z
   .rw[z];exact nf b u eb
   .exact nf c _ z
end
theorem Vz(E:X.calm=true):N0 X (.builtin "any") (λxs H Q=>∃(p:A3) (bs:A0 Bool),xs = [.ref p]/\IR X.K H p (bs.map V.bl)/\Q (.bl (bs.any id)) H):=by
 intro B s σ H xs M Q I r h;obtain⟨p,bs,rfl,F,q⟩:=h;obtain⟨u,rfl,t⟩:=o8 r;cases t;obtain⟨a,w,x,N⟩:=I.list F;refine call_any_walk (GN x.isList ?_);have y:p≠s.heap.objs.size:=by
  obtain⟨o,n,e,_⟩:=x;exact BB (AG e)
 refine⟨s.heap.objs.size,_,_,_,_,_,λi=>bs.getD i false,rfl,Walks.list (A:=X.A.in1) (show X.A.in1.handled=none from I.ok.hd E) _ p y a.toArray,⟨⟨_,AY _ rfl,rfl,rfl⟩,?_⟩,λi v O P R G J=>?_,λS T k=>?_⟩
 .obtain⟨o,n,e,c,d,L⟩:=x;exact⟨o,AD _ e,c,n,L⟩
 .have f:(bs.map V.bl)[i]?=some (V.bl (bs.getD i false))/\RelV (V.bl (bs.getD i false)) v:=by
   have g:a[i]?=some v:=by simpa using G
   have j:i<a.length:=(AK.mp g).1;have m:=w.length;rw[AB]at m;have e:(bs.map V.bl)[i]?=some (V.bl (bs.getD i false)):=by
    rw[AJ,AF (by lia)];simp[CB,AF (show i<bs.length by lia)]
   obtain⟨u,C,t⟩:=w.get e;rw[g]at C;cases C;exact⟨e,t⟩
  cases f.2;exact DA J
 .have m:=w.length;rw[AB]at m;have e:(List.range a.toArray.size).any (λi=>bs.getD i false)=bs.any id:=by
   rw[AR,<-m,GC,GU,GU];constructor
   .rintro⟨i,j,z⟩;have l:=DE.mp j;refine⟨bs[i],DL l,?_⟩;simpa [CB,AF l] using z
   .rintro⟨b,f,z⟩;obtain⟨i,j,rfl⟩:=D_.mp f;refine⟨i,DE.mpr j,?_⟩;simpa [CB,AF j] using z
  rw[e];exact⟨.bl (bs.any id),H,I.kept λb o D=>k b o (by
   intro f;have:b=s.heap.objs.size:=by simpa using f
   exact absurd (AG D) (by rw[this];exact DB _)) (AD _ D),rfl,q⟩
theorem zEi:bootBuiltins "any" = some (.builtin "any"):=by decide +kernel
variable(K:VA)
theorem zDo(a:X.calm=true:=by rfl)(b:X.K=K:=by rfl):N0 X (.builtin "any") (λxs H Q=>∃(p:A3) (bs:A0 Bool),xs = [.ref p]/\IR K H p (bs.map V.bl)/\Q (.bl (bs.any id)) H):=by subst b;exact Vz a
def Av(kvs more:A0 (JB×V)):A0 (JB×V):=more.foldl (λa b=>Cl a b.1 b.2) kvs
def KV.mrg:∀{more:A0 (JB×V)} {a:A0 (JB×A2)} {kvs:A0 (JB×V)} {vs:A0 (JB×A2)},KV kvs vs->KV more a->KV (Av kvs more) (merged vs a)
 | [],[],_,_,r,_=>r
 | [],_::_,_,_,_,b=>by cases b
 | _::_,[],_,_,_,b=>by cases b
 | (k,y)::m,(c,u)::n,kvs,vs,r,b=>by
  cases b with
  | cons h t =>
   obtain⟨e,d⟩:=h;have e:k=c:=e;subst e;show KV (Av (Cl kvs k y) m) (merged (stored vs k u) n);exact KV.mrg (r.put k d) t
def X9(kvs more:A0 (JB×V)):(Av kvs more).length<=kvs.length+more.length:=by
 induction more generalizing kvs with
 | nil=>exact VD _
 | cons a r b =>
  have c:=b (Cl kvs a.1 a.2);have d:=Y2 kvs a.1 a.2;show(Av (Cl kvs a.1 a.2) r).length<=kvs.length +(r.length+1);lia
theorem Qz:N0 X (.type "dict") (λxs H Q=>∃p kvs,xs = [.ref p]/\H p=some (.dK kvs)/\∀l,H l=none->Q (.ref l) (II H l (.dK kvs))):=by
 intro d s σ H xs m Q I r h;obtain⟨p,kvs,rfl,f,q⟩:=h;obtain⟨u,rfl,g⟩:=o8 r;cases g;obtain⟨z,i,n,a,j⟩:=Xb I.hok f;refine kt_call_dict i j (by rw[<-a.length];exact z) λt c k=>?_;refine⟨.ref s.heap.objs.size,II H s.heap.objs.size (.dK kvs),I.laid (t':=s.toks) (λb o e=>?_) (VD _) (Qw z (beq_eq_false_iff_ne.mpr (Nat.ne_of_gt I.big)) a c),rfl,q _ I.fresh⟩;rw[k.2 b (BB (AG e))];exact AD _ e
theorem zHo{b:A0 (A3×Obj)}{σ:St}{H:Hp}{s:A4}{a o:A3}{kvs more:A0 (JB×V)}{A:IM}{E:A2->A4->Prop}{Q:A2->A4->Prop}(I:Inv X b σ H s)(i:H a=some (.dK kvs))(n:H o=some (.dK more))(p:a≠o)(j:kvs.length+more.length<=sizeLine)
  (h:∀k,Inv X b σ (II H a (.dK (Av kvs more))) k->Q .none k):wpAny (model X.prog X.w) A (call (.builtin "dict.update") [.ref a,.ref o]) Q E s:=by
 obtain⟨z,r,t,d,l⟩:=Xb I.hok i;obtain⟨B,e,f,c,g⟩:=Xb I.hok n;refine call_meetsIn PySem.F.slot_dict_update l.typeIs PySem.F.entry_dict_update (PySem.F.args_dict_update_2 _ _) (meets_dict_update (E5 X.prog X.w) a o p e) ⟨t,f,l,g,by rw[<-d.length,<-c.length];exact j,λu m _ v=>?_⟩;have x:∃q,u.get? a=some q:=let⟨q,_,_,y,_⟩:=m;⟨q,y⟩;exact h _ (Qi I (t':=s.toks) (by rw[i];exact VC) v x (Qw (VE (X9 ..) j) r (d.mrg c) m))
def zHg(f ty:TE):TE:=λσ H Q=>f σ H λx e=>∃a,x = .ref a/\IsD e a/\ty σ e λy d=>∃o c b,y = .ref o/\d a=some (.dK c)/\d o=some (.dK b)/\a≠o/\c.length+b.length<=sizeLine/\Q .non (II d a (.dK (Av c b)))
theorem Kt{o e:IQ}{b c:Pos}{g ty:TE}(k:PE X o g)(l:PE X e ty)(m:M1 X o "update" b e c):PE X (.Call (.Attribute o "update" b) [e] [] c) (zHg g ty):=by
 intro f s σ H Q I h;refine wpAny_Call_method m.base m.few m.line PySem.F.plainAttrs_dict PySem.F.slot_dict_update PySem.F.type_dict_update (JK (k f s σ H _ I h) λu n ⟨x,p,i,q,a,r,d,t⟩=>?_);subst r;obtain rfl:u=Value.ref a:=q;obtain⟨v,w,_⟩:=Zr i d;refine⟨v,w,?_⟩;rw[m.trees];refine Calls.callWith_builtin rfl (Calls.evalArgs_plain (Calls.spliced_cons (JK (l f n σ p _ i t) λz O ⟨y,P,A,B,C,D,j,E,G,J,K,L,M⟩=>Calls.spliced_nil ?_)));subst E;obtain rfl:z=Value.ref C:=B;exact zHo A G J K L λR N=>⟨.non,_,N,rfl,M⟩
theorem Su:bootBuiltins "dict" = some (.type "dict"):=by decide +kernel
end
section
variable{prog:IE}{w:IJ}{A:IM}{E:A2->A4->Prop}{s:A4}
theorem Hz{g:A3}{xs:IG A2}{fp k:A0 A3}{St:Nat->IP->Prop}(W:Walks prog w A g fp k xs.size (λi v=>xs[i]?=some v) St):∀(n i:Nat) (s:A4) (Q:A0 A2->A4->Prop),St i s.heap->i+n<=xs.size ->
  (∀h' m,St (i+n) h'->(∀b o,b∉k->s.heap.get? b=some o->h'.get? b=some o)->Q ((xs.toList.drop i).take n) { s with heap:=h',toks:=m })->wpAny (model prog w) A (draw (.ref g) n) Q E s
 | 0,i,s,Q,a,_,h=>by
  show wpAny _ _ (pure []) Q E s;exact AC (by simpa using h s.heap s.toks a λb o _ e=>e)
 | n+1,i,s,Q,a,p,h=>by
  have c:i<xs.size:=by lia
  show wpAny _ _ (pyNext (.ref g) >>= _) Q E s;refine AA (W.item i s _ _ c a λv C r t d u=>?_);have x:v=xs[i]:=by
   have:xs[i]?=some v:=t;rw[EM c]at this;exact(BU this).symm
  refine AA (BN (Hz W n (i+1) _ _ d (by lia) λy j f z=>AC ?_));have B:xs.toList.drop i=xs[i]::xs.toList.drop (i+1):=by simp[EK,c]
  have q:=h y j (by rw[show i +(n+1)=i+1+n by lia];exact f) λb o l e=>z b o l (u b o l e);rw[B,List.take_succ_cons,<-x]at q;exact q
theorem Lw{l:A3}{items:IG A2}{a:A0 (Bool×(A2->Sem Unit))}{Q:Unit->A4->Prop}(q:A.handled=none)(g:s.heap.IsList l items)
  (r:a.length=items.size) (d:a.findIdx? (·.1)=none)
  (h:∀h' t,(∀b o,s.heap.get? b=some o->h'.get? b=some o)->wpAny (model prog w) A (assignInOrder (a.map (·.2)) items.toList) Q E { s with heap:=h',toks:=t }) :
  wpAny (model prog w) A (unpack (.ref l) a) Q E s:=by
 have i:l≠s.heap.objs.size:=by obtain⟨o,j,_⟩:=g;exact BB (AG j)
 have W:=Walks.list (prog:=prog) (w:=w) (A:=A) q s.heap.objs.size l i items;unfold unpack;rw[r,d];refine AA (BN ?_);unfold unpackItems;refine AA ?_;unfold notIterableAtAll;refine AA (GE g.typeIs slot_list_iter.lookup ?_);refine AC ?_;simp only[BD,CQ];refine AA (BN (GN g ?_));have k:(s.heap.push { cls:=.type "list_iterator",data:=.fields #[.ref l,.int 0 0] }).IsList l items:=by
  obtain⟨o,j,u,n,v⟩:=g;exact⟨o,AD _ j,u,n,v⟩
 refine AA (BN (Hz W items.size 0 _ _ ⟨⟨_,AY _ rfl,rfl,rfl⟩,k⟩ (by lia) λD x c y=>?_));have f:List.take items.size (List.drop 0 items.toList)=items.toList:=by
  rw[EW];exact DT (by simp)
 rw[f,AI (by simp)];refine AA (BN (W.done _ _ _ (by rw[ES]at c;exact c) λB m C=>?_));simp only[Option.isSome_none,BD,CQ];refine AC (h B m λb o e=>?_);have p:b∉[s.heap.objs.size]:=λz=>absurd (AG e) (by rw[AE.mp z];exact DB _);exact C b o p (y b o p (AD _ e))
end
section
variable{X:Cx}{pos:Pos}
def zIn(K:VA)(n:Nat)(t:RZ):TG:=λv σ H Q=>∃a b,v = .ref a/\IR K H a b/\b.length=n/\t b σ H Q
theorem zCi{c:A0 IQ}{k:Nat}{t:RZ}{n:Nat}(g:X.calm=true)(h:TN X c t)
  (i:(assignEach c X.env).length=n:=by rfl) (d:(assignEach c X.env).findIdx? (·.1)=none:=by rfl):PG X (.Tuple c k pos) (zIn X.K n t):=by
 intro b s σ H v u Q I r e;obtain⟨a,j,l,m,o,e⟩:=e;subst l;cases r;obtain⟨p,f,q,y⟩:=I.list m;rw[assign_Tuple];refine AA (EC (Lw (I.ok.hd g) q.isList (by simp[i,<-o,f.length]) d λz w x=>?_));exact h b _ σ H j _ Q (I.kept (t':=w) x) (by simpa using f) e
variable(K:VA)
theorem pgL{a:A0 IQ}{k:Nat}{t:RZ}{n:Nat}(h:TN X a t)(c:X.calm=true:=by rfl)(d:(assignEach a X.env).length=n:=by rfl)(b:(assignEach a X.env).findIdx? (·.1)=none:=by rfl)(e:X.K=K:=by rfl):PG X (.Tuple a k pos) (zIn K n t):=by subst e;exact zCi c h d b
end
section
variable{X:Cx}(K:VA)
theorem UO(a:X.K=K:=by rfl):SR X (zGr K):=by subst a;exact RT
end
section
variable{prog:IE}{w:IJ}{A:IM}{E:A2->A4->Prop}{s:A4}
theorem Xc{t b:A3}{vs g:A0 A2}{Q:A2->A4->Prop}(o:IsTup s.heap t vs.toArray)(p:IsTup s.heap b g.toArray)(q:vs = [])(h:Q (.ref b) s):wpAny (model prog w) A (binaryOp .Add (.ref t) (.ref b)) Q E s:=by
 obtain⟨⟨r,u,i,v⟩,j,k,n,l⟩:=id o;obtain⟨⟨m,e,data2,f⟩,a,c,x,d⟩:=id p;simp only at k l c d;subst k l c d;exact concat_meets ⟨_,j,rfl⟩ ⟨_,a,rfl⟩ noFill_tuple_add seq_tuple_add VN VO (PySem.F.args_tuple_add_2 _ _)
  (tuple_addW0 t b vs.toArray g.toArray n x u e v f (by simp[q])) ⟨j,a,h⟩
end
section
variable{X:Cx}(K:VA)
def zIe:R2:=λx y H Q=>∃a b c d,x = .ref a/\y = .ref b/\JG K H a c/\JG K H b d/\d≠[]/\c.length+d.length<=sizeLine /\
 (c = []->Q (.ref b) H)/\(c≠[]->∀p,H p=none->Q (.ref p) (II H p (.tup (c++d))))
theorem zBn(n:X.K=K:=by rfl):LB X (binaryOp .Add) (zIe K):=by
 subst n;intro d s σ H x y v u Q I e f h;obtain⟨a,b,g,o,i,j,k,l,p,q,r,t⟩:=h;by_cases c:g = []
 .subst i j c;cases e;cases f;obtain⟨w,A,B,_⟩:=I.tuple k;obtain⟨m,D,C,_⟩:=I.tuple l;exact Xc B C (A.nil_iff.mpr rfl) ⟨.ref b,H,I,rfl,r rfl⟩
 .exact zBi _ _ _ _ _ _ _ _ _ I e f ⟨a,b,g,o,i,j,k,l,c,q,λz=>absurd z p,λ_=>t c⟩
end
def XO(x C:A3)(d:A5 A3):HO:=.ext λh=>∃o a,h.get? x=some o/\o.cls = .ref C/\o.dict=d/\o.data = .fields a
def XO.ok{P:IE}{w:IJ}{H:Hp}{h:IP}{x C:A3}{d:A5 A3}{o:Obj}{vs:IG A2}(e:h.get? x=some o)(a:o.cls = .ref C)(b:o.dict=d)(c:o.data = .fields vs):JA P w H h x (XO x C d) :=
 ⟨⟨o,vs,e,a,b,c⟩,⟨o,e⟩,λf g ⟨o,vs,e,r⟩ k=>⟨o,vs,k o e,r⟩⟩
def Fl(H:Hp)(n:Nat)(x:A3)(h:IP):Prop :=
 ∃o a,h.get? x=some o/\o.data = .fields a/\1<a.size/\(a[1]?=some .none\/∃T b ts,a[1]?=some (.ref T)/\T≠x/\n<=T/\H T=none/\h.get? T=some b/\b.data = .fields ts/\3<ts.size)
structure RX(P:IE)(w:IJ)(base:IP)(fs:A0 QU)(env:QU)(outer:A0 QU)(H0:Hp)(s0:A4)(x C:A3)(d:A5 A3)(H:Hp)(s:A4):Prop where
 os:s.os=s0.os
 bare:AllBare s.gens
 un:Un (OF fs) [] H0 H s0.heap s.heap
 hok:NP P w H s.heap
 bsz:base.objs.size<=s0.heap.objs.size
 bs:∀b o,base.get? b=some o->s.heap.get? b=some o/\H b=none
 funs:s.heap.FunFrames base (env::outer)
 frf:∀b∈OF (env::outer),H b=none
 loc:∃L,env.frame=some L
 old:∀b o,s0.heap.get? b=some o->b∉OF fs->b∉OF (env::outer)
 sub:∀b∈OF fs,b∈OF (env::outer)
 hx:H x=some (XO x C d)
 nx:s0.heap.objs.size<=x
 fl:Fl H s0.heap.objs.size x s.heap
section
variable{P:IE}{w:IJ}{base:IP}{env:QU}{fs outer:A0 QU}{H0 H:Hp}{s0 s:A4}{x C:A3}{d:A5 A3}{h':IP}
theorem RX.chg(r:RX P w base fs env outer H0 s0 x C d H s){TT:A0 A3}(tt:∀T∈TT,H T=none/\s0.heap.objs.size<=T/\∃o ts,s.heap.get? T=some o/\o.data = .fields ts)
  (a:∀b o,b≠x->b∉TT->b∉OF (env::outer)->s.heap.get? b=some o->h'.get? b=some o)
  (f:∀b o,b∈OF (env::outer)->s.heap.get? b=some o->∃B,h'.get? b=some { o with slots:=B })
  (N:∀T∈TT,∃o,h'.get? T=some o) (D:∀o,s.heap.get? x=some o->∃vs,h'.get? x=some { o with data:=.fields vs }) (O:Fl H s0.heap.objs.size x h') :
  RX P w base fs env outer H0 s0 x C d H { s with heap:=h' }:=by
 obtain⟨Q,V,L,E,F,G⟩:∃o vs,s.heap.get? x=some o/\o.cls = .ref C/\o.dict=d/\o.data = .fields vs:=(r.hok x _ r.hx).1;obtain⟨R,l⟩:=D Q L;have S:∀b,b∈OF (env::outer)->b≠x:=λb g z=>by
  have:=r.frf b g;rw[z,r.hx]at this;cases this
 have U:∀b,b∈OF (env::outer)->b∉TT:=λb g z=>by
  obtain⟨_,o,I,i⟩:=r.funs.mem g;obtain⟨_,_,m,ts,h,j⟩:=tt b z;rw[I]at h;cases h;exact i ts j
 have p:∀b o,s0.heap.get? b=some o->b≠x/\b∉TT:=λb o e=>⟨λz=>absurd (AG e) (by rw[z];exact Nat.not_lt.mpr r.nx),λz=>absurd (AG e) (Nat.not_lt.mpr (tt b z).2.1)⟩;have k:∀b o,s.heap.get? b=some o->∃m,h'.get? b=some m:=λb o e=>by
  by_cases t:b=x
  .rw[t];exact⟨_,l⟩
  by_cases v:b∈TT
  .exact N b v
  by_cases y:b∈OF (env::outer)
  .obtain⟨B,q⟩:=f b o y e;exact⟨_,q⟩
  .exact⟨_,a b o t v y e⟩
 have SZ:∀b u,H b=some u->b≠x->∀o,s.heap.get? b=some o->h'.get? b=some o:=λb u e c o I =>
  a b o c (λz=>by rw[(tt b z).1]at e;cases e) (λz=>by rw[r.frf b z]at e;cases e) I
 refine⟨r.os,r.bare,⟨λb o e n g A=>?_,λb o e n g A=>?_,r.un.free,λb o e A=>?_,r.un.tups,r.un.frzs,r.un.tbls⟩,λb u e=>?_,r.bsz,λb o e=>?_,?_,r.frf,r.loc,r.old,r.sub,r.hx,r.nx,O⟩
 .exact a b o (p b o e).1 (p b o e).2 (r.old b o e g) (r.un.keep b o e n g A)
 .obtain⟨B,q⟩:=r.un.slot b o e n g A;obtain⟨J,K⟩:=f b _ (r.sub b g) q;exact⟨J,K⟩
 .obtain⟨m,q⟩:=r.un.there b o e A;exact k b m q
 .by_cases c:b=x
  .subst c;rw[r.hx]at e;cases e;exact XO.ok l E F rfl
  .refine(r.hok b u e).stay (λM o g q=>?_) (λ_ q=>q) λ_ _ q=>q;rcases g with z | z
   .subst z;exact SZ M u e c o q
   .refine SZ M _ z (λK=>?_) o q;rw[K,r.hx]at z;cases z
 .refine⟨a b o (λz=>?_) (λz=>?_) (λz=>?_) (r.bs b o e).1,(r.bs b o e).2⟩
  .have:=(r.bs b o e).2;rw[z,r.hx]at this;cases this
  .exact absurd (AG e) (Nat.not_lt.mpr (VE r.bsz (tt b z).2.1))
  .have:=(r.funs.mem z).1;rw[e]at this;cases this
 .refine r.funs.of_keeps λb o e i=>?_;by_cases t:b=x
  .subst t;rw[L]at e;cases e;exact absurd G (i _)
  by_cases v:b∈TT
  .obtain⟨_,_,m,ts,h,j⟩:=tt b v;rw[e]at h;cases h;exact absurd j (i _)
  by_cases y:b∈OF (env::outer)
  .obtain⟨B,q⟩:=f b o y e;exact⟨_,q,rfl⟩
  .exact⟨o,a b o t v y e,rfl⟩
def Tb(H:Hp)(n:Nat)(x:A3)(h:IP):Prop :=
 ∃o a T b ts,h.get? x=some o/\o.data = .fields a/\a[1]?=some (.ref T)/\T≠x/\n<=T/\H T=none/\h.get? T=some b/\b.data = .fields ts/\3<ts.size
theorem Tb.fl{H:Hp}{n:Nat}{x:A3}{h:IP}(t:Tb H n x h):Fl H n x h:=by
 obtain⟨o,b,T,c,ts,e,d,a,r⟩:=t;exact⟨o,b,e,d,(CH.mp a).1,.inr ⟨T,c,ts,a,r⟩⟩
theorem zJl{o:Obj}{vs:IG A2}(f:IG A2->IG A2)(e:o.data = .fields vs):Obj.mapFields f o ={ o with data:=.fields (f vs) }:=by
 obtain⟨a,b,c,d⟩:=o;have e:c = .fields vs:=e;subst e;rfl
section
variable{M:Model}{A:IM}{E:A2->A4->Prop}{Q:Unit->A4->Prop}
theorem RX.entry(r:RX P w base fs env outer H0 s0 x C d H s)(n:A.frames=some (env::outer)){L:A3}(B:env.frame=some L){e:A2}{f:Bool}
  (h:∀h',RX P w base fs env outer H0 s0 x C d H { s with heap:=h' }->Tb H s0.heap.objs.size x h'->Q () { s with heap:=h' }) :
  wpAny M A (do let a <-frameOf env;let pl <-entryPlaceOf L f;let b <-EntryCells.newEntry e a .none (rawInt L) .none pl;setField (.ref x) 1 b) Q E s:=by
 obtain⟨o,J,c,p,g,_⟩:=id r.fl;have i:∀b,b∈OF (env::outer)->b≠x:=λb j z=>by
  have:=r.frf b j;rw[z,r.hx]at this;cases this
 refine AA (wpAny_frameOf_fun n r.funs B λn0 m₁=>?_);refine AA (wpAny_entryPlaceOf λpl t=>?_);unfold EntryCells.newEntry newFields;refine AA (BV ?_ (t.sizeOk5 _ _ _ _ _));have r3:n0.get? x=some o:=(m₁.2.1 x λD=>i x D rfl).trans c;have k:3 <([e,Value.ref L,.none,rawInt L,.none] ++(if pl.isEmpty then List.replicate 6 Value.none else pl)).toArray.size:=by
  simp only[AR,AS,BQ,List.length_nil];lia
 generalize ([e,Value.ref L,.none,rawInt L,.none] ++(if pl.isEmpty then List.replicate 6 Value.none else pl)).toArray=ts at k;have c₂:=AD (h:=n0) { cls:=.type "traceback",dict:=none,data:=.fields ts } r3;have l:n0.objs.size≠x:=Nat.ne_of_gt (AG r3);have F₃:=(BF (n0.push { cls:=.type "traceback",dict:=none,data:=.fields ts }) (Obj.mapFields (·.setIfInBounds 1 (Value.ref n0.objs.size))) (Ne.symm l)).trans (AY n0 rfl);have c₃:=BW (Obj.mapFields (·.setIfInBounds 1 (Value.ref n0.objs.size))) c₂ (Obj.isFreed_of_fields (Obj.data_mapFields p _));rw[zJl _ p]at c₃;have y:Tb H s0.heap.objs.size x ((n0.push { cls:=.type "traceback",dict:=none,data:=.fields ts }).update x (Obj.mapFields (·.setIfInBounds 1 (Value.ref n0.objs.size)))) :=
  ⟨_,_,n0.objs.size,_,ts,c₃,rfl,by simp[g],l,VE r.nx (DQ (AG r3)),r.hok.fresh (by rw[m₁.1];exact VD _),F₃,rfl,k⟩
 refine EF c₂ p g (h _ (r.chg (TT:=[]) (λ_ z=>nomatch z) (λb u j _ v q=>?_) (λb u j q=>?_) (λ_ z=>nomatch z) (λu q=>?_) y.fl) y)
 .rw[BF _ _ (Ne.symm j)];exact AD _ ((m₁.2.1 b v).trans q)
 .obtain⟨G,I⟩:=m₁.2.2 b u q;refine⟨G,?_⟩;rw[BF _ _ (Ne.symm (i b j))];exact AD _ I
 .rw[c]at q;cases q;exact⟨_,c₃⟩
theorem RX.setT(r:RX P w base fs env outer H0 s0 x C d H s){o k:Obj}{vs ts:IG A2}{T:A3}{v:A2}(l:s.heap.get? x=some o)(m:o.data = .fields vs)(h1:vs[1]?=some (.ref T))(n:T≠x)(p:s0.heap.objs.size<=T)(t:H T=none)(e:s.heap.get? T=some k)(a:k.data = .fields ts)(u:3<ts.size)
  (h:∀h',RX P w base fs env outer H0 s0 x C d H { s with heap:=h' }->Tb H s0.heap.objs.size x h'->Q () { s with heap:=h' }):wpAny M A (setField (.ref T) 3 v) Q E s:=by
 have c:=(BF s.heap (Obj.mapFields (·.setIfInBounds 3 v)) n).trans l;have f:=BW (Obj.mapFields (·.setIfInBounds 3 v)) e (Obj.isFreed_of_fields (Obj.data_mapFields a _));have y:Tb H s0.heap.objs.size x (s.heap.update T (Obj.mapFields (·.setIfInBounds 3 v))):=⟨o,vs,T,_,_,c,m,h1,n,p,t,f,Obj.data_mapFields a _,by simpa using u⟩;refine EF e a u (h _ (r.chg (TT:=[T]) (λb z=>?_) (λb g B i _ q=>?_) (λb g B q=>?_) (λb z=>?_) (λg q=>?_) y.fl) y)
 .rw[AE.mp z];exact⟨t,p,_,_,e,a⟩
 .rw[BF _ _ (λz=>i (by rw[z];exact AE.mpr rfl))];exact q
 .refine⟨g.slots,?_⟩;rw[BF _ _ (λz=>by
   obtain⟨_,F,D,j⟩:=r.funs.mem B;rw[<-z,e]at D;cases D;exact j _ a)]
  exact q
 .rw[AE.mp z];exact⟨_,f⟩
 .rw[l]at q;cases q;exact⟨vs,by rw[c,<-m]⟩
theorem RX.note(r:RX P w base fs env outer H0 s0 x C d H s)(b:A.frames=some (env::outer))
  (h:∀h',RX P w base fs env outer H0 s0 x C d H { s with heap:=h' }->Tb H s0.heap.objs.size x h'->Q () { s with heap:=h' }):wpAny M A (noteFrame (.ref x) env) Q E s:=by
 obtain⟨L,j⟩:=r.loc;obtain⟨o,p,g,i,q,c⟩:=id r.fl;unfold noteFrame;simp only[j];rcases c with f | ⟨T,t,ts,f,l,m,n,e,a,k⟩
 .refine AA (CD g i f ?_);rw[AI (by decide)];exact r.entry b j h
 .refine AA (CD g i f ?_);rw[AO (show(Value.ref T != Value.none)=true from by simp)];refine AA (CD e a (EM k) ?_);split
  .exact AC (h s.heap r ⟨o,p,T,t,ts,g,i,f,l,m,n,e,a,k⟩)
  .refine AA (r.setT g i f l m n e a k λh' u _=>?_);exact u.entry b j h
theorem RX.flight(r:RX P w base fs env outer H0 s0 x C d H s){i:A5 A3}
  (h:∀h',RX P w base fs env outer H0 s0 x C d H { s with heap:=h' }->(Tb H s0.heap.objs.size x s.heap->Tb H s0.heap.objs.size x h')->Q () { s with heap:=h' }):wpAny M A (setFlight (.ref x) i) Q E s:=by
 obtain⟨o,t,b,f,j,c⟩:=id r.fl;unfold setFlight;rcases c with a | ⟨T,u,ts,a,k,l,m,e,g,n⟩
 .refine AA (CD b f a ?_);rw[AI (by decide)];exact AC (h s.heap r id)
 .refine AA (CD b f a ?_);rw[AO (show(Value.ref T != Value.none)=true from by simp)];exact r.setT b f a k l m e g n λh' p q=>h h' p λ_=>q
theorem RX.leave(r:RX P w base fs env outer H0 s0 x C d H s)(a:A.frames=some (env::outer))
  (h:∀h',RX P w base fs env outer H0 s0 x C d H { s with heap:=h' }->Tb H s0.heap.objs.size x h'->Q () { s with heap:=h' }):wpAny M A (leaving env (.ref x)) Q E s:=by
 unfold leaving;exact AA (r.note a λh' b c=>b.flight λe f g=>h e f (g c))
end
end
def QV(P:IE)(w:IJ):RS:=λa H s E e b =>
 ∃x C d c,e = .ref x/\b.os=s.os/\AllBare b.gens/\Un (OF a) [] H c s.heap b.heap/\NP P w c b.heap/\c x=some (XO x C d)/\s.heap.objs.size<=x/\Tb c s.heap.objs.size x b.heap/\E (.ref C) d c
def XE(X:Cx)(E:XK):A2->A4->Prop:=λe b=>∃x C d a,e = .ref x/\RX X.prog X.w X.base X.outer X.env X.outer X.H₀ X.s₀ x C d a b/\E (.ref C) d a
section
variable{prog:IE}{w:IJ}{A:IM}{E:A2->A4->Prop}{h:IP}{g:IG GenState}{d:Drawn}{t:Nat}{os:OsState}
variable{nm q:Str}{C N:A3}{bs bm bmB:A0 A2}{hdct:Bool}{sn:A0 Str}{sub:A0 A2}{ab:Bool}{col:A5 Bool}{dd:A5 A3}{k0 k1 k2 k3 k5:A5 A2}{B newId initId:String}
abbrev SW(C t:A3):Obj:={ cls:=.ref C,data:=.fields #[.ref t,.none,.none,.none,.bool false,.none] }
abbrev LQ(h:IP)(C:A3)(a:A0 A2):IP:=(h.push { cls:=.type "tuple",data:=.seq a.toArray }).push (SW C h.objs.size)
end
def XN(x C:A3)(d:A5 A3):HO:=.ext λh=>∃a b,h.get? x=some ⟨.ref C,d,.fields a,b⟩/\a[1]?=some .none
def XN.ok{P:IE}{w:IJ}{H:Hp}{h:IP}{x C:A3}{d:A5 A3}{vs:IG A2}{a:IG (A5 A2)}(e:h.get? x=some ⟨.ref C,d,.fields vs,a⟩)(h1:vs[1]?=some .none):JA P w H h x (XN x C d) :=
 ⟨⟨vs,a,e,h1⟩,⟨_,e⟩,λh1 b ⟨vs,a,e,r⟩ k=>⟨vs,a,k _ e,r⟩⟩
section
variable{M:Model}{A:IM}{E:A2->A4->Prop}{env:QU}
variable{nm q:Str}{C N:A3}{bs bm:A0 A2}{hdct:Bool}{sn:A0 Str}{sub:A0 A2}{ab:Bool}{col:A5 Bool}{dd:A5 A3}{k0 k1 k2 k3 k5:A5 A2}{newId:String}
theorem Um{s:A4}{x:Sem A2}{Q:Flow->A4->Prop}(a:bm.contains (.type "BaseException")=true)(k:A.handled=none)
  (h:wpAny M A x (λv i1=>∃e b vs f,v = .ref e/\i1.heap.get? C=some (excClassObj nm q C N bs bm hdct sn sub ab col dd k0 k1 k2 k3 k5 newId) /\
   i1.heap.get? e=some ⟨.ref C,b,.fields vs,f⟩/\vs[1]?=some .none/\E (.ref e) i1) E s) :
  wpAny M A (raiseStmt env (some x) none) Q E s:=by
 have c:(Value.ref C::bm).contains (.type "BaseException")=true:=by rw[List.contains_cons,a,Bool.or_true]
 unfold raiseStmt;refine AA (BS h (λv i1 n0=>?_) λ_ _ x=>x);obtain⟨e,b,vs,f,rfl,i,j,l,m⟩:=n0;obtain⟨n,g,d,o,os⟩:=i1
 repeat (first | with_reducible refine EH j ?_ | with_reducible refine EH i ?_ | (with_reducible refine HG i ?_;rw[c]) | with_reducible refine CD j rfl l ?_ | wp_step)
 exact wpAny_raiseNew_none k m
end
structure XC(K:VA)(C:A3)(bm:A0 A2):Prop where
 obj:∃nm q N bs hdct sn sub ab col dd k0 k1 k2 k3 k5,K.lookup C=some (excClassObj nm q C N bs bm hdct sn sub ab col dd k0 k1 k2 k3 k5 "ValueError.__new__")
 tail:PySem.W.tailIn K [.type "ValueError",.type "Exception",.type "BaseException",.type "object"] bm=true
 kp:PySem.W.keepIn K (.ref C)=true
 sa:PySem.W.findIn K (.ref C) "__setattr__" = some (some (.builtin "object.__setattr__"))
 hd:PySem.W.hasDictIn K C=true
def XC.base{K:VA}{C:A3}{bm:A0 A2}(c:XC K C bm){h:IP}(X:K.In h):bm.contains (.type "BaseException")=true:=(PySem.W.tail_of_in X c.tail).hasType rfl
structure BX(X:Cx)(E:XK):Prop where
 xe:X.xe=XE X E
 st:X.stack=X.env::X.outer
 fr:X.env.frame=some X.env.locals
 ex:X.ex = []
 calm:X.calm=true
section
variable{X:Cx}{pins:A0 (A3×Obj)}{σ:St}{H:Hp}{s:A4}{x C:A3}{E:XK}
theorem Inv.rx{d:A5 A3}(I:Inv X pins σ H s)(b:BX X E)(f:H x=some (XO x C d))(nx:X.s₀.heap.objs.size<=x)(g:Fl H X.s₀.heap.objs.size x s.heap):RX X.prog X.w X.base X.outer X.env X.outer X.H₀ X.s₀ x C d H s:=by
 refine⟨I.os,I.bare,by have:=I.base;rw[b.ex]at this;exact this,I.hok,I.ok.bsz,I.bs,by have:=I.stack;rw[b.st]at this;exact this,by have:=I.stkFree;rw[b.st]at this;exact this,⟨_,b.fr⟩,λc o e a z=>?_,λc a=>?_,f,nx,g⟩
 .unfold OF at z a;rw[DU,b.fr]at z;rcases AV.mp z with q | q
  .exact absurd (AG e) (by rw[q];exact Nat.not_lt.mpr I.ok.above)
  .exact a q
 .unfold OF at a⊢;rw[DU,b.fr];exact AM _ a
theorem Tb.mono{n m:Nat}{h:IP}(t:Tb H n x h)(k:m<=n):Tb H m x h:=by
 obtain⟨o,a,T,b,ts,e,c,d,f,g,r⟩:=t;exact⟨o,a,T,b,ts,e,c,d,f,VE k g,r⟩
theorem BX.passes(b:BX X E):Bm (QV X.prog X.w) X E:=by
 rintro pins σ H s e l I ⟨x,C,d,f,rfl,os,a,g,c,h,i,j,q⟩;have k:=I.call' os g c a (λb z=>absurd z (by simp));rw[b.xe];exact⟨x,C,d,f,rfl,k.rx b h (VE I.sz i) (j.mono I.sz).fl,q⟩
end
section
variable{X:Cx}{C f:A3}{fd:I7}{ps:A0 Str}{sp:Sp}{E:XK}{bm:A0 A2}{k:Nat}{n:Str}{p pos cpos:Pos}{e:IQ}{es:A0 IQ}{t:TA}
theorem BX.made{a:A0 (A3×Obj)}{σ:St}{H:Hp}{s:A4}{x:A3}{d:A5 A3}(b:BX X E)(I:Inv X a σ H s)(h:H x=some (XN x C d))(nx:X.s₀.heap.objs.size<=x)(q:E (.ref C) d (II H x (XO x C d))) :
  ∃vs c,s.heap.get? x=some ⟨.ref C,d,.fields vs,c⟩/\vs[1]?=some .none/\X.xe (.ref x) s:=by
 obtain⟨vs,c,f,g⟩:∃vs c,s.heap.get? x=some ⟨.ref C,d,.fields vs,c⟩/\vs[1]?=some .none:=(I.hok x _ h).1;refine⟨vs,c,f,g,?_⟩;have i:Inv X a σ (II H x (XO x C d)) s:=I.write (x:=x) (e:=x) (h':=s.heap) (t':=s.toks) (by rw[h];exact VC) (.inl rfl) (λ_ _ _ z=>z) ⟨_,f⟩ (XO.ok f rfl rfl rfl);rw[b.xe];exact⟨x,C,d,_,rfl,i.rx b A7 nx ⟨_,vs,f,rfl,(CH.mp g).1,.inl g⟩,q⟩
end
section
variable{P:IE}{w:IJ}{K:VA}{mg:Str->A5 A2}{base:IP}
abbrev TJ(P:IE)(w:IJ)(K:VA)(mg:Str->A5 A2)(base:IP)(N:A0 Str)(c:Str)(a:KZ)(f:A3)(d:A2)(A:IM)(b:A0 QU)(s:A4)(H:Hp)(E:XK):Cx :=
 (Xi (QV P w) P w K mg base N c a f d A b s H E).wish (XE (Xi (QV P w) P w K mg base N c a f d A b s H E) E)
theorem TJ.bx{N:A0 Str}{c:Str}{a:KZ}{f:A3}{d:A2}{A:IM}{b:A0 QU}{s:A4}{H:Hp}{E:XK}:BX (TJ P w K mg base N c a f d A b s H E) E:=⟨rfl,rfl,rfl,rfl,rfl⟩
theorem QA.wishI{X:Cx}{E:A2->A4->Prop}{st:A0 IY}{t:TS}(k:X.A.frames=some X.stack->∀e s,E e s->X.xe e s)(h:QA (X.wish E) st t):QA X st t:=λa s σ H D I b =>
 BS (h a s σ H D (I.wish _) b) (λ_ _ q=>q.unwish) (k I.ok.frames)
theorem PL.okE{x b:Str}{st:IY}{f:A3}{n:I7}{N ps:A0 Str}{k:Nat}{sp:Sp}(F:PL K x b st f n)(S:IL N ps (B6 st))(j:∀vs H Q E,sp vs H Q E->vs.length=ps.length)
  (g:∀(c:A2) (A:IM) (a:A0 QU) (s:A4) (H:Hp) (vs:A0 V) (Q:VK) (E:XK),KD k (A.deeper (envOfC b (B6 st) s.heap.objs.size f c))->sp vs H Q E ->
   ∃t,QA (TJ P w K mg base N b (B6 st) f c A a s H E) (T3 st) t/\t { nx:=λ_ H'=>Q .non H',rt:=Q } (Da N vs) H):IU P w K mg base (QV P w) (k+1) f n ps sp:=by
 obtain⟨B,D,kV,o,G,I,c,J,p,rfl,lk,l⟩:=F.ex;refine zFp lk l S j λA a s H vs Q E u m=>?_;obtain⟨t,h,q⟩:=g c A a s H vs Q E u m;refine⟨t,h.wishI λv e L z=>?_,q⟩;obtain⟨x,C,d,H',rfl,r,q⟩:=z;exact RX.leave r v λM i y=>⟨x,C,d,H',rfl,i.os,i.bare,i.un,i.hok,i.hx,i.nx,y,q⟩
end
def PEx(X:Cx)(e:IQ)(t:XK->TE):Prop:=∀(a:A0 (A3×Obj)) (s:A4) (σ:St) (H:Hp) (Q:VK) (E:XK),Inv X a σ H s->t E σ H Q ->
 wpAny (model X.prog X.w) X.A (eval e X.env) (EP X a σ Q) (λd f=>∃b c,Inv X a σ c b/\QV X.prog X.w X.stack c b E d f) s
section
variable{X:Cx}{pins:A0 (A3×Obj)}{σ:St}{H:Hp}{s:A4}
theorem Af{M:Model}{A:IM}{E:A2->A4->Prop}{i:Nat}{x:Str}{B:Pos}{Q:Unit->A4->Prop}(I:Inv X pins σ H s)(P:X.N.Nodup)(hi:X.N[i]?=some x)(f:X.env.scope.names.lookup x=some .local)
  (h:∀G,Inv X pins (σ.set i none) H G->Q () G):wpAny M A (do bindName X.env x .none;unbindBehindTheSuite X.env x B) Q E s:=by
 obtain⟨m,J,R⟩:=id I.loc;have t:(X.env.scope.kind == .class||(X.env.scope.kind == .module&&X.env.locals != X.env.globals))=false:=by rw[I.ok.kind];rfl
 have u:=I.cne;refine wpAny_nameGoes_keeps f J t λS v C g=>?_;obtain⟨oL,_,_,T,_⟩:=id J;have D:∀b o,X.s₀.heap.get? b=some o->b≠X.env.locals:=λb o e=>BB (BI (AG e) I.ok.above);have a:NP X.prog X.w H S:=λb U e=>by
  refine(I.hok b U e).stay (λc K hc q=>(g.2 c ?_).trans q) (λ_ q=>q) λ_ _ q=>q;rintro rfl;rcases hc with rfl | hc
  .rw[I.free]at e;cases e
  .rw[I.free]at hc;cases hc
 refine h _ ⟨I.ok,I.os,I.bare,⟨λb o e n F f=>?_,λb o e n F f=>?_,I.base.free,λb o e f=>?_,I.base.tups,I.base.frzs,I.base.tbls⟩,⟨_,C,λj y V l r W=>?_⟩,λy c e=>?_,I.free,I.freeC,λp Y=>?_,a,by simpa using I.len⟩
 .exact(g.2 b (D b o e)).trans (I.base.keep b o e n F f)
 .obtain⟨Z,l⟩:=I.base.slot b o e n F f;exact⟨Z,(g.2 b (D b o e)).trans l⟩
 .obtain⟨o',l⟩:=I.base.there b o e f;exact⟨o',(g.2 b (D b o e)).trans l⟩
 .have L:j≠i:=λz=>by
   rw[z,List.getElem?_set]at r;split at r
   .split at r<;>cases r
   .rename_i q;exact q rfl
  rw[GR (Ne.symm L)]at r;obtain⟨u',r',q⟩:=R j y V l r W;refine⟨u',r',?_⟩;rcases q with⟨k,e⟩ | ⟨k,c,e,z⟩
  .refine .inl ⟨k,?_⟩;have:y≠x:=λe=>L (Gr P l (e▸hi));simp[this,e]
  .exact .inr ⟨k,c,e,z.sameBut g (u y c e)⟩
 .obtain⟨K,z⟩:=I.cell y c e;exact⟨K,z.sameBut g (u y c e)⟩
 .obtain⟨e,n,O,nf,d⟩:=I.pin p Y;exact⟨(g.2 p.1 O).trans e,n,O,nf,d⟩
end
section
variable{M:Model}{A:IM}{E:A2->A4->Prop}{h:IP}{g:IG GenState}{dn:Drawn}{tk:Nat}{os:OsState}
variable{nm q nm' q':Str}{C N S N':A3}{bs bm bs' bm':A0 A2}{hdct hdct':Bool}{sn sn':A0 Str}{sub sub':A0 A2}{ab ab':Bool}{col col':A5 Bool}{dd dd':A5 A3}{k0 k1 k2 k3 k5 j0 j1 j2 j3 j5:A5 A2}{newId newId':String}
theorem zJm{e:A3}{c:Obj}{Q:Bool->A4->Prop}(d:h.get? C=some (excClassObj nm q C N bs bm hdct sn sub ab col dd k0 k1 k2 k3 k5 newId))(i:h.get? S=some (excClassObj nm' q' S N' bs' bm' hdct' sn' sub' ab' col' dd' j0 j1 j2 j3 j5 newId'))(j:h.get? e=some c)(a:c.cls = .ref C)
  (k:bm'.contains (.type "BaseException")=true) (l:(Value.ref C::bm).contains (.ref S)=true) (m:Q true ⟨h,g,dn,tk,os⟩):wpAny M A (excMatches (.ref e) (.ref S)) Q E ⟨h,g,dn,tk,os⟩:=by
 have b:(Value.ref S::bm').contains (.type "BaseException")=true:=by rw[List.contains_cons,k,Bool.or_true]
 have f:=tc_notTuple;unfold excMatches
 repeat (first | (with_reducible refine EH j ?_;rw[a]) | with_reducible refine EH i ?_ | with_reducible refine EH d ?_ | (with_reducible refine HG i ?_;rw[b]) | (with_reducible refine HG d ?_;rw[l]) | wp_step)
 exact m
end
abbrev Xm(X:Cx)(a:A2):Cx:={ X with A:=X.A.mark (some a),calm:=false }
section
variable{X:Cx}{pins:A0 (A3×Obj)}{σ:St}{H:Hp}{s:A4}{ev:A2}
theorem Inv.mark(I:Inv X pins σ H s)(ev:A2):Inv (Xm X ev) pins σ H s :=
 ⟨⟨I.ok.mod,I.ok.kind,I.ok.glob,I.ok.blt,I.ok.above,I.ok.inj,I.ok.has,I.ok.cab,λz=>absurd z (by simp),I.ok.frames,I.ok.stk,I.ok.exf,I.ok.bs,I.ok.bsz,I.ok.noex,I.ok.exfs,I.ok.funs,I.ok.frf⟩,I.os,I.bare,I.base,I.loc,I.cell,I.free,I.freeC,I.pin,I.hok,I.len⟩
theorem Inv.unmark(a:X.Ok)(I:Inv (Xm X ev) pins σ H s):Inv X pins σ H s:=⟨a,I.os,I.bare,I.base,I.loc,I.cell,I.free,I.freeC,I.pin,I.hok,I.len⟩
end
def Dh(i:Nat)(D:Ends):Ends:={ nx:=λσ H=>D.nx (σ.set i none) H,rt:=D.rt,bk:=λσ H=>D.bk (σ.set i none) H,ct:=λσ H=>D.ct (σ.set i none) H }
structure XG(K:VA)(C:A3):Prop where
 ga:PySem.W.findIn K (.ref C) "__getattribute__" = some (some (.builtin "BaseException.__getattribute__"))
 gn:PySem.W.findIn K (.ref C) "__getattr__" = some none
 mb:PySem.W.mroIn K C (.type "BaseException")=some true
 hd:PySem.W.hasDictIn K C=true
section
variable{prog:IE}{w:IJ}{A:IM}{E:A2->A4->Prop}{s:A4}{K:VA}{x C:A3}{ox:Obj}{od:A5 Obj}{name:Str}
theorem Rr{M:Model}{a:A2}{Q:Unit->A4->Prop}(X:K.In s.heap)(I:PySem.W.InstAt s.heap x ox C od)(c:XG K C)(j:Q () s):wpAny M A (checkBuiltinCall "BaseException.__getattribute__" ⟨[.ref x,a],[]⟩) Q E s:=by
 have e:builtinKind "BaseException.__getattribute__" = some .slot:=by decide +kernel
 have b:splitId "BaseException.__getattribute__" = some ("BaseException", "__getattribute__"):=by decide +kernel
 have k:=PySem.F.args_bexc_ga (.ref x) a;have f:=I.type (M:=M);have i:=PySem.W.looks_mroIn (M:=M) X c.mb;obtain⟨h,g,d,t,os⟩:=s;simp only[checkBuiltinCall,e,b];refine AA ?_;unfold isInstance;refine AA (f.at (i.at ?_))
 repeat (any_goals (first | assumption | wp_step))
theorem Qs{b:Tok}{R:Result->A4->Prop}(X:K.In s.heap)(I:PySem.W.InstAt s.heap x ox C od)(c:XG K C)
  (h:wpAny (model prog w) A.in1 (Builtin.«object.__getattribute__» ⟨[.ref x,.str name b],[]⟩) (λfin a=>match fin with | .done f=>R (.ok f) a | .again d=>d.quiet=true/\codeAny (model prog w) A d R a) (λe a=>R (.error e) a) s) :
  codeAny (model prog w) A (.call (.builtin "BaseException.__getattribute__") ⟨[.ref x,.str name b],[]⟩) R s :=
 codeAny_call_builtin PySem.F.attrBase_ValueError.ga.plain PySem.F.entry_bexc_ga (Rr X I c h)
theorem zAo{i:Tok}{fill a:Bool}{Q:A2->A4->Prop}(X:K.In s.heap)(I:PySem.W.InstAt s.heap x ox C od)(c:XG K C)
  (h:codeAny (model prog w) A (.call (.builtin "BaseException.__getattribute__") ⟨[.ref x,.str name i],[]⟩) (λr j=>match r with | .ok (.ret v)=>wpAny (model prog w) A (handedOut v) Q E j | _=>False) s) :
  wpAny (model prog w) A (getAttrBy (.ref x) (.str name i) fill a) Q E s:=by
 have k:=I.type (M:=model prog w);have l:=PySem.W.looks_findIn (M:=model prog w) X c.ga;have L2:=PySem.W.looks_findIn (M:=model prog w) X c.gn;have m:=PySem.F.attrBase_ValueError.ga.bind (.ref x);have b:(a&&onTheHeap (Value.builtin "BaseException.__getattribute__"))=false:=by cases a<;>rfl
 obtain⟨n,g,d,t,os⟩:=s;unfold getAttrBy;refine BN (AA (k.at (AA (l.at ?_))));show wpAny _ _ (getAttrByItsOwn _ _ _ _ _ _) _ _ _;unfold getAttrByItsOwn;refine AA ?_;unfold hookBefore;rw[AO (show onTheHeap (Value.ref C)=true from rfl)];refine L2.at ?_;unfold callGetattribute;rw[b,AI (by decide)];unfold boundAndCalled;refine AA (FD (BN ?_));rw[m];refine AA (AC ?_);refine HN (FC h λr j z=>?_);cases r with
 | error e=>exact VB z
 | ok f =>
  cases f with
  | ret v=>exact z
  | next=>exact VB z
  | brk=>exact VB z
  | cont=>exact VB z
end
def NT{K:VA}{nm q:Str}{C N:A3}{bs bm:A0 A2}{hdct:Bool}{sn:A0 Str}{sub:A0 A2}{ab:Bool}{col:A5 Bool}{dd:A5 A3}{k0 k1 k2 k3 k5:A5 A2}
  (l:K.lookup C=some (excClassObj nm q C N bs bm hdct sn sub ab col dd k0 k1 k2 k3 k5 "ValueError.__new__")) (t:PySem.W.tailIn K [.type "ValueError",.type "Exception",.type "BaseException",.type "object"] bm=true) (k:PySem.W.keepIn K (.ref C)=true)
  (s:PySem.W.findIn K (.ref C) "__setattr__" = some (some (.builtin "object.__setattr__"))) (d:PySem.W.hasDictIn K C=true):XC K C bm:=⟨⟨_,_,_,_,_,_,_,_,_,_,_,_,_,_,_,l⟩,t,k,s,d⟩
section
variable{X:Cx}{E:XK}
theorem Hc:bootBuiltins "ValueError" = some (.type "ValueError"):=by decide +kernel
end
section
variable{prog:IE}{w:IJ}{A:IM}{E:A2->A4->Prop}{h:IP}{g:IG GenState}{d:Drawn}{t:Nat}{os:OsState}
variable{nm q:Str}{C N:A3}{bs bm bmB:A0 A2}{hdct:Bool}{sn:A0 Str}{sub:A0 A2}{ab:Bool}{col:A5 Bool}{dd:A5 A3}{k0 k1 k2 k3 k5:A5 A2}{B newId initId:String}
theorem Tm{K:VA}{a:A0 A2}{Q:Fin->A4->Prop}(F:ExcBaseFacts B newId initId bmB)(T:OwnTail h bmB bm)(X:K.In h)
  (f:h.get? C=some (excClassObj nm q C N bs bm hdct sn sub ab col dd k0 k1 k2 k3 k5 newId)) (hi:PySem.W.findIn K (.ref C) "__init__" = some (some (.builtin initId)))
  (i:a.length<=sizeLine) (r:∀h',(∀b o,h.get? b=some o->h'.get? b=some o)->(∃tt,h'.get? (h.objs.size+1)=some { cls:=.ref C,data:=.fields #[.ref tt,.none,.none,.none,.bool false,.none] })->Q (.done (.ret (.ref (h.objs.size+1)))) ⟨h',g,d,t,os⟩) :
  wpAny (model prog w) A (Builtin.«type.__call__» ⟨.ref C::a,[]⟩) Q E ⟨h,g,d,t,os⟩:=by
 have m:∀b o,h.get? b=some o->(LQ h C a).get? b=some o:=λb o e=>AD _ (AD _ e);have f₁:(LQ h C a).get? C=some (excClassObj nm q C N bs bm hdct sn sub ab col dd k0 k1 k2 k3 k5 newId):=m _ _ f;have c:(LQ h C a).get? (h.objs.size+1)=some (SW C h.objs.size):=by unfold LQ;heap_get
 have n:(Value.ref C::bm).contains (.ref C)=true:=by simp
 have X₁:K.In (LQ h C a):=X.keeps m;have T₁:=T.keeps m
 repeat (first | with_reducible refine EH f ?_ | with_reducible refine wpAny_madeBy_exc f ?_ | wp_step)
 refine codeAny_call_builtin_code (Code.quiet_builtin _ F.quiet) (wpAny_check_new_subT F T f (codeAny_exc_new_subT F T f ?_ i));show wpAny _ _ _ _ _ ⟨LQ h C a,g,d,t,os⟩;have p:∀j,(∀b o,(LQ h C a).get? b=some o->b≠h.objs.size+1->j.get? b=some o)->(∃tt,j.get? (h.objs.size+1)=some { cls:=.ref C,data:=.fields #[.ref tt,.none,.none,.none,.bool false,.none] }) ->
   Q (.done (.ret (.ref (h.objs.size+1)))) ⟨j,g,d,t,os⟩:=λj k u=>r j (λb o e=>k b o (m b o e) (λz=>by rw[z]at e;exact absurd (AG e) (Nat.not_lt.mpr (DC _)))) u
 have l:(LQ h C a).objs.size=h.objs.size+2:=by unfold LQ;simp only[CO]
 generalize LQ h C a=v at f₁ c X₁ T₁ p l⊢;unfold isInstance
 repeat (first | with_reducible refine EH c ?_ | (with_reducible refine HG f₁ ?_;rw[n]) | wp_step)
 show wpAny _ _ (typeLookup (.ref C) _) _ _ _;refine PySem.W.Looks.here (s:=⟨v,g,d,t,os⟩) (PySem.W.looks_findIn X₁ hi) ?_;refine BN (AA (EB (F.init.bind _) ?_));refine AA (HN (codeAny_call_builtin F.init.plain F.initEntry (wpAny_check_init_subT F T₁ f₁ c rfl ?_)));wp_walk;refine p _ (λb o e x=>?_) ⟨h.objs.size+2,?_⟩
 .rw[BF _ _ (Ne.symm x)];exact AD _ e
 .rw[BW _ (AD _ c) rfl,l];rfl
theorem Sy{K:VA}{a:A0 A2}{Q:A2->A4->Prop}(F:ExcBaseFacts B newId initId bmB)(T:OwnTail h bmB bm)(X:K.In h)
  (e:h.get? C=some (excClassObj nm q C N bs bm hdct sn sub ab col dd k0 k1 k2 k3 k5 newId)) (hi:PySem.W.findIn K (.ref C) "__init__" = some (some (.builtin initId)))
  (c:a.length<=sizeLine) (f:∀h',(∀b o,h.get? b=some o->h'.get? b=some o)->(∃tt,h'.get? (h.objs.size+1)=some { cls:=.ref C,data:=.fields #[.ref tt,.none,.none,.none,.bool false,.none] })->Q (.ref (h.objs.size+1)) ⟨h',g,d,t,os⟩) :
  wpAny (model prog w) A (call (.ref C) a) Q E ⟨h,g,d,t,os⟩:=by
 have i:=tc_lookup;have j:=tc_bind (.ref C);have k:(⟨h,g,d,t,os⟩:A4).TypeIs (.ref C) "type":=⟨_,e,rfl⟩;refine HN (codeAny_of_tree ?_);show wpAny _ _ (callAny (.ref C) _) _ _ _
 repeat (any_goals (first | assumption | with_reducible refine EH e ?_ | wp_step))
 refine⟨rfl,?_⟩;exact codeAny_call_builtin_at (Code.quiet_builtin _ (by decide +kernel)) entry_typeCall (wpAny_check_type_call_sub e (Tm F T X e hi c f))
end
def Zh(K:VA)(C:A3):Prop:=PySem.W.findIn K (.ref C) "__init__" = some (some (.builtin "ValueError.__init__"))
section
variable{X:Cx}{pins:A0 (A3×Obj)}{σ:St}{H:Hp}{s:A4}{C:A3}{bm:A0 A2}{E:A2->A4->Prop}
theorem Vt{us:A0 A2}{Q:A2->A4->Prop}(c:XC X.K C bm)(f:Zh X.K C)(I:Inv X pins σ H s)(b:us.length<=sizeLine)(h:∀x d,H x=none->X.s₀.heap.objs.size<=x->Inv X pins σ (II H x (XN x C none)) d->Q (.ref x) d) :
  wpAny (model X.prog X.w) X.A (call (.ref C) us) Q E s:=by
 obtain⟨n,q,N,o,e,p,sub,r,i,t,u,v,y,z,B,a⟩:=c.obj;have j:=I.sz;obtain⟨D,g,G,k,os⟩:=s;refine Sy PySem.F.excBase_ValueError (PySem.W.tail_of_in I.kIn c.tail) I.kIn (I.kIn _ _ a) f b λJ l ⟨tt,m⟩=>?_;exact h _ _ (I.hok.fresh (DC _)) (VE j (DC _)) (I.laid (t':=k) l (DC _) (XN.ok m rfl))
end
def zAf(C:A3)(E:XK)(t:TA):TS:=λ_ σ H=>t σ H λb a=>b.length<=sizeLine/\∀x,a x=none->E (.ref C) none (II a x (XO x C none))
section
variable{X:Cx}{C f:A3}{fd:I7}{ps:A0 Str}{sp:Sp}{E:XK}{bm:A0 A2}{k:Nat}{n:Str}{p pos cpos:Pos}{e:IQ}{es:A0 IQ}{t:TA}
theorem Uf(b:BX X E)(c:XC X.K C bm)(m:Zh X.K C)(o:Gl X n)(u:X.mg n=some (.ref C))(w:PA X (e::es) t)
  (g:(n ==("__debug__":Str))=false:=by decide) (y:starEach (e::es) X.env =(false,eval e X.env)::starEach es X.env:=by rfl) (i:(backTo cpos (starEach es X.env)).any (·.1)=false:=by rfl) :
  PS X (.Raise (some (.Call (.Name n p) (e::es) [] cpos)) none pos) (zAf C E t):=by
 intro a s σ H D I h;obtain⟨nm,q,N,bs,hdct,sn,sub,ab,col,dd,k0,k1,k2,k3,k5,f⟩:=c.obj;have B:X.A.handled=none:=I.ok.hd b.calm;rw[arm_exec_Raise];refine AA (EC (Um (C:=C) (nm:=nm) (q:=q) (N:=N) (bs:=bs) (bm:=bm) (hdct:=hdct) (sn:=sn) (sub:=sub) (ab:=ab) (col:=col) (dd:=dd) (k0:=k0) (k1:=k1) (k2:=k2) (k3:=k3) (k5:=k5) (newId := "ValueError.__new__") (c.base I.kIn) B (AA (BS ?_ (λv s₃ h₃=>AA (EC (AC h₃))) λ_ _ x=>x))));refine FH (Cz I o u ?_ g);refine PySem.W.callWith_K (h₀:=X.base) I.ok.mod.kin c.kp (JK (w cpos a s σ H _ I h) λus P ⟨Q,R,k,r,F,q⟩=>⟨k.kIn,?_⟩) y i;refine Vt (us:=us) c m k (by rw[<-r.length];exact F) λx S G J l=>?_;obtain⟨j,L,M,O,z⟩:=b.made (d:=none) l A7 J (by rw[zBv];exact q x G);exact⟨_,none,j,L,rfl,l.kIn _ _ f,M,O,z⟩
end
section
variable{prog:IE}{w:IJ}{A:IM}{E:A2->A4->Prop}{s:A4}{K:VA}{x C:A3}{ox:Obj}{od:A5 Obj}
theorem Li{Q:A5 A2->A4->Prop}(X:K.In s.heap)(I:PySem.W.InstAt s.heap x ox C od)(c:XG K C)(i:TR K C)(h:Q (some (.ref C)) { s with toks:=s.toks+1 }):wpAny (model prog w) A (getAttr? (.ref x) "__class__") Q E s:=by
 have a:PySem.W.findObj K C od "__class__" = some (.bind (.builtin "getset_descriptor.__get__") (.builtin "object.__class__")):=by
  obtain⟨j,b,_⟩:=PySem.W.any_some c.hd;unfold PySem.W.findObj;rw[b,Option.bind_some,i.ha,Option.bind_some];simp[i.hn,i.htk]
 unfold getAttr? getAttrBy?;refine AA (wpAny_mkText (AA (FD (zAo (s:={ s with toks:=s.toks+1 }) X I c (Qs (s:={ s with toks:=s.toks+1 }) X I c ?_)))));have e:=I.type (M:=model prog w);have f:=PySem.W.looks_find (M:=model prog w) X I a;obtain⟨k,g,d,t,os⟩:=s;refine AA (AC (AA (AC (AA (e.at (AA (f.at ?_)))))));dsimp only;unfold Builtin.ObjectAttr.bindTo;dsimp only;refine AA (BN (HN (PySem.W.class_get X I i.hm ?_)));exact AC (PySem.W.handed_on rfl (AC h))
end
def Tn{K:VA}{x C:A3}(c:XG K C)(i:TR K C):PySem.W.KitX K (.ref x) (.ref C) (λh=>∃l m,PySem.W.InstAt h x l C m) where
 ty:=λ_ _ _ ⟨_,_,I⟩=>I.type
 it:=λ_ _ X _=>by
  obtain⟨b,a,_⟩:=PySem.W.any_some c.hd;unfold PySem.W.clsIn at a;split at a
  .rename_i o p d f g;intro t u v w k q;unfold isType loadHead;exact AA (wpAny_loadPart (k _ _ (X _ _ g)) (AC q))
  .cases a
 ne:=λh r y s n A X j=>by
  obtain⟨b,a,_⟩:=PySem.W.any_some c.hd;refine ED.mpr λq=>?_;have e:C=r:=Value.ref.inj (beq_iff_eq.mp q);subst e;unfold PySem.W.clsIn at a;split at a
  .rename_i o p d f g;have z:=(X _ _ g).symm.trans j;cases z
  .cases a
 ca:=λX ⟨_,_,I⟩ k=>Li X I c i k
section
variable{X:Cx}{pins:A0 (A3×Obj)}{σ:St}{H:Hp}{s:A4}{x C:A3}
theorem Xl(I:Inv X pins σ H s)(e:H x=some (XO x C none)):∃b c,PySem.W.InstAt s.heap x b C c:=by
 obtain⟨o,a,d,f,g,h⟩:∃o a,s.heap.get? x=some o/\o.cls = .ref C/\o.dict=none/\o.data = .fields a:=(I.hok x _ e).1;exact⟨o,none,⟨d,f,by unfold PySem.W.notCls;rw[h],by rw[g];trivial⟩⟩
end
def zEj(K:VA)(a:V->A5 A2):A0 V->Hp->VK->Prop:=λd H Q=>∃x C y c b,d = [.ref x,y]/\a y=some c/\H x=some (XO x C none)/\XG K C/\TR K C/\PySem.W.kitOne K (.ref C) c=some b/\Q (.bl b) H
def T4{X:Cx}(K:VA)(j:X.K=K:=by rfl):N0 X (.builtin "isinstance") (zEj K λy=>match y with | .ref a=>some (.ref a) | .ty n=>some (.type n) | _=>none):=by
 subst j;intro e s σ H w A Q I r h;obtain⟨x,C,y,c,b,rfl,d,k,g,i,l,q⟩:=h;obtain⟨u,v,rfl,m,f⟩:=r.two;cases(show u=Value.ref x from m);have o:v=c:=by
  cases y with
  | ref a=>cases d;exact f
  | ty n=>cases d;cases f;rfl
  | _=>cases d
 subst o;obtain⟨p,t,J⟩:=Xl I k;exact VQ (Tn g i) I.kIn ⟨p,t,J⟩ l (λz=>nomatch z) λB=>⟨.bl b,H,I.tok _,rfl,q⟩
def zFb(K:VA):V->A0 V->Hp->VK->Prop:=λx b H Q=>∃l y a,x = .ref l/\b = [y]/\IR K H l a/\Ac y=true/\a.all Ac=true/\Q (.int (a.countP λz=>RE z y:Nat)) H
def Er{x:V}:∀{xs:A0 V} {us:A0 A2},IT xs us->xs.all Ac=true->us.countP (PJ x)=xs.countP λy=>RE y x
 | _,_,.nil,_=>rfl
 | y::xs,u::us,.cons r t,f=>by
  rw[IB,C_]at f;rw[List.countP_cons,List.countP_cons,Mm r f.1,Er t f.2]
def Vx{X:Cx}(K:VA)(j:X.K=K:=by rfl):QH X "list.count" (zFb K):=by
 subst j;intro c s σ H x G v J Q I k m h;obtain⟨l,y,L,rfl,rfl,p,t,d,q⟩:=h;cases k;obtain⟨u,rfl,w⟩:=m.one;obtain⟨a,r,⟨o,n,e,f,A,b⟩,g⟩:=I.list p;obtain⟨B,C,i,D⟩:=o;simp only at f A b;subst f b;have E:=PySem.SeqAt.list_countAt l a.toArray n C D u (PJ y);refine call_meets F.slot_list_count ⟨_,e,rfl⟩ F.entry_list_count (F.args_list_count_2 _ _) E ⟨e,λz g=>Y4 w t r d z (by simpa using g),?_⟩;exact⟨.int (a.countP (PJ y):Nat),H,I.tok _,⟨_,rfl⟩,by rw[Er r d];exact q⟩
section
variable{X:Cx}{k:Nat}{f C:A3}{fd:I7}{ps:A0 Str}{sp:Sp}{x m:Str}{p pos apos:Pos}{e o:IQ}{es:A0 IQ}{ta:TE}{t:TA}
theorem zBl{a:A0 (A3×Obj)}{σ:St}{H:Hp}{s:A4}{Q:VK}{E:XK}{us:A0 A2}{vs:A0 V}(F:IU X.prog X.w X.K X.mg X.base (QV X.prog X.w) k f fd ps sp)(j:KD k X.A)(l:Binds X.K fd ps [])
  (I:Inv X a σ H s) (r:IT vs us) (h:sp vs H Q E):wpAny (model X.prog X.w) X.A (call (.ref f) us) (EP X a σ Q) (λm c=>∃d g,Inv X a σ g d/\QV X.prog X.w X.stack g d E m c) s:=by
 have n:us.length=ps.length:=by rw[<-r.length];exact F.len _ _ _ _ h
 have i:=l s us I.kIn (by rw[CC];exact n);rw[CC]at i;refine HN (FC (F.run X.A X.stack s H ⟨us,[]⟩ us vs Q E j I.env0 i r h) λr c b=>?_);cases r with
 | error e=>exact⟨_,_,I,b⟩
 | ok o =>
  cases o with
  | ret u=>exact I.after b
  | next=>exact VB b
  | brk=>exact VB b
  | cont=>exact VB b
theorem m9{pl:Sem Bool}(d:∀e s,¬X.xe e s)(y:PE X o ta)(c:RP X.K C)(j:RA X.K C m f)(F:IU X.prog X.w X.K X.mg X.base (QV X.prog X.w) k f fd ps sp)(B:KD k X.A)(D:Binds X.K fd ps [])(G:PA X (e::es) t)
  (g:starEach (e::es) X.env =(false,eval e X.env)::starEach es X.env:=by rfl) (i:(backTo pos (starEach es X.env)).any (·.1)=false:=by rfl)
  (J:eval (.Call (.Attribute o m apos) (e::es) [] pos) X.env =(do
   let n <-eval o X.env
   standAt apos.atName
   let(f,first) <-holding [n] (getMethod n m pl)
   callWith pos f first (backTo pos (starEach (e::es) X.env)) (backToKw pos (keywordEach [] X.env))):=by rfl) :
  PEx X (.Call (.Attribute o m apos) (e::es) [] pos) (λE=>Rj C m sp [] E ta t):=by
 intro b s σ H Q E I h;refine PySem.W.methodCall_KW (pl:=pl) (BS (y b s σ H _ I h) (λu L ⟨x,M,p,N,a,S,T,O,P,l,q⟩=>?_) λ_ _ z=>(d _ _ z).elim) J;subst O;obtain rfl:u=Value.ref a:=N;refine Bf p P c j l ?_;refine PySem.W.callWith_K (first:=[.ref a]) (h₀:=X.base) I.ok.mod.kin j.kp (BS (G pos b L σ M _ p q) (λus U ⟨vs,Y,v,r,R⟩=>⟨v.kIn,?_⟩) λ_ _ z=>(d _ _ z).elim) g i;refine zBl (us:=.ref a::us) (vs:=.ref a::vs) F B D v (.cons rfl r) ?_;rw[<-CC (V.ref a::vs)];exact R
end
def UF(X:Cx)(st:A0 IY)(t:XK->TS):Prop:=∀(a:A0 (A3×Obj)) (s:A4) (σ:St) (H:Hp) (D:Ends) (E:XK),Inv X a σ H s->t E D σ H ->
 wpAny (model X.prog X.w) X.A (execs st X.env) (SP X a D) (λd e=>∃b c,Inv X a σ c b/\QV X.prog X.w X.stack c b E d e) s
section
variable{X:Cx}{c e:IQ}{pos p1:Pos}{a b:A0 IY}
theorem Mu{t:XK->TE}(b:PEx X e t)(c:swapsWith e none p1.line X.env=pure false:=by rfl):UF X [.Expr e p1] (λE=>zEt (t E)):=by
 intro a s σ H D E I h;refine GT (wpAny_Expr_any (BS (b a s σ H _ E I h) (λv g ⟨y,d,f,r,q⟩=>?_) λ_ _ z=>z) I.quiet c);exact EJ ⟨σ,d,f,q⟩
theorem Mv{k:TT}{t u:XK->TS}(j:∀e s,¬X.xe e s)(p:PT X c k)(q:UF X a t)(r:UF X b u):UF X [.If c a b pos] (λE=>zIl k (t E) (u E)):=by
 intro f s σ H D E I h;refine GT (wpAny_If (BS (p f s σ H _ I h) (λd l ⟨m,n,o⟩=>?_) λ_ _ z=>(j _ _ z).elim));have v:∀g i,SP X f D g i->_:=λg i z=>z;cases d with
 | true =>
  refine BS (q f l σ m D E n o) (λg w z=>?_) λx i z=>?_
  .cases g with
   | next=>exact EJ z
   | brk=>exact z
   | cont=>exact z
   | ret u=>exact z
  .exact z
 | false =>
  refine BS (r f l σ m D E n o) (λg w z=>?_) λx i z=>?_
  .cases g with
   | next=>exact EJ z
   | brk=>exact z
   | cont=>exact z
   | ret u=>exact z
  .exact z
end
def zHi(K:VA)(S:A3)(i:Nat)(t:XK->TS)(c:TS):TS:=λD σ H =>
 t (λe d a=>∃C b,e = .ref C/\XC K C b/\(Value.ref C::b).contains (.ref S)=true/\∀x,a x=some (XO x C d)->c (Dh i D) (σ.set i (some (.ref x))) a) D σ H
def Va{X:Cx}{S:A3}{T:A0 A2}{i:Nat}{n c:Str}{cp hp U:Pos}{b₀:IY}{P j:A0 IY}{t:XK->TS}{th:TS}(V:∀e s,¬X.xe e s)(st:X.stack=X.env::X.outer)(fr:X.env.frame=some X.env.locals)(E:X.N.Nodup)(hi:X.N[i]?=some n)(a:X.env.scope.names.lookup n=some .local)
  (hg:Gl X c) (hm:X.mg c=some (.ref S)) (cS:XC X.K S T) (he:UF X P t) (hh:∀ev,QA (Xm X ev) (b₀::j) th) (W:(c ==("__debug__":Str))=false:=by decide) :
  PS X (.Try P [.ExceptHandler (some (.Name c cp)) (some n) (b₀::j) hp] [] [] U) (zHi X.K S i t th):=by
 intro g s σ H D I h;refine wpAny_Try_except ?_;refine BS (he g s σ H _ _ I h) (λfl s1 z=>?_) λev s' z=>?_
 .cases fl with
  | next=>exact EJ z
  | brk=>exact z
  | cont=>exact z
  | ret u=>exact z
 obtain⟨s1,H1,F,x,C,d,G,rfl,os,k,un,J,hx,nx,P,C',bm,ec,cC,L,q⟩:=z;cases ec;have Y:Inv X g σ G s':=F.call' os un J k (λb z=>absurd z (by simp));have r:RX X.prog X.w X.base X.stack X.env X.outer H1 s1 x C d G s':=⟨os,k,un,J,VE F.ok.bsz F.sz,Y.bs,by have:=Y.stack;rw[st]at this;exact this,by have:=Y.stkFree;rw[st]at this;exact this,⟨_,fr⟩,λb o _ M=>by rw[st]at M;exact M,λb M=>by rw[st]at M;exact M,hx,nx,P.fl⟩;have Z:X.A.frames=some (X.env::X.outer):=by rw[I.ok.frames,st]
 refine r.note Z λh' r' t'=>r'.flight λh2 l _=>?_;have Q:Inv X g σ G { s' with heap:=h2 }:=F.call' l.os l.un l.hok l.bare (λb z=>absurd z (by simp));refine wpAny_handleBy_cons (codeAny_handlers_test ?_) (by intro q;cases q);refine Cz (Q.mark (.ref x)) hg hm ?_ W;obtain⟨nm,q1,N,bs,hdct,sn,sub,ab,col,dd,k0,k1,k2,k3,k5,O⟩:=cC.obj;obtain⟨nm',q1',N',bs',hdct',sn',sub',ab',col',dd',j0,j1,j2,j3,j5,m⟩:=cS.obj;obtain⟨ox,vx,ex,hcx,_⟩:∃o vs,h2.get? x=some o/\o.cls = .ref C/\o.dict=d/\o.data = .fields vs:=(l.hok x _ l.hx).1;refine zJm (Q.kIn _ _ O) (Q.kIn _ _ m) ex hcx (cS.base Q.kIn) L ?_;refine codeAny_handlers_suite_as (l.flight λh4 R _=>?_);have I4:Inv X g σ G { s' with heap:=h4 }:=F.call' R.os R.un R.hok R.bare (λb z=>absurd z (by simp));refine Y0 I4 E hi (.inl a) (v:=.ref x) rfl (λs5 I5=>?_) (.inr a);refine BS (hh (.ref x) g s5 _ G (Dh i D) (I5.mark _) (q x hx)) (λf s6 z=>?_) λ_ _ z=>(V _ _ z).elim;cases f with
 | next =>
  obtain⟨σ',H6,p,y⟩:=z;exact Af (p.unmark I.ok) E hi a λs7 B=>⟨_,_,B,y⟩
 | brk =>
  obtain⟨σ',H6,p,y⟩:=z;exact Af (p.unmark I.ok) E hi a λs7 B=>⟨_,_,B,y⟩
 | cont =>
  obtain⟨σ',H6,p,y⟩:=z;exact Af (p.unmark I.ok) E hi a λs7 B=>⟨_,_,B,y⟩
 | ret u =>
  obtain⟨v,σ',H6,p,r6,y⟩:=z;exact Af (p.unmark I.ok) E hi a λs7 B=>⟨v,_,_,B,r6,y⟩
def KV.atV{kvs:A0 (JB×V)}{vs:A0 (JB×A2)}(h:KV kvs vs):∀{i:Nat} {k:JB} {v:V},kvs[i]?=some (k,v)->∃u,vs[i]?=some (k,u)/\RelV v u:=by
 induction h with
 | nil=>intro i k v e;rw[List.getElem?_nil]at e;cases e
 | cons r _ c =>
  intro i k v e;cases i with
  | zero =>
   rw[List.getElem?_cons_zero]at e⊢;cases e;obtain⟨a,b⟩:=r;exact⟨_,by rw[show k=_ from a],b⟩
  | succ i=>exact c e
section
variable{X:Cx}{i:Nat}{x:Str}{e:IQ}{pos pos':Pos}
theorem Go{t:XK->TE}(b:X.N.Nodup)(hi:X.N[i]?=some x)(c:Loc X.env.scope x)(d:PEx X e t)(f:swapsWith e (some (.Name x pos')) pos.line X.env=pure false:=by rfl)(g:X.fn x=true\/X.env.scope.names.lookup x=some .local:=by first | exact .inl rfl | exact .inr rfl | assumption) :
  UF X [.Assign [.Name x pos'] e pos] (λE=>TZ (t E) (Q4 i)):=by
 intro a s σ H D E I h;refine GT (wpAny_Assign_Name (BS (d a s σ H _ E I h) (λv o ⟨y,j,k,l,m⟩=>?_) λ_ _ z=>z) f);exact Y0 k b hi c l (λp n=>EJ ⟨_,j,n,m⟩) g
end
end L2
namespace TS
open PySem
section
variable{prog:IE}{w:IJ}{K:Type}[DecidableEq K]{knd:KeyKind prog w K}{A:IM}{E:A2->A4->Prop}{s:A4}
theorem Tf{d:A3}{kvs:A0 (K×A2)}{Q:Bool->A4->Prop}(e:s.heap.DictOf knd d kvs)(h:Q false s):wpAny (model prog w) A (Builtin.List.listLengthHint (.ref d)) Q E s:=by
 unfold Builtin.List.listLengthHint;refine AA (GE e.typeIs F.slot_dict_len.lookup ?_);generalize c:("dict.__len__":String)=f;wp_delta;rw[show splitId f=some ("dict", "__len__")from by subst c;decide +kernel];subst c;refine AA (FQ (T := "dict") (b:=true) e.typeIs (by rw[isSubtype_type];kernel_rfl) ?_);refine wpAny_ite_split (λa=>absurd a (by decide)) (λ_=>?_);refine wpAny_ite_split (λ_=>?_) (λa=>absurd (by decide +kernel) a);refine AA (FZ (T := "dict") e.typeIs ?_);exact AC h
def zCd(knd:KeyKind prog w K)(kvs:A0 (K×A2))(i:Nat)(v:A2):Prop:=∃k x,kvs[i]?=some (k,x)/\knd.is k v=true
theorem Lp{R:Result->A4->Prop}{d:A3}{kvs:A0 (K×A2)}{ep:Nat}(I:A.handled=none)(J:(d == sysModules)=false)(i:s.heap.DictAt knd d kvs ep)(D:kvs.length<=2^24)(S:A3)(res:A2)(c₀:Nat)(a:s.heap.get? S=some { cls:=.type "list",data:=.seq #[] c₀ })
  (L:∀h' u g n,(∀b o,b≠S->s.heap.get? b=some o->h'.get? b=some o)->h'.get? S=some { cls:=.type "list",dict:=none,data:=.seq g n,slots:=#[] } ->
   ItemsOf (zCd knd kvs) g kvs.length->R (.ok (.ret res)) { s with heap:=h',toks:=u }) :
  wpAny (model prog w) A.in1 (Builtin.List.listExtendWith (.ref S) (.ref d) res)
   (λfin l=>match fin with | .done f=>R (.ok f) l | .again n=>n.quiet=true/\codeAny (model prog w) A n R l) (λe l=>R (.error e) l) s:=by
 have E:=i.dictOf.typeIs;obtain⟨X,Y,v,M,_⟩:=id i;have j:S≠d:=λe=>by
  obtain⟨Z,G,N⟩:=E;rw[<-e,a]at G;cases G;exact absurd N (by intro z;injection z with z;revert z;decide)
 have x:d<s.heap.objs.size:=AG v;have p:S<s.heap.objs.size:=AG a;have m:S≠s.heap.objs.size:=BB p;have y:S∉[s.heap.objs.size,d]:=λi=>by
  rcases AV.mp i with e | e
  .exact m e
  .exact j (AE.mp e)
 have W:=(Walks.dictKeys (prog:=prog) (w:=w) (A:=A.in1) (knd:=knd) I s.heap.objs.size d (BB x) kvs ep).toS;have q:∀(h:IP) (r3 u:Nat),(h.IsKeyIter s.heap.objs.size d 0 kvs.length ep/\h.DictAt knd d kvs ep)->(∀b o,b≠S->s.heap.get? b=some o->h.get? b=some o) ->
   h.get? S=some { cls:=.type "list",data:=.seq #[] r3 }->codeAny (model prog w) A (.builtin "list.extend.loop" ⟨[.ref S,.ref s.heap.objs.size,res],[]⟩) R { s with heap:=h,toks:=u }:=by
  intro h r3 u k O a₁;refine codeAny_extend_loopS W (by rw[sizeLine_eq];lia) S y res kvs.length 0 _ #[] r3 rfl (BZ _) k a₁ (ItemsOf.nil _) λl g n i B r=>?_;rw[Moved.eq_with i];refine L l.heap l.toks g n (λb o t e=>i.heap b o (λhmem=>?_) (O b o t e)) B r;rcases AV.mp hmem with P | hmem
  .exact t P
  .exact absurd (AG e) (by rw[AE.mp hmem];exact DB _)
 unfold Builtin.List.listExtendWith;refine AA (FZ (T := "dict") E ?_);have Q:Builtin.List.listSameRef (.ref S) (.ref d)=false:=by simp[Builtin.List.listSameRef,j]
 have U:(Value.type "dict" == Value.type "list")=false:=by decide
 have V:(Value.type "dict" == Value.type "tuple")=false:=by decide
 simp only[Q,U,V,Bool.or_false,BD,CQ];refine AA (wpAny_pyIter_dict J i ?_);have C:∀H,(s.heap.push H).DictAt knd d kvs ep:=λH=>i.at' λo e=>AD _ e;refine AA (BN (Tf (knd:=knd) (kvs:=kvs) (C _).dictOf ?_));have k₁:(s.heap.push { cls:=.type "dict_keyiterator",data:=.fields #[.ref d,.int 0 0,.int kvs.length 0,.int ep 0] }).IsKeyIter s.heap.objs.size d 0 kvs.length ep:=⟨_,AY _ rfl,rfl,rfl⟩;have a₁:=AD { cls:=.type "dict_keyiterator",data:=.fields #[.ref d,.int 0 0,.int kvs.length 0,.int ep 0] } a;refine wpAny_ite_split (λ_=>?_) (λ_=>AC ⟨plainId_quiet F.plain_extend_loop _,q _ c₀ _ ⟨k₁,C _⟩ (λb o _ e=>AD _ e) a₁⟩);refine AA (DN ?_);refine AA ?_;show wpAny _ _ (updateSeq S (·.push .none) >>= λ_=>updateSeq S (·.pop)) _ _ _;refine AA (wpAny_updateSeq a₁ rfl ?_);have a₂:=BW (Obj.mapSeq (·.push Value.none)) a₁ rfl;refine wpAny_updateSeq (hz:=by seq_fits) a₂ rfl ?_;have a₃:=BW (Obj.mapSeq (·.pop)) a₂ rfl;refine AC ⟨plainId_quiet F.plain_extend_loop _,q _ _ _ ⟨k₁.at λo e=>?_,(C { cls:=.type "dict_keyiterator",data:=.fields #[.ref d,.int 0 0,.int kvs.length 0,.int ep 0] }).at' λo e=>?_⟩ (λb o t e=>?_) a₃⟩
 .exact(BF _ _ m).trans ((BF _ _ m).trans e)
 .exact(BF _ _ j).trans ((BF _ _ j).trans e)
 .exact(BF _ _ (Ne.symm t)).trans ((BF _ _ (Ne.symm t)).trans (AD _ e))
end
end TS
namespace L2
open PySem PySem.Spec PyProof.Rows
section
variable{X:Cx}
theorem Fa:∀{ss:A0 Str} {us:A0 A2},us.length=ss.length->(∀(i:Nat) (v:A2),us[i]?=some v->∃x t,ss[i]?=some x/\v = .str x t)->IT (ss.map V.str) us
 | [],[],_,_=>.nil
 | [],_::_,h,_=>by cases h
 | _::_,[],h,_=>by cases h
 | y::ss,u::us,h,a=>by
  obtain⟨x,t,e,rfl⟩:=a 0 u rfl;cases e;exact .cons ⟨t,rfl⟩ (Fa (by simpa using h) λi v b=>a (i+1) v b)
end
section
variable{P:IE}{w:IJ}{K:VA}{mg:Str->A5 A2}{base:IP}
theorem PL.o1{x a:Str}{st:IY}{f:A3}{g:I7}{N ps:A0 Str}{k:Nat}{sp:Sp}(F:PL K x a st f g)(S:IL N ps (B6 st))
  (b:∀(d:A2) (A:IM) (c:A0 QU) (s:A4) (H:Hp) (vs:A0 V) (Q:VK) (E:XK),KD k (A.deeper (envOfC a (B6 st) s.heap.objs.size f d))->sp vs H Q E ->
   ∃t,QA (Xi JW P w K mg base N a (B6 st) f d A c s H E).nox (T3 st) t/\t { nx:=λ_ H'=>Q .non H',rt:=Q } (Da N vs) H) (e:∀vs H Q E,sp vs H Q E->vs.length=ps.length:=by intro _ _ _ _ h;repeat first | (obtain⟨h,_⟩:=h;subst h;rfl) | (obtain⟨_,h⟩:=h)):IU P w K mg base JW (k+1) f g ps sp:=F.ok S e b
theorem PL.oE{x a:Str}{st:IY}{f:A3}{g:I7}{N ps:A0 Str}{k:Nat}{sp:Sp}(F:PL K x a st f g)(S:IL N ps (B6 st))
  (b:∀(d:A2) (A:IM) (c:A0 QU) (s:A4) (H:Hp) (vs:A0 V) (Q:VK) (E:XK),KD k (A.deeper (envOfC a (B6 st) s.heap.objs.size f d))->sp vs H Q E ->
   ∃t,QA (TJ P w K mg base N a (B6 st) f d A c s H E) (T3 st) t/\t { nx:=λ_ H'=>Q .non H',rt:=Q } (Da N vs) H) (e:∀vs H Q E,sp vs H Q E->vs.length=ps.length:=by intro _ _ _ _ h;repeat first | (obtain⟨h,_⟩:=h;subst h;rfl) | (obtain⟨_,h⟩:=h)):IU P w K mg base (QV P w) (k+1) f g ps sp:=F.okE S e b
end
end L2
namespace TS
open PySem
section
variable{prog:IE}{w:IJ}{K:Type}[DecidableEq K]{knd:KeyKind prog w K}{A:IM}{E:A2->A4->Prop}{s:A4}
theorem Vg{R:Result->A4->Prop}{d:A3}{kvs:A0 (K×A2)}{ep:Nat}(e:A.handled=none)(f:(d == sysModules)=false)(g:s.heap.DictAt knd d kvs ep)(c:kvs.length<=2^24)(S:A3)(h:s.heap.get? S=some { cls:=.type "list",data:=.seq #[] })
  (i:∀h' j a k,(∀b o,b≠S->s.heap.get? b=some o->h'.get? b=some o)->h'.get? S=some { cls:=.type "list",dict:=none,data:=.seq a k,slots:=#[] } ->
   ItemsOf (zCd knd kvs) a kvs.length->R (.ok (.ret (.ref S))) { s with heap:=h',toks:=j }):codeAny (model prog w) A (.builtin "list.__iadd__" ⟨[.ref S,.ref d],[]⟩) R s:=by
 refine DY F.entry_list_iadd ?_;rw[Around.under_plainId F.plain_list_iadd _];show wpAny _ A.in1 (Builtin.List.listExtendWith (.ref S) (.ref d) (.ref S)) _ _ _;exact Lp (A:=A) e f g c S _ 0 h i
theorem QC{Q:A0 A2->A4->Prop}{d:A3}{kvs:A0 (K×A2)}{ep:Nat}(i:A.handled=none)(j:(d == sysModules)=false)(k:s.heap.DictAt knd d kvs ep)(c:kvs.length<=2^24)
  (m:∀h' h a,(∀b o,s.heap.get? b=some o->h'.get? b=some o)->s.heap.objs.size<h'.objs.size->ItemsOf (zCd knd kvs) a kvs.length->Q a.toList { s with heap:=h',toks:=h }):wpAny (model prog w) A (collect (.ref d)) Q E s:=by
 unfold collect;refine AA (wpAny_runValue (DY F.entry_proto_collect ?_));rw[Around.under_plainId F.plain_proto_collect _];show wpAny _ A.in1 (newList [] >>= λl=>again (.builtin "list.__iadd__" ⟨[l,.ref d],[]⟩)) _ _ s;refine AA (BV ?_);refine AC ⟨plainId_quiet F.plain_list_iadd _,Vg (A:=A) (s:={ s with heap:=s.heap.push { cls:=.type "list",data:=.seq ([]:A0 A2).toArray } }) i j (k.at' λo e=>AD _ e) c s.heap.objs.size (AY _ rfl) λh' h a p n f g=>?_⟩;show wpAny _ A (load s.heap.objs.size >>= _) _ _ _;refine AA (wpAny_load f ?_);exact AC (m h' h a (λb o e=>n b o (BB (AG e)) (AD _ e)) (AG f) g)
end
end TS
namespace L2
open PySem PySem.Spec PyProof.Rows
section
variable{X:Cx}
theorem Wi(hc:X.calm=true:=by rfl):N0 X (.builtin "sorted") (λxs H Q=>∃(d:A3) (kvs:A0 (JB×V)) (ss:A0 Str),xs = [.ref d]/\Rd H d (.dK kvs)/\(kvs.map λk=>k.1)=ss.map Sum.inr/\∀(l:A3) (n:A0 Str),H l=none->n.Perm ss->n.Pairwise NZ->Q (.ref l) (II H l (.lst (n.map V.str)))):=by
 intro pins s σ H xs c Q I r h;obtain⟨d,kvs,ss,rfl,E,hk,q⟩:=h;obtain⟨u,rfl,ru⟩:=o8 r;cases ru;obtain⟨o,p,j,f,r,g,ep,C,F,G,J⟩:∃o,kvs.length<=sizeLine/\(d == sysModules)=false/\∃f,KV kvs f/\∃g ep,s.heap.get? d=some o/\o.ExactDict/\o.data = .dict g ep/\(PySem.KeysOf (E5 X.prog X.w) g/\Pairs (E5 X.prog X.w) g.toList f/\(f.map (·.1)).Nodup):=by
  rcases E with E | ⟨o,E⟩
  .obtain⟨p,j,f,r,o,g,ep,C,F,G,J⟩:=(show JA X.prog X.w H s.heap d (.dK kvs)from I.hok d _ E);exact⟨o,p,j,f,r,g,ep,C,F,G,J⟩
  .obtain⟨C,p,j,f,r,o',g,ep,M,F,G,J⟩:=(show JA X.prog X.w H s.heap d (.frz o (.dK kvs))from I.hok d _ E);exact⟨o',p,j,f,r,g,ep,M,F,G,J⟩
 have hl:kvs.length=f.length:=r.length;have N:kvs.length=ss.length:=by have:=congrArg List.length hk;simpa using this
 refine TS.LF (TS.QC (A:=X.A.in1) (knd:=E5 X.prog X.w) (kvs:=f) (ep:=ep) (show X.A.in1.handled=none from I.ok.hd hc) j ⟨o,g,C,F,G,J⟩ (by rw[sizeLine_eq]at p;lia) λO tk z k1 g1 m=>?_);have hn:z.toList.length=ss.length:=by have:=m.1;rw[AU];lia
 have D:IT (ss.map V.str) z.toList:=Fa hn λi v D=>by
  obtain⟨k,x,e,kk⟩:=m.2 i v (by simpa using D);have P:i<kvs.length:=by rw[hl];exact(AK.mp e).1
  have hx:kvs[i]?=some (kvs[i].1,kvs[i].2):=AF P;obtain⟨u,K,_⟩:=r.atV hx;rw[K]at e;cases e;have h2:=congrArg (λl=>l[i]?) hk;rw[AJ,hx,AJ,HM]at h2;obtain⟨x',R,ex⟩:=BG.mp h2.symm;rw[<-ex]at kk;rcases J0 (show Em (.inr x') v=true from kk)with⟨i,t,S,e2⟩ | ⟨y,t,S,e2⟩
  .cases S
  .cases S;exact⟨_,t,R,e2⟩
 have j:=n6 D;refine⟨rfl,by rw[sizeLine_eq]at p⊢;lia,strKind,oneType',λs2 _=>TS.NC j,λout h' e C k hg=>?_⟩;obtain⟨T,hs⟩:=C;have U:∀v∈out.toList,∃x t,v = .str x t:=λv D=>j.all v (T.mem_iff.mp D);have W:IT ((out.toList.map strOf).map V.str) out.toList:=by
  have:∀c:A0 A2,(∀v∈c,∃x t,v = .str x t)->IT ((c.map strOf).map V.str) c:=by
   intro c
   induction c with
   | nil=>exact λ_=>.nil
   | cons v r Y =>
    intro h;obtain⟨x,t,rfl⟩:=h v (BA ..);exact .cons ⟨t,rfl⟩ (Y λu K=>h u (AM _ K))
  exact this _ U
 have Z:z.toList.map strOf=ss:=by
  have:∀{ss:A0 Str} {c:A0 A2},IT (ss.map V.str) c->c.map strOf=ss:=by
   intro ss
   induction ss with
   | nil=>intro c h;cases h;rfl
   | cons x r Y =>
    intro c h;cases h with
    | cons a b =>
     obtain⟨t,rfl⟩:=a;rw[BM,Y b];rfl
  exact this D
 have B:(out.toList.map strOf).Perm ss:=by rw[<-Z];exact T.map strOf
 have hpw:(out.toList.map strOf).Pairwise NZ:=by
  rw[CU];refine(EN.mp hs).imp fun{u v} ⟨K,hv',q⟩=>?_;obtain⟨x,t,rfl⟩:=U u K;obtain⟨y,t',rfl⟩:=U v hv';have q':decide (y.cps.toList<x.cps.toList)=false:=q;exact HP q'
 have k0:∀b o,s.heap.get? b=some o->h'.get? b=some o:=λb o eb=>k b o (k1 b o eb);have L:s.heap.objs.size<=O.objs.size:=DQ g1;exact⟨.ref O.objs.size,_,I.laid (a:=O.objs.size) (o:=.lst ((out.toList.map strOf).map V.str)) (t':=tk) k0 L ⟨by rw[AB,AB,T.length_eq,hn,<-N];exact p,out.toList,e,W,by simpa using hg⟩,rfl,q _ _ (I.hok.fresh L) B hpw⟩
end
end L2
namespace HT
open PySem PyProof.Rows PySem.Spec
section
variable{prog:IE}{w:IJ}{A:IM}{E:A2->A4->Prop}{s:A4}
theorem OB{t b:A3}{items:IG A2}{g i:A2}{lo hi:A5 Int}{Q:A2->A4->Prop}(a:IsTup s.heap t items)(j:s.heap.IsSliceOf b g i .none)(pl:IsPart g lo)(k:IsPart i hi)
  (hw:JU items.size 0 lo=0/\JU items.size items.size hi=items.size) (h:Q (.ref t) s):wpAny (model prog w) A (getItem (.ref t) (.ref b)) Q E s:=by
 obtain⟨os,c,d,l⟩:=id j;have e:s.TypeIs (.ref b) "slice":=⟨os,c,d⟩;unfold getItem
 try with_reducible refine BN ?_
 first | refine AA (AC ?_) | skip
 refine AA (wpAny_sequenceKey a.typeIs (by decide) ?_);refine AA (CI (name:=Str.ofString "__getitem__") a.typeIs PyProof.Rows.slot_tuple_getitem
  (CG PyProof.Rows.slot_tuple_getitem a.typeIs entry_tuple_getitem ?_ (args_tuple_getitem _ _)))
 show wpAny _ _ (Builtin.Tuple.tupleItemsOf (.ref t) >>= _) _ _ s;refine AA (tupleItemsOf_ a ?_);refine AA (FZ e ?_);rw[AO (by decide)];refine AA (Y6 j pl k ?_);have f:((((JU items.size 0 lo:Nat):Int) == 0 &&(1:Int) == 1 &&(JU items.size items.size hi-JU items.size 0 lo) == items.size)=true):=by
  rw[hw.1,hw.2];simp
 show wpAny _ _ (if(((JU items.size 0 lo:Nat):Int) == 0 &&(1:Int) == 1 &&(JU items.size items.size hi-JU items.size 0 lo) == items.size)=true then _ else _) _ _ s;rw[AO f];unfold Builtin.Tuple.tupleIsExact;refine AA (AA (FZ a.typeIs (AC ?_)));rw[AO (by decide)];refine AA (DN ?_);show wpAny _ _ (ret (Value.ref t)) _ _ _;exact AC ⟨_,rfl,AC h⟩
end
end HT
namespace L2
open PySem PySem.Spec PyProof.Rows
section
variable{X:Cx}
def zJb(K:VA):V->A5 Int->A5 Int->Hp->VK->Prop:=λx lo c H Q=>∃a b,x = .ref a/\JG K H a b/\(HT.JU b.length 0 lo=0/\HT.JU b.length b.length c=b.length)/\Q (.ref a) H
theorem zAr:SR X (zJb X.K):=by
 intro d s σ H x v n o lo p t Q I f g i j h;obtain⟨a,k,rfl,l,m,q⟩:=h;cases f;obtain⟨c,r,e,u⟩:=I.tuple l;have b:c.toArray.size=k.length:=by rw[AR];exact r.length.symm
 refine⟨"tuple",_,PyProof.Rows.slot_tuple_getitem.lookup,e.typeIs,?_⟩;exact HT.OB e g i j (by rw[b];exact m) ⟨.ref a,H,I,rfl,q⟩
def zHf(K:VA):V->A5 Int->A5 Int->Hp->VK->Prop:=λx lo a H Q=>zGr K x lo a H Q\/zJb K x lo a H Q
theorem zIp(K:VA)(a:X.K=K:=by rfl):SR X (zHf K):=by subst a;exact RT.or zAr
end
def zAj(K:VA):V->A0 V->Hp->VK->Prop:=λx b H Q=>∃(l:A3) (a:A0 V) (y:V) (j:Nat),x = .ref l/\b = [y]/\IR K H l a/\Ac y=true/\a.all Ac=true/\(∃z,a[j]?=some z/\RE z y=true)/\(∀m z,m<j->a[m]?=some z->RE z y=false)/\Q (.int (j:Nat)) H
def Wl{X:Cx}(K:VA)(N:X.K=K:=by rfl):QH X "list.index" (zAj K):=by
 subst N;intro C s σ H x vs v us Q I O p h;obtain⟨l,g,y,j,rfl,rfl,P,R,D,⟨z,E,S⟩,t,q⟩:=h;cases O;obtain⟨u,rfl,T⟩:=p.one;obtain⟨a,r,⟨o,n,e,G,U,c⟩,Y⟩:=I.list P;have J:=r.length;have Z:∀{i:Nat} {w:V},g[i]?=some w->Ac w=true:=fun{i w} h=>EA.mp D w (AZ h);have b:j<a.length:=by
  have:=(AK.mp E).1;lia
 obtain⟨cls,dd,L,sl⟩:=o;simp only at G U c;subst G c;have d:∀{i:Nat} (M:i<a.length) {w:V},g[i]?=some w->PJ y a[i]=RE w y:=fun{i} M {w} f=>by
  obtain⟨v,k,p⟩:=r.get f;rw[AF M]at k;cases k;exact Mm p (Z f)
 have hM:=PySem.SeqAt.list_indexAt l a.toArray n dd sl u (PJ y) j (by simpa using b) (by rw[sizeLine_eq]at Y;lia) ?_ ?_
 .exact call_meets F.slot_list_index ⟨_,e,rfl⟩ F.entry_list_index (F.args_list_index_2 _ _) hM ⟨e,λv k=>Y4 T R r D v (by simpa using k),.int (j:Nat),H,I.tok _,⟨_,rfl⟩,q⟩
 .show PJ y (a.toArray[j]'(by simpa using b))=true;rw[show a.toArray[j]'(by simpa using b)=a[j]from by simp,d b E,S]
 .intro m hm A;have B:m<a.length:=by simpa using hm
  obtain⟨w,f⟩:∃w,g[m]?=some w:=⟨g[m]'(by lia),AF (by lia)⟩;show PJ y (a.toArray[m]'hm)=false;rw[show a.toArray[m]'hm=a[m]from by simp,d B f];exact t m w A f
end L2
namespace Sw
open PySem L2
def KU(i:Nat):IY:=PySem.Challenge.pw_strikeweave_k62_words_of_a_keeper.main.body.getD i (.Pass ⟨0,0,0,0⟩)
abbrev QI:IY:=KU 11
abbrev L_:IY:=KU 12
abbrev OJ:IY:=KU 13
abbrev OT:IY:=KU 14
abbrev PZ:IY:=KU 15
abbrev QJ:IY:=KU 16
abbrev PX:IY:=KU 21
abbrev NK:IY:=KU 22
abbrev MD:IY:=KU 23
abbrev ON:IY:=KU 24
abbrev QK:IY:=KU 25
abbrev PR:IY:=KU 26
abbrev PY:IY:=KU 29
abbrev MO:IY:=KU 30
abbrev MP:IY:=KU 31
abbrev PU:IY:=KU 33
abbrev OW:IY:=KU 34
abbrev OV:IY:=KU 35
abbrev LU:IY:=KU 36
abbrev OK:IY:=KU 37
abbrev PV:IY:=KU 38
abbrev OY:IY:=KU 39
abbrev OL:IY:=KU 40
abbrev MC:IY:=KU 41
abbrev MA:IY:=KU 42
abbrev NX:IY:=KU 43
abbrev O_:IY:=KU 44
abbrev NH:IY:=KU 45
abbrev MQ:IY:=KU 46
abbrev NJ:IY:=KU 47
abbrev OX:IY:=KU 48
abbrev OZ:IY:=KU 49
abbrev OU:IY:=KU 50
abbrev NW:IY:=KU 51
abbrev NG:IY:=KU 52
abbrev NV:IY:=KU 53
abbrev OM:IY:=KU 54
abbrev NQ:IY:=M9 (KU 2) 0
abbrev MV:IY:=M9 (KU 3) 0
abbrev MT:IY:=M9 (KU 20) 0
abbrev MF:IY:=M9 (KU 20) 1
abbrev LM:IY:=M9 (KU 20) 2
abbrev MS:IY:=M9 (KU 20) 3
abbrev NY:IY:=M9 (KU 20) 4
abbrev ME:IY:=M9 (KU 20) 5
abbrev LO:IY:=M9 (KU 28) 0
abbrev LN:IY:=M9 (KU 28) 1
abbrev LH:IY:=M9 (KU 28) 2
abbrev LD:IY:=M9 (KU 28) 3
abbrev K3:IY:=M9 (KU 28) 4
abbrev MU:IY:=M9 (KU 28) 5
abbrev MG:IY:=M9 (KU 28) 6
abbrev NL:IY:=M9 (KU 28) 7
abbrev LV:IY:=M9 (KU 28) 8
abbrev LE:IY:=M9 (KU 28) 9
abbrev MI:IY:=M9 (KU 28) 10
set_option genInjectivity false in
structure Tx(K:VA)(mg:Str->A5 A2) where
 bq:Fn K mg "rounds" QI ["web"]
 aI:Fn K mg "rounds_beside" L_ ["web","known"]
 aY:Fn K mg "one_round" OJ ["web","words","number"]
 aV:Fn K mg "wordless" OT ["web","words"]
 bl:Fn K mg "all_out" PZ ["web","words","name"]
 br:Fn K mg "one_in" QJ ["web","words","name"]
 bb:Fn K mg "is_name" PX ["thing"]
 aZ:Fn K mg "check_names" NK ["names"]
 aS:Fn K mg "check_strikes" MD ["names","strikes"]
 a6:Fn K mg "is_strike" ON ["names","thing"]
 bs:Fn K mg "behind" QK ["web","some"]
 bm:Fn K mg "reached" PR ["steps","some"]
 bc:Fn K mg "copy_of" PY ["web"]
 aK:Fn K mg "words_beside" MO ["web","stay"]
 aL:Fn K mg "otherwise_in" MP ["old","new"]
 bd:Fn K mg "_law_mix" PU ["_law_cell","_law_k"]
 a2:Fn K mg "_law_left" OW ["_law_script","_law_k"]
 ak:Fn K mg "_law_pick" OV ["_law_left_here","_law_many"]
 aP:Fn K mg "_law_many_names" LU ["_law_left_here","_law_many"]
 a7:Fn K mg "_law_masks" OK ["_law_names","_law_strikes"]
 be:Fn K mg "_law_hit" PV ["_law_view","_law_mask"]
 a3:Fn K mg "_law_kept" OY ["_law_view","_law_mask"]
 a8:Fn K mg "_law_least" OL ["_law_view"]
 aT:Fn K mg "_law_web_drawn" MC ["_law_left_here"]
 aB:Fn K mg "_law_word_rows" MA ["_law_own"]
 aA:Fn K mg "_law_a_name" NX ["_law_left_here","_law_own"]
 bg:Fn K mg "_law_deed" O_ ["_law_left_here","_law_own"]
 a0:Fn K mg "_law_is_name" NH ["_law_word"]
 aW:Fn K mg "_law_word_due" MQ ["_law_own","_law_deed_here"]
 a1:Fn K mg "_law_changed" NJ ["_law_own","_law_deed_here"]
 aQ:Fn K mg "_law_kind" OX ["_law_error"]
 bh:Fn K mg "_law_done" OZ ["_law_keeper","_law_deed_here"]
 an:Fn K mg "_law_same" OU ["_law_found","_law_due"]
 aG:Fn K mg "_law_web_is" NW ["_law_web","_law_own"]
 aR:Fn K mg "_law_is_none" NG ["_law_web","_law_name","_law_turned"]
 a4:Fn K mg "_law_weight" NV ["_law_own"]
 ac:A3
 ah:RP K ac
 bj:mg "Web" = some (.ref ac)
 aM:JV K ac "names"
 a9:JV K ac "strikes"
 aJ:JV K ac "strikers_by_name"
 aO:JV K ac "struck_by_name"
 bH:A3
 bG:I7
 bI:PL K "__init__" "Web.__init__" MT bH bG
 aC:Binds K bG ["self","names","strikes"] []
 bk:Mk K ac bH
 ad:Mt K ac "all_names" "Web.all_names" MF ["self"]
 ag:Mt K ac "all_strikes" "Web.all_strikes" LM ["self"]
 aj:Mt K ac "strikers" "Web.strikers" MS ["self","name"]
 al:Mt K ac "struck" "Web.struck" NY ["self","name"]
 af:Mt K ac "check_has" "Web.check_has" ME ["self","name"]
 aa:A3
 ab:RP K aa
 bx:mg "Keeper" = some (.ref aa)
 ai:JV K aa "web"
 aD:JV K aa "given"
 aX:JV K aa "reckoned"
 ba:JV K aa "past"
 bz:A3
 bw:I7
 bA:PL K "__init__" "Keeper.__init__" LO bz bw
 bi:Binds K bw ["self","web"] []
 bB:Mk K aa bz
 av:Mt K aa "put_name" "Keeper.put_name" LN ["self","name"]
 au:Mt K aa "take_name" "Keeper.take_name" LH ["self","name"]
 ar:Mt K aa "put_strike" "Keeper.put_strike" LD ["self","one","other"]
 aq:Mt K aa "take_strike" "Keeper.take_strike" K3 ["self","one","other"]
 ap:Mt K aa "words" "Keeper.words" MU ["self"]
 aH:Mt K aa "looked" "Keeper.looked" MG ["self"]
 aN:Mt K aa "undo" "Keeper.undo" NL ["self"]
 am:Mt K aa "web_now" "Keeper.web_now" LV ["self"]
 as:Mt K aa "has_strike" "Keeper.has_strike" LE ["self","one","other"]
 ao:Mt K aa "change" "Keeper.change" MI ["self","web","changed"]
 ca:A3
 cb:A0 A2
 bo:XC K ca cb
 bp:mg "StrikeError" = some (.ref ca)
 cc:A3
 cd:A0 A2
 ce:XC K cc cd
 b0:mg "BadName" = some (.ref cc)
 cf:A3
 cg:A0 A2
 ch:XC K cf cg
 bM:mg "BadStrike" = some (.ref cf)
 ci:A3
 cj:A0 A2
 ck:XC K ci cj
 bW:mg "BadWeave" = some (.ref ci)
 cl:A3
 cm:A0 A2
 cn:XC K cl cm
 b2:mg "BadRow" = some (.ref cl)
 aw:A3
 bC:A0 A2
 bt:XC K aw bC
 bD:mg "NoName" = some (.ref aw)
 co:A3
 cp:A0 A2
 cq:XC K co cp
 bX:mg "NoStrike" = some (.ref co)
 cr:A3
 cs:A0 A2
 ct:XC K cr cs
 b3:mg "NoMove" = some (.ref cr)
 cu:A3
 cv:A0 A2
 cw:XC K cu cv
 b1:mg "TooMany" = some (.ref cu)
 cx:XG K cc
 cy:TR K cc
 cz:(Value.ref cc::cd).contains (.ref ca)=true
 cA:PySem.W.kitOne K (.ref cc) (.ref cc)=some true
 cB:PySem.W.kitOne K (.ref cc) (.ref cf)=some false
 cC:PySem.W.kitOne K (.ref cc) (.ref ci)=some false
 cD:PySem.W.kitOne K (.ref cc) (.ref cl)=some false
 cE:PySem.W.kitOne K (.ref cc) (.ref aw)=some false
 cF:PySem.W.kitOne K (.ref cc) (.ref co)=some false
 cG:PySem.W.kitOne K (.ref cc) (.ref cr)=some false
 cH:PySem.W.kitOne K (.ref cc) (.ref cu)=some false
 cI:PySem.W.kitOne K (.ref cc) (.type "ValueError")=some true
 cJ:JV K cc "place"
 cK:A3
 cL:I7
 cM:PL K "__init__" "BadName.__init__" NQ cK cL
 cN:Binds K cL ["self","place"] []
 cO:RA K cc "__init__" cK
 cP:XG K cf
 cQ:TR K cf
 cR:(Value.ref cf::cg).contains (.ref ca)=true
 cS:PySem.W.kitOne K (.ref cf) (.ref cc)=some false
 cT:PySem.W.kitOne K (.ref cf) (.ref cf)=some true
 cU:PySem.W.kitOne K (.ref cf) (.ref ci)=some false
 cV:PySem.W.kitOne K (.ref cf) (.ref cl)=some false
 cW:PySem.W.kitOne K (.ref cf) (.ref aw)=some false
 cX:PySem.W.kitOne K (.ref cf) (.ref co)=some false
 cY:PySem.W.kitOne K (.ref cf) (.ref cr)=some false
 cZ:PySem.W.kitOne K (.ref cf) (.ref cu)=some false
 c0:PySem.W.kitOne K (.ref cf) (.type "ValueError")=some true
 c1:JV K cf "place"
 c2:A3
 c3:I7
 c4:PL K "__init__" "BadStrike.__init__" MV c2 c3
 c5:Binds K c3 ["self","place"] []
 c6:RA K cf "__init__" c2
 aE:XG K aw
 aF:TR K aw
 a5:(Value.ref aw::bC).contains (.ref ca)=true
 bN:PySem.W.kitOne K (.ref aw) (.ref cc)=some false
 bO:PySem.W.kitOne K (.ref aw) (.ref cf)=some false
 bP:PySem.W.kitOne K (.ref aw) (.ref ci)=some false
 bQ:PySem.W.kitOne K (.ref aw) (.ref cl)=some false
 bR:PySem.W.kitOne K (.ref aw) (.ref aw)=some true
 bS:PySem.W.kitOne K (.ref aw) (.ref co)=some false
 bT:PySem.W.kitOne K (.ref aw) (.ref cr)=some false
 bU:PySem.W.kitOne K (.ref aw) (.ref cu)=some false
 bV:PySem.W.kitOne K (.ref aw) (.type "ValueError")=some true
 b4:PySem.W.findIn K (.ref aw) "__init__" = some (some (.builtin "ValueError.__init__"))
 c7:XG K co
 c8:TR K co
 c9:(Value.ref co::cp).contains (.ref ca)=true
 da:PySem.W.kitOne K (.ref co) (.ref cc)=some false
 db:PySem.W.kitOne K (.ref co) (.ref cf)=some false
 dc:PySem.W.kitOne K (.ref co) (.ref ci)=some false
 dd:PySem.W.kitOne K (.ref co) (.ref cl)=some false
 de:PySem.W.kitOne K (.ref co) (.ref aw)=some false
 df:PySem.W.kitOne K (.ref co) (.ref co)=some true
 dg:PySem.W.kitOne K (.ref co) (.ref cr)=some false
 dh:PySem.W.kitOne K (.ref co) (.ref cu)=some false
 di:PySem.W.kitOne K (.ref co) (.type "ValueError")=some true
 dj:PySem.W.findIn K (.ref co) "__init__" = some (some (.builtin "ValueError.__init__"))
 b5:∃t,mg "LETTERS" = some (.str "abcdefghijklmnopqrstuvwxyz" t)
 bJ:∃t,mg "LONGEST_NAME" = some (.int 8 t)
 ax:mg "len" = none
 aU:mg "range" = none
 bf:mg "enumerate" = none
 b6:mg "zip" = none
 b7:mg "min" = none
 b8:mg "max" = none
 bY:mg "abs" = none
 ay:mg "sorted" = none
 bZ:mg "int" = none
 bv:mg "str" = none
 bu:mg "bool" = none
 az:mg "list" = none
 bn:mg "tuple" = none
 bK:mg "dict" = none
 bE:mg "set" = none
 ae:mg "isinstance" = none
 bF:mg "all" = none
 b9:mg "any" = none
 bL:mg "ValueError" = none
end Sw
namespace L2
open PySem
def Kc{N ps:A0 Str}{a:KZ}(h1:a.kind = .function:=by rfl)(h2:a.isCoroutine=false:=by rfl)(b:a.isGenerator=false:=by rfl)(c:N.Nodup:=by decide +kernel)(d:N.take ps.length=ps:=by rfl)(e:∀x∈ps,a.names.lookup x=some .local\/a.names.lookup x=some .cell:=by decide +kernel)(f:∀y∈a.names,y.2≠ .free:=by decide +kernel):IL N ps a:=⟨h1,h2,b,c,d,e,f⟩
def Rm{j k:Nat}{A:IM}(h:KD k A)(e:j<=k:=by decide):KD j A:=h.mono e
def Di{J:It}{xs:A0 V}{a:A3}{d:Hp}(as:OD J xs a d){g:TG}{e:TS}{D:Ends}{σ:St}{H:Hp}(Pv:Nat->St->Hp->Prop)(h:Pv 0 σ H)(j:∀i σ H,i<=xs.length->Pv i σ H->KJ a d H)
  (k:∀i σ H x,xs[i]?=some x->Pv i σ H->∀b:Ends,(∀σ' H',Pv (i+1) σ' H'->b.nx σ' H')->b.rt=D.rt->g x σ H λσ2 c=>e b σ2 c) (l:∀σ H,Pv xs.length σ H->D.nx σ H) :
  ∃W:Nat->Nat->St->Hp->Prop,(∃m,W 0 m σ H)/\∀i m σ H,W i m σ H ->
   (J.stop i H/\D.nx σ H)\/(J.go i H/\∃N:St->Hp->Prop,(∀σ' H',N σ' H'->∃f,f < m/\W (i+1) f σ' H')/\∀x H',J.yld i H x H'->g x σ H' λσ2 c=>e { D with nx:=N,ct:=N,bk:=D.nx } σ2 c) :=
 zFk as Pv h j (λi σ H x n o=>k i σ H x n o _ (λ_ _ z=>z) rfl) l
def X5{lo:Int}{n:Nat}{g:TG}{c:TS}{D:Ends}{σ:St}{H:Hp}(Pv:Nat->St->Hp->Prop)(e:Pv 0 σ H)
  (f:∀i σ H,i<n->Pv i σ H->∀a:Ends,(∀σ' H',Pv (i+1) σ' H'->a.nx σ' H')->a.rt=D.rt->g (.int (lo+i)) σ H λσ2 b=>c a σ2 b) (h:∀σ H,Pv n σ H->D.nx σ H) :
  ∃W:Nat->Nat->St->Hp->Prop,(∃m,W 0 m σ H)/\∀i m σ H,W i m σ H ->
   ((RN lo n).stop i H/\D.nx σ H)\/((RN lo n).go i H/\∃N:St->Hp->Prop,(∀σ' H',N σ' H'->∃d,d < m/\W (i+1) d σ' H')/\∀x H',(RN lo n).yld i H x H'->g x σ H' λσ2 b=>c { D with nx:=N,ct:=N,bk:=D.nx } σ2 b) :=
 Iw Pv e (λi σ H j k=>f i σ H j k _ (λ_ _ z=>z) rfl) h
def C3{α:Type}{A C:α->Prop}{a:α}(e:A a)(h:C a):∃v,A v/\C v:=⟨a,e,h⟩
def Y9{α0 α1 α2:Type}{d e f g h i:α0->α1->α2->Prop}{a:α0}{b:α1}{c:α2}(j:d a b c)(h1:e a b c)(h2:f a b c)(k:g a b c)(l:h a b c)(m:i a b c):∃a b c,d a b c/\e a b c/\f a b c/\g a b c/\h a b c/\i a b c:=⟨a,b,c,j,h1,h2,k,l,m⟩
def zGv{α0 α1 α2 α3 α4 α5 α6:Type}{h i j k:α0->α1->α2->α3->α4->α5->α6->Prop}{a:α0}{b:α1}{c:α2}{d:α3}{e:α4}{f:α5}{g:α6}(l:h a b c d e f g)(h1:i a b c d e f g)(h2:j a b c d e f g)(m:k a b c d e f g):∃a b c d e f g,h a b c d e f g/\i a b c d e f g/\j a b c d e f g/\k a b c d e f g:=⟨a,b,c,d,e,f,g,l,h1,h2,m⟩
def C4{α0 α1:Type}{c d e:α0->α1->Prop}{a:α0}{b:α1}(f:c a b)(h1:d a b)(h2:e a b):∃a b,c a b/\d a b/\e a b:=⟨a,b,f,h1,h2⟩
def B3{t u:TS}{D:Ends}{σ:St}{H:Hp}(h:∀N:St->Hp->Prop,(∀σ' H',u D σ' H'->N σ' H')->t { D with nx:=N } σ H):UH t u D σ H:=h _ λ_ _ z=>z
def zAv{i:Nat}{v:V}{t u:TS}{D:Ends}{σ:St}{H:Hp}(h:∀N:St->Hp->Prop,(∀σ' H',u D σ' H'->N σ' H')->t { D with nx:=N } (σ.set i (some v)) H):Q4 i v σ H (λσ2 a=>UH t u D σ2 a):=h _ λ_ _ z=>z
end L2
namespace Sw
open PySem L2
section
variable{P:IE}{w:IJ}{K:VA}{mg:Str->A5 A2}{base:IP}
def Lb(c:Nat):Bool:=decide (97<=c)&&decide (c<=122)
def S0(x:Str):Bool:=decide (1<=x.length)&&decide (x.length<=8)&&x.cps.toList.all Lb
theorem Km:("abcdefghijklmnopqrstuvwxyz":Str).cps.toList=List.range' 97 26:=by decide +kernel
theorem Qr(c:Nat):decide (c∈("abcdefghijklmnopqrstuvwxyz":Str).cps.toList)=Lb c:=by
 rw[Km];unfold Lb;by_cases a:97<=c
 .by_cases b:c<=122
  .rw[AQ (List.mem_range'_1.mpr (by lia)),AQ a,AQ b];rfl
  .rw[AL (λz=>by have:=List.mem_range'_1.mp z;lia),AL b,HU]
 .rw[AL (λz=>by have:=List.mem_range'_1.mp z;lia),AL a,DP]
theorem Og:IL ["thing"] ["thing"] (B6 PX):=Kc
def Om:Sp:=λb H Q _=>∃x,b = [.str x]/\x.length<=1000/\∀a,Cv H a->Q (.bl (S0 x)) a
theorem Fi(T:Tx K mg):IU P w K mg base JW 1 T.bb.f T.bb.fd ["thing"] Om:=by
 refine T.bb.F.o1 Og λr A b s H B Q E C h=>?_
 .obtain⟨x,rfl,G,k⟩:=h;refine⟨_,(A9 (K0 (PW.pt (c9 (P2 (J9 (F9 (S9 K) T.ae B9 (A6 (pv 0) (A6 (i7 T.bv Nc) A8))))) (U2 (P2 (Xr Vv Vv B5 (F9 Bl T.ax Q5 (A6 (pv 0) A8)) (zHt T.bJ)))))) (B4 (C0 j4)) D0)
   (B4 (C0 (F9 (Vm K) T.bF Uv (A6 (W9 (N':=["letter"]) (cap:=[none]) (cl:=[]) (P4 trivial trivial) rfl (Yt (pv 0)) (λ_ _ _ _=>by exact⟨(LS 0),P1,(R0 Ra (pv 0) (zHl T.b5) rfl)⟩)) A8))))),?_⟩
  have d:x.length<=sizeLine:=by rw[sizeLine_eq];lia
  have m:x.cps.size=x.length:=rfl;refine C3 rfl ⟨.str x, "str",_,true,rfl,.str x,rfl,C3 rfl ?_⟩;refine O9 ?_;refine C3 rfl ⟨x,rfl,d,C4 rfl rfl (C3 rfl ?_)⟩;refine w8 (λa=>?_) (λa=>?_)
  .have a:(1:Int)<=(x.length:Int):=BL a;refine C4 rfl rfl (C3 rfl ?_);by_cases o:(x.length:Int)<=8
   .rw[AQ o];refine O9 ?_;refine C3 rfl ⟨x,rfl,λD p=>?_⟩;refine Iz (n:=x.cps.size) (λi σ g=>(∃v,σ = [v])/\Cv H g/\g D=some (.lst ((x.cps.toList.take i).map λc=>V.bl (Lb c)))) ⟨⟨_,rfl⟩,Cv.new p,A7⟩ (λi _ _ q _=>q) (λ_ _ _=>rfl) ?_ ?_
    .rintro i σ t v g N q ⟨⟨I,rfl⟩,j,l⟩ ⟨rfl,c,u,rfl⟩ y;refine By ?_;refine C3 rfl (C4 rfl rfl ⟨_,l,?_,?_⟩)
     .rw[AB,AX,sizeLine_eq];lia
     .rw[PySem.StrLaws.found_one,Qr];refine y _ _ ⟨⟨_,rfl⟩,j.upd p,?_⟩;rw[A7];have:x.cps.toList[i]?=some c:=by rw[BK];exact u
      rw[List.take_add_one,this,AH];rfl
    .rintro σ t ⟨_,j,l⟩;refine⟨D,x.cps.toList.map Lb,rfl,IR.of ?_,?_⟩
     .rw[l,<-AU,BP,B_];rfl
     .have e:(x.cps.toList.map Lb).all id=S0 x:=by
       unfold S0;rw[AQ (show 1<=x.length by lia),AQ (show x.length<=8 by lia),List.all_map];rfl
      rw[e];exact k _ j
   .rw[AL o];refine Z7 ?_;have e:S0 x=false:=by
     unfold S0;rw[AL (show ¬x.length<=8 by lia),HU,DP]
    have:=k H (Cv.refl H);rw[e]at this;exact this
  .have a:¬(1:Int)<=(x.length:Int):=λz=>a (AQ z);refine C3 rfl ?_;refine Z7 ?_;have e:S0 x=false:=by
    unfold S0;rw[AL (show ¬1<=x.length by lia),DP,DP]
   have:=k H (Cv.refl H);rw[e]at this;exact this
theorem E4{α:Type}{l:A0 α}{i:Nat}{x:α}(h:l[i]?=some x):l.take (i+1)=l.take i ++ [x]:=by
 rw[List.take_add_one,h];rfl
theorem j9{α:Type}{l:A0 α}{i:Nat}{x:α}(a:l.Nodup)(h:l[i]?=some x):x∉l.take i:=by
 intro b;obtain⟨j,c,e⟩:=List.getElem_of_mem b;have d:j<i:=by rw[AX]at c;lia
 rw[List.getElem_take]at e;obtain⟨g,f⟩:=AK.mp h;have:=(List.getElem_inj a).mp (e.trans f.symm);lia
theorem KP:IL ["names","seen","place","name"] ["names"] (B6 NK):=Kc
def i6(ss:A0 Str):Prop:=(∀x∈ss,S0 x=true)/\ss.Nodup/\ss.length<=100
def Ec(K:VA):Sp:=λc H Q _=>∃(p:A3) (a:A0 Str),c = [.ref p]/\RG K H p (a.map V.str)/\i6 a/\∀b,Cv H b->Q .non b
theorem Im{x:Str}(h:S0 x=true):1<=x.length/\x.length<=8:=by
 unfold S0 at h;rw[C_,C_]at h;exact⟨BL h.1.1,BL h.1.2⟩
theorem Eh(T:Tx K mg):IU P w K mg base JW 2 T.aZ.f T.aZ.fd ["names"] (Ec K):=by
 refine T.aZ.F.o1 KP λU A B s H vs Q E J h=>?_
 .obtain⟨a,b,rfl,V,⟨W,X,hL⟩,k⟩:=h;have hu:=Q6 J;refine⟨_,(A9 (C8 (i:=1) KP.nd rfl (.inl rfl) (Et (zBw P w) (by rfl) T.bE Us))
   (B4 (W6 PassesOwn.never rfl (zHr K T.bf (A6 (pv 0) A8)) (RR K (n:=2) (E7 (I9 (i:=2) KP.nd rfl (.inl rfl)) (E7 (I9 (i:=3) KP.nd rfl (.inl rfl)) S5)))
   (A9 (K0 (PW.pt (c9 (P2 (J9 (D9 T.bb (Fi T) (Rm J) (A6 (pv 3) A8)))) (U2 (B8 (zGw P w) (pv 3) (pv 1) rfl)))) (B4 m8) D0)
   (B4 (J8 (Vq P w (zDd P w) (pv 1) (A6 (pv 3) A8)))))))),?_⟩
  refine⟨rfl,λp L=>?_⟩;have M:Cv H (II H p (Qg P w p [])):=Cv.new L;refine C3 rfl ⟨a,C3 rfl (No V (M.at a) λsq C=>Xz (n:=b.length) (λi σ g=>∃l m,σ = [some (.ref a),some (.ref p),l,m]/\Cv H g/\g p=some (Qg P w p ((b.take i).map Sum.inr))) ⟨_,_,rfl,M,A7⟩ ?_ ?_ ?_ ?_)⟩
  .rintro i σ g r ⟨l,m,rfl,c,o⟩;exact⟨_,_,C _ (c.at a),by rw[AJ,AF r];rfl⟩
  .rintro σ g ⟨l,m,rfl,c,o⟩;exact⟨_,C _ (c.at a),by rw[AB]⟩
  .rintro i σ g v H' r ⟨l,m,rfl,c,o⟩ ⟨t,x,rfl,N,rfl,u⟩;have u:=u _ (C _ (c.at a));have j:b[i]?=some b[i]:=AF r;rw[AJ,j]at u;cases u;have Y:b[i]∈b:=DL r;have q:=W _ Y;have O:=Im q;have D:p≠t:=B0 o N;refine⟨t,C3 rfl ⟨JG.of A7,rfl,_,C3 rfl (C4 rfl rfl ?_)⟩⟩;refine C3 rfl ⟨b[i],rfl,by lia,λR S=>⟨_,rfl,?_⟩⟩;rw[q];refine O9 ?_;have G:Cv H R:=(c.trans (Cv.new N)).trans S;have I:R p=some (Qg P w p ((b.take i).map Sum.inr)):=S _ _ (by rw[B7 D];exact o);have d:¬(Sum.inr b[i]:JB)∈(b.take i).map Sum.inr:=λz=>by
    obtain⟨y,Z,e⟩:=BJ.mp z;cases e;exact j9 X j Z
   refine C3 rfl (C3 rfl ⟨p,_,Sum.inr b[i],rfl,rfl,I,C3 rfl ?_⟩);rw[AI (by decide),AL d];refine O9 ?_;refine C3 rfl ⟨⟨p,rfl,.inl ⟨_,I⟩⟩,C3 rfl ⟨p,_,Sum.inr b[i],rfl,rfl,I,?_,?_⟩⟩
   .rw[AB,AX];lia
   .refine⟨_,C3 rfl ⟨G.upd L,?_⟩⟩;rw[A7];unfold zGq;rw[AI d,E4 j,AH];rfl
  .rintro σ g ⟨l,m,rfl,c,o⟩;exact k g c
def Jn(ss:A0 Str):(ss.map V.str).all Ac=true:=by
 rw[EA];intro v a;obtain⟨x,_,rfl⟩:=BJ.mp a;rfl
def Qo(x:Str)(ss:A0 Str):inV (.str x) (ss.map V.str)=decide (x∈ss):=by
 unfold inV;rw[List.any_map]
 induction ss with
 | nil=>rfl
 | cons y r a =>
  rw[GH,a];show((y == x)||decide (x∈r))=decide (x∈y::r);by_cases e:x=y
  .subst e;simp
  .have:(y == x)=false:=by simpa using λz=>e z.symm
   rw[this,Bool.false_or];by_cases h:x∈r
   .rw[AQ h,AQ (AM _ h)]
   .rw[AL h,AL (λz=>(AV.mp z).elim e h)]
def Bh{K:VA}{H:Hp}{p:A3}{x:Str}{ss:A0 Str}{Q:VK}(h:RG K H p (ss.map V.str))(q:Q (.bl (decide (x∈ss))) H):TD K false (.str x) (.ref p) H Q :=
 ⟨p,_,rfl,h,rfl,Jn ss,by rw[AI (by decide),Qo];exact q⟩
def T9{K:VA}{H:Hp}{p:A3}{x:Str}{ss:A0 Str}{Q:VK}(h:RG K H p (ss.map V.str))(q:Q (.bl (!decide (x∈ss))) H):TD K true (.str x) (.ref p) H Q :=
 ⟨p,_,rfl,h,rfl,Jn ss,by rw[AO rfl,Qo];exact q⟩
theorem Jt:IL ["names","thing"] ["names","thing"] (B6 ON):=Kc
def Io(K:VA):Sp:=λb H Q _=>∃(p:A3) (a:A0 Str) (t:A3) (x y:Str),b = [.ref p,.ref t]/\RG K H p (a.map V.str)/\H t=some (.tup [.str x,.str y])/\x∈a/\y∈a/\Q (.bl true) H
theorem Ja(T:Tx K mg):IU P w K mg base JW 1 T.a6.f T.a6.fd ["names","thing"] (Io K):=by
 refine T.a6.F.o1 Jt λe A c s H j Q E l h=>?_
 .obtain⟨p,m,t,x,y,rfl,d,b,g,i,k⟩:=h;refine⟨_,(A9 (K0 (PW.pt (c9 (P2 (J9 (F9 (S9 K) T.ae B9 (A6 (pv 1) (A6 (i7 T.bn Cj) A8))))) (U2 (B8 Ed (F9 (T0 K) T.ax Q5 (A6 (pv 1) A8)) B5 (D8 _))))) (B4 (C0 j4)) D0)
   (B4 (C0 (Bw (R0 (Od K) (E8 (PP K) (pv 1) B5 (λ_ _=>rfl)) (pv 0) rfl) (Cw (R0 (Od K) (E8 (PP K) (pv 1) B5 (λ_ _=>rfl)) (pv 0) rfl)))))),?_⟩
  refine C3 rfl ⟨_, "tuple",_,true,rfl,.tup b,rfl,C3 rfl ?_⟩;refine O9 ?_;refine C3 rfl (C4 (a:=t) rfl (.inr (JG.of b)) ⟨rfl,C3 rfl ?_⟩);refine O9 ?_;refine C3 rfl ⟨t,_,C4 rfl rfl ⟨JG.of b,rfl,C3 rfl (Bh d ⟨_,rfl,?_⟩)⟩⟩;rw[AQ g];refine Z7 ?_;refine C3 rfl ⟨t,_,C4 rfl rfl ⟨JG.of b,rfl,C3 rfl (Bh d ?_)⟩⟩;rw[AQ i];exact k
structure OG(ss:A0 Str)(ps:A0 IZ):Prop where
 nm:∀q∈ps,q.2.1∈ss/\q.2.2∈ss
 nd:(ps.map λq=>q.2).Nodup
 len:ps.length<=200
def F8(ps:A0 IZ):A0 V:=ps.map λq=>V.ref q.1
def Lc(ps:A0 IZ):A0 (A0 JB×A3):=ps.map λq=>([.inr q.2.1,.inr q.2.2],q.1)
theorem Xe{H:Hp}{ps:A0 IZ}(h:∀q∈ps,G0 H q):Mh H (Lc ps):=λk a=>by
 obtain⟨q,b,rfl⟩:=BJ.mp a;exact h q b
theorem G9{H H':Hp}{ps:A0 IZ}(s:Cv H H')(h:∀q∈ps,G0 H q):∀q∈ps,G0 H' q:=λq a=>s _ _ (h q a)
theorem J_:IL ["names","strikes","seen","place","strike"] ["names","strikes"] (B6 MD):=Kc
def Ca(K:VA):Sp:=λd H Q _=>∃(p:A3) (b:A0 Str) (a:A3) (ps:A0 IZ),d = [.ref p,.ref a]/\RG K H p (b.map V.str)/\IR K H a (F8 ps)/\(∀q∈ps,G0 H q)/\OG b ps/\∀c,Cv H c->Q .non c
theorem Cc(T:Tx K mg):IU P w K mg base JW 2 T.aS.f T.aS.fd ["names","strikes"] (Ca K):=by
 refine T.aS.F.o1 J_ λW A C s H vs Q E M h=>?_
 .obtain⟨n,X,a,ps,rfl,Y,u,N,⟨Z,hD,hL⟩,k⟩:=h;have O:=Q6 M;refine⟨_,(A9 (C8 (i:=2) J_.nd rfl (.inl rfl) (Et (Xq P w) (by rfl) T.bE Us))
   (B4 (W6 PassesOwn.never rfl (zHr K T.bf (A6 (pv 1) A8)) (RR K (n:=2) (E7 (I9 (i:=3) J_.nd rfl (.inl rfl)) (E7 (I9 (i:=4) J_.nd rfl (.inl rfl)) S5)))
   (A9 (K0 (PW.pt (c9 (P2 (J9 (D9 T.a6 (Ja T) (Rm M) (A6 (pv 0) (A6 (pv 4) A8))))) (U2 (B8 (zHn P w O) (pv 4) (pv 2) rfl)))) (B4 m8) D0)
   (B4 (J8 (Vq P w (zDu P w O) (pv 2) (A6 (pv 4) A8)))))))),?_⟩
  refine⟨rfl,λp R=>?_⟩;have S:Cv H (II H p (Qf P w p [])):=Cv.new R;refine C3 rfl ⟨a,C3 rfl (.inl ⟨(S.at a).seqL u,Xz (n:=ps.length) (λi σ b=>∃j v4,σ = [some (.ref n),some (.ref a),some (.ref p),j,v4]/\Cv H b/\b p=some (Qf P w p (Lc (ps.take i)))) ⟨_,_,rfl,S,A7⟩ ?_ ?_ ?_ ?_⟩)⟩
  .rintro i σ b y ⟨D,j,rfl,c,l⟩;exact⟨_,_,(c.at a).seqL u,by unfold F8;rw[AJ,AF y];rfl⟩
  .rintro σ b ⟨D,j,rfl,c,l⟩;exact⟨_,(c.at a).seqL u,by unfold F8;rw[AB]⟩
  .rintro i σ b v H' y ⟨D,j,rfl,c,l⟩ ⟨t,x,rfl,U,rfl,m⟩;have m:=m _ ((c.at a).seqL u);have d:ps[i]?=some ps[i]:=AF y;unfold F8 at m;rw[AJ,d]at m;cases m;have V:ps[i]∈ps:=DL y;obtain⟨G,I⟩:=Z _ V;have J:p≠t:=B0 l U;have B:Cv H (II b t (.tup [.int i,.ref ps[i].1])):=c.trans (Cv.new U);have g:=B _ _ (N _ V);refine⟨t,C3 rfl ⟨JG.of A7,rfl,_,C3 rfl (C4 rfl rfl ?_)⟩⟩;refine C3 rfl (C3 rfl ⟨n,X,ps[i].1,ps[i].2.1,ps[i].2.2,rfl,(B.at n).seq Y,g,G,I,C3 rfl ?_⟩);refine O9 ?_;have L:(II b t (.tup [.int i,.ref ps[i].1])) p=some (Qf P w p (Lc (ps.take i))):=by rw[B7 J];exact l
   have o:Mh (II b t (.tup [.int i,.ref ps[i].1])) (Lc (ps.take i)):=Xe (G9 B λq g=>N q (DG g));have r:∀q∈Lc (ps.take i),q.1≠[.inr ps[i].2.1,.inr ps[i].2.2]:=λq g e=>by
    obtain⟨z,hz,rfl⟩:=BJ.mp g;have e':z.2=ps[i].2:=by
     obtain⟨z1,z2,z3⟩:=z;simp only[List.cons.injEq,Sum.inr.injEq,and_true]at e;exact Prod.ext e.1 e.2
    have h1:(ps.map λq=>q.2)[i]?=some ps[i].2:=by rw[AJ,d];rfl
    refine j9 hD h1 ?_;rw[<-List.map_take,<-e'];exact BJ.mpr ⟨z,hz,rfl⟩
   refine C3 rfl (C3 rfl ⟨p,ps[i].1,_,[.inr ps[i].2.1,.inr ps[i].2.2],rfl,rfl,L,g,o,r,C3 rfl ?_⟩);refine O9 ?_;refine C3 rfl ⟨⟨p,rfl,.inr (.inr ⟨_,L⟩)⟩,C3 rfl ⟨p,ps[i].1,_,[.inr ps[i].2.1,.inr ps[i].2.2],rfl,rfl,L,g,o,r,?_,?_⟩⟩
   .unfold Lc;rw[AB,AX];lia
   .refine⟨_,C3 rfl ⟨B.upd R,?_⟩⟩;rw[A7,E4 d];unfold Lc;rw[AH];rfl
  .rintro σ b ⟨D,j,rfl,c,l⟩;exact k b c
def la(kvs:A0 (JB×V))(n:Str):A3:=match Z0 kvs (.inr n)with | some (.ref l)=>l | _=>0
def Dk(kvs:A0 (JB×V))(n m:Str)(v:V):Z0 (Cl kvs (Sum.inr n:JB) v) (.inr m)=if m=n then some v else Z0 kvs (.inr m):=by
 rw[Xn];by_cases e:m=n
 .rw[AO e,AO (by rw[e])]
 .rw[AI e,AI (λz=>e (Sum.inr.inj z))]
def Ft(kvs:A0 (JB×V))(n m:Str)(p:A3):la (Cl kvs (.inr n) (.ref p)) m=if m=n then p else la kvs m:=by
 unfold la;rw[Dk];by_cases e:m=n
 .rw[AO e,AO e]
 .rw[AI e,AI e]
structure DOk(H0:Hp)(kvs:A0 (JB×V))(ns:A0 Str):Prop where
 val:∀n∈ns,Z0 kvs (.inr n)=some (.ref (la kvs n))
 inj:∀n∈ns,∀m∈ns,la kvs n=la kvs m->n=m
 fr:∀n∈ns,H0 (la kvs n)=none
def Zp{K:VA}{J:It}{a:A3}{ns:A0 Str}{H:Hp}{σ:St}{Q:St->Hp->Prop}(as:OD J (ns.map V.str) a H)(hσ:∃v,σ = [v])(G:ns.Nodup)(I:ns.length<=1000){D:A3}(y:H D=none)
  (q:∀σ kvs H',Cv H H'->H' D=some (.dK kvs)->DOk H kvs ns->(∀n∈ns,H' (la kvs n)=some (.lst []))->(∀n∈ns,la kvs n≠D)->Q σ H') :
  Bi (Q4 0) Ef (Gc D (X0 0) (T_ Fh)) J σ (II H D (.dK [])) Q:=by
 obtain⟨v,rfl⟩:=hσ;refine Q3 as (λi σ d=>(∃v,σ = [v])/\∃kvs,Cv H d/\d D=some (.dK kvs)/\kvs.length<=i/\DOk H kvs (ns.take i)/\(∀n∈ns.take i,d (la kvs n)=some (.lst []))/\∀n∈ns.take i,la kvs n≠D)
  ⟨⟨v,rfl⟩,[],Cv.new y,A7,BZ _,⟨λn h=>by simp at h,λn h=>by simp at h,λn h=>by simp at h⟩,λn h=>by simp at h,λn h=>by simp at h⟩ (λi σ d _ ⟨_,kvs,j,_⟩=>j.at a) ?_ ?_
 .rintro i σ d x N r ⟨⟨v,rfl⟩,kvs,j,u,B,s,l,w⟩ C;rw[AJ]at r;have E:i<ns.length:=by
   rcases Nat.lt_or_ge i ns.length with z | z
   .exact z
   .rw[GI z]at r;cases r
  have t:ns[i]?=some ns[i]:=AF E;rw[t]at r;cases r;refine By ?_;refine C3 rfl ⟨BZ _,λp o=>?_⟩;have f:D≠p:=B0 u o;refine⟨kvs,.inr ns[i],by rw[B7 f];exact u,rfl,by rw[sizeLine_eq];lia,C _ _ ⟨⟨_,rfl⟩,Cl kvs (.inr ns[i]) (.ref p),?_,A7,?_,⟨?_,?_,?_⟩,?_,?_⟩⟩
  .exact(j.trans (Cv.new o)).upd y
  .have:=Y2 kvs (Sum.inr ns[i]:JB) (.ref p);lia
  all_goals rw[E4 t]
  .intro n b;rw[Dk,Ft];by_cases e:n=ns[i]
   .rw[AO e,AO e]
   .rw[AI e,AI e];rcases AN.mp b with z | z
    .exact s.val n z
    .exact absurd (AE.mp z) e
  .intro n b m A;rw[Ft,Ft];have c:∀k∈ns.take i ++ [ns[i]],k≠ns[i]->k∈ns.take i:=λk F e=>(AN.mp F).elim id λz=>absurd (AE.mp z) e;by_cases e:n=ns[i]
   .by_cases g:m=ns[i]
    .exact λ_=>e.trans g.symm
    .rw[AO e,AI g];intro z;have:=l m (c m A g);rw[<-z,o]at this;cases this
   .by_cases g:m=ns[i]
    .rw[AI e,AO g];intro z;have:=l n (c n b e);rw[z,o]at this;cases this
    .rw[AI e,AI g];exact s.inj n (c n b e) m (c m A g)
  .intro n b;rw[Ft];by_cases e:n=ns[i]
   .rw[AO e];exact j.free o
   .rw[AI e];rcases AN.mp b with z | z
    .exact s.fr n z
    .exact absurd (AE.mp z) e
  .intro n b;rw[Ft];by_cases e:n=ns[i]
   .rw[AO e,B7 f.symm,A7]
   .rw[AI e];rcases AN.mp b with z | z
    .rw[B7 (w n z),B7 (B0 (l n z) o)];exact l n z
    .exact absurd (AE.mp z) e
  .intro n b;rw[Ft];by_cases e:n=ns[i]
   .rw[AO e];exact f.symm
   .rw[AI e];rcases AN.mp b with z | z
    .exact w n z
    .exact absurd (AE.mp z) e
 .rintro σ d ⟨_,kvs,j,u,B,s,l,w⟩;rw[AB]at *;rw[BP]at *;exact q σ kvs d j u s l w
def B2(a:A0 IZ)(n:Str):A0 Str:=(a.filter λq=>decide (q.2.2=n)).map λq=>q.2.1
def C6(a:A0 IZ)(n:Str):A0 Str:=(a.filter λq=>decide (q.2.1=n)).map λq=>q.2.2
def Eb(a:A0 IZ)(q:IZ)(n:Str):B2 (a ++ [q]) n=B2 a n ++(if q.2.2=n then [q.2.1]else []):=by
 unfold B2;rw[CV,AH];by_cases e:q.2.2=n
 .rw[AO e,BR,AO (AQ e)];rfl
 .rw[AI e,BR,AI (by simp[e])];rfl
def Hg(a:A0 IZ)(q:IZ)(n:Str):C6 (a ++ [q]) n=C6 a n ++(if q.2.1=n then [q.2.2]else []):=by
 unfold C6;rw[CV,AH];by_cases e:q.2.1=n
 .rw[AO e,BR,AO (AQ e)];rfl
 .rw[AI e,BR,AI (by simp[e])];rfl
def wf(a b c d:A3):A0 (Str×V):=[("names",.ref a),("strikes",.ref b),("strikers_by_name",.ref c),("struck_by_name",.ref d)]
structure UQ(ns:A0 Str)(qs:A0 IZ):Prop where
 nd:ns.Nodup
 len:ns.length<=100
 srt:ns.Pairwise NZ
 mem:∀q∈qs,q.2.1∈ns/\q.2.2∈ns
 ndq:(qs.map λq=>q.2).Nodup
 lenq:qs.length<=200
 srq:qs.Pairwise QX
structure I1(C:A3)(H:Hp)(x:A3)(ns:A0 Str)(qs:A0 IZ):Prop where
 ok:UQ ns qs
 ex:∃dx a b c d kc kd,H x=some (.ins C dx (wf a b c d))/\H a=some (.lst (ns.map V.str))/\H b=some (.lst (F8 qs))/\(∀q∈qs,G0 H q)/\H c=some (.dK kc)/\H d=some (.dK kd) /\
  (∀n∈ns,∃l,Z0 kc (.inr n)=some (.ref l)/\H l=some (.lst ((B2 qs n).map V.str)))/\∀n∈ns,∃l,Z0 kd (.inr n)=some (.ref l)/\H l=some (.lst ((C6 qs n).map V.str))
theorem LC:IL ["self","names","strikes","one","other"] ["self","names","strikes"] (B6 MT):=Kc
def Ea(K:VA)(C:A3):Sp:=λf H Q _=>∃(x g n:A3) (b:A0 Str) (a:A3) (ps:A0 IZ),f = [.ref x,.ref n,.ref a]/\H x=some (.ins C g [])/\RG K H n (b.map V.str)/\i6 b /\
 H a=some (.lst (F8 ps))/\(∀q∈ps,G0 H q)/\OG b ps/\∀c d e,c.Perm b->c.Pairwise NZ->d.Perm ps->d.Pairwise QX->Sm [x] H e->I1 C e x c d->(∀z h u,H z=some (.lst h)->I1 C (II e z u) x c d)->Q .non e
theorem T8(T:Tx K mg):IU P w K mg base JW 3 T.bH T.bG ["self","names","strikes"] (Ea K T.ac):=by
 refine T.bI.o1 LC λcdv A outer s H vs Q E hr h=>?_
 .obtain⟨x,r,n,ss,a,ps,rfl,hx,hS,hN,hP,hI,hO,k⟩:=h;have hu:=Q6 hr;refine⟨_,(A9 (J8 (D9 T.aZ (Eh T) (Rm hr) (A6 (pv 1) A8)))
   (A9 (J8 (D9 T.aS (Cc T) (Rm hr) (A6 (pv 1) (A6 (pv 2) A8))))
   (A9 (RC K (pv 0) (F9 (Xj K) T.ay K8 (A6 (pv 1) A8)))
   (A9 (RC K (pv 0) (F9 (Au K) T.ay K8 (A6 (pv 2) A8)))
   (A9 (RC K (pv 0) (Ot (N':=["name"]) (cap:=[none]) (cl:=[]) (P4 trivial trivial) rfl (MW K (LX K (pv 0))) (λ_ _ _ _=>by exact⟨(LS 0),P1,(pv 0),(E9 A8)⟩)))
   (A9 (RC K (pv 0) (Ot (N':=["name"]) (cap:=[none]) (cl:=[]) (P4 trivial trivial) rfl (MW K (LX K (pv 0))) (λ_ _ _ _=>by exact⟨(LS 0),P1,(pv 0),(E9 A8)⟩)))
   (B4 (W6 PassesOwn.never rfl (MW K (LX K (pv 0))) (RR K (n:=2) (E7 (I9 (i:=3) LC.nd rfl (.inl rfl)) (E7 (I9 (i:=4) LC.nd rfl (.inl rfl)) S5)))
   (A9 (J8 (Ph K VG VH VI U4 (V7 hu (LX K (pv 0)) (pv 4) (λ_ _=>rfl)) (A6 (pv 3) A8)))
   (B4 (J8 (Ph K VG VH VI U4 (V7 hu (LX K (pv 0)) (pv 3) (λ_ _=>rfl)) (A6 (pv 4) A8))))))))))))),?_⟩
  obtain⟨hN1,hN2,hN3⟩:=id hN;obtain⟨hO1,hO2,hO3⟩:=id hO;refine B3 λZ1 hZ1=>?_;refine C3 rfl ⟨n,ss,rfl,hS,hN,λH1 s1=>?_⟩;refine hZ1 _ _ (B3 λZ2 hZ2=>?_);refine C3 rfl (C3 rfl ⟨n,ss,a,ps,rfl,(s1.at n).seq hS,IR.of (s1 _ _ hP),G9 s1 hI,hO,λH2 s2=>?_⟩);refine hZ2 _ _ (B3 λZ3 hZ3=>?_);have s12:=s1.trans s2;refine C3 rfl ⟨n,ss,rfl,(s12.at n).seq hS,λp j hl1 p1 w1=>?_⟩;have U:x≠p:=B0 (s12 _ _ hx) hl1;refine C3 rfl ⟨x,T.ac,r,[],rfl,by rw[B7 U];exact s12 _ _ hx,T.ah,T.aM,by decide,?_⟩;have hxa:a≠x:=J4 hP hx (by intro z;cases z);have k3:Sm [x] H (II (II H2 p (.lst (j.map V.str))) x (.ins T.ac r (Q1 "names" (.ref p) []))):=(Sm.new s12.sm hl1).upd (by simp);have e3:(II (II H2 p (.lst (j.map V.str))) x (.ins T.ac r (Q1 "names" (.ref p) []))) p=some (.lst (j.map V.str)):=by rw[B7 U.symm,A7]
  generalize hH3:II (II H2 p (.lst (j.map V.str))) x (.ins T.ac r (Q1 "names" (.ref p) []))=H3 at k3 e3⊢;refine hZ3 _ _ (B3 λZ4 hZ4=>?_);have x3:H3 x=some (.ins T.ac r [("names",.ref p)]):=by rw[<-hH3,A7];rfl
  have t:∀{b:A3},b≠x->b∉[x]:=λh z=>h (AE.mp z);have pin3:∀q∈ps,G0 H3 q:=λq J=>k3 _ _ (hI q J) (t (J4 (hI q J) hx (by intro z;cases z)));refine C3 rfl ⟨a,ps,rfl,IR.of (k3 _ _ hP (t hxa)),pin3,λB D hl2 p2 w2=>?_⟩;have W:x≠B:=B0 x3 hl2;refine C3 rfl ⟨x,T.ac,r,[("names",.ref p)],rfl,by rw[B7 W];exact x3,T.ah,T.a9,by simp,?_⟩;have k4:Sm [x] H3 (II (II H3 B (.lst (F8 D))) x (.ins T.ac r (Q1 "strikes" (.ref B) [("names",.ref p)]))):=(Sm.new (Sm.refl _ _) hl2).upd (by simp);have e4:(II (II H3 B (.lst (F8 D))) x (.ins T.ac r (Q1 "strikes" (.ref B) [("names",.ref p)]))) B=some (.lst (F8 D)):=by rw[B7 W.symm,A7]
  have Z:(II (II H3 B (.lst (F8 D))) x (.ins T.ac r (Q1 "strikes" (.ref B) [("names",.ref p)]))) x=some (.ins T.ac r [("names",.ref p),("strikes",.ref B)]):=by rw[A7];rfl
  refine hZ4 _ _ ?_;show UH _ _ _ _ (II (II H3 B (.lst (F8 D))) x (.ins T.ac r (Q1 "strikes" (.ref B) [("names",.ref p)])));generalize II (II H3 B (.lst (F8 D))) x (.ins T.ac r (Q1 "strikes" (.ref B) [("names",.ref p)]))=H4 at k4 e4 Z⊢;have f4:H4 p=some (.lst (j.map V.str)):=k4 _ _ e3 (t U.symm);have C:∀q∈D,G0 H4 q:=λq J=>k4 _ _ (pin3 q (p2.mem_iff.mp J)) (t (J4 (pin3 q (p2.mem_iff.mp J)) x3 (by intro z;cases z)));have ndn:j.Nodup:=p1.nodup_iff.mpr hN2;have lnn:j.length<=1000:=by rw[p1.length_eq];lia
  refine B3 λZ5 hZ5=>?_;refine C3 rfl ⟨x,T.ac,r,_,C3 rfl ⟨Z,T.ah,T.aM,rfl,p,rfl,⟨_,IR.of f4⟩,λc hc=>Zp (K:=K) (PQ (IR.of f4)) ⟨_,rfl⟩ ndn lnn hc λ_ N H5 s5 e5 D5 c5 n5=>?_⟩⟩;have x5:=s5 _ _ Z;refine C3 rfl ⟨x,T.ac,r,C3 rfl ⟨x5,T.ah,T.aJ,by simp,?_⟩⟩;have k6:Sm [x] H5 (II H5 x (.ins T.ac r (Q1 "strikers_by_name" (.ref c) [("names",.ref p),("strikes",.ref B)]))):=(Sm.refl _ _).upd (by simp);have x6:(II H5 x (.ins T.ac r (Q1 "strikers_by_name" (.ref c) [("names",.ref p),("strikes",.ref B)]))) x=some (.ins T.ac r [("names",.ref p),("strikes",.ref B),("strikers_by_name",.ref c)]):=by rw[A7];rfl
  generalize II H5 x (.ins T.ac r (Q1 "strikers_by_name" (.ref c) [("names",.ref p),("strikes",.ref B)]))=H6 at k6 x6⊢;refine hZ5 _ _ (B3 λZ6 hZ6=>?_);have X:∀{b:A3} {o:HO},H4 b=some o->b≠x->H6 b=some o:=λe I=>k6 _ _ (s5 _ _ e) (t I);have f6:=X f4 U.symm;have g6:=X e4 W.symm;have c6:H6 c=some (.dK N):=k6 _ _ e5 (t (B0 Z hc).symm);have cl6:∀n∈j,H6 (la N n)=some (.lst []):=λn f=>k6 _ _ (c5 n f) (t (B0 Z (D5.fr n f)).symm);refine C3 rfl ⟨x,T.ac,r,_,C3 rfl ⟨x6,T.ah,T.aM,rfl,p,rfl,⟨_,IR.of f6⟩,λd hd=>Zp (K:=K) (PQ (IR.of f6)) ⟨_,rfl⟩ ndn lnn hd λ_ O H7 s7 e7 D7 c7 n7=>?_⟩⟩;have x7:=s7 _ _ x6;refine C3 rfl ⟨x,T.ac,r,C3 rfl ⟨x7,T.ah,T.aO,by simp,?_⟩⟩;have k8:Sm [x] H7 (II H7 x (.ins T.ac r (Q1 "struck_by_name" (.ref d) [("names",.ref p),("strikes",.ref B),("strikers_by_name",.ref c)]))):=(Sm.refl _ _).upd (by simp);have x8:(II H7 x (.ins T.ac r (Q1 "struck_by_name" (.ref d) [("names",.ref p),("strikes",.ref B),("strikers_by_name",.ref c)]))) x=some (.ins T.ac r (wf p B c d)):=by rw[A7];rfl
  generalize II H7 x (.ins T.ac r (Q1 "struck_by_name" (.ref d) [("names",.ref p),("strikes",.ref B),("strikers_by_name",.ref c)]))=H8 at k8 x8⊢;refine hZ6 _ _ ?_;have Y:∀{b:A3} {o:HO},H6 b=some o->b≠x->H8 b=some o:=λe I=>k8 _ _ (s7 _ _ e) (t I);have f8:=Y f6 U.symm;have g8:=Y g6 W.symm;have c8:=Y c6 (B0 Z hc).symm;have d8:H8 d=some (.dK O):=k8 _ _ e7 (t (B0 x6 hd).symm);have cl8:∀n∈j,H8 (la N n)=some (.lst []):=λn f=>Y (cl6 n f) (B0 Z (D5.fr n f)).symm;have dl8:∀n∈j,H8 (la O n)=some (.lst []):=λn f=>k8 _ _ (c7 n f) (t (B0 x6 (D7.fr n f)).symm);have pin8:∀q∈D,G0 H8 q:=λq J=>Y (X (C q J) (J4 (C q J) Z (by intro z;cases z))) (J4 (C q J) Z (by intro z;cases z));have dif:∀n∈j,∀m∈j,la N n≠la O m:=λn f m M=>B0 (cl6 n f) (D7.fr m M);have L:∀{b:A3} {o:HO},H4 b=some o->b≠x->(∀n∈j,b≠la N n)/\∀n∈j,b≠la O n:=λe I=>⟨λn f=>B0 e (D5.fr n f),λn f=>B0 (X e I) (D7.fr n f)⟩;have kall:Sm [x] H H8:=λb o e I=>by
   have hb':b≠x:=λz=>I (by simp[z]);exact Y (X (k4 _ _ (k3 _ _ e I) I) hb') hb'
  have odif:∀{b:A3} {o:HO},H b=some o->b≠x->(∀n∈j,b≠la N n)/\∀n∈j,b≠la O n:=λe I=>L (k4 _ _ (k3 _ _ e (t I)) (t I)) I;have xdif:(∀n∈j,x≠la N n)/\∀n∈j,x≠la O n:=⟨λn f=>B0 Z (D5.fr n f),λn f=>B0 x6 (D7.fr n f)⟩;have cdif:(∀n∈j,c≠la N n)/\∀n∈j,c≠la O n:=⟨λn f=>(n5 n f).symm,λn f=>B0 c6 (D7.fr n f)⟩;have ddif:(∀n∈j,d≠la N n)/\∀n∈j,d≠la O n:=⟨λn f=>(B0 (cl6 n f) hd).symm,λn f=>(n7 n f).symm⟩;refine⟨_,rfl,x,T.ac,r,_,_,rfl,x8,T.ah,T.a9,rfl,B,rfl,⟨_,IR.of g8⟩,Di (PQ (IR.of g8)) (λi σ S=>(∃v3 v4,σ = [some (.ref x),some (.ref n),some (.ref a),v3,v4]) /\
   (∀b o,H8 b=some o->((∀n∈j,b≠la N n)/\∀n∈j,b≠la O n)->S b=some o)/\(∀n∈j,S (la N n)=some (.lst ((B2 (D.take i) n).map V.str)))/\∀n∈j,S (la O n)=some (.lst ((C6 (D.take i) n).map V.str)))
   ⟨⟨_,_,rfl⟩,λb o e _=>e,cl8,dl8⟩ ?_ ?_ ?_⟩
  .rintro i σ S _ ⟨_,R,_⟩ o e;exact R _ _ e (L e4 W.symm)
  .rintro i σ S v hv ⟨⟨v3,v4,rfl⟩,R,h2,h3⟩ D1 hD1 _;unfold F8 at hv;rw[AJ]at hv;cases J:D[i]? with
   | none=>rw[J]at hv;cases hv
   | some q =>
    rw[J]at hv;cases hv;have M:q∈D:=AZ J;have hq9:G0 S q:=R _ _ (pin8 q M) (L (C q M) (J4 (C q M) Z (by intro z;cases z)));obtain⟨m1,m2⟩:=hO1 q (p2.mem_iff.mp M);have m1:q.2.1∈j:=p1.mem_iff.mpr m1;have m2:q.2.2∈j:=p1.mem_iff.mpr m2;have hlen:∀l:A0 IZ,l.length<=200->∀n,(B2 l n).length<=200/\(C6 l n).length<=200:=λl hl n=>by
     unfold B2 C6;rw[AB,AB];exact⟨VE (BC ..) hl,VE (BC ..) hl⟩
    have hl200:(D.take i).length<=200:=by
     rw[AX];have:=p2.length_eq;lia
    have x9:S x=some (.ins T.ac r (wf p B c d)):=R _ _ x8 xdif;refine⟨q.1,C3 rfl ⟨JG.of hq9,rfl,_,C3 rfl (C4 rfl rfl ?_)⟩⟩;refine C3 rfl ⟨x,T.ac,r,_,C3 rfl ⟨x9,T.ah,T.aJ,rfl,C3 rfl ⟨c,.ref (la N q.2.2),rfl,by rw[<-D5.val _ m2];exact LW.k (k:=Sum.inr q.2.2) (R _ _ c8 cdif),.inl ⟨rfl,_,IR.of (h2 _ m2)⟩,C3 rfl ⟨_,C4 rfl rfl ⟨h2 _ m2,?_,?_⟩⟩⟩⟩⟩
    .rw[AB,sizeLine_eq];have:=(hlen _ hl200 q.2.2).1;lia
    have x10:(II S (la N q.2.2) (.lst ((B2 (D.take i) q.2.2).map V.str ++ [.str q.2.1]))) x=some (.ins T.ac r (wf p B c d)):=by rw[B7 (xdif.1 _ m2)];exact x9
    have d10:(II S (la N q.2.2) (.lst ((B2 (D.take i) q.2.2).map V.str ++ [.str q.2.1]))) d=some (.dK O):=by rw[B7 (ddif.1 _ m2)];exact R _ _ d8 ddif
    have l10:(II S (la N q.2.2) (.lst ((B2 (D.take i) q.2.2).map V.str ++ [.str q.2.1]))) (la O q.2.1)=some (.lst ((C6 (D.take i) q.2.1).map V.str)):=by rw[B7 (dif _ m2 _ m1).symm];exact h3 _ m1
    refine C3 rfl ⟨x,T.ac,r,_,C3 rfl ⟨x10,T.ah,T.aO,rfl,C3 rfl ⟨d,.ref (la O q.2.1),rfl,by rw[<-D7.val _ m1];exact LW.k (k:=Sum.inr q.2.1) d10,.inl ⟨rfl,_,IR.of l10⟩,C3 rfl ⟨_,C4 rfl rfl ⟨l10,?_,?_⟩⟩⟩⟩⟩
    .rw[AB,sizeLine_eq];have:=(hlen _ hl200 q.2.1).2;lia
    refine hD1 _ _ ⟨⟨_,_,rfl⟩,λb o e I=>?_,λm M=>?_,λm M=>?_⟩
    .rw[B7 (I.2 _ m1),B7 (I.1 _ m2)];exact R b o e I
    .rw[B7 (dif m M _ m1),E4 J,Eb];by_cases e:q.2.2=m
     .rw[<-e,A7,AO rfl,AH];rfl
     .rw[AI e,CC,B7 (λz=>e (D5.inj _ M _ m2 z).symm)];exact h2 m M
    .rw[E4 J,Hg];by_cases e:q.2.1=m
     .rw[<-e,A7,AO rfl,AH];rfl
     .rw[AI e,CC,B7 (λz=>e (D7.inj _ M _ m1 z).symm),B7 (dif _ m2 _ M).symm];exact h3 m M
  .rintro σ S ⟨_,R,h2,h3⟩;have hlq:(F8 D).length=D.length:=by unfold F8;rw[AB]
   rw[hlq,BP]at h2 h3;have mk:∀G:Hp,(∀b o,S b=some o->(b=x\/b=p\/b=B\/b=c\/b=d\/(∃q∈D,b=q.1)\/(∃n∈j,b=la N n)\/∃n∈j,b=la O n)->G b=some o)->I1 T.ac G x j D:=λG g =>
    ⟨⟨ndn,by rw[p1.length_eq];exact hN3,w1,λq J=>⟨p1.mem_iff.mpr (hO1 q (p2.mem_iff.mp J)).1,p1.mem_iff.mpr (hO1 q (p2.mem_iff.mp J)).2⟩,(p2.map _).nodup_iff.mpr hO2,by rw[p2.length_eq];exact hO3,w2⟩,r,p,B,c,d,N,O,g _ _ (R _ _ x8 xdif) (.inl rfl),g _ _ (R _ _ f8 (L f4 U.symm)) (.inr (.inl rfl)),g _ _ (R _ _ g8 (L e4 W.symm)) (.inr (.inr (.inl rfl))),
     λq M=>g _ _ (R _ _ (pin8 q M) (L (C q M) (J4 (C q M) Z (by intro z;cases z)))) (.inr (.inr (.inr (.inr (.inr (.inl ⟨q,M,rfl⟩)))))),g _ _ (R _ _ c8 cdif) (.inr (.inr (.inr (.inl rfl)))),g _ _ (R _ _ d8 ddif) (.inr (.inr (.inr (.inr (.inl rfl))))),
     λn f=>⟨_,D5.val n f,g _ _ (h2 n f) (.inr (.inr (.inr (.inr (.inr (.inr (.inl ⟨n,f,rfl⟩)))))))⟩,λn f=>⟨_,D7.val n f,g _ _ (h3 n f) (.inr (.inr (.inr (.inr (.inr (.inr (.inr ⟨n,f,rfl⟩)))))))⟩⟩
   refine k j D S p1 w1 p2 w2 (λb o e I=>?_) (mk S λb o e _=>e) λz zs u hz=>mk _ λb o e I=>?_
   .have hb':b≠x:=λz=>I (by simp[z]);exact R _ _ (kall b o e I) (odif e hb')
   .have zx:z≠x:=J4 hz hx (by intro y;cases y);have z3:=k3 _ _ hz (t zx);have z4:=k4 _ _ z3 (t zx);have nz:b≠z:=by
     rcases I with rfl | rfl | rfl | rfl | rfl | ⟨q,J,rfl⟩ | ⟨n,f,rfl⟩ | ⟨n,f,rfl⟩
     .exact zx.symm
     .exact(B0 (s12 _ _ hz) hl1).symm
     .exact(B0 z3 hl2).symm
     .exact(B0 z4 hc).symm
     .exact(B0 (X z4 zx) hd).symm
     .exact J4 (hI q (p2.mem_iff.mp J)) hz (by intro y;cases y)
     .exact((odif hz zx).1 n f).symm
     .exact((odif hz zx).2 n f).symm
    rw[B7 nz];exact e
def I1.same{C:A3}{H H':Hp}{x:A3}{ns:A0 Str}{g:A0 IZ}(h:I1 C H x ns g)(s:Cv H H'):I1 C H' x ns g:=by
 obtain⟨i,j,a,b,c,d,k,m,o,p,q,r,t,u,w,y⟩:=h;exact⟨i,j,a,b,c,d,k,m,s _ _ o,s _ _ p,s _ _ q,G9 s r,s _ _ t,s _ _ u,λn f=>let⟨l,v,e⟩:=w n f;⟨l,v,s _ _ e⟩,λn f=>let⟨l,v,e⟩:=y n f;⟨l,v,s _ _ e⟩⟩
theorem Cf:IL ["self"] ["self"] (B6 MF):=Kc
def Ig(C:A3):Sp:=λb H Q _=>∃(x:A3) (a:A0 Str) (c:A0 IZ),b = [.ref x]/\I1 C H x a c/\∀l,H l=none->Q (.ref l) (II H l (.lst (a.map V.str)))
theorem E6(T:Tx K mg):IU P w K mg base JW 1 T.ad.f T.ad.fd ["self"] (Ig T.ac):=by
 refine T.ad.F.o1 Cf λg A e s H m Q E n h=>?_
 .obtain⟨x,o,p,rfl,⟨q,i,a,b,c,d,r,t,j,l,u,v,y,z,B,C⟩,k⟩:=h;refine⟨_,(B4 (C0 (g7 (T7 K) T.az Q0 (A6 (LX K (pv 0)) A8)))),?_⟩;exact⟨_,rfl,x,T.ac,i,_,_,rfl,j,T.ah,T.aM,rfl,a,_,rfl,.inl (IR.of l),k⟩
theorem Y8:IL ["self","name"] ["self","name"] (B6 ME):=Kc
def Jh(C:A3):Sp:=λb H Q _=>∃(x:A3) (n:Str) (a:A0 Str) (c:A0 IZ),b = [.ref x,.str n]/\I1 C H x a c/\n∈a/\Q .non H
theorem Q7(T:Tx K mg):IU P w K mg base JW 1 T.af.f T.af.fd ["self","name"] (Jh T.ac):=by
 refine T.af.F.o1 Y8 λg A e s H o Q E p h=>?_
 .obtain⟨x,n,q,r,rfl,⟨t,i,a,b,c,d,u,v,j,l,y,z,B,C,D,G⟩,m,k⟩:=h;refine⟨_,(B4 (K0 (B8 (X8 K) (pv 1) (LX K (pv 0)) rfl) (B4 m8) D0)),?_⟩;refine C3 rfl (C3 rfl ⟨x,T.ac,i,_,C3 rfl ⟨j,T.ah,T.aM,rfl,T9 (.inl (IR.of l)) ⟨_,rfl,?_⟩⟩⟩);rw[AQ m];exact O9 k
theorem Ag:IL ["self"] ["self"] (B6 LM):=Kc
def Ei(C:A3):Sp:=λb H Q _=>∃(x:A3) (c:A0 Str) (a:A0 IZ),b = [.ref x]/\I1 C H x c a/\∀l,H l=none->Q (.ref l) (II H l (.lst (F8 a)))
theorem J2(T:Tx K mg):IU P w K mg base JW 1 T.ag.f T.ag.fd ["self"] (Ei T.ac):=by
 refine T.ag.F.o1 Ag λg A e s H m Q E n h=>?_
 .obtain⟨x,o,p,rfl,⟨q,i,a,b,c,d,r,t,j,u,l,v,y,z,B,C⟩,k⟩:=h;refine⟨_,(B4 (C0 (g7 (T7 K) T.az Q0 (A6 (LX K (pv 0)) A8)))),?_⟩;exact⟨_,rfl,x,T.ac,i,_,_,rfl,j,T.ah,T.a9,rfl,b,_,rfl,.inl (IR.of l),k⟩
theorem Ad:IL ["self","name"] ["self","name"] (B6 NY):=Kc
def Ts(C:A3):Sp:=λc H Q _=>∃(x:A3) (n:Str) (a:A0 Str) (b:A0 IZ),c = [.ref x,.str n]/\I1 C H x a b/\n∈a/\∀l,H l=none->Q (.ref l) (II H l (.lst ((C6 b n).map V.str)))
theorem V0(T:Tx K mg):IU P w K mg base JW 2 T.al.f T.al.fd ["self","name"] (Ts T.ac):=by
 refine T.al.F.o1 Ad λr A g s H C Q E i h=>?_
 .obtain⟨x,n,t,u,rfl,j,o,k⟩:=h;have y:=Q6 i;obtain⟨D,p,a,b,c,d,G,I,q,J,L,M,N,z,O,B⟩:=id j;refine⟨_,(A9 (J8 (M0 (pv 0) T.ah T.af.m (Q7 T) (Rm i) T.af.b .nil J1 (A6 (pv 1) A8)))
   (B4 (C0 (g7 (T7 K) T.az Q0 (A6 (V7 y (LX K (pv 0)) (pv 1) (λ_ _=>rfl)) A8))))),?_⟩
  refine C3 rfl ⟨x,p,C3 rfl ⟨q,rfl,C3 rfl ⟨x,n,t,u,rfl,j,o,?_⟩⟩⟩;obtain⟨l,v,e⟩:=B n o;exact⟨_,rfl,x,T.ac,p,_,_,rfl,q,T.ah,T.aO,rfl,_,rfl,d,_,rfl,by rw[<-v];exact LW.k (k:=Sum.inr n) z,l,_,rfl,.inl (IR.of e),k⟩
theorem a7:IL ["self","name"] ["self","name"] (B6 MS):=Kc
def Lx(C:A3):Sp:=λc H Q _=>∃(x:A3) (n:Str) (a:A0 Str) (b:A0 IZ),c = [.ref x,.str n]/\I1 C H x a b/\n∈a/\∀l,H l=none->Q (.ref l) (II H l (.lst ((B2 b n).map V.str)))
theorem V5(T:Tx K mg):IU P w K mg base JW 2 T.aj.f T.aj.fd ["self","name"] (Lx T.ac):=by
 refine T.aj.F.o1 a7 λr A g s H C Q E i h=>?_
 .obtain⟨x,n,t,u,rfl,j,o,k⟩:=h;have y:=Q6 i;obtain⟨D,p,a,b,c,d,G,I,q,J,L,M,z,N,B,O⟩:=id j;refine⟨_,(A9 (J8 (M0 (pv 0) T.ah T.af.m (Q7 T) (Rm i) T.af.b .nil J1 (A6 (pv 1) A8)))
   (B4 (C0 (g7 (T7 K) T.az Q0 (A6 (V7 y (LX K (pv 0)) (pv 1) (λ_ _=>rfl)) A8))))),?_⟩
  refine C3 rfl ⟨x,p,C3 rfl ⟨q,rfl,C3 rfl ⟨x,n,t,u,rfl,j,o,?_⟩⟩⟩;obtain⟨l,v,e⟩:=B n o;exact⟨_,rfl,x,T.ac,p,_,_,rfl,q,T.ah,T.aJ,rfl,_,rfl,c,_,rfl,by rw[<-v];exact LW.k (k:=Sum.inr n) z,l,_,rfl,.inl (IR.of e),k⟩
def V3{K:VA}{a D:A3}{ts:A0 Str}{r:St}{k:TT}{H:Hp}{Q:St->Hp->Prop}(p:Str->Bool)(e:H a=some (.lst (ts.map V.str)))(w:ts.length<=1000)(l:H D=none)
  (x:∀y∈ts,∀j,Cv H j->∀m:Bool->Hp->Prop,(∀f,Cv j f->m (p y) f)->k (some (.str y)::r) j m) (h:∀σ f,Cv H f->f D=some (.lst ((ts.filter p).map V.str))->Q σ f) (n:A5 V) :
  Bi (Q4 0) k (Z8 D (X0 0)) (QS K a) (n::r) (II H D (.lst [])) Q:=by
 refine Q3 (PQ (K:=K) (IR.of e)) (λi σ g=>(∃v,σ=v::r)/\Cv H g/\g D=some (.lst (((ts.take i).filter p).map V.str)))
  ⟨⟨_,rfl⟩,Cv.new l,A7⟩ (λi σ j _ ⟨_,z,_⟩=>z.at a) ?_ ?_
 .rintro i σ g v N o ⟨⟨n,rfl⟩,b,d⟩ q;rw[AJ]at o;obtain⟨y,s,rfl⟩:=BG.mp o;refine x y (AZ s) g b _ λA t=>?_;have d:=t _ _ d;have b:=b.trans t;have u:(ts.take (i+1)).filter p =(ts.take i).filter p++if p y=true then [y]else []:=by
   rw[E4 s,CV,BR,DZ]
  have B:(((ts.take i).filter p).map V.str).length<=1000:=by
   rw[AB];have:=BC p (ts.take i);rw[AX]at this;lia
  refine w8 (λc=>C3 rfl ⟨_,d,by rw[sizeLine_eq];lia,q _ _ ⟨⟨_,rfl⟩,b.upd l,?_⟩⟩) (λc=>q _ _ ⟨⟨_,rfl⟩,b,?_⟩)
  .rw[A7,u,AO c,AH];rfl
  .rw[u,AI c,CC];exact d
 .rintro σ g ⟨_,b,d⟩;rw[AB,BP]at d;exact h σ g b d
abbrev PM:Str := "in"
abbrev LK:Str := "out"
abbrev OQ:Str := "open"
def WD(kvs:A0 (JB×V))(f:Str->A5 Str):Prop:=∀n,Z0 kvs (.inr n) =(f n).map V.str
def Zi(f:Str->A5 Str)(l:A0 Str)(w:Str)(n:Str):A5 Str:=if n∈l then some w else f n
def Q2{f:Str->A5 Str}{l:A0 Str}{w n:Str}(h:n∈l):Zi f l w n=some w:=AO h
def K7{f:Str->A5 Str}{l:A0 Str}{w n:Str}(h:n∉l):Zi f l w n=f n:=AI h
def WD.mrg{w:Str}:∀{l:A0 Str} {kvs:A0 (JB×V)} {f:Str->A5 Str},WD kvs f->WD (Av kvs (l.map λn=>(Sum.inr n,V.str w))) (Zi f l w)
 | [],_,_,h=>λn=>by rw[K7 A_];exact h n
 | a::l,kvs,f,h=>λn=>by
  have c:WD (Cl kvs (.inr a) (.str w)) (Zi f [a] w):=λm=>by
   rw[Dk];by_cases e:m=a
   .rw[AO e,Q2 (AE.mpr e)];rfl
   .rw[AI e,K7 λz=>e (AE.mp z)];exact h m
  refine(WD.mrg (l:=l) c n).trans ?_;by_cases e:n∈l
  .rw[Q2 e,Q2 (AM _ e)]
  .rw[K7 e];by_cases b:n=a
   .rw[Q2 (AE.mpr b),Q2 (b▸BA ..)]
   .rw[K7 λz=>b (AE.mp z),K7 λz=>(AV.mp z).elim b e]
def C9(a:A0 IZ)(f:Str->A5 Str)(n:Str):Bool:=((B2 a n).map λy=>decide (f y=some LK)).all id
def P8(a:A0 IZ)(f:Str->A5 Str)(n:Str):Bool:=((B2 a n).map λy=>decide (f y=some PM)).any id
def PF{b:A0 IZ}{f:Str->A5 Str}{n:Str}:C9 b f n=true↔∀y∈B2 b n,f y=some LK:=by
 unfold C9;rw[List.all_map,EA];exact⟨λh y a=>BL (h y a),λh y a=>AQ (h y a)⟩
def P6{b:A0 IZ}{f:Str->A5 Str}{n:Str}:P8 b f n=true↔∃y∈B2 b n,f y=some PM:=by
 unfold P8;rw[List.any_map,GU];exact⟨λ⟨y,a,h⟩=>⟨y,a,BL h⟩,λ⟨y,a,h⟩=>⟨y,a,AQ h⟩⟩
def zEs{K:VA}{a D:A3}{ts:A0 Str}{r:St}{l:TE}{H:Hp}{Q:St->Hp->Prop}(g:Str->V)(e:H a=some (.lst (ts.map V.str)))(s:ts.length<=1000)(m:H D=none)
  (t:∀y∈ts,∀d,Cv H d->∀n:VK,(∀b,Cv d b->n (g y) b)->l (some (.str y)::r) d n) (h:∀σ b,Cv H b->b D=some (.lst (ts.map g))->Q σ b) (o:A5 V) :
  Bi (Q4 0) Ef (Z8 D l) (QS K a) (o::r) (II H D (.lst [])) Q:=by
 refine Q3 (PQ (K:=K) (IR.of e)) (λi σ c=>(∃v,σ=v::r)/\Cv H c/\c D=some (.lst ((ts.take i).map g)))
  ⟨⟨_,rfl⟩,Cv.new m,A7⟩ (λi σ d _ ⟨_,u,_⟩=>u.at a) ?_ ?_
 .rintro i σ c v N p ⟨⟨o,rfl⟩,f,j⟩ w;rw[AJ]at p;obtain⟨y,k,rfl⟩:=BG.mp p;have x:=(AK.mp k).1;refine By (t y (AZ k) c f _ λz q=>⟨_,q _ _ j,?_,w _ _ ⟨⟨_,rfl⟩,(f.trans q).upd m,?_⟩⟩)
  .rw[AB,AX,sizeLine_eq];lia
  .rw[A7,E4 k,AH];rfl
 .rintro σ c ⟨_,f,j⟩;rw[AB,BP]at j;exact h σ c f j
def Nk{K:VA}{a D:A3}{ts:A0 Str}{r:St}{f:TE}{H:Hp}{Q:St->Hp->Prop}(p:Str->Bool)(e:H a=some (.lst (ts.map V.str)))(c:ts.length<=1000)(j:H D=none)
  (k:∀y∈ts,∀d,Cv H d->∀g:VK,(∀b,Cv d b->g (.bl (p y)) b)->f (some (.str y)::r) d g) (h:∀σ b,Cv H b->b D=some (.lst ((ts.map p).map V.bl))->Q σ b) (i:A5 V) :
  Bi (Q4 0) Ef (Z8 D f) (QS K a) (i::r) (II H D (.lst [])) Q:=zEs (λy=>V.bl (p y)) e c j k (λσ b l m=>h σ b l (by rw[m,B_];rfl)) i
def Mb{K:VA}{a D:A3}{ts:A0 Str}{w:Str}{H:Hp}{Q:St->Hp->Prop}(e:H a=some (.lst (ts.map V.str)))(o:ts.Nodup)(p:ts.length<=1000)(k:H D=none)
  (h:∀σ f,Cv H f->f D=some (.dK (ts.map λn=>(Sum.inr n,V.str w)))->Q σ f) (l:A5 V) :
  Bi (Q4 0) Ef (Gc D (X0 0) (tC (.str w))) (QS K a) [l] (II H D (.dK [])) Q:=by
 refine Q3 (PQ (K:=K) (IR.of e)) (λi σ b=>(∃v,σ = [v])/\Cv H b/\b D=some (.dK ((ts.take i).map λn=>(Sum.inr n,V.str w))))
  ⟨⟨_,rfl⟩,Cv.new k,A7⟩ (λi σ t _ ⟨_,q,_⟩=>q.at a) ?_ ?_
 .rintro i σ b v N m ⟨⟨l,rfl⟩,g,d⟩ r;rw[AJ]at m;obtain⟨y,j,rfl⟩:=BG.mp m;have u:=(AK.mp j).1;refine By (C3 rfl ⟨_,.inr y,d,rfl,?_,r _ _ ⟨⟨_,rfl⟩,g.upd k,?_⟩⟩)
  .rw[AB,AX,sizeLine_eq];lia
  .rw[A7];unfold Cl;rw[AI,E4 j,AH];rfl;rw[List.any_map,GU];rintro⟨z,s,c⟩;have c:(Sum.inr z:JB) = .inr y:=BL c;cases c;exact j9 o j s
 .rintro σ b ⟨_,g,d⟩;rw[AB,BP]at d;exact h σ b g d
abbrev Row:Type:=Str×Str×V
def RL(H:Hp)(l:A3)(a:A0 (A3×Row)):Prop:=H l=some (.lst (a.map λq=>V.ref q.1))/\∀q∈a,H q.1=some (.tup [.str q.2.1,.str q.2.2.1,q.2.2.2])
def RL.same{H H':Hp}{l:A3}{a:A0 (A3×Row)}(h:RL H l a)(s:Cv H H'):RL H' l a:=⟨s _ _ h.1,λq b=>s _ _ (h.2 q b)⟩
def RL.app{H H':Hp}{a b c:A3}{d ts:A0 (A3×Row)}(h:RL H a d)(h':RL H b ts)(e:H' c=some (.lst ((d.map λq=>V.ref q.1)++ts.map λq=>V.ref q.1)))(k:∀q o,H q=some (.tup o)->H' q=some (.tup o)):RL H' c (d++ts) :=
 ⟨by rw[e,AH],λq f=>k _ _ ((AN.mp f).elim (h.2 q) (h'.2 q))⟩
def zCe{K:VA}{a D:A3}{ts:A0 Str}{B:TA}{r:St}{H:Hp}{Q:St->Hp->Prop}{C:TT}(p:Str->Bool)(g:Str->A0 V)(L:∀y,(g y).length<=3)(e:H a=some (.lst (ts.map V.str)))(M:ts.length<=1000)(E:H D=none)(O:∀y d (l:A0 V->Hp->Prop),l (g y) d->B (some (.str y)::r) d l)
  (s:∀y∈ts,∀d,Cv H d->∀l:Bool->Hp->Prop,l (p y) d->C (some (.str y)::r) d l)
  (h:∀σ (b:A0 (A3×Str)) u,Cv H u->u D=some (.lst (b.map λq=>V.ref q.1))->(∀q∈b,u q.1=some (.tup (g q.2)))->b.map (λq=>q.2)=ts.filter p->Q σ u) (F:A5 V) :
  Bi (Q4 0) C (Z8 D (zGt B)) (QS K a) (F::r) (II H D (.lst [])) Q:=by
 refine Q3 (PQ (K:=K) (IR.of e)) (λi σ f=>(∃v,σ=v::r)/\Cv H f/\∃b:A0 (A3×Str),f D=some (.lst (b.map λq=>V.ref q.1))/\(∀q∈b,f q.1=some (.tup (g q.2)))/\b.map (λq=>q.2) =(ts.take i).filter p)
  ⟨⟨_,rfl⟩,Cv.new E,[],A7,λq h=>absurd h A_,rfl⟩ (λi σ d _ ⟨_,P,_⟩=>P.at a) ?_ ?_
 .rintro i σ f v N G ⟨⟨F,rfl⟩,m,b,j,n,k⟩ I;rw[AJ]at G;obtain⟨y,w,rfl⟩:=BG.mp G;have U:=(AK.mp w).1;have R:=congrArg List.length k;rw[AB]at R;have S:=BC p (ts.take i);rw[AX]at S;have J:(ts.take (i+1)).filter p =(ts.take i).filter p++if p y=true then [y]else []:=by
   rw[E4 w,CV,BR,DZ]
  refine s y (AZ w) f m _ ?_;refine w8 (λc=>O _ _ _ ⟨VE (L y) (by show 3<=sizeLine;decide),λt s=>?_⟩) (λc=>I _ _ ⟨⟨_,rfl⟩,m,b,j,n,by rw[J,AI c,CC];exact k⟩);have x:=Cv.new (o:=.tup (g y)) s;have A:t≠D:=(B0 j s).symm;refine⟨_,x _ _ j,by rw[AB,sizeLine_eq];lia,I _ _ ⟨⟨_,rfl⟩,(m.trans x).upd E,b ++ [(t,y)],by rw[A7,AH];rfl,λq T=>?_,by rw[J,AO c,AH,k];rfl⟩⟩;rcases AN.mp T with c | c
  .exact(B7 (J4 (n q c) j (by intro z;cases z))).trans (x _ _ (n q c))
  .rw[AE.mp c];exact(B7 A).trans A7
 .rintro σ f ⟨_,m,b,j,n,k⟩;rw[AB,BP]at k;exact h σ b f m j n k
def Kf{K:VA}{a D:A3}{ts:A0 Str}{w:Str}{v3:V}{j:TE}{r:St}{H:Hp}{Q:St->Hp->Prop}{k:TT}(p:Str->Bool)(e:H a=some (.lst (ts.map V.str)))(g:ts.length<=1000)(m:H D=none)(o:∀y b (c:VK),c v3 b->j (some (.str y)::r) b c)
  (s:∀y∈ts,∀b,Cv H b->∀c:Bool->Hp->Prop,c (p y) b->k (some (.str y)::r) b c)
  (h:∀σ f d,Cv H d->RL d D f->f.map (λq=>q.2) =(ts.filter p).map (λn=>(n,w,v3))->Q σ d) (l:A5 V) :
  Bi (Q4 0) k (Z8 D (zGt (U9 (X0 0) (U9 (tC (.str w)) (U9 j Fh))))) (QS K a) (l::r) (II H D (.lst [])) Q :=
 zCe p (λy=>[.str y,.str w,v3]) (λ_=>VD _) e g m (λy b c i=>⟨_,rfl,o _ _ _ i⟩) s (λσ f d t u v x=>h σ (f.map λq=>(q.1,q.2,w,v3)) d t ⟨by rw[u,B_];rfl,λq i=>let⟨z,A,e⟩:=BJ.mp i;e▸v z A⟩ (by rw[<-x,B_,B_];rfl)) l
def Aw{l:A0 Str}:l.filter (λ_=>true)=l:=List.filter_eq_self.mpr λ_ _=>rfl
def Kd(C:A3):Sp:=λe H Q _=>∃(x d:A3) (c:A0 Str) (g:A0 IZ) (a:A0 (JB×V)) (f:Str->A5 Str),e = [.ref x,.ref d]/\I1 C H x c g/\H d=some (.dK a)/\WD a f/\∀l b,Cv H b->H l=none->b l=some (.lst ((c.filter λn=>(f n).isNone).map V.str))->Q (.ref l) b
theorem Kh:IL ["web","words"] ["web","words"] (B6 OT):=Kc
theorem y3(T:Tx K mg):IU P w K mg base JW 2 T.aV.f T.aV.fd ["web","words"] (Kd T.ac):=by
 refine T.aV.F.o1 Kh λz A j s H S Q E r h=>?_
 .obtain⟨x,d,a,B,C,f,rfl,t,G,I,k⟩:=h;have J:=Q6 r;refine⟨_,(B4 (C0 (W9 (N':=["name","words"]) (cap:=[none,some 1]) (cl:=[("words",_)]) (P4 ⟨⟨rfl,rfl,rfl,rfl⟩,trivial⟩ ⟨rfl,trivial⟩) rfl (MW K (F5 (pv 0) T.ah T.ad.m (E6 T) (Rm r) T.ad.b .nil J1)) (λ_ _ _ _=>by exact⟨(LS 0),(P0 (zGe (Tg J (pv 0) (pv 1)))),(pv 0)⟩)))),?_⟩;obtain⟨L,M,U,b,c,W,X,Y,N,_⟩:=id t;have Z:=L.len;refine C3 rfl ⟨x,M,C3 rfl ⟨N,rfl,x,a,B,rfl,t,λg l=>?_⟩⟩;have i:=Cv.new (o:=.lst (a.map V.str)) l;have p:(II H g (.lst (a.map V.str))) g=some (.lst (a.map V.str)):=A7;generalize II H g (.lst (a.map V.str))=H2 at i p⊢;refine⟨g,rfl,⟨_,IR.of p⟩,λD u=>?_⟩;refine V3 (λn=>(f n).isNone) p (by lia) u (λy hy v q Q' O=>?_) (λσ v q R=>k D v (i.trans q) (i.free u) R) _;refine C3 rfl (C3 rfl ⟨d,_,rfl,LW.k (k:=Sum.inr y) (q _ _ (i _ _ G)),_,rfl,?_⟩);rw[I y];have e:(!((f y).map V.str).isSome) =(f y).isNone:=by cases f y<;>rfl
  rw[e];exact O _ λb o e=>e
def Pu(C:A3):Sp:=λg H Q _=>∃(x d:A3) (n:Str) (b:A0 Str) (c:A0 IZ) (a:A0 (JB×V)) (f:Str->A5 Str),g = [.ref x,.ref d,.str n]/\I1 C H x b c/\n∈b/\H d=some (.dK a)/\WD a f/\∀e,Cv H e->Q (.bl (C9 c f n)) e
def Tv(C:A3):Sp:=λg H Q _=>∃(x d:A3) (n:Str) (b:A0 Str) (c:A0 IZ) (a:A0 (JB×V)) (f:Str->A5 Str),g = [.ref x,.ref d,.str n]/\I1 C H x b c/\n∈b/\H d=some (.dK a)/\WD a f/\∀e,Cv H e->Q (.bl (P8 c f n)) e
theorem Zj{H:Hp}{d:A3}{kvs:A0 (JB×V)}{f:Str->A5 Str}{y w:Str}{r:St}{Q:VK}(a:H d=some (.dK kvs))(b:WD kvs f)(h:Q (.bl (decide (f y=some w))) H):PN rEq (Se (X0 1) (X0 0)) (tC (.str w)) (some (.str y)::some (.ref d)::r) H Q:=by
 refine C3 rfl ⟨d,rfl,.inl ⟨kvs,.inl a⟩,C3 rfl ⟨_,LW.k (k:=Sum.inr y) a,?_⟩⟩;rw[b y];cases e:f y with
 | none=>rw[e]at h;exact⟨rfl,h⟩
 | some z =>
  rw[e]at h;refine⟨rfl,?_⟩;have g:decide (V.str z=V.str w)=decide (some z=some w):=ER.mpr ⟨λc=>by injection c with c;rw[c],λc=>by injection c with c;rw[c]⟩;show Q (.bl (decide (V.str z=V.str w))) H;rw[g];exact h
theorem Pr:IL ["web","words","name"] ["web","words","name"] (B6 PZ):=Kc
theorem Qq:IL ["web","words","name"] ["web","words","name"] (B6 QJ):=Kc
theorem Pf(T:Tx K mg):IU P w K mg base JW 3 T.bl.f T.bl.fd ["web","words","name"] (Pu T.ac):=by
 refine T.bl.F.o1 Pr λv A i s H U Q E r h=>?_
 .obtain⟨x,d,n,z,a,B,f,rfl,t,C,G,I,k⟩:=h;have J:=Q6 r;refine⟨_,(B4 (C0 (F9 (Vm K) T.bF Uv (A6 (W9 (N':=["striker","words"]) (cap:=[none,some 1]) (cl:=[("words",_)]) (P4 ⟨⟨rfl,rfl,rfl,rfl⟩,trivial⟩ ⟨rfl,trivial⟩) rfl (MW K (M0 (pv 0) T.ah T.aj.m (V5 T) (Rm r) T.aj.b .nil J1 (A6 (pv 2) A8))) (λ_ _ _ _=>by exact⟨(LS 0),P1,(R0 X1 (Co J (pv 1) (pv 0) ⟨rfl,rfl,rfl,rfl⟩) C2 (D8 _))⟩)) A8)))),?_⟩;obtain⟨L,M,W,b,c,X,Y,Z,N,_⟩:=id t;have lq:=L.lenq;have ls:(B2 a n).length<=a.length:=by unfold B2;rw[AB];exact BC ..
  refine C3 rfl ⟨x,M,C3 rfl ⟨N,rfl,C3 rfl ⟨x,n,z,a,rfl,t,C,λg j=>?_⟩⟩⟩;have l:=Cv.new (o:=.lst ((B2 a n).map V.str)) j;have p:(II H g (.lst ((B2 a n).map V.str))) g=some (.lst ((B2 a n).map V.str)):=A7;generalize II H g (.lst ((B2 a n).map V.str))=H2 at l p⊢;refine⟨g,rfl,⟨_,IR.of p⟩,λD O=>?_⟩;exact Nk (λy=>decide (f y=some LK)) p (by lia) O (λy hy u q Q' R=>Zj (q _ _ (l _ _ G)) I (R _ λb o e=>e)) (λσ u q S=>⟨D,_,rfl,IR.of S,k u (l.trans q)⟩) _
theorem Vl(T:Tx K mg):IU P w K mg base JW 3 T.br.f T.br.fd ["web","words","name"] (Tv T.ac):=by
 refine T.br.F.o1 Qq λv A i s H U Q E r h=>?_
 .obtain⟨x,d,n,z,a,B,f,rfl,t,C,G,I,k⟩:=h;have J:=Q6 r;refine⟨_,(B4 (C0 (F9 (zDo K) T.b9 zEi (A6 (W9 (N':=["striker","words"]) (cap:=[none,some 1]) (cl:=[("words",_)]) (P4 ⟨⟨rfl,rfl,rfl,rfl⟩,trivial⟩ ⟨rfl,trivial⟩) rfl (MW K (M0 (pv 0) T.ah T.aj.m (V5 T) (Rm r) T.aj.b .nil J1 (A6 (pv 2) A8))) (λ_ _ _ _=>by exact⟨(LS 0),P1,(R0 X1 (Co J (pv 1) (pv 0) ⟨rfl,rfl,rfl,rfl⟩) C2 (D8 _))⟩)) A8)))),?_⟩;obtain⟨L,M,W,b,c,X,Y,Z,N,_⟩:=id t;have lq:=L.lenq;have ls:(B2 a n).length<=a.length:=by unfold B2;rw[AB];exact BC ..
  refine C3 rfl ⟨x,M,C3 rfl ⟨N,rfl,C3 rfl ⟨x,n,z,a,rfl,t,C,λg j=>?_⟩⟩⟩;have l:=Cv.new (o:=.lst ((B2 a n).map V.str)) j;have p:(II H g (.lst ((B2 a n).map V.str))) g=some (.lst ((B2 a n).map V.str)):=A7;generalize II H g (.lst ((B2 a n).map V.str))=H2 at l p⊢;refine⟨g,rfl,⟨_,IR.of p⟩,λD O=>?_⟩;exact Nk (λy=>decide (f y=some PM)) p (by lia) O (λy hy u q Q' R=>Zj (q _ _ (l _ _ G)) I (R _ λb o e=>e)) (λσ u q S=>⟨D,_,rfl,IR.of S,k u (l.trans q)⟩) _
def bor(x y:Nat):Builtin.bitOr (x:Int) (y:Int) =((x ||| y:Nat):Int):=by
 have b:¬0<=Builtin.bitNot (x:Int):=by unfold Builtin.bitNot;lia
 have c:¬0<=Builtin.bitNot (y:Int):=by unfold Builtin.bitNot;lia
 have a:∀z:Int,Builtin.bitNot (Builtin.bitNot z)=z:=λz=>by unfold Builtin.bitNot;lia
 rw[Builtin.bitOr,PyProof.Rows.bitAnd_nn b c,a,a,a];rfl
def zIa(x y:Nat):Builtin.bitAnd (x:Int) (y:Int) =((x &&& y:Nat):Int):=by simp[Builtin.bitAnd]
def zHk(k:Nat):(1:Int)*2 ^((k:Int).toNat) =((2^k:Nat):Int):=by rw[Int.one_mul,CJ,Int.natCast_pow];rfl
def zFg(m k:Nat):decide (V.int (Builtin.bitAnd ((m:Int) / 2 ^((k:Int).toNat)) 1)=V.int 1)=m.testBit k:=by
 have a:(m:Int) / 2 ^((k:Int).toNat) =((m / 2^k:Nat):Int):=by rw[CJ,Int.natCast_ediv,Int.natCast_pow];rfl
 have b:Builtin.bitAnd ((m / 2^k:Nat):Int) 1 =((m / 2^k % 2:Nat):Int):=by
  rw[show(1:Int) =((1:Nat):Int)from rfl,zIa,Nat.and_one_is_mod]
 rw[a,b,Nat.testBit_eq_decide_div_mod_eq];refine ER.mpr ⟨λh=>?_,λh=>?_⟩
 .injection h with h;lia
 .rw[h];rfl
def Nh(m:Nat):V:=.int (m:Int)
structure MB(ns:A0 Str)(ks:A0 (Str×Str))(B:A0 Nat):Prop where
 len:B.length=ns.length
 bit:∀i j,(B.getD i 0).testBit j=true↔∃k∈ks,ns[i]?=some k.1/\ns[j]?=some k.2
def MB.zero(ns:A0 Str):MB ns [] (List.replicate ns.length 0):=by
 refine⟨GJ,λi j=>?_⟩;have e:(List.replicate ns.length 0).getD i 0=0:=by
  rw[CB,List.getElem?_replicate];by_cases h:i<ns.length
  .rw[AO h];rfl
  .rw[AI h];rfl
 rw[e,FT];simp
def Cm{α:Type}{l:A0 α}(h:l.Nodup){i j:Nat}{x:α}(hi:l[i]?=some x)(c:l[j]?=some x):i=j:=by
 obtain⟨a,e⟩:=AK.mp hi;obtain⟨b,d⟩:=AK.mp c;exact(List.getElem_inj h).mp (e.trans d.symm)
def MB.step{ns:A0 Str}{l:A0 (Str×Str)}{B:A0 Nat}(h:MB ns l B)(m:ns.Nodup){a b:Nat}{x y:Str}(f:ns[a]?=some x)(n:ns[b]?=some y):MB ns (l ++ [(x,y)]) (B.set a (B.getD a 0 ||| 2^b)):=by
 have g:a<B.length:=by rw[h.len];exact(AK.mp f).1
 refine⟨by rw[List.length_set];exact h.len,λi j=>?_⟩;by_cases e:a=i
 .subst e;have e:(B.set a (B.getD a 0 ||| 2^b)).getD a 0=B.getD a 0 ||| 2^b:=by
   rw[CB,HS g];rfl
  rw[e,Nat.testBit_or,Bool.or_eq_true,h.bit,Nat.testBit_two_pow,decide_eq_true_iff];constructor
  .rintro(⟨k,hk,c,d⟩ | rfl)
   .exact⟨k,CT _ hk,c,d⟩
   .exact⟨(x,y),BO _ (AE.mpr rfl),f,n⟩
  .rintro⟨k,hk,c,d⟩;rcases AN.mp hk with hk | hk
   .exact .inl ⟨k,hk,c,d⟩
   .rw[AE.mp hk]at d;exact .inr (Cm m n d)
 .have o:(B.set a (B.getD a 0 ||| 2^b)).getD i 0=B.getD i 0:=by
   rw[CB,GR e,<-CB]
  rw[o,h.bit];constructor
  .rintro⟨k,hk,c,d⟩;exact⟨k,CT _ hk,c,d⟩
  .rintro⟨k,hk,c,d⟩;rcases AN.mp hk with hk | hk
   .exact⟨k,hk,c,d⟩
   .rw[AE.mp hk]at c;exact absurd (Cm m f c) e
def Uc{x y:Str}(h:x.cps.toList=y.cps.toList):x=y:=by
 cases x;cases y;exact congrArg Str.mk (Array.toList_inj.mp h)
def Wq{x y:Str}(h1:NZ x y)(h2:NZ y x):x=y:=Uc (HY (as:=x.cps.toList) (bs:=y.cps.toList) h1 h2)
def O8{a b:A0 Str}(h1:a.Pairwise NZ)(h2:b.Pairwise NZ)(h:a.Perm b):a=b:=List.Perm.eq_of_pairwise (λ_ _ _ _=>Wq) h1 h2 h
def leK(k l:Str×Str):Prop:=QX (0,k) (0,l)
def Xo{k l:Str×Str}(h1:leK k l)(h2:leK l k):k=l:=by
 have h1:¬TS.JS (Hi (0,l)) (Hi (0,k))=true:=λz=>by rw[show TS.JS (Hi (0,l)) (Hi (0,k))=false from h1]at z;cases z
 have h2:¬TS.JS (Hi (0,k)) (Hi (0,l))=true:=λz=>by rw[show TS.JS (Hi (0,k)) (Hi (0,l))=false from h2]at z;cases z
 rw[TS.JH]at h1 h2;have a:k.1.cps.toList=l.1.cps.toList:=HY (as:=k.1.cps.toList) (bs:=l.1.cps.toList) (λz=>h1 (.inl z)) (λz=>h2 (.inl z));have b:k.2.cps.toList=l.2.cps.toList:=HY (as:=k.2.cps.toList) (bs:=l.2.cps.toList) (λz=>h1 (.inr ⟨a.symm,z⟩)) (λz=>h2 (.inr ⟨a,z⟩));exact Prod.ext (Uc a) (Uc b)
def RJ(nx:Str->A0 Str)(ss:A0 Str)(x:Str):Prop:=∀S:Str->Prop,(∀y∈ss,S y)->(∀y z,S y->z∈nx y->S z)->S x
def RJ.of{nx:Str->A0 Str}{ss:A0 Str}{x:Str}(h:x∈ss):RJ nx ss x:=λ_ a _=>a x h
def RJ.step{nx:Str->A0 Str}{ss:A0 Str}{y z:Str}(h:RJ nx ss y)(hz:z∈nx y):RJ nx ss z:=λS b a=>a y z (h S b a) hz
def Ht:∀{l m:A0 Str},l.Nodup->(∀x∈l,x∈m)->l.length<=m.length
 | [],_,_,_=>BZ _
 | x::l,m,c,h=>by
  obtain⟨d,e⟩:=CN.mp c;have a:=h x (BA ..);have f:=Ht (m:=m.erase x) e λy b=>(List.mem_erase_of_ne (λz:y=x=>d (z▸b))).mpr (h y (AM _ b));rw[List.length_erase_of_mem a]at f;have:=List.length_pos_of_mem a;rw[BQ];lia
structure RI(nx:Str->A0 Str)(ns ss se wa:A0 Str)(ex:Str->Prop):Prop where
 nd:se.Nodup
 ndw:wa.Nodup
 sub:∀x∈se,x∈ns
 rch:∀x∈se,RJ nx ss x
 beg:∀x∈ss,x∈se
 wai:∀x∈wa,x∈se
 cl:∀x∈se,x∈wa\/ex x\/∀y∈nx x,y∈se
abbrev UP:Str->Prop:=λ_=>False
section
variable{nx:Str->A0 Str}{ns ss se wa:A0 Str}{ex:Str->Prop}
theorem Zk{l:A0 Str}{x:Str}(d:l.Nodup)(f:x∉l):(l ++ [x]).Nodup :=
 CL.mpr ⟨d,CN.mpr ⟨A_,DX⟩,λa g b c e=>f (by rw[AE]at c;exact c▸e▸g)⟩
theorem RI.init(a:ss.Nodup)(sub:∀x∈ss,x∈ns):RI nx ns ss ss ss UP:=⟨a,a,sub,λ_ h=>.of h,λ_ h=>h,λ_ h=>h,λ_ h=>.inl h⟩
theorem RI.add(h:RI nx ns ss se wa ex){x:Str}(b:x∉se)(c:x∈ns)(d:RJ nx ss x):RI nx ns ss (se ++ [x]) (wa ++ [x]) ex where
 nd:=Zk h.nd b
 ndw:=Zk h.ndw λz=>b (h.wai x z)
 sub:=λy a=>(AN.mp a).elim (h.sub y) λz=>AE.mp z▸c
 rch:=λy a=>(AN.mp a).elim (h.rch y) λz=>AE.mp z▸d
 beg:=λy a=>CT _ (h.beg y a)
 wai:=λy a=>(AN.mp a).elim (λz=>CT _ (h.wai y z)) λz=>BO _ z
 cl:=λy a=>(AN.mp a).elim (λz=>(h.cl y z).elim (λq=>.inl (CT _ q)) λq=>.inr (q.elim .inl λq=>.inr λv e=>CT _ (q v e))) λz=>.inl (BO _ z)
theorem RI.pop(h:RI nx ns ss se wa UP){a:A0 Str}{x:Str}(c:a.Nodup)(h1:∀y∈wa,y∈a\/y=x)(h2:∀y∈a,y∈wa):RI nx ns ss se a (λy=>y=x) :=
 ⟨h.nd,c,h.sub,h.rch,h.beg,λy b=>h.wai y (h2 y b),λy b=>(h.cl y b).elim (λq=>(h1 y q).elim .inl λz=>.inr (.inl z)) λq=>q.elim (λz=>z.elim) λz=>.inr (.inr z)⟩
theorem RI.done{x:Str}(h:RI nx ns ss se wa (λy=>y=x))(a:∀y∈nx x,y∈se):RI nx ns ss se wa UP :=
 ⟨h.nd,h.ndw,h.sub,h.rch,h.beg,h.wai,λy b=>(h.cl y b).elim .inl λq=>.inr (.inr (q.elim (λz=>z▸a) id))⟩
theorem RI.fin(h:RI nx ns ss se [] UP)(x:Str):x∈se↔RJ nx ss x :=
 ⟨h.rch x,λr=>r (·∈se) h.beg λy z a b=>(h.cl y a).elim (λq=>absurd q A_) λq=>q.elim (λz=>z.elim) λq=>q z b⟩
theorem RI.len(h:RI nx ns ss se wa ex):se.length<=ns.length:=Ht h.nd h.sub
theorem RI.lenw(h:RI nx ns ss se wa ex):wa.length<=ns.length:=Ht h.ndw λx a=>h.sub x (h.wai x a)
end
def six{d n:Nat}(h:d<n):seqIndex? (d:Int) n=some d:=by
 unfold seqIndex?;simp;lia
def KI{α:Type}{l:A0 α}{i:Nat}{x:α}(h:l[i]?=some x):(x::l.eraseIdx i).Perm l:=ST.KI h
def Jg{α β:Type}(f:α->β):∀(l:A0 α) (i:Nat),(l.map f).eraseIdx i =(l.eraseIdx i).map f
 | [],_=>rfl
 | _::_,0=>rfl
 | a::l,i+1=>by
  show f a ::(l.map f).eraseIdx i=f a ::(l.eraseIdx i).map f;rw[Jg f l i]
def Wx{a b c:A0 Str}(d:(b++c).Perm a)(h1:∀x∈a,S0 x=true)(h2:a.Nodup)(f:a.length<=100):i6 c:=by
 refine⟨λx e=>h1 x (d.mem_iff.mp (BO _ e)),?_,?_⟩
 .exact(CL.mp (d.nodup_iff.mpr h2)).2.1
 .have:=d.length_eq;rw[AS]at this;lia
def Yk{c a b:A0 Str}{d:Nat}{x:Str}(e:(a++b).Perm c)(h:a[d]?=some x):(a.eraseIdx d ++(b ++ [x])).Perm c:=by
 refine List.Perm.trans ?_ e;rw[<-BH];refine CY.trans ?_;rw[<-BH];exact(KI h).append_right b
def MY{p b:A3}{H H':Hp}{o:HO}(h:Sm [p] H H')(e:H b=some o)(n:b≠p):H' b=some o:=h b o e λz=>n (AE.mp z)
section
variable{ns l:A0 Str}{A O:(Str->A5 Str)->Str->Bool}{f:Str->A5 Str}{w n:Str}{num:Int}
def wl(ns:A0 Str)(f:Str->A5 Str):A0 Str:=ns.filter λn=>(f n).isNone
def J5(ns:A0 Str)(A:(Str->A5 Str)->Str->Bool)(f:Str->A5 Str):A0 Str:=(wl ns f).filter (A f)
def JP(ns:A0 Str)(A:(Str->A5 Str)->Str->Bool)(f:Str->A5 Str):Str->A5 Str:=Zi f (J5 ns A f) PM
def P7(ns:A0 Str)(A O:(Str->A5 Str)->Str->Bool)(f:Str->A5 Str):Str->A5 Str:=Zi (JP ns A f) (J5 ns O (JP ns A f)) LK
def Y5(ns:A0 Str)(A O:(Str->A5 Str)->Str->Bool)(f:Str->A5 Str)(num:Int):A0 Row:=((J5 ns A f).map λn=>(n,PM,V.int num)) ++(J5 ns O (JP ns A f)).map λn=>(n,LK,V.int num)
theorem KR:n∈wl ns f↔n∈ns/\f n=none:=by unfold wl;rw[AW,Option.isNone_iff_eq_none]
theorem Ki(h:n∈J5 ns A f):n∈ns/\f n=none:=KR.mp (AW.mp h).1
theorem zFm(h:∀n∈l,n∈ns/\f n=none)(i:l.Nodup)(j:ns.Nodup):(wl ns (Zi f l w)).length+l.length<=(wl ns f).length:=by
 rw[<-AS];refine Ht (CL.mpr ⟨j.filter _,i,λa k b m e=>?_⟩) λx o=>?_
 .have:=(KR.mp k).2;rw[e,Q2 m]at this;cases this
 .rcases AN.mp o with c | c
  .obtain⟨p,g⟩:=KR.mp c;refine KR.mpr ⟨p,?_⟩;by_cases d:x∈l
   .rw[Q2 d]at g;cases g
   .rw[K7 d]at g;exact g
  .exact KR.mpr (h x c)
theorem Za(a:ns.Nodup):(wl ns (Zi f (J5 ns A f) w)).length +(J5 ns A f).length<=(wl ns f).length:=zFm (λ_ h=>Ki h) ((a.filter _).filter _) a
theorem Vj(a:ns.Nodup):(wl ns (P7 ns A O f)).length +(Y5 ns A O f num).length<=(wl ns f).length:=by
 have b:(wl ns (JP ns A f)).length+_<=_:=Za (A:=A) (f:=f) (w:=PM) a;have c:(wl ns (P7 ns A O f)).length+_<=_:=Za (A:=O) (f:=JP ns A f) (w:=LK) a;unfold Y5;rw[AS,AB,AB];lia
theorem Ym(h:Y5 ns A O f num = []):P7 ns A O f=f:=by
 obtain⟨a,b⟩:=List.append_eq_nil_iff.mp h;have a:=HH.mp a;have b:=HH.mp b;have c:JP ns A f=f:=by unfold JP;rw[a];exact funext λn=>K7 A_
 unfold P7;rw[b,c];exact funext λn=>K7 A_
inductive QP(ns:A0 Str)(A O:(Str->A5 Str)->Str->Bool):(Str->A5 Str)->Int->A0 Row->Prop
 | stop {f:Str->A5 Str} {num:Int}:Y5 ns A O f num = []->QP ns A O f num ((wl ns f).map λn=>(n,OQ,V.non))
 | step {f:Str->A5 Str} {num:Int} {t:A0 Row}:Y5 ns A O f num≠[]->QP ns A O (P7 ns A O f) (num+1) t->QP ns A O f num (Y5 ns A O f num++t)
theorem QB:PySem.PyData.strOk PM=true/\PySem.PyData.strOk LK=true/\PySem.PyData.strOk OQ=true:=⟨by decide +kernel,by decide +kernel,by decide +kernel⟩
theorem I_{b:A0 IZ}{n y:Str}:y∈B2 b n↔(y,n)∈b.map λq=>q.2:=by
 unfold B2;rw[BJ,BJ];constructor
 .rintro⟨q,a,rfl⟩;obtain⟨c,d⟩:=AW.mp a;exact⟨q,c,Prod.ext rfl (BL d)⟩
 .rintro⟨q,a,e⟩;exact⟨q,AW.mpr ⟨a,AQ (congrArg Prod.snd e)⟩,congrArg Prod.fst e⟩
end
inductive GW(sk:Str->A0 Str):Str->Bool->Prop
 | inn {n:Str}:(∀y∈sk n,GW sk y false)->GW sk n true
 | out {n y:Str}:y∈sk n->GW sk y true->GW sk n false
def GW.ne{sk:Str->A0 Str}{n:Str}{b:Bool}(h:GW sk n b):¬GW sk n (!b):=by
 induction h with
 | inn _ a =>
  intro c;cases c with
  | out d g=>exact a _ d g
 | out d _ a =>
  intro c;cases c with
  | inn g=>exact a (g _ d)
def GW.cong{sk a:Str->A0 Str}{U:Str->Prop}(f:∀n,U n->∀y∈sk n,U y)(d:∀n,U n->∀y,y∈sk n↔y∈a n){n:Str}{b:Bool}(h:GW sk n b):U n->GW a n b:=by
 induction h with
 | inn _ e=>exact λu=>.inn λy c=>e y ((d _ u y).mpr c) (f _ u y ((d _ u y).mpr c))
 | out c _ e=>exact λu=>.out ((d _ u _).mp c) (e (f _ u _ c))
open Classical in
def J7(sk:Str->A0 Str)(n:Str):Str:=if GW sk n true then PM else if GW sk n false then LK else OQ
def SH:PM≠LK/\PM≠OQ/\LK≠OQ:=by decide +kernel
section
variable{sk sk':Str->A0 Str}{n:Str}
theorem NU:J7 sk n=PM↔GW sk n true:=by
 unfold J7;by_cases h:GW sk n true
 .rw[AO h];exact⟨λ_=>h,λ_=>rfl⟩
 .rw[AI h];refine⟨λe=>?_,λz=>absurd z h⟩;split at e
  .exact absurd e.symm SH.1
  .exact absurd e.symm SH.2.1
theorem NB:J7 sk n=LK↔GW sk n false:=by
 unfold J7;by_cases h:GW sk n true
 .rw[AO h];exact⟨λe=>absurd e SH.1,λz=>absurd z h.ne⟩
 .rw[AI h];by_cases a:GW sk n false
  .rw[AO a];exact⟨λ_=>a,λ_=>rfl⟩
  .rw[AI a];exact⟨λe=>absurd e.symm SH.2.2,λz=>absurd z a⟩
theorem Ff{U:Str->Prop}(e:∀n,U n->∀y∈sk n,U y)(c:∀n,U n->∀y,y∈sk n↔y∈sk' n)(u:U n):J7 sk n=J7 sk' n:=by
 have d:∀n,U n->∀y∈sk' n,U y:=λn u y f=>e n u y ((c n u y).mpr f);have i:∀b,GW sk n b↔GW sk' n b:=λb=>⟨λh=>h.cong e c u,λh=>h.cong d (λn u y=>(c n u y).symm) u⟩;unfold J7;by_cases a:GW sk n true
 .rw[AO a,AO ((i _).mp a)]
 .rw[AI a,AI λz=>a ((i _).mpr z)];by_cases b:GW sk n false
  .rw[AO b,AO ((i _).mp b)]
  .rw[AI b,AI λz=>b ((i _).mpr z)]
theorem Mq:PySem.PyData.strOk (J7 sk n)=true:=by
 unfold J7;split
 .exact QB.1
 .split
  .exact QB.2.1
  .exact QB.2.2
end
section
variable{ns:A0 Str}{qs:A0 IZ}{f:Str->A5 Str}
def SB(qs:A0 IZ)(f:Str->A5 Str):Prop:=∀n w,f n=some w->w=J7 (B2 qs) n
theorem SB.nxt1(h:SB qs f):SB qs (JP ns (C9 qs) f):=λn w e=>by
 unfold Sw.JP at e;by_cases c:n∈J5 ns (C9 qs) f
 .rw[Q2 c]at e;cases e;have a:=PF.mp (AW.mp c).2;exact(NU.mpr (.inn λy b=>NB.mp (h y _ (a y b)).symm)).symm
 .rw[K7 c]at e;exact h n w e
theorem SB.nxt(h:SB qs f):SB qs (P7 ns (C9 qs) (P8 qs) f):=λn w e=>by
 unfold Sw.P7 at e;by_cases c:n∈J5 ns (P8 qs) (Sw.JP ns (C9 qs) f)
 .rw[Q2 c]at e;cases e;obtain⟨y,a,b⟩:=P6.mp (AW.mp c).2;exact(NB.mpr (.out a (NU.mp (h.nxt1 y _ b).symm))).symm
 .rw[K7 c]at e;exact h.nxt1 n w e
theorem Ux{num:Int}(h:SB qs f)(sub:∀n∈ns,∀y∈B2 qs n,y∈ns)(e:Y5 ns (C9 qs) (P8 qs) f num = []){n:Str}(a:n∈wl ns f):J7 (B2 qs) n=OQ:=by
 obtain⟨k,l⟩:=List.append_eq_nil_iff.mp e;have k:=HH.mp k;have l:=HH.mp l;have p:JP ns (C9 qs) f=f:=by unfold JP;rw[k];exact funext λn=>K7 A_
 rw[p]at l;have i:∀{n:Str} {b:Bool},GW (B2 qs) n b->n∈ns->f n=none->False:=fun{n b} g=>by
  induction g with
  | inn g o =>
   intro a c;have m:_∈J5 ns (C9 qs) f:=AW.mpr ⟨KR.mpr ⟨a,c⟩,PF.mpr λy d=>?_⟩
   .rw[k]at m;cases m
   cases j:f y with
   | none=>exact(o y d (sub _ a y d) j).elim
   | some w=>rw[h y w j,NB.mpr (g y d)]
  | out d g o =>
   intro a c;have m:_∈J5 ns (P8 qs) f:=AW.mpr ⟨KR.mpr ⟨a,c⟩,P6.mpr ⟨_,d,?_⟩⟩
   .rw[l]at m;cases m
   cases j:f _ with
   | none=>exact(o (sub _ a _ d) j).elim
   | some w=>rw[h _ w j,NU.mpr g]
 obtain⟨a,c⟩:=KR.mp a;unfold J7;rw[AI λg=>i g a c,AI λg=>i g a c]
theorem QP.words{num:Int}{r:A0 Row}(h:QP ns (C9 qs) (P8 qs) f num r)(sub:∀n∈ns,∀y∈B2 qs n,y∈ns)(k:ns.Nodup):SB qs f->(∀q∈r,q.2.1=J7 (B2 qs) q.1)/\(r.map λq=>q.1).Perm (wl ns f):=by
 induction h with
 | stop e =>
  refine λs=>⟨λq l=>?_,?_⟩
  .obtain⟨n,i,rfl⟩:=BJ.mp l;exact(Ux s sub e i).symm
  .rw[B_];show(List.map (λn=>n) _).Perm _;rw[List.map_id']
 | @step f num t E _ x =>
  intro s;obtain⟨z,A⟩:=x s.nxt;have m:∀n,n∈J5 ns (C9 qs) f->n∈ns/\f n=none:=λn h=>Ki h;have o:∀n,n∈J5 ns (P8 qs) (Sw.JP ns (C9 qs) f)->n∈ns/\Sw.JP ns (C9 qs) f n=none:=λn h=>Ki h;have B:∀n,n∈J5 ns (C9 qs) f->J7 (B2 qs) n=PM:=λn h=>(s.nxt1 (ns:=ns) n PM (Q2 h)).symm;have C:∀n,n∈J5 ns (P8 qs) (Sw.JP ns (C9 qs) f)->J7 (B2 qs) n=LK:=λn h=>(s.nxt (ns:=ns) n LK (Q2 h)).symm;refine⟨λq l=>?_,?_⟩
  .rcases AN.mp l with c | c
   .rcases AN.mp c with c | c
    .obtain⟨n,i,rfl⟩:=BJ.mp c;exact(B n i).symm
    .obtain⟨n,i,rfl⟩:=BJ.mp c;exact(C n i).symm
   .exact z q c
  .have e:((Y5 ns (C9 qs) (P8 qs) f num++t).map λq=>q.1) =(J5 ns (C9 qs) f++J5 ns (P8 qs) (Sw.JP ns (C9 qs) f))++t.map λq=>q.1:=by
    unfold Y5;rw[AH,AH,B_,B_];congr 2
    .exact List.map_id' _
    .exact List.map_id' _
   rw[e];refine(A.append_left _).trans ?_;have p:(J5 ns (C9 qs) f).Nodup:=(k.filter _).filter _;have u:(J5 ns (P8 qs) (Sw.JP ns (C9 qs) f)).Nodup:=(k.filter _).filter _;refine(List.perm_ext_iff_of_nodup (CL.mpr ⟨CL.mpr ⟨p,u,λa v b w e=>?_⟩,k.filter _,λa v b w e=>?_⟩) (k.filter _)).mpr λn=>?_
   .subst e;have:=(o a w).2;unfold Sw.JP at this;rw[Q2 v]at this;cases this
   .subst e;have g:=(KR.mp w).2;unfold Sw.P7 at g;rcases AN.mp v with c | c
    .by_cases d:a∈J5 ns (P8 qs) (Sw.JP ns (C9 qs) f)
     .rw[Q2 d]at g;cases g
     .rw[K7 d]at g;unfold Sw.JP at g;rw[Q2 c]at g;cases g
    .rw[Q2 c]at g;cases g
   .show n∈_++wl ns (Sw.P7 ns (C9 qs) (P8 qs) f)↔n∈wl ns f;rw[AN,AN,KR,KR];constructor
    .rintro((h | h) | h)
     .exact m n h
     .refine⟨(o n h).1,?_⟩;have:=(o n h).2;unfold Sw.JP at this;by_cases d:n∈J5 ns (C9 qs) f
      .exact(m n d).2
      .rwa [K7 d]at this
     .refine⟨h.1,?_⟩;have g:=h.2;unfold Sw.P7 at g;by_cases d:n∈J5 ns (P8 qs) (Sw.JP ns (C9 qs) f)
      .rw[Q2 d]at g;cases g
      .rw[K7 d]at g;unfold Sw.JP at g;by_cases j:n∈J5 ns (C9 qs) f
       .exact(m n j).2
       .rwa [K7 j]at g
    .rintro⟨i,D⟩;by_cases d:n∈J5 ns (C9 qs) f
     .exact .inl (.inl d)
     by_cases j:n∈J5 ns (P8 qs) (Sw.JP ns (C9 qs) f)
     .exact .inl (.inr j)
     refine .inr ⟨i,?_⟩;unfold Sw.P7;rw[K7 j];unfold Sw.JP;rw[K7 d];exact D
def WG(ns:A0 Str)(qs:A0 IZ)(n:Str):A5 Str:=if n∈ns then some (J7 (B2 qs) n)else none
theorem Xx{n:Str}(h:n∈ns):WG ns qs n=some (J7 (B2 qs) n):=AO h
end
def Vw{H H':Hp}{d b:A3}{o:HO}(k:Sm [d] H H')(e:H' d=some o)(h:H' b=none):H b=none:=by
 cases a:H b with
 | none=>rfl
 | some c =>
  have:=MY k a (B0 e h).symm;rw[h]at this;cases this
def Cv.smd{a H H':Hp}{d:A3}(s:Cv a H)(h:a d=none)(k:Sm [d] H H'):Cv a H':=λb o e=>MY k (s b o e) (B0 e h)
def Hv(C:A3):Sp:=λj H Q _=>∃(g:Hp) (x d:A3) (num:Int) (h:A0 Str) (c:A0 IZ) (b:A0 (JB×V)) (f:Str->A5 Str),j = [.ref x,.ref d,.int num]/\Cv g H/\g d=none/\I1 C g x h c/\H d=some (.dK b)/\WD b f/\b.length<=1000 /\
 ∀l i a e,Sm [d] H e->H l=none->RL e l i->i.map (λq=>q.2)=Y5 h (C9 c) (P8 c) f num->e d=some (.dK a)->WD a (P7 h (C9 c) (P8 c) f)->a.length<=b.length+i.length->Q (.ref l) e
theorem LY:IL ["web","words","number","ins","outs"] ["web","words","number"] (B6 OJ):=Kc
set_option maxHeartbeats 4000000 in
theorem Bu(T:Tx K mg):IU P w K mg base JW 4 T.aY.f T.aY.fd ["web","words","number"] (Hv T.ac):=by
 refine T.aY.F.o1 LY λcdv A outer s H vs Q E hr h=>?_
 .obtain⟨H0,x,d,num,b,a,m,f,rfl,s0,hd0,hW,hd,hf,hk,k⟩:=h;refine⟨_,(A9 (X7 (i:=3) (N':=["name","web","words"]) (cap:=[none,some 0,some 1]) (cl:=[("words",_),("web",_)]) LY.nd rfl (.inl rfl) (P4 ⟨⟨rfl,rfl,rfl,rfl⟩,⟨⟨rfl,rfl,rfl,rfl⟩,trivial⟩⟩ ⟨rfl,⟨rfl,trivial⟩⟩) rfl (MW K (D9 T.aV (y3 T) (Rm hr) (A6 (pv 0) (A6 (pv 1) A8)))) (λ_ _ _ _=>by exact⟨(LS 0),(P0 (J9 (D9 T.bl (Pf T) (Rm hr) (A6 (pv 1) (A6 (pv 2) (A6 (pv 0) A8)))))),(pv 0)⟩))
   (A9 (J8 (Kt (pv 1) (Ot (N':=["name"]) (cap:=[none]) (cl:=[]) (P4 trivial trivial) rfl (MW K (pv 3)) (λ_ _ _ _=>by exact⟨(LS 0),P1,(pv 0),C2⟩)) ⟨rfl,rfl,rfl,rfl⟩))
   (A9 (X7 (i:=4) (N':=["name","web","words"]) (cap:=[none,some 0,some 1]) (cl:=[("words",_),("web",_)]) LY.nd rfl (.inl rfl) (P4 ⟨⟨rfl,rfl,rfl,rfl⟩,⟨⟨rfl,rfl,rfl,rfl⟩,trivial⟩⟩ ⟨rfl,⟨rfl,trivial⟩⟩) rfl (MW K (D9 T.aV (y3 T) (Rm hr) (A6 (pv 0) (A6 (pv 1) A8)))) (λ_ _ _ _=>by exact⟨(LS 0),(P0 (J9 (D9 T.br (Vl T) (Rm hr) (A6 (pv 1) (A6 (pv 2) (A6 (pv 0) A8)))))),(pv 0)⟩))
   (A9 (J8 (Kt (pv 1) (Ot (N':=["name"]) (cap:=[none]) (cl:=[]) (P4 trivial trivial) rfl (MW K (pv 4)) (λ_ _ _ _=>by exact⟨(LS 0),P1,(pv 0),C2⟩)) ⟨rfl,rfl,rfl,rfl⟩))
   (B4 (C0 (G8 Ap (W9 (N':=["name","number"]) (cap:=[none,some 2]) (cl:=[("number",_)]) (P4 ⟨⟨rfl,rfl,rfl,rfl⟩,trivial⟩ ⟨rfl,trivial⟩) rfl (MW K (pv 3)) (λ_ _ _ _=>by exact⟨(LS 0),P1,(J6 (A6 (pv 0) (A6 C2 (A6 (pv 1) A8))))⟩)) (W9 (N':=["name","number"]) (cap:=[none,some 2]) (cl:=[("number",_)]) (P4 ⟨⟨rfl,rfl,rfl,rfl⟩,trivial⟩ ⟨rfl,trivial⟩) rfl (MW K (pv 4)) (λ_ _ _ _=>by exact⟨(LS 0),P1,(J6 (A6 (pv 0) (A6 C2 (A6 (pv 1) A8))))⟩))))))))),?_⟩
  have ok:=hW.ok;have ln:=ok.len;have nn:=ok.nd;have p:∀g:Str->A5 Str,(wl b g).length<=100:=λg=>VE (BC ..) ln;have li:(J5 b (C9 a) f).length<=100:=VE (BC ..) (p _);have lo:(J5 b (P8 a) (JP b (C9 a) f)).length<=100:=VE (BC ..) (p _);refine B3 λN1 hN1=>?_;refine C3 rfl (C3 rfl ⟨x,d,b,a,m,f,rfl,hW.same s0,hd,hf,λl1 H1 s1 hl1 e1=>?_⟩);refine⟨l1,rfl,⟨_,IR.of e1⟩,λO U=>?_⟩;refine V3 (C9 a f) e1 (VE (p f) (by decide)) U (λy W G u X hQ=>?_) (λσ H2 s2 v=>?_) _
  .refine C3 rfl (C3 rfl (C3 rfl ⟨x,d,y,b,a,m,f,rfl,(hW.same s0).same (s1.trans u),(KR.mp W).1,(s1.trans u) _ _ hd,hf,λG' B=>⟨_,rfl,hQ G' B⟩⟩))
  have v:H2 O=some (.lst ((J5 b (C9 a) f).map V.str)):=v;have C:=s1.trans s2;have r:=C _ _ hd;refine hN1 _ _ (B3 λN2 hN2=>?_);refine C3 rfl ⟨d,rfl,.inl ⟨_,.inl r⟩,C3 rfl ⟨O,rfl,⟨_,IR.of v⟩,λE1 D=>?_⟩⟩;refine Mb v ((nn.filter _).filter _) (VE li (by decide)) D (λσ H3 Y e3=>?_) _;have I:=Y _ _ r;have R:=hf.mrg (w:=PM) (l:=J5 b (C9 a) f);have m1:=X9 m ((J5 b (C9 a) f).map λn=>(Sum.inr n,V.str PM));rw[AB]at m1;refine⟨E1,m,_,rfl,I,e3,(B0 r D),by rw[AB,sizeLine_eq];lia,hN2 _ _ (B3 λN3 hN3=>?_)⟩;have n1:O≠d:=J4 (Y _ _ v) I (by intro z;cases z);have k4:Sm [d] H (II H3 d (.dK (Av m ((J5 b (C9 a) f).map λn=>(Sum.inr n,V.str PM))))):=(C.trans Y).sm.upd (by simp);have Z:(II H3 d (.dK (Av m ((J5 b (C9 a) f).map λn=>(Sum.inr n,V.str PM))))) d=some (.dK (Av m ((J5 b (C9 a) f).map λn=>(Sum.inr n,V.str PM)))):=A7;have e4:(II H3 d (.dK (Av m ((J5 b (C9 a) f).map λn=>(Sum.inr n,V.str PM))))) O=some (.lst ((J5 b (C9 a) f).map V.str)):=(B7 n1).trans (Y _ _ v);generalize Av m ((J5 b (C9 a) f).map λn=>(Sum.inr n,V.str PM))=j at R m1 k4 Z e4⊢;generalize II H3 d (.dK j)=H4 at k4 Z e4⊢;have W4:=hW.same (Cv.smd s0 hd0 k4);have R:WD j (JP b (C9 a) f):=R;clear s1 s2 C Y e1 v e3 r I hl1 U D;refine C3 rfl (C3 rfl ⟨x,d,b,a,j,JP b (C9 a) f,rfl,W4,Z,R,λl2 H5 s5 hl2 e5=>?_⟩);refine⟨l2,rfl,⟨_,IR.of e5⟩,λD2 hD2=>?_⟩;refine V3 (P8 a (JP b (C9 a) f)) e5 (VE (p _) (by decide)) hD2 (λy W G u X hQ=>?_) (λσ H6 s6 S=>?_) _
  .refine C3 rfl (C3 rfl (C3 rfl ⟨x,d,y,b,a,j,JP b (C9 a) f,rfl,W4.same (s5.trans u),(KR.mp W).1,(s5.trans u) _ _ Z,R,λG' B=>⟨_,rfl,hQ G' B⟩⟩))
  have S:H6 D2=some (.lst ((J5 b (P8 a) (JP b (C9 a) f)).map V.str)):=S;have J:=s5.trans s6;have L:=J _ _ Z;refine hN3 _ _ (B3 λN4 hN4=>?_);refine C3 rfl ⟨d,rfl,.inl ⟨_,.inl L⟩,C3 rfl ⟨D2,rfl,⟨_,IR.of S⟩,λE2 hE2=>?_⟩⟩;refine Mb S ((nn.filter _).filter _) (VE lo (by decide)) hE2 (λσ H7 s7 e7=>?_) _;have hd7:=s7 _ _ L;have k2:=R.mrg (w:=LK) (l:=J5 b (P8 a) (JP b (C9 a) f));have m2:=X9 j ((J5 b (P8 a) (JP b (C9 a) f)).map λn=>(Sum.inr n,V.str LK));rw[AB]at m2;refine⟨E2,j,_,rfl,hd7,e7,(B0 L hE2),by rw[AB,sizeLine_eq];lia,hN4 _ _ ?_⟩;have n2:D2≠d:=J4 (s7 _ _ S) hd7 (by intro z;cases z);have k8:Sm [d] H (II H7 d (.dK (Av j ((J5 b (P8 a) (JP b (C9 a) f)).map λn=>(Sum.inr n,V.str LK))))):=(k4.trans (J.trans s7).sm).upd (by simp);have d8:(II H7 d (.dK (Av j ((J5 b (P8 a) (JP b (C9 a) f)).map λn=>(Sum.inr n,V.str LK))))) d=some (.dK (Av j ((J5 b (P8 a) (JP b (C9 a) f)).map λn=>(Sum.inr n,V.str LK)))):=A7;have a8:(II H7 d (.dK (Av j ((J5 b (P8 a) (JP b (C9 a) f)).map λn=>(Sum.inr n,V.str LK))))) O=some (.lst ((J5 b (C9 a) f).map V.str)):=(B7 n1).trans (s7 _ _ (J _ _ e4));have b8:(II H7 d (.dK (Av j ((J5 b (P8 a) (JP b (C9 a) f)).map λn=>(Sum.inr n,V.str LK))))) D2=some (.lst ((J5 b (P8 a) (JP b (C9 a) f)).map V.str)):=(B7 n2).trans (s7 _ _ S);generalize Av j ((J5 b (P8 a) (JP b (C9 a) f)).map λn=>(Sum.inr n,V.str LK))=M at k2 m2 k8 d8 a8 b8⊢;generalize II H7 d (.dK M)=H8 at k8 d8 a8 b8⊢;have k2:WD M (P7 b (C9 a) (P8 a) f):=k2;refine C3 rfl ⟨O,rfl,⟨_,IR.of a8⟩,λR1 hR1=>?_⟩;refine Kf (v3:=.int num) (λ_=>true) a8 (VE li (by decide)) hR1 (λy G X N=>⟨_,rfl,N⟩) (λy W G u X N=>N) (λσ rs1 H9 s9 L9 q9=>?_) _;rw[Aw]at q9;refine C3 rfl ⟨D2,rfl,⟨_,IR.of (s9 _ _ b8)⟩,λR2 hR2=>?_⟩;refine Kf (v3:=.int num) (λ_=>true) (s9 _ _ b8) (VE lo (by decide)) hR2 (λy G X N=>⟨_,rfl,N⟩) (λy W G u X N=>N) (λσ rs2 HA sA LA qA=>?_) _;rw[Aw]at qA;have L9:=L9.same sA;have lr1:=congrArg List.length q9;have lr2:=congrArg List.length qA;rw[AB,AB]at lr1 lr2;refine⟨R1,R2,_,_,rfl,rfl,L9.1,LA.1,by rw[AB,AB,sizeLine_eq];lia,λc hc=>?_⟩;have uB:=Cv.new (o:=.lst ((rs1.map λq=>V.ref q.1)++rs2.map λq=>V.ref q.1)) hc;have t:=s9.trans sA;refine k c (rs1++rs2) M _ (k8.trans (t.trans uB).sm) (Vw (k8.trans t.sm) (t _ _ d8) hc) (L9.app LA A7 λq o e=>uB _ _ e) ?_ (uB _ _ (t _ _ d8)) k2 (by rw[AS];lia);rw[AH,q9,qA];rfl
def RL.smd{H H':Hp}{l d:A3}{a:A0 (A3×Row)}{kvs:A0 (JB×V)}(h:RL H l a)(e:H d=some (.dK kvs))(k:Sm [d] H H'):RL H' l a :=
 ⟨MY k h.1 (J4 h.1 e (by intro z;cases z)),λq b=>MY k (h.2 q b) (J4 (h.2 q b) e (by intro z;cases z))⟩
def zDj(H:Hp)(ns:A0 Str)(c:A0 IZ)(d:Str->A5 Str)(Q:VK):Prop:=∀l a b,Cv H b->H l=none->RL b l a->QP ns (C9 c) (P8 c) d 1 (a.map λq=>q.2)->a.length<=100->Q (.ref l) b
def Sq(C:A3):Sp:=λf H Q _=>∃(x d:A3) (b:A0 Str) (e:A0 IZ) (a:A0 (JB×V)) (c:Str->A5 Str),f = [.ref x,.ref d]/\I1 C H x b e/\H d=some (.dK a)/\WD a c/\a.length +(wl b c).length<=100/\zDj H b e c Q
theorem JC:IL ["web","known","words","rows","number","fresh"] ["web","known"] (B6 L_):=Kc
set_option maxHeartbeats 4000000 in
theorem Y7(T:Tx K mg):IU P w K mg base JW 5 T.aI.f T.aI.fd ["web","known"] (Sq T.ac):=by
 refine T.aI.F.o1 JC λcdv A outer s H vs Q E hr h=>?_
 .obtain⟨x,d0,ns,N,p,f0,rfl,hW,hd0,hf0,l0,k⟩:=h;refine⟨_,(A9 (C8 (i:=2) JC.nd rfl (.inl rfl) (g7 Qz T.bK Su (A6 (pv 1) A8)))
   (A9 (C8 (i:=3) JC.nd rfl (.inl rfl) (E9 A8))
   (A9 (C8 (i:=4) JC.nd rfl (.inl rfl) B5)
   (A9 (C8 (i:=5) JC.nd rfl (.inl rfl) (D9 T.aY (Bu T) (Rm hr) (A6 (pv 0) (A6 (pv 2) (A6 (pv 4) A8)))))
   (A9 (Gz PassesOwn.never (ptV K (pv 5)) (A9 (J8 (Ph K VG PySem.F.slot_list_extend PySem.F.type_list_extend Sl (pv 3) (A6 (pv 5) A8)))
   (A9 (zEy (i:=4) JC.nd rfl (Or.inl rfl) B5 zFw)
   (B4 (C8 (i:=5) JC.nd rfl (.inl rfl) (D9 T.aY (Bu T) (Rm hr) (A6 (pv 0) (A6 (pv 2) (A6 (pv 4) A8)))))))))
   (B4 (C0 (G8 Ap (pv 3) (W9 (N':=["name"]) (cap:=[none]) (cl:=[]) (P4 trivial trivial) rfl (MW K (D9 T.aV (y3 T) (Rm hr) (A6 (pv 0) (A6 (pv 2) A8)))) (λ_ _ _ _=>by exact⟨(LS 0),P1,(J6 (A6 (pv 0) (A6 C2 (A6 U3 A8))))⟩)))))))))),?_⟩
  have ok:=hW.ok;have ln:=ok.len;have nn:=ok.nd;unfold zDj at k;generalize hA:C9 N=A at k;generalize hO:P8 N=O at k;have R:∀g:Str->A5 Str,(wl ns g).length<=100:=λg=>VE (BC ..) ln;refine B3 λN1 hN1=>?_;refine C3 rfl ⟨d0,_,rfl,hd0,λd S=>?_⟩;have u1:=Cv.new (o:=.dK p) S;have f1:(II H d (.dK p)) d=some (.dK p):=A7;generalize II H d (.dK p)=H1 at u1 f1⊢;refine hN1 _ _ (B3 λN2 hN2=>?_);refine⟨BZ _,λr U=>?_⟩;have W:=Cv.new (o:=.lst []) U;have f2:(II H1 r (.lst [])) r=some (.lst []):=A7;generalize II H1 r (.lst [])=H2 at W f2⊢;have hr':=u1.free U;refine hN2 _ _ (B3 λN3 hN3=>?_);refine hN3 _ _ (B3 λN4 hN4=>?_);refine C3 rfl (C3 rfl (C3 rfl ⟨H,x,d,1,ns,N,p,f0,rfl,u1.trans W,S,hW,W _ _ f1,hf0,by lia,λl B a H3 k3 hl L3 q3 e3 X SK=>?_⟩));rw[hA,hO]at q3 X;have L2:RL H2 r []:=⟨f2,λq h=>absurd h A_⟩;have lr:l≠r:=(B0 f2 hl).symm;have rw0:=Vj (ns:=ns) (A:=A) (O:=O) (f:=f0) (num:=1) nn;have lw0:=R f0;have lq:=congrArg List.length q3;rw[AB]at lq;refine hN4 _ _ (B3 λN5 hN5=>?_);refine⟨λm σ v=>∃(num:Int) (l:A3) (a:A0 (JB×V)) (f:Str->A5 Str) (n B:A0 (A3×Row)),σ = [some (.ref x),some (.ref d0),some (.ref d),some (.ref r),some (.int num),some (.ref l)]/\Cv H v/\v d=some (.dK a)/\WD a (P7 ns A O f)/\RL v r n/\RL v l B/\l≠r /\
   B.map (λq=>q.2)=Y5 ns A O f num/\(∀t,QP ns A O f num t->QP ns A O f0 1 ((n.map λq=>q.2)++t))/\m =(wl ns (P7 ns A O f)).length+B.length/\a.length +(wl ns (P7 ns A O f)).length<=100/\n.length+m<=100,⟨_,1,l,a,_,[],B,rfl,Cv.smd (u1.trans W) S k3,e3,X,L2.smd (W _ _ f1) k3,L3,lr,q3,λt h=>h,rfl,by lia,by show 0+_<=_;lia⟩,?_⟩
  rintro m σ v ⟨num,l,a,f,n,B,rfl,s4,e4,C,u,Ll,nlr,I,W4,rfl,Y,ld4⟩;refine C3 rfl ⟨_,.inl ⟨_,IR.of Ll.1,rfl⟩,?_⟩;cases B with
  | nil =>
   refine O9 (hN5 _ _ ?_);have I:=I.symm;rw[Ym I]at C Y ld4;refine C3 rfl (C3 rfl (C3 rfl ⟨x,d,ns,N,a,f,rfl,hW.same s4,e4,C,λl1 H5 Z hl1 M=>⟨l1,rfl,⟨_,IR.of M⟩,λD hD=>?_⟩⟩));refine Kf (v3:=.non) (r:=[]) (λ_=>true) M (VE (R f) (by decide)) hD (λy G Q' hq=>hq) (λy hy G sg Q' hq=>hq) (λσ j H6 s6 L6 J=>?_) _;rw[Aw]at J;have s56:=Z.trans s6;have u:=u.same s56;have l2:=congrArg List.length J;rw[AB,AB]at l2;have l2:j.length =(wl ns f).length:=l2;have l0:([]:A0 (A3×Row)).length=0:=rfl;refine⟨r,D,_,_,rfl,rfl,u.1,L6.1,by rw[AB,AB,sizeLine_eq];lia,λc hc=>?_⟩;have u7:=Cv.new (o:=.lst ((n.map λq=>V.ref q.1)++j.map λq=>V.ref q.1)) hc;have s46:=s4.trans s56;exact k c (n++j) _ (s46.trans u7) (s46.free hc) (u.app L6 A7 λq o e=>u7 _ _ e) (by rw[AH,J];exact W4 _ (.stop I)) (by rw[AS];lia)
  | cons L b =>
   refine Z7 ⟨_,λ_ _ z=>z,B3 λM1 hM1=>?_⟩;refine C3 rfl ⟨.inl ⟨rfl,_,IR.of u.1⟩,C3 rfl ⟨r,l,_,_,rfl,rfl,u.1,Ll.1,by rw[AB,AB,sizeLine_eq];lia,hM1 _ _ (B3 λM2 hM2=>?_)⟩⟩;have Z:=s4.upd (o:=.lst ((n.map λq=>V.ref q.1) ++(L::b).map λq=>V.ref q.1)) hr';have nrd:r≠d:=J4 u.1 e4 (by intro z;cases z);have M:(II v r (.lst ((n.map λq=>V.ref q.1) ++(L::b).map λq=>V.ref q.1))) d=some (.dK a):=(B7 nrd.symm).trans e4;have L5:RL (II v r (.lst ((n.map λq=>V.ref q.1) ++(L::b).map λq=>V.ref q.1))) r (n++L::b):=u.app Ll A7 λq o e=>(B7 (J4 e u.1 (by intro z;cases z))).trans e;have ne:Y5 ns A O f num≠[]:=λc=>by rw[c]at I;cases I
   generalize II v r (.lst ((n.map λq=>V.ref q.1) ++(L::b).map λq=>V.ref q.1))=H5 at Z M L5⊢;have lc:(L::b).length=b.length+1:=rfl;refine C3 rfl ⟨_,_,rfl,rfl,hM2 _ _ ?_⟩;refine C3 rfl (C3 rfl (C3 rfl ⟨H,x,d,num+1,ns,N,a,_,rfl,Z,S,hW,M,C,by lia,λl' j kv2 H6 k6 hl6 L6 J e6 wd6 len6=>?_⟩));rw[hA,hO]at J wd6;have rwl:=Vj (ns:=ns) (A:=A) (O:=O) (f:=P7 ns A O f) (num:=num+1) nn;have l6:=congrArg List.length J;rw[AB]at l6;refine⟨(wl ns (P7 ns A O (P7 ns A O f))).length+j.length,by lia,_,l',kv2,P7 ns A O f,n++L::b,j,rfl,Cv.smd Z S k6,e6,wd6,L5.smd M k6,L6,(B0 L5.1 hl6).symm,J,λt ht=>?_,rfl,by lia,by rw[AS];lia⟩;rw[AH,I,BH];exact W4 _ (.step ne ht)
def Yg{n e w m:Nat}(h:e+1<=n)(a:2 *(n-e)+w<m):2 *(n-(e+1)) +(w+1)<m:=by
 have b:n-(e+1)+1=n-e:=Nat.succ_pred_eq_of_pos (HQ h);rw[<-b]at a;lia
def Rn(H:Hp)(kvs:A0 (JB×V))(ns:A0 Str)(nx:Str->A0 Str):Prop:=∀n∈ns,∃l,Z0 kvs (.inr n)=some (.ref l)/\H l=some (.lst ((nx n).map V.str))
def zIs(H:Hp)(ns ss:A0 Str)(nx:Str->A0 Str)(Q:VK):Prop:=∀(l:A3) (ts:A0 Str) (a:Hp),Cv H a->H l=none->a l=some (.lst (ts.map V.str))->ts.Nodup->ts.Pairwise NZ->(∀x,x∈ts↔RJ nx ss x)->(∀x∈ts,x∈ns)->Q (.ref l) a
def Op(K:VA):Sp:=λg H Q _=>∃(d a:A3) (c:A0 (JB×V)) (b e:A0 Str) (f:Str->A0 Str),g = [.ref d,.ref a]/\H d=some (.dK c)/\Rn H c b f/\(∀n∈b,∀y∈f n,y∈b)/\b.length<=100/\(∀y∈e,y∈b)/\e.Nodup/\RG K H a (e.map V.str)/\zIs H b e f Q
theorem zDl{H:Hp}{p:A3}{x:Str}{a:A0 Str}{Q:VK}(e:H p=some (Dd w p a))(q:Q (.bl (!decide (x∈a))) H):zIh w true (.str x) (.ref p) H Q:=⟨p,a,x,rfl,rfl,e,q⟩
theorem LG:IL ["steps","some","seen","waiting","here","name"] ["steps","some"] (B6 PR):=Kc
set_option maxHeartbeats 1000000 in
theorem Pk(T:Tx K mg):IU P w K mg base JW 1 T.bm.f T.bm.fd ["steps","some"] (Op K):=by
 refine T.bm.F.o1 LG λcdv A outer s H vs Q E hr h=>?_
 .obtain⟨d,a,kvs,J,g,L,rfl,hd,hv,hc,hl,B,C,hS,k⟩:=h;have hu:=Q6 hr;refine⟨_,(A9 (C8 (i:=2) LG.nd rfl (.inl rfl) (g7 (zBh K w) T.bE Us (A6 (pv 1) A8)))
   (A9 (C8 (i:=3) LG.nd rfl (.inl rfl) (g7 (T7 K) T.az Q0 (A6 (pv 1) A8)))
   (A9 (Gz PassesOwn.never (ptV K (pv 3)) (A9 (C8 (i:=4) LG.nd rfl (.inl rfl) (zDk K VG PySem.F.slot_list_pop PySem.F.type_list_pop Yv (pv 3)))
   (B4 (W6 PassesOwn.never rfl (MW K (V7 hu (pv 0) (pv 4) (λ_ _=>rfl))) (I9 (i:=5) LG.nd rfl (.inl rfl))
   (B4 (K0 (B8 Hd (pv 5) (pv 2) rfl) (A9 (J8 (Vq P w (zFe w) (pv 2) (A6 (pv 5) A8)))
   (B4 (J8 (Ph K VG VH VI U4 (pv 3) (A6 (pv 5) A8))))) D0))))))
   (B4 (C0 (F9 (Wg w) T.ay K8 (A6 (pv 2) A8))))))),?_⟩
  have hls:=Ht C B;refine B3 λZ1 hZ1=>?_;refine C3 rfl ⟨a,g,rfl,hS,C,by lia,λp hp=>?_⟩;have Z:=Cv.new (o:=Dd w p g) hp;have f1:(II H p (Dd w p g)) p=some (Dd w p g):=A7;generalize II H p (Dd w p g)=H1 at Z f1⊢;refine hZ1 _ _ (B3 λZ2 hZ2=>?_);refine C3 rfl ⟨a,_,rfl,(Z.at a).seq hS,λq hq=>?_⟩;have u2:=Cv.new (o:=.lst (g.map V.str)) hq;have f2:(II H1 q (.lst (g.map V.str))) q=some (.lst (g.map V.str)):=A7;generalize II H1 q (.lst (g.map V.str))=H2 at u2 f2⊢;have D:p≠q:=B0 f1 hq;have R:=Z.free hq;refine hZ2 _ _ (B3 λZ3 hZ3=>?_);refine⟨λm σ G=>∃v4 M r S,σ = [some (.ref d),some (.ref a),some (.ref p),some (.ref q),v4,M]/\m=2 *(J.length-r.length)+S.length/\Cv H G/\G p=some (Dd w p r)/\G q=some (.lst (S.map V.str))/\RI L J g r S UP,
   ⟨_,none,none,g,g,rfl,rfl,Z.trans u2,u2 _ _ f1,f2,.init C B⟩,?_⟩
  rintro m σ G ⟨v4,M,r,S,rfl,rfl,s3,e3,g3,R3⟩;refine C3 rfl ⟨_,.inl ⟨_,IR.of g3,rfl⟩,?_⟩;rcases List.eq_nil_or_concat S with rfl | ⟨e,x,rfl⟩
  .refine O9 (hZ3 _ _ ?_);refine C3 rfl ⟨p,r,rfl,e3,λl ts hl pm so=>?_⟩;have u4:=Cv.new (o:=.lst (ts.map V.str)) hl;exact k l ts _ (s3.trans u4) (s3.free hl) A7 (pm.nodup_iff.mpr R3.nd) so (λy=>pm.mem_iff.trans (R3.fin y)) λy t=>R3.sub y (pm.mem_iff.mp t)
  .rw[List.concat_eq_append]at *;rw[AO (by simp)];refine⟨_,λ_ _ z=>z,B3 λN1 hN1=>?_⟩;have R4:RI L J g r e (λy=>y=x):=R3.pop (CL.mp R3.ndw).1 (λy t=>(AN.mp t).imp id AE.mp) λy t=>CT _ t;have hx:x∈r:=R3.wai x (BO _ (AE.mpr rfl));refine C3 rfl ⟨.inl ⟨rfl,_,IR.of g3⟩,q,_,.str x,rfl,rfl,g3,by simp,?_⟩;have ed:((e ++ [x]).map V.str).dropLast=e.map V.str:=by simp
   rw[ed];have s4:=s3.upd (o:=.lst (e.map V.str)) R;have g4:(II G q (.lst (e.map V.str))) q=some (.lst (e.map V.str)):=A7;have e4:(II G q (.lst (e.map V.str))) p=some (Dd w p r):=(B7 D).trans e3;generalize II G q (.lst (e.map V.str))=H4 at s4 g4 e4⊢;refine hN1 _ _ ?_;obtain⟨l,vl,el⟩:=hv x (R3.sub x hx);refine C3 rfl (C3 rfl ⟨d,.ref l,rfl,by rw[<-vl];exact LW.k (k:=Sum.inr x) (s4 _ _ hd),l,rfl,⟨_,IR.of (s4 _ _ el)⟩,?_⟩);refine Di (PQ (K:=K) (IR.of el)) (λi σ u=>∃M b c,σ = [some (.ref d),some (.ref a),some (.ref p),some (.ref q),some (.str x),M]/\2 *(J.length-b.length)+c.length<2 *(J.length-r.length) +(e ++ [x]).length/\Cv H u/\u p=some (Dd w p b)/\u q=some (.lst (c.map V.str))/\RI L J g b c (λy=>y=x)/\x∈b/\∀y∈(L x).take i,y∈b)
    ⟨_,r,e,rfl,by rw[AS];exact FF _,s4,e4,g4,R4,hx,λy t=>absurd t A_⟩ ?_ ?_ ?_
   .rintro i σ u _ ⟨_,_,_,_,_,N,_⟩;exact N.at l
   .rintro i σ u v U ⟨M,b,c,rfl,hm,N,O,g5,I,j,t5⟩ D1 W _;rw[AJ]at U;obtain⟨y,t,rfl⟩:=BG.mp U;have X:y∈L x:=AZ t;have ht:∀{n:A0 Str},(∀z∈b,z∈n)->y∈n->∀z∈(L x).take (i+1),z∈n:=λh1 h2 z hz=>by
     rw[E4 t]at hz;exact(AN.mp hz).elim (λq=>h1 z (t5 z q)) λq=>AE.mp q▸h2
    refine C3 rfl (C3 rfl (zDl O ⟨_,rfl,w8 (λh=>?_) λh=>?_⟩))
    .have Y:y∉b:=λz=>by rw[AQ z]at h;cases h
     have en:Zg b y=b ++ [y]:=AI Y;have R6:=I.add Y (hc x (I.sub x j) y X) ((I.rch x j).step X);have l6:=R6.len;have lw:=I.lenw;refine B3 λO1 hO1=>?_;refine C3 rfl ⟨⟨p,rfl,.inr (.inl ⟨_,O⟩)⟩,C3 rfl ⟨p,b,y,rfl,rfl,O,by rw[AS,GK]at l6;lia,?_⟩⟩;rw[en];have s6:=N.upd (o:=Dd w p (b ++ [y])) hp;have e6:(II u p (Dd w p (b ++ [y]))) p=some (Dd w p (b ++ [y])):=A7;have g6:(II u p (Dd w p (b ++ [y]))) q=some (.lst (c.map V.str)):=(B7 D.symm).trans g5;generalize II u p (Dd w p (b ++ [y]))=H6 at s6 e6 g6⊢;refine hO1 _ _ ?_;refine C3 rfl ⟨.inl ⟨rfl,_,IR.of g6⟩,C3 rfl ⟨q,_,_,rfl,rfl,g6,by rw[AB,sizeLine_eq];lia,W _ _ ⟨_,b ++ [y],c ++ [y],rfl,?_,s6.upd R,(B7 D).trans e6,?_,R6,CT _ j,ht (λz hz=>CT _ hz) (BO _ (AE.mpr rfl))⟩⟩⟩
     .rw[AS,GK]at l6⊢;rw[AS,GK];exact Yg l6 hm
     .rw[A7,AH];rfl
    .have hys:y∈b:=by
      by_cases z:y∈b
      .exact z
      .rw[AL z]at h;exact absurd rfl h
     exact W _ _ ⟨_,b,c,rfl,hm,N,O,g5,I,j,ht (λ_ z=>z) hys⟩
   .rintro σ u ⟨M,b,c,rfl,hm,N,O,g5,I,j,t5⟩;rw[AB,BP]at t5;exact⟨_,hm,_,_,b,c,rfl,rfl,N,O,g5,I.done t5⟩
def Xw{J:It}{a:A3}{ns:A0 Str}{H:Hp}{Q:St->Hp->Prop}{u:TE}{nx:Str->A0 Str}{k:A5 V}(as:OD J (ns.map V.str) a H)(L:ns.length<=1000){D:A3}(w:H D=none)
  (E:∀n∈ns,∀b,Cv H b->∀y:VK,(∀l d,Cv b d->b l=none->d l=some (.lst ((nx n).map V.str))->y (.ref l) d)->u [some (.str n),k] b y)
  (q:∀σ kvs H',Cv H H'->H' D=some (.dK kvs)->Rn H' kvs ns nx->Q σ H') :
  Bi (Q4 0) Ef (Gc D (X0 0) u) J [none,k] (II H D (.dK [])) Q:=by
 refine Q3 as (λi σ b=>(∃v,σ = [v,k])/\∃kvs,Cv H b/\b D=some (.dK kvs)/\kvs.length<=i/\∀n∈ns.take i,∃l,l≠D/\Z0 kvs (.inr n)=some (.ref l)/\b l=some (.lst ((nx n).map V.str)))
  ⟨⟨_,rfl⟩,[],Cv.new w,A7,BZ _,λn h=>absurd h A_⟩ (λi σ b _ ⟨_,kvs,c,_⟩=>c.at a) ?_ ?_
 .rintro i σ b x N A ⟨⟨v,rfl⟩,kvs,c,f,F,g⟩ G;rw[AJ]at A;obtain⟨m,o,rfl⟩:=BG.mp A;have M:i<ns.length:=(AK.mp o).1;refine By ?_;refine C3 rfl (E m (AZ o) b c _ λp d r I K=>?_);refine⟨kvs,.inr m,r _ _ f,rfl,by rw[sizeLine_eq];lia,G _ _ ⟨⟨_,rfl⟩,Cl kvs (.inr m) (.ref p),(c.trans r).upd w,A7,?_,λn j=>?_⟩⟩
  .have:=Y2 kvs (Sum.inr m:JB) (.ref p);lia
  .rw[Dk];by_cases e:n=m
   .rw[AO e,e];have B:p≠D:=(B0 f I).symm;exact⟨p,B,rfl,(B7 B).trans K⟩
   .rw[AI e];rw[E4 o]at j;obtain⟨l,C,s,t⟩:=g n ((AN.mp j).elim id λz=>absurd (AE.mp z) e);exact⟨l,C,s,(B7 C).trans (r _ _ t)⟩
 .rintro σ b ⟨_,kvs,c,f,F,g⟩;rw[AB,BP]at g;exact q σ kvs b c f λn j=>let⟨l,_,s,t⟩:=g n j;⟨l,s,t⟩
def Br{ns:A0 Str}{a:A0 IZ}(h:∀q∈a,q.2.1∈ns/\q.2.2∈ns):∀n∈ns,∀y∈C6 a n,y∈ns:=λn _ y b=>by
 obtain⟨q,c,rfl⟩:=BJ.mp b;exact(h q (AW.mp c).1).2
def U1{ns:A0 Str}{a:A0 IZ}(h:∀q∈a,q.2.1∈ns/\q.2.2∈ns):∀n∈ns,∀y∈B2 a n,y∈ns:=λn _ y b=>by
 obtain⟨q,c,rfl⟩:=BJ.mp b;exact(h q (AW.mp c).1).1
def Si(K:VA)(C:A3):Sp:=λe H Q _=>∃(x a:A3) (c b:A0 Str) (d:A0 IZ),e = [.ref x,.ref a]/\I1 C H x c d/\(∀y∈b,y∈c)/\b.Nodup/\RG K H a (b.map V.str)/\zIs H c b (C6 d) Q
theorem Sf:IL ["web","some"] ["web","some"] (B6 QK):=Kc
theorem Sz(T:Tx K mg):IU P w K mg base JW 3 T.bs.f T.bs.fd ["web","some"] (Si K T.ac):=by
 refine T.bs.F.o1 Sf λS A t s H vs Q E j h=>?_
 .obtain⟨x,a,e,U,u,rfl,v,i,y,W,k⟩:=h;have hu:=Q6 j;refine⟨_,(B4 (C0 (D9 T.bm (Pk T) (Rm j) (A6 (Ot (N':=["name","web"]) (cap:=[none,some 0]) (cl:=[("web",_)]) (P4 ⟨⟨rfl,rfl,rfl,rfl⟩,trivial⟩ ⟨rfl,trivial⟩) rfl (MW K (F5 (pv 0) T.ah T.ad.m (E6 T) (Rm j) T.ad.b .nil J1)) (λ_ _ _ _=>by exact⟨(LS 0),P1,(pv 0),(M0 (pv 1) T.ah T.al.m (V0 T) (Rm j) T.al.b .nil J1 (A6 (pv 0) A8))⟩)) (A6 (pv 1) A8))))),?_⟩;obtain⟨z,N,a1,b,c,d,kc,kd,O,_⟩:=id v;refine C3 rfl ⟨x,N,C3 rfl ⟨O,rfl,x,e,u,rfl,v,λp B=>?_⟩⟩;have q:=Cv.new (o:=.lst (e.map V.str)) B;have C:(II H p (.lst (e.map V.str))) p=some (.lst (e.map V.str)):=A7;generalize II H p (.lst (e.map V.str))=H2 at q C⊢;refine⟨p,rfl,⟨_,IR.of C⟩,λD X=>?_⟩;refine Xw (nx:=C6 u) (PQ (K:=K) (IR.of C)) (by have:=z.len;lia) X (λn Y H1 R Q' Z=>?_) λσ G H3 s3 e3 I=>?_
  .have W1:=(v.same q).same R;refine C3 rfl ⟨x,N,C3 rfl ⟨R _ _ (q _ _ O),rfl,C3 rfl ⟨x,n,e,u,rfl,W1,Y,λl r=>?_⟩⟩⟩;exact Z l _ (Cv.new r) r A7
  .have g:=q.trans s3;refine C3 rfl ⟨D,a,G,e,U,_,rfl,e3,I,Br z.mem,z.len,i,y,(g.at a).seq W,λl ts H4 s4 r e4 J L m4 M=>?_⟩;exact k l ts H4 (g.trans s4) (g.free r) e4 J L m4 M
def Mr(a:JB×V):∀(l c:A0 (JB×V)),Av c (l ++ [a])=Cl (Av c l) a.1 a.2
 | [],_=>rfl
 | b::l,c=>Mr a l (Cl c b.1 b.2)
def Ch:∀{more b:A0 (JB×V)},((b++more).map λk=>k.1).Nodup->Av b more=b++more
 | [],b,_=>(CC b).symm
 | a::m,b,h=>by
  have c:Z0 b a.1=none:=by
   cases e:Z0 b a.1 with
   | none=>rfl
   | some v =>
    rw[AH,BM]at h;exact absurd rfl ((CL.mp h).2.2 _ (Rc e) _ (BA ..))
  show Av (Cl b a.1 a.2) m=_;rw[Me a.2 c,Ch (by rw[BH];exact h),BH];rfl
def Qe(f:Str->A5 Str)(l:A0 Str)(g:Str->Str)(n:Str):A5 Str:=if n∈l then some (g n)else f n
def WD.mrgG{g:Str->Str}:∀{l:A0 Str} {kvs:A0 (JB×V)} {f:Str->A5 Str},WD kvs f->WD (Av kvs (l.map λn=>(Sum.inr n,V.str (g n)))) (Qe f l g)
 | [],_,_,h=>λn=>(h n).trans (by unfold Qe;rw[AI A_])
 | a::l,kvs,f,h=>λn=>by
  have c:WD (Cl kvs (.inr a) (.str (g a))) (Qe f [a] g):=λm=>by
   rw[Dk];unfold Qe;by_cases e:m=a
   .rw[AO e,AO (AE.mpr e),e];rfl
   .rw[AI e,AI λz=>e (AE.mp z)];exact h m
  refine(WD.mrgG (l:=l) c n).trans ?_;unfold Qe;by_cases e:n∈l
  .rw[AO e,AO (AM _ e)]
  .rw[AI e];by_cases b:n=a
   .rw[AO (AE.mpr b),AO (b▸BA ..)]
   .rw[AI λz=>b (AE.mp z),AI λz=>(AV.mp z).elim b e]
def Yn{K:VA}{J:It}{a C:A3}{b:A0 (A3×Row)}{H:Hp}{Q:St->Hp->Prop}(as:OD J (b.map λq=>V.ref q.1) a H)(o:∀q∈b,H q.1=some (.tup [.str q.2.1,.str q.2.2.1,q.2.2.2]))(p:b.length<=1000)(m:H C=none)
  (h:∀σ k,Cv H k->k C=some (.dK (Av [] (b.map λq=>((Sum.inr q.2.1:JB),V.str q.2.2.1))))->Q σ k) (d e f:A5 V) :
  Bi (UL K 3 (Jc (Q4 0) (Jc (Q4 1) (Jc (Q4 2) zGp)))) Ef (Gc C (X0 0) (X0 1)) J [d,e,f] (II H C (.dK [])) Q:=by
 refine Q3 as (λi σ c=>(∃d e f,σ = [d,e,f])/\Cv H c/\c C=some (.dK (Av [] ((b.take i).map λq=>((Sum.inr q.2.1:JB),V.str q.2.2.1)))))
  ⟨⟨_,_,_,rfl⟩,Cv.new m,A7⟩ (λi σ w _ ⟨_,r,_⟩=>r.at a) ?_ ?_
 .rintro i σ c v N n ⟨⟨d,e,f,rfl⟩,g,j⟩ s;rw[AJ]at n;obtain⟨y,l,rfl⟩:=BG.mp n;have x:=(AK.mp l).1;have t:=g _ _ (o y (AZ l));refine⟨y.1,C3 rfl ⟨JG.of t,rfl,_,C3 rfl ⟨_,C3 rfl (C4 rfl rfl ?_)⟩⟩⟩;have u:=X9 [] ((b.take i).map λq=>((Sum.inr q.2.1:JB),V.str q.2.2.1));rw[AB,AX]at u;have A:([]:A0 (JB×V)).length=0:=rfl;show Gc C (X0 0) (X0 1) [some (.str y.2.1),some (.str y.2.2.1),some y.2.2.2] c N;refine C3 rfl (C3 rfl ⟨_,Sum.inr y.2.1,j,rfl,by rw[sizeLine_eq];lia,s _ _ ⟨⟨_,_,_,rfl⟩,g.upd m,?_⟩⟩);rw[A7,E4 l,AH];exact congrArg (λz=>some (HO.dK z)) (Mr (Sum.inr y.2.1,V.str y.2.2.1) _ _).symm
 .rintro σ c ⟨_,g,j⟩;rw[AB,BP]at j;exact h σ c g j
def zFf(H:Hp)(ns:A0 Str)(d:A0 IZ)(Q:VK):Prop:=∀l a b,Cv H b->H l=none->b l=some (.dK a)->WD a (WG ns d)->(∀c:A0 Str,(a.map λq=>q.1)=c.map Sum.inr->c.Perm ns->Q (.ref l) b)
theorem L0:IL ["web","stay","given"] ["web","stay"] (B6 MO):=Kc
def Pp(C:A3):Sp:=λf H Q _=>∃(x d:A3) (a:A0 Str) (b:A0 IZ) (c:A0 Str) (e:Str->Str),f = [.ref x,.ref d]/\I1 C H x a b/\H d=some (.dK (c.map λn=>(Sum.inr n,V.str (e n))))/\c.Nodup/\(∀n∈c,n∈a/\e n=J7 (B2 b) n)/\zFf H a b Q
set_option maxHeartbeats 4000000 in
theorem j8(T:Tx K mg):IU P w K mg base JW 6 T.aK.f T.aK.fd ["web","stay"] (Pp T.ac):=by
 refine T.aK.F.o1 L0 λcdv A N s H vs Q E hr h=>?_
 .obtain⟨x,d0,u,r,j,m,rfl,hW,v,nk,J,q⟩:=h;refine⟨_,(A9 (C8 (i:=2) L0.nd rfl (.inl rfl) (g7 Qz T.bK Su (A6 (pv 1) A8)))
   (A9 (J8 (Kt (pv 2) (Ot (N':=["name","word","number"]) (cap:=[none,none,none]) (cl:=[]) (P4 trivial trivial) rfl (MW K (D9 T.aI (Y7 T) (Rm hr) (A6 (pv 0) (A6 (pv 1) A8)))) (λ_ _ _ _=>by exact⟨(RR K (n:=3) (E7 (LS 0) (E7 (LS 1) (E7 (LS 2) S5)))),P1,(pv 0),(pv 1)⟩)) ⟨rfl,rfl,rfl,rfl⟩))
   (B4 (C0 (pv 2))))),?_⟩
  have O:=hW.ok;have ln:=O.len;have y:=O.nd;refine B3 λN1 R=>?_;refine C3 rfl ⟨d0,_,rfl,v,λd S=>?_⟩;have L:=Cv.new (o:=.dK (j.map λn=>((Sum.inr n:JB),V.str (m n)))) S;have M:(II H d (.dK (j.map λn=>((Sum.inr n:JB),V.str (m n))))) d=some (.dK (j.map λn=>((Sum.inr n:JB),V.str (m n)))):=A7;generalize II H d (.dK (j.map λn=>((Sum.inr n:JB),V.str (m n))))=H1 at L M⊢;have B:WD (j.map λn=>((Sum.inr n:JB),V.str (m n))) (Qe (λ_=>none) j m):=by
   have h1:Av [] (j.map λn=>((Sum.inr n:JB),V.str (m n))) = []++j.map λn=>((Sum.inr n:JB),V.str (m n)):=Ch (by
    rw[GB,B_];exact List.Pairwise.map _ (λa b h e=>h (Sum.inr.inj e)) nk)
   have h2:=WD.mrgG (l:=j) (kvs:=[]) (f:=λ_=>none) (g:=m) λn=>rfl;rw[h1]at h2;exact h2
  have U:SB r (Qe (λ_=>none) j m):=λn w e=>by
   unfold Qe at e;by_cases c:n∈j
   .rw[AO c]at e;rw[<-BU e];exact(J n c).2
   .rw[AI c]at e;cases e
  have p:∀n,n∈wl u (Qe (λ_=>none) j m)↔n∈u/\n∉j:=λn=>by
   rw[KR];unfold Qe;by_cases c:n∈j
   .rw[AO c];exact⟨λz=>(by cases z.2),λz=>absurd c z.2⟩
   .rw[AI c];exact⟨λz=>⟨z.1,c⟩,λz=>⟨z.1,rfl⟩⟩
  have C:(j++wl u (Qe (λ_=>none) j m)).Perm u:=(List.perm_ext_iff_of_nodup (CL.mpr ⟨nk,y.filter _,λa ha b hb e=>((p b).mp hb).2 (e▸ha)⟩) y).mpr λn=>by
   rw[AN];refine Iff.trans (or_congr Iff.rfl (p n)) ?_;by_cases c:n∈j
   .exact⟨λ_=>(J n c).1,λ_=>.inl c⟩
   .exact⟨λz=>z.elim (λz=>absurd z c) λz=>z.1,λz=>.inr ⟨z,c⟩⟩
  have lk:=C.length_eq;rw[AS]at lk;refine R _ _ (B3 λN2 W=>?_);refine C3 rfl ⟨_,rfl,.inl ⟨_,.inl M⟩,?_⟩;refine C3 rfl (C3 rfl ⟨x,d0,u,r,_,_,rfl,hW.same L,L _ _ v,B,by rw[AB];lia,λl t H2 s2 hl L2 S2 QL=>?_⟩);refine⟨l,rfl,⟨_,IR.of L2.1⟩,λD X=>?_⟩;refine Yn (PQ (K:=K) (IR.of L2.1)) L2.2 (by lia) X (λσ H3 s3 e3=>?_) _ _ _;obtain⟨w2,Y⟩:=S2.words (U1 O.mem) y U;generalize wl u (Qe (λ_=>none) j m)=ws at C lk Y p;have Z:(t.map λq=>q.2.1).Nodup:=by
   have:=Y.nodup_iff.mpr ((CL.mp (C.nodup_iff.mpr y)).2.1)
   rwa [B_]at this
  have G:(t.map λq=>q.2.1).Perm ws:=by rwa [B_]at Y
  have e4:Av [] (t.map λq=>((Sum.inr q.2.1:JB),V.str q.2.2.1)) =(t.map λq=>q.2.1).map λn=>((Sum.inr n:JB),V.str (J7 (B2 r) n)):=by
   rw[Ch (by
    rw[GB,B_];exact List.Pairwise.map _ (λa b h e=>h (Sum.inr.inj e)) (CU.mp Z)),GB,B_]
   exact G_ λq hq=>by
    have:=w2 q.2 (BJ.mpr ⟨q,hq,rfl⟩);show _ =((Sum.inr q.2.1:JB),V.str (J7 (B2 r) q.2.1));rw[this]
  rw[e4]at e3;have I:=s2.trans s3;have f3:=I _ _ M;have lw:=G.length_eq;refine⟨D,_,_,rfl,f3,e3,λe=>?_,by rw[AB,AB,sizeLine_eq];lia,?_⟩
  .rw[<-e,s2 _ _ M]at X;cases X
  have u4:=((L.trans I).upd (o:=.dK (Av (j.map λn=>((Sum.inr n:JB),V.str (m n))) ((t.map λq=>q.2.1).map λn=>((Sum.inr n:JB),V.str (J7 (B2 r) n))))) S);refine W _ _ (C3 rfl (q d _ _ u4 S A7 ?_ (j++t.map λq=>q.2.1) ?_ ((CZ j G).trans C)))
  .intro n;refine(WD.mrgG (g:=J7 (B2 r)) B n).trans (congrArg (Option.map V.str) ?_);unfold Qe WG;by_cases c:n∈t.map λq=>q.2.1
   .rw[AO c,AO ((p n).mp (G.mem_iff.mp c)).1]
   .rw[AI c];by_cases k:n∈j
    .rw[AO k,AO (J n k).1,(J n k).2]
    .rw[AI k,AI λz=>c (G.mem_iff.mpr ((p n).mpr ⟨z,k⟩))]
  .rw[Ch]
   .rw[AH,B_,B_];have e5:((λq:JB×V=>q.1)∘λn:Str=>((Sum.inr n:JB),V.str (m n)))=Sum.inr:=rfl;have e6:((λq:JB×V=>q.1)∘λn:Str=>((Sum.inr n:JB),V.str (J7 (B2 r) n)))=Sum.inr:=rfl;rw[e5,e6,<-AH]
   .rw[AH,B_,B_];have e5:((λq:JB×V=>q.1)∘λn:Str=>((Sum.inr n:JB),V.str (m n)))=Sum.inr:=rfl;have e6:((λq:JB×V=>q.1)∘λn:Str=>((Sum.inr n:JB),V.str (J7 (B2 r) n)))=Sum.inr:=rfl;show((j.map Sum.inr) ++(t.map λq=>q.2.1).map Sum.inr:A0 JB).Nodup;rw[<-AH];exact List.Pairwise.map _ (λa b h e=>h (Sum.inr.inj e)) (((CZ j G).trans C).nodup_iff.mpr y)
def oV(o:A5 Str):V:=(o.map V.str).getD .non
abbrev Row3:Type:=Str×A5 Str×Str
def R3(H:Hp)(l:A3)(a:A0 (A3×Row3)):Prop:=H l=some (.lst (a.map λq=>V.ref q.1))/\∀q∈a,H q.1=some (.tup [.str q.2.1,oV q.2.2.1,.str q.2.2.2])
def R3.same{H H':Hp}{l:A3}{a:A0 (A3×Row3)}(h:R3 H l a)(s:Cv H H'):R3 H' l a:=⟨s _ _ h.1,λq b=>s _ _ (h.2 q b)⟩
def UI(f:Str->A5 Str)(g:Str->Str)(n:Str):Bool:=!decide (f n=some (g n))
def Mc(f:Str->A5 Str)(g:Str->Str)(ns:A0 Str):A0 Row3:=(ns.filter (UI f g)).map λn=>(n,f n,g n)
def zEr(o:A5 Str)(y:Str):zHu (oV o) (.str y)=true/\(!decide (oV o = .str y))=!decide (o=some y):=by
 cases o with
 | none=>exact⟨rfl,rfl⟩
 | some x =>
  refine⟨rfl,?_⟩;show(!decide (V.str x=V.str y))=_;by_cases e:x=y
  .rw[e,AQ rfl,AQ rfl]
  .rw[AL (λz=>e (by cases z;rfl)),AL (λz=>e (by cases z;rfl))]
theorem zBe{K:VA}{a D:A3}{ss:A0 Str}{r:St}{f:Str->A5 Str}{g:Str->Str}{B:TT}{C:TE}{H:Hp}{Q:St->Hp->Prop}(e:H a=some (.lst (ss.map V.str)))(P:ss.length<=1000)(E:H D=none)
  (u:∀y∈ss,∀d,Cv H d->∀m:Bool->Hp->Prop,m (UI f g y) d->B (some (.str y)::r) d m)
  (R:∀y∈ss,∀d,Cv H d->∀m:VK,(∀t,d t=none->m (.ref t) (II d t (.tup [.str y,oV (f y),.str (g y)])))->C (some (.str y)::r) d m)
  (h:∀σ w b,Cv H w->R3 w D b->(b.map λq=>q.2)=Mc f g ss->Q σ w) (F:A5 V) :
  Bi (Q4 0) B (Z8 D C) (QS K a) (F::r) (II H D (.lst [])) Q:=by
 refine Q3 (PQ (K:=K) (IR.of e)) (λi σ j=>(∃v,σ=v::r)/\Cv H j/\∃b,R3 j D b/\(b.map λq=>q.2)=Mc f g (ss.take i))
  ⟨⟨_,rfl⟩,Cv.new E,[],⟨A7,λq p=>absurd p A_⟩,rfl⟩ (λi σ d _ ⟨_,S,_⟩=>S.at a) ?_ ?_
 .rintro i σ j v N G ⟨⟨F,rfl⟩,k,b,s,l⟩ I;rw[AJ]at G;obtain⟨y,J,rfl⟩:=BG.mp G;have L:=AZ J;have M:Mc f g (ss.take (i+1))=Mc f g (ss.take i)++if UI f g y=true then [(y,f y,g y)]else []:=by
   unfold Mc;rw[E4 J,CV,BR,DZ,AH];by_cases c:UI f g y=true
   .rw[AO c,AO c];rfl
   .rw[AI c,AI c];rfl
  have U:b.length<=1000:=by
   have O:=congrArg List.length l;unfold Mc at O;have:=BC (UI f g) (ss.take i);rw[AB,AB]at O;rw[AX]at this;lia
  refine u y L j k _ (w8 (λc=>R y L j k _ λt u=>?_) (λc=>I _ _ ⟨⟨_,rfl⟩,k,b,s,by rw[M,AI c,CC];exact l⟩));have x:=Cv.new (o:=.tup [.str y,oV (f y),.str (g y)]) u;have A:(II j t (.tup [.str y,oV (f y),.str (g y)])) t=some (.tup [.str y,oV (f y),.str (g y)]):=A7;generalize II j t (.tup [.str y,oV (f y),.str (g y)])=X at x A⊢;have n:=s.same x;refine⟨_,n.1,by rw[AB,sizeLine_eq];lia,I _ _ ⟨⟨_,rfl⟩,(k.trans x).upd E,b ++ [(t,y,f y,g y)],⟨?_,λq p=>?_⟩,?_⟩⟩
  .rw[A7,AH];rfl
  .have T:q.1≠D:=by
    rcases AN.mp p with c | c
    .exact J4 (n.2 q c) n.1 (by intro z;cases z)
    .rw[AE.mp c];exact J4 A n.1 (by intro z;cases z)
   rw[B7 T];rcases AN.mp p with c | c
   .exact n.2 q c
   .rw[AE.mp c];exact A
  .rw[AH,l,M,AO c];rfl
 .rintro σ j ⟨_,k,b,s,l⟩;rw[AB,BP]at l;exact h σ j b k s l
theorem Do:IL ["old","new"] ["old","new"] (B6 MP):=Kc
def Jb:Sp:=λk H Q _=>∃(d e:A3) (h b:A0 (JB×V)) (f:Str->A5 Str) (g:Str->Str) (i a:A0 Str),k = [.ref d,.ref e]/\H d=some (.dK h)/\WD h f/\H e=some (.dK b)/\(b.map λq=>q.1)=i.map Sum.inr/\i.Perm a/\a.Pairwise NZ/\a.length<=100/\(∀n∈a,Z0 b (.inr n)=some (.str (g n))) /\
 ∀l j c,Cv H c->H l=none->R3 c l j->(j.map λq=>q.2)=Mc f g a->Q (.ref l) c
theorem i8(T:Tx K mg):IU P w K mg base JW 1 T.aL.f T.aL.fd ["old","new"] (Jb):=by
 refine T.aL.F.o1 Do λL A v s H vs Q E M h=>?_
 .obtain⟨d,e,kd,N,f,g,O,i,rfl,R,S,G,U,W,X,ln,Y,q⟩:=h;have r:=Q6 M;refine⟨_,(B4 (C0 (W9 (N':=["name","new","old"]) (cap:=[none,some 1,some 0]) (cl:=[("old",_),("new",_)]) (P4 ⟨⟨rfl,rfl,rfl,rfl⟩,⟨⟨rfl,rfl,rfl,rfl⟩,trivial⟩⟩ ⟨rfl,⟨rfl,trivial⟩⟩) rfl (MW K (F9 Wi T.ay K8 (A6 (pv 1) A8))) (λ_ _ _ _=>by exact⟨(LS 0),(P0 (B8 Ed (Co r (pv 2) (pv 0) ⟨rfl,rfl,rfl,rfl⟩) (V7 r (pv 1) (pv 0) (λ_ _=>rfl)) (D8 _))),(J6 (A6 (pv 0) (A6 (Co r (pv 2) (pv 0) ⟨rfl,rfl,rfl,rfl⟩) (A6 (V7 r (pv 1) (pv 0) (λ_ _=>rfl)) A8))))⟩)))),?_⟩;refine C3 rfl ⟨e,N,O,rfl,.inl G,U,λl Z hl p3 x=>?_⟩;rw[O8 x X (p3.trans W)];have j:=Cv.new (o:=.lst (i.map V.str)) hl;have z:(II H l (.lst (i.map V.str))) l=some (.lst (i.map V.str)):=A7;generalize II H l (.lst (i.map V.str))=I at j z⊢;refine⟨l,rfl,⟨_,IR.of z⟩,λD J=>?_⟩;have m:∀(y:Str) (a:Hp) (c:VK),Cv I a->c (oV (f y)) a->Se (X0 2) (X0 0) [some (.str y),some (.ref e),some (.ref d)] a c:=λy a c b B=>by
   have u:=b _ _ (j _ _ R);refine C3 rfl ⟨d,rfl,.inl ⟨_,.inl u⟩,C3 rfl ⟨_,LW.k (k:=.inr y) u,?_⟩⟩;rw[S y];exact B
  have n:∀(y:Str),y∈i->∀(a:Hp) (c:VK),Cv I a->c (.str (g y)) a->zEb (X0 1) (X0 0) [some (.str y),some (.ref e),some (.ref d)] a c:=λy p a c b B=>by
   refine C3 rfl (C3 rfl ⟨e,_,rfl,?_,B⟩);have:=LW.k (k:=.inr y) (b _ _ (j _ _ G));rw[Y y p]at this;exact this
  refine zBe (f:=f) (g:=g) z (by lia) J (λy p a b c C=>?_) (λy p a b c C=>?_) (λσ a rs b L2 u=>q D rs a (j.trans b) (j.free J) L2 u) _
  .unfold Aq PN;refine m y a _ b ?_;refine n y p a _ b ?_;refine⟨(zEr _ _).1,_,rfl,?_⟩;rw[(zEr _ _).2];exact C
  .exact C3 rfl (m y a _ b (n y p a _ b ⟨by show 3<=sizeLine;rw[sizeLine_eq];lia,λt ht=>C t ht⟩))
def eK(H:Hp)(k p:A3):Hp:=λb=>if b=k\/b=p then none else H b
def R8{H:Hp}{k p b:A3}(h1:b≠k)(h2:b≠p):eK H k p b=H b:=AI λz=>z.elim h1 h2
def Dr{H:Hp}{k p b:A3}{o:HO}(e:eK H k p b=some o):b≠k/\b≠p/\H b=some o:=by
 by_cases h:b=k\/b=p
 .unfold eK at e;rw[AO h]at e;cases e
 .have a:b≠k:=λz=>h (.inl z);have c:b≠p:=λz=>h (.inr z);rw[R8 a c]at e;exact⟨a,c,e⟩
def U0{H:Hp}{k p:A3}:Cv (eK H k p) H:=λb o e=>(Dr e).2.2
def Bt(k p:A3)(H H':Hp):Prop:=∀b o,b≠k->b≠p->H b=some o->H' b=some o
def Bt.eK{k p:A3}{H H':Hp}(h:Bt k p H H'):Cv (eK H k p) (eK H' k p):=λb o e=>by
 obtain⟨a,c,e⟩:=Dr e;rw[R8 a c];exact h b o a c e
def Bt.of{k p:A3}{H H':Hp}(h:Cv H H'):Bt k p H H':=λb o _ _ e=>h b o e
def Bt.trans{k p:A3}{H H' a:Hp}(h:Bt k p H H')(h':Bt k p H' a):Bt k p H a:=λb o c d e=>h' b o c d (h b o c d e)
def Bt.k{k p:A3}{H H':Hp}{o:HO}(h:Bt k p H H'):Bt k p H (II H' k o):=λb q a c e=>(B7 a).trans (h b q a c e)
def Bt.p{k p:A3}{H H':Hp}{o:HO}(h:Bt k p H H'):Bt k p H (II H' p o):=λb q c a e=>(B7 a).trans (h b q c a e)
def Js{H:Hp}{k p:A3}{o:HO}:eK (II H k o) k p=eK H k p:=funext λb=>by
 by_cases h:b=k\/b=p
 .unfold eK;rw[AO h,AO h]
 .have a:b≠k:=λz=>h (.inl z);rw[R8 a (λz=>h (.inr z)),R8 a (λz=>h (.inr z)),B7 a]
def zBj{H:Hp}{k p:A3}{o:HO}:eK (II H p o) k p=eK H k p:=funext λb=>by
 by_cases h:b=k\/b=p
 .unfold eK;rw[AO h,AO h]
 .have a:b≠p:=λz=>h (.inr z);rw[R8 (λz=>h (.inl z)) a,R8 (λz=>h (.inl z)) a,B7 a]
def I1.keepD{C D:A3}{H H':Hp}{x d dd:A3}{i:A0 (Str×V)}{ns:A0 Str}{j:A0 IZ}(h:I1 C H x ns j)(m:H d=some (.ins D dd i))(nx:x≠d)(k:∀b o,b≠d->H b=some o->H' b=some o):I1 C H' x ns j:=by
 obtain⟨p,r,a,b,c,s,t,u,w,y,A,B,E,F,G,I⟩:=h;have f:∀{b:A3} {o:HO},H b=some o->o≠ .ins D dd i->H' b=some o:=λe n=>k _ _ (J4 e m n) e;exact⟨p,r,a,b,c,s,t,u,k _ _ nx w,f y (by intro z;cases z),f A (by intro z;cases z),λq J=>f (B q J) (by intro z;cases z),f E (by intro z;cases z),f F (by intro z;cases z),λn g=>let⟨l,v,e⟩:=G n g;⟨l,v,f e (by intro z;cases z)⟩,λn g=>let⟨l,v,e⟩:=I n g;⟨l,v,f e (by intro z;cases z)⟩⟩
def kf(x g r p:A3):A0 (Str×V):=[("web",.ref x),("given",.ref g),("reckoned",.ref r),("past",.ref p)]
structure QZ(ns:A0 Str)(qs:A0 IZ)(ns2:A0 Str)(qs2:A0 IZ)(ss ts:A0 Str):Prop where
 nd:ts.Nodup
 so:ts.Pairwise NZ
 sub:∀x∈ts,x∈ns2
 rch:∀x,x∈ts↔RJ (C6 qs2) ss x
 stay:∀n∈ns2,n∉ts->WG ns qs n=some (J7 (B2 qs2) n)
structure KB(CK CW:A3)(H:Hp)(k p:A3)(ns:A0 Str)(qs:A0 IZ)(rk:A0 Str)(m:Nat):Prop where
 ex:∃(dk x g r:A3) (kvs:A0 (JB×V)) (ks:A0 Str) (rl pl:A0 V),H k=some (.ins CK dk (kf x g r p))/\I1 CW (eK H k p) x ns qs/\H g=some (.dK kvs)/\WD kvs (WG ns qs)/\(kvs.map λq=>q.1)=ks.map Sum.inr/\ks.Perm ns/\H p=some (.lst pl)/\pl.length<=m/\(eK H k p) r=some (.lst (rk.map V.str))
 nm:∀n∈ns,S0 n=true
def KB.same{b c:A3}{H H':Hp}{k p:A3}{ns:A0 Str}{d:A0 IZ}{e:A0 Str}{m:Nat}(h:KB b c H k p ns d e m)(s:Cv H H'):KB b c H' k p ns d e m :=
 ⟨let⟨f,x,g,r,a,i,j,l,n,o,q,t,u,v,w,y,z⟩:=h.ex;⟨f,x,g,r,a,i,j,l,s _ _ n,o.same (Bt.of s).eK,s _ _ q,t,u,v,s _ _ w,y,(Bt.of s).eK _ _ z⟩,h.nm⟩
def Jq{C j:A3}{H:Hp}{y k p m:A3}{r:A0 (Str×V)}{ns:A0 Str}{s:A0 IZ}(h:I1 C (II H p (.own p)) y ns s)(w:H k=some (.ins j m r))(x:y≠k):I1 C (eK H k p) y ns s:=by
 obtain⟨A,t,a,b,c,u,B,D,E,F,G,I,J,K,L,M⟩:=h;have g:∀{b:A3} {o:HO},(II H p (.own p)) b=some o->o≠ .own p->b≠p/\H b=some o:=fun{b o} e n=>by
  have d:b≠p:=λq=>by
   rw[q,A7]at e;exact n (BU e).symm
  rw[B7 d]at e;exact⟨d,e⟩
 have f:∀{b:A3} {o:HO},(II H p (.own p)) b=some o->o≠ .own p->o≠ .ins j m r->eK H k p b=some o:=fun{b o} e n N=>by
  obtain⟨d,e⟩:=g e n;rw[R8 (J4 e w N) d];exact e
 have O:eK H k p y=some (.ins C t (wf a b c u)):=by
  obtain⟨d,e⟩:=g E (by intro z;cases z);rw[R8 x d];exact e
 exact⟨A,t,a,b,c,u,B,D,O,f F (by intro z;cases z) (by intro z;cases z),f G (by intro z;cases z) (by intro z;cases z),λq P=>f (I q P) (by intro z;cases z) (by intro z;cases z),f J (by intro z;cases z) (by intro z;cases z),f K (by intro z;cases z) (by intro z;cases z),(λn i=>let⟨l,v,e⟩:=L n i;⟨l,v,f e (by intro z;cases z) (by intro z;cases z)⟩),λn i=>let⟨l,v,e⟩:=M n i;⟨l,v,f e (by intro z;cases z) (by intro z;cases z)⟩⟩
def KB.noK{j s:A3}{H:Hp}{k p o po t x0 v w:A3}{ns:A0 Str}{y:A0 IZ}{A:A0 Str}{m:Nat}(h:KB j s (eK H p p) o po ns y A m)(J:H k=some (.ins j t (kf x0 v w p)))(B:k≠p)(C:o≠k):KB j s (eK H k p) o po ns y A m:=by
 obtain⟨⟨d,x,g,r,l,K,L,M,N,D,E,O,P,Q,F,R,G⟩,S⟩:=h;have kk:(eK H p p) k=some (.ins j t (kf x0 v w p)):=by rw[R8 B B];exact J
 have f:∀{b:A3} {u:HO},(eK H p p) b=some u->b≠k->(eK H k p) b=some u:=fun{b u} e n=>by
  obtain⟨q,_,e⟩:=Dr e;rw[R8 n q];exact e
 have I:∀{b:A3} {u:HO},(eK (eK H p p) o po) b=some u->b≠k->(eK (eK H k p) o po) b=some u:=fun{b u} e n=>by
  obtain⟨q,T,e⟩:=Dr e;rw[R8 q T];exact f e n
 have i:k≠po:=J4 kk F (by intro z;cases z);have U:x≠k:=by
  obtain⟨_,X,a,b,c,Y,_,_,V,_⟩:=id D;refine J4 (Dr V).2.2 kk λz=>?_;injection z with _ _ z;have:("names":Str) = "web":=congrArg Prod.fst (IA z).1;exact absurd this (by decide +kernel)
 exact⟨⟨d,x,g,r,l,K,L,M,f N C,D.keepD (d:=k) (by rw[R8 C.symm i];exact kk) U λb u W e=>I e W,f E (J4 E kk (by intro z;cases z)),O,P,Q,f F (Ne.symm i),R,I G (J4 (Dr G).2.2 kk (by intro z;cases z))⟩,S⟩
theorem Ex{C:A3}{H:Hp}{h l2:A3}{ss:A0 Str}{ps:A0 IZ}{R:Hp->Prop}{E:XK}{y a:A3}(r:H y=none)(i:H a=none)(s:H h=some (.lst (ss.map V.str)))(t:H l2=some (.lst (F8 ps)))(j:∀q∈ps,G0 H q)(w:i6 ss)(x:OG ss ps)
  (q:∀(ns:A0 Str) (g:A0 IZ) (H':Hp),ns.Perm ss->ns.Pairwise NZ->g.Perm ps->g.Pairwise QX->Cv H H'->I1 C H' y ns g->(∀z k u,H z=some (.lst k)->I1 C (II H' z u) y ns g)->R H') :
  Ea K C [.ref y,.ref h,.ref l2] (II (II H a (.own y)) y (.ins C a [])) (λv A=>v = .non/\R A) E:=by
 have c:Cv H (II (II H a (.own y)) y (.ins C a [])):=λb o e=>by
  rw[B7 (B0 e r),B7 (B0 e i)];exact e
 refine⟨y,a,h,ss,l2,ps,rfl,A7,.inl (IR.of (c _ _ s)),w,c _ _ t,G9 c j,x,λl m B n d p f D F G=>⟨rfl,?_⟩⟩;exact q l m B n d p f (λb o e=>D b o (c b o e) (by simpa using B0 e r)) F λz k u I=>G z k u (c _ _ I)
theorem Qd:IL ["web"] ["web"] (B6 PY):=Kc
def zBs(C:A3):Sp:=λe H Q _=>∃(x:A3) (b:A0 Str) (d:A0 IZ),e = [.ref x]/\I1 C H x b d/\(∀n∈b,S0 n=true) /\
 ∀(y:A3) (a:A0 IZ) (c:Hp),a.Perm d->Cv H c->H y=none->I1 C c y b a->(∀z f u,H z=some (.lst f)->I1 C (II c z u) y b a)->Q (.ref y) c
theorem Fu(T:Tx K mg):IU P w K mg base JW 5 T.bc.f T.bc.fd ["web"] (zBs T.ac):=by
 refine T.bc.F.o1 Qd λN A j s H vs Q E k h=>?_
 .obtain⟨x,d,g,rfl,W,O,q⟩:=h;obtain⟨e,B,a1,b,c,d',kc,R,C,_,_,l,_⟩:=id W;refine⟨_,(B4 (C0 (j7 T.bk (T8 T) (Rm k) rfl T.bj T.aC .nil J1 (A6 (F5 (pv 0) T.ah T.ad.m (E6 T) (Rm k) T.ad.b .nil J1) (A6 (F5 (pv 0) T.ah T.ag.m (J2 T) (Rm k) T.ag.b .nil J1) A8))))),?_⟩;refine C3 rfl ⟨x,B,C3 rfl ⟨C,rfl,x,d,g,rfl,W,λn p=>?_⟩⟩;have i:=Cv.new (o:=.lst (d.map V.str)) p;have D:(II H n (.lst (d.map V.str))) n=some (.lst (d.map V.str)):=A7;generalize II H n (.lst (d.map V.str))=S at i D⊢;refine C3 rfl ⟨x,B,C3 rfl ⟨i _ _ C,rfl,x,d,g,rfl,W.same i,λG r=>?_⟩⟩;have I:=Cv.new (o:=.lst (F8 g)) r;have U:(II S G (.lst (F8 g))) G=some (.lst (F8 g)):=A7;have a:=i.trans I;intro y dy J t X;refine Ex J t (I _ _ D) U (G9 a l) ⟨O,e.nd,e.len⟩ ⟨e.mem,e.ndq,e.lenq⟩ λY v Z pn sn pq sq s' L M=>?_;rw[O8 sn e.srt pn]at L M;exact q y v Z pq (a.trans s') (a.free J) L λz zs u hz=>M z zs u (a _ _ hz)
theorem Am:IL ["self","web"] ["self","web"] (B6 LO):=Kc
def Ws(d e:A3):Sp:=λg H Q _=>∃(k h x:A3) (b:A0 Str) (f:A0 IZ),g = [.ref k,.ref x]/\H k=some (.ins d h [])/\I1 e H x b f/\x≠k/\(∀n∈b,S0 n=true) /\
 ∀(p:A3) (a:A0 IZ) (c:Hp),a.Perm f->Bt k p H c->H p=none->KB d e c k p b a [] 0->(∀z i,H z=some (.lst i)->KB d e (eK c z z) k p b a [] 0)->Q .non c
set_option maxHeartbeats 1000000 in
theorem t8(T:Tx K mg):IU P w K mg base JW 7 T.bz T.bw ["self","web"] (Ws T.aa T.ac):=by
 refine T.bA.o1 Am λcdv A Z s H vs Q E hr h=>?_
 .obtain⟨k,a,x,l,qs,rfl,hk,W,nx,hN,q⟩:=h;refine⟨_,(A9 (RC K (pv 0) (D9 T.bc (Fu T) (Rm hr) (A6 (pv 1) A8)))
   (A9 (RC K (pv 0) (D9 T.aK (j8 T) (Rm hr) (A6 (LX K (pv 0)) (A6 Nm A8))))
   (A9 (RC K (pv 0) (E9 A8))
   (B4 (RC K (pv 0) (E9 A8)))))),?_⟩
  refine B3 λN1 hN1=>?_;refine C3 rfl ⟨x,l,qs,rfl,W,hN,λy c i p1 L hy W1 C1=>?_⟩;have m:=L _ _ hk;have C:y≠k:=(B0 hk hy).symm;refine C3 rfl ⟨k,T.aa,a,[],rfl,m,T.ab,T.ai,by decide,?_⟩;refine hN1 _ _ (B3 λN2 hN2=>?_);have v:(II i k (.ins T.aa a (Q1 "web" (.ref y) []))) k=some (.ins T.aa a [("web",.ref y)]):=A7;have b2:Bt k k i (II i k (.ins T.aa a (Q1 "web" (.ref y) []))):=Bt.k λb o _ _ e=>e;have W2:I1 T.ac (eK (II i k (.ins T.aa a (Q1 "web" (.ref y) []))) k k) y l c:=by
   rw[Js];exact W1.keepD m C λb o hb e=>(R8 hb hb).trans e
  generalize II i k (.ins T.aa a (Q1 "web" (.ref y) []))=H2 at v b2 W2⊢;refine C3 rfl ⟨k,T.aa,a,_,_,rfl,v,T.ab,T.ai,rfl,?_⟩;intro d hd;have u3:=Cv.new (o:=.dK []) hd;have f3:(II H2 d (.dK [])) d=some (.dK []):=A7;generalize II H2 d (.dK [])=H3 at u3 f3⊢;refine⟨y,d,l,c,[],λ_ => "",rfl,(W2.same U0).same u3,f3,DX,λn hn=>absurd hn A_,λg D M s4 hg e4 F ks k4 p4=>?_⟩;have t:=u3.trans s4;have h4:=t _ _ v;have W4:=W2.same (Bt.of t (k:=k) (p:=k)).eK;have N:g≠k:=J4 e4 h4 (by intro z;cases z);refine C3 rfl ⟨k,T.aa,a,_,rfl,h4,T.ab,T.aD,CM rfl,?_⟩;have h5:(II M k (.ins T.aa a (Q1 "given" (.ref g) [("web",.ref y)]))) k=some (.ins T.aa a [("web",.ref y),("given",.ref g)]):=A7;have b5:Bt k k i (II M k (.ins T.aa a (Q1 "given" (.ref g) [("web",.ref y)]))):=(b2.trans (Bt.of t)).k;have W5:I1 T.ac (eK (II M k (.ins T.aa a (Q1 "given" (.ref g) [("web",.ref y)]))) k k) y l c:=by
   rw[Js];exact W4
  have e5:=(B7 (o:=.ins T.aa a (Q1 "given" (.ref g) [("web",.ref y)])) N).trans e4;generalize II M k (.ins T.aa a (Q1 "given" (.ref g) [("web",.ref y)]))=H5 at h5 b5 W5 e5⊢;refine hN2 _ _ (B3 λN3 hN3=>?_);refine⟨BZ _,λr u=>?_⟩;have G:=Cv.new (o:=.lst []) u;have f6:(II H5 r (.lst [])) r=some (.lst []):=A7;have O:r≠k:=(B0 h5 u).symm;generalize II H5 r (.lst [])=R at G f6⊢;refine C3 rfl ⟨k,T.aa,a,_,rfl,G _ _ h5,T.ab,T.aX,CM rfl,?_⟩;have h7:(II R k (.ins T.aa a (Q1 "reckoned" (.ref r) [("web",.ref y),("given",.ref g)]))) k=some (.ins T.aa a [("web",.ref y),("given",.ref g),("reckoned",.ref r)]):=A7;have b7:Bt k k i (II R k (.ins T.aa a (Q1 "reckoned" (.ref r) [("web",.ref y),("given",.ref g)]))):=(b5.trans (Bt.of G)).k;have W7:I1 T.ac (eK (II R k (.ins T.aa a (Q1 "reckoned" (.ref r) [("web",.ref y),("given",.ref g)]))) k k) y l c:=by
   rw[Js];exact W5.same (Bt.of G).eK
  have S:=(B7 (o:=.ins T.aa a (Q1 "reckoned" (.ref r) [("web",.ref y),("given",.ref g)])) N).trans (G _ _ e5);have f7:=(B7 (o:=.ins T.aa a (Q1 "reckoned" (.ref r) [("web",.ref y),("given",.ref g)])) O).trans f6;generalize II R k (.ins T.aa a (Q1 "reckoned" (.ref r) [("web",.ref y),("given",.ref g)]))=H7 at h7 b7 W7 S f7⊢;refine hN3 _ _ ⟨BZ _,λp f=>?_⟩;have B:=Cv.new (o:=.lst []) f;have f8:(II H7 p (.lst [])) p=some (.lst []):=A7;have U:p≠k:=(B0 h7 f).symm;have pg:p≠g:=(B0 S f).symm;have W8:I1 T.ac (eK (II H7 p (.lst [])) k p) y l c:=by
   rw[zBj];refine W7.same λb o e=>?_;obtain⟨b1,_,e⟩:=Dr e;rw[R8 b1 (B0 e f)];exact e
  have rp:r≠p:=B0 f7 f;have f9:=B _ _ f7;generalize II H7 p (.lst [])=V at B f8 W8 f9⊢;refine C3 rfl ⟨k,T.aa,a,_,rfl,B _ _ h7,T.ab,T.ba,CM rfl,?_⟩;have I:i p=none:=by
   cases e:i p with
   | none=>rfl
   | some o =>
    have:=b7 p o U U e;rw[f]at this;cases this
  have hp:=L.free I;have X:∀(b:A3) (o:HO),b≠k->i b=some o->(II V k (.ins T.aa a (Q1 "past" (.ref p) [("web",.ref y),("given",.ref g),("reckoned",.ref r)]))) b=some o:=λb o j e=>(B7 j).trans (B _ _ (b7 b o j j e));have K9:KB T.aa T.ac (II V k (.ins T.aa a (Q1 "past" (.ref p) [("web",.ref y),("given",.ref g),("reckoned",.ref r)]))) k p l c [] 0:=⟨⟨a,y,g,r,D,ks,[],[],A7,by rw[Js];exact W8,(B7 N).trans (B _ _ S),F,k4,p4,(B7 U).trans f8,VD _,by rw[Js,R8 O rp];exact f9⟩,hN⟩;have g9:=(B7 (o:=.ins T.aa a (Q1 "past" (.ref p) [("web",.ref y),("given",.ref g),("reckoned",.ref r)])) N).trans (B _ _ S);have p9:=(B7 (o:=.ins T.aa a (Q1 "past" (.ref p) [("web",.ref y),("given",.ref g),("reckoned",.ref r)])) U).trans f8;have k9:(II V k (.ins T.aa a (Q1 "past" (.ref p) [("web",.ref y),("given",.ref g),("reckoned",.ref r)]))) k=some (.ins T.aa a (kf y g r p)):=A7;have r9:=(B7 (o:=.ins T.aa a (Q1 "past" (.ref p) [("web",.ref y),("given",.ref g),("reckoned",.ref r)])) O).trans f9;generalize II V k (.ins T.aa a (Q1 "past" (.ref p) [("web",.ref y),("given",.ref g),("reckoned",.ref r)]))=H9 at X K9 g9 p9 k9 r9⊢;refine q p c H9 p1 (λb o j _ e=>X b o j (L b o e)) hp K9 λz zs Y=>?_;have z1:=L _ _ Y;have J:z≠k:=J4 Y hk (by intro z;cases z);have zp:z≠p:=B0 Y hp;have zr:z≠r:=B0 (b5 z _ J J z1) u;have gz:g≠z:=J4 g9 (X z _ J z1) (by intro z;cases z);have Wz:=(Jq (C1 z zs (.own z) Y) m C).same (H':=eK (eK H9 z z) k p) λb o e=>by
   obtain⟨j,v,e⟩:=Dr e;rw[R8 j (B0 e I),R8 v v];exact X b o j e
  exact⟨⟨a,y,g,r,D,ks,[],[],by rw[R8 J.symm J.symm];exact k9,Wz,by rw[R8 gz gz];exact g9,F,k4,p4,by rw[R8 zp.symm zp.symm];exact p9,VD _,by rw[R8 O rp,R8 zr.symm zr.symm];exact r9⟩,hN⟩
def zCb{K:VA}{a C:A3}{ns:A0 Str}{r:St}{p:Str->Bool}{g:Str->Str}{u:TT}{w:TE}{H:Hp}{Q:St->Hp->Prop}(e:H a=some (.lst (ns.map V.str)))(F:ns.Nodup)(G:ns.length<=1000)(x:H C=none)
  (I:∀y∈ns,∀b,Cv H b->∀k:Bool->Hp->Prop,k (p y) b->u (some (.str y)::r) b k)
  (J:∀y∈ns,p y=true->∀b,Cv H b->∀k:VK,k (.str (g y)) b->w (some (.str y)::r) b k)
  (h:∀σ m,Cv H m->m C=some (.dK ((ns.filter p).map λn=>((Sum.inr n:JB),V.str (g n))))->Q σ m) (z:A5 V) :
  Bi (Q4 0) u (Gc C (X0 0) w) (QS K a) (z::r) (II H C (.dK [])) Q:=by
 refine Q3 (PQ (K:=K) (IR.of e)) (λi σ f=>(∃v,σ=v::r)/\Cv H f/\f C=some (.dK (((ns.take i).filter p).map λn=>((Sum.inr n:JB),V.str (g n)))))
  ⟨⟨_,rfl⟩,Cv.new x,A7⟩ (λi σ b _ ⟨_,L,_⟩=>L.at a) ?_ ?_
 .rintro i σ f v N A ⟨⟨z,rfl⟩,j,l⟩ B;rw[AJ]at A;obtain⟨y,o,rfl⟩:=BG.mp A;have D:=AZ o;have E:(ns.take (i+1)).filter p =(ns.take i).filter p++if p y=true then [y]else []:=by
   rw[E4 o,CV,BR,DZ]
  have P:(((ns.take i).filter p).map λn=>((Sum.inr n:JB),V.str (g n))).length<=1000:=by
   rw[AB];have:=BC p (ns.take i);rw[AX]at this;lia
  refine I y D f j _ (w8 (λc=>?_) (λc=>B _ _ ⟨⟨_,rfl⟩,j,by rw[E,AI c,CC];exact l⟩));refine C3 rfl (J y D c f j _ ⟨_,Sum.inr y,l,rfl,by rw[sizeLine_eq];lia,B _ _ ⟨⟨_,rfl⟩,j.upd x,?_⟩⟩);have M:Z0 (((ns.take i).filter p).map λn=>((Sum.inr n:JB),V.str (g n))) (Sum.inr y:JB)=none:=by
   cases e:Z0 (((ns.take i).filter p).map λn=>((Sum.inr n:JB),V.str (g n))) (Sum.inr y:JB)with
   | none=>rfl
   | some v =>
    obtain⟨q,O,s⟩:=BJ.mp (Rc e);obtain⟨d,t,rfl⟩:=BJ.mp O;have s:d=y:=Sum.inr.inj s;exact absurd (s▸(AW.mp t).1) (j9 F o)
  rw[A7,Me _ M,E,AO c,AH];rfl
 .rintro σ f ⟨_,j,l⟩;rw[AB,BP]at l;exact h σ f j l
def Le{b:A0 IZ}{n y:Str}:y∈C6 b n↔(n,y)∈b.map λq=>q.2:=by
 unfold C6;rw[BJ,BJ];constructor
 .rintro⟨q,a,rfl⟩;obtain⟨c,d⟩:=AW.mp a;exact⟨q,c,Prod.ext (BL d) rfl⟩
 .rintro⟨q,a,e⟩;exact⟨q,AW.mpr ⟨a,AQ (congrArg Prod.fst e)⟩,congrArg Prod.snd e⟩
def Fp{ns a ss ts:A0 Str}{f b:A0 IZ}(e:∀q∈b,q.2.1∈a/\q.2.2∈a)(mt:∀x,x∈ts↔RJ (C6 b) ss x)(d:∀n∈a,n∉ss->n∈ns/\∀y,y∈B2 f n↔y∈B2 b n){n:Str}(g:n∈a)(i:n∉ts) :
  n∈ns/\J7 (B2 b) n=J7 (B2 f) n:=by
 have out:∀n,n∉ts->n∉ss:=λn h c=>h ((mt n).mpr (RJ.of c));refine⟨(d n g (out n i)).1,Ff (U:=λn=>n∈a/\n∉ts) (λn u y j=>⟨U1 e n u.1 y j,λc=>u.2 ((mt n).mpr (RJ.step ((mt y).mp c) (Le.mpr (I_.mp j))))⟩) (λn u y=>((d n u.1 (out n u.2)).2 y).symm) ⟨g,i⟩⟩
theorem JO:IL ["self","web","changed","reckoned","stay","given","told"] ["self","web","changed"] (B6 MI):=Kc
def Vp(K:VA)(i h:A3):Sp:=λo H Q _=>∃(k p x a:A3) (e b d:A0 Str) (f c:A0 IZ) (r:A0 Str) (m:Nat),o = [.ref k,.ref x,.ref a]/\KB i h H k p e f r m/\m<=1000/\I1 h (eK H k p) x b c/\(∀n∈b,S0 n=true)/\a≠p/\H a=some (.lst (d.map V.str))/\(∀y∈d,y∈b)/\d.Nodup /\
 (∀n∈b,n∉d->n∈e/\∀y,y∈B2 f n↔y∈B2 c n) /\
 ∀l j ts g,Bt k p H g->KB i h g k p b c ts (m+1)->QZ e f b c d ts->H l=none->R3 (eK g k p) l j->(j.map λq=>q.2)=Mc (WG e f) (J7 (B2 c)) b->Q (.ref l) g
set_option maxHeartbeats 1000000 in
theorem Q8(T:Tx K mg):IU P w K mg base JW 7 T.ao.f T.ao.fd ["self","web","changed"] (Vp K T.aa T.ac):=by
 refine T.ao.F.o1 JO λcdv A outer s H vs Q E hr h=>?_
 .obtain⟨k,p,x,a,ns,r,ss,qs,J,rk,m,rfl,hK,lm,W2,N2,nap,ha,hss,nds,hch,q⟩:=h;have hu:=Q6 hr;refine⟨_,(A9 (C8 (i:=3) JO.nd rfl (.inr rfl) (D9 T.bs (Sz T) (Rm hr) (A6 (pv 1) (A6 (pv 2) A8))))
   (A9 (Ya (i:=4) (N':=["name","self","reckoned"]) (cap:=[none,some 0,some 3]) (cl:=[("self",_),("reckoned",_)]) JO.nd rfl (.inl rfl) (P4 ⟨⟨rfl,rfl,rfl,rfl⟩,⟨⟨rfl,rfl,rfl,rfl⟩,trivial⟩⟩ ⟨rfl,⟨rfl,trivial⟩⟩) rfl (MW K (F5 (pv 1) T.ah T.ad.m (E6 T) (Rm hr) T.ad.b .nil J1)) (λ_ _ _ _=>by exact⟨(LS 0),(P0 (B8 (X8 K) (pv 0) (pv 2) rfl)),(pv 0),(V7 hu (LX K (pv 1)) (pv 0) (λ_ _=>rfl))⟩))
   (A9 (C8 (i:=5) JO.nd rfl (.inl rfl) (D9 T.aK (j8 T) (Rm hr) (A6 (pv 1) (A6 (pv 4) A8))))
   (A9 (C8 (i:=6) JO.nd rfl (.inl rfl) (D9 T.aL (i8 T) (Rm hr) (A6 (LX K (pv 0)) (A6 (pv 5) A8))))
   (A9 (J8 (Ph K VG VH VI U4 (LX K (pv 0)) (A6 (J6 (A6 (LX K (pv 0)) (A6 (LX K (pv 0)) A8))) A8)))
   (A9 (RC K (pv 0) (pv 1))
   (A9 (RC K (pv 0) (pv 5))
   (A9 (RC K (pv 0) (pv 3))
   (B4 (C0 (pv 6))))))))))),?_⟩
  obtain⟨d,N,v,j,kv0,ks0,rl0,B,O,W0,hg0,wd0,kk0,pk0,hp,lp⟩:=hK.ex;have S:=W2.same U0;refine B3 λM1 hM1=>?_;refine C3 rfl (C3 rfl ⟨x,a,r,ss,J,rfl,S,hss,nds,.inl (IR.of ha),λl ts H1 s1 hl e1 ndt sot mt sbt=>?_⟩);refine hM1 _ _ (B3 λM2 hM2=>?_);have W21:=S.same s1;obtain⟨C,dx,a1,b1,c1,d1,kc,kd,ex,_⟩:=id W21;refine C3 rfl ⟨x,dx,C3 rfl ⟨ex,rfl,x,r,J,rfl,W21,λl2 hl2=>?_⟩⟩;have s2:=Cv.new (o:=.lst (r.map V.str)) hl2;have f2:(II H1 l2 (.lst (r.map V.str))) l2=some (.lst (r.map V.str)):=A7;generalize II H1 l2 (.lst (r.map V.str))=H2 at s2 f2⊢;refine⟨l2,rfl,⟨_,IR.of f2⟩,λD hD=>?_⟩;have s12:=s1.trans s2;refine zCb (p:=λn=>!decide (n∈ts)) (g:=J7 (B2 J)) f2 C.nd (by have:=C.len;lia) hD (λy hy H3 s3 Q' hQ=>?_) (λy hy c H3 s3 Q' hQ=>?_) (λσ H3 s3 e3=>?_) _
  .exact C3 rfl (C3 rfl (T9 (.inl (IR.of (s3 _ _ (s2 _ _ e1)))) ⟨_,rfl,hQ⟩))
  .have R:=s12.trans s3;refine C3 rfl ⟨k,T.aa,d,_,_,rfl,R _ _ O,T.ab,T.aD,rfl,C3 rfl ⟨v,_,rfl,?_,hQ⟩⟩;have hd:=LW.k (k:=.inr y) (R _ _ hg0);obtain⟨m1,m2⟩:=Fp C.mem mt hch hy (by simpa using c);rw[wd0 y,Xx m1,<-m2]at hd;exact hd
  have s13:=s12.trans s3;refine hM2 _ _ (B3 λM3 hM3=>?_);refine C3 rfl (C3 rfl ⟨x,D,r,J,_,_,rfl,S.same s13,e3,C.nd.filter _,λn hn=>⟨(AW.mp hn).1,rfl⟩,λI kv1 H4 s4 hg1 e4 wd4 ks1 k4 p4=>?_⟩);have G:=s13.trans s4;refine hM3 _ _ (B3 λM4 hM4=>?_);refine C3 rfl ⟨k,T.aa,d,_,_,rfl,G _ _ O,T.ab,T.aD,rfl,?_⟩;refine C3 rfl ⟨v,I,kv0,kv1,WG ns qs,J7 (B2 J),ks1,r,rfl,G _ _ hg0,wd0,e4,k4,p4,C.srt,C.len,λn hn=>by rw[wd4 n,Xx hn];rfl,λlo rs H5 s5 hlo R5 q5=>?_⟩;have U:=G.trans s5;have L:=U _ _ O;have W:=U _ _ hp;refine hM4 _ _ (B3 λM5 hM5=>?_);refine C3 rfl ⟨k,T.aa,d,_,_,rfl,L,T.ab,T.ba,rfl,.inl ⟨rfl,_,IR.of W⟩,?_⟩;refine C3 rfl ⟨k,T.aa,d,_,_,rfl,L,T.ab,T.ai,rfl,?_⟩;refine C3 rfl ⟨k,T.aa,d,_,_,rfl,L,T.ab,T.aD,rfl,?_⟩;refine⟨by show 2<=sizeLine;rw[sizeLine_eq];lia,λX ht6=>?_⟩;have s6:=Cv.new (o:=.tup [.ref N,.ref v]) ht6;generalize II H5 X (.tup [.ref N,.ref v])=H6 at s6⊢;have Y:=U.trans s6;refine⟨p,B,_,rfl,rfl,Y _ _ hp,by rw[sizeLine_eq];lia,hM5 _ _ (B3 λM6 hM6=>?_)⟩;have M:k≠p:=J4 O hp (by intro z;cases z);have b7:Bt k p H (II H6 p (.lst (B ++ [.ref X]))):=(Bt.of Y).p;have b57:Bt k p H5 (II H6 p (.lst (B ++ [.ref X]))):=(Bt.of s6).p;have h7:(II H6 p (.lst (B ++ [.ref X]))) k=some (.ins T.aa d (kf N v j p)):=(B7 M).trans (Y _ _ O);have p7:(II H6 p (.lst (B ++ [.ref X]))) p=some (.lst (B ++ [.ref X])):=A7;generalize II H6 p (.lst (B ++ [.ref X]))=H7 at b7 b57 h7 p7⊢;refine C3 rfl (C3 rfl ⟨k,T.aa,d,_,rfl,h7,T.ab,T.ai,CM rfl,?_⟩);have h8:(II H7 k (.ins T.aa d (Q1 "web" (.ref x) (kf N v j p)))) k=some (.ins T.aa d (kf x v j p)):=A7;have b8:=b7.k (o:=.ins T.aa d (Q1 "web" (.ref x) (kf N v j p)));have b58:=b57.k (o:=.ins T.aa d (Q1 "web" (.ref x) (kf N v j p)));have p8:=(B7 (o:=.ins T.aa d (Q1 "web" (.ref x) (kf N v j p))) M.symm).trans p7;generalize II H7 k (.ins T.aa d (Q1 "web" (.ref x) (kf N v j p)))=H8 at h8 b8 b58 p8⊢;refine hM6 _ _ (B3 λM7 hM7=>?_);refine C3 rfl (C3 rfl ⟨k,T.aa,d,_,rfl,h8,T.ab,T.aD,CM rfl,?_⟩);have h9:(II H8 k (.ins T.aa d (Q1 "given" (.ref I) (kf x v j p)))) k=some (.ins T.aa d (kf x I j p)):=A7;have b9:=b8.k (o:=.ins T.aa d (Q1 "given" (.ref I) (kf x v j p)));have b59:=b58.k (o:=.ins T.aa d (Q1 "given" (.ref I) (kf x v j p)));have p9:=(B7 (o:=.ins T.aa d (Q1 "given" (.ref I) (kf x v j p))) M.symm).trans p8;generalize II H8 k (.ins T.aa d (Q1 "given" (.ref I) (kf x v j p)))=H9 at h9 b9 b59 p9⊢;refine hM7 _ _ (B3 λM8 hM8=>?_);refine C3 rfl (C3 rfl ⟨k,T.aa,d,_,rfl,h9,T.ab,T.aX,CM rfl,?_⟩);have h10:(II H9 k (.ins T.aa d (Q1 "reckoned" (.ref l) (kf x I j p)))) k=some (.ins T.aa d (kf x I l p)):=A7;have Z:=b9.k (o:=.ins T.aa d (Q1 "reckoned" (.ref l) (kf x I j p)));have u:=b59.k (o:=.ins T.aa d (Q1 "reckoned" (.ref l) (kf x I j p)));have p10:=(B7 (o:=.ins T.aa d (Q1 "reckoned" (.ref l) (kf x I j p))) M.symm).trans p9;generalize II H9 k (.ins T.aa d (Q1 "reckoned" (.ref l) (kf x I j p)))=H10 at h10 Z u p10⊢;refine hM8 _ _ (C3 rfl ?_);have h04:H4 k≠none:=by rw[G _ _ O];intro z;cases z
  have lok:∀{b:A3} {o:HO},H5 b=some o->H4 b=none->b≠k/\b≠p:=fun{b o} e n=>⟨λz=>(by rw[z,G _ _ O]at n;cases n),λz=>(by rw[z,G _ _ hp]at n;cases n)⟩;have e5:=s5 _ _ e4;have e15:=(((s2.trans s3).trans s4).trans s5) _ _ e1;have lk:l≠k:=(B0 O hl).symm;have lp':l≠p:=(B0 hp hl).symm;refine q lo rs ts H10 Z ⟨⟨d,x,I,l,kv1,ks1,ts.map V.str,_,h10,W2.same Z.eK,u _ _ (J4 e5 L (by intro z;cases z)) (J4 e5 W (by intro z;cases z)) e5,wd4,k4,p4,p10,by rw[AS];exact FE lp.1,by rw[R8 lk lp'];exact u _ _ lk lp' e15⟩,N2⟩ ⟨ndt,sot,sbt,mt,λn hn ht=>let⟨m1,m2⟩:=Fp C.mem mt hch hn ht;by rw[Xx m1,m2]⟩ (G.free hlo) ⟨?_,λt ht=>?_⟩ q5
  .obtain⟨z1,z2⟩:=lok R5.1 hlo;rw[R8 z1 z2];exact u _ _ z1 z2 R5.1
  .have z1:=J4 (R5.2 t ht) L (by intro z;cases z);have z2:=J4 (R5.2 t ht) W (by intro z;cases z);rw[R8 z1 z2];exact u _ _ z1 z2 (R5.2 t ht)
theorem o7:IL ["self","one","other"] ["self","one","other"] (B6 LE):=Kc
def zDc(f g:A3):Sp:=λh H Q _=>∃(k p:A3) (a b:Str) (c:A0 Str) (d:A0 IZ) (i:A0 Str) (m:Nat),h = [.ref k,.str a,.str b]/\KB f g H k p c d i m/\a∈c/\b∈c/\∀e,Cv H e->Q (.bl (decide ((a,b)∈d.map λq=>q.2))) e
theorem U8(T:Tx K mg):IU P w K mg base JW 3 T.as.f T.as.fd ["self","one","other"] (zDc T.aa T.ac):=by
 refine T.as.F.o1 o7 λB A i s H J Q E d h=>?_
 .obtain⟨k,p,a,b,j,c,L,m,rfl,C,z,D,q⟩:=h;have M:=Q6 d;refine⟨_,(A9 (J8 (M0 (LX K (pv 0)) T.ah T.af.m (Q7 T) (Rm d) T.af.b .nil J1 (A6 (pv 1) A8)))
   (A9 (J8 (M0 (LX K (pv 0)) T.ah T.af.m (Q7 T) (Rm d) T.af.b .nil J1 (A6 (pv 2) A8)))
   (B4 (C0 (R0 (Od K) (pv 2) (M0 (LX K (pv 0)) T.ah T.al.m (V0 T) (Rm d) T.al.b .nil J1 (A6 (pv 1) A8)) rfl))))),?_⟩
  obtain⟨n,x,g,r,N,O,R,S,o,G,U,V,kk,X,Y,Z⟩:=C.ex;have W:=G.same U0;obtain⟨ok,t,a1,b1,c1,d1,kc,kd,u,_⟩:=id W;refine B3 λM1 v=>?_;refine C3 rfl ⟨k,T.aa,n,_,_,rfl,o,T.ab,T.ai,rfl,x,t,?_⟩;refine C3 rfl ⟨u,rfl,C3 rfl ⟨x,a,j,c,rfl,W,z,?_⟩⟩;refine v _ _ (B3 λM2 y=>?_);refine C3 rfl ⟨k,T.aa,n,_,_,rfl,o,T.ab,T.ai,rfl,x,t,?_⟩;refine C3 rfl ⟨u,rfl,C3 rfl ⟨x,b,j,c,rfl,W,D,?_⟩⟩;refine y _ _ ?_;refine C3 rfl (C3 rfl ⟨k,T.aa,n,_,_,rfl,o,T.ab,T.ai,rfl,x,t,?_⟩);refine C3 rfl ⟨u,rfl,C3 rfl ⟨x,a,j,c,rfl,W,z,λl I=>?_⟩⟩;refine Bh (.inl (IR.of A7)) ?_;have e:decide (b∈C6 c a)=decide ((a,b)∈c.map λq=>q.2):=ER.mpr Le;rw[e];exact q _ (Cv.new I)
theorem o9:IL ["self","one","other"] ["self","one","other"] (B6 LD):=Kc
def Al(g h:A3):Sp:=λj H Q _=>∃(k p:A3) (a b:Str) (d:A0 Str) (e:A0 IZ) (n:A0 Str) (m:Nat),j = [.ref k,.str a,.str b]/\KB g h H k p d e n m/\m<=1000/\a∈d/\b∈d/\(a,b)∉(e.map λq=>q.2)/\e.length+1<=200 /\
 ∀l i c ts f,Bt k p H f->KB g h f k p d c ts (m+1)->QZ d e d c [b] ts->(c.map λq=>q.2).Perm ((e.map λq=>q.2) ++ [(a,b)])->H l=none->R3 (eK f k p) l i->(i.map λq=>q.2)=Mc (WG d e) (J7 (B2 c)) d->Q (.ref l) f
set_option maxHeartbeats 1000000 in
theorem t4(T:Tx K mg):IU P w K mg base JW 8 T.ar.f T.ar.fd ["self","one","other"] (Al T.aa T.ac):=by
 refine T.ar.F.o1 o9 λcdv A outer s H vs Q E C h=>?_
 .obtain⟨k,p,a,b,j,i,rk,m,rfl,D,lm,ha,hb,G,lq,q⟩:=h;have hu:=Q6 C;refine⟨_,(A9 (K0 (J9 (M0 (pv 0) T.ab T.as.m (U8 T) (Rm C) T.as.b .nil J1 (A6 (pv 1) (A6 (pv 2) A8)))) (B4 m8) D0)
   (B4 (C0 (M0 (pv 0) T.ab T.ao.m (Q8 T) (Rm C) T.ao.b .nil J1 (A6 (j7 T.bk (T8 T) (Rm C) rfl T.bj T.aC .nil J1 (A6 (F5 (LX K (pv 0)) T.ah T.ad.m (E6 T) (Rm C) T.ad.b .nil J1) (A6 (G8 Ap (F5 (LX K (pv 0)) T.ah T.ag.m (J2 T) (Rm C) T.ag.b .nil J1) (E9 (A6 (J6 (A6 (pv 1) (A6 (pv 2) A8))) A8))) A8))) (A6 (E9 (A6 (pv 2) A8)) A8)))))),?_⟩
  refine B3 λM1 hM1=>?_;obtain⟨Z,x,g,r,kv,ks,rl,pl,I,W0,hg,wd,kk,pk,hp,lp⟩:=D.ex;have W:=W0.same U0;obtain⟨J,dx,a1,b1,c1,d1,kc,kd,ex,_,_,pin,_⟩:=id W;refine C3 rfl ⟨k,Z,?_⟩;refine C3 rfl ⟨I,rfl,C3 rfl (C3 rfl ⟨k,p,a,b,j,i,rk,m,rfl,D,ha,hb,λH1 s1=>⟨_,rfl,?_⟩⟩)⟩;rw[AL G];refine O9 (hM1 _ _ ?_);have L:=s1 _ _ I;refine C3 rfl ⟨k,Z,C3 rfl ⟨L,rfl,?_⟩⟩;refine C3 rfl ⟨k,T.aa,Z,_,_,rfl,L,T.ab,T.ai,rfl,x,dx,C3 rfl ⟨s1 _ _ ex,rfl,x,j,i,rfl,W.same s1,λl1 hl1=>?_⟩⟩;have M:=s1.trans (Cv.new (o:=.lst (j.map V.str)) hl1);have N:(II H1 l1 (.lst (j.map V.str))) l1=some (.lst (j.map V.str)):=A7;generalize II H1 l1 (.lst (j.map V.str))=H2 at M N⊢;refine C3 rfl ⟨k,T.aa,Z,_,_,rfl,M _ _ I,T.ab,T.ai,rfl,x,dx,C3 rfl ⟨M _ _ ex,rfl,x,j,i,rfl,W.same M,λl2 hl2=>?_⟩⟩;have u3:=Cv.new (o:=.lst (F8 i)) hl2;have s3:=M.trans u3;have f3:(II H2 l2 (.lst (F8 i))) l2=some (.lst (F8 i)):=A7;have N:=u3 _ _ N;generalize II H2 l2 (.lst (F8 i))=H3 at s3 N f3⊢;refine C3 rfl (C3 rfl ⟨by show 2<=sizeLine;rw[sizeLine_eq];lia,λt ht=>⟨by show 1<=sizeLine;rw[sizeLine_eq];lia,λl3 O=>?_⟩⟩);have u4:=Cv.new (o:=.tup [.str a,.str b]) ht;have f4:(II H3 t (.tup [.str a,.str b])) t=some (.tup [.str a,.str b]):=A7;generalize II H3 t (.tup [.str a,.str b])=H4 at u4 f4 O⊢;have u5:=Cv.new (o:=.lst [.ref t]) O;have f5:(II H4 l3 (.lst [.ref t])) l3=some (.lst [.ref t]):=A7;generalize II H4 l3 (.lst [.ref t])=H5 at u5 f5⊢;have R:=u4.trans u5;refine⟨l2,l3,F8 i,[.ref t],rfl,rfl,R _ _ f3,f5,by unfold F8;rw[AB,sizeLine_eq];show i.length+1<=_;lia,λl4 hl4=>?_⟩;have u6:=Cv.new (o:=.lst (F8 i ++ [.ref t])) hl4;have f6:(II H5 l4 (.lst (F8 i ++ [.ref t]))) l4=some (.lst (F8 (i ++ [(t,a,b)]))):=by rw[A7];unfold F8;rw[AH];rfl
  generalize II H5 l4 (.lst (F8 i ++ [.ref t]))=H6 at u6 f6⊢;have S:=R.trans u6;have s6:=s3.trans S;have U:∀q∈i ++ [(t,a,b)],G0 H6 q:=λq hq=>by
   rcases AN.mp hq with c | c
   .exact G9 s6 pin q c
   .rw[AE.mp c];exact u6 _ _ (u5 _ _ f4)
  intro y dy ny ndy ney;refine Ex ny ndy (S _ _ N) f6 U ⟨D.nm,J.nd,J.len⟩ ⟨λq hq=>?_,?_,by rw[AS];exact lq⟩ λns2 u H7 pn sn pq sq s7 W7 C7=>?_
  .rcases AN.mp hq with c | c
   .exact J.mem q c
   .rw[AE.mp c];exact⟨ha,hb⟩
  .rw[AH];exact CL.mpr ⟨J.ndq,CN.mpr ⟨A_,DX⟩,λc hc d hd e=>G (by rw[AE.mp hd]at e;exact(show c =(a,b)from e)▸hc)⟩
  rw[O8 sn J.srt pn]at W7 C7;have v:=s6.trans s7;refine C3 rfl ⟨by show 1<=sizeLine;rw[sizeLine_eq];lia,λl5 X=>?_⟩;have u8:=Cv.new (o:=.lst [.str b]) X;have f8:(II H7 l5 (.lst [.str b])) l5=some (.lst ([b].map V.str)):=A7;generalize II H7 l5 (.lst [.str b])=H8 at u8 f8⊢;have B:=v.trans u8;have Y:(u.map λq=>q.2).Perm ((i.map λq=>q.2) ++ [(a,b)]):=(pq.map _).trans (FA (AH ..));have Wk:I1 T.ac (eK H7 k p) y j u:=Jq (C7 p pl (.own p) (s6 _ _ hp)) (v _ _ I) (B0 (s6 _ _ I) ny).symm;refine⟨k,p,y,l5,j,j,[b],i,u,rk,m,rfl,D.same B,lm,Wk.same (Bt.of u8).eK,D.nm,(B0 (v _ _ hp) X).symm,f8,λz hz=>by rw[AE.mp hz];exact hb,CN.mpr ⟨A_,DX⟩,λn hn nb=>⟨hn,λz=>?_⟩,λl rs ts H9 b9 K9 k9 hl9 R9 q9=>q l rs u ts H9 ((Bt.of B).trans b9) K9 k9 Y (B.free hl9) R9 q9⟩;rw[I_,I_,Y.mem_iff,AN,AE];exact⟨.inl,λz=>z.resolve_right λe=>nb (by cases e;exact AE.mpr rfl)⟩
theorem OS:IL ["_law_cell","_law_k","_law_m"] ["_law_cell","_law_k"] (B6 PU):=Kc
def zEz:Sp:=λb H Q _=>∃(a k:Int),b = [.int a,.int k]/\0<=k/\k<=2000000/\∀m:Int,0<=m->m<1999999973->Q (.int m) H
theorem Ew(T:Tx K mg):IU P w K mg base JW 1 T.bd.f T.bd.fd ["_law_cell","_law_k"] zEz:=by
 refine T.bd.F.o1 OS λd A b s H e Q E g h=>?_
 .obtain⟨a,k,rfl,j,l,q⟩:=h;refine⟨_,(A9 (C8 (i:=2) OS.nd rfl (.inl rfl) (G8 Fs (G8 w4 (G8 X3 (G8 X3 (G8 Fs (pv 0) B5) (G8 w4 (G8 w4 (pv 1) (pv 1)) B5)) B5) B5) B5))
   (B4 (C0 (G8 Fs (G8 w4 (pv 2) (pv 2)) B5)))),?_⟩
  refine C3 rfl (C4 rfl rfl ⟨(show(0:Int)<2147483629 by decide),C3 rfl (C3 rfl (C4 rfl rfl ⟨.inl ⟨by lia,by lia⟩,C4 rfl rfl ⟨.inr ⟨by decide,by decide⟩,C4 rfl rfl (C4 rfl rfl (C4 rfl rfl ⟨.inr ⟨by decide,by decide⟩,C4 rfl rfl ⟨(show(0:Int)<2147483647 by decide),?_⟩⟩))⟩⟩))⟩);generalize c:(a % 2147483629+k*k*7919+11)*48271 % 2147483647=m;have n:0<=m:=by rw[<-c];exact GF _ (by decide)
  have o:m<2147483647:=by rw[<-c];exact FI _ (by decide)
  exact⟨_,rfl,_,rfl,_,_,rfl,rfl,.inl ⟨by lia,by lia⟩,_,_,rfl,rfl,(show(0:Int)<1999999973 by decide),q _ (GF _ (by decide)) (FI _ (by decide))⟩
def IW(H:Hp)(p:A3)(c:Int):Prop:=∃a b:Int,H p=some (.lst [.int a,.int b,.int c])/\0<=c
theorem IW.isS{H:Hp}{p:A3}{c:Int}(h:IW H p c):(H p).isSome=true:=by
 obtain⟨_,_,e,_⟩:=h;rw[e];rfl
theorem IW.get{H:Hp}{p:A3}{c:Int}(h:IW H p c):H p=some ((H p).get h.isS):=(Option.some_get _).symm
theorem IW.cast{H:Hp}{p:A3}{c a:Int}(h:IW H p c)(e:c=a):IW H p a:=e▸h
theorem IW.upd{H:Hp}{p a:A3}{c:Int}{o:HO}(h:IW H p c)(n:p≠a):IW (L2.II H a o) p c:=by
 obtain⟨x,y,e,z⟩:=h;exact⟨x,y,by rw[B7 n];exact e,z⟩
theorem IW.same{H H':Hp}{p:A3}{c:Int}(h:IW H p c)(s:Cv H H'):IW H' p c:=by
 obtain⟨x,y,e,z⟩:=h;exact⟨x,y,s _ _ e,z⟩
theorem zIo(c:Bool):-(2^64) <(if c=true then(1:Int)else 0)/\(if c=true then(1:Int)else 0)<2^64:=by cases c<;>exact⟨by decide,by decide⟩
theorem OI:IL ["_law_script","_law_k","_law_cell"] ["_law_script","_law_k"] (B6 OW):=Kc
def zBc(K:VA):Sp:=λb H Q _=>∃(p:A3) (c:A0 Int) (k:Nat),b = [.ref p,.int (k:Int)]/\IR K H p (c.map V.int)/\k<=1000/\∀l a,H l=none->Cv H a->IW a l 0->Q (.ref l) a
theorem De(T:Tx K mg):IU P w K mg base JW 1 T.a2.f T.a2.fd ["_law_script","_law_k"] (zBc K):=by
 refine T.a2.F.o1 OI λo A g s H t Q E u h=>?_
 .obtain⟨p,d,k,rfl,n,v,q⟩:=h;refine⟨_,(A9 (C8 (i:=2) OI.nd rfl (.inl rfl) (As (B8 Pd (pv 1) (F9 (T0 K) T.ax Q5 (A6 (pv 0) A8)) (D8 _)) (E8 (K_ K) (pv 0) (pv 1) (λ_ _=>rfl)) B5))
   (B4 (C0 (E9 (A6 (G8 w4 (F9 Mn T.bY Zf (A6 (pv 2) A8)) (g7 Sd T.bZ Zl (A6 (R0 zHp (F9 Mn T.bY Zf (A6 (pv 2) A8)) (G8 zEx B5 B5) (D8 _)) A8))) (A6 (G8 X3 (pv 2) (G8 w4 B5 (pv 1))) (A6 B5 A8))))))),?_⟩
  refine C3 rfl (C3 rfl (C4 (a:=p) rfl (.inl n) (C4 rfl rfl (C3 rfl ?_))));have j:decide ((k:Int) <((d.map V.int).length:Int))=true->∃c:Int,QW (d.map V.int) (k:Int)=some (.int c):=λb=>by
   have b:(k:Int) <((d.map V.int).length:Int):=BL b;rw[AB]at b;have m:d[k]?=some (d[k]'(by lia)):=AF (by lia);exact⟨_,Q9 (by rw[AJ,m];rfl)⟩
  refine w8 (λb=>?_) (λb=>?_)
  .obtain⟨c,r⟩:=j b;refine C3 rfl (C3 rfl ⟨p,_,C4 rfl rfl ⟨n,r,?_⟩⟩)
   (repeat first | refine⟨_,rfl,?_⟩ | refine⟨_,_,rfl,rfl,?_⟩)
   refine⟨⟨by decide,by decide,by decide⟩,?_⟩
   (repeat first | refine⟨_,rfl,?_⟩ | refine⟨_,_,rfl,rfl,?_⟩)
   refine .inr ⟨_,rfl,?_⟩
   (repeat first | refine⟨_,rfl,?_⟩ | refine⟨_,_,rfl,rfl,?_⟩)
   refine⟨.inr ?_,?_⟩
   .exact zIo _
   (repeat first | refine⟨_,rfl,?_⟩ | refine⟨_,_,rfl,rfl,?_⟩)
   refine⟨.inl ⟨by decide,by decide⟩,?_⟩
   (repeat first | refine⟨_,rfl,?_⟩ | refine⟨_,_,rfl,rfl,?_⟩)
   exact⟨by show 3<=sizeLine;decide,λl e=>q l _ e (Cv.new e) ⟨_,_,A7,by decide⟩⟩
  .skip;(repeat first | refine⟨_,rfl,?_⟩ | refine⟨_,_,rfl,rfl,?_⟩)
   refine⟨⟨by decide,by decide,by decide⟩,?_⟩
   (repeat first | refine⟨_,rfl,?_⟩ | refine⟨_,_,rfl,rfl,?_⟩)
   refine .inr ⟨_,rfl,?_⟩
   (repeat first | refine⟨_,rfl,?_⟩ | refine⟨_,_,rfl,rfl,?_⟩)
   refine⟨.inr ?_,?_⟩
   .exact zIo _
   (repeat first | refine⟨_,rfl,?_⟩ | refine⟨_,_,rfl,rfl,?_⟩)
   refine⟨.inl ⟨by decide,by decide⟩,?_⟩
   (repeat first | refine⟨_,rfl,?_⟩ | refine⟨_,_,rfl,rfl,?_⟩)
   exact⟨by show 3<=sizeLine;decide,λl e=>q l _ e (Cv.new e) ⟨_,_,A7,by decide⟩⟩
theorem OH:IL ["_law_left_here","_law_many","_law_digit"] ["_law_left_here","_law_many"] (B6 OV):=Kc
def Rv:Sp:=λe H Q _=>∃(p:A3) (c a:Int),e = [.ref p,.int a]/\IW H p c/\c<=1000000/\0<a/\a<=1000000 /\
 ∀(d:Nat) b,(d:Int)<a->Sm [p] H b->IW b p (c+1)->Q (.int (d:Int)) b
theorem E3(T:Tx K mg):IU P w K mg base JW 2 T.ak.f T.ak.fd ["_law_left_here","_law_many"] Rv:=by
 refine T.ak.F.o1 OH λu A o s H x Q E r h=>?_
 .obtain⟨p,c,j,rfl,⟨a,b,e,y⟩,z,k,B,q⟩:=h;refine⟨_,(A9 (Bv (G8 X3 (E8 (K_ K) (pv 0) B5 (λ_ _=>rfl)) B5) (Ng (pv 0) B5 Cn))
   (A9 (K0 (B8 zBq (E8 (K_ K) (pv 0) B5 (λ_ _=>rfl)) B5 (D8 _)) (A9 (C8 (i:=2) OH.nd rfl (.inl rfl) (G8 Fs (E8 (K_ K) (pv 0) B5 (λ_ _=>rfl)) (pv 1)))
   (A9 (Bv (G8 Fz (E8 (K_ K) (pv 0) B5 (λ_ _=>rfl)) (pv 1)) (Ng (pv 0) B5 Cn))
   (B4 (C0 (pv 2))))) D0)
   (B4 (C0 (G8 Fs (G8 Fz (D9 T.bd (Ew T) (Rm r) (A6 (D9 T.bd (Ew T) (Rm r) (A6 (E8 (K_ K) (pv 0) B5 (λ_ _=>rfl)) (A6 (E8 (K_ K) (pv 0) B5 (λ_ _=>rfl)) A8))) (A6 (G8 X3 (E8 (K_ K) (pv 0) B5 (λ_ _=>rfl)) B5) A8))) B5) (pv 1)))))),?_⟩
  have t:∀d:Int,0<=d->d<j->∀l m,Q (.int d) (II (II H p (.lst [.int a,.int b,.int (c+1)])) p (.lst [.int l,.int m,.int (c+1)]))/\Q (.int d) (II H p (.lst [.int l,.int m,.int (c+1)])):=λd v g l m=>by
   obtain⟨n,rfl⟩:=Int.eq_ofNat_of_zero_le v;exact⟨q n _ g (((Sm.refl _ _).upd (by simp)).upd (by simp)) ⟨l,m,A7,by lia⟩,q n _ g ((Sm.refl _ _).upd (by simp)) ⟨l,m,A7,by lia⟩⟩
  refine C3 rfl ⟨p,_,C4 rfl rfl ⟨IR.of e,rfl,C4 rfl rfl (C3 rfl ⟨p,_,_,2,rfl,rfl,e,rfl,?_⟩)⟩⟩;refine C3 rfl ⟨p,_,C4 rfl rfl ⟨IR.of A7,rfl,C4 rfl rfl (C3 rfl ?_)⟩⟩;refine w8 (λg=>?_) (λg=>?_)
  .have g:(0:Int)<a:=BL g;refine C3 rfl ⟨p,_,C4 rfl rfl ⟨IR.of A7,rfl,C3 rfl (C4 rfl rfl ⟨k,?_⟩)⟩⟩;refine C3 rfl ⟨p,_,C4 rfl rfl ⟨IR.of A7,rfl,C3 rfl (C4 rfl rfl ⟨⟨k,by lia⟩,C3 rfl ⟨p,_,_,0,rfl,rfl,A7,rfl,?_⟩⟩)⟩⟩;exact⟨_,rfl,(t _ (GF _ (by lia)) (FI _ k) _ _).1⟩
  .refine C3 rfl ⟨p,_,C4 rfl rfl ⟨IR.of A7,rfl,C3 rfl ⟨p,_,C4 rfl rfl ⟨IR.of A7,rfl,_,C3 rfl ⟨by lia,by lia,λC D G=>?_⟩⟩⟩⟩⟩;refine C3 rfl ⟨p,_,C4 rfl rfl ⟨IR.of A7,rfl,C4 rfl rfl ⟨_,C3 rfl ⟨by lia,by lia,λI J L=>?_⟩⟩⟩⟩;refine C4 rfl rfl ⟨⟨by decide,by decide⟩,C3 rfl (C4 rfl rfl ⟨k,?_⟩)⟩;exact(t _ (GF _ (by lia)) (FI _ k) _ _).2
def pd(k:Str×Str):PyData:=.tuple [.str k.1,.str k.2]
def P9{x:Str}(h:S0 x=true):PySem.PyData.strOk x=true:=by
 unfold S0 at h;rw[C_]at h;unfold PySem.PyData.strOk;rw[<-Array.all_toList,EA];intro c a;have:=(EA.mp h.2) c a;unfold Lb at this;rw[C_]at this;have:=BL this.2;exact AQ (by lia)
def y8{K:VA}{H:Hp}{t:A3}{k:Str×Str}(h:H t=some (.tup [.str k.1,.str k.2])):Rp K H (pd k) (.ref t):=by
 unfold pd;simp only[Rp,QE];exact⟨t,_,rfl,JG.of h,_,_,rfl,rfl,_,_,rfl,rfl,rfl⟩
def Ic{K:VA}{H:Hp}:∀{ps:A0 IZ},(∀q∈ps,G0 H q)->QE K H (ps.map λq=>pd q.2) (F8 ps)
 | [],_=>by simp[QE,F8]
 | q::r,h=>by
  show QE K H (pd q.2::r.map λq=>pd q.2) (V.ref q.1::F8 r);simp only[QE];exact⟨_,_,rfl,y8 (h q (BA ..)),Ic λz a=>h z (AM _ a)⟩
def Ae{K:VA}{H:Hp}{l:A3}{ps:A0 IZ}(a:H l=some (.lst (F8 ps)))(h:∀q∈ps,G0 H q):Rp K H (.list (ps.map λq=>pd q.2)) (.ref l):=by
 simp only[Rp];exact⟨l,_,rfl,IR.of a,Ic h⟩
def Ty(a b:Str×Str):PyData.eqv (pd a) (pd b)=decide (a=b):=by
 unfold pd;rw[PyData.eqv,PyData.eqvAll,PyData.eqvAll,PyData.eqvAll,PyData.eqv,PyData.eqv];by_cases c:a.1=b.1
 .by_cases d:a.2=b.2
  .rw[AQ (Prod.ext c d),c,d];simp
  .rw[AL λz=>d (congrArg Prod.snd z)];simp[d]
 .rw[AL λz=>c (congrArg Prod.fst z)];simp[c]
def Cp(k:Str×Str):∀ps:A0 IZ,((ps.map λq=>pd q.2).any λz=>PyData.eqv z (pd k))=decide (k∈ps.map λq=>q.2)
 | []=>rfl
 | q::r=>by
  rw[BM,GH,Cp k r,Ty,BM];by_cases e:q.2=k
  .rw[AQ e,Bool.true_or,AQ (show k∈q.2::_ from by rw[<-e];exact BA ..)]
  .rw[AL e,Bool.false_or];by_cases h:k∈r.map λq=>q.2
   .rw[AQ h,AQ (AM _ h)]
   .rw[AL h,AL λz=>(AV.mp z).elim (λz=>e z.symm) h]
def Dp{k:Str×Str}(h1:PySem.PyData.strOk k.1=true)(h2:PySem.PyData.strOk k.2=true):(pd k).canLay0=true:=by
 unfold pd;simp[PyData.canLay0,PyData.canLayAll0,h1,h2]
def Dg:∀{ps:A0 IZ},(∀q∈ps,PySem.PyData.strOk q.2.1=true/\PySem.PyData.strOk q.2.2=true)->PyData.canLayAll0 (ps.map λq=>pd q.2)=true
 | [],_=>rfl
 | q::r,h=>by
  rw[BM,PyData.canLayAll0,Dp (h q (BA ..)).1 (h q (BA ..)).2,Dg λz a=>h z (AM _ a)];rfl
def Ev{K:VA}{H:Hp}{t l:A3}{k:Str×Str}{ps:A0 IZ}{Q:VK}(b:H t=some (.tup [.str k.1,.str k.2]))(c:H l=some (.lst (F8 ps)))(d:∀q∈ps,G0 H q)
  (a:PySem.PyData.strOk k.1=true/\PySem.PyData.strOk k.2=true) (e:∀q∈ps,PySem.PyData.strOk q.2.1=true/\PySem.PyData.strOk q.2.2=true) (q:Q (.bl (!decide (k∈ps.map λq=>q.2))) H):UA K true (.ref t) (.ref l) H Q :=
 ⟨pd k,_,y8 b,.inl (Ae c d),⟨Dp a.1 a.2,by simp[pd,PyData.depth,PyData.depthAll]⟩,Dg e,by rw[AO rfl,Cp];exact q⟩
structure FL(H:Hp)(l:A3)(ps:A0 IZ)(ss:A0 Str):Prop where
 at_:H l=some (.lst (F8 ps))
 pin:∀q∈ps,G0 H q
 nm:∀q∈ps,q.2.1∈ss/\q.2.2∈ss
 nd:(ps.map λq=>q.2).Nodup
def FL.sm{H H':Hp}{p l:A3}{c:Int}{ps:A0 IZ}{ss:A0 Str}(h:FL H l ps ss)(L:IW H p c)(n:l≠p)(s:Sm [p] H H'):FL H' l ps ss:=by
 obtain⟨x,y,e,_⟩:=L;exact⟨MY s h.at_ n,λq a=>MY s (h.pin q a) (J4 (h.pin q a) e (by intro z;cases z)),h.nm,h.nd⟩
def FL.new{H:Hp}{l t:A3}{o:HO}{ps:A0 IZ}{ss:A0 Str}(h:FL H l ps ss)(n:H t=none):FL (II H t o) l ps ss :=
 ⟨by rw[B7 (B0 h.at_ n)];exact h.at_,λq a=>by unfold G0;rw[B7 (B0 (h.pin q a) n)];exact h.pin q a,h.nm,h.nd⟩
def FL.put{H:Hp}{l t:A3}{ps:A0 IZ}{ss:A0 Str}{x y:Str}(h:FL H l ps ss)(k:Nat)(b:H t=some (.tup [.str x,.str y]))(e:x∈ss)(f:y∈ss)(g:(x,y)∉ps.map λq=>q.2) :
  FL (II H l (.lst ((F8 ps).take k++V.ref t ::(F8 ps).drop k))) l (ps.take k ++(t,x,y)::ps.drop k) ss:=by
 have c:(ps.take k ++(t,x,y)::ps.drop k).Perm ((t,x,y)::ps):=by
  refine List.perm_middle.trans (List.Perm.cons _ ?_);rw[CA]
 have d:∀q∈ps.take k ++(t,x,y)::ps.drop k,q =(t,x,y)\/q∈ps:=λq a=>AV.mp (c.mem_iff.mp a);refine⟨?_,λq a=>?_,λq a=>?_,?_⟩
 .rw[A7];unfold F8;rw[AH,List.map_take,BM,List.map_drop]
 .unfold G0;rcases d q a with rfl | z
  .rw[B7 (J4 b h.at_ (by intro z;cases z))];exact b
  .rw[B7 (J4 (h.pin q z) h.at_ (by intro z;cases z))];exact h.pin q z
 .rcases d q a with rfl | z
  .exact⟨e,f⟩
  .exact h.nm q z
 .rw[(c.map _).nodup_iff];show((x,y)::ps.map λq=>q.2).Nodup;exact CN.mpr ⟨g,h.nd⟩
def FL.app{H:Hp}{l t:A3}{ps:A0 IZ}{ss:A0 Str}{x y:Str}(h:FL H l ps ss)(a:H t=some (.tup [.str x,.str y]))(b:x∈ss)(c:y∈ss)(d:(x,y)∉ps.map λq=>q.2) :
  FL (II H l (.lst (F8 ps ++ [V.ref t]))) l (ps ++ [(t,x,y)]) ss:=by
 have:=h.put ps.length a b c d;have e:(F8 ps).length=ps.length:=by unfold F8;rw[AB]
 rw[<-e,BP,List.drop_length,e,BP,List.drop_length]at this;exact this
def Nb{K:VA}{a D:A3}{b:A0 IZ}{r:St}{m:TT}{H:Hp}{Q:St->Hp->Prop}(p:IZ->Bool)(e:H a=some (.lst (F8 b)))(x:b.length<=1000)(n:H D=none)
  (z:∀y∈b,∀k,Cv H k->∀o:Bool->Hp->Prop,(∀g,Cv k g->o (p y) g)->m (some (.ref y.1)::r) k o) (h:∀σ g,Cv H g->g D=some (.lst (F8 (b.filter p)))->Q σ g) (q:A5 V) :
  Bi (Q4 0) m (Z8 D (X0 0)) (QS K a) (q::r) (II H D (.lst [])) Q:=by
 refine Q3 (PQ (K:=K) (IR.of e)) (λi σ j=>(∃v,σ=v::r)/\Cv H j/\j D=some (.lst (F8 ((b.take i).filter p))))
  ⟨⟨_,rfl⟩,Cv.new n,A7⟩ (λi σ k _ ⟨_,A,_⟩=>A.at a) ?_ ?_
 .rintro i σ j v N l ⟨⟨q,rfl⟩,f,d⟩ s;unfold F8 at l;rw[AJ]at l;obtain⟨y,t,rfl⟩:=BG.mp l;refine z y (AZ t) j f _ λB u=>?_;have d:=u _ _ d;have f:=f.trans u;have w:(b.take (i+1)).filter p =(b.take i).filter p++if p y=true then [y]else []:=by
   rw[E4 t,CV,BR,DZ]
  have C:(F8 ((b.take i).filter p)).length<=1000:=by
   unfold F8;rw[AB];have:=BC p (b.take i);rw[AX]at this;lia
  refine w8 (λc=>C3 rfl ⟨_,d,by rw[sizeLine_eq];lia,s _ _ ⟨⟨_,rfl⟩,f.upd n,?_⟩⟩) (λc=>s _ _ ⟨⟨_,rfl⟩,f,?_⟩)
  .rw[A7,w,AO c];unfold F8;rw[AH];rfl
  .rw[w,AI c,CC];exact d
 .rintro σ j ⟨_,f,d⟩;unfold F8 at d;rw[AB,BP]at d;exact h σ j f d
theorem KW:IL ["self","one","other","strikes"] ["self","one","other"] (B6 K3):=Kc
def w5(g h:A3):Sp:=λj H Q _=>∃(k p:A3) (a b:Str) (d:A0 Str) (e:A0 IZ) (n:A0 Str) (m:Nat),j = [.ref k,.str a,.str b]/\KB g h H k p d e n m/\m<=1000/\a∈d/\b∈d/\(a,b)∈(e.map λq=>q.2) /\
 ∀l i c ts f,Bt k p H f->KB g h f k p d c ts (m+1)->QZ d e d c [b] ts->(c.map λq=>q.2).Perm ((e.map λq=>q.2).filter λq=>!decide (q =(a,b)))->H l=none->R3 (eK f k p) l i->(i.map λq=>q.2)=Mc (WG d e) (J7 (B2 c)) d->Q (.ref l) f
set_option maxHeartbeats 1000000 in
theorem i9(T:Tx K mg):IU P w K mg base JW 8 T.aq.f T.aq.fd ["self","one","other"] (w5 T.aa T.ac):=by
 refine T.aq.F.o1 KW λcdv A outer s H vs Q E I h=>?_
 .obtain⟨k,p,a,b,j,u,rk,m,rfl,v,lm,ha,hb,hab,q⟩:=h;have hu:=Q6 I;refine⟨_,(A9 (K0 (P2 (J9 (M0 (pv 0) T.ab T.as.m (U8 T) (Rm I) T.as.b .nil J1 (A6 (pv 1) (A6 (pv 2) A8))))) (B4 m8) D0)
   (A9 (X7 (i:=3) (N':=["pair","one","other"]) (cap:=[none,some 1,some 2]) (cl:=[("other",_),("one",_)]) KW.nd rfl (.inl rfl) (P4 ⟨⟨rfl,rfl,rfl,rfl⟩,⟨⟨rfl,rfl,rfl,rfl⟩,trivial⟩⟩ ⟨rfl,⟨rfl,trivial⟩⟩) rfl (MW K (F5 (LX K (pv 0)) T.ah T.ag.m (J2 T) (Rm I) T.ag.b .nil J1)) (λ_ _ _ _=>by exact⟨(LS 0),(P0 (B8 (Sk K I.units) (pv 0) (J6 (A6 (pv 1) (A6 (pv 2) A8))) (D8 _))),(pv 0)⟩))
   (B4 (C0 (M0 (pv 0) T.ab T.ao.m (Q8 T) (Rm I) T.ao.b .nil J1 (A6 (j7 T.bk (T8 T) (Rm I) rfl T.bj T.aC .nil J1 (A6 (F5 (LX K (pv 0)) T.ah T.ad.m (E6 T) (Rm I) T.ad.b .nil J1) (A6 (pv 3) A8))) (A6 (E9 (A6 (pv 2) A8)) A8))))))),?_⟩
  refine B3 λM1 hM1=>?_;obtain⟨Z,x,g,r,kv,ks,rl,pl,N,W0,hg,wd,kk,pk,hp,lp⟩:=v.ex;have W:=W0.same U0;obtain⟨G,dx,a1,b1,c1,d1,kc,kd,ex,_,_,O,_⟩:=id W;refine C3 rfl ⟨k,Z,C3 rfl ⟨N,rfl,C3 rfl (C3 rfl ⟨k,p,a,b,j,u,rk,m,rfl,v,ha,hb,λH1 s1=>⟨_,rfl,?_⟩⟩)⟩⟩;rw[AQ hab];refine O9 (hM1 _ _ (B3 λM2 hM2=>?_));have hk1:=s1 _ _ N;refine C3 rfl ⟨k,T.aa,Z,_,_,rfl,hk1,T.ab,T.ai,rfl,x,dx,C3 rfl ⟨s1 _ _ ex,rfl,x,j,u,rfl,W.same s1,λl2 hl2=>?_⟩⟩;have s2:=s1.trans (Cv.new (o:=.lst (F8 u)) hl2);have f2:(II H1 l2 (.lst (F8 u))) l2=some (.lst (F8 u)):=A7;generalize II H1 l2 (.lst (F8 u))=H2 at s2 f2⊢;refine⟨l2,rfl,⟨_,IR.of f2⟩,λD hD=>?_⟩;refine Nb (λq=>!decide (q.2 =(a,b))) f2 (by have:=G.lenq;lia) hD (λy hy R s3 Q' hQ=>?_) (λσ R s3 e3=>?_) _
  .have ey:=s3 _ _ (s2 _ _ (O y hy));obtain⟨m1,m2⟩:=G.mem y hy;have oy:PySem.PyData.strOk y.2.1=true/\PySem.PyData.strOk y.2.2=true:=⟨P9 (v.nm _ m1),P9 (v.nm _ m2)⟩;have S:PySem.PyData.strOk a=true/\PySem.PyData.strOk b=true:=⟨P9 (v.nm _ ha),P9 (v.nm _ hb)⟩;unfold Aq PN;refine C3 rfl (C3 rfl (C3 rfl ⟨by show 2<=sizeLine;rw[sizeLine_eq];lia,λt ht=>?_⟩));have J:=Cv.new (o:=.tup [.str a,.str b]) ht;have U:(II R t (.tup [.str a,.str b])) t=some (.tup [.str a,.str b]):=A7;generalize II R t (.tup [.str a,.str b])=H4 at J U⊢;refine⟨pd y.2,pd (a,b),y8 (J _ _ ey),y8 U,⟨Dp oy.1 oy.2,by simp[pd,PyData.depth,PyData.depthAll]⟩,⟨Dp S.1 S.2,by simp[pd,PyData.depth,PyData.depthAll]⟩,?_⟩;rw[Ty];exact⟨_,rfl,hQ _ J⟩
  refine hM2 _ _ ?_;have d:=s2.trans s3;refine C3 rfl ⟨k,Z,C3 rfl ⟨d _ _ N,rfl,?_⟩⟩;refine C3 rfl ⟨k,T.aa,Z,_,_,rfl,d _ _ N,T.ab,T.ai,rfl,x,dx,C3 rfl ⟨d _ _ ex,rfl,x,j,u,rfl,W.same d,λl1 hl1=>?_⟩⟩;have J:=Cv.new (o:=.lst (j.map V.str)) hl1;have U:(II R l1 (.lst (j.map V.str))) l1=some (.lst (j.map V.str)):=A7;generalize II R l1 (.lst (j.map V.str))=H4 at J U⊢;have B:=d.trans J;refine C3 rfl ?_;intro y dy ny ndy ney;refine Ex ny ndy U (J _ _ e3) (λq hq=>G9 B O q (AW.mp hq).1) ⟨v.nm,G.nd,G.len⟩ ⟨λq hq=>G.mem q (AW.mp hq).1,G.ndq.sublist (DV.map _),VE (BC ..) G.lenq⟩ λns2 C H7 pn sn pq sq s7 W7 C7=>?_;rw[O8 sn G.srt pn]at W7 C7;have L:=B.trans s7;refine C3 rfl ⟨by show 1<=sizeLine;rw[sizeLine_eq];lia,λl5 X=>?_⟩;have u8:=Cv.new (o:=.lst [.str b]) X;have f8:(II H7 l5 (.lst [.str b])) l5=some (.lst ([b].map V.str)):=A7;generalize II H7 l5 (.lst [.str b])=H8 at u8 f8⊢;have M:=L.trans u8;have Y:(C.map λq=>q.2).Perm ((u.map λq=>q.2).filter λq=>!decide (q =(a,b))):=(pq.map _).trans (FA (by rw[GG];rfl));have Wk:I1 T.ac (eK H7 k p) y j C:=Jq (C7 p pl (.own p) (B _ _ hp)) (L _ _ N) (B0 (B _ _ N) ny).symm;refine⟨k,p,y,l5,j,j,[b],u,C,rk,m,rfl,v.same M,lm,Wk.same (Bt.of u8).eK,v.nm,(B0 (L _ _ hp) X).symm,f8,λz hz=>by rw[AE.mp hz];exact hb,CN.mpr ⟨A_,DX⟩,λn hn nb=>⟨hn,λz=>?_⟩,λl rs ts H9 b9 K9 k9 hl9 R9 q9=>q l rs C ts H9 ((Bt.of M).trans b9) K9 k9 Y (M.free hl9) R9 q9⟩;rw[I_,I_,Y.mem_iff,AW];exact⟨λc=>⟨c,by
   rw[AL λe:(z,n) =(a,b)=>nb (by cases e;exact AE.mpr rfl)];rfl⟩,λc=>c.1⟩
theorem Aj:IL ["self","name"] ["self","name"] (B6 LN):=Kc
def Dx(g h:A3):Sp:=λj H Q _=>∃(k p:A3) (a:Str) (d:A0 Str) (e:A0 IZ) (n:A0 Str) (m:Nat),j = [.ref k,.str a]/\KB g h H k p d e n m/\m<=1000/\S0 a=true/\a∉d/\d.length+1<=100 /\
 ∀l i b c ts f,Bt k p H f->KB g h f k p b c ts (m+1)->QZ d e b c [a] ts->b.Perm (d ++ [a])->c.Perm e->H l=none->R3 (eK f k p) l i->(i.map λq=>q.2)=Mc (WG d e) (J7 (B2 c)) b->Q (.ref l) f
set_option maxHeartbeats 1000000 in
theorem Ah(T:Tx K mg):IU P w K mg base JW 8 T.av.f T.av.fd ["self","name"] (Dx T.aa T.ac):=by
 refine T.av.F.o1 Aj λcdv A outer s H vs Q E t h=>?_
 .obtain⟨k,p,a,i,j,rk,m,rfl,hK,lm,ha,I,lq,q⟩:=h;have hu:=Q6 t;refine⟨_,(A9 (K0 (PW.pt (c9 (P2 (J9 (D9 T.bb (Fi T) (Rm t) (A6 (pv 1) A8)))) (U2 (B8 (Od K) (pv 1) (F5 (LX K (pv 0)) T.ah T.ad.m (E6 T) (Rm t) T.ad.b .nil J1) rfl)))) (B4 m8) D0)
   (B4 (C0 (M0 (pv 0) T.ab T.ao.m (Q8 T) (Rm t) T.ao.b .nil J1 (A6 (j7 T.bk (T8 T) (Rm t) rfl T.bj T.aC .nil J1 (A6 (G8 Ap (F5 (LX K (pv 0)) T.ah T.ad.m (E6 T) (Rm t) T.ad.b .nil J1) (E9 (A6 (pv 1) A8))) (A6 (F5 (LX K (pv 0)) T.ah T.ag.m (J2 T) (Rm t) T.ag.b .nil J1) A8))) (A6 (E9 (A6 (pv 1) A8)) A8)))))),?_⟩
  refine B3 λM1 hM1=>?_;obtain⟨R,x,g,r,kv,ks,rl,pl,D,W0,hg,wd,kk,pk,hp,lp⟩:=hK.ex;have W:=W0.same U0;obtain⟨J,dx,a1,b1,c1,d1,kc,kd,ex,_,_,pin,_⟩:=id W;refine C3 rfl ⟨a,rfl,by have:=(Im ha).2;lia,λH1 S=>⟨_,rfl,?_⟩⟩;rw[ha];have hk1:=S _ _ D;refine O9 (C3 rfl (C3 rfl ⟨k,T.aa,R,_,_,rfl,hk1,T.ab,T.ai,rfl,x,dx,C3 rfl ⟨S _ _ ex,rfl,x,i,j,rfl,W.same S,λl1 hl1=>?_⟩⟩));have G:=S.trans (Cv.new (o:=.lst (i.map V.str)) hl1);refine Bh (.inl (IR.of A7)) ⟨_,rfl,?_⟩;generalize II H1 l1 (.lst (i.map V.str))=H2 at G⊢;rw[AL I];refine O9 (hM1 _ _ ?_);refine C3 rfl ⟨k,R,C3 rfl ⟨G _ _ D,rfl,?_⟩⟩;refine C3 rfl ⟨k,T.aa,R,_,_,rfl,G _ _ D,T.ab,T.ai,rfl,x,dx,C3 rfl ⟨G _ _ ex,rfl,x,i,j,rfl,W.same G,λU hl2=>?_⟩⟩;have u3:=Cv.new (o:=.lst (i.map V.str)) hl2;have L:(II H2 U (.lst (i.map V.str))) U=some (.lst (i.map V.str)):=A7;generalize II H2 U (.lst (i.map V.str))=H3 at u3 L⊢;have s3:=G.trans u3;refine C3 rfl ⟨by show 1<=sizeLine;rw[sizeLine_eq];lia,λX hl3=>?_⟩;have u4:=Cv.new (o:=.lst [.str a]) hl3;have f4:(II H3 X (.lst [.str a])) X=some (.lst [.str a]):=A7;have L:=u4 _ _ L;generalize II H3 X (.lst [.str a])=H4 at u4 f4 L⊢;have s4:=s3.trans u4;refine⟨U,X,_,_,rfl,rfl,L,f4,by rw[AB,sizeLine_eq];show i.length+1<=_;lia,λl4 hl4=>?_⟩;have u5:=Cv.new (o:=.lst (i.map V.str ++ [.str a])) hl4;have f5:(II H4 l4 (.lst (i.map V.str ++ [.str a]))) l4=some (.lst ((i ++ [a]).map V.str)):=by rw[A7,AH];rfl
  generalize II H4 l4 (.lst (i.map V.str ++ [.str a]))=H5 at u5 f5⊢;have Y:=s4.trans u5;refine C3 rfl ⟨k,T.aa,R,_,_,rfl,Y _ _ D,T.ab,T.ai,rfl,x,dx,C3 rfl ⟨Y _ _ ex,rfl,x,i,j,rfl,W.same Y,λl6 hl6=>?_⟩⟩;have u6:=Cv.new (o:=.lst (F8 j)) hl6;have f6:(II H5 l6 (.lst (F8 j))) l6=some (.lst (F8 j)):=A7;generalize II H5 l6 (.lst (F8 j))=H6 at u6 f6⊢;have Z:=Y.trans u6;have nda:(i ++ [a]).Nodup:=CL.mpr ⟨J.nd,CN.mpr ⟨A_,DX⟩,λc hc d hd e=>I (by rw[<-AE.mp hd,<-e];exact hc)⟩;have M:∀n∈i ++ [a],S0 n=true:=λn N=>(AN.mp N).elim (hK.nm n) λc=>by rw[AE.mp c];exact ha
  intro y dy ny ndy ney;refine Ex ny ndy (u6 _ _ f5) f6 (G9 Z pin) ⟨M,nda,by rw[AS];exact lq⟩ ⟨λq hq=>⟨AN.mpr (.inl (J.mem q hq).1),AN.mpr (.inl (J.mem q hq).2)⟩,J.ndq,J.lenq⟩ λu v H7 pn sn pq sq s7 W7 C7=>?_;have B:=Z.trans s7;refine C3 rfl ⟨by show 1<=sizeLine;rw[sizeLine_eq];lia,λl7 O=>?_⟩;have u8:=Cv.new (o:=.lst [.str a]) O;have f8:(II H7 l7 (.lst [.str a])) l7=some (.lst ([a].map V.str)):=A7;generalize II H7 l7 (.lst [.str a])=H8 at u8 f8⊢;have C:=B.trans u8;have Wk:I1 T.ac (eK H7 k p) y u v:=Jq (C7 p pl (.own p) (Z _ _ hp)) (B _ _ D) (B0 (Z _ _ D) ny).symm;refine⟨k,p,y,l7,i,u,[a],j,v,rk,m,rfl,hK.same C,lm,Wk.same (Bt.of u8).eK,λn N=>M n (pn.mem_iff.mp N),(B0 (B _ _ hp) O).symm,f8,λz hz=>by rw[AE.mp hz];exact pn.mem_iff.mpr (AN.mpr (.inr (AE.mpr rfl))),CN.mpr ⟨A_,DX⟩,λn N nb=>⟨(AN.mp (pn.mem_iff.mp N)).resolve_right nb,λz=>?_⟩,λl rs ts H9 b9 K9 k9 hl9 R9 q9=>q l rs u v ts H9 ((Bt.of C).trans b9) K9 k9 pn pq (C.free hl9) R9 q9⟩;rw[I_,I_,(pq.map λq:IZ=>q.2).mem_iff]
theorem Bd:IL ["self"] ["self"] (B6 LV):=Kc
def Fe(f c:A3):Sp:=λg H Q _=>∃(k p:A3) (d:A0 Str) (e:A0 IZ) (h:A0 Str) (m:Nat),g = [.ref k]/\KB f c H k p d e h m/\∀(y:A3) (a:A0 IZ) (b:Hp),a.Perm e->Cv H b->H y=none->I1 c b y d a->Q (.ref y) b
theorem P5(T:Tx K mg):IU P w K mg base JW 6 T.am.f T.am.fd ["self"] (Fe T.aa T.ac):=by
 refine T.am.F.o1 Bd λd A a s H B Q E e h=>?_
 .obtain⟨k,p,i,j,C,m,rfl,c,q⟩:=h;refine⟨_,(B4 (C0 (D9 T.bc (Fu T) (Rm e) (A6 (LX K (pv 0)) A8)))),?_⟩;obtain⟨l,x,g,r,D,G,I,J,n,o,L,M,kk,N,O,R⟩:=c.ex;exact C3 rfl ⟨k,T.aa,l,_,_,rfl,n,T.ab,T.ai,rfl,x,i,j,rfl,o.same U0,c.nm,λy b t u s v z _=>q y b t u s v z⟩
def Sx{b:A0 IZ}(h:(b.map λq=>q.2).Nodup)(n:Str):(C6 b n).Nodup:=by
 unfold C6;refine CU.mpr (List.Pairwise.imp_of_mem (fun{x y} c d a e=>a (Prod.ext ?_ e)) ((CU.mp h).filter _));rw[BL (AW.mp c).2,BL (AW.mp d).2]
theorem JM:IL ["self","name","struck","names","strikes"] ["self","name"] (B6 LH):=Kc
def Bx(g h:A3):Sp:=λj H Q _=>∃(k p:A3) (a:Str) (d:A0 Str) (e:A0 IZ) (o:A0 Str) (m:Nat),j = [.ref k,.str a]/\KB g h H k p d e o m/\m<=1000/\a∈d /\
 ∀l i b c ts f,Bt k p H f->KB g h f k p b c ts (m+1)->QZ d e b c ((C6 e a).filter λn=>!decide (n=a)) ts->b=d.filter (λn=>!decide (n=a))->(c.map λq=>q.2).Perm ((e.map λq=>q.2).filter λq=>!decide (a=q.1\/a=q.2))->H l=none->R3 (eK f k p) l i->(i.map λq=>q.2)=Mc (WG d e) (J7 (B2 c)) b->Q (.ref l) f
set_option maxHeartbeats 1000000 in
theorem y7(T:Tx K mg):IU P w K mg base JW 8 T.au.f T.au.fd ["self","name"] (Bx T.aa T.ac):=by
 refine T.au.F.o1 JM λcdv A outer s H vs Q E M h=>?_
 .obtain⟨k,p,a,v,d,rk,m,rfl,hK,lm,ha,q⟩:=h;have hu:=Q6 M;refine⟨_,(A9 (X7 (i:=2) (N':=["other","name"]) (cap:=[none,some 1]) (cl:=[("name",_)]) JM.nd rfl (.inl rfl) (P4 ⟨⟨rfl,rfl,rfl,rfl⟩,trivial⟩ ⟨rfl,trivial⟩) rfl (MW K (M0 (LX K (pv 0)) T.ah T.al.m (V0 T) (Rm M) T.al.b .nil J1 (A6 (pv 1) A8))) (λ_ _ _ _=>by exact⟨(LS 0),(P0 (B8 Ed (pv 0) (pv 1) (D8 _))),(pv 0)⟩))
   (A9 (X7 (i:=3) (N':=["one","name"]) (cap:=[none,some 1]) (cl:=[("name",_)]) JM.nd rfl (.inl rfl) (P4 ⟨⟨rfl,rfl,rfl,rfl⟩,trivial⟩ ⟨rfl,trivial⟩) rfl (MW K (F5 (LX K (pv 0)) T.ah T.ad.m (E6 T) (Rm M) T.ad.b .nil J1)) (λ_ _ _ _=>by exact⟨(LS 0),(P0 (B8 Ed (pv 0) (pv 1) (D8 _))),(pv 0)⟩))
   (A9 (X7 (i:=4) (N':=["pair","name"]) (cap:=[none,some 1]) (cl:=[("name",_)]) JM.nd rfl (.inl rfl) (P4 ⟨⟨rfl,rfl,rfl,rfl⟩,trivial⟩ ⟨rfl,trivial⟩) rfl (MW K (F5 (LX K (pv 0)) T.ah T.ag.m (J2 T) (Rm M) T.ag.b .nil J1)) (λ_ _ _ _=>by exact⟨(LS 0),(P0 (B8 (X8 K) (pv 1) (pv 0) rfl)),(pv 0)⟩))
   (B4 (C0 (M0 (pv 0) T.ab T.ao.m (Q8 T) (Rm M) T.ao.b .nil J1 (A6 (j7 T.bk (T8 T) (Rm M) rfl T.bj T.aC .nil J1 (A6 (pv 3) (A6 (pv 4) A8))) (A6 (pv 2) A8)))))))),?_⟩
  obtain⟨dk,x,g,r,kv,ks,rl,pl,N,W0,hg,wd,kk,pk,hp,lp⟩:=hK.ex;have W:=W0.same U0;obtain⟨j,dx,a1,b1,c1,d1,kc,kd,ex,_,_,R,_⟩:=id W;refine B3 λM1 hM1=>?_;refine C3 rfl ⟨k,T.aa,dk,_,_,rfl,N,T.ab,T.ai,rfl,x,dx,C3 rfl ⟨ex,rfl,C3 rfl ⟨x,a,v,d,rfl,W,ha,λl1 hl1=>?_⟩⟩⟩;have s1:=Cv.new (o:=.lst ((C6 d a).map V.str)) hl1;have f1:(II H l1 (.lst ((C6 d a).map V.str))) l1=some (.lst ((C6 d a).map V.str)):=A7;generalize II H l1 (.lst ((C6 d a).map V.str))=H1 at s1 f1⊢;have lst:(C6 d a).length<=1000:=by
   unfold C6;rw[AB];have:=BC (λq:IZ=>decide (q.2.1=a)) d;have:=j.lenq;lia
  refine⟨l1,rfl,⟨_,IR.of f1⟩,λD hD=>?_⟩;refine V3 (λn=>!decide (n=a)) f1 lst hD (λy hy H2 s2 Q' S=>?_) (λσ H2 s2 t=>?_) _
  .unfold Aq PN;refine C3 rfl (C3 rfl ⟨rfl,_,rfl,?_⟩);have:(!decide (V.str y=V.str a))=!decide (y=a):=congrArg Bool.not (ER.mpr ⟨λz=>V.str.inj z,λz=>congrArg V.str z⟩);rw[this];exact S H2 λb o e=>e
  refine hM1 _ _ (B3 λM2 hM2=>?_);have B:=s1.trans s2;refine C3 rfl ⟨k,T.aa,dk,_,_,rfl,B _ _ N,T.ab,T.ai,rfl,x,dx,C3 rfl ⟨B _ _ ex,rfl,x,v,d,rfl,W.same B,λl3 hl3=>?_⟩⟩;have u3:=Cv.new (o:=.lst (v.map V.str)) hl3;have f3:(II H2 l3 (.lst (v.map V.str))) l3=some (.lst (v.map V.str)):=A7;have t:=u3 _ _ t;generalize II H2 l3 (.lst (v.map V.str))=H3 at u3 f3 t⊢;have s03:=B.trans u3;refine⟨l3,rfl,⟨_,IR.of f3⟩,λD2 hD2=>?_⟩;refine V3 (λn=>!decide (n=a)) f3 (by have:=j.len;lia) hD2 (λy hy H4 s4 Q' S=>?_) (λσ H4 s4 O=>?_) _
  .unfold Aq PN;refine C3 rfl (C3 rfl ⟨rfl,_,rfl,?_⟩);have:(!decide (V.str y=V.str a))=!decide (y=a):=congrArg Bool.not (ER.mpr ⟨λz=>V.str.inj z,λz=>congrArg V.str z⟩);rw[this];exact S H4 λb o e=>e
  refine hM2 _ _ (B3 λM3 hM3=>?_);have C:=s03.trans s4;have t:=s4 _ _ t;refine C3 rfl ⟨k,T.aa,dk,_,_,rfl,C _ _ N,T.ab,T.ai,rfl,x,dx,C3 rfl ⟨C _ _ ex,rfl,x,v,d,rfl,W.same C,λl5 hl5=>?_⟩⟩;have u5:=Cv.new (o:=.lst (F8 d)) hl5;have f5:(II H4 l5 (.lst (F8 d))) l5=some (.lst (F8 d)):=A7;have t:=u5 _ _ t;have O:=u5 _ _ O;generalize II H4 l5 (.lst (F8 d))=H5 at u5 f5 t O⊢;have U:=C.trans u5;refine⟨l5,rfl,⟨_,IR.of f5⟩,λD3 hD3=>?_⟩;refine Nb (λq=>!decide (a=q.2.1\/a=q.2.2)) f5 (by have:=j.lenq;lia) hD3 (λy hy H6 X Q' S=>?_) (λσ H6 X e6=>?_) _
  .have ey:=X _ _ (U _ _ (R y hy));refine C3 rfl (C3 rfl ?_);refine T9 (ss:=[y.2.1,y.2.2]) (.inr (JG.of ey)) ⟨_,rfl,?_⟩;have:(!decide (a∈[y.2.1,y.2.2]))=!decide (a=y.2.1\/a=y.2.2):=congrArg Bool.not (ER.mpr (by rw[AV,AE]));rw[this];exact S H6 λb o e=>e
  refine hM3 _ _ ?_;have u:=U.trans X;have t:=X _ _ t;have O:=X _ _ O;refine C3 rfl ⟨k,dk,C3 rfl ⟨u _ _ N,rfl,?_⟩⟩;refine C3 rfl (C3 rfl ?_);intro y dy ny ndy ney;refine Ex ny ndy O e6 (λq hq=>G9 u R q (AW.mp hq).1) ⟨λn G=>hK.nm n (AW.mp G).1,j.nd.filter _,VE (BC ..) j.len⟩ ⟨λq hq=>?_,j.ndq.sublist (DV.map _),VE (BC ..) j.lenq⟩ λI J H7 pn sn pq sq s7 W7 C7=>?_
  .obtain⟨q1,q2⟩:=AW.mp hq;have q3:¬(a=q.2.1\/a=q.2.2):=by simpa using q2
   exact⟨AW.mpr ⟨(j.mem q q1).1,by rw[AL λe=>q3 (.inl e.symm)];rfl⟩,AW.mpr ⟨(j.mem q q1).2,by rw[AL λe=>q3 (.inr e.symm)];rfl⟩⟩
  have Y:I=v.filter λn=>!decide (n=a):=O8 sn (j.srt.filter _) pn;have L:=u.trans s7;have Wk:I1 T.ac (eK H7 k p) y I J:=Jq (C7 p pl (.own p) (u _ _ hp)) (L _ _ N) (B0 (u _ _ N) ny).symm;have Z:(J.map λq=>q.2).Perm ((d.map λq=>q.2).filter λq=>!decide (a=q.1\/a=q.2)):=(pq.map _).trans (FA (by rw[GG];rfl));have nDp:D≠p:=(B0 (s1 _ _ hp) hD).symm;refine C3 rfl ⟨k,p,y,D,v,I,(C6 d a).filter (λn=>!decide (n=a)),d,J,rk,m,rfl,hK.same L,lm,Wk,λn G=>hK.nm n (by rw[Y]at G;exact(AW.mp G).1),nDp,s7 _ _ t,λz hz=>?_,?_,λn G nb=>⟨by rw[Y]at G;exact(AW.mp G).1,λz=>?_⟩,λl rs ts H9 b9 K9 k9 hl9 R9 q9=>q l rs I J ts H9 ((Bt.of L).trans b9) K9 k9 Y Z (L.free hl9) R9 q9⟩
  .obtain⟨z1,z2⟩:=AW.mp hz;rw[Y];exact AW.mpr ⟨Br j.mem a ha z z1,z2⟩
  .exact List.Pairwise.filter _ (Sx j.ndq a)
  .rw[I_,I_,Z.mem_iff,AW];refine⟨λc=>⟨c,?_⟩,λc=>c.1⟩;have na:n≠a:=λe=>by
    rw[Y]at G;have:=(AW.mp G).2;rw[e,AQ rfl]at this;cases this
   have:¬(a=z\/a=n):=λo=>o.elim (λe=>nb (AW.mpr ⟨Le.mpr (e▸c),by rw[AL na];rfl⟩)) λe=>na e.symm;rw[AL this];rfl
structure QD(H:Hp)(p v:A3)(ns:A0 Str)(ks:A0 (Str×Str))(A B:A0 Nat):Prop where
 ex:∃a s t,H v=some (.lst [.ref a,.ref s,.ref t])/\H a=some (.lst (ns.map V.str))/\H s=some (.lst (A.map Nh))/\H t=some (.lst (B.map Nh))/\v≠p/\a≠p/\s≠p/\t≠p
 mA:MB ns (ks.map λk=>(k.2,k.1)) A
 mB:MB ns ks B
def Tc{n j:Nat}(h:j<n):SM n (j:Int)=some j:=by
 unfold SM;rw[AO (by lia),AO (by lia),CJ]
def Gu{B:A0 Nat}{a:Nat}(h:a<B.length):QW (B.map Nh) (a:Int)=some (.int ((B.getD a 0:Nat):Int)):=by
 refine Q9 ?_;rw[AJ,AF h,CB,AF h];rfl
def Nl(n:Nat):(List.replicate ((n:Int).toNat) [V.int 0]).flatten =(List.replicate n 0).map Nh:=by
 rw[CJ]
 induction n with
 | zero=>rfl
 | succ n a =>
  rw[DD,FO,a,DD,BM];rfl
def Mf(B:A0 Nat)(a m:Nat):(B.map Nh).set a (.int (m:Int)) =(B.set a m).map Nh:=by
 rw[List.map_set];rfl
theorem JZ:IL ["_law_names","_law_strikes","_law_strikers","_law_struck","_law_one","_law_other","_law_a","_law_b"] ["_law_names","_law_strikes"] (B6 OK):=Kc
def Wr:Sp:=λe H Q _=>∃(n a:A3) (b:A0 Str) (ps:A0 IZ),e = [.ref n,.ref a]/\H n=some (.lst (b.map V.str))/\i6 b/\H a=some (.lst (F8 ps))/\(∀q∈ps,G0 H q)/\OG b ps /\
 ∀v c A B d,H v=none->Cv H d->c.Perm b->c.Pairwise NZ->(∀p o,H p=some o->QD d p v c (ps.map λq=>q.2) A B)->Q (.ref v) d
set_option maxHeartbeats 2000000 in
theorem Ia(T:Tx K mg):IU P w K mg base JW 1 T.a7.f T.a7.fd ["_law_names","_law_strikes"] Wr:=by
 refine T.a7.F.o1 JZ λcdv A outer s H vs Q E hr h=>?_
 .obtain⟨n,a,ss,ps,rfl,hn,hN,ha,hP,hO,q⟩:=h;refine⟨_,(A9 (C8 (i:=0) JZ.nd rfl (.inl rfl) (F9 (Ar K) T.ay K8 (A6 (pv 0) A8)))
   (A9 (Sn (i:=2) (j:=3) rfl JZ.nd rfl rfl (by decide) rfl rfl (A6 (G8 Yy (E9 (A6 B5 A8)) (F9 (T0 K) T.ax Q5 (A6 (pv 0) A8))) (A6 (G8 Yy (E9 (A6 B5 A8)) (F9 (T0 K) T.ax Q5 (A6 (pv 0) A8))) A8)) rfl)
   (A9 (W6 PassesOwn.never rfl (MW K (pv 1)) (RR K (n:=2) (E7 (I9 (i:=4) JZ.nd rfl (.inl rfl)) (E7 (I9 (i:=5) JZ.nd rfl (.inl rfl)) S5)))
   (A9 (Sn (i:=6) (j:=7) rfl JZ.nd rfl rfl (by decide) rfl rfl (A6 (Ph K VG VJ VL (Mz K) (pv 0) (A6 (pv 4) A8)) (A6 (Ph K VG VJ VL (Mz K) (pv 0) (A6 (pv 5) A8)) A8)) rfl)
   (A9 (Bv (G8 Wc (E8 (K_ K) (pv 2) (pv 7) (λ_ _=>rfl)) (G8 Te B5 (pv 6))) (Ng (pv 2) (pv 7) Cn))
   (B4 (Bv (G8 Wc (E8 (K_ K) (pv 3) (pv 6) (λ_ _=>rfl)) (G8 Te B5 (pv 7))) (Ng (pv 3) (pv 6) Cn))))))
   (B4 (C0 (E9 (A6 (pv 0) (A6 (pv 2) (A6 (pv 3) A8))))))))),?_⟩
  refine C3 rfl ⟨n,ss,rfl,IR.of hn,λl b hl D srt=>?_⟩;have R:b.Nodup:=D.nodup_iff.mpr hN.2.1;have S:(b.map V.str).length=b.length:=AB ..;have ln:b.length<=100:=by rw[D.length_eq];exact hN.2.2
  have s1:Cv H (II H l (.lst (b.map V.str))):=Cv.new hl;refine⟨by show 1<=sizeLine;decide,λU d=>?_⟩;have s2:=s1.trans (Cv.new (o:=.lst [V.int 0]) d);refine C3 rfl (C4 (a:=l) rfl (.inl (IR.of ((Cv.new d) _ _ A7))) ⟨U,C4 rfl rfl ⟨A7,by lia,by lia,by rw[S,CJ,sizeLine_eq];show 1*b.length<=_;lia,λs W=>?_⟩⟩);rw[S,Nl];have hs1:II H l (.lst (b.map V.str)) s=none:=(Cv.new d).free W;have G:H s=none:=s2.free W;have nls:l≠s:=B0 A7 hs1;have s3:=s2.trans (Cv.new (o:=.lst ((List.replicate b.length 0).map Nh)) W);refine⟨by show 1<=sizeLine;decide,λI r=>?_⟩;have s4:=s3.trans (Cv.new (o:=.lst [V.int 0]) r);have X:(II (II (II (II H l (.lst (b.map V.str))) U (.lst [V.int 0])) s (.lst ((List.replicate b.length 0).map Nh))) I (.lst [V.int 0])) l=some (.lst (b.map V.str)) :=
   (Cv.new r) _ _ ((Cv.new W) _ _ ((Cv.new d) _ _ A7))
  have es:(II (II (II (II H l (.lst (b.map V.str))) U (.lst [V.int 0])) s (.lst ((List.replicate b.length 0).map Nh))) I (.lst [V.int 0])) s=some (.lst ((List.replicate b.length 0).map Nh)):=(Cv.new r) _ _ A7;generalize hG:II (II (II (II H l (.lst (b.map V.str))) U (.lst [V.int 0])) s (.lst ((List.replicate b.length 0).map Nh))) I (.lst [V.int 0])=H4 at s4 X es⊢;have et2:H4 I=some (.lst [V.int 0]):=by rw[<-hG];exact A7
  refine C3 rfl (C4 (a:=l) rfl (.inl (IR.of X)) ⟨I,C4 rfl rfl ⟨et2,by lia,by lia,by rw[S,CJ,sizeLine_eq];show 1*b.length<=_;lia,λt Y=>?_⟩⟩);rw[S,Nl];have J:l≠t:=B0 X Y;have e:s≠t:=B0 es Y;have s5:=s4.trans (Cv.new (o:=.lst ((List.replicate b.length 0).map Nh)) Y);have L:H t=none:=s4.free Y;refine⟨_,C3 rfl (C3 rfl ⟨a,rfl,⟨_,IR.of (s5 _ _ ha)⟩,?_⟩)⟩;refine Di (PQ (K:=K) (IR.of ha)) (λi σ u=>(∃v4 v5 v6 v7,σ = [some (.ref l),some (.ref a),some (.ref s),some (.ref t),v4,v5,v6,v7])/\Cv H u/\u l=some (.lst (b.map V.str)) /\
   ∃A B:A0 Nat,u s=some (.lst (A.map Nh))/\u t=some (.lst (B.map Nh))/\MB b ((ps.take i).map λq=>(q.2.2,q.2.1)) A/\MB b ((ps.take i).map λq=>q.2) B) ?_ ?_ ?_ ?_
  .exact⟨⟨_,_,_,_,rfl⟩,s5,by rw[B7 J];exact X,_,_,by rw[B7 e];exact es,A7,MB.zero b,MB.zero b⟩
  .rintro i σ u hi ⟨_,g,_⟩;exact g.at a
  .rintro i σ u v c ⟨⟨v4,v5,v6,v7,rfl⟩,g,x,A,B,Z,h4,y,C⟩ D1 hD1 _;unfold F8 at c;rw[AJ]at c;cases M:ps[i]? with
   | none=>rw[M]at c;cases c
   | some q =>
    rw[M]at c;cases c;have hm:q∈ps:=AZ M;obtain⟨m1,m2⟩:=hO.nm q hm;have m1:q.2.1∈b:=D.mem_iff.mpr m1;have m2:q.2.2∈b:=D.mem_iff.mpr m2;obtain⟨j,N⟩:=List.mem_iff_getElem?.mp m1;obtain⟨k,O⟩:=List.mem_iff_getElem?.mp m2;have lj:j<b.length:=(AK.mp N).1;have lk:k<b.length:=(AK.mp O).1;refine⟨q.1,C3 rfl ⟨JG.of (g _ _ (hP q hm)),rfl,_,C3 rfl (C4 rfl rfl ?_)⟩⟩;refine C3 rfl ⟨.inl ⟨rfl,_,IR.of x⟩,C3 rfl ⟨l,b,q.2.1,j,rfl,rfl,IR.of x,N,λm hm z=>by have:=Cm R z N;lia,?_⟩⟩;refine C3 rfl ⟨.inl ⟨rfl,_,IR.of x⟩,C3 rfl ⟨l,b,q.2.2,k,rfl,rfl,IR.of x,O,λm hm z=>by have:=Cm R z O;lia,?_⟩⟩;refine⟨_,C3 rfl ?_⟩;refine C3 rfl (C3 rfl ⟨s,_,C4 rfl rfl ⟨IR.of Z,Gu (by rw[y.len];exact lk),C3 rfl (C4 rfl rfl ⟨⟨by lia,by lia,by decide⟩,C4 rfl rfl ?_⟩)⟩⟩);dsimp only;rw[zHk,bor];refine C3 rfl (C3 rfl ⟨s,_,_,k,rfl,rfl,Z,Tc (by rw[AB,y.len];exact lk),?_⟩);rw[Mf];refine C3 rfl (C3 rfl ⟨t,_,C4 rfl rfl ⟨IR.of (by rw[B7 e.symm];exact h4),Gu (by rw[C.len];exact lj),C3 rfl (C4 rfl rfl ⟨⟨by lia,by lia,by decide⟩,C4 rfl rfl ?_⟩)⟩⟩);dsimp only;rw[zHk,bor];refine C3 rfl (C3 rfl ⟨t,_,_,j,rfl,rfl,by rw[B7 e.symm];exact h4,Tc (by rw[AB,C.len];exact lj),?_⟩);rw[Mf];refine hD1 _ _ ⟨⟨_,_,_,_,rfl⟩,(g.upd G).upd L,?_,A.set k (A.getD k 0 ||| 2^j),_,?_,A7,?_,?_⟩
    .rw[B7 J,B7 nls];exact x
    .rw[B7 e,A7]
    .rw[E4 M,AH];exact y.step R O N
    .rw[E4 M,AH];exact C.step R N O
  .rintro σ u ⟨⟨v4,v5,v6,v7,rfl⟩,g,x,A,B,Z,h4,y,C⟩;have lr:(F8 ps).length=ps.length:=by unfold F8;rw[AB]
   rw[lr,BP]at y C;refine C3 rfl (C3 rfl (C3 rfl ⟨by show 3<=sizeLine;decide,λv c=>?_⟩));have s9:=Cv.new (o:=.lst [.ref l,.ref s,.ref t]) c;refine q v b A B _ (g.free c) (g.trans s9) D srt λp o hp=>⟨⟨l,s,t,A7,s9 _ _ x,s9 _ _ Z,s9 _ _ h4,(B0 (g _ _ hp) c).symm,(B0 hp hl).symm,(B0 hp G).symm,(B0 hp L).symm⟩,?_,C⟩;rw[B_];exact y
def UJ(B:A0 Nat)(m j:Nat):Prop:=∃k,m.testBit k=true/\(B.getD k 0).testBit j=true
def NO(n:Nat)(A B:A0 Nat)(m j:Nat):Prop:=j<n/\∀b,(A.getD j 0).testBit b=true->UJ B m b
def Hl(a h:Nat):decide (V.int (Builtin.bitAnd (a:Int) (Builtin.bitNot (h:Int)))=V.int 0)=true↔∀b,a.testBit b=true->h.testBit b=true:=by
 rw[decide_eq_true_iff,PyProof.Rows.bitAnd_not,zIa];constructor
 .intro e b c;injection e with e;have e:a=a &&& h:=by lia
  rw[e,Nat.testBit_and,C_]at c;exact c.2
 .intro k;have e:a &&& h=a:=Nat.eq_of_testBit_eq λb=>by
   rw[Nat.testBit_and];cases c:a.testBit b with
   | false=>rfl
   | true=>rw[k b c];rfl
  rw[e,Int.sub_self]
def zBt(d k j:Nat):(d ||| 2^k).testBit j=true↔d.testBit j=true\/j=k:=by
 rw[Nat.testBit_or,Bool.or_eq_true,Nat.testBit_two_pow,decide_eq_true_iff];exact⟨λh=>h.imp id Eq.symm,λh=>h.imp id Eq.symm⟩
theorem LZ:IL ["_law_view","_law_mask","_law_hit_here","_law_k"] ["_law_view","_law_mask"] (B6 PV):=Kc
def zDs:Sp:=λb H Q _=>∃(p v:A3) (m:Nat) (a:A0 Str) (c:A0 (Str×Str)) (A B:A0 Nat),b = [.ref v,.int (m:Int)]/\QD H p v a c A B/\a.length<=100 /\
 ∀h:Nat,(∀j,h.testBit j=true↔UJ B m j)->Q (.int (h:Int)) H
theorem Eu(T:Tx K mg):IU P w K mg base JW 1 T.be.f T.be.fd ["_law_view","_law_mask"] zDs:=by
 refine T.be.F.o1 LZ λx A g s H J Q E L h=>?_
 .obtain⟨p,v,m,M,N,A,B,rfl,y,O,q⟩:=h;obtain⟨⟨a,s,t,r,C,R,D,_⟩,S,u⟩:=id y;refine⟨_,(A9 (C8 (i:=2) LZ.nd rfl (.inl rfl) B5)
   (A9 (W6 PassesOwn.never rfl (T2 T.aU (A6 (F9 (T0 K) T.ax Q5 (A6 (E8 (K_ K) (pv 0) B5 (λ_ _=>rfl)) A8)) A8)) (I9 (i:=3) LZ.nd rfl (.inl rfl))
   (B4 (K0 (B8 X1 (G8 Np (G8 Sv (pv 1) (pv 3)) B5) B5 (D8 _)) (B4 (C8 (i:=2) LZ.nd rfl (.inl rfl) (G8 Wc (pv 2) (E8 (K_ K) (E8 (K_ K) (pv 0) B5 (λ_ _=>rfl)) (pv 3) (λ_ _=>rfl))))) D0)))
   (B4 (C0 (pv 2))))),?_⟩
  refine C3 rfl ⟨v,_,C4 rfl rfl ⟨IR.of r,rfl,C4 (a:=a) rfl (.inl (IR.of C)) (C3 rfl ⟨?_,?_,?_⟩)⟩⟩
  .lia
  .rw[AB];lia
  rw[AB,CJ];refine X5 (λi σ l=>l=H/\∃(h:Nat) (n:A5 V),σ = [some (.ref v),some (.int (m:Int)),some (.int (h:Int)),n]/\∀j,h.testBit j=true↔∃k,k<i/\m.testBit k=true/\(B.getD k 0).testBit j=true) ?_ ?_ ?_
  .exact⟨rfl,0,_,rfl,λj=>by rw[FT];simp⟩
  .rintro i σ l G ⟨rfl,h,n,rfl,d⟩ U c _;rw[Int.zero_add];refine C3 rfl (C3 rfl (C4 rfl rfl ⟨(show(0:Int)<=(i:Int) by lia),C4 rfl rfl ⟨rfl,C3 rfl ?_⟩⟩));dsimp only;rw[zFg];refine w8 (λo=>?_) (λo=>?_)
   .refine C3 rfl (C3 rfl ⟨v,_,C4 rfl rfl ⟨IR.of r,rfl,C3 rfl ⟨t,_,C4 rfl rfl ⟨IR.of D,Gu (by rw[u.len];exact G),C4 rfl rfl ?_⟩⟩⟩⟩);dsimp only;rw[bor];refine c _ _ ⟨rfl,_,_,rfl,λj=>?_⟩;rw[Nat.testBit_or,Bool.or_eq_true,d];constructor
    .rintro(⟨k,b,h2⟩ | h2)
     .exact⟨k,by lia,h2⟩
     .exact⟨i,by lia,o,h2⟩
    .rintro⟨k,b,h2⟩;by_cases e:k=i
     .rw[e]at h2;exact .inr h2.2
     .exact .inl ⟨k,by lia,h2⟩
   .refine c _ _ ⟨rfl,h,_,rfl,λj=>?_⟩;rw[d];constructor
    .rintro⟨k,b,h2⟩;exact⟨k,by lia,h2⟩
    .rintro⟨k,b,h2⟩;by_cases e:k=i
     .rw[e]at h2;exact absurd h2.1 o
     .exact⟨k,by lia,h2⟩
  .rintro σ l ⟨rfl,h,n,rfl,d⟩;refine C3 rfl (q h λj=>?_);rw[d];constructor
   .rintro⟨k,b,h2⟩;exact⟨k,h2⟩
   .rintro⟨k,b,h2⟩;refine⟨k,?_,b,h2⟩;obtain⟨z,_,I,_⟩:=(u.bit k j).mp h2;exact(AK.mp I).1
theorem K2:IL ["_law_view","_law_mask","_law_hit_here","_law_kept_here","_law_k"] ["_law_view","_law_mask"] (B6 OY):=Kc
def Zt:Sp:=λb H Q _=>∃(p v:A3) (m:Nat) (a:A0 Str) (c:A0 (Str×Str)) (A B:A0 Nat),b = [.ref v,.int (m:Int)]/\QD H p v a c A B/\a.length<=100 /\
 ∀h:Nat,(∀j,h.testBit j=true↔NO a.length A B m j)->Q (.int (h:Int)) H
theorem Dj(T:Tx K mg):IU P w K mg base JW 2 T.a3.f T.a3.fd ["_law_view","_law_mask"] Zt:=by
 refine T.a3.F.o1 K2 λM A x s H Z Q E N h=>?_
 .obtain⟨p,v,m,O,R,A,B,rfl,I,S,q⟩:=h;obtain⟨⟨a,s,t,J,U,W,e4,_⟩,X,mB⟩:=id I;refine⟨_,(A9 (C8 (i:=2) K2.nd rfl (.inl rfl) (D9 T.be (Eu T) (Rm N) (A6 (pv 0) (A6 (pv 1) A8))))
   (A9 (C8 (i:=3) K2.nd rfl (.inl rfl) B5)
   (A9 (W6 PassesOwn.never rfl (T2 T.aU (A6 (F9 (T0 K) T.ax Q5 (A6 (E8 (K_ K) (pv 0) B5 (λ_ _=>rfl)) A8)) A8)) (I9 (i:=4) K2.nd rfl (.inl rfl))
   (B4 (K0 (B8 X1 (G8 Np (E8 (K_ K) (E8 (K_ K) (pv 0) B5 (λ_ _=>rfl)) (pv 4) (λ_ _=>rfl)) (zHj zFu (pv 2))) B5 (D8 _)) (B4 (C8 (i:=3) K2.nd rfl (.inl rfl) (G8 Wc (pv 3) (G8 Te B5 (pv 4))))) D0)))
   (B4 (C0 (pv 3)))))),?_⟩
  refine C3 rfl (C3 rfl (zGv (a:=p) (b:=v) (c:=m) (d:=O) (e:=R) (f:=A) (g:=B) rfl I S λo k=>?_));refine C3 rfl ⟨v,_,C4 rfl rfl ⟨IR.of J,rfl,C4 (a:=a) rfl (.inl (IR.of U)) (C3 rfl ⟨?_,?_,?_⟩)⟩⟩
  .lia
  .rw[AB];lia
  rw[AB,CJ];refine X5 (λi σ y=>y=H/\∃(h:Nat) (C:A5 V),σ = [some (.ref v),some (.int (m:Int)),some (.int (o:Int)),some (.int (h:Int)),C]/\∀j,h.testBit j=true↔NO i A B m j) ?_ ?_ ?_
  .exact⟨rfl,0,_,rfl,λj=>by rw[FT];exact⟨λz=>(by cases z),λz=>absurd z.1 (Nat.not_lt_zero _)⟩⟩
  .rintro i σ y Y ⟨rfl,h,C,rfl,u⟩ D1 r _;rw[Int.zero_add];refine C3 rfl ⟨v,_,C4 rfl rfl ⟨IR.of J,rfl,C3 rfl ⟨s,_,C4 rfl rfl ⟨IR.of W,Gu (by rw[X.len];exact Y),C3 rfl (C3 rfl (C4 rfl rfl ⟨rfl,C3 rfl ?_⟩))⟩⟩⟩⟩;dsimp only;have L:=Hl (A.getD i 0) o;refine w8 (λD=>?_) (λD=>?_)
   .refine C3 rfl (C3 rfl (C4 rfl rfl ⟨⟨by lia,by lia,by decide⟩,C4 rfl rfl ?_⟩));dsimp only;rw[zHk,bor];refine r _ _ ⟨rfl,_,_,rfl,λj=>?_⟩;rw[zBt,u];constructor
    .rintro(⟨G,l⟩ | rfl)
     .exact⟨by lia,l⟩
     .exact⟨by lia,λb n=>(k b).mp (L.mp D b n)⟩
    .rintro⟨G,l⟩;by_cases e:j=i
     .exact .inr e
     .exact .inl ⟨by lia,l⟩
   .refine r _ _ ⟨rfl,h,_,rfl,λj=>?_⟩;rw[u];constructor
    .rintro⟨G,l⟩;exact⟨by lia,l⟩
    .rintro⟨G,l⟩;by_cases e:j=i
     .subst e;exact absurd (L.mpr λb n=>(k b).mpr (l b n)) D
     .exact⟨by lia,l⟩
  .rintro σ y ⟨rfl,h,C,rfl,u⟩;exact⟨_,rfl,q h u⟩
def TQ(n m:Nat):Prop:=∀j,m.testBit j=true->j<n
def TQ.zero(n:Nat):TQ n 0:=λj a=>by rw[FT]at a;cases a
def Sub(c a:Nat):Prop:=∀j,c.testBit j=true->a.testBit j=true
def V9(m i:Nat):A0 Nat:=(List.range i).filter λk=>m.testBit k
def Kv(m i:Nat):V9 m (i+1)=V9 m i++if m.testBit i=true then [i]else []:=by
 unfold V9;rw[List.range_succ,CV,BR,DZ]
def Hw(m i:Nat):(V9 m i).length<=i:=VE (BC ..) (by rw[DW];exact VD _)
def Yw{m r:Nat}(s:Sub m r):∀n,(V9 m n).length<=(V9 r n).length/\((V9 m n).length =(V9 r n).length->∀j,j<n->m.testBit j=r.testBit j)
 | 0=>⟨VD _,λ_ j h=>absurd h (Nat.not_lt_zero _)⟩
 | n+1=>by
  obtain⟨b,d⟩:=Yw s n;have f:∀z,(V9 z (n+1)).length =(V9 z n).length+if z.testBit n=true then 1 else 0:=λz=>by
   rw[Kv,AS];split<;>rfl
  rw[f,f];cases a:m.testBit n with
  | true =>
   rw[s n a];refine⟨by simp;exact b,λe j g=>?_⟩;by_cases c:j=n
   .rw[c,a,s n a]
   .exact d (by simpa using e) j (by lia)
  | false =>
   cases i:r.testBit n with
   | true=>exact⟨by simp;lia,λe=>by simp at e;lia⟩
   | false =>
    refine⟨by simp;exact b,λe j g=>?_⟩;by_cases c:j=n
    .rw[c,a,i]
    .exact d (by simpa using e) j (by lia)
def zFn{n m r:Nat}(s:Sub m r)(lo:TQ n r)(a:m≠r):(V9 m n).length <(V9 r n).length:=by
 obtain⟨b,d⟩:=Yw s n;refine FU b λe=>a (Nat.eq_of_testBit_eq λj=>?_);by_cases c:j<n
 .exact d e j c
 .rw[ED.mpr λz=>c (lo j z),ED.mpr λz=>c (lo j (s j z))]
def NO.up{n:Nat}{A B:A0 Nat}{m r j:Nat}(s:Sub m r)(h:NO n A B m j):NO n A B r j:=⟨h.1,λb a=>let⟨k,c,d⟩:=h.2 b a;⟨k,s k c,d⟩⟩
theorem KM:IL ["_law_view","_law_mask","_law_more"] ["_law_view"] (B6 OL):=Kc
def Jf(n:Nat)(A B:A0 Nat)(m:Nat):Prop:=TQ n m/\(∀j,m.testBit j=true↔NO n A B m j)/\∀X:Nat->Prop,(∀(r:Nat) j,(∀i,r.testBit i=true->X i)->NO n A B r j->X j)->∀j,m.testBit j=true->X j
def Qu:Sp:=λb H Q _=>∃(p v:A3) (a:A0 Str) (c:A0 (Str×Str)) (A B:A0 Nat),b = [.ref v]/\QD H p v a c A B/\a.length<=100/\∀m:Nat,Jf a.length A B m->Q (.int (m:Int)) H
theorem Ho(T:Tx K mg):IU P w K mg base JW 3 T.a8.f T.a8.fd ["_law_view"] Qu:=by
 refine T.a8.F.o1 KM λR A l s H V Q E D h=>?_
 .obtain⟨p,v,a,I,A,B,rfl,J,L,q⟩:=h;refine⟨_,(A9 (C8 (i:=1) KM.nd rfl (.inl rfl) B5)
   (A9 (C8 (i:=2) KM.nd rfl (.inl rfl) (D9 T.a3 (Dj T) (Rm D) (A6 (pv 0) (A6 B5 A8))))
   (A9 (Gz PassesOwn.never (B8 Ed (pv 2) (pv 1) (D8 _)) (A9 (C8 (i:=1) KM.nd rfl (.inl rfl) (pv 2))
   (B4 (C8 (i:=2) KM.nd rfl (.inl rfl) (D9 T.a3 (Dj T) (Rm D) (A6 (pv 0) (A6 (pv 1) A8)))))))
   (B4 (C0 (pv 1)))))),?_⟩
  refine B3 λW n=>?_;refine n _ _ (B3 λY o=>?_);refine C3 rfl ⟨p,v,0,a,I,A,B,rfl,J,L,λr u=>?_⟩;refine o _ _ (B3 λZ x=>?_);refine⟨λt σ G=>G=H/\∃m r:Nat,σ = [some (.ref v),some (.int (m:Int)),some (.int (r:Int))]/\TQ a.length m/\(∀j,r.testBit j=true↔NO a.length A B m j)/\Sub m r/\t +(V9 m a.length).length=a.length/\∀X:Nat->Prop,(∀(r:Nat) j,(∀i,r.testBit i=true->X i)->NO a.length A B r j->X j)->∀j,m.testBit j=true->X j,⟨a.length-(V9 0 a.length).length,rfl,0,r,rfl,TQ.zero _,u,(λj h=>by rw[FT]at h;cases h),by have:=Hw 0 a.length;lia,λX _ j h=>by rw[FT]at h;cases h⟩,?_⟩;rintro t σ G ⟨rfl,m,r,rfl,lo,d,sub,ht,M⟩;have g:TQ a.length r:=λj k=>((d j).mp k).1;refine C3 rfl (C3 rfl ⟨rfl,_,rfl,w8 (λz=>?_) λz=>x _ _ (C3 rfl (q m ⟨lo,?_,M⟩))⟩)
  .have S:m≠r:=λe=>by
    rw[e]at z;simp at z
   refine⟨λσ' N=>N=G/\∃b:Nat,σ' = [some (.ref v),some (.int (r:Int)),some (.int (b:Int))]/\∀j,b.testBit j=true↔NO a.length A B r j,λσ' N ⟨e,b,U,h⟩=>?_,?_⟩
   .have:=zFn sub g S;have:=Hw r a.length;exact⟨a.length-(V9 r a.length).length,by lia,e,r,b,U,g,h,λj k=>(h j).mpr (((d j).mp k).up sub),by lia,λX O j k=>O m j (M X O) ((d j).mp k)⟩
   .refine B3 λN4 y=>?_;refine C3 rfl (y _ _ ?_);exact C3 rfl (C3 rfl ⟨p,v,r,a,I,A,B,rfl,J,L,λb C=>⟨rfl,b,rfl,C⟩⟩)
  .have e:m=r:=Decidable.byContradiction λc=>z (by simpa using (show ¬((r:Int) =(m:Int))from λe=>c (by lia)));rw[<-e]at d;exact d
def NM:A0 Str:=["b","ab","x","know","c","m","ba","aba","xa","knowa","ca","ma","bbb","abbb","xbb","knowbb","cbb","mbb","bccc","abccc","xccc","knowccc","cccc","mccc","bdddd","abdddd","xdddd","knowdddd","cdddd","mdddd"]
abbrev TC:A0 Str:=["b","ab","x","know","c","m"]
abbrev RV:Str := "aabcd"
theorem QO:(∀x∈NM,S0 x=true)/\NM.Nodup:=⟨by decide +kernel,by decide +kernel⟩
def zIg(i:Nat):A5 Str:=(TC[i % 6]?).bind λx=>(RV.cps.toList[i / 6]?).map λc=>x++Ik ⟨#[c]⟩ (i / 6)
theorem Vy:∀i:Fin 30,zIg i.1=NM[i.1]?/\((NM[i.1]?).map λx=>decide (x.length<=8))=some true:=by decide +kernel
theorem zBm{i:Nat}(h:i<30):∃x c y,QW (TC.map V.str) ((i:Int) % 6)=some (.str x)/\QW RV.cps.toList ((i:Int) / 6)=some c/\x++Ik ⟨#[c]⟩ (i / 6)=y/\NM[i]?=some y/\x.length +(Ik ⟨#[c]⟩ (i / 6)).length<=8:=by
 obtain⟨a,b⟩:=Vy ⟨i,h⟩;unfold zIg at a;simp only at a b;cases d:TC[i % 6]? with
 | none=>rw[d]at a;rw[<-a]at b;cases b
 | some x =>
  cases f:RV.cps.toList[i / 6]? with
  | none=>rw[d,f]at a;rw[<-a]at b;cases b
  | some c =>
   rw[d,f]at a;have a:some (x++Ik ⟨#[c]⟩ (i / 6))=NM[i]?:=a;refine⟨x,c,_,?_,?_,rfl,a.symm,?_⟩
   .exact Q9 (j:=i % 6) (by rw[AJ,d];rfl)
   .exact Q9 (j:=i / 6) f
   .rw[<-a]at b;have:(x++Ik ⟨#[c]⟩ (i / 6)).length<=8:=by
     have b:some (decide ((x++Ik ⟨#[c]⟩ (i / 6)).length<=8))=some true:=b;exact BL (BU b)
    have e:(x++Ik ⟨#[c]⟩ (i / 6)).length=x.length +(Ik ⟨#[c]⟩ (i / 6)).length:=Array.size_append;lia
theorem KL:IL ["_law_left_here","_law_many","_law_some","_law_k"] ["_law_left_here","_law_many"] (B6 LU):=Kc
def Gn:Sp:=λe H Q _=>∃(p:A3) (c:Int) (a:Nat),e = [.ref p,.int (a:Int)]/\IW H p c/\c<=900000/\a<=30 /\
 ∀l (d:A0 Str) b,H l=none->Sm [p] H b->b l=some (.lst (d.map V.str))->d.length=a->i6 d->IW b p (c+a)->Q (.ref l) b
set_option maxHeartbeats 2000000 in
theorem Bg(T:Tx K mg):IU P w K mg base JW 3 T.aP.f T.aP.fd ["_law_left_here","_law_many"] Gn:=by
 refine T.aP.F.o1 KL λcdv A L s H vs Q E hr h=>?_
 .obtain⟨p,c,l,rfl,hL,c1,m1,q⟩:=h;obtain⟨a0,b0,e0,c0⟩:=id hL;refine⟨_,(A9 (C8 (i:=2) KL.nd rfl (.inr rfl) (E9 A8))
   (@A9 _ _ _ _ _ (W6 PassesOwn.never rfl (T2 T.aU (A6 B5 A8)) (I9 (i:=3) KL.nd rfl (.inl rfl))
   (@B4 _ _ _ (J8 (Ph K VG VH VI U4 (pv 2) (@A6 _ _ _ _ _ (@G8 _ _ _ _ _ _ _ _ Pc (@E8 _ _ _ _ _ _ _ (K_ K) (@E9 _ _ _ _ (@A6 _ _ _ _ _ C2 (@A6 _ _ _ _ _ C2 (@A6 _ _ _ _ _ C2 (@A6 _ _ _ _ _ C2 (@A6 _ _ _ _ _ C2 (@A6 _ _ _ _ _ C2 A8 (by rfl)) (by rfl)) (by rfl)) (by rfl)) (by rfl)) (by rfl))) (G8 Fs (pv 3) B5) (λ_ _=>rfl)) (G8 Py (E8 zGa C2 (G8 Fz (pv 3) B5) (λ_ _=>rfl)) (G8 Fz (pv 3) B5))) A8 (by rfl))))))
   (B4 (C0 (W9 (N':=["_law_k","_law_some","_law_left_here"]) (cap:=[none,some 2,some 0]) (cl:=[("_law_some",_),("_law_left_here",_)]) (P4 ⟨⟨rfl,rfl,rfl,rfl⟩,⟨⟨rfl,rfl,rfl,rfl⟩,trivial⟩⟩ ⟨rfl,⟨rfl,trivial⟩⟩) rfl (T2 T.aU (A6 (pv 1) A8)) (λ_ _ _ _=>by exact⟨(LS 0),P1,(Ph K VG PySem.F.slot_list_pop PySem.F.type_list_pop Wd (pv 1) (A6 (D9 T.ak (E3 T) (Rm hr) (A6 (pv 2) (A6 (F9 (T0 K) T.ax Q5 (A6 (pv 1) A8)) A8))) A8))⟩)))))),?_⟩
  refine⟨BZ _,λa G=>?_⟩;have u:p≠a:=B0 e0 G;refine C3 rfl ⟨by decide,by decide,?_⟩;refine X5 (λi σ g=>(∃M,σ = [some (.ref p),some (.int (l:Int)),some (.ref a),M])/\Cv H g/\g a=some (.lst ((NM.take i).map V.str))) ?_ ?_ ?_
  .exact⟨⟨_,rfl⟩,Cv.new G,A7⟩
  .rintro i σ g o ⟨⟨M,rfl⟩,r,k⟩ D1 O _;have o:i<30:=o;obtain⟨x,ch,y,n1,n2,n3,n4,n5⟩:=zBm o;rw[Int.zero_add];refine C3 rfl ⟨.inl ⟨rfl,_,IR.of k⟩,by show 6<=sizeLine;decide,λt ht=>?_⟩;have R:a≠t:=B0 k ht;refine C3 rfl (C4 rfl rfl ⟨(show(0:Int)<6 by decide),t,_,C4 rfl rfl ⟨IR.of A7,n1,C3 rfl (C4 rfl rfl ⟨⟨by decide,by decide⟩,_,C4 rfl rfl ⟨by decide,n2,C3 rfl (C4 rfl rfl ⟨⟨by decide,by decide⟩,_,_,i / 6,rfl,rfl,by lia,by lia,by show 1<=1000;decide,C4 rfl rfl ⟨by rw[sizeLine_eq];lia,?_⟩⟩)⟩⟩)⟩⟩);rw[n3];refine⟨a,C4 rfl rfl ⟨by rw[B7 R];exact k,?_,O _ _ ⟨⟨_,rfl⟩,?_,?_⟩⟩⟩
   .rw[AB,AX,sizeLine_eq];lia
   .exact(r.trans (Cv.new ht)).upd G
   .rw[A7,E4 n4,AH];rfl
  .rintro σ g ⟨⟨M,rfl⟩,r,k⟩;have k:g a=some (.lst (NM.map V.str)):=k;dsimp only[UH,TZ,Q4,zIv,S_,U9,Fh];refine C3 rfl (C3 rfl ⟨by lia,by lia,λD v=>?_⟩);have z:p≠D:=B0 (r _ _ e0) v;have m:a≠D:=B0 k v;have B:H D=none:=r.free v;rw[CJ];refine Iz (n:=l) (λi σ g=>(∃S,σ = [S,some (.ref a),some (.ref p)])/\Sm [p] H g/\IW g p (c+i)/\∃e j:A0 Str,g a=some (.lst (e.map V.str))/\g D=some (.lst (j.map V.str))/\(e++j).Perm NM/\j.length=i) ?_ ?_ ?_ ?_ ?_
   .exact⟨⟨_,rfl⟩,(r.trans (Cv.new v)).sm,(hL.cast (by lia)).same (r.trans (Cv.new v)),NM,[],by rw[B7 m];exact k,A7,by rw[CC],rfl⟩
   .intro i σ g o _;exact o
   .intro σ g _;exact VD _
   .rintro i σ g x H' N o ⟨⟨S,rfl⟩,U,W,e,j,k,X,I,J⟩ ⟨rfl,rfl⟩ hN;have hlen:e.length=30-i:=by
     have:=I.length_eq;rw[AS,J]at this;have:e.length+i=30:=this;lia
    refine By ?_;refine C3 rfl ⟨.inl ⟨rfl,_,IR.of k⟩,C3 rfl (C3 rfl (C4 (a:=a) rfl (.inl (IR.of k)) (Y9 (a:=p) (b:=c+i) rfl W (by lia) ?_ ?_ λd H2 hd Y L2=>?_)))⟩
    .rw[AB];lia
    .rw[AB];lia
    rw[AB]at hd;have C:d<e.length:=by lia
    have hx:e[d]?=some e[d]:=AF C;have Z:=MY Y k u.symm;have eb2:=MY Y X z.symm;refine⟨a,_,_,d,.str e[d],rfl,rfl,Z,by lia,by lia,six (by rw[AB];exact C),by rw[AJ,hx];rfl,_,by rw[B7 m.symm];exact eb2,?_,?_⟩
    .rw[AB,sizeLine_eq];lia
    refine hN _ _ ⟨⟨_,rfl⟩,?_,?_,e.eraseIdx d,j ++ [e[d]],?_,?_,Yk I hx,by rw[AS,J];rfl⟩
    .exact((U.trans Y).updN G).updN B
    .exact((L2.cast (by lia)).upd u).upd z
    .rw[B7 m,A7,Jg]
    .rw[A7,AH];rfl
   .rintro σ g ⟨⟨S,rfl⟩,U,W,e,j,k,X,I,J⟩;exact q D j g B U X J (Wx I QO.1 QO.2 (by decide)) W
section
variable{ns:A0 Str}{ks:A0 (Str×Str)}{A B:A0 Nat}{m:Nat}{sk:Str->A0 Str}
theorem Yx(c:MB ns (ks.map λk=>(k.2,k.1)) A)(i j:Nat):(A.getD i 0).testBit j=true↔∃x y,ns[j]?=some x/\ns[i]?=some y/\(x,y)∈ks:=by
 rw[c.bit];constructor
 .rintro⟨k,d,a,b⟩;obtain⟨q,e,rfl⟩:=BJ.mp d;exact⟨q.1,q.2,b,a,e⟩
 .rintro⟨x,y,a,b,f⟩;exact⟨(y,x),BJ.mpr ⟨(x,y),f,rfl⟩,b,a⟩
theorem Vb(c:MB ns ks B)(i j:Nat):(B.getD i 0).testBit j=true↔∃x y,ns[i]?=some x/\ns[j]?=some y/\(x,y)∈ks:=by
 rw[c.bit];exact⟨λ⟨k,d,a,b⟩=>⟨k.1,k.2,a,b,d⟩,λ⟨x,y,a,b,e⟩=>⟨(x,y),e,a,b⟩⟩
theorem Nn(p:MB ns (ks.map λk=>(k.2,k.1)) A)(q:MB ns ks B)(s:Jf ns.length A B m)(sn:∀n y,y∈sk n↔(y,n)∈ks)(c:∀k∈ks,k.1∈ns/\k.2∈ns){j:Nat}(h:m.testBit j=true):∃n,ns[j]?=some n/\GW sk n true:=by
 refine s.2.2 (λj=>∃n,ns[j]?=some n/\GW sk n true) (λr j t d=>?_) j h;obtain⟨f,d⟩:=d;refine⟨ns[j],AF f,GW.inn λy a=>?_⟩;have a:=(sn _ _).mp a;obtain⟨b,u,e⟩:=D_.mp (c _ a).1;have i:ns[b]?=some y:=by rw[AF u,e]
 obtain⟨k,v,w⟩:=d b ((Yx p j b).mpr ⟨y,_,i,AF f,a⟩);obtain⟨z,C,g⟩:=t k v;obtain⟨x,E,l,o,D⟩:=(Vb q k b).mp w;rw[C]at l;cases l;rw[i]at o;cases o;exact GW.out ((sn _ _).mpr D) g
theorem Ny(o:MB ns (ks.map λk=>(k.2,k.1)) A)(p:MB ns ks B)(q:Jf ns.length A B m)(sn:∀n y,y∈sk n↔(y,n)∈ks)(c:∀k∈ks,k.1∈ns/\k.2∈ns){n:Str}{b:Bool}(g:GW sk n b):∀i,ns[i]?=some n->if b=true then m.testBit i=true else UJ B m i:=by
 induction g with
 | inn h d =>
  rename_i n;intro i a;refine(q.2.1 i).mpr ⟨(AK.mp a).1,λb r=>?_⟩;obtain⟨x,y,s,f,t⟩:=(Yx o i b).mp r;rw[a]at f;cases f;exact d x ((sn _ _).mpr t) b s
 | out h g d =>
  rename_i n y;intro i a;have j:=(sn _ _).mp h;obtain⟨k,u,e⟩:=D_.mp (c _ j).1;have l:ns[k]?=some y:=by rw[AF u,e]
  exact⟨k,d k l,(Vb p k i).mpr ⟨y,n,l,a,j⟩⟩
theorem Ut(d:MB ns (ks.map λk=>(k.2,k.1)) A)(b:MB ns ks B)(e:Jf ns.length A B m)(sn:∀n y,y∈sk n↔(y,n)∈ks)(a:∀k∈ks,k.1∈ns/\k.2∈ns){j:Nat}(h:UJ B m j):∃n,ns[j]?=some n/\GW sk n false:=by
 obtain⟨k,f,i⟩:=h;obtain⟨z,l,g⟩:=Nn d b e sn a f;obtain⟨x,y,c,o,p⟩:=(Vb b k j).mp i;rw[l]at c;cases c;exact⟨y,o,GW.out ((sn _ _).mpr p) g⟩
theorem Qy(e:MB ns (ks.map λk=>(k.2,k.1)) A)(f:MB ns ks B)(l:Jf ns.length A B m)(sn:∀n y,y∈sk n↔(y,n)∈ks)(a:∀k∈ks,k.1∈ns/\k.2∈ns){h i:Nat}(o:∀j,h.testBit j=true↔UJ B m j){n:Str}(hi:ns[i]?=some n) :
  (if m.testBit i=true then J7 sk n=PM/\h.testBit i=false else if h.testBit i=true then J7 sk n=LK else J7 sk n=OQ):=by
 by_cases c:m.testBit i=true
 .rw[AO c];obtain⟨z,b,g⟩:=Nn e f l sn a c;rw[hi]at b;cases b;refine⟨NU.mpr g,ED.mpr λd=>?_⟩;obtain⟨z,b,p⟩:=Ut e f l sn a ((o i).mp d);rw[hi]at b;cases b;exact g.ne p
 .rw[AI c];have q:¬GW sk n true:=λg=>c (Ny e f l sn a g i hi);by_cases d:h.testBit i=true
  .rw[AO d];obtain⟨z,b,g⟩:=Ut e f l sn a ((o i).mp d);rw[hi]at b;cases b;exact NB.mpr g
  .rw[AI d];have r:¬GW sk n false:=λg=>d ((o i).mpr (Ny e f l sn a g i hi));unfold J7;rw[AI q,AI r]
end
structure JQ(X:A0 A3)(H:Hp)(o:A3)(ss:A0 Str)(ps:A0 IZ):Prop where
 ex:∃a b,H o=some (.lst [.ref a,.ref b])/\H a=some (.lst (ss.map V.str))/\H b=some (.lst (F8 ps))/\o∉X/\a∉X/\b∉X
 pin:∀q∈ps,G0 H q/\q.1∉X
 nm:i6 ss
 st:OG ss ps
def JQ.sm{X:A0 A3}{H H':Hp}{o:A3}{ss:A0 Str}{ps:A0 IZ}(h:JQ X H o ss ps)(s:Sm X H H'):JQ X H' o ss ps:=by
 obtain⟨⟨a,b,i,j,k,e,f,g⟩,c,l,m⟩:=h;exact⟨⟨a,b,s _ _ i e,s _ _ j f,s _ _ k g,e,f,g⟩,λq d=>⟨s _ _ (c q d).1 (c q d).2,(c q d).2⟩,l,m⟩
def JQ.same{X:A0 A3}{H H':Hp}{o:A3}{ss:A0 Str}{ps:A0 IZ}(h:JQ X H o ss ps)(s:Cv H H'):JQ X H' o ss ps:=h.sm s.sm
def Tq(m k:Nat):Builtin.bitAnd ((m:Int) / 2 ^((k:Int).toNat)) 1=if m.testBit k=true then 1 else 0:=by
 have a:(m:Int) / 2 ^((k:Int).toNat) =((m / 2^k:Nat):Int):=by rw[CJ,Int.natCast_ediv,Int.natCast_pow];rfl
 have b:Builtin.bitAnd ((m / 2^k:Nat):Int) 1 =((m / 2^k % 2:Nat):Int):=by
  rw[show(1:Int) =((1:Nat):Int)from rfl,zIa,Nat.and_one_is_mod]
 rw[a,b,Nat.testBit_eq_decide_div_mod_eq];rcases Nat.mod_two_eq_zero_or_one (m / 2^k)with h | h
 .rw[h];rfl
 .rw[h];rfl
def An(m h k:Nat):Str:=if m.testBit k=true then "in" else if h.testBit k=true then "out" else "open"
def zAs{m h k:Nat}(n:¬(m.testBit k=true/\h.testBit k=true)):QW [V.str "open",.str "in",.str "out"] (Builtin.bitAnd ((m:Int) / 2 ^((k:Int).toNat)) 1+2*Builtin.bitAnd ((h:Int) / 2 ^((k:Int).toNat)) 1)=some (.str (An m h k)):=by
 rw[Tq,Tq];unfold An;by_cases b:m.testBit k=true
 .rw[AO b,AO b,AI λa=>n ⟨b,a⟩];rfl
 .rw[AI b,AI b];by_cases a:h.testBit k=true
  .rw[AO a,AO a];rfl
  .rw[AI a,AI a];rfl
def y6(ns:A0 Str)(ps:A0 IZ):A0 (Str×Str):=ns.map λn=>(n,J7 (B2 ps) n)
theorem JD:IL ["_law_own","_law_view","_law_mask","_law_hit_here","_law_rows","_law_k","_law_name"] ["_law_own"] (B6 MA):=Kc
def Oa:Sp:=λe H Q _=>∃(X:A0 A3) (o:A3) (d:A0 Str) (ps:A0 IZ),e = [.ref o]/\JQ X H o d ps /\
 ∀l b (c:A0 IZ) a,Cv H a->H l=none->b.Perm d->b.Pairwise NZ->a l=some (.lst (F8 c))->(∀q∈c,G0 a q/\H q.1=none)->(c.map λq=>q.2)=y6 b ps->Q (.ref l) a
set_option maxHeartbeats 1000000 in
theorem U5(T:Tx K mg):IU P w K mg base JW 4 T.aB.f T.aB.fd ["_law_own"] Oa:=by
 refine T.aB.F.o1 JD λcdv A outer s H vs Q E Y h=>?_
 .obtain⟨X,o,ss,ps,rfl,hO,q⟩:=h;have hu:=Q6 Y;refine⟨_,(A9 (C8 (i:=1) JD.nd rfl (.inl rfl) (D9 T.a7 (Ia T) (Rm Y) (A6 (E8 (K_ K) (pv 0) B5 (λ_ _=>rfl)) (A6 (E8 (K_ K) (pv 0) B5 (λ_ _=>rfl)) A8))))
   (A9 (C8 (i:=2) JD.nd rfl (.inl rfl) (D9 T.a8 (Ho T) (Rm Y) (A6 (pv 1) A8)))
   (A9 (C8 (i:=3) JD.nd rfl (.inl rfl) (D9 T.be (Eu T) (Rm Y) (A6 (pv 1) (A6 (pv 2) A8))))
   (A9 (C8 (i:=4) JD.nd rfl (.inl rfl) (E9 A8))
   (A9 (W6 PassesOwn.never rfl (zHr K T.bf (A6 (E8 (K_ K) (pv 1) B5 (λ_ _=>rfl)) A8)) (RR K (n:=2) (E7 (I9 (i:=5) JD.nd rfl (.inl rfl)) (E7 (I9 (i:=6) JD.nd rfl (.inl rfl)) S5)))
   (B4 (J8 (Ph K VG VH VI U4 (pv 4) (A6 (J6 (A6 (pv 6) (A6 (E8 (K_ K) (E9 (A6 C2 (A6 C2 (A6 C2 A8)))) (G8 X3 (G8 Np (G8 Sv (pv 2) (pv 5)) B5) (G8 w4 B5 (G8 Np (G8 Sv (pv 3) (pv 5)) B5))) (λ_ _=>rfl)) A8))) A8)))))
   (B4 (C0 (pv 4)))))))),?_⟩
  obtain⟨⟨a,b,e1,e2,e3,n1,n2,n3⟩,pin,nm,st⟩:=id hO;refine B3 λN1 hN1=>?_;refine C3 rfl ⟨o,_,0,_,rfl,rfl,IR.of e1,rfl,C3 rfl ⟨o,_,1,_,rfl,rfl,IR.of e1,rfl,?_⟩⟩;refine⟨a,b,ss,ps,rfl,e2,nm,e3,λq p=>(pin q p).1,st,λv e A1 B1 H1 hv s1 pn srt hV=>?_⟩;have J:=hV o _ e1;have ln:e.length<=100:=by rw[pn.length_eq];exact nm.2.2
  refine hN1 _ _ (B3 λN2 hN2=>?_);refine C3 rfl ⟨o,v,e,_,A1,B1,rfl,J,ln,λm hm=>?_⟩;refine hN2 _ _ (B3 λN3 hN3=>?_);refine C3 rfl (C3 rfl ⟨o,v,m,e,_,A1,B1,rfl,J,ln,λh hh=>?_⟩);refine hN3 _ _ (B3 λN4 hN4=>?_);refine⟨BZ _,λr j=>?_⟩;have Z:=Cv.new (o:=.lst []) j;have f2:(II H1 r (.lst [])) r=some (.lst []):=A7;generalize II H1 r (.lst [])=H2 at Z f2⊢;obtain⟨I,s2,t2,g1,g2,_⟩:=J.ex;refine hN4 _ _ (B3 λN5 hN5=>?_);refine C3 rfl ⟨v,_,0,_,rfl,rfl,IR.of (Z _ _ g1),rfl,I,e.map V.str,rfl,?_⟩;have nr:r≠I:=(B0 g2 j).symm;have C:=λ(i:Nat) (n:Str) (L:e[i]?=some n)=>Qy J.mA J.mB hm (sk:=B2 ps) (λn y=>I_) (λk M=>by
   obtain⟨q,p,rfl⟩:=BJ.mp M;exact⟨pn.mem_iff.mpr (st.nm q p).1,pn.mem_iff.mpr (st.nm q p).2⟩) hh L
  refine No (.inl (IR.of g2)) (Z.at I) λsq M=>Xz (n:=e.length) (λi σ l=>∃N O,σ = [some (.ref o),some (.ref v),some (.int (m:Int)),some (.int (h:Int)),some (.ref r),N,O]/\Cv H1 l/\∃D:A0 IZ,l r=some (.lst (F8 D))/\(∀q∈D,G0 l q/\H q.1=none)/\(D.map λq=>q.2)=y6 (e.take i) ps) ⟨_,_,rfl,Z,[],f2,λq p=>absurd p A_,rfl⟩ ?_ ?_ ?_ ?_
  .rintro i σ l L ⟨N,O,rfl,B,_⟩;exact⟨_,_,M _ (B.at I),by rw[AJ,AF L];rfl⟩
  .rintro σ l ⟨N,O,rfl,B,_⟩;exact⟨_,M _ (B.at I),by rw[AB]⟩
  .rintro i σ l x H4 L ⟨N,O,rfl,B,D,L3,P3,R⟩ ⟨t,x,rfl,ht,rfl,hx⟩;have hx:=hx _ (M _ (B.at I));have G:e[i]?=some e[i]:=AF L;rw[AJ,G]at hx;cases hx;refine⟨t,C3 rfl ⟨JG.of A7,rfl,_,C3 rfl (C4 rfl rfl ?_)⟩⟩;have u4:=Cv.new (o:=.tup [.int (i:Int),.str e[i]]) ht;generalize II l t (.tup [.int (i:Int),.str e[i]])=H4 at u4⊢;have s4:=B.trans u4;have L4:=u4 _ _ L3;have lr:=congrArg List.length R;unfold y6 at lr;rw[AB,AB,AX]at lr;refine C3 rfl ⟨.inl ⟨rfl,_,IR.of L4⟩,?_⟩;have i0:(0:Int)<=(i:Int):=Int.natCast_nonneg i;have g:=C i _ G;have nq:¬(m.testBit i=true/\h.testBit i=true):=λz=>by
    rw[AO z.1]at g;rw[z.2]at g;cases g.2
   have eg:An m h i=J7 (B2 ps) e[i]:=by
    unfold An;by_cases c:m.testBit i=true
    .rw[AO c]at g⊢;exact g.1.symm
    .rw[AI c]at g⊢;by_cases d:h.testBit i=true
     .rw[AO d]at g⊢;exact g.symm
     .rw[AI d]at g⊢;exact g.symm
   refine C3 rfl ⟨by show 3<=sizeLine;decide,λu hu=>?_⟩;have u5:=Cv.new (o:=.lst [.str "open",.str "in",.str "out"]) hu;have e6:(II H4 u (.lst [.str "open",.str "in",.str "out"])) u=some (.lst [.str "open",.str "in",.str "out"]):=A7;generalize II H4 u (.lst [.str "open",.str "in",.str "out"])=H5 at u5 e6⊢;refine C3 rfl (C3 rfl (C4 rfl rfl ⟨i0,C4 rfl rfl (C3 rfl (C3 rfl (C4 rfl rfl ⟨i0,C4 rfl rfl (C4 rfl rfl ⟨.inl ⟨by decide,by decide⟩,C4 rfl rfl ⟨u,_,C4 rfl rfl ⟨IR.of e6,zAs nq,?_⟩⟩⟩)⟩)))⟩));refine⟨by show 2<=sizeLine;decide,λS U=>?_⟩;have u6:=Cv.new (o:=.tup [.str e[i],.str (An m h i)]) U;have f6:(II H5 S (.tup [.str e[i],.str (An m h i)])) S=some (.tup [.str e[i],.str (An m h i)]):=A7;generalize II H5 S (.tup [.str e[i],.str (An m h i)])=H6 at u6 f6⊢;have s6:=(s4.trans u5).trans u6;have W:=(u4.trans u5).trans u6;have L6:=W _ _ L3;have tr:S≠r:=J4 f6 L6 (by intro z;cases z);refine⟨r,_,_,rfl,rfl,L6,by unfold F8;rw[AB,sizeLine_eq];lia,_,_,rfl,s6.upd j,D ++ [(S,e[i],An m h i)],?_,λq p=>?_,?_⟩
   .rw[A7];unfold F8;rw[AH];rfl
   .rcases AN.mp p with c | c
    .have:=W _ _ (P3 q c).1;exact⟨(B7 (J4 this L6 (by intro z;cases z))).trans this,(P3 q c).2⟩
    .rw[AE.mp c];exact⟨(B7 tr).trans f6,(s1.trans (s4.trans u5)).free U⟩
   .rw[E4 G,AH,R,eg];unfold y6;rw[AH];rfl
  .rintro σ l ⟨N,O,rfl,B,D,L3,P3,R⟩;rw[BP]at R;exact hN5 _ _ (C3 rfl (q r e D l (s1.trans B) (s1.free j) pn srt L3 P3 R))
def IW.ne{H:Hp}{p n:A3}{c:Int}{ss:A0 Str}(h:IW H p c)(d:H n=some (.lst (ss.map V.str))):n≠p:=by
 rintro rfl;obtain⟨a,b,e,_⟩:=h;rw[d]at e;cases ss with
 | nil=>cases e
 | cons x r=>cases e
def IW.neP{H:Hp}{p n:A3}{c:Int}{ss:A0 IZ}(h:IW H p c)(d:H n=some (.lst (F8 ss))):n≠p:=by
 rintro rfl;obtain⟨a,b,e,_⟩:=h;rw[d]at e;cases ss with
 | nil=>cases e
 | cons x r=>cases e
def zEd(d:Nat)(h:d<8):∃n:Nat,n<4/\QW [V.int 0,.int 0,.int 1,.int 1,.int 1,.int 2,.int 2,.int 3] (d:Int)=some (.int (n:Int)):=by
 suffices ∃n:Nat,n<4/\[V.int 0,.int 0,.int 1,.int 1,.int 1,.int 2,.int 2,.int 3][d]?=some (.int (n:Int)) by
  obtain⟨n,a,e⟩:=this;exact⟨n,a,Q9 e⟩
 match d,h with
 | 0,_=>exact⟨0,by lia,rfl⟩
 | 1,_=>exact⟨0,by lia,rfl⟩
 | 2,_=>exact⟨1,by lia,rfl⟩
 | 3,_=>exact⟨1,by lia,rfl⟩
 | 4,_=>exact⟨1,by lia,rfl⟩
 | 5,_=>exact⟨2,by lia,rfl⟩
 | 6,_=>exact⟨2,by lia,rfl⟩
 | 7,_=>exact⟨3,by lia,rfl⟩
def Yf{a b c d:Nat}(e:a<9)(f:b<7)(g:c<4)(i:d<4)(j:Nat)(h:j<4):∃n:Nat,n<=28/\QW [V.int (20 +(a:Int)),.int (8 +(b:Int)),.int (4 +(c:Int)),.int (d:Int)] (j:Int)=some (.int (n:Int)):=by
 match j,h with
 | 0,_=>exact⟨20+a,by lia,Q9 (j:=0) (by rw[Int.natCast_add];rfl)⟩
 | 1,_=>exact⟨8+b,by lia,Q9 (j:=1) (by rw[Int.natCast_add];rfl)⟩
 | 2,_=>exact⟨4+c,by lia,Q9 (j:=2) (by rw[Int.natCast_add];rfl)⟩
 | 3,_=>exact⟨d,by lia,Q9 (j:=3) rfl⟩
theorem JE:IL ["_law_left_here","_law_way","_law_size","_law_names","_law_strikes","_law_turn","_law_pair"] ["_law_left_here"] (B6 MC):=Kc
def Vh:Sp:=λd H Q _=>∃(p:A3) (c:Int),d = [.ref p]/\IW H p c/\c<=1000 /\
 ∀o b ps a,H o=none->Sm [p] H a->JQ [p] a o b ps->b.length<=28->ps.length<=56->Q (.ref o) a
set_option maxHeartbeats 1000000 in
theorem Cg(T:Tx K mg):IU P w K mg base JW 4 T.aT.f T.aT.fd ["_law_left_here"] Vh:=by
 refine T.aT.F.o1 JE λcdv A outer s H vs Q E l h=>?_
 .obtain⟨p,c,rfl,hL,c1,q⟩:=h;have hu:=Q6 l;refine⟨_,(A9 (C8 (i:=1) JE.nd rfl (.inl rfl) (D9 T.ak (E3 T) (Rm l) (A6 (pv 0) (A6 B5 A8))))
   (A9 (C8 (i:=2) JE.nd rfl (.inl rfl) (E9 (A6 (G8 X3 B5 (D9 T.ak (E3 T) (Rm l) (A6 (pv 0) (A6 B5 A8)))) (A6 (G8 X3 B5 (D9 T.ak (E3 T) (Rm l) (A6 (pv 0) (A6 B5 A8)))) (A6 (G8 X3 B5 (D9 T.ak (E3 T) (Rm l) (A6 (pv 0) (A6 B5 A8)))) (A6 (D9 T.ak (E3 T) (Rm l) (A6 (pv 0) (A6 B5 A8))) A8))))))
   (@A9 _ _ _ _ _ (@C8 _ _ 3 _ _ _ _ JE.nd rfl (.inl rfl) (D9 T.aP (Bg T) (Rm l) (@A6 _ _ _ _ _ (pv 0) (@A6 _ _ _ _ _ (@E8 _ _ _ _ _ _ _ (K_ K) (pv 2) (@E8 _ _ _ _ _ _ _ (K_ K) (@E9 _ _ _ _ (@A6 _ _ _ _ _ B5 (@A6 _ _ _ _ _ B5 (@A6 _ _ _ _ _ B5 (@A6 _ _ _ _ _ B5 (@A6 _ _ _ _ _ B5 (@A6 _ _ _ _ _ B5 (@A6 _ _ _ _ _ B5 (@A6 _ _ _ _ _ B5 A8 (by rfl)) (by rfl)) (by rfl)) (by rfl)) (by rfl)) (by rfl)) (by rfl)) (by rfl))) (pv 1) (λ_ _=>rfl)) (λ_ _=>rfl)) A8 (by rfl)) (by rfl))) (by rfl) (by first | exact .inl rfl | exact .inr rfl | assumption))
   (A9 (C8 (i:=4) JE.nd rfl (.inl rfl) (E9 A8))
   (A9 (W6 PassesOwn.never rfl (T2 T.aU (A6 (D9 T.ak (E3 T) (Rm l) (A6 (pv 0) (A6 (G8 X3 (G8 w4 B5 (F9 (T0 K) T.ax Q5 (A6 (pv 3) A8))) B5) A8))) A8)) (I9 (i:=5) JE.nd rfl (.inl rfl))
   (A9 (C8 (i:=6) JE.nd rfl (.inl rfl) (J6 (A6 (E8 (K_ K) (pv 3) (D9 T.ak (E3 T) (Rm l) (A6 (pv 0) (A6 (F9 (T0 K) T.ax Q5 (A6 (pv 3) A8)) A8))) (λ_ _=>rfl)) (A6 (E8 (K_ K) (pv 3) (D9 T.ak (E3 T) (Rm l) (A6 (pv 0) (A6 (F9 (T0 K) T.ax Q5 (A6 (pv 3) A8)) A8))) (λ_ _=>rfl)) A8))))
   (B4 (K0 (B8 (Md K l.units) (pv 6) (pv 4) rfl) (B4 (J8 (Ph K VG VH VI U4 (pv 4) (A6 (pv 6) A8)))) D0))))
   (B4 (C0 (E9 (A6 (pv 3) (A6 (pv 4) A8)))))))))),?_⟩
  refine B3 λN1 hN1=>?_;obtain⟨a0,b0,e0,c0⟩:=id hL;refine C3 rfl (Y9 (a:=p) (b:=c) rfl hL (by lia) (by decide) (by decide) λO R hw k1 L1=>?_);refine hN1 _ _ (B3 λN2 hN2=>?_);refine C3 rfl (Y9 (a:=p) rfl L1 (by lia) (by decide) (by decide) λS H2 B k2 L2=>C4 rfl rfl ?_);refine C3 rfl (Y9 (a:=p) rfl L2 (by lia) (by decide) (by decide) λU H3 h2 k3 L3=>C4 rfl rfl ?_);refine C3 rfl (Y9 (a:=p) rfl L3 (by lia) (by decide) (by decide) λW H4 h3 k4 L4=>C4 rfl rfl ?_);refine C3 rfl (Y9 (a:=p) rfl L4 (by lia) (by decide) (by decide) λX H5 h4 k5 L5=>?_);have k15:=(((k1.trans k2).trans k3).trans k4).trans k5;refine⟨by show 4<=sizeLine;decide,λz hz=>?_⟩;have u6:=Cv.new (o:=.lst [V.int (20 +(S:Int)),.int (8 +(U:Int)),.int (4 +(W:Int)),.int (X:Int)]) hz;have Y:(II H5 z (.lst [V.int (20 +(S:Int)),.int (8 +(U:Int)),.int (4 +(W:Int)),.int (X:Int)])) z=some (.lst [V.int (20 +(S:Int)),.int (8 +(U:Int)),.int (4 +(W:Int)),.int (X:Int)]):=A7;have L6:=L5.same u6;have k6:=k15.trans u6.sm;refine hN2 _ _ ?_;generalize II H5 z (.lst [V.int (20 +(S:Int)),.int (8 +(U:Int)),.int (4 +(W:Int)),.int (X:Int)])=H6 at Y L6 k6⊢;refine B3 λN3 hN3=>?_;refine C3 rfl (C3 rfl ⟨by show 8<=sizeLine;decide,λz2 hz2=>?_⟩);obtain⟨j,hj,ej⟩:=zEd O (by lia);obtain⟨n,hn,en⟩:=Yf (by lia:S<9) (by lia:U<7) (by lia:W<4) (by lia:X<4) j hj;have u7:=Cv.new (o:=.lst [V.int 0,.int 0,.int 1,.int 1,.int 1,.int 2,.int 2,.int 3]) hz2;have f7:(II H6 z2 (.lst [V.int 0,.int 0,.int 1,.int 1,.int 1,.int 2,.int 2,.int 3])) z2=some (.lst [V.int 0,.int 0,.int 1,.int 1,.int 1,.int 2,.int 2,.int 3]):=A7;have Y:=u7 _ _ Y;have L7:=L6.same u7;have k7:=k6.trans u7.sm;generalize II H6 z2 (.lst [V.int 0,.int 0,.int 1,.int 1,.int 1,.int 2,.int 2,.int 3])=H7 at Y f7 L7 k7⊢;refine C3 rfl ⟨z2,_,_,_,rfl,rfl,IR.of f7,ej,z,_,_,_,rfl,rfl,IR.of Y,en,?_⟩;refine⟨p,_,n,rfl,L7,by lia,by lia,λa d H8 ha k8 e8 len8 Z L8=>?_⟩;have k08:=k7.trans k8;have k7:Sm [p] H H7:=k7;refine hN3 _ _ (B3 λN4 hN4=>?_);refine⟨BZ _,λf hf=>?_⟩;have u9:=Cv.new (o:=.lst []) hf;have f9:(II H8 f (.lst [])) f=some (.lst []):=A7;have L9:=L8.same u9;have e9:=u9 _ _ e8;have k9:=k08.trans u9.sm;have g:p≠f:=B0 L8.get hf;generalize II H8 f (.lst [])=H9 at f9 L9 e9 k9⊢;refine hN4 _ _ (B3 λN5 hN5=>?_);refine C3 rfl (C3 rfl ⟨a,_,rfl,.inl (IR.of e9),C4 rfl rfl ⟨.inl ⟨by decide,by decide⟩,C4 rfl rfl ?_⟩⟩);rw[AB];refine Y9 (a:=p) rfl L9 (by lia) (by lia) (by lia) λD H10 ht10 G L10=>?_;refine⟨(D:Int),rfl,by lia,by lia,?_⟩;rw[CJ];have k010:=k9.trans G;have ap:a≠p:=L9.ne e9;have e10:=MY G e9 ap;have f10:=MY G f9 g.symm;have nm:∀x∈d,PySem.PyData.strOk x=true:=λx hx=>P9 (Z.1 x hx);refine X5 (λi σ R=>∃v5 v6 ps,σ = [some (.ref p),some (.int (O:Int)),some (.ref z),some (.ref a),some (.ref f),v5,v6]/\Sm [p] H R/\IW R p (c+1+1+1+1+1+n+1+2*i)/\R a=some (.lst (d.map V.str))/\FL R f ps d/\ps.length<=i) ?_ ?_ ?_
  .exact⟨_,_,[],rfl,k010,by simpa using L10,e10,⟨f10,λq M=>absurd M A_,λq M=>absurd M A_,DX⟩,VD _⟩
  .rintro i σ G1 hi ⟨v5,v6,ps,rfl,g1,M1,ea,I,lp⟩ D1 hD1 _;rw[Int.zero_add];have pos:0<d.length:=by lia
   refine C3 rfl (C3 rfl (C3 rfl ⟨a,_,rfl,.inl (IR.of ea),?_⟩));rw[AB];refine Y9 (a:=p) rfl M1 (by lia) (by lia) (by lia) λm G2 hx1 g2 M2=>?_;have J:=MY g2 ea ap;have F2:=I.sm M1 g.symm g2;have hn1:d[m]?=some d[m]:=AF (by lia);refine⟨a,_,_,_,rfl,rfl,IR.of J,Q9 (j:=m) (by rw[AJ,hn1];rfl),?_⟩;refine C3 rfl (C3 rfl (C3 rfl ⟨a,_,rfl,.inl (IR.of J),?_⟩));rw[AB];refine Y9 (a:=p) rfl M2 (by lia) (by lia) (by lia) λu G3 hx2 g3 M3=>?_;have ea3:=MY g3 J ap;have F3:=F2.sm M2 g.symm g3;have hn2:d[u]?=some d[u]:=AF (by lia);refine⟨a,_,_,_,rfl,rfl,IR.of ea3,Q9 (j:=u) (by rw[AJ,hn2];rfl),?_⟩;refine⟨by show 2<=sizeLine;decide,λt ht=>?_⟩;have hm1:d[m]∈d:=DL _;have hm2:d[u]∈d:=DL _;have u4:=Cv.new (o:=.tup [.str d[m],.str d[u]]) ht;have f4:(II G3 t (.tup [.str d[m],.str d[u]])) t=some (.tup [.str d[m],.str d[u]]):=A7;have v:=F3.new (o:=.tup [.str d[m],.str d[u]]) ht;have M4:=M3.same u4;have C:=u4 _ _ ea3;have L:=((g1.trans g2).trans g3).trans u4.sm;generalize II G3 t (.tup [.str d[m],.str d[u]])=G4 at u4 f4 v M4 C L⊢;refine C3 rfl (C3 rfl (Ev (k:=(d[m],d[u])) f4 v.at_ v.pin ⟨nm _ hm1,nm _ hm2⟩ (λq M=>⟨nm _ (v.nm q M).1,nm _ (v.nm q M).2⟩) ⟨_,rfl,?_⟩));have eM:c+1+1+1+1+1+n+1+2 *(i:Int)+1+1=c+1+1+1+1+1+n+1+2 *((i+1:Nat):Int):=by lia
   rw[eM]at M4;refine w8 (λh3=>?_) (λh3=>hD1 _ _ ⟨_,_,ps,rfl,L,M4,C,v,by lia⟩);have h3':(d[m],d[u])∉ps.map λq=>q.2:=by simpa using h3
   refine C3 rfl ⟨.inl ⟨rfl,_,IR.of v.at_⟩,C3 rfl ⟨f,_,_,rfl,rfl,v.at_,by unfold F8;rw[AB,sizeLine_eq];lia,?_⟩⟩;have af:a≠f:=λe=>by
    have B:=v.at_;rw[<-e,C]at B;cases d with
    | nil=>exact absurd pos (by simp)
    | cons y r =>
     injection B with B;injection B with B;unfold F8 at B;cases ps with
     | nil=>cases B
     | cons y r=>cases B
   exact hD1 _ _ ⟨_,_,_,rfl,L.updN (by
    cases e:H f with
    | none=>rfl
    | some o=>exact absurd (k08 _ _ e (by simpa using g.symm)) (by rw[hf];intro z;cases z)),M4.upd g,(B7 af).trans C,v.app f4 hm1 hm2 h3',by rw[AS];exact FE lp⟩
  .rintro σ G1 ⟨v5,v6,ps,rfl,g1,M1,ea,I,lp⟩;refine hN5 _ _ (C3 rfl (C3 rfl ⟨by show 2<=sizeLine;decide,λo N=>?_⟩));have u2:=Cv.new (o:=.lst [.ref a,.ref f]) N;have ho0:H o=none:=by
    cases e:H o with
    | none=>rfl
    | some x =>
     have hop:o≠p:=λz=>by
      rw[z,M1.get]at N;cases N
     exact absurd (g1 _ _ e (by simpa using hop)) (by rw[N];intro z;cases z)
   have nop:o≠p:=λz=>by rw[z,M1.get]at N;cases N
   refine q o d ps _ ho0 (g1.trans u2.sm) ⟨⟨a,f,A7,u2 _ _ ea,u2 _ _ I.at_,by simpa using nop,by simpa using ap,by simpa using g.symm⟩,λz hz=>⟨u2 _ _ (I.pin z hz),?_⟩,Z,⟨I.nm,I.nd,by lia⟩⟩ (by lia) (by lia);obtain⟨xa,xb,em,_⟩:=id M1;have:=J4 (I.pin z hz) em (by intro z;cases z);simpa using this
def JQ.smp{X:A0 A3}{H H':Hp}{o p:A3}{ss:A0 Str}{ps:A0 IZ}(h:JQ X H o ss ps)(a:p∈X)(s:Sm [p] H H'):JQ X H' o ss ps:=h.sm λb x e c=>s b x e λz=>c (by rw[AE.mp z];exact a)
def Th:∀a:A0 PyData,PyData.eqv (.list a) (.list [])=a.isEmpty
 | []=>by rw[PyData.eqv,PyData.eqvAll];rfl
 | _::_=>by rw[PyData.eqv,PyData.eqvAll];rfl
def Nz:∀{ss:A0 Str},(∀x∈ss,PySem.PyData.strOk x=true)->PyData.canLayAll0 (ss.map PyData.str)=true
 | [],_=>rfl
 | x::r,h=>by
  rw[BM,PyData.canLayAll0,PyData.canLay0,h x (BA ..),Nz λy a=>h y (AM _ a)];rfl
def Nv{K:VA}{H:Hp}:∀ss:A0 Str,QE K H (ss.map PyData.str) (ss.map V.str)
 | []=>by rw[F_,F_,QE]
 | x::r=>by
  rw[BM,BM,QE];exact⟨_,_,rfl,by rw[Rp],Nv r⟩
def Ey:∀ss:A0 Str,PyData.depthAll (ss.map PyData.str)<=1
 | []=>by rw[F_,PyData.depthAll];lia
 | x::r=>by
  rw[BM,PyData.depthAll,PyData.depth];have:=Ey r;lia
def Mo{K:VA}{H:Hp}{a z:A3}{ss:A0 Str}{Q:VK}(b:H a=some (.lst (ss.map V.str)))(c:∀x∈ss,PySem.PyData.strOk x=true)(hz:H z=some (.lst []))(q:Q (.bl ss.isEmpty) H):TX K (.ref a) (.ref z) H Q :=
 ⟨.list (ss.map PyData.str),.list [],by rw[Rp];exact⟨a,_,rfl,IR.of b,Nv ss⟩,by rw[Rp];exact⟨z,_,rfl,IR.of hz,by rw[QE]⟩,⟨by rw[PyData.canLay0];exact Nz c,by rw[PyData.depth];have:=Ey ss;lia⟩,⟨rfl,by simp[PyData.depth,PyData.depthAll]⟩,by
  rw[Th];have:(ss.map PyData.str).isEmpty=ss.isEmpty:=by cases ss<;>rfl
  rw[this];exact q⟩
def zDa(d:Nat)(h:d<4):∃y:Str,PySem.PyData.strOk y=true/\QW [V.str "nobody",.str "",.str "A",.str "zq"] (d:Int)=some (.str y):=by
 match d,h with
 | 0,_=>exact⟨"nobody",by decide +kernel,rfl⟩
 | 1,_=>exact⟨"",by decide +kernel,rfl⟩
 | 2,_=>exact⟨"A",by decide +kernel,rfl⟩
 | 3,_=>exact⟨"zq",by decide +kernel,rfl⟩
theorem Gw:IL ["_law_left_here","_law_own"] ["_law_left_here","_law_own"] (B6 NX):=Kc
def Ct:Sp:=λd H Q _=>∃(X:A0 A3) (p o:A3) (c:Int) (e:A0 Str) (ps:A0 IZ),d = [.ref p,.ref o]/\IW H p c/\c<=1000/\p∈X/\JQ X H o e ps /\
 ∀(y:Str) (b:Int) a,PySem.PyData.strOk y=true->b<=c+2->Sm [p] H a->IW a p b->Q (.str y) a
theorem S4(T:Tx K mg):IU P w K mg base JW 3 T.aA.f T.aA.fd ["_law_left_here","_law_own"] Ct:=by
 refine T.aA.F.o1 Gw λcdv A G s H vs Q E m h=>?_
 .obtain⟨X,p,o,c,I,ps,rfl,hL,c1,J,W,q⟩:=h;have hu:=Q6 m;refine⟨_,(A9 (K0 (PW.pt (c9 (B8 (On K m.units) (E8 (K_ K) (pv 1) B5 (λ_ _=>rfl)) (E9 A8) (D8 _)) (U2 (B8 X1 (D9 T.ak (E3 T) (Rm m) (A6 (pv 0) (A6 B5 A8))) B5 (D8 _))))) (B4 (C0 (E8 (K_ K) (E9 (A6 C2 (A6 C2 (A6 C2 (A6 C2 A8))))) (D9 T.ak (E3 T) (Rm m) (A6 (pv 0) (A6 B5 A8))) (λ_ _=>rfl)))) D0)
   (B4 (C0 (E8 (K_ K) (F9 (Ar K) T.ay K8 (A6 (E8 (K_ K) (pv 1) B5 (λ_ _=>rfl)) A8)) (D9 T.ak (E3 T) (Rm m) (A6 (pv 0) (A6 (F9 (T0 K) T.ax Q5 (A6 (E8 (K_ K) (pv 1) B5 (λ_ _=>rfl)) A8)) A8))) (λ_ _=>rfl))))),?_⟩
  obtain⟨⟨a,b,Y,Z,e3,n1,n2,n3⟩,pin,nm,st⟩:=id W;have ok:∀x∈I,PySem.PyData.strOk x=true:=λx hx=>P9 (nm.1 x hx);have ap:a≠p:=λz=>n2 (z▸J);refine B3 λN1 M=>?_;have n:∀(N:Int) (g:Hp),N<=c+1->Sm [p] H g->IW g p N->PN (UC K) (T_ (U9 (tC (V.str "nobody")) (U9 (tC (V.str "")) (U9 (tC (V.str "A")) (U9 (tC (V.str "zq")) Fh))))) (Hr Rv [] E0 (U9 (X0 0) (U9 (tC (V.int 4)) Fh))) [some (.ref p),some (.ref o)] g Q:=λN g hc k L=>by
   refine⟨by show 4<=sizeLine;decide,λz D=>?_⟩;have u:=Cv.new (o:=.lst [V.str "nobody",.str "",.str "A",.str "zq"]) D;have L2:=L.same u;have pz:z≠p:=(B0 L.get D).symm;refine C3 rfl (Y9 (a:=p) rfl L2 (by lia) (by decide) (by decide) λd H3 hd k3 r=>?_);obtain⟨y,oy,ey⟩:=zDa d (by lia);exact⟨z,_,_,_,rfl,rfl,IR.of (MY k3 A7 pz),ey,q y _ H3 oy (by lia) ((k.trans u.sm).trans k3) r⟩
  refine C3 rfl ⟨o,_,0,_,rfl,rfl,IR.of Y,rfl,⟨BZ _,λz D=>?_⟩⟩;have t:=Cv.new (o:=.lst []) D;have f1:(II H z (.lst [])) z=some (.lst []):=A7;have O:=hL.same t;generalize II H z (.lst [])=g at t f1 O⊢;refine Mo (t _ _ Z) ok f1 ⟨_,rfl,?_⟩;refine w8 (λ_=>Z7 (n c g (by lia) t.sm O)) λne=>?_;refine C3 rfl (Y9 (a:=p) rfl O (by lia) (by decide) (by decide) λd R hd k2 L2=>⟨rfl,_,rfl,?_⟩);have e:=t.sm.trans k2;refine w8 (λ_=>n (c+1) R (by lia) e L2) λ_=>M _ _ ?_;have O2:=W.smp J e;have v:=MY e Y (λz=>n1 (z▸J));have B:=MY e Z ap;refine C3 rfl ⟨o,_,0,_,rfl,rfl,IR.of v,rfl,a,I,rfl,IR.of B,λl i hl pn srt=>?_⟩;have C:=Cv.new (o:=.lst (i.map V.str)) hl;have S:(II R l (.lst (i.map V.str))) l=some (.lst (i.map V.str)):=A7;have r:=L2.same C;generalize II R l (.lst (i.map V.str))=H3 at C S r⊢;refine C3 rfl (C3 rfl ⟨o,_,0,_,rfl,rfl,IR.of (C _ _ v),rfl,a,_,rfl,.inl (IR.of (C _ _ B)),?_⟩);rw[AB];have pos:0<I.length:=List.length_pos_iff.mpr λz=>ne (by rw[z];rfl);have le:=nm.2.2;refine Y9 (a:=p) rfl r (by lia) (by lia) (by lia) λU H4 hd4 k4 L4=>?_;have ll:=pn.length_eq;have hi:i[U]?=some i[U]:=AF (by lia);exact⟨l,_,_,_,rfl,rfl,IR.of (MY k4 S (r.ne S)),Q9 (j:=U) (by rw[AJ,hi];rfl),q _ _ H4 (ok _ (pn.mem_iff.mp (DL _))) (by lia) ((e.trans C.sm).trans k4) L4⟩
inductive JJ | pn (y:Str) | tn (y:Str) | ps (a b:Str) | ts (a b:Str)
def JJ.strs:JJ->A0 Str
 | .pn y=>["put_name",y]
 | .tn y=>["take_name",y]
 | .ps a b=>["put_strike",a,b]
 | .ts a b=>["take_strike",a,b]
def JJ.fit(ss:A0 Str)(ps:A0 IZ):JJ->Prop
 | .pn y=>ss.length+1<=30/\y.length<=100
 | .ps _ _=>ps.length+1<=140
 | _=>True
structure M_(H:Hp)(t:A3)(d:JJ):Prop where
 at_:H t=some (.tup (d.strs.map V.str))
 ok:∀x∈d.strs,PySem.PyData.strOk x=true
def M_.same{H H':Hp}{t:A3}{d:JJ}(h:M_ H t d)(s:Cv H H'):M_ H' t d:=⟨s _ _ h.at_,h.ok⟩
def zHh:PySem.PyData.strOk "put_name" = true/\PySem.PyData.strOk "take_name" = true/\PySem.PyData.strOk "put_strike" = true/\PySem.PyData.strOk "take_strike" = true:=⟨by decide +kernel,by decide +kernel,by decide +kernel,by decide +kernel⟩
theorem zGg(d:Nat)(h:d<6):∃y:Str,PySem.PyData.strOk y=true/\y.length<=100/\QW [V.str "",.str "A",.str "abcdefghi",.str "a b",.str "a1",.str "ab\n"] (d:Int)=some (.str y):=by
 match d,h with
 | 0,_=>exact⟨"",by decide +kernel,by decide +kernel,rfl⟩
 | 1,_=>exact⟨"A",by decide +kernel,by decide +kernel,rfl⟩
 | 2,_=>exact⟨"abcdefghi",by decide +kernel,by decide +kernel,rfl⟩
 | 3,_=>exact⟨"a b",by decide +kernel,by decide +kernel,rfl⟩
 | 4,_=>exact⟨"a1",by decide +kernel,by decide +kernel,rfl⟩
 | 5,_=>exact⟨"ab\n",by decide +kernel,by decide +kernel,rfl⟩
def RD:A0 Str:=["b","ab","x","know","c","m","ba","aba","xa","ca","ma","bbb","pq","abcdefgh","p","pp"]
theorem My:∀x∈RD,PySem.PyData.strOk x=true/\x.length<=100:=by decide +kernel
theorem Dn:∀ps:A0 IZ,PyData.depthAll (ps.map λq=>pd q.2)<=2
 | []=>by rw[F_,PyData.depthAll];lia
 | x::r=>by
  rw[BM,PyData.depthAll];have:=Dn r;have:(pd x.2).depth<=2:=by simp[pd,PyData.depth,PyData.depthAll]
  lia
theorem zAx{K:VA}{H:Hp}{b z:A3}{ps:A0 IZ}{Q:VK}(c:H b=some (.lst (F8 ps)))(a:∀q∈ps,G0 H q)(d:∀q∈ps,PySem.PyData.strOk q.2.1=true/\PySem.PyData.strOk q.2.2=true)(hz:H z=some (.lst []))(q:Q (.bl (!ps.isEmpty)) H):UB K (.ref b) (.ref z) H Q :=
 ⟨_,.list [],Ae c a,by rw[Rp];exact⟨z,_,rfl,IR.of hz,by rw[QE]⟩,⟨by rw[PyData.canLay0];exact Dg d,by rw[PyData.depth];have:=Dn ps;lia⟩,⟨rfl,by simp[PyData.depth,PyData.depthAll]⟩,by
  rw[Th];have:(ps.map λq=>pd q.2).isEmpty=ps.isEmpty:=by cases ps<;>rfl
  rw[this];exact q⟩
theorem Xh{H:Hp}{p o a b:A3}{d:Int}{v3:A5 V}{ss:A0 Str}{g:Bool->Hp->Prop}(l:H o=some (.lst [.ref a,.ref b]))(m:H a=some (.lst (ss.map V.str)))(q:∀x∈ss,PySem.PyData.strOk x=true)
  (h:∀c H',Cv H H'->(c=true->ss.length+1<=30)->g c H') :
  tOr (zIr (Aq (PN (RU λi j=>V.bl (decide (i<j))) (X0 2) (tC (V.int 2)))) (Aq (PN (RU λi j=>V.bl (decide (i<j))) (S_ (λxs H Q=>∃p k,xs = [V.ref p]/\(IR K H p k\/JG K H p k)/\Q (V.int (k.length:Int)) H) (U9 (PN (UC K) (X0 1) (tC (V.int 0))) Fh)) (tC (V.int 30)))))
   (Aq (PN (TX K) (PN (UC K) (X0 1) (tC (V.int 0))) (T_ Fh))) [some (.ref p),some (.ref o),some (.int d),v3] H g:=by
 have f:Aq (PN (TX K) (PN (UC K) (X0 1) (tC (V.int 0))) (T_ Fh)) [some (.ref p),some (.ref o),some (.int d),v3] H g:=by
  refine C3 rfl ⟨o,_,0,_,rfl,rfl,IR.of l,rfl,⟨BZ _,λz s=>?_⟩⟩;have n:=Cv.new (o:=.lst []) s;refine Mo (n _ _ m) q A7 ⟨_,rfl,h _ _ n λc=>?_⟩;cases ss with
  | nil=>show 0+1<=30;lia
  | cons x r=>cases c
 refine C3 rfl (C4 rfl rfl ⟨_,rfl,w8 (λ_=>?_) λ_=>O9 f⟩);refine C3 rfl ⟨o,_,0,_,rfl,rfl,IR.of l,rfl,a,_,rfl,.inl (IR.of m),C4 rfl rfl ⟨_,rfl,w8 (λc=>h _ _ (λb o e=>e) λ_=>?_) λ_=>f⟩⟩;rw[AB]at c;have:=BL c;lia
theorem MN:IL ["_law_left_here","_law_own","_law_way","_law_some"] ["_law_left_here","_law_own"] (B6 O_):=Kc
def Zz:Sp:=λf H Q _=>∃(X:A0 A3) (p o:A3) (c:Int) (b:A0 Str) (ps:A0 IZ),f = [.ref p,.ref o]/\IW H p c/\c<=900/\p∈X/\JQ X H o b ps/\ps.length<=200 /\
 ∀(t:A3) (d:JJ) (e:Int) a,H t=none->e<=c+10->Sm [p] H a->IW a p e->M_ a t d->d.fit b ps->Q (.ref t) a
set_option maxHeartbeats 1000000 in
theorem Ky(T:Tx K mg):IU P w K mg base JW 4 T.bg.f T.bg.fd ["_law_left_here","_law_own"] Zz:=by
 refine T.bg.F.o1 MN λcdv A outer s H vs Q E n h=>?_
 .obtain⟨X,p,o,c,ss,ps,rfl,hL,c1,v,hO,P_,q⟩:=h;have hu:=Q6 n;refine⟨_,(A9 (C8 (i:=2) MN.nd rfl (.inl rfl) (D9 T.ak (E3 T) (Rm n) (A6 (pv 0) (A6 B5 A8))))
   (@A9 _ _ _ _ _ (@K0 _ _ _ _ _ _ _ _ (PW.pt (c9 (PW.pt (Fm (B8 Pd (pv 2) B5 (D8 _)) (Ax (B8 Pd (F9 (T0 K) T.ax Q5 (A6 (E8 (K_ K) (pv 1) B5 (λ_ _=>rfl)) A8)) B5 (D8 _))))) (U2 (B8 (On K n.units) (E8 (K_ K) (pv 1) B5 (λ_ _=>rfl)) (E9 A8) (D8 _))))) (@A9 _ _ _ _ _ (@C8 _ _ 3 _ _ _ _ MN.nd rfl (.inl rfl) (@E9 _ _ _ _ (@A6 _ _ _ _ _ C2 (@A6 _ _ _ _ _ C2 (@A6 _ _ _ _ _ C2 (@A6 _ _ _ _ _ C2 (@A6 _ _ _ _ _ C2 (@A6 _ _ _ _ _ C2 (@A6 _ _ _ _ _ C2 (@A6 _ _ _ _ _ C2 (@A6 _ _ _ _ _ C2 (@A6 _ _ _ _ _ C2 (@A6 _ _ _ _ _ C2 (@A6 _ _ _ _ _ C2 (@A6 _ _ _ _ _ C2 (@A6 _ _ _ _ _ C2 (@A6 _ _ _ _ _ C2 (@A6 _ _ _ _ _ C2 A8 (by rfl)) (by rfl)) (by rfl)) (by rfl)) (by rfl)) (by rfl)) (by rfl)) (by rfl)) (by rfl)) (by rfl)) (by rfl)) (by rfl)) (by rfl)) (by rfl)) (by rfl)) (by rfl))) (by rfl) (by first | exact .inl rfl | exact .inr rfl | assumption))
   (@A9 _ _ _ _ _ (@K0 _ _ _ _ _ _ _ _ (B8 X1 (D9 T.ak (E3 T) (Rm n) (A6 (pv 0) (A6 B5 A8))) B5 (D8 _)) (@B4 _ _ _ (@C0 _ _ _ _ (@J6 _ _ _ _ _ (@A6 _ _ _ _ _ C2 (@A6 _ _ _ _ _ (@E8 _ _ _ _ _ _ _ (K_ K) (@E9 _ _ _ _ (@A6 _ _ _ _ _ C2 (@A6 _ _ _ _ _ C2 (@A6 _ _ _ _ _ C2 (@A6 _ _ _ _ _ C2 (@A6 _ _ _ _ _ C2 (@A6 _ _ _ _ _ C2 A8 (by rfl)) (by rfl)) (by rfl)) (by rfl)) (by rfl)) (by rfl))) (D9 T.ak (E3 T) (Rm n) (A6 (pv 0) (A6 B5 A8))) (λ_ _=>rfl)) A8 (by rfl)) (by rfl))))) D0)
   (B4 (C0 (J6 (A6 C2 (A6 (E8 (K_ K) (pv 3) (D9 T.ak (E3 T) (Rm n) (A6 (pv 0) (A6 B5 A8))) (λ_ _=>rfl)) A8))))))) D0)
   (A9 (K0 (B8 Pd (pv 2) B5 (D8 _)) (B4 (C0 (J6 (A6 C2 (A6 (D9 T.aA (S4 T) (Rm n) (A6 (pv 0) (A6 (pv 1) A8))) A8))))) D0)
   (A9 (K0 (PW.pt (Fm (B8 Pd (pv 2) B5 (D8 _)) (Ax (B8 Pd (F9 (T0 K) T.ax Q5 (A6 (E8 (K_ K) (pv 1) B5 (λ_ _=>rfl)) A8)) B5 (D8 _))))) (B4 (C0 (J6 (A6 C2 (A6 (D9 T.aA (S4 T) (Rm n) (A6 (pv 0) (A6 (pv 1) A8))) (A6 (D9 T.aA (S4 T) (Rm n) (A6 (pv 0) (A6 (pv 1) A8))) A8)))))) D0)
   (A9 (K0 (PW.pt (Fm (B8 (Sk K n.units) (E8 (K_ K) (pv 1) B5 (λ_ _=>rfl)) (E9 A8) (D8 _)) (Ax (B8 zBq (D9 T.ak (E3 T) (Rm n) (A6 (pv 0) (A6 B5 A8))) B5 (D8 _))))) (B4 (C0 (G8 (zBn K) (J6 (A6 C2 A8)) (E8 (K_ K) (F9 (Au K) T.ay K8 (A6 (E8 (K_ K) (pv 1) B5 (λ_ _=>rfl)) A8)) (D9 T.ak (E3 T) (Rm n) (A6 (pv 0) (A6 (F9 (T0 K) T.ax Q5 (A6 (E8 (K_ K) (pv 1) B5 (λ_ _=>rfl)) A8)) A8))) (λ_ _=>rfl))))) D0)
   (B4 (C0 (J6 (A6 C2 (A6 (D9 T.aA (S4 T) (Rm n) (A6 (pv 0) (A6 (pv 1) A8))) (A6 (D9 T.aA (S4 T) (Rm n) (A6 (pv 0) (A6 (pv 1) A8))) A8))))))))))),?_⟩
  obtain⟨⟨a,b,e1,e2,e3,n1,n2,n3⟩,pin,nm,st⟩:=id hO;have ok:∀x∈ss,PySem.PyData.strOk x=true:=λx hx=>P9 (nm.1 x hx);have ap:a≠p:=λz=>n2 (z▸v);have fresh:∀(t:A3) (B:Hp) (r:Int),Sm [p] H B->IW B p r->B t=none->H t=none:=λt B r k L m=>by
   cases e:H t with
   | none=>rfl
   | some x =>
    have tp:t≠p:=λz=>by rw[z,L.get]at m;cases m
    exact absurd (k _ _ e (by simpa using tp)) (by rw[m];intro z;cases z)
  have C:∀(d:JJ) (r:Int) (B:Hp),r<=c+10->Sm [p] H B->IW B p r->(∀x∈d.strs,PySem.PyData.strOk x=true)->d.fit ss ps->∀t,B t=none->Q (.ref t) (II B t (.tup (d.strs.map V.str))):=λd r B hc k L od fd t m =>
   q t d r _ (fresh t B r k L m) hc (k.trans (Cv.new m).sm) (L.same (Cv.new m)) ⟨A7,od⟩ fd
  obtain⟨ko1,ko2,ko3,Y⟩:=zHh;refine B3 λN1 hN1=>?_;refine C3 rfl (Y9 (a:=p) (b:=c) rfl hL (by lia) (by decide) (by decide) λway B hw k1 L1=>?_);refine hN1 _ _ (B3 λN2 hN2=>?_);have e1a:=MY k1 e1 (λz=>n1 (z▸v));have e2a:=MY k1 e2 ap;refine Xh e1a e2a ok λbb Z s2 hbb=>?_;have k2:=k1.trans s2.sm;have L2:=L1.same s2;refine w8 (λhb=>?_) λ_=>hN2 _ _ ?_
  .have fit:=hbb hb;refine⟨by show 16<=sizeLine;decide,λz hz=>?_⟩;have G:=Cv.new (o:=.lst [V.str "b",.str "ab",.str "x",.str "know",.str "c",.str "m",.str "ba",.str "aba",.str "xa",.str "ca",.str "ma",.str "bbb",.str "pq",.str "abcdefgh",.str "p",.str "pp"]) hz;have f3:(II Z z (.lst [V.str "b",.str "ab",.str "x",.str "know",.str "c",.str "m",.str "ba",.str "aba",.str "xa",.str "ca",.str "ma",.str "bbb",.str "pq",.str "abcdefgh",.str "p",.str "pp"])) z=some (.lst (RD.map V.str)):=A7;have I:=L2.same G;have N:=k2.trans G.sm;generalize II Z z (.lst [V.str "b",.str "ab",.str "x",.str "know",.str "c",.str "m",.str "ba",.str "aba",.str "xa",.str "ca",.str "ma",.str "bbb",.str "pq",.str "abcdefgh",.str "p",.str "pp"])=J at G f3 I N⊢;refine C3 rfl (Y9 (a:=p) rfl I (by lia) (by decide) (by decide) λd4 H4 hd4 M O=>⟨rfl,_,rfl,?_⟩);have u:=N.trans M;refine w8 (λ_=>?_) λ_=>?_
   .refine⟨by show 6<=sizeLine;decide,λz2 hz2=>?_⟩;have D:=Cv.new (o:=.lst [V.str "",.str "A",.str "abcdefghi",.str "a b",.str "a1",.str "ab\n"]) hz2;have L5:=O.same D;have pz:z2≠p:=(B0 O.get hz2).symm;refine C3 rfl (Y9 (a:=p) rfl L5 (by lia) (by decide) (by decide) λd6 H6 hd6 R S=>?_);obtain⟨y,oy,ly,ey⟩:=zGg d6 (by lia);refine⟨z2,_,_,_,rfl,rfl,IR.of (MY R A7 pz),ey,⟨by show 2<=sizeLine;decide,λt m=>?_⟩⟩;exact C (.pn y) _ H6 (by lia) ((u.trans D.sm).trans R) S (λx hx=>by
     rcases AV.mp hx with rfl | hx
     .exact ko1
     .rw[AE.mp hx];exact oy) ⟨fit,ly⟩ t m
   .refine C3 rfl (C3 rfl (Y9 (a:=p) rfl O (by lia) (by decide) (by decide) λd6 H6 hd6 R S=>?_));have zp:z≠p:=I.ne f3;have hi:RD[d6]?=some (RD[d6]'(by show d6<16;lia)):=AF _;refine⟨z,_,_,_,rfl,rfl,IR.of (MY R (MY M f3 zp) zp),Q9 (j:=d6) (by rw[AJ,hi];rfl),⟨by show 2<=sizeLine;decide,λt m=>?_⟩⟩;exact C (.pn _) _ H6 (by lia) (u.trans R) S (λx hx=>by
     rcases AV.mp hx with rfl | hx
     .exact ko1
     .rw[AE.mp hx];exact(My _ (DL _)).1) ⟨fit,(My _ (DL _)).2⟩ t m
  .have O2:=hO.smp v k2;have e1b:=s2 _ _ e1a;have bp:b≠p:=λz=>n3 (z▸v);have e3b:=MY k2 e3 bp;have pin2:∀q∈ps,G0 Z q:=λq hq=>(O2.pin q hq).1;have okp:∀q∈ps,PySem.PyData.strOk q.2.1=true/\PySem.PyData.strOk q.2.2=true:=λq hq=>⟨ok _ (st.nm q hq).1,ok _ (st.nm q hq).2⟩;have two:∀(mk:Str->Str->JJ) (kd:Str) (r:Int) (J:Hp),(∀y z,(mk y z).strs = [kd,y,z])->PySem.PyData.strOk kd=true->(∀y z,(mk y z).fit ss ps)->r<=c+4->Sm [p] H J->IW J p r ->
     zGt (U9 (tC (V.str kd)) (U9 (Hr Ct [] E0 (U9 (X0 0) (U9 (X0 1) Fh))) (U9 (Hr Ct [] E0 (U9 (X0 0) (U9 (X0 1) Fh))) Fh))) [some (.ref p),some (.ref o),some (.int (way:Int)),none] J Q:=λmk kd r J hs okd hf hc k L=>by
    refine C3 rfl (C3 rfl ⟨X,p,o,r,ss,ps,rfl,L,by lia,v,hO.smp v k,λy c4 H4 oy hc4 M O=>?_⟩);refine C3 rfl (C3 rfl ⟨X,p,o,c4,ss,ps,rfl,O,by lia,v,hO.smp v (k.trans M),λz c5 H5 oz hc5 k5 L5=>?_⟩);refine⟨by show 3<=sizeLine;decide,λt m=>?_⟩;have:=C (mk y z) c5 H5 (by lia) ((k.trans M).trans k5) L5 (λx hx=>by
     rw[hs]at hx;rcases AV.mp hx with rfl | hx
     .exact okd
     .rcases AV.mp hx with rfl | hx
      .exact oy
      .rw[AE.mp hx];exact oz) (hf y z) t m
    rw[hs]at this;exact this
   refine B3 λN3 hN3=>?_;refine C3 rfl (C4 rfl rfl ⟨_,rfl,w8 (λ_=>?_) λ_=>hN3 _ _ ?_⟩)
   .refine C3 rfl (C3 rfl ⟨X,p,o,_,ss,ps,rfl,L2,by lia,v,O2,λy c3 J oy hc3 N I=>⟨by show 2<=sizeLine;decide,λt m=>?_⟩⟩);exact C (.tn y) c3 J (by lia) (k2.trans N) I (λx hx=>by
     rcases AV.mp hx with rfl | hx
     .exact ko2
     .rw[AE.mp hx];exact oy) VC t m
   .refine B3 λN4 hN4=>?_;have U:N4 [some (.ref p),some (.ref o),some (.int (way:Int)),none] Z:=by
     refine hN4 _ _ (B3 λN5 hN5=>?_);refine C3 rfl ⟨o,_,1,_,rfl,rfl,IR.of e1b,rfl,⟨BZ _,λz hz=>?_⟩⟩;have G:=Cv.new (o:=.lst []) hz;have f3:(II Z z (.lst [])) z=some (.lst []):=A7;have I:=L2.same G;have N:=k2.trans G.sm;have W:=G9 G pin2;have e1c:=G _ _ e1b;have e3c:=G _ _ e3b;generalize II Z z (.lst [])=J at G f3 I N W e1c e3c⊢;refine zAx e3c W okp f3 ⟨_,rfl,?_⟩;refine w8 (λne=>?_) λ_=>O9 (hN5 _ _ (two JJ.ts _ _ J (λ_ _=>rfl) Y (λ_ _=>VC) (by lia) N I));refine C3 rfl (Y9 (a:=p) rfl I (by lia) (by decide) (by decide) λd4 H4 hd4 M O=>C4 rfl rfl ⟨_,rfl,?_⟩);have u:=N.trans M;refine w8 (λ_=>?_) λ_=>hN5 _ _ (two JJ.ts _ _ H4 (λ_ _=>rfl) Y (λ_ _=>VC) (by lia) u O);have O4:=hO.smp v u;have e1d:=MY M e1c (λz=>n1 (z▸v));have e3d:=MY M e3c bp;refine⟨by show 1<=sizeLine;decide,λt1 ht1=>?_⟩;have D:=Cv.new (o:=.tup [.str "take_strike"]) ht1;have f5:(II H4 t1 (.tup [.str "take_strike"])) t1=some (.tup [.str "take_strike"]):=A7;have L5:=O.same D;have O5:=O4.same D;have k5:=u.trans D.sm;generalize II H4 t1 (.tup [.str "take_strike"])=H5 at D f5 L5 O5 k5⊢;refine C3 rfl ⟨o,_,1,_,rfl,rfl,IR.of (D _ _ e1d),rfl,b,ps,rfl,IR.of (D _ _ e3d),λq hq=>(O5.pin q hq).1,λl g hl pm _=>?_⟩;have u6:=Cv.new (o:=.lst (g.map λq=>V.ref q.1)) hl;have f6:(II H5 l (.lst (g.map λq=>V.ref q.1))) l=some (.lst (F8 g)):=A7;have S:=L5.same u6;have O6:=O5.same u6;have R:=k5.trans u6.sm;have f5:=u6 _ _ f5;have e1e:=u6 _ _ (D _ _ e1d);have e3e:=u6 _ _ (D _ _ e3d);generalize II H5 l (.lst (g.map λq=>V.ref q.1))=H6 at f6 S O6 R f5 e1e e3e⊢;refine C3 rfl (C3 rfl ⟨o,_,1,_,rfl,rfl,IR.of e1e,rfl,b,_,rfl,.inl (IR.of e3e),?_⟩);have rl:(F8 ps).length=ps.length:=by unfold F8;rw[AB]
     rw[rl];have pos:0<ps.length:=List.length_pos_iff.mpr λz=>by rw[z]at ne;cases ne
     refine Y9 (a:=p) rfl S (by lia) (by lia) (by lia) λd7 H7 hd7 k7 L7=>?_;have ll:=pm.length_eq;have hi:g[d7]?=some g[d7]:=AF (by lia);have hm:g[d7]∈ps:=pm.mem_iff.mp (DL _);have lp:l≠p:=S.neP f6;have e7:=((O6.smp v k7).pin _ hm).1;have t1p:t1≠p:=λz=>by
      obtain⟨xa,xb,em,_⟩:=id S;rw[z,em]at f5;cases f5
     refine⟨l,_,_,_,rfl,rfl,IR.of (MY k7 f6 lp),Q9 (j:=d7) (by unfold F8;rw[AJ,hi];rfl),?_⟩;refine⟨t1,g[d7].1,_,_,rfl,rfl,JG.of (MY k7 f5 t1p),JG.of e7,(λz=>by cases z),by show 3<=sizeLine;decide,(λz=>by cases z),λ_ t m=>?_⟩;exact C (.ts g[d7].2.1 g[d7].2.2) _ H7 (by lia) (R.trans k7) L7 (λx hx=>by
      rcases AV.mp hx with rfl | hx
      .exact Y
      .rcases AV.mp hx with rfl | hx
       .exact(okp _ hm).1
       .rw[AE.mp hx];exact(okp _ hm).2) VC t m
    refine C3 rfl (C4 rfl rfl ⟨_,rfl,w8 (λ_=>?_) λ_=>O9 U⟩);refine C3 rfl ⟨o,_,1,_,rfl,rfl,IR.of e1b,rfl,b,_,rfl,.inl (IR.of e3b),C4 rfl rfl ⟨_,rfl,w8 (λfew=>?_) λ_=>U⟩⟩;have rl:(F8 ps).length=ps.length:=by unfold F8;rw[AB]
    rw[rl]at few;have:=BL few;exact two JJ.ps _ _ Z (λ_ _=>rfl) ko3 (λ_ _=>by show ps.length+1<=140;lia) (by lia) k2 L2
def SY(x:Str):A0 Str:=(x.cps.toList.filter λc=>!Lb c).map λc=>⟨#[c]⟩
def Xu(x:Str):(SY x).isEmpty=x.cps.toList.all Lb:=by
 unfold SY;generalize x.cps.toList=l
 induction l with
 | nil=>rfl
 | cons c r a =>
  rw[BR,IB];cases h:Lb c with
  | true=>rw[AI (by decide),a,IC]
  | false=>rw[AO (by decide),DP];rfl
def zDp{x:Str}(h:PySem.PyData.strOk x=true):∀y∈SY x,PySem.PyData.strOk y=true:=λy b=>by
 unfold SY at b;obtain⟨c,a,rfl⟩:=BJ.mp b;have a:=(AW.mp a).1;unfold PySem.PyData.strOk at h⊢;rw[Array.all_eq_true']at h;have:=h c (by rw[<-Array.mem_toList_iff];exact a);simpa using this
theorem MM:IL ["_law_word","_law_letters"] ["_law_word"] (B6 NH):=Kc
def Pw:Sp:=λb H Q _=>∃x:Str,b = [.str x]/\PySem.PyData.strOk x=true/\x.length<=100/\∀a,Cv H a->Q (.bl (S0 x)) a
theorem Ek(T:Tx K mg):IU P w K mg base JW 1 T.a0.f T.a0.fd ["_law_word"] Pw:=by
 refine T.a0.F.o1 MM λJ A j s H W Q E p h=>?_
 .obtain⟨x,rfl,L,X,q⟩:=h;have Y:=Q6 p;refine⟨_,(A9 (C8 (i:=1) MM.nd rfl (.inr rfl) C2)
   (B4 (C0 (Bw (Wv Vv Vv B5 (F9 Bl T.ax Q5 (A6 (pv 0) A8)) B5) (Cw (R0 (On K p.units) (W9 (N':=["_law_sign","_law_letters"]) (cap:=[none,some 1]) (cl:=[("_law_letters",_)]) (P4 ⟨⟨rfl,rfl,rfl,rfl⟩,trivial⟩ ⟨rfl,trivial⟩) rfl (Yt (pv 0)) (λ_ _ _ _=>by exact⟨(LS 0),(P0 (B8 Ka (pv 0) (pv 1) rfl)),(pv 0)⟩)) (E9 A8) (D8 _))))))),?_⟩
  refine B3 λZ k=>?_;have l:x.length<=sizeLine:=by rw[sizeLine_eq];lia
  have r:x.cps.size=x.length:=rfl;refine k _ _ ?_;refine C3 rfl ⟨x,rfl,l,C4 rfl rfl (C3 rfl ?_)⟩;refine w8 (λa=>?_) (λa=>?_)
  .have a:(1:Int)<=(x.length:Int):=BL a;refine C4 rfl rfl ⟨_,rfl,?_⟩;by_cases t:(x.length:Int)<=8
   .rw[AQ t];refine Z7 ?_;refine C3 rfl ⟨x,rfl,λD u=>?_⟩;refine Iz (n:=x.cps.size) (λi σ m=>(∃v,σ = [v,some (.str "abcdefghijklmnopqrstuvwxyz")])/\Cv H m/\m D=some (.lst (((x.cps.toList.take i).filter λc=>!Lb c).map λc=>V.str ⟨#[c]⟩))) ⟨⟨_,rfl⟩,Cv.new u,A7⟩ (λi _ _ y _=>y) (λ_ _ _=>rfl) ?_ ?_
    .rintro i σ B v m N y ⟨⟨v0,rfl⟩,d,g⟩ ⟨rfl,c,M,rfl⟩ C;have O:x.cps.toList[i]?=some c:=by rw[BK];exact M
     have G:((x.cps.toList.take (i+1)).filter λc=>!Lb c) =((x.cps.toList.take i).filter λc=>!Lb c)++if(!Lb c)=true then [c]else []:=by
      rw[E4 O,CV,BR,DZ]
     have R:=BC (λc=>!Lb c) (x.cps.toList.take i);rw[AX]at R;refine C3 rfl (C3 rfl ⟨_,_,rfl,rfl,_,rfl,?_⟩);rw[PySem.StrLaws.found_one,Qr];refine w8 (λb=>C3 rfl ⟨_,g,by rw[AB,sizeLine_eq];lia,C _ _ ⟨⟨_,rfl⟩,d.upd u,?_⟩⟩) (λb=>C _ _ ⟨⟨_,rfl⟩,d,?_⟩)
     .rw[A7,G,AO b,AH];rfl
     .rw[G,AI b,CC];exact g
    .rintro σ B ⟨_,d,g⟩;have S:B D=some (.lst ((SY x).map V.str)):=by
      rw[g,<-AU,BP];unfold SY;rw[B_];rfl
     refine⟨BZ _,λz U=>?_⟩;have I:=Cv.new (o:=.lst []) U;refine Mo (I _ _ S) (zDp L) A7 ?_;have e:(SY x).isEmpty=S0 x:=by
      unfold S0;rw[Xu,AQ (show 1<=x.length by lia),AQ (show x.length<=8 by lia)];rfl
     rw[e];exact q _ (d.trans I)
   .rw[AL t];refine O9 ?_;have e:S0 x=false:=by
     unfold S0;rw[AL (show ¬x.length<=8 by lia),HU,DP]
    have:=q H (Cv.refl H);rw[e]at this;exact this
  .have a:¬(1:Int)<=(x.length:Int):=λz=>a (AQ z);refine⟨_,rfl,O9 ?_⟩;have e:S0 x=false:=by
    unfold S0;rw[AL (show ¬1<=x.length by lia),DP,DP]
   have:=q H (Cv.refl H);rw[e]at this;exact this
def JJ.can(ss:A0 Str)(ps:A0 IZ):JJ->Prop
 | .pn y=>S0 y=true/\y∉ss
 | .tn y=>y∈ss
 | .ps a b=>a∈ss/\b∈ss/\(a,b)∉ps.map λq=>q.2
 | .ts a b=>a∈ss/\b∈ss/\(a,b)∈ps.map λq=>q.2
def Xg{K:VA}{H:Hp}{a z:A3}{ss:A0 Str}{Q:VK}(c:H a=some (.lst (ss.map V.str)))(f:∀x∈ss,PySem.PyData.strOk x=true)(hz:H z=some (.lst []))(q:Q (.bl (!ss.isEmpty)) H):UB K (.ref a) (.ref z) H Q:=by
 obtain⟨d,e,g,h,i,j,b⟩:=Mo (K:=K) (Q:=λv k=>v = .bl ss.isEmpty) c f hz rfl;refine⟨d,e,g,h,i,j,?_⟩;have b:PyData.eqv d e=ss.isEmpty:=(V.bl.inj b);rw[b];exact q
def Ol{J:It}{a D:A3}{ts:A0 Str}{r:St}{j:TT}{H:Hp}{Q:St->Hp->Prop}(p:Str->Bool)(as:OD J (ts.map V.str) a H)(u:ts.length<=1000)(k:H D=none)
  (w:∀y∈ts,∀g,Cv H g->∀l:Bool->Hp->Prop,(∀e,Cv g e->l (p y) e)->j (some (.str y)::r) g l) (h:∀σ e,Cv H e->e D=some (.lst ((ts.filter p).map V.str))->Q σ e) (m:A5 V) :
  Bi (Q4 0) j (Z8 D (X0 0)) J (m::r) (II H D (.lst [])) Q:=by
 refine Q3 as (λi σ f=>(∃v,σ=v::r)/\Cv H f/\f D=some (.lst (((ts.take i).filter p).map V.str)))
  ⟨⟨_,rfl⟩,Cv.new k,A7⟩ (λi σ g _ ⟨_,x,_⟩=>x.at a) ?_ ?_
 .rintro i σ f v N n ⟨⟨m,rfl⟩,b,d⟩ o;rw[AJ]at n;obtain⟨y,q,rfl⟩:=BG.mp n;refine w y (AZ q) f b _ λz s=>?_;have d:=s _ _ d;have b:=b.trans s;have t:(ts.take (i+1)).filter p =(ts.take i).filter p++if p y=true then [y]else []:=by
   rw[E4 q,CV,BR,DZ]
  have A:(((ts.take i).filter p).map V.str).length<=1000:=by
   rw[AB];have:=BC p (ts.take i);rw[AX]at this;lia
  refine w8 (λc=>C3 rfl ⟨_,d,by rw[sizeLine_eq];lia,o _ _ ⟨⟨_,rfl⟩,b.upd k,?_⟩⟩) (λc=>o _ _ ⟨⟨_,rfl⟩,b,?_⟩)
  .rw[A7,t,AO c,AH];rfl
  .rw[t,AI c,CC];exact d
 .rintro σ f ⟨_,b,d⟩;rw[AB,BP]at d;exact h σ f b d
def Zv{K:VA}{H:Hp}{t l:A3}{k:Str×Str}{ps:A0 IZ}{Q:VK}(b:H t=some (.tup [.str k.1,.str k.2]))(c:H l=some (.lst (F8 ps)))(d:∀q∈ps,G0 H q)
  (a:PySem.PyData.strOk k.1=true/\PySem.PyData.strOk k.2=true) (e:∀q∈ps,PySem.PyData.strOk q.2.1=true/\PySem.PyData.strOk q.2.2=true) (q:Q (.bl (decide (k∈ps.map λq=>q.2))) H):UA K false (.ref t) (.ref l) H Q :=
 ⟨pd k,_,y8 b,.inl (Ae c d),⟨Dp a.1 a.2,by simp[pd,PyData.depth,PyData.depthAll]⟩,Dg e,by rw[AI (by decide),Cp];exact q⟩
def zEf(x y:Str)(ss:A0 Str):([x,y].filter λn=>!decide (n∈ss)).isEmpty=decide (x∈ss/\y∈ss):=by
 by_cases c:x∈ss
 .by_cases d:y∈ss
  .rw[BR,AQ c,BR,AQ d,AQ ⟨c,d⟩];rfl
  .rw[BR,AQ c,BR,AL d,AL λz=>d z.2];rfl
 .rw[BR,AL c,AL λz=>c z.1];rfl
def Gp{K:VA}{H:Hp}{o t a b:A3}{kd:Str}{tl ss:A0 Str}{q:A5 V}{l:Bool->Hp->Prop}(r:H t=some (.tup ((kd::tl).map V.str)))(c:Ju ((kd::tl).map V.str) (some 1) none=tl.map V.str)
  (f:¬(HT.JU ((kd::tl).map V.str).length 0 (some 1)=0/\HT.JU ((kd::tl).map V.str).length ((kd::tl).map V.str).length none =((kd::tl).map V.str).length)) (s:H a=some (.lst (ss.map V.str))) (u:∀x∈tl,PySem.PyData.strOk x=true) (E:tl.length<=10)
  (h:∀H',Cv H H'->l (!(tl.filter λn=>!decide (n∈ss)).isEmpty) H') :
  Aq (PN (UB K) (Kg (zIb K (tSl (zGr K) (X0 1) (zCu (tC (V.int 1))) Ri)) (λ_=>HO.lst []) [none,some 2] λD J σ H Q=>Bi (Q4 0) (Aq (PN (TD K true) (X0 0) (X0 1))) (Z8 D (X0 0)) J σ H Q) (T_ Fh)) [some (.ref o),some (.ref t),some (.ref a),some (.ref b),q] H l:=by
 refine C3 rfl ⟨1,rfl,t,_,rfl,JG.of r,f,λd g=>?_⟩;rw[c];have i:=Cv.new (o:=.tup (tl.map V.str)) g;have j:(II H d (.tup (tl.map V.str))) d=some (.tup (tl.map V.str)):=A7;generalize II H d (.tup (tl.map V.str))=F at i j⊢;refine⟨d,rfl,⟨_,JG.of j⟩,λD v=>?_⟩;refine Ol (λn=>!decide (n∈ss)) (asT (K:=K) (JG.of j)) (by lia) v (λy G m k I w=>?_) (λσ m k A=>?_) _
 .exact C3 rfl (C3 rfl (T9 (.inl (IR.of (k _ _ (i _ _ s)))) ⟨_,rfl,w m λb o e=>e⟩))
 .refine⟨BZ _,λz B=>?_⟩;have p:=Cv.new (o:=.lst []) B;exact Xg (p _ _ A) (λx C=>u x (AW.mp C).1) A7 ⟨_,rfl,h _ ((i.trans k).trans p)⟩
theorem KE:IL ["_law_own","_law_deed_here","_law_names","_law_strikes","_law_word"] ["_law_own","_law_deed_here"] (B6 MQ):=Kc
def zAl:Sp:=λc H Q _=>∃(X:A0 A3) (o t:A3) (b:A0 Str) (ps:A0 IZ) (d:JJ),c = [.ref o,.ref t]/\JQ X H o b ps/\M_ H t d/\d.fit b ps/\(∀a,Cv H a->d.can b ps->Q .non a)/\∀r a,Cv H a->Q (.ref r) a
set_option maxHeartbeats 1000000 in
theorem Dy(T:Tx K mg):IU P w K mg base JW 3 T.aW.f T.aW.fd ["_law_own","_law_deed_here"] zAl:=by
 refine T.aW.F.o1 KE λcdv A outer s H vs Q E j h=>?_
 .obtain⟨X,o,t,G,ps,d,rfl,hO,hD,hf,Z,M⟩:=h;have hu:=Q6 j;refine⟨_,(A9 (Bv (pv 0) (pgL K (n:=2) (E7 (I9 (i:=2) KE.nd rfl (.inr rfl)) (E7 (I9 (i:=3) KE.nd rfl (.inl rfl)) S5))))
   (A9 (C8 (i:=4) KE.nd rfl (.inl rfl) (E8 (PP K) (pv 1) B5 (λ_ _=>rfl)))
   (A9 (K0 (B8 X1 (pv 4) C2 (D8 _)) (B4 (C0 (As (PW.pt (c9 (P2 (J9 (D9 T.a0 (Ek T) (Rm j) (A6 (E8 (PP K) (pv 1) B5 (λ_ _=>rfl)) A8)))) (U2 (B8 (Od K) (E8 (PP K) (pv 1) B5 (λ_ _=>rfl)) (pv 2) rfl)))) (J6 (A6 C2 (A6 B5 A8))) U3))) D0)
   (A9 (K0 (B8 (Sk K j.units) (W9 (N':=["_law_name","_law_names"]) (cap:=[none,some 2]) (cl:=[("_law_names",_)]) (P4 ⟨⟨rfl,rfl,rfl,rfl⟩,trivial⟩ ⟨rfl,trivial⟩) rfl (piT K (Y1 (UO K) (pv 1) (Ab B5) y4)) (λ_ _ _ _=>by exact⟨(LS 0),(P0 (B8 (X8 K) (pv 0) (pv 1) rfl)),(pv 0)⟩)) (E9 A8) (D8 _)) (B4 (C0 (J6 (A6 C2 (A6 U3 A8))))) D0)
   (A9 (K0 (PW.pt (Fm (B8 X1 (pv 4) C2 (D8 _)) (Ax (B8 (zHd K j.units) (Y1 (UO K) (pv 1) (Ab B5) y4) (pv 3) rfl)))) (B4 (C0 (J6 (A6 C2 (A6 B5 A8))))) D0)
   (A9 (K0 (PW.pt (Fm (B8 X1 (pv 4) C2 (D8 _)) (Ax (B8 (Md K j.units) (Y1 (UO K) (pv 1) (Ab B5) y4) (pv 3) rfl)))) (B4 (C0 (J6 (A6 C2 (A6 U3 A8))))) D0)
   (B4 (C0 U3)))))))),?_⟩
  obtain⟨⟨a,b,e1,e2,e3,n1,n2,n3⟩,S,nm,st⟩:=id hO;obtain⟨v,l⟩:=id hD;have ok:∀x∈G,PySem.PyData.strOk x=true:=λx N=>P9 (nm.1 x N);refine B3 λN1 hN1=>?_;refine⟨_,rfl,o,_,rfl,IR.of e1,rfl,_,C3 rfl (C4 rfl rfl (hN1 _ _ (B3 λN2 I=>?_)))⟩;have g:∀{x y:Str},x≠y->decide (V.str x=V.str y)=false:=λh=>AL λz=>h (V.str.inj z);cases d with
  | pn y =>
   obtain⟨hf1,hf2⟩:=hf;refine C3 rfl ⟨t,_,0,_,rfl,rfl,JG.of v,rfl,I _ _ (B3 λN3 u=>?_)⟩;refine C3 rfl ⟨rfl,_,rfl,Z7 ?_⟩;refine C3 rfl ⟨t,_,1,_,rfl,rfl,JG.of v,rfl,y,rfl,l y (AM _ (BA ..)),hf2,λU p=>⟨_,rfl,?_⟩⟩;cases hb:S0 y with
   | false=>exact Z7 (Z7 ⟨by show 2<=sizeLine;decide,λr j=>M r _ (p.trans (Cv.new j))⟩)
   | true =>
    refine O9 (C3 rfl ⟨t,_,1,_,rfl,rfl,JG.of (p _ _ v),rfl,C3 rfl (Bh (.inl (IR.of (p _ _ e2))) ⟨_,rfl,?_⟩)⟩);by_cases c:y∈G
    .rw[AQ c];exact Z7 ⟨by show 2<=sizeLine;decide,λr j=>M r _ (p.trans (Cv.new j))⟩
    .rw[AL c];exact O9 (Z _ p ⟨hb,c⟩)
  | tn y =>
   refine C3 rfl ⟨t,_,0,_,rfl,rfl,JG.of v,rfl,I _ _ (B3 λN3 u=>?_)⟩;refine C3 rfl ⟨rfl,_,rfl,?_⟩;rw[g (by decide +kernel)];refine O9 (u _ _ (B3 λN4 B=>?_));refine Gp (tl:=[y]) v rfl (by show ¬(HT.JU 2 0 (some 1)=0/\HT.JU 2 2 none=2);decide) e2 (λx N=>l x (AM _ N)) (by show 1<=10;decide) λU p=>?_;by_cases c:y∈G
   .have e:([y].filter λn=>!decide (n∈G)) = []:=by rw[BR,AQ c];rfl
    rw[e];refine O9 (B _ _ (B3 λN5 C=>?_));refine C3 rfl ⟨rfl,_,rfl,?_⟩;rw[g (by decide +kernel)];refine O9 (O9 (C _ _ (B3 λN6 D=>?_)));refine C3 rfl ⟨rfl,_,rfl,?_⟩;rw[g (by decide +kernel)];exact O9 (O9 (D _ _ (Z _ p c)))
   .have e:([y].filter λn=>!decide (n∈G)) = [y]:=by rw[BR,AL c];rfl
    rw[e];exact Z7 ⟨by show 2<=sizeLine;decide,λr j=>M r _ (p.trans (Cv.new j))⟩
  | ps x y =>
   have W:¬(HT.JU 3 0 (some 1)=0/\HT.JU 3 3 none=3):=by decide
   have ox:PySem.PyData.strOk x=true/\PySem.PyData.strOk y=true:=⟨l x (AM _ (BA ..)),l y (AM _ (AM _ (BA ..)))⟩;have O:∀q∈ps,PySem.PyData.strOk q.2.1=true/\PySem.PyData.strOk q.2.2=true:=λq J=>⟨ok _ (st.nm q J).1,ok _ (st.nm q J).2⟩;refine C3 rfl ⟨t,_,0,_,rfl,rfl,JG.of v,rfl,I _ _ (B3 λN3 u=>?_)⟩;refine C3 rfl ⟨rfl,_,rfl,?_⟩;rw[g (by decide +kernel)];refine O9 (u _ _ (B3 λN4 B=>?_));refine Gp (tl:=[x,y]) v rfl W e2 (λx N=>l x (AM _ N)) (by show 2<=10;decide) λU p=>?_;rw[zEf];by_cases c:x∈G/\y∈G
   .rw[AQ c];refine O9 (B _ _ (B3 λN5 C=>?_));refine C3 rfl ⟨rfl,_,rfl,?_⟩;refine Z7 (C3 rfl ⟨1,rfl,t,_,rfl,JG.of (p _ _ v),W,λY R=>C3 rfl ?_⟩);have u2:=Cv.new (o:=.tup [.str x,.str y]) R;have f2:(II U Y (.tup [.str x,.str y])) Y=some (.tup [.str x,.str y]):=A7;have L:=p.trans u2;refine Zv (k:=(x,y)) f2 (L _ _ e3) (λq J=>L _ _ (S q J).1) ox O ⟨_,rfl,?_⟩;by_cases m:(x,y)∈ps.map λq=>q.2
    .rw[AQ m];exact Z7 ⟨by show 2<=sizeLine;decide,λr j=>M r _ (L.trans (Cv.new j))⟩
    .rw[AL m];refine O9 (C _ _ (B3 λN6 D=>?_));refine C3 rfl ⟨rfl,_,rfl,?_⟩;rw[g (by decide +kernel)];exact O9 (O9 (D _ _ (Z _ L ⟨c.1,c.2,m⟩)))
   .rw[AL c];exact Z7 ⟨by show 2<=sizeLine;decide,λr j=>M r _ (p.trans (Cv.new j))⟩
  | ts x y =>
   have W:¬(HT.JU 3 0 (some 1)=0/\HT.JU 3 3 none=3):=by decide
   have ox:PySem.PyData.strOk x=true/\PySem.PyData.strOk y=true:=⟨l x (AM _ (BA ..)),l y (AM _ (AM _ (BA ..)))⟩;have O:∀q∈ps,PySem.PyData.strOk q.2.1=true/\PySem.PyData.strOk q.2.2=true:=λq J=>⟨ok _ (st.nm q J).1,ok _ (st.nm q J).2⟩;refine C3 rfl ⟨t,_,0,_,rfl,rfl,JG.of v,rfl,I _ _ (B3 λN3 u=>?_)⟩;refine C3 rfl ⟨rfl,_,rfl,?_⟩;rw[g (by decide +kernel)];refine O9 (u _ _ (B3 λN4 B=>?_));refine Gp (tl:=[x,y]) v rfl W e2 (λx N=>l x (AM _ N)) (by show 2<=10;decide) λU p=>?_;rw[zEf];by_cases c:x∈G/\y∈G
   .rw[AQ c];refine O9 (B _ _ (B3 λN5 C=>?_));refine C3 rfl ⟨rfl,_,rfl,?_⟩;rw[g (by decide +kernel)];refine O9 (O9 (C _ _ (B3 λN6 D=>?_)));refine C3 rfl ⟨rfl,_,rfl,?_⟩;refine Z7 (C3 rfl ⟨1,rfl,t,_,rfl,JG.of (p _ _ v),W,λY R=>C3 rfl ?_⟩);have u2:=Cv.new (o:=.tup [.str x,.str y]) R;have f2:(II U Y (.tup [.str x,.str y])) Y=some (.tup [.str x,.str y]):=A7;have L:=p.trans u2;refine Ev (k:=(x,y)) f2 (L _ _ e3) (λq J=>L _ _ (S q J).1) ox O ⟨_,rfl,?_⟩;by_cases m:(x,y)∈ps.map λq=>q.2
    .rw[AQ m];exact O9 (D _ _ (Z _ L ⟨c.1,c.2,m⟩))
    .rw[AL m];exact Z7 ⟨by show 2<=sizeLine;decide,λr j=>M r _ (L.trans (Cv.new j))⟩
   .rw[AL c];exact Z7 ⟨by show 2<=sizeLine;decide,λr j=>M r _ (p.trans (Cv.new j))⟩
def JJ.names(ss:A0 Str):JJ->A0 Str
 | .pn y=>ss ++ [y]
 | .tn y=>ss.filter λn=>!decide (n=y)
 | _=>ss
def JJ.prs(c:A0 (Str×Str)):JJ->A0 (Str×Str)
 | .pn _=>c
 | .tn y=>c.filter λq=>!decide (y=q.1\/y=q.2)
 | .ps a b=>c ++ [(a,b)]
 | .ts a b=>c.filter λq=>!decide (q =(a,b))
def zCc{K:VA}{a D:A3}{k:A0 IZ}{r:St}{m:TT}{n:TE}{H:Hp}{Q:St->Hp->Prop}(p:IZ->Bool)(e:H a=some (.lst (F8 k)))(z:k.length<=1000)(o:H D=none)
  (A:∀y∈k,∀b,Cv H b->∀g:Bool->Hp->Prop,g (p y) b->m (some (.ref y.1)::r) b g) (B:∀y∈k,∀b,Cv H b->∀g:VK,g (.str y.2.2) b->n (some (.ref y.1)::r) b g) (h:∀σ q,Cv H q->Q σ q) (s:A5 V) :
  Bi (Q4 0) m (Z8 D n) (QS K a) (s::r) (II H D (.lst [])) Q:=by
 refine Q3 (PQ (K:=K) (IR.of e)) (λi σ d=>(∃v,σ=v::r)/\Cv H d/\∃j:A0 V,d D=some (.lst j)/\j.length<=i)
  ⟨⟨_,rfl⟩,Cv.new o,[],A7,VD _⟩ (λi σ b _ ⟨_,C,_⟩=>C.at a) ?_ ?_
 .rintro i σ d v N l ⟨⟨s,rfl⟩,f,j,t,E⟩ u;unfold F8 at l;rw[AJ]at l;obtain⟨y,w,rfl⟩:=BG.mp l;have F:=(AK.mp w).1;have x:=AZ w;refine A y x d f _ (w8 (λc=>B y x d f _ ⟨j,t,by rw[sizeLine_eq];lia,u _ _ ⟨⟨_,rfl⟩,f.upd o,_,A7,by rw[AS];exact FE E⟩⟩) (λc=>u _ _ ⟨⟨_,rfl⟩,f,j,t,by lia⟩))
 .rintro σ d ⟨_,f,_⟩;exact h σ d f
theorem JN:IL ["_law_own","_law_deed_here","_law_names","_law_strikes","_law_word","_law_name","_law_spread"] ["_law_own","_law_deed_here"] (B6 NJ):=Kc
def Of:Sp:=λg H Q _=>∃(X:A0 A3) (o t:A3) (c:A0 Str) (ps:A0 IZ) (d:JJ),g = [.ref o,.ref t]/\(∀z∈X,H z≠none)/\JQ X H o c ps/\M_ H t d/\d.fit c ps/\d.can c ps/\ps.length<=199 /\
 ∀r f h a b e,Cv H e->H r=none->e r=some (.tup [.ref f,.ref h])->JQ X e f a b->a=d.names c->(b.map λq=>q.2)=d.prs (ps.map λq=>q.2)->Q (.ref r) e
set_option maxHeartbeats 1000000 in
theorem Ee(T:Tx K mg):IU P w K mg base JW 1 T.a1.f T.a1.fd ["_law_own","_law_deed_here"] Of:=by
 refine T.a1.F.o1 JN λcdv A outer s H vs Q E hr h=>?_
 .obtain⟨X,o,t,ss,ps,d,rfl,hX,hO,hD,hf,hc,lp,q⟩:=h;have hu:=Q6 hr;refine⟨_,(A9 (Bv (pv 0) (pgL K (n:=2) (E7 (I9 (i:=2) JN.nd rfl (.inl rfl)) (E7 (I9 (i:=3) JN.nd rfl (.inl rfl)) S5))))
   (A9 (Bv (Y1 (zIp K) (pv 1) y4 (Ab B5)) (RR K (n:=2) (E7 (I9 (i:=4) JN.nd rfl (.inl rfl)) (E7 (I9 (i:=5) JN.nd rfl (.inr rfl)) S5))))
   (A9 (K0 (B8 X1 (pv 4) C2 (D8 _)) (B4 (C0 (J6 (A6 (E9 (A6 (G8 Ap (pv 2) (E9 (A6 (pv 5) A8))) (A6 (g7 (T7 K) T.az Q0 (A6 (pv 3) A8)) A8))) (A6 (E9 (A6 (pv 5) A8)) A8))))) D0)
   (A9 (K0 (B8 X1 (pv 4) C2 (D8 _)) (A9 (X7 (i:=6) (N':=["_law_pair","_law_name"]) (cap:=[none,some 5]) (cl:=[("_law_name",_)]) JN.nd rfl (.inl rfl) (P4 ⟨⟨rfl,rfl,rfl,rfl⟩,trivial⟩ ⟨rfl,trivial⟩) rfl (MW K (pv 3)) (λ_ _ _ _=>by exact⟨(LS 0),(P0 (PW.pt (Fm (B8 X1 (E8 (PP K) (pv 0) B5 (λ_ _=>rfl)) (pv 1) (D8 _)) (Ax (B8 Ed (E8 (PP K) (pv 0) B5 (λ_ _=>rfl)) (pv 1) (D8 _)))))),(E8 (PP K) (pv 0) B5 (λ_ _=>rfl))⟩))
   (B4 (C0 (J6 (A6 (E9 (A6 (W9 (N':=["_law_one","_law_name"]) (cap:=[none,some 5]) (cl:=[("_law_name",_)]) (P4 ⟨⟨rfl,rfl,rfl,rfl⟩,trivial⟩ ⟨rfl,trivial⟩) rfl (MW K (pv 2)) (λ_ _ _ _=>by exact⟨(LS 0),(P0 (B8 Ed (pv 0) (pv 1) (D8 _))),(pv 0)⟩)) (A6 (W9 (N':=["_law_pair","_law_name"]) (cap:=[none,some 5]) (cl:=[("_law_name",_)]) (P4 ⟨⟨rfl,rfl,rfl,rfl⟩,trivial⟩ ⟨rfl,trivial⟩) rfl (MW K (pv 3)) (λ_ _ _ _=>by exact⟨(LS 0),(P0 (B8 (X8 K) (pv 1) (pv 0) rfl)),(pv 0)⟩)) A8))) (A6 (pv 6) A8)))))) D0)
   (A9 (K0 (B8 X1 (pv 4) C2 (D8 _)) (B4 (C0 (J6 (A6 (E9 (A6 (g7 (T7 K) T.az Q0 (A6 (pv 2) A8)) (A6 (G8 Ap (pv 3) (E9 (A6 (Y1 (UO K) (pv 1) (Ab B5) y4) A8))) A8))) (A6 (E9 (A6 (E8 (PP K) (pv 1) B5 (λ_ _=>rfl)) A8)) A8))))) D0)
   (B4 (C0 (J6 (A6 (E9 (A6 (g7 (T7 K) T.az Q0 (A6 (pv 2) A8)) (A6 (W9 (N':=["_law_pair","_law_deed_here"]) (cap:=[none,some 1]) (cl:=[("_law_deed_here",_)]) (P4 ⟨⟨rfl,rfl,rfl,rfl⟩,trivial⟩ ⟨rfl,trivial⟩) rfl (MW K (pv 3)) (λ_ _ _ _=>by exact⟨(LS 0),(P0 (B8 (Sk K hr.units) (pv 0) (Y1 (UO K) (pv 1) (Ab B5) y4) (D8 _))),(pv 0)⟩)) A8))) (A6 (E9 (A6 (E8 (PP K) (pv 1) B5 (λ_ _=>rfl)) A8)) A8)))))))))),?_⟩
  obtain⟨⟨a,b,e1,e2,e3,n1,n2,n3⟩,k,nm,st⟩:=id hO;obtain⟨et,okd⟩:=id hD;have ok:∀x∈ss,PySem.PyData.strOk x=true:=λx hx=>P9 (nm.1 x hx);have N:∀z,H z=none->z∉X:=λz Z hx=>hX z hx Z;have fin:∀(l x y sa:A3) (S:A0 Str) (U:A0 IZ) (O:Hp),Cv H O->O l=some (.lst [.ref x,.ref y])->O x=some (.lst (S.map V.str))->O y=some (.lst (F8 U))->H l=none->H x=none->H y=none ->
    (∀q∈U,G0 O q/\q.1∉X)->i6 S->OG S U->S=d.names ss->(U.map λq=>q.2)=d.prs (ps.map λq=>q.2)->∀r,O r=none->Q (.ref r) (II O r (.tup [.ref l,.ref sa])) :=
   λl x y sa S U O s el ex ey l0 x0 y0 pn nm2 st2 hn hp r hr=>by
    have u:=Cv.new (o:=.tup [.ref l,.ref sa]) hr;exact q r l sa S U _ (s.trans u) (s.free hr) A7 ⟨⟨x,y,u _ _ el,u _ _ ex,u _ _ ey,N l l0,N x x0,N y y0⟩,λq m=>⟨u _ _ (pn q m).1,(pn q m).2⟩,nm2,st2⟩ hn hp
  refine B3 λN1 hN1=>?_;refine⟨_,rfl,o,_,rfl,IR.of e1,rfl,_,C3 rfl (C4 rfl rfl (hN1 _ _ (B3 λN2 hN2=>?_)))⟩;have g:∀{x y:Str},x≠y->decide (V.str x=V.str y)=false:=λh=>AL λz=>h (V.str.inj z);cases d with
  | pn y =>
   obtain⟨hc1,hc2⟩:=hc;refine C3 rfl ⟨2,rfl,.inr ⟨t,_,rfl,JG.of et,by show HT.JU 2 0 none=0/\HT.JU 2 2 (some 2)=2;decide,?_⟩⟩;refine⟨t,_,rfl,JG.of et,rfl,_,C3 rfl (C4 rfl rfl (hN2 _ _ (B3 λN3 W=>?_)))⟩;refine C3 rfl ⟨rfl,_,rfl,Z7 ?_⟩;refine C3 rfl (C3 rfl ⟨by show 1<=sizeLine;decide,λl1 hl1=>?_⟩);have u1:=Cv.new (o:=.lst [V.str y]) hl1;have f1:(II H l1 (.lst [V.str y])) l1=some (.lst [V.str y]):=A7;generalize II H l1 (.lst [V.str y])=O at u1 f1⊢;refine⟨a,l1,_,_,rfl,rfl,u1 _ _ e2,f1,by rw[AB,sizeLine_eq];show ss.length+1<=_;have:=hf.1;lia,λj D=>?_⟩;have u2:=Cv.new (o:=.lst (ss.map V.str ++ [V.str y])) D;have Y:(II O j (.lst (ss.map V.str ++ [V.str y]))) j=some (.lst ((ss ++ [y]).map V.str)):=by rw[A7,AH];rfl
   generalize II O j (.lst (ss.map V.str ++ [V.str y]))=H2 at u2 Y⊢;have G:=u1.trans u2;refine C3 rfl ⟨b,_,rfl,.inl (IR.of (G _ _ e3)),λI hl3=>?_⟩;have u3:=Cv.new (o:=.lst (F8 ps)) hl3;have f3:(II H2 I (.lst (F8 ps))) I=some (.lst (F8 ps)):=A7;have Y:=u3 _ _ Y;generalize II H2 I (.lst (F8 ps))=L at u3 Y f3⊢;have M:=G.trans u3;refine⟨by show 2<=sizeLine;decide,λC p=>?_⟩;have B:=Cv.new (o:=.lst [.ref j,.ref I]) p;have R:(II L C (.lst [.ref j,.ref I])) C=some (.lst [.ref j,.ref I]):=A7;generalize II L C (.lst [.ref j,.ref I])=H4 at B R⊢;have s4:=M.trans B;refine C3 rfl ⟨by show 1<=sizeLine;decide,λl5 hl5=>?_⟩;have u5:=Cv.new (o:=.lst [V.str y]) hl5;have u45:=B.trans u5;have s5:=s4.trans u5;refine⟨by show 2<=sizeLine;decide,fin C j I l5 (ss ++ [y]) ps _ s5 (u5 _ _ R) (u45 _ _ Y) (u45 _ _ f3) (M.free p) (u1.free D) (G.free hl3) (λq m=>⟨s5 _ _ (k q m).1,(k q m).2⟩) ⟨λn hn=>(AN.mp hn).elim (nm.1 n) λc=>by rw[AE.mp c];exact hc1,CL.mpr ⟨nm.2.1,CN.mpr ⟨A_,DX⟩,λc hc d hd e=>hc2 (by rw[<-AE.mp hd,<-e];exact hc)⟩,by rw[AS];have:=hf.1;show ss.length+1<=100;lia⟩ ⟨λq m=>⟨AN.mpr (.inl (st.nm q m).1),AN.mpr (.inl (st.nm q m).2)⟩,st.nd,st.len⟩ rfl rfl⟩
  | tn y =>
   have v:∀z:Str,decide (V.str z=V.str y)=decide (z=y):=λz=>ER.mpr ⟨λe=>V.str.inj e,λe=>congrArg V.str e⟩;refine C3 rfl ⟨2,rfl,.inr ⟨t,_,rfl,JG.of et,by show HT.JU 2 0 none=0/\HT.JU 2 2 (some 2)=2;decide,?_⟩⟩;refine⟨t,_,rfl,JG.of et,rfl,_,C3 rfl (C4 rfl rfl (hN2 _ _ (B3 λN3 W=>?_)))⟩;refine C3 rfl ⟨rfl,_,rfl,?_⟩;rw[g (by decide +kernel)];refine O9 (W _ _ (B3 λN4 hN4=>?_));refine C3 rfl ⟨rfl,_,rfl,Z7 (B3 λN5 hN5=>?_)⟩;have P_:ps.length<=1000:=by lia
   refine C3 rfl ⟨b,rfl,⟨_,IR.of e3⟩,λD1 hD1=>?_⟩;refine zCc (λq=>decide (q.2.1=y)&&!decide (q.2.2=y)) e3 P_ hD1 (λz Z O s1 Q' hQ=>?_) (λz Z O s1 Q' hQ=>?_) (λσ O s1=>?_) _
   .have ez:=s1 _ _ (k z Z).1;refine C3 rfl ⟨z.1,_,0,_,rfl,rfl,JG.of ez,rfl,C3 rfl ⟨rfl,_,rfl,?_⟩⟩;rw[v];by_cases c:z.2.1=y
    .rw[AQ c];refine Z7 (C3 rfl ⟨z.1,_,1,_,rfl,rfl,JG.of ez,rfl,C3 rfl ⟨rfl,_,rfl,?_⟩⟩);rw[v];rw[AQ c,IC]at hQ;exact hQ
    .rw[AL c];rw[AL c,DP]at hQ;exact O9 hQ
   .exact C3 rfl ⟨z.1,_,1,_,rfl,rfl,JG.of (s1 _ _ (k z Z).1),rfl,hQ⟩
   refine hN5 _ _ ?_;refine C3 rfl ⟨a,rfl,⟨_,IR.of (s1 _ _ e2)⟩,λD2 hD2=>?_⟩;refine V3 (λn=>!decide (n=y)) (s1 _ _ e2) (by have:=nm.2.2;lia) hD2 (λz Z H2 G Q' hQ=>?_) (λσ H2 G Y=>?_) _
   .refine C3 rfl (C3 rfl ⟨rfl,_,rfl,?_⟩);rw[v];exact hQ H2 λb o e=>e
   have s12:=s1.trans G;refine C3 rfl ⟨b,rfl,⟨_,IR.of (s12 _ _ e3)⟩,λD3 hD3=>?_⟩;refine Nb (λq=>!decide (y=q.2.1\/y=q.2.2)) (s12 _ _ e3) P_ hD3 (λz Z L M Q' hQ=>?_) (λσ L M f3=>?_) _
   .have ez:=M _ _ (s12 _ _ (k z Z).1);refine C3 rfl (C3 rfl (T9 (ss:=[z.2.1,z.2.2]) (.inr (JG.of ez)) ⟨_,rfl,?_⟩));have:(!decide (y∈[z.2.1,z.2.2]))=!decide (y=z.2.1\/y=z.2.2):=congrArg Bool.not (ER.mpr (by rw[AV,AE]));rw[this];exact hQ L λb o e=>e
   have s13:=s12.trans M;refine⟨by show 2<=sizeLine;decide,λC p=>?_⟩;have B:=Cv.new (o:=.lst [.ref D2,.ref D3]) p;have R:(II L C (.lst [.ref D2,.ref D3])) C=some (.lst [.ref D2,.ref D3]):=A7;generalize II L C (.lst [.ref D2,.ref D3])=H4 at B R⊢;have s14:=s13.trans B;refine C3 rfl ⟨by show 2<=sizeLine;decide,fin C D2 D3 D1 _ _ H4 s14 R (B _ _ (M _ _ Y)) (B _ _ f3) (s13.free p) (s1.free hD2) (s12.free hD3) (λq m=>⟨s14 _ _ (k q (AW.mp m).1).1,(k q (AW.mp m).1).2⟩) ⟨λn hn=>nm.1 n (AW.mp hn).1,nm.2.1.filter _,VE (BC ..) nm.2.2⟩ ⟨λq m=>?_,st.nd.sublist (DV.map _),VE (BC ..) st.len⟩ rfl (by show _=List.filter (λq:Str×Str=>!decide (y=q.1\/y=q.2)) (ps.map λq=>q.2);rw[GG];rfl)⟩;obtain⟨q1,q2⟩:=AW.mp m;have q3:¬(y=q.2.1\/y=q.2.2):=by simpa using q2
   exact⟨AW.mpr ⟨(st.nm q q1).1,by rw[AL λe=>q3 (.inl e.symm)];rfl⟩,AW.mpr ⟨(st.nm q q1).2,by rw[AL λe=>q3 (.inr e.symm)];rfl⟩⟩
  | ps x y =>
   obtain⟨hx,hy,hxy⟩:=hc;refine C3 rfl ⟨2,rfl,.inl ⟨t,_,rfl,JG.of et,by show ¬(HT.JU 3 0 none=0/\HT.JU 3 3 (some 2)=3);decide,λT1 hT1=>?_⟩⟩;have u0:=Cv.new (o:=.tup (Ju ((JJ.ps x y).strs.map V.str) none (some 2))) hT1;have f0:(II H T1 (.tup (Ju ((JJ.ps x y).strs.map V.str) none (some 2)))) T1=some (.tup [.str "put_strike",.str x]):=A7;generalize II H T1 (.tup (Ju ((JJ.ps x y).strs.map V.str) none (some 2)))=H0 at u0 f0⊢;refine⟨T1,_,rfl,JG.of f0,rfl,_,C3 rfl (C4 rfl rfl (hN2 _ _ (B3 λN3 W=>?_)))⟩;refine C3 rfl ⟨rfl,_,rfl,?_⟩;rw[g (by decide +kernel)];refine O9 (W _ _ (B3 λN4 hN4=>?_));refine C3 rfl ⟨rfl,_,rfl,?_⟩;rw[g (by decide +kernel)];refine O9 (hN4 _ _ (B3 λN5 hN5=>?_));refine C3 rfl ⟨rfl,_,rfl,Z7 ?_⟩;refine C3 rfl ⟨a,_,rfl,.inl (IR.of (u0 _ _ e2)),λj D=>?_⟩;have u2:=Cv.new (o:=.lst (ss.map V.str)) D;have Y:(II H0 j (.lst (ss.map V.str))) j=some (.lst (ss.map V.str)):=A7;generalize II H0 j (.lst (ss.map V.str))=H2 at u2 Y⊢;have G:=u0.trans u2;refine C3 rfl (C3 rfl ⟨1,rfl,t,_,rfl,JG.of (G _ _ et),by show ¬(HT.JU 3 0 (some 1)=0/\HT.JU 3 3 none=3);decide,λJ hT2=>⟨by show 1<=sizeLine;decide,λl1 hl1=>?_⟩⟩);have u3:=Cv.new (o:=.tup (Ju ((JJ.ps x y).strs.map V.str) (some 1) none)) hT2;have f3:(II H2 J (.tup (Ju ((JJ.ps x y).strs.map V.str) (some 1) none))) J=some (.tup [.str x,.str y]):=A7;generalize II H2 J (.tup (Ju ((JJ.ps x y).strs.map V.str) (some 1) none))=L at u3 f3 hl1⊢;have B:=Cv.new (o:=.lst [.ref J]) hl1;have R:(II L l1 (.lst [.ref J])) l1=some (.lst [.ref J]):=A7;generalize II L l1 (.lst [.ref J])=H4 at B R⊢;have M:=G.trans u3;have s4:=M.trans B;refine⟨b,l1,_,_,rfl,rfl,s4 _ _ e3,R,by unfold F8;rw[AB,sizeLine_eq];show ps.length+1<=_;lia,λI hl3=>?_⟩;have u5:=Cv.new (o:=.lst (F8 ps ++ [V.ref J])) hl3;have f5:(II H4 I (.lst (F8 ps ++ [V.ref J]))) I=some (.lst (F8 (ps ++ [(J,x,y)]))):=by rw[A7];unfold F8;rw[AH];rfl
   generalize II H4 I (.lst (F8 ps ++ [V.ref J]))=H5 at u5 f5⊢;have s5:=s4.trans u5;refine⟨by show 2<=sizeLine;decide,λC p=>?_⟩;have u6:=Cv.new (o:=.lst [.ref j,.ref I]) p;have f6:(II H5 C (.lst [.ref j,.ref I])) C=some (.lst [.ref j,.ref I]):=A7;generalize II H5 C (.lst [.ref j,.ref I])=H6 at u6 f6⊢;have s6:=s5.trans u6;refine C3 rfl ⟨t,_,2,_,rfl,rfl,JG.of (s6 _ _ et),rfl,⟨by show 1<=sizeLine;decide,λl5 hl5=>?_⟩⟩;have u7:=Cv.new (o:=.lst [V.str y]) hl5;have s7:=s6.trans u7;have u27:=(((u3.trans B).trans u5).trans u6).trans u7;have u37:=((B.trans u5).trans u6).trans u7;refine⟨by show 2<=sizeLine;decide,fin C j I l5 ss (ps ++ [(J,x,y)]) _ s7 (u7 _ _ f6) (u27 _ _ Y) ((u6.trans u7) _ _ f5) (s5.free p) (u0.free D) (s4.free hl3) (λq m=>?_) nm ⟨λq m=>?_,?_,by rw[AS];show ps.length+1<=200;lia⟩ rfl (by rw[AH];rfl)⟩
   .rcases AN.mp m with c | c
    .exact⟨s7 _ _ (k q c).1,(k q c).2⟩
    .rw[AE.mp c];exact⟨u37 _ _ f3,N J (G.free hT2)⟩
   .rcases AN.mp m with c | c
    .exact st.nm q c
    .rw[AE.mp c];exact⟨hx,hy⟩
   .rw[AH];exact CL.mpr ⟨st.nd,CN.mpr ⟨A_,DX⟩,λc hc d hd e=>hxy (by rw[AE.mp hd]at e;exact(show c =(x,y)from e)▸hc)⟩
  | ts x y =>
   obtain⟨hx,hy,hxy⟩:=hc;have ox:PySem.PyData.strOk x=true/\PySem.PyData.strOk y=true:=⟨ok x hx,ok y hy⟩;have okp:∀q∈ps,PySem.PyData.strOk q.2.1=true/\PySem.PyData.strOk q.2.2=true:=λq m=>⟨ok _ (st.nm q m).1,ok _ (st.nm q m).2⟩;refine C3 rfl ⟨2,rfl,.inl ⟨t,_,rfl,JG.of et,by show ¬(HT.JU 3 0 none=0/\HT.JU 3 3 (some 2)=3);decide,λT1 hT1=>?_⟩⟩;have u0:=Cv.new (o:=.tup (Ju ((JJ.ts x y).strs.map V.str) none (some 2))) hT1;have f0:(II H T1 (.tup (Ju ((JJ.ts x y).strs.map V.str) none (some 2)))) T1=some (.tup [.str "take_strike",.str x]):=A7;generalize II H T1 (.tup (Ju ((JJ.ts x y).strs.map V.str) none (some 2)))=H0 at u0 f0⊢;refine⟨T1,_,rfl,JG.of f0,rfl,_,C3 rfl (C4 rfl rfl (hN2 _ _ (B3 λN3 W=>?_)))⟩;refine C3 rfl ⟨rfl,_,rfl,?_⟩;rw[g (by decide +kernel)];refine O9 (W _ _ (B3 λN4 hN4=>?_));refine C3 rfl ⟨rfl,_,rfl,?_⟩;rw[g (by decide +kernel)];refine O9 (hN4 _ _ (B3 λN5 hN5=>?_));refine C3 rfl ⟨rfl,_,rfl,?_⟩;rw[g (by decide +kernel)];refine O9 (hN5 _ _ ?_);refine C3 rfl ⟨a,_,rfl,.inl (IR.of (u0 _ _ e2)),λj D=>?_⟩;have u2:=Cv.new (o:=.lst (ss.map V.str)) D;have Y:(II H0 j (.lst (ss.map V.str))) j=some (.lst (ss.map V.str)):=A7;generalize II H0 j (.lst (ss.map V.str))=H2 at u2 Y⊢;have G:=u0.trans u2;refine C3 rfl ⟨b,rfl,⟨_,IR.of (G _ _ e3)⟩,λD3 hD3=>?_⟩;refine Nb (λq=>!decide (q.2 =(x,y))) (G _ _ e3) (by lia) hD3 (λz Z L M Q' hQ=>?_) (λσ L M f3=>?_) _
   .have ez:=M _ _ (G _ _ (k z Z).1);refine C3 rfl (C3 rfl ⟨1,rfl,t,_,rfl,JG.of (M _ _ (G _ _ et)),by show ¬(HT.JU 3 0 (some 1)=0/\HT.JU 3 3 none=3);decide,λJ hT2=>?_⟩);have B:=Cv.new (o:=.tup (Ju ((JJ.ts x y).strs.map V.str) (some 1) none)) hT2;have R:(II L J (.tup (Ju ((JJ.ts x y).strs.map V.str) (some 1) none))) J=some (.tup [.str x,.str y]):=A7;generalize II L J (.tup (Ju ((JJ.ts x y).strs.map V.str) (some 1) none))=H4 at B R⊢;refine⟨pd z.2,pd (x,y),y8 (B _ _ ez),y8 R,⟨Dp (okp z Z).1 (okp z Z).2,by simp[pd,PyData.depth,PyData.depthAll]⟩,⟨Dp ox.1 ox.2,by simp[pd,PyData.depth,PyData.depthAll]⟩,?_⟩;rw[Ty];exact⟨_,rfl,hQ _ B⟩
   have s13:=G.trans M;refine⟨by show 2<=sizeLine;decide,λC p=>?_⟩;have B:=Cv.new (o:=.lst [.ref j,.ref D3]) p;have R:(II L C (.lst [.ref j,.ref D3])) C=some (.lst [.ref j,.ref D3]):=A7;generalize II L C (.lst [.ref j,.ref D3])=H4 at B R⊢;have s14:=s13.trans B;refine C3 rfl ⟨t,_,2,_,rfl,rfl,JG.of (s14 _ _ et),rfl,⟨by show 1<=sizeLine;decide,λl5 hl5=>?_⟩⟩;have u5:=Cv.new (o:=.lst [V.str y]) hl5;have u45:=B.trans u5;have s15:=s14.trans u5;exact⟨by show 2<=sizeLine;decide,fin C j D3 l5 ss _ _ s15 (u5 _ _ R) ((M.trans u45) _ _ Y) (u45 _ _ f3) (s13.free p) (u0.free D) (G.free hD3) (λq m=>⟨s15 _ _ (k q (AW.mp m).1).1,(k q (AW.mp m).1).2⟩) nm ⟨λq m=>st.nm q (AW.mp m).1,st.nd.sublist (DV.map _),VE (BC ..) st.len⟩ rfl (by show _=List.filter (λq:Str×Str=>!decide (q =(x,y))) (ps.map λq=>q.2);rw[GG];rfl)⟩
theorem Gh:IL ["_law_own"] ["_law_own"] (B6 NV):=Kc
def Tp:Sp:=λb H Q _=>∃(X:A0 A3) (o:A3) (a:A0 Str) (ps:A0 IZ),b = [.ref o]/\JQ X H o a ps/\Q (.int (1000 +(a.length:Int) *(ps.length:Int))) H
theorem Hf(T:Tx K mg):IU P w K mg base JW 1 T.a4.f T.a4.fd ["_law_own"] Tp:=by
 refine T.a4.F.o1 Gh λe A c s H n Q E p h=>?_
 .obtain⟨X,o,r,ps,rfl,g,q⟩:=h;refine⟨_,(B4 (C0 (G8 X3 B5 (G8 w4 (F9 (T0 K) T.ax Q5 (A6 (E8 (K_ K) (pv 0) B5 (λ_ _=>rfl)) A8)) (F9 (T0 K) T.ax Q5 (A6 (E8 (K_ K) (pv 0) B5 (λ_ _=>rfl)) A8)))))),?_⟩;obtain⟨⟨a,b,d,i,j,t,u,v⟩,k,l,st⟩:=id g;have x:=l.2.2;have y:=st.len;refine C3 rfl ⟨o,_,0,_,rfl,rfl,IR.of d,rfl,a,_,rfl,.inl (IR.of i),C3 rfl ⟨o,_,1,_,rfl,rfl,IR.of d,rfl,b,_,rfl,.inl (IR.of j),?_⟩⟩;have m:(F8 ps).length=ps.length:=by unfold F8;rw[AB]
  rw[AB,m];exact C4 rfl rfl ⟨.inl ⟨by lia,by lia⟩,C4 rfl rfl q⟩
def Sh:Sp:=λ_ _ _ _=>False
theorem zAd{f:A3}{a:I7}{ps:A0 Str}:IU P w K mg base JW 0 f a ps Sh:=⟨λ_ _ _ _ h=>h.elim,λ_ _ _ _ _ _ _ _ _ _ _ _ _ h=>h.elim⟩
theorem IU.calm{P:IE}{w:IJ}{K:VA}{mg:Str->A5 A2}{base:IP}{CX:RS}{k:Nat}{f:A3}{b:I7}{ps:A0 Str}{sp:Sp}(F:IU P w K mg base JW k f b ps sp):IU P w K mg base CX k f b ps sp :=
 ⟨F.len,λA a s H args c d Q E g i j l m=>FC (F.run A a s H args c d Q E g i j l m) λr n h=>by
  cases r with
  | ok v=>cases v<;>exact h
  | error e=>exact h.elim⟩
def JJ.lead(a:A0 IZ):JJ->A0 Str
 | .pn y=>[y]
 | .tn y=>(C6 a y).filter λn=>!decide (n=y)
 | .ps _ b=>[b]
 | .ts _ b=>[b]
theorem JL:IL ["_law_keeper","_law_deed_here","_law_caught","_law_found","_law_error"] ["_law_keeper","_law_deed_here"] (B6 OZ):=Kc
def Wf(g h:A3):Sp:=λj H Q _=>∃(k p t:A3) (e:A0 Str) (c:A0 IZ) (n:A0 Str) (m:Nat) (d:JJ),j = [.ref k,.ref t]/\KB g h H k p e c n m/\m<=1000/\M_ H t d/\d.fit e c/\d.can e c /\
 ∀r l i a b ts f,Bt k p H f->H r=none->H l=none->(eK f k p) r=some (.tup [.str "told",.ref l])->KB g h f k p a b ts (m+1)->QZ e c a b (d.lead c) ts->a.Perm (d.names e)->(b.map λq=>q.2).Perm (d.prs (c.map λq=>q.2))->R3 (eK f k p) l i->(i.map λq=>q.2)=Mc (WG e c) (J7 (B2 b)) a->Q (.ref r) f
set_option maxHeartbeats 1000000 in
theorem Lm(T:Tx K mg):IU P w K mg base JW 9 T.bh.f T.bh.fd ["_law_keeper","_law_deed_here"] (Wf T.aa T.ac):=by
 have n:IU P w K mg base (QV P w) 8 T.av.f T.av.fd ["self","name"] (Dx T.aa T.ac):=Sw.IU.calm (Ah T);have j:IU P w K mg base (QV P w) 8 T.au.f T.au.fd ["self","name"] (Bx T.aa T.ac):=Sw.IU.calm (y7 T);have c:IU P w K mg base (QV P w) 8 T.ar.f T.ar.fd ["self","one","other"] (Al T.aa T.ac):=Sw.IU.calm (t4 T);have a:IU P w K mg base (QV P w) 8 T.aq.f T.aq.fd ["self","one","other"] (w5 T.aa T.ac):=Sw.IU.calm (i9 T);have C:IU P w K mg base JW 0 T.aQ.f T.aQ.fd ["_law_error"] Sh:=zAd;refine T.bh.F.o1 JL λcdv A outer s H vs Q E I h=>?_
 .obtain⟨k,p,t,N,O,rk,m,d,rfl,hK,lm,hD,hf,R,q⟩:=h;have hu:=Q6 I;refine⟨_,(A9 (C8 (i:=2) JL.nd rfl (.inl rfl) U3)
   (A9 (C8 (i:=3) JL.nd rfl (.inl rfl) U3)
   (A9 (Va (i:=4) (λ_ _ z=>z) rfl rfl JL.nd rfl rfl rfl T.bp T.bo (Mv (λ_ _ z=>z) (B8 X1 (E8 (PP K) (pv 1) B5 (λ_ _=>rfl)) C2 (D8 _)) (Go (i:=3) JL.nd rfl (.inl rfl) (m9 (λ_ _ z=>z) (pv 0) T.ab T.av.m n (Rm I) T.av.b (A6 (E8 (PP K) (pv 1) B5 (λ_ _=>rfl)) A8))) (Mv (λ_ _ z=>z) (B8 X1 (E8 (PP K) (pv 1) B5 (λ_ _=>rfl)) C2 (D8 _)) (Go (i:=3) JL.nd rfl (.inl rfl) (m9 (λ_ _ z=>z) (pv 0) T.ab T.au.m j (Rm I) T.au.b (A6 (E8 (PP K) (pv 1) B5 (λ_ _=>rfl)) A8))) (Mv (λ_ _ z=>z) (B8 X1 (E8 (PP K) (pv 1) B5 (λ_ _=>rfl)) C2 (D8 _)) (Go (i:=3) JL.nd rfl (.inl rfl) (m9 (λ_ _ z=>z) (pv 0) T.ab T.ar.m c (Rm I) T.ar.b (A6 (E8 (PP K) (pv 1) B5 (λ_ _=>rfl)) (A6 (E8 (PP K) (pv 1) B5 (λ_ _=>rfl)) A8)))) (Go (i:=3) JL.nd rfl (.inl rfl) (m9 (λ_ _ z=>z) (pv 0) T.ab T.aq.m a (Rm I) T.aq.b (A6 (E8 (PP K) (pv 1) B5 (λ_ _=>rfl)) (A6 (E8 (PP K) (pv 1) B5 (λ_ _=>rfl)) A8)))))))
   (λ_=>(B4 (C8 (i:=2) JL.nd rfl (.inl rfl) (pv 4)))))
   (B4 (C0 (As (B8 Uu (pv 2) U3 (D8 _)) (J6 (A6 C2 (A6 (pv 3) A8))) (J6 (A6 C2 (A6 (D9 T.aQ C (Rm I) (A6 (pv 2) A8)) A8))))))))),?_⟩
  obtain⟨dk,x0,g0,r0,kv0,ks0,rl0,pl0,hk,_,_,_,_,_,hp,_⟩:=id hK.ex;obtain⟨D,okd⟩:=id hD;have g:∀{x y:Str},x≠y->decide (V.str x=V.str y)=false:=λh=>AL λz=>h (V.str.inj z);have S:∀(l:A3) (J:A0 (A3×Row3)) (B ts:A0 Str) (v:A0 IZ) (G:Hp),Bt k p H G->H l=none->KB T.aa T.ac G k p B v ts (m+1)->QZ N O B v (d.lead O) ts->B.Perm (d.names N)->(v.map λq=>q.2).Perm (d.prs (O.map λq=>q.2))->R3 (eK G k p) l J->(J.map λq=>q.2)=Mc (WG N O) (J7 (B2 v)) B->∀r,G r=none->Q (.ref r) (II G r (.tup [.str "told",.ref l])) :=
   λl J B ts v G L U M W pn X Y Z r I=>by
    obtain⟨dk1,x1,g1,r1,kv1,ks1,rl1,pl1,hk1,_,_,_,_,_,hp1,_⟩:=M.ex;have rk:r≠k:=(B0 hk1 I).symm;have rp:r≠p:=(B0 hp1 I).symm;have u:=Cv.new (o:=.tup [.str "told",.ref l]) I;have r0:H r=none:=by
     cases e:H r with
     | none=>rfl
     | some o=>rw[L r o rk rp e]at I;cases I
    exact q r l J B v ts _ (L.trans (Bt.of u)) r0 U (by rw[R8 rk rp];exact A7) (M.same u) W pn X (Y.same (Bt.of u).eK) Z
  refine B3 λN1 hN1=>?_;refine hN1 _ _ (B3 λN2 hN2=>hN2 _ _ (B3 λN3 hN3=>?_));cases d with
  | pn y =>
   refine C3 rfl ⟨t,_,0,_,rfl,rfl,JG.of D,rfl,⟨rfl,_,rfl,Z7 ?_⟩⟩;refine C3 rfl ⟨k,dk,C3 rfl ⟨hk,rfl,C3 rfl ⟨t,_,1,_,rfl,rfl,JG.of D,rfl,?_⟩⟩⟩;refine⟨k,p,y,N,O,rk,m,rfl,hK,lm,R.1,R.2,by have:=hf.1;lia,λl J B v ts G L M W pn X U Y Z=>hN3 _ _ ?_⟩;exact C3 rfl ⟨rfl,_,rfl,Z7 (C3 rfl ⟨by show 2<=sizeLine;decide,S l J B ts v G L U M W pn (X.map _) Y Z⟩)⟩
  | tn y =>
   refine C3 rfl ⟨t,_,0,_,rfl,rfl,JG.of D,rfl,⟨rfl,_,rfl,?_⟩⟩;rw[g (by decide +kernel)];refine O9 (C3 rfl ⟨t,_,0,_,rfl,rfl,JG.of D,rfl,⟨rfl,_,rfl,Z7 ?_⟩⟩);refine C3 rfl ⟨k,dk,C3 rfl ⟨hk,rfl,C3 rfl ⟨t,_,1,_,rfl,rfl,JG.of D,rfl,?_⟩⟩⟩;refine⟨k,p,y,N,O,rk,m,rfl,hK,lm,R,λl J B v ts G L M W en X U Y Z=>hN3 _ _ ?_⟩;exact C3 rfl ⟨rfl,_,rfl,Z7 (C3 rfl ⟨by show 2<=sizeLine;decide,S l J B ts v G L U M W (.of_eq en) X Y Z⟩)⟩
  | ps x y =>
   refine C3 rfl ⟨t,_,0,_,rfl,rfl,JG.of D,rfl,⟨rfl,_,rfl,?_⟩⟩;rw[g (by decide +kernel)];refine O9 (C3 rfl ⟨t,_,0,_,rfl,rfl,JG.of D,rfl,⟨rfl,_,rfl,?_⟩⟩);rw[g (by decide +kernel)];refine O9 (C3 rfl ⟨t,_,0,_,rfl,rfl,JG.of D,rfl,⟨rfl,_,rfl,Z7 ?_⟩⟩);refine C3 rfl ⟨k,dk,C3 rfl ⟨hk,rfl,C3 rfl ⟨t,_,1,_,rfl,rfl,JG.of D,rfl,C3 rfl ⟨t,_,2,_,rfl,rfl,JG.of D,rfl,?_⟩⟩⟩⟩;refine⟨k,p,x,y,N,O,rk,m,rfl,hK,lm,R.1,R.2.1,R.2.2,by have:O.length+1<=140:=hf;lia,λl J v ts G L M W X U Y Z=>hN3 _ _ ?_⟩;exact C3 rfl ⟨rfl,_,rfl,Z7 (C3 rfl ⟨by show 2<=sizeLine;decide,S l J N ts v G L U M W (.refl _) X Y Z⟩)⟩
  | ts x y =>
   refine C3 rfl ⟨t,_,0,_,rfl,rfl,JG.of D,rfl,⟨rfl,_,rfl,?_⟩⟩;rw[g (by decide +kernel)];refine O9 (C3 rfl ⟨t,_,0,_,rfl,rfl,JG.of D,rfl,⟨rfl,_,rfl,?_⟩⟩);rw[g (by decide +kernel)];refine O9 (C3 rfl ⟨t,_,0,_,rfl,rfl,JG.of D,rfl,⟨rfl,_,rfl,?_⟩⟩);rw[g (by decide +kernel)];refine O9 ?_;refine C3 rfl ⟨k,dk,C3 rfl ⟨hk,rfl,C3 rfl ⟨t,_,1,_,rfl,rfl,JG.of D,rfl,C3 rfl ⟨t,_,2,_,rfl,rfl,JG.of D,rfl,?_⟩⟩⟩⟩;refine⟨k,p,x,y,N,O,rk,m,rfl,hK,lm,R.1,R.2.1,R.2.2,λl J v ts G L M W X U Y Z=>hN3 _ _ ?_⟩;exact C3 rfl ⟨rfl,_,rfl,Z7 (C3 rfl ⟨by show 2<=sizeLine;decide,S l J N ts v G L U M W (.refl _) X Y Z⟩)⟩
def Ry:Sp:=λ_ _ _ _=>False
def Wt{K:VA}{x:Str}{H:Hp}{Q:VK}(o:PySem.PyData.strOk x=true)(q:Q (.bl true) H):TX K (.str x) (.str x) H Q:=by
 have e:Rp K H (.str x) (.str x):=by simp only[Rp]
 have p:Pl (.str x):=⟨by rw[PyData.canLay0];exact o,by rw[PyData.depth];decide⟩;exact⟨_,_,e,e,p,p,by rw[PySem.SeqAt.eqv_refl _ p.1];exact q⟩
def tyB(b:Bool):A2:=.type (bif b then "list" else "tuple")
def zGm{K:VA}:∀b,PySem.W.kitOne K (tyB b) (.type "list")=some b
 | true=>rfl
 | false=>rfl
def zFd{K:VA}:∀b,PySem.W.kitOne K (tyB b) (.type "tuple")=some !b
 | true=>rfl
 | false=>rfl
def zHy{K:VA}:∀b,PySem.W.kitAny K (tyB b) (["list","tuple"].map Value.type)=some true
 | true=>rfl
 | false=>rfl
def zDi(b:Bool):(!decide (V.bl b=V.bl b))=false:=congrArg _ (AQ rfl)
def LT(b:Bool)(xs:A0 V):HO:=bif b then .lst xs else .tup xs
def Vf{K:VA}{H:Hp}{l:A3}{xs:A0 V}:∀{b:Bool},H l=some (LT b xs)->MX K H (.ref l) (tyB b)
 | true,h=>.lst h
 | false,h=>.tup h
def zDb{H:Hp}{l:A3}{xs:A0 V}:∀{b:Bool},H l=some (LT b xs)->H l=some (.lst xs)\/H l=some (.tup xs)
 | true,h=>.inl h
 | false,h=>.inr h
def sqB(K:VA)(b:Bool):Hp->A3->A0 V->Prop:=bif b then IR K else JG K
def Ov{K:VA}{H:Hp}{l:A3}{xs:A0 V}:∀{b:Bool},H l=some (LT b xs)->sqB K b H l xs
 | true,h=>IR.of h
 | false,h=>JG.of h
def Zc{K:VA}{H:Hp}{l:A3}{xs:A0 V}{b:Bool}(h:H l=some (LT b xs)):RG K H l xs:=(zDb h).imp IR.of JG.of
def zDt{K:VA}{H:Hp}{l m:A3}{xs c:A0 V}{R:It->Hp->Prop}:∀{b:Bool},H l=some (LT b xs)->H m=some (LT b c)->R (TW (sqB K b) l m) H->zIf K R l m xs c H
 | true,h,a,q=>.inl ⟨IR.of h,IR.of a,q⟩
 | false,h,a,q=>.inr ⟨JG.of h,JG.of a,q⟩
theorem Kz:IL ["_law_found","_law_due"] ["_law_found","_law_due"] (B6 OU):=Kc
theorem zBk{f:A3}{a:I7}{ps:A0 Str}:IU P w K mg base JW 0 f a ps Ry:=⟨λ_ _ _ _ h=>h.elim,λ_ _ _ _ _ _ _ _ _ _ _ _ _ h=>h.elim⟩
def Ud(S:Sp):Sp:=λg H Q _=>(∃a:Str,g = [.str a,.str a]/\PySem.PyData.strOk a=true/\∀c,Cv H c->Q (.bl true) c) \/
 ∃(l m:A3) (b:Bool) (e f:A0 V),g = [.ref l,.ref m]/\H l=some (LT b e)/\H m=some (LT b f)/\e.length=f.length/\e.length<=1000 /\
  (∀(i:Nat) (x y:V) (c:Hp) (h:VK) (E:XK),e[i]?=some x->f[i]?=some y->Cv H c->(∀d,Cv c d->h (.bl true) d)->S [x,y] c h E)/\∀c,Cv H c->Q (.bl true) c
theorem Jx(T:Tx K mg){n:Nat}{S:Sp}(c:IU P w K mg base JW n T.an.f T.an.fd ["_law_found","_law_due"] S):IU P w K mg base JW (n+1) T.an.f T.an.fd ["_law_found","_law_due"] (Ud S):=by
 refine T.an.F.ok Kz (λZ H Q E h=>?_) (λcdv A C s H Z Q E z h=>?_)
 .rcases h with⟨a,rfl,_⟩ | ⟨l,m,b,v,O,rfl,_⟩
  .rfl
  .rfl
 .refine⟨_,(A9 (K0 (J9 (F9 (Wn K) T.ae B9 (A6 (pv 1) (A6 (J6 (A6 (i7 T.az Q0) (A6 (i7 T.bn Cj) A8))) A8)))) (A9 (K0 (PW.pt (c9 (B8 Ed (F9 (S9 K) T.ae B9 (A6 (pv 0) (A6 (i7 T.az Q0) A8))) (F9 (S9 K) T.ae B9 (A6 (pv 1) (A6 (i7 T.az Q0) A8))) (D8 _)) (U2 (B8 Ed (F9 (S9 K) T.ae B9 (A6 (pv 0) (A6 (i7 T.bn Cj) A8))) (F9 (S9 K) T.ae B9 (A6 (pv 1) (A6 (i7 T.bn Cj) A8))) (D8 _))))) (B4 (C0 j4)) D0)
   (B4 (C0 (Bw (R0 X1 (F9 (T0 K) T.ax Q5 (A6 (pv 0) A8)) (F9 (T0 K) T.ax Q5 (A6 (pv 1) A8)) (D8 _)) (Cw (F9 (Vm K) T.bF Uv (A6 (W9 (N':=["_law_one","_law_other"]) (cap:=[none,none]) (cl:=[]) (P4 trivial trivial) rfl (zJi K T.b6 (A6 (pv 0) (A6 (pv 1) A8))) (λ_ _ _ _=>by exact⟨(RR K (n:=2) (E7 (LS 0) (E7 (LS 1) S5))),P1,(D9 T.an c (z.mono (VD _)) (A6 (pv 0) (A6 (pv 1) A8)))⟩)) A8))))))) D0)
   (A9 (K0 (PW.pt (c9 (B8 Uu (pv 1) U3 (D8 _)) (U2 (J9 (F9 (S9 K) T.ae B9 (A6 (pv 1) (A6 (i7 T.bv Nc) A8))))))) (B4 (C0 (Bw (R0 (On K z.units) (pv 0) (pv 1) (D8 _)) (Cw (R0 X1 (F9 (S9 K) T.ae B9 (A6 (pv 0) (A6 (i7 T.bv Nc) A8))) (F9 (S9 K) T.ae B9 (A6 (pv 1) (A6 (i7 T.bv Nc) A8))) (D8 _)))))) D0)
   (A9 (K0 (J9 (F9 (S9 K) T.ae B9 (A6 (pv 1) (A6 (i7 T.bu Gx) A8)))) (B4 (C0 (Bw (F9 (S9 K) T.ae B9 (A6 (pv 0) (A6 (i7 T.bu Gx) A8))) (Cw (R0 (On K z.units) (pv 0) (pv 1) (D8 _)))))) D0)
   (B4 (C0 (Bw (F9 (S9 K) T.ae B9 (A6 (pv 0) (A6 (i7 T.bZ Zl) A8))) (Bw (zFt (F9 (S9 K) T.ae B9 (A6 (pv 0) (A6 (i7 T.bu Gx) A8)))) (Cw (R0 (On K z.units) (pv 0) (pv 1) (D8 _)))))))))),?_⟩
  rcases h with⟨b,rfl,ob,q⟩ | ⟨l,m,b,v,O,rfl,hl,hm,B,len,hS,q⟩
  .refine C3 rfl ⟨by show 2<=sizeLine;decide,λt G=>?_⟩;have j:=Cv.new (o:=.tup [.ty "list",.ty "tuple"]) G;refine⟨.str b,t,["list","tuple"],_,false,rfl,A7,.str b,.inl ⟨b,rfl⟩,rfl,?_⟩;generalize II H t (.tup [.ty "list",.ty "tuple"])=R at j⊢;refine C3 rfl (O9 ?_);refine C3 rfl ⟨rfl,C3 rfl (O9 ?_)⟩;refine C3 rfl ⟨.str b, "str",_,true,rfl,.str b,rfl,C3 rfl (Z7 ?_)⟩;refine C3 rfl (C3 rfl (Wt ob ⟨_,rfl,Z7 ?_⟩));refine C3 rfl ⟨.str b, "str",_,true,rfl,.str b,rfl,C3 rfl ⟨.str b, "str",_,true,rfl,.str b,rfl,?_⟩⟩;exact⟨rfl,q _ j⟩
  .refine C3 rfl ⟨by show 2<=sizeLine;decide,λt G=>?_⟩;have j:=Cv.new (o:=.tup [.ty "list",.ty "tuple"]) G;have p:=j _ _ hl;have g:=j _ _ hm;refine⟨.ref m,t,["list","tuple"],_,true,rfl,A7,Vf g,.inr ⟨m,_,rfl,zDb g⟩,zHy b,?_⟩;generalize II H t (.tup [.ty "list",.ty "tuple"])=R at j p g⊢;refine C3 rfl (Z7 ?_);refine C3 rfl ⟨.ref l, "list",_,b,rfl,Vf p,zGm b,C3 rfl ⟨.ref m, "list",_,b,rfl,Vf g,zGm b,rfl,?_⟩⟩;refine⟨false,congrArg V.bl (zDi b),O9 ?_⟩;refine C3 rfl ⟨.ref l, "tuple",_,_,rfl,Vf p,zFd b,C3 rfl ⟨.ref m, "tuple",_,_,rfl,Vf g,zFd b,rfl,?_⟩⟩;refine⟨false,congrArg V.bl (zDi !b),O9 ?_⟩;refine C3 rfl (C4 (a:=l) rfl (Zc p) (C3 rfl (C4 (a:=m) rfl (Zc g) ⟨rfl,C3 rfl ?_⟩)));refine w8 (λ_=>?_) (λh=>absurd (AQ (congrArg (λk:Nat=>V.int k) B)) h);refine C3 rfl (C3 rfl ⟨l,m,v,O,?_⟩);refine⟨rfl,zDt p g λD U=>?_⟩;refine Iz (n:=v.length) (λi σ r=>(∃W X,σ = [W,X])/\Cv R r/\r D=some (.lst ((List.replicate i true).map V.bl))) ⟨⟨_,_,rfl⟩,Cv.new U,A7⟩ ?_ ?_ ?_ ?_
   .rintro i σ r I ⟨_,d,_⟩;exact⟨_,_,_,_,Ov (d _ _ p),Ov (d _ _ g),VF B,AF I,AF (B▸I)⟩
   .rintro σ r ⟨_,d,_⟩;exact⟨_,_,Ov (d _ _ p),Ov (d _ _ g),VF B,rfl⟩
   .rintro i σ r x H3 N I ⟨⟨W,X,rfl⟩,d,J⟩ ⟨u,x,y,rfl,hu,rfl,L,hy⟩ hN;have M:=Cv.new (o:=.tup [x,y]) hu;refine⟨u,C3 rfl ⟨JG.of A7,rfl,_,C3 rfl (C4 rfl rfl ?_)⟩⟩;refine C3 rfl (C3 rfl (hS i x y _ _ _ (L _ (Ov (d _ _ p))) (hy _ (Ov (d _ _ g))) ((j.trans d).trans M) λH4 Y=>?_));refine⟨_,Y _ _ (M _ _ J),by rw[AB,GJ,sizeLine_eq];lia,hN _ _ ⟨⟨_,_,rfl⟩,((d.trans M).trans Y).upd U,?_⟩⟩;rw[A7,List.replicate_succ',AH];rfl
   .rintro σ r ⟨_,d,J⟩;have e:(List.replicate v.length true).all id=true:=EA.mpr λx L=>(List.mem_replicate.mp L).2;have q':Q (.bl ((List.replicate v.length true).all id)) r:=e.symm▸q _ (j.trans d);exact⟨D,_,rfl,IR.of J,q'⟩
def RM(b:Bool)(a:A0 PyData):PyData:=bif b then .list a else .tuple a
def ad(b:Bool)(l:A3):A0 A3:=bif b then [l]else []
def Ow(H:Hp):Nat->PyData->V->A0 A3->Prop
 | 0,_,_,_=>False
 | n+1,d,v,L=>(∃s:Str,d = .str s/\v = .str s/\PySem.PyData.strOk s=true/\L = []) \/
  ∃(b:Bool) (l:A3) (a:A0 V) (c:A0 PyData) (e:A0 (A0 A3)),d=RM b c/\v = .ref l/\H l=some (LT b a)/\a.length=c.length/\a.length=e.length/\a.length<=200/\L=ad b l++e.flatten /\
   ∀(i:Nat) f x M,c[i]?=some f->a[i]?=some x->e[i]?=some M->Ow H n f x M
def Ow.keep{H H':Hp}{X:A0 A3}(k:∀a o,H a=some o->a∉X->H' a=some o)(c:∀x∈X,∀xs,H x≠some (.tup xs)):∀{n:Nat} {d:PyData} {v:V} {L:A0 A3},(∀l∈L,l∉X)->Ow H n d v L->Ow H' n d v L
 | 0,_,_,_,_,h=>h.elim
 | _+1,_,_,_,_,.inl h=>.inl h
 | n+1,_,_,_,e,.inr ⟨b,l,xs,j,m,p,q,f,r,s,t,u,h⟩=>by
  subst u;refine .inr ⟨b,l,xs,j,m,p,q,k _ _ f ?_,r,s,t,rfl,λi w x M A B g=>(h i w x M A B g).keep k c λy C=>e y (BO _ (List.mem_flatten.mpr ⟨M,AZ g,C⟩))⟩;cases b with
  | true=>exact e l (.head _)
  | false=>exact λz=>c l z xs f
def Ow.same{H H':Hp}(s:Cv H H'){n:Nat}{d:PyData}{v:V}{L:A0 A3}(h:Ow H n d v L):Ow H' n d v L:=h.keep (X:=[]) (λa o e _=>s a o e) (λx z=>by cases z) λl _ z=>by cases z
def Ow.str{H:Hp}{n:Nat}{s:Str}(h:PySem.PyData.strOk s=true):Ow H (n+1) (.str s) (.str s) []:=.inl ⟨s,rfl,rfl,h,rfl⟩
def Ow.LT{H:Hp}{n:Nat}{b:Bool}{l:A3}{xs:A0 V}{a:A0 PyData}{Ls:A0 (A0 A3)}(e:H l=some (Sw.LT b xs))(c:xs.length=a.length)(l2:xs.length=Ls.length)(d:xs.length<=200)(h:∀(i:Nat) d' x M,a[i]?=some d'->xs[i]?=some x->Ls[i]?=some M->Ow H n d' x M):Ow H (n+1) (RM b a) (.ref l) (ad b l++Ls.flatten):=.inr ⟨b,l,xs,a,Ls,rfl,rfl,e,c,l2,d,rfl,h⟩
def Lz{α:Type}:∀n:Nat,(List.replicate n ([]:A0 α)).flatten = []
 | 0=>rfl
 | n+1=>by rw[DD,FO,Lz n];rfl
def Ow.flat{H:Hp}{n:Nat}{b:Bool}{l:A3}{xs:A0 V}{a:A0 PyData}(e:H l=some (Sw.LT b xs))(c:xs.length=a.length)(d:xs.length<=200)(h:∀(i:Nat) d' x,a[i]?=some d'->xs[i]?=some x->Ow H n d' x []):Ow H (n+1) (RM b a) (.ref l) (ad b l):=by
 have:=Ow.LT (n:=n) (Ls:=List.replicate xs.length []) e c (by rw[GJ]) d λi d' x M f g j=>by
  rw[(List.mem_replicate.mp (AZ j)).2];exact h i d' x f g
 rwa [Lz,CC]at this
def Ow.strs{H:Hp}{n:Nat}{b:Bool}{l:A3}{ss:A0 Str}(e:H l=some (Sw.LT b (ss.map V.str)))(f:∀s∈ss,PySem.PyData.strOk s=true)(g:ss.length<=200):Ow H (n+2) (RM b (ss.map PyData.str)) (.ref l) (ad b l) :=
 Ow.flat e (by rw[AB,AB]) (by rw[AB];exact g) λi h x c a=>by
  rw[AJ]at c a;obtain⟨s,d,rfl⟩:=BG.mp c;rw[d]at a;cases a;exact .str (f s (AZ d))
def n8:Nat->Sp
 | 0=>Ry
 | n+1=>Ud (n8 n)
def zBr{c a:A0 PyData}:∀{b d:Bool},RM b c=RM d a->b=d/\c=a
 | true,true,h=>⟨rfl,PyData.list.inj h⟩
 | false,false,h=>⟨rfl,PyData.tuple.inj h⟩
 | true,false,h=>by cases h
 | false,true,h=>by cases h
def Sa{a:A0 PyData}{s:Str}:∀{b:Bool},PyData.str s≠RM b a
 | true,h=>by cases h
 | false,h=>by cases h
def Ow.alike{H:Hp}:∀{n:Nat} {d:PyData} {x y:V} {L M:A0 A3} {Q:VK} {E:XK},Ow H n d x L->Ow H n d y M->(∀H',Cv H H'->Q (.bl true) H')->n8 n [x,y] H Q E
 | 0,_,_,_,_,_,_,_,h,_,_=>h.elim
 | n+1,d,x,y,_,_,Q,E,.inl ⟨s,f,j,o,_⟩,g,q=>by
  subst f j;rcases g with⟨v,a,c,_⟩ | ⟨b,l,r,k,m,a,_⟩
  .cases a;subst c;exact .inl ⟨s,rfl,o,q⟩
  .exact absurd a Sa
 | n+1,d,x,y,_,_,Q,E,.inr ⟨b,l,r,k,m,f,j,a,w,N,O,_,h⟩,g,q=>by
  subst f j;rcases g with⟨v,c,_⟩ | ⟨P,z,p,A,e,c,B,C,D,R,S,_,F⟩
  .exact absurd c.symm Sa
  .obtain⟨rfl,rfl⟩:=zBr c;subst B;refine .inr ⟨l,z,b,r,p,rfl,a,C,w.trans D.symm,by lia,λi x y H' T E t G s I=>?_,q⟩;have U:=(AK.mp t).1;have u:k[i]?=some (k[i]'(by lia)):=AF _;have J:m[i]?=some (m[i]'(by lia)):=AF _;have K:e[i]?=some (e[i]'(by lia)):=AF _;exact((h i _ x _ u t J).same s).alike ((F i _ y _ u G K).same s) I
theorem Z9(T:Tx K mg):∀n,IU P w K mg base JW n T.an.f T.an.fd ["_law_found","_law_due"] (n8 n)
 | 0=>zBk
 | n+1=>Jx T (Z9 T n)
def zCy(C:A3)(H:Hp)(E:XK):Prop:=∀a x,Cv H a->H x=none->a x=some (XO x C none)->E (.ref C) none a
def Dz(C B:A3):Sp:=λb H _ E=>∃(x:A3) (n:Str) (a:A0 Str) (c:A0 IZ),b = [.ref x,.str n]/\I1 C H x a c/\n∉a/\zCy B H E
theorem X4(T:Tx K mg):IU P w K mg base (QV P w) 1 T.af.f T.af.fd ["self","name"] (Dz T.ac T.aw):=by
 refine T.af.F.oE Y8 λi A e s H p Q E q h=>?_
 .obtain⟨x,n,r,t,rfl,⟨u,j,a,b,c,d,v,z,l,m,B,C,D,G,I,J⟩,o,k⟩:=h;refine⟨_,(B4 (K0 (B8 (X8 K) (pv 1) (LX K (pv 0)) rfl) (B4 (Uf TJ.bx T.bt T.b4 rfl T.bD (A6 C2 A8))) D0)),?_⟩;refine C3 rfl (C3 rfl ⟨x,T.ac,j,_,C3 rfl ⟨l,T.ah,T.aM,rfl,T9 (.inl (IR.of m)) ⟨_,rfl,?_⟩⟩⟩);rw[AL o];exact Z7 ⟨by show 1<=sizeLine;decide,λy g=>k _ y (Cv.new g) g A7⟩
theorem Cd(T:Tx K mg):IU P w K mg base (QV P w) 2 T.aj.f T.aj.fd ["self","name"] (Dz T.ac T.aw):=by
 refine T.aj.F.oE a7 λj A e s H u Q E g h=>?_
 .obtain⟨x,n,l,o,rfl,i,p,k⟩:=h;have q:=Q6 g;obtain⟨v,r,a,b,c,d,y,z,t,B,C,D,G,I,J,L⟩:=id i;refine⟨_,(A9 (J8 (M0 (pv 0) T.ah T.af.m (X4 T) (Rm g) T.af.b .nil TJ.bx.passes (A6 (pv 1) A8)))
   (B4 (C0 (g7 (T7 K) T.az Q0 (A6 (V7 q (LX K (pv 0)) (pv 1) (λ_ _=>rfl)) A8))))),?_⟩
  exact C3 rfl ⟨x,r,C3 rfl ⟨t,rfl,C3 rfl ⟨x,n,l,o,rfl,i,p,k⟩⟩⟩
theorem Ej(T:Tx K mg):IU P w K mg base (QV P w) 2 T.al.f T.al.fd ["self","name"] (Dz T.ac T.aw):=by
 refine T.al.F.oE Ad λj A e s H u Q E g h=>?_
 .obtain⟨x,n,l,o,rfl,i,p,k⟩:=h;have q:=Q6 g;obtain⟨v,r,a,b,c,d,y,z,t,B,C,D,G,I,J,L⟩:=id i;refine⟨_,(A9 (J8 (M0 (pv 0) T.ah T.af.m (X4 T) (Rm g) T.af.b .nil TJ.bx.passes (A6 (pv 1) A8)))
   (B4 (C0 (g7 (T7 K) T.az Q0 (A6 (V7 q (LX K (pv 0)) (pv 1) (λ_ _=>rfl)) A8))))),?_⟩
  exact C3 rfl ⟨x,r,C3 rfl ⟨t,rfl,C3 rfl ⟨x,n,l,o,rfl,i,p,k⟩⟩⟩
def PD:A0 Str:=["BadName","BadStrike","BadWeave","BadRow","NoName","NoStrike","NoMove","TooMany"]
theorem JT:IL ["_law_error","_law_words","_law_fits","_law_word","_law_place"] ["_law_error"] (B6 OX):=Kc
def Vs(C:A3):Sp:=λb H Q _=>∃x:A3,b = [.ref x]/\H x=some (XO x C none)/\∀r a,Cv H a->H r=none->a r=some (.tup [.str "NoName",.non])->Q (.ref r) a
set_option maxHeartbeats 1000000 in
theorem Ly(T:Tx K mg):IU P w K mg base JW 1 T.aQ.f T.aQ.fd ["_law_error"] (Vs T.aw):=by
 refine T.aQ.F.o1 JT λcdv A C s H vs Q E t h=>?_
 .obtain⟨x,rfl,u,q⟩:=h;have hu:=Q6 t;refine⟨_,(@A9 _ _ _ _ _ (@C8 _ _ 1 _ _ _ _ JT.nd rfl (.inl rfl) (@E9 _ _ _ _ (@A6 _ _ _ _ _ C2 (@A6 _ _ _ _ _ C2 (@A6 _ _ _ _ _ C2 (@A6 _ _ _ _ _ C2 (@A6 _ _ _ _ _ C2 (@A6 _ _ _ _ _ C2 (@A6 _ _ _ _ _ C2 (@A6 _ _ _ _ _ C2 A8 (by rfl)) (by rfl)) (by rfl)) (by rfl)) (by rfl)) (by rfl)) (by rfl)) (by rfl))) (by rfl) (by first | exact .inl rfl | exact .inr rfl | assumption))
   (A9 (C8 (i:=2) JT.nd rfl (.inl rfl) (E9 (A6 (F9 (T4 K) T.ae B9 (A6 (pv 0) (A6 (Hy T.b0) A8))) (A6 (F9 (T4 K) T.ae B9 (A6 (pv 0) (A6 (Hy T.bM) A8))) (A6 (F9 (T4 K) T.ae B9 (A6 (pv 0) (A6 (Hy T.bW) A8))) A8)))))
   (A9 (C8 (i:=2) JT.nd rfl (.inl rfl) (G8 Ap (pv 2) (E9 (A6 (F9 (T4 K) T.ae B9 (A6 (pv 0) (A6 (Hy T.b2) A8))) (A6 (F9 (T4 K) T.ae B9 (A6 (pv 0) (A6 (Hy T.bD) A8))) (A6 (F9 (T4 K) T.ae B9 (A6 (pv 0) (A6 (Hy T.bX) A8))) A8))))))
   (A9 (C8 (i:=2) JT.nd rfl (.inl rfl) (G8 Ap (pv 2) (E9 (A6 (F9 (T4 K) T.ae B9 (A6 (pv 0) (A6 (Hy T.b3) A8))) (A6 (F9 (T4 K) T.ae B9 (A6 (pv 0) (A6 (Hy T.b1) A8))) A8)))))
   (A9 (K0 (PW.pt (c9 (B8 Ed (Ph K VG PySem.F.slot_list_count PySem.F.type_list_count (Vx K) (pv 2) (A6 j4 A8)) B5 (D8 _)) (U2 (P2 (J9 (F9 (T4 K) T.ae B9 (A6 (pv 0) (A6 (i7 T.bL Hc) A8)))))))) (B4 (C0 (J6 (A6 C2 (A6 U3 A8))))) D0)
   (A9 (C8 (i:=3) JT.nd rfl (.inl rfl) (E8 (K_ K) (pv 1) (Ph K VG VJ VL (Wl K) (pv 2) (A6 j4 A8)) (λ_ _=>rfl)))
   (A9 (C8 (i:=4) JT.nd rfl (.inl rfl) (As (B8 (Od K) (pv 3) (J6 (A6 C2 (A6 C2 A8))) rfl) (LX K (pv 0)) U3))
   (B4 (C0 (As (J9 (F9 (S9 K) T.ae B9 (A6 (pv 4) (A6 (i7 T.bu Gx) A8)))) (J6 (A6 C2 (A6 U3 A8))) (J6 (A6 (pv 3) (A6 (pv 4) A8))))))))))))),?_⟩
  refine B3 λN1 D=>?_;refine⟨by show 8<=sizeLine;decide,λa ha=>D _ _ (B3 λN2 G=>?_)⟩;have I:=Cv.new (o:=.lst (PD.map V.str)) ha;have e:(II H a (.lst (PD.map V.str))) a=some (.lst (PD.map V.str)):=A7;have X:(II H a (.lst (PD.map V.str)))=II H a (.lst [.str "BadName",.str "BadStrike",.str "BadWeave",.str "BadRow",.str "NoName",.str "NoStrike",.str "NoMove",.str "TooMany"]):=rfl;rw[<-X];clear X;generalize II H a (.lst (PD.map V.str))=Y at I e⊢;have J:=I _ _ u;refine C3 rfl ⟨x,T.aw,_,_,false,rfl,rfl,J,T.aE,T.aF,T.bN,?_⟩;refine C3 rfl ⟨x,T.aw,_,_,false,rfl,rfl,J,T.aE,T.aF,T.bO,?_⟩;refine C3 rfl ⟨x,T.aw,_,_,false,rfl,rfl,J,T.aE,T.aF,T.bP,?_⟩;refine⟨by show 3<=sizeLine;decide,λb hb=>G _ _ (B3 λN3 L=>?_)⟩;have M:=Cv.new (o:=.lst [V.bl false,.bl false,.bl false]) hb;have Z:(II Y b (.lst [V.bl false,.bl false,.bl false])) b=some (.lst [V.bl false,.bl false,.bl false]):=A7;have e:=M _ _ e;generalize II Y b (.lst [V.bl false,.bl false,.bl false])=v at M e Z⊢;have s2:=I.trans M;have N:=s2 _ _ u;refine C3 rfl (C3 rfl ⟨x,T.aw,_,_,false,rfl,rfl,N,T.aE,T.aF,T.bQ,?_⟩);refine C3 rfl ⟨x,T.aw,_,_,true,rfl,rfl,N,T.aE,T.aF,T.bR,?_⟩;refine C3 rfl ⟨x,T.aw,_,_,false,rfl,rfl,N,T.aE,T.aF,T.bS,?_⟩;refine⟨by show 3<=sizeLine;decide,λc hc=>?_⟩;have u3:=Cv.new (o:=.lst [V.bl false,.bl true,.bl false]) hc;refine⟨b,c,_,_,rfl,rfl,u3 _ _ Z,A7,by show 6<=sizeLine;decide,λd hd=>L _ _ (B3 λN4 O=>?_)⟩;have u4:=Cv.new (o:=.lst [V.bl false,.bl false,.bl false,.bl false,.bl true,.bl false]) hd;have f4:(II (II v c (.lst [V.bl false,.bl true,.bl false])) d (.lst ([V.bl false,.bl false,.bl false] ++ [V.bl false,.bl true,.bl false]))) d=some (.lst [V.bl false,.bl false,.bl false,.bl false,.bl true,.bl false]):=A7;have k:Cv v (II (II v c (.lst [V.bl false,.bl true,.bl false])) d (.lst ([V.bl false,.bl false,.bl false] ++ [V.bl false,.bl true,.bl false]))):=u3.trans u4;generalize II (II v c (.lst [V.bl false,.bl true,.bl false])) d (.lst ([V.bl false,.bl false,.bl false] ++ [V.bl false,.bl true,.bl false]))=y at k f4⊢;have s4:=s2.trans k;have e:=k _ _ e;have e4:=s4 _ _ u;refine C3 rfl (C3 rfl ⟨x,T.aw,_,_,false,rfl,rfl,e4,T.aE,T.aF,T.bT,?_⟩);refine C3 rfl ⟨x,T.aw,_,_,false,rfl,rfl,e4,T.aE,T.aF,T.bU,?_⟩;refine⟨by show 2<=sizeLine;decide,λB R=>?_⟩;have u5:=Cv.new (o:=.lst [V.bl false,.bl false]) R;refine⟨d,B,_,_,rfl,rfl,u5 _ _ f4,A7,by show 8<=sizeLine;decide,λg hg=>O _ _ (B3 λN5 S=>?_)⟩;have u6:=Cv.new (o:=.lst [V.bl false,.bl false,.bl false,.bl false,.bl true,.bl false,.bl false,.bl false]) hg;have p:(II (II y B (.lst [V.bl false,.bl false])) g (.lst ([V.bl false,.bl false,.bl false,.bl false,.bl true,.bl false] ++ [V.bl false,.bl false]))) g=some (.lst [V.bl false,.bl false,.bl false,.bl false,.bl true,.bl false,.bl false,.bl false]):=A7;have l:Cv y (II (II y B (.lst [V.bl false,.bl false])) g (.lst ([V.bl false,.bl false,.bl false,.bl false,.bl true,.bl false] ++ [V.bl false,.bl false]))):=u5.trans u6;generalize II (II y B (.lst [V.bl false,.bl false])) g (.lst ([V.bl false,.bl false,.bl false,.bl false,.bl true,.bl false] ++ [V.bl false,.bl false]))=H6 at l p⊢;have s6:=s4.trans l;have e:=l _ _ e;have e6:=s6 _ _ u;refine C3 rfl ⟨.inl ⟨rfl,_,IR.of p⟩,g,.bl true,_,rfl,rfl,IR.of p,rfl,rfl,?_⟩;refine⟨rfl,_,rfl,?_⟩;rw[show(!decide (V.int (([V.bl false,.bl false,.bl false,.bl false,.bl true,.bl false,.bl false,.bl false].countP λz=>RE z (.bl true):Nat):Int)=V.int 1))=false by decide +kernel];refine O9 (C3 rfl ⟨x,T.aw,_,_,true,rfl,rfl,e6,T.aE,T.aF,T.bV,⟨_,rfl,O9 ?_⟩⟩);refine S _ _ (B3 λN6 U=>?_);refine C3 rfl (C3 rfl ⟨.inl ⟨rfl,_,IR.of p⟩,g,_,.bl true,4,rfl,rfl,IR.of p,rfl,rfl,⟨_,rfl,rfl⟩,λm z hm n=>?_,?_⟩)
  .match m,hm with
   | 0,_=>cases n;rfl
   | 1,_=>cases n;rfl
   | 2,_=>cases n;rfl
   | 3,_=>cases n;rfl
  refine⟨a,_,_,_,rfl,rfl,IR.of e,Q9 (j:=4) rfl,U _ _ (B3 λN7 W=>?_)⟩;refine C3 rfl ⟨by show 2<=sizeLine;decide,λz n=>Bh (ss:=["BadName","BadStrike"]) (.inr (JG.of A7)) ⟨_,rfl,?_⟩⟩;rw[show decide (("NoName":Str)∈(["BadName","BadStrike"]:A0 Str))=false by decide +kernel];have s7:=s6.trans (Cv.new (o:=.tup [.str "BadName",.str "BadStrike"]) n);refine O9 (W _ _ ?_);refine C3 rfl ⟨.non, "bool",_,false,rfl,.non,rfl,⟨_,rfl,O9 ?_⟩⟩;exact C3 rfl (C3 rfl ⟨by show 2<=sizeLine;decide,λr t=>q r _ (s7.trans (Cv.new t)) (s7.free t) A7⟩)
theorem KN:IL ["_law_web","_law_name","_law_turned","_law_caught","_law_error"] ["_law_web","_law_name","_law_turned"] (B6 NG):=Kc
def Rb(C:A3):Sp:=λd H Q _=>∃(x:A3) (n:Str) (b:Bool) (a:A0 Str) (e:A0 IZ),d = [.ref x,.str n,.bl b]/\I1 C H x a e/\n∉a/\∀c,Cv H c->Q (.bl true) c
set_option maxHeartbeats 1000000 in
theorem t9(T:Tx K mg):IU P w K mg base JW 3 T.aR.f T.aR.fd ["_law_web","_law_name","_law_turned"] (Rb T.ac):=by
 refine T.aR.F.o1 KN λG A k s H O Q E g h=>?_
 .obtain⟨x,n,b,t,u,rfl,l,v,q⟩:=h;have R:=Q6 g;obtain⟨S,B,U,W,X,Y,Z,kd,C,_⟩:=id l;refine⟨_,(A9 (C8 (i:=3) KN.nd rfl (.inl rfl) U3)
   (A9 (Va (i:=4) (λ_ _ z=>z) rfl rfl KN.nd rfl rfl rfl T.bp T.bo (Mv (λ_ _ z=>z) (J9 (pv 2)) (Mu (m9 (λ_ _ z=>z) (pv 0) T.ah T.al.m (Ej T) (Rm g) T.al.b (A6 (pv 1) A8))) (Mu (m9 (λ_ _ z=>z) (pv 0) T.ah T.aj.m (Cd T) (Rm g) T.aj.b (A6 (pv 1) A8))))
   (λ_=>(B4 (C8 (i:=3) KN.nd rfl (.inl rfl) (pv 4)))))
   (B4 (C0 (Bw (R0 So (pv 3) U3 (D8 _)) (Cw (R0 X1 (E8 (PP K) (D9 T.aQ (Ly T) (Rm g) (A6 (pv 3) A8)) B5 (λ_ _=>rfl)) C2 (D8 _)))))))),?_⟩
  refine B3 λN1 o=>?_;refine o _ _ (B3 λI p=>?_);have ret:∀{y a:A3} {D:A5 V} {d:Hp},Cv H d->d a=some (XO a T.aw none)->I [some (.ref x),some (.str n),some (.bl b),some (.ref a),D] d:=fun{y a D d} j e=>by
   refine p _ _ (C3 rfl ?_);refine⟨rfl,_,rfl,?_⟩;rw[AL λz=>by cases z];refine Z7 (C3 rfl ⟨a,rfl,e,λr H2 J g L=>⟨r,_,0,_,rfl,rfl,JG.of L,rfl,⟨rfl,?_⟩⟩⟩);rw[AQ rfl];exact q _ (j.trans J)
  refine C3 rfl ⟨_,rfl,?_⟩;cases b with
  | true =>
   refine Z7 (C3 rfl ⟨x,B,_,rfl,C,rfl,C3 rfl ⟨x,n,t,u,rfl,l,v,λd y j M N=>⟨T.aw,T.bC,rfl,T.bt,T.a5,λa c=>?_⟩⟩⟩);exact C3 rfl (ret (y:=y) j c)
  | false =>
   refine O9 (C3 rfl ⟨x,B,_,rfl,C,rfl,C3 rfl ⟨x,n,t,u,rfl,l,v,λd y j M N=>⟨T.aw,T.bC,rfl,T.bt,T.a5,λa c=>?_⟩⟩⟩);exact C3 rfl (ret (y:=y) j c)
theorem KQ:IL ["self","web","given","told"] ["self"] (B6 NL):=Kc
def Xa(a b:A3):Sp:=λc H Q _=>∃(k p:A3) (d:A0 Str) (e:A0 IZ) (f:A0 Str),c = [.ref k]/\KB a b H k p d e f 0/\Q .non H
theorem El(T:Tx K mg):IU P w K mg base JW 2 T.aN.f T.aN.fd ["self"] (Xa T.aa T.ac):=by
 refine T.aN.F.o1 KQ λc A a s H v Q E b h=>?_
 .obtain⟨k,p,y,z,B,rfl,d,q⟩:=h;have C:=Q6 b;refine⟨_,(A9 (K0 (P2 (ptV K (LX K (pv 0)))) (B4 (C0 U3)) D0)
   (A9 (Bv (zDk K VG PySem.F.slot_list_pop PySem.F.type_list_pop Yv (LX K (pv 0))) (RR K (n:=2) (E7 (I9 (i:=1) KQ.nd rfl (.inl rfl)) (E7 (I9 (i:=2) KQ.nd rfl (.inl rfl)) S5))))
   (A9 (C8 (i:=3) KQ.nd rfl (.inl rfl) (D9 T.aL (i8 T) (Rm b) (A6 (LX K (pv 0)) (A6 (pv 2) A8))))
   (A9 (RC K (pv 0) (pv 1))
   (A9 (RC K (pv 0) (pv 2))
   (A9 (RC K (pv 0) (W9 (N':=["name","old","new"]) (cap:=[none,none,none]) (cl:=[]) (P4 trivial trivial) rfl (MW K (pv 3)) (λ_ _ _ _=>by exact⟨(RR K (n:=3) (E7 (LS 0) (E7 (LS 1) (E7 (LS 2) S5)))),P1,(pv 0)⟩)))
   (B4 (C0 (pv 3))))))))),?_⟩
  obtain⟨j,x,g,r,D,G,I,l,m,J,L,M,kk,N,o,O,t⟩:=d.ex;have e:l = []:=E_.mp (by lia);subst e;refine B3 λR u=>?_;refine C3 rfl ⟨k,T.aa,j,_,_,rfl,m,T.ab,T.ba,rfl,_,.inl ⟨_,IR.of o,rfl⟩,Z7 q⟩
theorem Ua:IL ["web"] ["web"] (B6 QI):=Kc
def Ld(C:A3):Sp:=λe H Q _=>∃(x:A3) (c:A0 Str) (d:A0 IZ),e = [.ref x]/\I1 C H x c d/\∀l a b,Cv H b->H l=none->RL b l a->(∀q∈a,q.2.2.1=J7 (B2 d) q.2.1)->(a.map λq=>q.2.1).Perm c->Q (.ref l) b
theorem Ti(T:Tx K mg):IU P w K mg base JW 6 T.bq.f T.bq.fd ["web"] (Ld T.ac):=by
 refine T.bq.F.o1 Ua λr A b s H I Q E t h=>?_
 .obtain⟨x,c,j,rfl,k,q⟩:=h;refine⟨_,(B4 (C0 (D9 T.aI (Y7 T) (Rm t) (A6 (pv 0) (A6 Nm A8))))),?_⟩;have g:=k.ok;refine C3 rfl ?_;intro d u;have a:=Cv.new (o:=.dK []) u;have m:(II H d (.dK [])) d=some (.dK []):=A7;generalize II H d (.dK [])=J at a m⊢;refine⟨x,d,c,j,_,λ_=>none,rfl,k.same a,m,λn=>rfl,?_,λl v y  z B L2 C QL=>?_⟩
  .have L:(wl c λ_=>none).length<=c.length:=BC ..;have M:=g.len;show 0+_<=100;lia
  have i:SB j (λ_=>none):=λn w e=>by cases e
  obtain⟨D,p⟩:=C.words (U1 g.mem) g.nd i;refine q l v y (a.trans z) (a.free B) L2 (λq G=>D q.2 (BJ.mpr ⟨q,G,rfl⟩)) ?_;rw[B_]at p;refine p.trans (FA ?_);exact List.filter_eq_self.mpr λn _=>rfl
def Wb{K:VA}{a D:A3}{ss:A0 Str}{r:St}{g:Str->Str}{x:TE}{H:Hp}{Q:St->Hp->Prop}(e:H a=some (.lst (ss.map V.str)))(G:ss.length<=1000)(A:H D=none)
  (I:∀y∈ss,∀f,Cv H f->∀B:VK,(∀t,f t=none->B (.ref t) (II f t (.tup [.str y,.str (g y)])))->x (some (.str y)::r) f B)
  (h:∀σ k b,Cv H k->k D=some (.lst (F8 b))->(∀q∈b,G0 k q)->(b.map λq=>q.2) =(ss.map λn=>(n,g n))->Q σ k) (C:A5 V) :
  Bi (Q4 0) Ef (Z8 D x) (QS K a) (C::r) (II H D (.lst [])) Q:=by
 refine Q3 (PQ (K:=K) (IR.of e)) (λi σ d=>(∃v,σ=v::r)/\Cv H d/\∃b:A0 IZ,d D=some (.lst (F8 b))/\(∀q∈b,G0 d q)/\(b.map λq=>q.2) =((ss.take i).map λn=>(n,g n)))
  ⟨⟨_,rfl⟩,Cv.new A,[],A7,λq p=>absurd p A_,rfl⟩ (λi σ f _ ⟨_,J,_⟩=>J.at a) ?_ ?_
 .rintro i σ d v N E ⟨⟨C,rfl⟩,l,b,s,P3,j⟩ L;rw[AJ]at E;obtain⟨y,F,rfl⟩:=BG.mp E;refine By (I y (AZ F) d l _ λt M=>?_);have m:=Cv.new (o:=.tup [.str y,.str (g y)]) M;have u:(II d t (.tup [.str y,.str (g y)])) t=some (.tup [.str y,.str (g y)]):=A7;generalize II d t (.tup [.str y,.str (g y)])=P at m u⊢;have w:=m _ _ s;have O:=congrArg List.length j;rw[AB,AB,AX]at O;refine⟨_,w,by unfold F8;rw[AB,sizeLine_eq];lia,L _ _ ⟨⟨_,rfl⟩,(l.trans m).upd A,b ++ [(t,y,g y)],by rw[A7];unfold F8;rw[AH];rfl,λq p=>?_,by rw[E4 F,AH,AH,j];rfl⟩⟩;rcases AN.mp p with c | c
  .have:=m _ _ (P3 q c);exact(B7 (J4 this w (by intro z;cases z))).trans this
  .rw[AE.mp c];exact(B7 (J4 u w (by intro z;cases z))).trans u
 .rintro σ d ⟨_,l,b,s,P3,j⟩;rw[AB,BP]at j;exact h σ d b l s P3 j
theorem Ce:IL ["self"] ["self"] (B6 MG):=Kc
def Sr(b c:A3):Sp:=λd H Q _=>∃(k p:A3) (e:A0 Str) (f:A0 IZ) (a:A0 Str) (m:Nat),d = [.ref k]/\KB b c H k p e f a m/\∀l,H l=none->Q (.ref l) (II H l (.lst (a.map V.str)))
theorem Cb(T:Tx K mg):IU P w K mg base JW 1 T.aH.f T.aH.fd ["self"] (Sr T.aa T.ac):=by
 refine T.aH.F.o1 Ce λc A a s H j Q E l h=>?_
 .obtain⟨k,p,n,o,t,m,rfl,d,q⟩:=h;refine⟨_,(B4 (C0 (g7 (T7 K) T.az Q0 (A6 (LX K (pv 0)) A8)))),?_⟩;obtain⟨e,x,g,r,u,v,y,z,i,B,C,D,kk,G,I,J,b⟩:=d.ex;exact⟨_,rfl,k,T.aa,e,_,_,rfl,i,T.ab,T.aX,rfl,r,_,rfl,.inl (IR.of (U0 _ _ b)),q⟩
theorem Du:IL ["self"] ["self"] (B6 MU):=Kc
def Jz(e f:A3):Sp:=λg H Q _=>∃(k p:A3) (c:A0 Str) (d:A0 IZ) (h:A0 Str) (m:Nat),g = [.ref k]/\KB e f H k p c d h m/\∀l (b:A0 IZ) a,Cv H a->H l=none->a l=some (.lst (F8 b))->(∀q∈b,G0 a q)->(b.map λq=>q.2)=y6 c d->Q (.ref l) a
theorem S8(T:Tx K mg):IU P w K mg base JW 2 T.ap.f T.ap.fd ["self"] (Jz T.aa T.ac):=by
 refine T.ap.F.o1 Du λI A i s H vs Q E t h=>?_
 .obtain⟨k,p,a,u,rk,m,rfl,J,q⟩:=h;have L:=Q6 t;refine⟨_,(B4 (C0 (W9 (N':=["name","self"]) (cap:=[none,some 0]) (cl:=[("self",_)]) (P4 ⟨⟨rfl,rfl,rfl,rfl⟩,trivial⟩ ⟨rfl,trivial⟩) rfl (MW K (F5 (LX K (pv 0)) T.ah T.ad.m (E6 T) (Rm t) T.ad.b .nil J1)) (λ_ _ _ _=>by exact⟨(LS 0),P1,(J6 (A6 (pv 0) (A6 (V7 L (LX K (pv 1)) (pv 0) (λ_ _=>rfl)) A8)))⟩)))),?_⟩;obtain⟨v,x,g,r,kv,ks,rl,pl,z,M,N,O,kk,pk,hp,lp,R⟩:=J.ex;have W:=M.same U0;obtain⟨S,U,a1,b1,c1,d1,kc,kd,X,_⟩:=id W;refine C3 rfl ⟨k,T.aa,v,_,_,rfl,z,T.ab,T.ai,rfl,x,U,C3 rfl ⟨X,rfl,x,a,u,rfl,W,λd j=>?_⟩⟩;have e:=Cv.new (o:=.lst (a.map V.str)) j;have l:(II H d (.lst (a.map V.str))) d=some (.lst (a.map V.str)):=A7;generalize II H d (.lst (a.map V.str))=H1 at e l⊢;refine⟨d,rfl,⟨_,IR.of l⟩,λD B=>?_⟩;refine Wb (g:=J7 (B2 u)) l (by have:=S.len;lia) B (λy Y C n Q' Z=>?_) (λσ C rs n e2 p2 q2=>q D rs C (e.trans n) (e.free B) e2 p2 q2) _;have c:=e.trans n;refine C3 rfl (C3 rfl ⟨k,T.aa,v,_,_,rfl,c _ _ z,T.ab,T.aD,rfl,C3 rfl ⟨g,_,rfl,?_,⟨by show 2<=sizeLine;decide,Z⟩⟩⟩);have G:=LW.k (k:=.inr y) (c _ _ N);rw[O y,Xx Y]at G;exact G
def Ql{a b:A0 IZ}(h1:a.Pairwise QX)(h2:b.Pairwise QX)(h:(a.map λq=>q.2).Perm (b.map λq=>q.2)):(a.map λq=>q.2)=b.map λq=>q.2 :=
 List.Perm.eq_of_pairwise (le:=leK) (λ_ _ _ _=>Xo) (CU.mpr h1) (CU.mpr h2) h
def O0(a:A0 (Str×Str))(n:Str):A0 Str:=(a.filter λk=>decide (k.2=n)).map λk=>k.1
def U6(a:A0 (Str×Str))(n:Str):A0 Str:=(a.filter λk=>decide (k.1=n)).map λk=>k.2
def Bz(a:A0 IZ)(n:Str):B2 a n=O0 (a.map λq=>q.2) n:=by
 unfold B2 O0;rw[GG,B_];rfl
def Fb(a:A0 IZ)(n:Str):C6 a n=U6 (a.map λq=>q.2) n:=by
 unfold C6 U6;rw[GG,B_];rfl
def Fx{K:VA}{l D:A3}{a:A0 IZ}{n:Str}{b:Hp}{σ:St}{Q:St->Hp->Prop}(e:b l=some (.lst (F8 a)))(p:∀q∈a,G0 b q)(x:a.length<=300)(u:b D=none)(hσ:∃o r,σ = [o,r,some (.str n)])(h:∀σ s,Cv b s->s D=some (.lst ((O0 (a.map λq=>q.2) n).map V.str))->Q σ s) :
  Bi (UL K 2 (Jc (Q4 0) (Jc (Q4 1) zGp))) (Aq (PN rEq (X0 1) (X0 2))) (Z8 D (X0 0)) (QS K l) σ (II b D (.lst [])) Q:=by
 refine Q3 (PQ (K:=K) (IR.of e)) (λi σ d=>(∃o r,σ = [o,r,some (.str n)])/\Cv b d/\d D=some (.lst ((O0 ((a.take i).map λq=>q.2) n).map V.str)))
  ⟨hσ,Cv.new u,A7⟩ (λi σ b _ ⟨_,A,_⟩=>A.at l) ?_ ?_
 .rintro i σ d v N t ⟨⟨o,r,rfl⟩,f,g⟩ j;unfold F8 at t;rw[AJ]at t;obtain⟨z,w,rfl⟩:=BG.mp t;have m:O0 ((a.take (i+1)).map λq=>q.2) n=O0 ((a.take i).map λq=>q.2) n++if z.2.2=n then [z.2.1]else []:=by
   unfold O0;rw[E4 w,AH,CV,AH,BM,F_,BR,DZ];by_cases c:z.2.2=n
   .rw[AO (AQ c),AO c];rfl
   .rw[AI λy=>c (BL y),AI c];rfl
  have C:((O0 ((a.take i).map λq=>q.2) n).map V.str).length<=300:=by
   unfold O0;rw[AB,AB];have h:=(DV (l:=(a.take i).map λq=>q.2) (p:=λk=>decide (k.2=n))).length_le;rw[AB,AX]at h;lia
  refine⟨z.1,C3 rfl ⟨JG.of (f _ _ (p z (AZ w))),rfl,_,C3 rfl (C4 rfl rfl ?_)⟩⟩;refine C3 rfl (C3 rfl ⟨rfl,C3 rfl (w8 (λc=>?_) (λc=>?_))⟩)
  .have c:z.2.2=n:=by injection BL c
   refine C3 rfl ⟨_,g,by rw[sizeLine_eq];lia,j _ _ ⟨⟨_,_,rfl⟩,f.upd u,?_⟩⟩;rw[A7,m,AO c,AH];rfl
  .have c:¬z.2.2=n:=λy=>c (AQ (congrArg V.str y));exact j _ _ ⟨⟨_,_,rfl⟩,f,by rw[m,AI c,CC];exact g⟩
 .rintro σ d ⟨_,f,g⟩;have B:(F8 a).length=a.length:=by unfold F8;rw[AB]
  rw[B,BP]at g;exact h σ d f g
def Gy(a:A0 (Str×Str))(n:Str):(O0 a n).length<=a.length:=by
 unfold O0;rw[AB];exact DV.length_le
def Kn{K:VA}{l D:A3}{a:A0 IZ}{n:Str}{b:Hp}{σ:St}{Q:St->Hp->Prop}(e:b l=some (.lst (F8 a)))(p:∀q∈a,G0 b q)(x:a.length<=300)(u:b D=none)(hσ:∃o r,σ = [o,r,some (.str n)])(h:∀σ s,Cv b s->s D=some (.lst ((U6 (a.map λq=>q.2) n).map V.str))->Q σ s) :
  Bi (UL K 2 (Jc (Q4 0) (Jc (Q4 1) zGp))) (Aq (PN rEq (X0 0) (X0 2))) (Z8 D (X0 1)) (QS K l) σ (II b D (.lst [])) Q:=by
 refine Q3 (PQ (K:=K) (IR.of e)) (λi σ d=>(∃o r,σ = [o,r,some (.str n)])/\Cv b d/\d D=some (.lst ((U6 ((a.take i).map λq=>q.2) n).map V.str)))
  ⟨hσ,Cv.new u,A7⟩ (λi σ b _ ⟨_,A,_⟩=>A.at l) ?_ ?_
 .rintro i σ d v N t ⟨⟨o,r,rfl⟩,f,g⟩ j;unfold F8 at t;rw[AJ]at t;obtain⟨z,w,rfl⟩:=BG.mp t;have m:U6 ((a.take (i+1)).map λq=>q.2) n=U6 ((a.take i).map λq=>q.2) n++if z.2.1=n then [z.2.2]else []:=by
   unfold U6;rw[E4 w,AH,CV,AH,BM,F_,BR,DZ];by_cases c:z.2.1=n
   .rw[AO (AQ c),AO c];rfl
   .rw[AI λy=>c (BL y),AI c];rfl
  have C:((U6 ((a.take i).map λq=>q.2) n).map V.str).length<=300:=by
   unfold U6;rw[AB,AB];have h:=(DV (l:=(a.take i).map λq=>q.2) (p:=λk=>decide (k.1=n))).length_le;rw[AB,AX]at h;lia
  refine⟨z.1,C3 rfl ⟨JG.of (f _ _ (p z (AZ w))),rfl,_,C3 rfl (C4 rfl rfl ?_)⟩⟩;refine C3 rfl (C3 rfl ⟨rfl,C3 rfl (w8 (λc=>?_) (λc=>?_))⟩)
  .have c:z.2.1=n:=by injection BL c
   refine C3 rfl ⟨_,g,by rw[sizeLine_eq];lia,j _ _ ⟨⟨_,_,rfl⟩,f.upd u,?_⟩⟩;rw[A7,m,AO c,AH];rfl
  .have c:¬z.2.1=n:=λy=>c (AQ (congrArg V.str y));exact j _ _ ⟨⟨_,_,rfl⟩,f,by rw[m,AI c,CC];exact g⟩
 .rintro σ d ⟨_,f,g⟩;have B:(F8 a).length=a.length:=by unfold F8;rw[AB]
  rw[B,BP]at g;exact h σ d f g
def Lg(a:A0 (Str×Str))(n:Str):(U6 a n).length<=a.length:=by
 unfold U6;rw[AB];exact DV.length_le
def zAk{q r:IZ}(h:QX q r):NZ q.2.1 r.2.1:=λz=>by
 have e:TS.JS (Hi r) (Hi q)=true:=TS.JH.mpr (.inl z);rw[show TS.JS (Hi r) (Hi q)=false from h]at e;cases e
def zAn{q r:IZ}(h:QX q r)(a:q.2.1=r.2.1):NZ q.2.2 r.2.2:=λz=>by
 have e:TS.JS (Hi r) (Hi q)=true:=TS.JH.mpr (.inr ⟨by show r.2.1.cps.toList=q.2.1.cps.toList;rw[a],z⟩);rw[show TS.JS (Hi r) (Hi q)=false from h]at e;cases e
def Ih{c:A0 IZ}(h:c.Pairwise QX)(n:Str):(B2 c n).Pairwise NZ:=by
 unfold B2;rw[CU];exact(h.filter _).imp fun{a b} z=>zAk z
def Pm{c:A0 IZ}(h:c.Pairwise QX)(n:Str):(C6 c n).Pairwise NZ:=by
 unfold C6;rw[CU];exact(EN.mp (h.filter _)).imp fun{a b} ⟨d,e,z⟩=>zAn z ((BL (AW.mp d).2).trans (BL (AW.mp e).2).symm)
def Jl{a ps:A0 IZ}{n:Str}{ts:A0 Str}(h:a.Pairwise QX)(k:(a.map λq=>q.2).Perm (ps.map λq=>q.2))(p:ts.Perm (O0 (ps.map λq=>q.2) n))(w:ts.Pairwise NZ):ts=B2 a n :=
 O8 w (Ih h n) (p.trans (by rw[Bz];exact((k.symm.filter _).map _)))
def Pe{a ps:A0 IZ}{n:Str}{ts:A0 Str}(h:a.Pairwise QX)(k:(a.map λq=>q.2).Perm (ps.map λq=>q.2))(p:ts.Perm (U6 (ps.map λq=>q.2) n))(w:ts.Pairwise NZ):ts=C6 a n :=
 O8 w (Pm h n) (p.trans (by rw[Fb];exact((k.symm.filter _).map _)))
def Ba{H:Hp}{l:A3}{ss:A0 Str}{n:Nat}(e:H l=some (.lst (ss.map V.str)))(c:∀s∈ss,PySem.PyData.strOk s=true)(a:ss.length<=200):Ow H (n+2) (RM true (ss.map PyData.str)) (.ref l) [l]:=Ow.strs (b:=true) e c a
def zDf{H:Hp}{t:A3}{ss:A0 Str}{n:Nat}(e:H t=some (.tup (ss.map V.str)))(c:∀s∈ss,PySem.PyData.strOk s=true)(a:ss.length<=200):Ow H (n+2) (RM false (ss.map PyData.str)) (.ref t) []:=Ow.strs (b:=false) e c a
def Gm{H:Hp}{l:A3}{a:A0 IZ}(e:H l=some (.lst (F8 a)))(c:∀q∈a,G0 H q)(j:∀q∈a,PySem.PyData.strOk q.2.1=true/\PySem.PyData.strOk q.2.2=true)(d:a.length<=200):Ow H 3 (RM true ((a.map λq=>q.2).map λk=>RM false ([k.1,k.2].map PyData.str))) (.ref l) [l]:=by
 refine Ow.flat (b:=true) e (by unfold F8;rw[AB,AB,AB]) (by unfold F8;rw[AB];exact d) λi p x f g=>?_;unfold F8 at g;rw[AJ]at g;rw[B_,AJ]at f;obtain⟨q,o,rfl⟩:=BG.mp g;rw[o]at f;cases f;have m:=AZ o;exact zDf (n:=0) (ss:=[q.2.1,q.2.2]) (c q m) (λs h=>(AV.mp h).elim (λe=>by rw[e];exact(j q m).1) λh=>by rw[AE.mp h];exact(j q m).2) (by show 2<=200;decide)
theorem NF:IL ["_law_web","_law_own","_law_name"] ["_law_web","_law_own"] (B6 NW):=Kc
def Ob(C:A3):Sp:=λe H Q _=>∃(X:A0 A3) (x o:A3) (a b:A0 Str) (c ps:A0 IZ),e = [.ref x,.ref o]/\I1 C H x b c/\JQ X H o a ps/\b.Perm a/\(c.map λq=>q.2).Perm (ps.map λq=>q.2)/\∀d,Cv H d->Q (.bl true) d
set_option maxHeartbeats 4000000 in
theorem V2(T:Tx K mg):IU P w K mg base JW 4 T.aG.f T.aG.fd ["_law_web","_law_own"] (Ob T.ac):=by
 have g:IU P w K mg base JW 3 T.an.f T.an.fd ["_law_found","_law_due"] (n8 3):=Z9 T 3;refine T.aG.F.o1 NF λcdv A outer s H vs Q E J h=>?_
 .obtain⟨X,x,o,ss,k,j,ps,rfl,W,hO,pn,kq,q⟩:=h;refine⟨_,(A9 (K0 (PW.pt (c9 (P2 (J9 (D9 T.an g (Rm J) (A6 (F5 (pv 0) T.ah T.ad.m (E6 T) (Rm J) T.ad.b .nil J1) (A6 (F9 (Ar K) T.ay K8 (A6 (E8 (K_ K) (pv 1) B5 (λ_ _=>rfl)) A8)) A8))))) (U2 (P2 (J9 (D9 T.an g (Rm J) (A6 (F5 (pv 0) T.ah T.ag.m (J2 T) (Rm J) T.ag.b .nil J1) (A6 (F9 (Au K) T.ay K8 (A6 (E8 (K_ K) (pv 1) B5 (λ_ _=>rfl)) A8)) A8)))))))) (B4 (C0 j4)) D0)
   (A9 (W6 PassesOwn.never rfl (MW K (E8 (K_ K) (pv 1) B5 (λ_ _=>rfl))) (I9 (i:=2) NF.nd rfl (.inr rfl))
   (A9 (K0 (P2 (J9 (D9 T.an g (Rm J) (A6 (M0 (pv 0) T.ah T.aj.m (V5 T) (Rm J) T.aj.b .nil J1 (A6 (pv 2) A8)) (A6 (F9 (Ar K) T.ay K8 (A6 (W9 (N':=["_law_one","_law_other","_law_name"]) (cap:=[none,none,some 2]) (cl:=[("_law_name",_)]) (P4 ⟨⟨rfl,rfl,rfl,rfl⟩,trivial⟩ ⟨rfl,trivial⟩) rfl (MW K (E8 (K_ K) (pv 1) B5 (λ_ _=>rfl))) (λ_ _ _ _=>by exact⟨(RR K (n:=2) (E7 (LS 0) (E7 (LS 1) S5))),(P0 (B8 X1 (pv 1) (pv 2) (D8 _))),(pv 0)⟩)) A8)) A8))))) (B4 (C0 j4)) D0)
   (B4 (K0 (P2 (J9 (D9 T.an g (Rm J) (A6 (M0 (pv 0) T.ah T.al.m (V0 T) (Rm J) T.al.b .nil J1 (A6 (pv 2) A8)) (A6 (F9 (Ar K) T.ay K8 (A6 (W9 (N':=["_law_one","_law_other","_law_name"]) (cap:=[none,none,some 2]) (cl:=[("_law_name",_)]) (P4 ⟨⟨rfl,rfl,rfl,rfl⟩,trivial⟩ ⟨rfl,trivial⟩) rfl (MW K (E8 (K_ K) (pv 1) B5 (λ_ _=>rfl))) (λ_ _ _ _=>by exact⟨(RR K (n:=2) (E7 (LS 0) (E7 (LS 1) S5))),(P0 (B8 X1 (pv 0) (pv 2) (D8 _))),(pv 1)⟩)) A8)) A8))))) (B4 (C0 j4)) D0))))
   (B4 (C0 j4)))),?_⟩
  obtain⟨r,dx,a1,b1,c,d,kc,kd,e2,_,_,pin,_⟩:=id W;obtain⟨⟨n,a,ho,hn,ha,_⟩,U,nm,st⟩:=id hO;have U:∀q∈ps,G0 H q:=λq u=>(U q u).1;have t:∀y∈k,PySem.PyData.strOk y=true:=λy hy=>P9 (nm.1 y (pn.mem_iff.mp hy));have M:∀q∈j,PySem.PyData.strOk q.2.1=true/\PySem.PyData.strOk q.2.2=true:=λq u=>⟨t _ (r.mem q u).1,t _ (r.mem q u).2⟩;have lns:k.length<=200:=VE r.len (by decide);refine B3 λN1 hN1=>?_;refine C3 rfl ⟨x,dx,C3 rfl ⟨e2,rfl,x,k,j,rfl,W,λl1 hl1=>?_⟩⟩;have s5:=Cv.new (o:=.lst (k.map V.str)) hl1;have Y:(II H l1 (.lst (k.map V.str))) l1=some (.lst (k.map V.str)):=A7;generalize II H l1 (.lst (k.map V.str))=H5 at s5 Y⊢;refine C3 rfl ⟨o,_,0,_,rfl,rfl,IR.of (s5 _ _ ho),rfl,n,ss,rfl,IR.of (s5 _ _ hn),λl2 ss2 hl2 p2 w2=>?_⟩;rw[O8 w2 r.srt (p2.trans pn.symm)];have u6:=Cv.new (o:=.lst (k.map V.str)) hl2;have Z:=s5.trans u6;have g6:(II H5 l2 (.lst (k.map V.str))) l2=some (.lst (k.map V.str)):=A7;have f6:=u6 _ _ Y;generalize II H5 l2 (.lst (k.map V.str))=H6 at Z g6 f6⊢;refine(Ba f6 t lns).alike (Ba g6 t lns) λH7 s7=>⟨_,rfl,O9 ?_⟩;have B:=Z.trans s7;refine C3 rfl ⟨x,dx,C3 rfl ⟨B _ _ e2,rfl,x,k,j,rfl,W.same B,λl3 hl3=>?_⟩⟩;have u8:=Cv.new (o:=.lst (F8 j)) hl3;have L:=B.trans u8;have f8:(II H7 l3 (.lst (F8 j))) l3=some (.lst (F8 j)):=A7;generalize II H7 l3 (.lst (F8 j))=H8 at L f8⊢;refine C3 rfl ⟨o,_,1,_,rfl,rfl,IR.of (L _ _ ho),rfl,a,ps,rfl,IR.of (L _ _ ha),G9 L U,λm N hm pm so=>?_⟩;have u9:=Cv.new (o:=.lst (F8 N)) hm;have s9:=L.trans u9;have ek:(N.map λq=>q.2)=j.map λq=>q.2:=Ql so r.srq ((pm.map _).trans kq.symm);have e9:=Gm (H:=II H8 m (.lst (F8 N))) A7 (G9 s9 λq u=>U q (pm.mem_iff.mp u)) (λq u=>by
   have:q.2∈j.map λq=>q.2:=ek▸BJ.mpr ⟨q,u,rfl⟩;obtain⟨z,hz,e⟩:=BJ.mp this;rw[<-e];exact M z hz) (by rw[pm.length_eq];exact st.len)
  rw[ek]at e9;refine(Gm (u9 _ _ f8) (G9 s9 pin) M r.lenq).alike e9 λH10 s10=>⟨_,rfl,O9 ?_⟩;have s0:=s9.trans s10;clear e9 u9 f8 L u8 B s7 f6 g6 Z u6 s5 Y;refine hN1 _ _ (B3 λN2 hN2=>?_);have h0:=s0 _ _ hn;refine C3 rfl ⟨o,_,0,_,rfl,rfl,IR.of (s0 _ _ ho),rfl,n,rfl,⟨_,IR.of h0⟩,Di (PQ (IR.of h0)) (λi σ O=>(∃v4,σ = [some (.ref x),some (.ref o),v4])/\Cv H10 O) ?_ ?_ ?_ ?_⟩
  .exact⟨⟨_,rfl⟩,λb o e=>e⟩
  .rintro i σ O hi ⟨_,s1⟩;exact s1.at n
  .rintro i σ O v hv ⟨⟨v4,rfl⟩,s1⟩ D1 hD1 _;rw[AJ]at hv;obtain⟨y,hy,rfl⟩:=BG.mp hv;have R:y∈k:=pn.mem_iff.mpr (AZ hy);have C:=s0.trans s1;refine zAv λM1 hM1=>?_;refine C3 rfl ⟨x,dx,C3 rfl ⟨C _ _ e2,rfl,C3 rfl ⟨x,y,k,j,rfl,W.same C,R,λl5 hl5=>?_⟩⟩⟩;have u1:=Cv.new (o:=.lst ((B2 j y).map V.str)) hl5;have f1:(II O l5 (.lst ((B2 j y).map V.str))) l5=some (.lst ((B2 j y).map V.str)):=A7;generalize II O l5 (.lst ((B2 j y).map V.str))=H2 at u1 f1⊢;have G:=C.trans u1;refine C3 rfl ⟨o,_,1,_,rfl,rfl,IR.of (G _ _ ho),rfl,a,rfl,⟨_,IR.of (G _ _ ha)⟩,λD hD=>Fx (G _ _ ha) (G9 G U) (VE st.len (by decide)) hD ⟨_,_,rfl⟩ λσ H3 s3 e3=>?_⟩;refine⟨D,_,rfl,IR.of e3,λl6 ts hl6 pt wt=>?_⟩;rw[Jl r.srq kq pt wt];have u4:=Cv.new (o:=.lst ((B2 j y).map V.str)) hl6;have l:∀z∈B2 j y,PySem.PyData.strOk z=true:=λz hz=>t z (U1 r.mem y R z hz);have p:(B2 j y).length<=200:=by rw[Bz];exact VE (Gy ..) (by rw[AB];exact r.lenq)
   refine(Ba (u4 _ _ (s3 _ _ f1)) l p).alike (Ba A7 l p) λH4 s4=>⟨_,rfl,O9 ?_⟩;have s14:=((u1.trans s3).trans u4).trans s4;have S:=C.trans s14;clear u1 f1 u4 s3 s4 e3 l p;refine hM1 _ _ ?_;refine C3 rfl ⟨x,dx,C3 rfl ⟨S _ _ e2,rfl,C3 rfl ⟨x,y,k,j,rfl,W.same S,R,λl7 hl7=>?_⟩⟩⟩;have u5:=Cv.new (o:=.lst ((C6 j y).map V.str)) hl7;have Y:(II H4 l7 (.lst ((C6 j y).map V.str))) l7=some (.lst ((C6 j y).map V.str)):=A7;generalize II H4 l7 (.lst ((C6 j y).map V.str))=H5 at u5 Y⊢;have I:=S.trans u5;refine C3 rfl ⟨o,_,1,_,rfl,rfl,IR.of (I _ _ ho),rfl,a,rfl,⟨_,IR.of (I _ _ ha)⟩,λD hD=>Kn (I _ _ ha) (G9 I U) (VE st.len (by decide)) hD ⟨_,_,rfl⟩ λσ H6 Z e6=>?_⟩;refine⟨D,_,rfl,IR.of e6,λl8 ts hl8 pt wt=>?_⟩;rw[Pe r.srq kq pt wt];have u7:=Cv.new (o:=.lst ((C6 j y).map V.str)) hl8;have l:∀z∈C6 j y,PySem.PyData.strOk z=true:=λz hz=>by
    obtain⟨q,u,e⟩:=BJ.mp (Le.mp hz);have:=(M q u).2
    rwa [e]at this
   have p:(C6 j y).length<=200:=by rw[Fb];exact VE (Lg ..) (by rw[AB];exact r.lenq)
   refine(Ba (u7 _ _ (Z _ _ Y)) l p).alike (Ba A7 l p) λH8 L=>⟨_,rfl,O9 ?_⟩;exact hD1 _ _ ⟨⟨_,rfl⟩,s1.trans (s14.trans (((u5.trans Z).trans u7).trans L))⟩
  .rintro σ O ⟨⟨v4,rfl⟩,s1⟩;exact hN2 _ _ (q O (s0.trans s1))
def Qa{lo:Int}{n:Nat}{g:TG}{c:TS}{D:Ends}{σ:St}{H:Hp}(Pv:Nat->St->Hp->Prop)(f:Pv 0 σ H)
  (h:∀i σ H,i<n->Pv i σ H->∀a:Ends,(∀σ' H',Pv (i+1) σ' H'->a.nx σ' H')->(∀σ' H',Pv i σ' H'->a.bk σ' H')->g (.int (lo+i)) σ H λσ2 b=>c a σ2 b) (d:∀i σ H,Pv i σ H->D.nx σ H) :
  ∃W:Nat->Nat->St->Hp->Prop,(∃m,W 0 m σ H)/\∀i m σ H,W i m σ H ->
   ((RN lo n).stop i H/\D.nx σ H)\/((RN lo n).go i H/\∃N:St->Hp->Prop,(∀σ' H',N σ' H'->∃e,e < m/\W (i+1) e σ' H')/\∀x H',(RN lo n).yld i H x H'->g x σ H' λσ2 b=>c { D with nx:=N,ct:=N,bk:=D.nx } σ2 b) :=
 Iw Pv f (λi σ H j k=>h i σ H j k _ (λ_ _ z=>z) (d i)) (d n)
def I1.sm{C:A3}{H H':Hp}{x p:A3}{c:Int}{ns:A0 Str}{g:A0 IZ}(h:I1 C H x ns g)(L:IW H p c)(s:Sm [p] H H'):I1 C H' x ns g:=by
 obtain⟨m,r,a,b,c,d,t,u,w,i,j,A,B,D,E,F⟩:=h;obtain⟨y,z,G,_⟩:=id L;have k:∀{b:A3} {o:HO},H b=some o->o≠ .lst [.int y,.int z,.int _]->H' b=some o:=λe n=>MY s e (J4 e G n);exact⟨m,r,a,b,c,d,t,u,k w (by intro z;cases z),MY s i (L.ne i),MY s j (L.neP j),λq I=>k (A q I) (by intro z;cases z),k B (by intro z;cases z),k D (by intro z;cases z),λn f=>let⟨l,v,e⟩:=E n f;⟨l,v,MY s e (L.ne e)⟩,λn f=>let⟨l,v,e⟩:=F n f;⟨l,v,MY s e (L.ne e)⟩⟩
def KB.sm{f i:A3}{H H':Hp}{k p l:A3}{c:Int}{ns:A0 Str}{j:A0 IZ}{q:A0 Str}{m:Nat}(h:KB f i H k p ns j q m)(L:IW H l c)(t:l≠p)(s:Sm [l] H H'):KB f i H' k p ns j q m:=by
 obtain⟨⟨C,x,g,r,a,D,E,F,u,G,v,I,J,K,M,N,w⟩,O⟩:=h;obtain⟨y,z,d,P⟩:=id L;have lk:l≠k:=J4 d u (by intro z;cases z);have A:Sm [l] (eK H k p) (eK H' k p):=λb o e n=>by
  obtain⟨Q,R,e⟩:=Dr e;rw[R8 Q R];exact s _ _ e n
 have B:IW (eK H k p) l c:=⟨y,z,by rw[R8 lk t];exact d,P⟩;refine⟨⟨C,x,g,r,a,D,E,F,MY s u lk.symm,G.sm B A,MY s v (J4 v d (by intro z;cases z)),I,J,K,MY s M t.symm,N,?_⟩,O⟩;exact MY A w (B.ne w)
def JQ.neX{X Y:A0 A3}{H:Hp}{o:A3}{ss:A0 Str}{ps:A0 IZ}(h:JQ X H o ss ps)(l:∀z∈Y,H z=none\/z∈X):JQ Y H o ss ps:=by
 obtain⟨⟨a,b,i,j,k,m,p,r⟩,d,s,t⟩:=h;have g:∀{b:A3} {u:HO},H b=some u->b∉X->b∉Y:=fun{b u} e n z=>(l b z).elim (λc=>by rw[c]at e;cases e) n;exact⟨⟨a,b,i,j,k,g i m,g j p,g k r⟩,λq f=>⟨(d q f).1,g (d q f).1 (d q f).2⟩,s,t⟩
def Bb{a ps:A0 IZ}(h:(a.map λq=>q.2).Perm (ps.map λq=>q.2)):J7 (B2 a)=J7 (B2 ps) :=
 funext λn=>Ff (U:=λ_=>True) (λ_ _ _ _=>trivial) (λn _ y=>by rw[I_,I_,h.mem_iff]) trivial
def JJ.names_perm{a b:A0 Str}(h:a.Perm b):∀d:JJ,(d.names a).Perm (d.names b)
 | .pn _=>h.append_right _
 | .tn _=>h.filter _
 | .ps _ _=>h
 | .ts _ _=>h
def JJ.prs_perm{a b:A0 (Str×Str)}(h:a.Perm b):∀d:JJ,(d.prs a).Perm (d.prs b)
 | .pn _=>h
 | .tn _=>h.filter _
 | .ps _ _=>h.append_right _
 | .ts _ _=>h.filter _
def JJ.names_len{ss:A0 Str}{ps:A0 IZ}(h:ss.length<=30):∀d:JJ,d.fit ss ps->(d.names ss).length<=30
 | .pn _,f=>by show(ss++_).length<=30;rw[AS];exact f.1
 | .tn _,_=>VE (BC ..) h
 | .ps _ _,_=>h
 | .ts _ _,_=>h
def JJ.prs_len{ss:A0 Str}{ps:A0 IZ}(h:ps.length<=140):∀d:JJ,d.fit ss ps->(d.prs (ps.map λq=>q.2)).length<=140
 | .pn _,_=>by show(ps.map _).length<=140;rw[AB];exact h
 | .tn _,_=>VE (BC ..) (by rw[AB];exact h)
 | .ps _ _,f=>by show(ps.map _++_).length<=140;rw[AS,AB];exact f
 | .ts _ _,_=>VE (BC ..) (by rw[AB];exact h)
def JJ.fit_perm{ss ns:A0 Str}{ps a:A0 IZ}(h:ns.Perm ss)(k:(a.map λq=>q.2).Perm (ps.map λq=>q.2)):∀d:JJ,d.fit ss ps->d.fit ns a
 | .pn _,f=>⟨by rw[h.length_eq];exact f.1,f.2⟩
 | .tn _,_=>trivial
 | .ps _ _,f=>by
  have e:=k.length_eq;rw[AB,AB]at e;show a.length+1<=140;rw[e];exact f
 | .ts _ _,_=>trivial
def JJ.can_perm{ss ns:A0 Str}{ps a:A0 IZ}(h:ns.Perm ss)(k:(a.map λq=>q.2).Perm (ps.map λq=>q.2)):∀d:JJ,d.can ss ps->d.can ns a
 | .pn _,c=>⟨c.1,λz=>c.2 (h.mem_iff.mp z)⟩
 | .tn _,c=>h.mem_iff.mpr c
 | .ps _ _,c=>⟨h.mem_iff.mpr c.1,h.mem_iff.mpr c.2.1,λz=>c.2.2 (k.mem_iff.mp z)⟩
 | .ts _ _,c=>⟨h.mem_iff.mpr c.1,h.mem_iff.mpr c.2.1,k.mem_iff.mpr c.2.2⟩
def Ck{H:Hp}{l:A3}{a:A0 IZ}{ns:A0 Str}{b:A0 IZ}(e:H l=some (.lst (F8 a)))(c:∀q∈a,G0 H q)(d:(a.map λq=>q.2)=y6 ns b)(f:∀n∈ns,PySem.PyData.strOk n=true)(g:ns.length<=100):Ow H 3 (RM true ((y6 ns b).map λk=>RM false ([k.1,k.2].map PyData.str))) (.ref l) [l]:=by
 rw[<-d];refine Gm e c (λq h=>?_) ?_
 .have:q.2∈y6 ns b:=d▸BJ.mpr ⟨q,h,rfl⟩;obtain⟨n,i,e⟩:=BJ.mp this;rw[<-e];exact⟨f n i,Mq⟩
 .have:=congrArg List.length d;unfold y6 at this;rw[AB,AB]at this;lia
structure KO(CK CW:A3)(X:A0 A3)(H:Hp)(k p o:A3)(ss:A0 Str)(ps:A0 IZ)(ns:A0 Str)(qs:A0 IZ)(rk:A0 Str)(m:Nat):Prop where
 kp:KB CK CW H k p ns qs rk m
 own:JQ X H o ss ps
 pn:ns.Perm ss
 pq:(qs.map λq=>q.2).Perm (ps.map λq=>q.2)
 l30:ss.length<=30
 l140:ps.length<=140
def KO.same{a b:A3}{X:A0 A3}{H H':Hp}{k p o:A3}{ss ns c:A0 Str}{ps d:A0 IZ}{m:Nat}(h:KO a b X H k p o ss ps ns d c m)(s:Cv H H'):KO a b X H' k p o ss ps ns d c m:=⟨h.kp.same s,h.own.same s,h.pn,h.pq,h.l30,h.l140⟩
def KO.neX{a b:A3}{X Y:A0 A3}{H:Hp}{k p o:A3}{ss ns c:A0 Str}{ps d:A0 IZ}{m:Nat}(h:KO a b X H k p o ss ps ns d c m)(e:∀z∈Y,H z=none\/z∈X):KO a b Y H k p o ss ps ns d c m:=⟨h.kp,h.own.neX e,h.pn,h.pq,h.l30,h.l140⟩
structure ST(CK CW:A3)(X:A0 A3)(H:Hp)(k p o po x f:A3)(ns:A0 Str)(qs qs1:A0 IZ)(ss:A0 Str)(ps:A0 IZ):Prop where
 kp:KB CK CW (eK H k p) o po ns qs [] 0
 web:I1 CW (eK H k p) x ns qs1
 own:JQ X H f ss ps
 pn:ns.Perm ss
 pq:(qs.map λq=>q.2).Perm (ps.map λq=>q.2)
 pq1:(qs1.map λq=>q.2).Perm (ps.map λq=>q.2)
section
variable{CK CW:A3}{X Y:A0 A3}{H H':Hp}{k p o po x f l:A3}{c:Int}{ns ss:A0 Str}{qs qs1 ps:A0 IZ}
theorem ST.bt(h:ST CK CW X H k p o po x f ns qs qs1 ss ps)(b:Bt k p H H')(c:k∈X)(d:p∈X):ST CK CW X H' k p o po x f ns qs qs1 ss ps :=
 ⟨h.kp.same b.eK,h.web.same b.eK,h.own.sm λa u e n=>b a u (λz=>n (z▸c)) (λz=>n (z▸d)) e,h.pn,h.pq,h.pq1⟩
theorem ST.same(h:ST CK CW X H k p o po x f ns qs qs1 ss ps)(s:Cv H H'):ST CK CW X H' k p o po x f ns qs qs1 ss ps:=⟨h.kp.same (Bt.of s).eK,h.web.same (Bt.of s).eK,h.own.same s,h.pn,h.pq,h.pq1⟩
theorem ST.neX(h:ST CK CW X H k p o po x f ns qs qs1 ss ps)(a:∀z∈Y,H z=none\/z∈X):ST CK CW Y H k p o po x f ns qs qs1 ss ps:=⟨h.kp,h.web,h.own.neX a,h.pn,h.pq,h.pq1⟩
theorem ST.sm(h:ST CK CW X H k p o po x f ns qs qs1 ss ps)(L:IW H l c)(lk:l≠k)(g:l≠p)(lo:l≠po)(i:l∈X)(s:Sm [l] H H'):ST CK CW X H' k p o po x f ns qs qs1 ss ps:=by
 have a:IW (eK H k p) l c:=let⟨y,z,e,h⟩:=L;⟨y,z,by rw[R8 lk g];exact e,h⟩;have d:Sm [l] (eK H k p) (eK H' k p):=λb o e n=>by
  obtain⟨j,m,e⟩:=Dr e;rw[R8 j m];exact s _ _ e n
 exact⟨h.kp.sm a lo d,h.web.sm a d,h.own.smp i s,h.pn,h.pq,h.pq1⟩
theorem ST.poNe(h:ST CK CW X H k p o po x f ns qs qs1 ss ps):H po≠none:=by
 obtain⟨_,_,_,_,_,_,_,_,_,_,_,_,_,_,a,_⟩:=h.kp.ex;rw[(Dr a).2.2];intro z;cases z
end
def zBp{K:VA}{a D:A3}{us:A0 (A3×Row)}{r:St}{s:TE}{H:Hp}{Q:St->Hp->Prop}(L:RL H a us)(C:us.length<=1000)(u:H D=none)
  (E:∀y∈us,∀e,Cv H e->∀w:VK,(∀t,e t=none->w (.ref t) (II e t (.tup [.str y.2.1,.str y.2.2.1])))->s (some (.ref y.1)::r) e w)
  (h:∀σ g b,Cv H g->g D=some (.lst (F8 b))->(∀q∈b,G0 g q)->(b.map λq=>q.2) =(us.map λq=>(q.2.1,q.2.2.1))->Q σ g) (x:A5 V) :
  Bi (Q4 0) Ef (Z8 D s) (QS K a) (x::r) (II H D (.lst [])) Q:=by
 refine Q3 (PQ (K:=K) (IR.of L.1)) (λi σ d=>(∃v,σ=v::r)/\Cv H d/\∃b:A0 IZ,d D=some (.lst (F8 b))/\(∀q∈b,G0 d q)/\(b.map λq=>q.2) =((us.take i).map λq=>(q.2.1,q.2.2.1)))
  ⟨⟨_,rfl⟩,Cv.new u,[],A7,λq l=>absurd l A_,rfl⟩ (λi σ e _ ⟨_,F,_⟩=>F.at a) ?_ ?_
 .rintro i σ d v N A ⟨⟨x,rfl⟩,j,b,m,P3,f⟩ G;rw[AJ]at A;obtain⟨y,B,rfl⟩:=BG.mp A;refine By (E y (AZ B) d j _ λt I=>?_);have k:=Cv.new (o:=.tup [.str y.2.1,.str y.2.2.1]) I;have n:(II d t (.tup [.str y.2.1,.str y.2.2.1])) t=some (.tup [.str y.2.1,.str y.2.2.1]):=A7;generalize II d t (.tup [.str y.2.1,.str y.2.2.1])=M at k n⊢;have p:=k _ _ m;have J:=congrArg List.length f;rw[AB,AB,AX]at J;refine⟨_,p,by unfold F8;rw[AB,sizeLine_eq];lia,G _ _ ⟨⟨_,rfl⟩,(j.trans k).upd u,b ++ [(t,y.2.1,y.2.2.1)],by rw[A7];unfold F8;rw[AH];rfl,λq l=>?_,by rw[E4 B,AH,AH,f];rfl⟩⟩;rcases AN.mp l with c | c
  .have:=k _ _ (P3 q c);exact(B7 (J4 this p (by intro z;cases z))).trans this
  .rw[AE.mp c];exact(B7 (J4 n p (by intro z;cases z))).trans n
 .rintro σ d ⟨_,j,b,m,P3,f⟩;rw[AB,BP]at f;exact h σ d b j m P3 f
def Wh{K:VA}{H:Hp}{l m:A3}{a b:A0 IZ}{Q:VK}(d:H l=some (.lst (F8 a)))(e:∀q∈a,G0 H q)(f:H m=some (.lst (F8 b)))(p2:∀q∈b,G0 H q)(g:(b.map λq=>q.2)=a.map λq=>q.2)(h:∀q∈a,PySem.PyData.strOk q.2.1=true/\PySem.PyData.strOk q.2.2=true)(q:Q (.bl false) H):UB K (.ref l) (.ref m) H Q:=by
 have i:(b.map λq=>pd q.2)=a.map λq=>pd q.2:=by
  have:=congrArg (List.map pd) g
  rwa [B_,B_]at this
 have c:=Ae (K:=K) f p2;rw[i]at c;have p:Pl (.list (a.map λq=>pd q.2)):=⟨by rw[PyData.canLay0];exact Dg h,by rw[PyData.depth];have:=Dn a;lia⟩;exact⟨_,_,Ae d e,c,p,p,by rw[PySem.SeqAt.eqv_refl _ p.1];exact q⟩
section
variable{K:VA}
theorem chk{b f:A3}{X:A0 A3}{σ:St}{H:Hp}{k p o:A3}{ss ns l:A0 Str}{ps c:A0 IZ}{m i j:Nat}{v:Bool->Hp->Prop}(w:σ[i]?=some (some (.ref k)))(x:σ[j]?=some (some (.ref o)))(h:KB b f H k p ns c l m)(O:JQ X H o ss ps)(pn:ns.Perm ss)(z:(c.map λq=>q.2).Perm (ps.map λq=>q.2))(q:∀H',Cv H H'->v false H') :
  tOr (zHm (tB (Hr (n8 3) [] E0 (U9 (Rj b "words" (Jz b f) [] E0 (X0 i) Fh) (U9 (Hr Oa [] E0 (U9 (X0 j) Fh)) Fh)))))
   (zHm (tB (Hr (Ob f) [] E0 (U9 (Rj b "web_now" (Fe b f) [] E0 (X0 i) Fh) (U9 (X0 j) Fh))))) σ H v:=by
 obtain⟨A,_,_,_,_,_,_,_,B,W,_⟩:=id h.ex;refine C3 w ⟨k,A,C3 rfl ⟨B,rfl,k,p,ns,c,l,m,rfl,h,λV Y Z C E F G I=>?_⟩⟩;refine C3 x ⟨X,o,ss,ps,rfl,O.same C,λl2 J K G2 r L s d M N g=>?_⟩;rw[O8 d W.ok.srt (s.trans pn.symm)]at g;have g:(K.map λq=>q.2)=y6 ns c:=by rw[g];unfold y6;rw[Bb z]
 have e:∀n∈ns,PySem.PyData.strOk n=true:=λn P=>P9 (h.nm n P);refine(Ck (r _ _ F) (G9 r G) I e W.ok.len).alike (Ck M (λq Q=>(N q Q).1) g e W.ok.len) λG3 R=>⟨_,rfl,O9 ?_⟩;have a:=(C.trans r).trans R;refine C3 w ⟨k,A,C3 rfl ⟨a _ _ B,rfl,k,p,ns,c,l,m,rfl,h.same a,λy t G4 u D hy S=>?_⟩⟩;exact C3 x ⟨X,y,o,ss,ns,t,ps,rfl,S,O.same (a.trans D),pn,(u.map _).trans z,λT U=>⟨_,rfl,q T (a.trans (D.trans U))⟩⟩
end
theorem KH:IL ["_law_script","_law_left_here","_law_own","_law_web","_law_keeper","_law_other","_law_first","_law_spent","_law_k","_law_turn","_law_deed_here","_law_now","_law_name"] ["_law_script"] (B6 OM):=Kc
def Nf(K:VA):Sp:=λb H Q _=>∃(u:A3) (a:A0 Int),b = [.ref u]/\IR K H u (a.map V.int)/\a.length<=63/\∀c,Q (.bl true) c
set_option maxHeartbeats 8000000 in
theorem zGd(T:Tx K mg){f:A3}{fd:I7}(F:PL K "law" "law" OM f fd):IU P w K mg base JW 10 f fd ["_law_script"] (Nf K):=by
 have g:IU P w K mg base JW 3 T.an.f T.an.fd ["_law_found","_law_due"] (n8 3):=Z9 T 3;refine F.o1 KH λcdv A outer s H vs Q E B h=>?_
 .obtain⟨u,xs,rfl,hS,hlen,q⟩:=h;have hu:=Q6 B;refine⟨_,(A9 (C8 (i:=1) KH.nd rfl (.inl rfl) (D9 T.a2 (De T) (Rm B) (A6 (pv 0) (A6 B5 A8))))
   (A9 (C8 (i:=2) KH.nd rfl (.inr rfl) (D9 T.aT (Cg T) (Rm B) (A6 (pv 1) A8)))
   (A9 (C8 (i:=3) KH.nd rfl (.inl rfl) (j7 T.bk (T8 T) (Rm B) rfl T.bj T.aC .nil J1 (A6 (E8 (K_ K) (pv 2) B5 (λ_ _=>rfl)) (A6 (E8 (K_ K) (pv 2) B5 (λ_ _=>rfl)) A8))))
   (A9 (Sn (i:=4) (j:=5) rfl KH.nd rfl rfl (by decide) rfl rfl (A6 (j7 T.bB (t8 T) (Rm B) rfl T.bx T.bi .nil J1 (A6 (pv 3) A8)) (A6 (j7 T.bB (t8 T) (Rm B) rfl T.bx T.bi .nil J1 (A6 (pv 3) A8)) A8)) rfl)
   (A9 (C8 (i:=6) KH.nd rfl (.inl rfl) (E9 (A6 (g7 (T7 K) T.az Q0 (A6 (E8 (K_ K) (pv 2) B5 (λ_ _=>rfl)) A8)) (A6 (g7 (T7 K) T.az Q0 (A6 (E8 (K_ K) (pv 2) B5 (λ_ _=>rfl)) A8)) A8))))
   (A9 (K0 (PW.pt (c9 (P2 (J9 (D9 T.an g (Rm B) (A6 (F5 (pv 4) T.ab T.aH.m (Cb T) (Rm B) T.aH.b .nil J1) (A6 (E9 A8) A8))))) (U2 (B8 So (F5 (pv 4) T.ab T.aN.m (El T) (Rm B) T.aN.b .nil J1) U3 (D8 _))))) (B4 (C0 j4)) D0)
   (A9 (K0 (PW.pt (c9 (P2 (J9 (D9 T.an g (Rm B) (A6 (F5 (pv 4) T.ab T.ap.m (S8 T) (Rm B) T.ap.b .nil J1) (A6 (D9 T.aB (U5 T) (Rm B) (A6 (pv 2) A8)) A8))))) (U2 (P2 (J9 (D9 T.aG (V2 T) (Rm B) (A6 (F5 (pv 4) T.ab T.am.m (P5 T) (Rm B) T.am.b .nil J1) (A6 (pv 2) A8)))))))) (B4 (C0 j4)) D0)
   (A9 (C8 (i:=7) KH.nd rfl (.inl rfl) B5)
   (A9 (W6 PassesOwn.never rfl (Vo (by rfl) T.aU (A6 B5 (A6 (F9 (Uh rfl) T.b8 zGf (A6 B5 (A6 (F9 (Td rfl) T.b7 zDw (A6 (F9 (T0 K) T.ax Q5 (A6 (pv 0) A8)) (A6 B5 A8))) A8))) A8))) (I9 (i:=8) KH.nd rfl (.inl rfl))
   (A9 (C8 (i:=1) KH.nd rfl (.inl rfl) (D9 T.a2 (De T) (Rm B) (A6 (pv 0) (A6 (pv 8) A8))))
   (A9 (C8 (i:=7) KH.nd rfl (.inl rfl) (G8 X3 (pv 7) (G8 w4 B5 (D9 T.a4 (Hf T) (Rm B) (A6 (pv 2) A8)))))
   (A9 (K0 (B8 zBq (pv 7) B5 (D8 _)) (B4 Wm) D0)
   (A9 (W6 PassesOwn.never rfl (T2 T.aU (A6 (G8 X3 B5 (D9 T.ak (E3 T) (Rm B) (A6 (pv 1) (A6 B5 A8)))) A8)) (I9 (i:=9) KH.nd rfl (.inl rfl))
   (A9 (C8 (i:=10) KH.nd rfl (.inl rfl) (D9 T.bg (Ky T) (Rm B) (A6 (pv 1) (A6 (pv 2) A8))))
   (B4 (K0 (B8 Uu (D9 T.aW (Dy T) (Rm B) (A6 (pv 2) (A6 (pv 10) A8))) U3 (D8 _)) (A9 (J8 (D9 T.bh (Lm T) (Rm B) (A6 (pv 4) (A6 (pv 10) A8))))
   (B4 (C8 (i:=2) KH.nd rfl (.inr rfl) (E8 (PP K) (D9 T.a1 (Ee T) (Rm B) (A6 (pv 2) (A6 (pv 10) A8))) B5 (λ_ _=>rfl))))) D0))))
   (B4 (K0 (PW.pt (c9 (P2 (J9 (D9 T.an g (Rm B) (A6 (F5 (pv 4) T.ab T.ap.m (S8 T) (Rm B) T.ap.b .nil J1) (A6 (D9 T.aB (U5 T) (Rm B) (A6 (pv 2) A8)) A8))))) (U2 (P2 (J9 (D9 T.aG (V2 T) (Rm B) (A6 (F5 (pv 4) T.ab T.am.m (P5 T) (Rm B) T.am.b .nil J1) (A6 (pv 2) A8)))))))) (B4 (C0 j4)) D0)))))))
   (A9 (C8 (i:=11) KH.nd rfl (.inl rfl) (F5 (pv 4) T.ab T.am.m (P5 T) (Rm B) T.am.b .nil J1))
   (A9 (W6 PassesOwn.never rfl (MW K (W9 (N':=["_law_name","_law_own"]) (cap:=[none,some 2]) (cl:=[("_law_own",_)]) (P4 ⟨⟨rfl,rfl,rfl,rfl⟩,trivial⟩ ⟨rfl,trivial⟩) rfl (MW K (G8 Ap (E8 (K_ K) (pv 6) B5 (λ_ _=>rfl)) (E9 (A6 C2 A8)))) (λ_ _ _ _=>by exact⟨(LS 0),(P0 (B8 (X8 K) (pv 0) (E8 (K_ K) (pv 1) B5 (λ_ _=>rfl)) rfl)),(pv 0)⟩))) (I9 (i:=12) KH.nd rfl (.inl rfl))
   (B4 (K0 (PW.pt (c9 (P2 (J9 (D9 T.aR (t9 T) (Rm B) (A6 (pv 11) (A6 (pv 12) (A6 j4 A8)))))) (U2 (P2 (J9 (D9 T.aR (t9 T) (Rm B) (A6 (pv 11) (A6 (pv 12) (A6 j4 A8))))))))) (B4 (C0 j4)) D0)))
   (A9 (K0 (B8 (Sk K B.units) (F9 (Au K) T.ay K8 (A6 (W9 (N':=["_law_row"]) (cap:=[none]) (cl:=[]) (P4 trivial trivial) rfl (MW K (D9 T.bq (Ti T) (Rm B) (A6 (pv 11) A8))) (λ_ _ _ _=>by exact⟨(LS 0),P1,(Y1 (zIp K) (pv 0) y4 (Ab B5))⟩)) A8)) (F9 (Au K) T.ay K8 (A6 (F5 (pv 4) T.ab T.ap.m (S8 T) (Rm B) T.ap.b .nil J1) A8)) (D8 _)) (B4 (C0 j4)) D0)
   (A9 (K0 (PW.pt (c9 (P2 (J9 (D9 T.aG (V2 T) (Rm B) (A6 (pv 3) (A6 (pv 6) A8))))) (U2 (P2 (J9 (D9 T.aG (V2 T) (Rm B) (A6 (F5 (pv 5) T.ab T.am.m (P5 T) (Rm B) T.am.b .nil J1) (A6 (pv 6) A8)))))))) (B4 (C0 j4)) D0)
   (B4 (C0 (D9 T.an g (Rm B) (A6 (F5 (pv 5) T.ab T.ap.m (S8 T) (Rm B) T.ap.b .nil J1) (A6 (D9 T.aB (U5 T) (Rm B) (A6 (pv 6) A8)) A8)))))))))))))))))),?_⟩
  refine B3 λN1 hN1=>?_;refine C3 rfl ⟨u,xs,0,rfl,hS,by decide,λp0 H1 hp0 s1 L1=>?_⟩;refine hN1 _ _ (B3 λN2 hN2=>?_);refine C3 rfl ⟨p0,0,rfl,L1,by decide,λo ss ps H2 ho k2 O2 ls lp=>?_⟩;refine hN2 _ _ (B3 λN3 hN3=>?_);obtain⟨⟨a,b,e1,e2,e3,_⟩,pin,nm,st⟩:=id O2;have s2:Cv H H2:=λb o e=>k2 b o (s1 b o e) (by simpa using B0 e hp0);refine C3 rfl ⟨o,_,0,_,rfl,rfl,IR.of e1,rfl,C3 rfl ⟨o,_,1,_,rfl,rfl,IR.of e1,rfl,?_⟩⟩;intro y dy ny ndy ney;refine Ex ny ndy e2 e3 (λq hq=>(pin q hq).1) nm st λR qs H3 pn sn pq sq s3 W3 _=>?_;obtain⟨_,dx,_,_,_,_,_,_,ey,_⟩:=id W3;refine hN3 _ _ (B3 λN4 hN4=>?_);have nmn:∀n∈R,S0 n=true:=λn hn=>nm.1 n (pn.mem_iff.mp hn);refine C3 rfl ?_;intro k dk nk ndk nek;have s0:Cv H3 (II (II H3 dk (.own k)) k (.ins T.aa dk [])):=λb o e=>by
   rw[B7 (B0 e nk),B7 (B0 e ndk)];exact e
  refine⟨k,dk,y,R,qs,rfl,A7,W3.same s0,B0 ey nk,nmn,λp S H4 pq2 b4 hp K4 _=>⟨rfl,?_⟩⟩;have hp3:H3 p=none:=s0.free hp;have s34:Cv H3 H4:=λb o e=>b4 b o (B0 e nk) (B0 e hp3) (s0 b o e);have W4:I1 T.ac (eK H4 k p) y R qs:=W3.same λb o e=>by
   rw[R8 (B0 e nk) (B0 e hp3)];exact s34 b o e
  obtain⟨dk',kx,kg,kr,_,_,_,kpl,hk4,_,_,_,_,_,hp4,_⟩:=id K4.ex;refine C3 rfl ?_;intro j dj nj ndj nej;have s5:Cv H4 (II (II H4 dj (.own j)) j (.ins T.aa dj [])):=λb o e=>by
   rw[B7 (B0 e nj),B7 (B0 e ndj)];exact e
  refine⟨j,dj,y,R,qs,rfl,A7,(W4.same U0).same s5,B0 (s34 _ _ ey) nj,nmn,λpj U H5 pq3 b5 hpj K5 C5=>⟨rfl,?_⟩⟩;have hj4:H4 pj=none:=s5.free hpj;have X:Cv H4 H5:=λb o e=>b5 b o (B0 e nj) (B0 e hj4) (s5 b o e);have jk:j≠k:=(B0 hk4 nj).symm;have kp:k≠p:=J4 hk4 hp4 (by intro z;cases z);have KS:KB T.aa T.ac (eK H5 k p) j pj R U [] 0:=(C5 p kpl (s5 _ _ hp4)).noK (X _ _ hk4) kp jk;have O5:JQ [k,p] H5 o ss ps:=(((O2.same s3).neX (Y:=[k,p]) λz hz=>.inl (by
   rcases AV.mp hz with e | e
   .rw[e];exact nk
   .rw[AE.mp e];exact hp3)).same s34).same X
  have KO5:KO T.aa T.ac [k,p] H5 k p o ss ps R S [] 0:=⟨K4.same X,O5,pn,(pq2.map _).trans (pq.map _),VE ls (by decide),VE lp (by decide)⟩;refine⟨_,_,rfl,hN4 _ _ (B3 λN5 hN5=>?_)⟩;have I:=s3.trans (s34.trans X);refine C3 rfl ⟨o,_,0,_,rfl,rfl,IR.of (I _ _ e1),rfl,a,_,rfl,.inl (IR.of (I _ _ e2)),λfa hfa=>?_⟩;have u6:=Cv.new (o:=.lst (ss.map V.str)) hfa;have f6:(II H5 fa (.lst (ss.map V.str))) fa=some (.lst (ss.map V.str)):=A7;generalize II H5 fa (.lst (ss.map V.str))=H6 at u6 f6⊢;refine C3 rfl ⟨o,_,1,_,rfl,rfl,IR.of (u6 _ _ (I _ _ e1)),rfl,b,_,rfl,.inl (IR.of (u6 _ _ (I _ _ e3))),λfb hfb=>?_⟩;have u7:=Cv.new (o:=.lst (F8 ps)) hfb;have f7:(II H6 fb (.lst (F8 ps))) fb=some (.lst (F8 ps)):=A7;have f6:=u7 _ _ f6;generalize II H6 fb (.lst (F8 ps))=H7 at u7 f6 f7⊢;refine⟨by show 2<=sizeLine;decide,λfo hfo=>hN5 _ _ (B3 λN6 hN6=>?_)⟩;have u8:=Cv.new (o:=.lst [.ref fa,.ref fb]) hfo;have f8:(II H7 fo (.lst [.ref fa,.ref fb])) fo=some (.lst [.ref fa,.ref fb]):=A7;have f6:=u8 _ _ f6;have f7:=u8 _ _ f7;generalize II H7 fo (.lst [.ref fa,.ref fb])=H8 at u8 f6 f7 f8⊢;have s58:=(u6.trans u7).trans u8;have KO8:=KO5.same s58;have kX:∀{z:A3} {v:HO},H8 z=some v->H5 z=none->z∉[k,p]:=fun{z v} _ h5 hz=>by
   rcases AV.mp hz with e | e
   .rw[e,X _ _ hk4]at h5;cases h5
   .rw[AE.mp e,X _ _ hp4]at h5;cases h5
  have ST8:ST T.aa T.ac [k,p] H8 k p j pj y fo R U qs ss ps:=⟨KS.same (Bt.of s58).eK,W4.same (Bt.of (X.trans s58)).eK,⟨⟨fa,fb,f8,f6,f7,kX f8 ((u6.trans u7).free hfo),kX f6 hfa,kX f7 (u6.free hfb)⟩,λq hq=>⟨(u6.trans (u7.trans u8)) _ _ (O5.pin q hq).1,(O5.pin q hq).2⟩,nm,st⟩,pn,(pq3.map _).trans (pq.map _),pq.map _⟩;have kH:H k=none:=(s2.trans s3).free nk;have pH:H p=none:=(s2.trans s3).free hp3;have s8:=s2.trans (I.trans s58);have hk8:=(X.trans s58) _ _ hk4;clear kX KO5 KS O5 C5 K5 b5 hpj hj4 X s5 s58 u6 u7 u8 f6 f7 f8 hfa hfb hfo W4 b4 hp K4 s0 hp3 W3 ey pq sq pq2 pq3 sn pn s3 s34 I e1 e2 e3 pin k2 L1 s1 s2 hp4 nj nk ndk ndj nek nej jk kp O2 ny ndy ney hp0 ho hk4;refine C3 rfl ⟨k,dk',C3 rfl ⟨hk8,rfl,k,p,R,S,[],0,rfl,KO8.kp,λla hla=>?_⟩⟩;have ua:=Cv.new (o:=.lst (([]:A0 Str).map V.str)) hla;refine⟨BZ _,λlb hlb=>?_⟩;have ub:=Cv.new (o:=.lst []) hlb;refine(Ow.strs (b:=true) (n:=1) (ss:=[]) (ub _ _ A7) (λx hx=>absurd hx A_) (BZ _)).alike (Ow.strs (b:=true) (n:=1) (ss:=[]) A7 (λx hx=>absurd hx A_) (BZ _)) λH9 s9=>⟨_,rfl,O9 ?_⟩;have s89:=(ua.trans ub).trans s9;have KO9:=KO8.same s89;have Z:=ST8.same s89;have s9:=s8.trans s89;have hk9:=s89 _ _ hk8;clear ua ub hla hlb s89 KO8 ST8 s8 hk8;refine C3 rfl ⟨k,dk',C3 rfl ⟨hk9,rfl,k,p,R,S,[],rfl,KO9.kp,⟨rfl,_,rfl,?_⟩⟩⟩;rw[AQ rfl];refine O9 (hN6 _ _ (B3 λN7 hN7=>?_));refine chk rfl rfl KO9.kp KO9.own KO9.pn KO9.pq λHA sA=>O9 ?_;have KOA:=KO9.same sA;have N:=Z.same sA;have sA:=s9.trans sA;clear KO9 Z s9 hk9;refine hN7 _ _ (B3 λN8 hN8=>hN8 _ _ (B3 λN9 hN9=>?_));have hSA:IR K HA u (xs.map V.int):=(sA.at u).seqL hS;refine⟨_,rfl,u,_,rfl,.inl hSA,_,_,rfl,_,_,rfl,?_⟩;have hz:∀l:Int,∃z:Nat,(if(if(31:Int)<l then 31 else l) >(9:Int)then(if(31:Int)<l then 31 else l)else 9) =(z:Int)/\1<=z/\z<=31:=λl=>by
   by_cases h1:(31:Int)<l
   .rw[AO h1];exact⟨31,rfl,by decide,by decide⟩
   .rw[AI h1];by_cases h2:l>9
    .rw[AO h2];exact⟨l.toNat,by lia,by lia,by lia⟩
    .rw[AI h2];exact⟨9,rfl,by decide,by decide⟩
  obtain⟨z,ez,z1,z2⟩:=hz ((xs.map V.int).length:Int);refine⟨1,(z:Int),congrArg (λt=>[V.int 1,V.int t]) ez,⟨by lia,by lia,by lia,by lia⟩,?_⟩;rw[show((z:Int)-1).toNat=z-1 by lia];refine Qa (λi σ G=>∃(o:A3) (sp:Int) (v1 v8 v9 v10 v11 L:A5 V) (O C rk:A0 Str) (ps' M:A0 IZ) (m:Nat),σ = [some (.ref u),v1,some (.ref o),some (.ref y),some (.ref k),some (.ref j),some (.ref fo),some (.int sp),v8,v9,v10,v11,L]/\Cv H G/\KO T.aa T.ac [k,p] G k p o O ps' C M rk m/\ST T.aa T.ac [k,p] G k p j pj y fo R U qs ss ps/\m<=3*i) ⟨_,_,_,_,_,_,_,_,_,_,_,_,_,_,rfl,sA,KOA,N,VD _⟩ ?_ ?_
  .clear KOA N sA hSA hN1 hN2 hN3 hN4 hN5 hN6 hN7 hN8 hN9;rintro i σ F0 hi ⟨o,sp,v1,v8,v9,v10,v11,L,ss0,ns0,rk,ps0,qs0,m,rfl,sF,KF,SF,lm⟩ D1 hD1 hB1;refine zAv λM1 hM1=>?_;refine C3 rfl (C3 rfl ⟨u,xs,1+i,rfl,(sF.at u).seqL hS,by lia,λl F1 hl s1 L1=>?_⟩);refine hM1 _ _ (B3 λM2 hM2=>?_);have sF1:=sF.trans s1;obtain⟨dk,_,_,_,_,_,_,_,hk,_,_,_,_,_,hp,_⟩:=KF.kp.ex;have lk:l≠k:=(B0 hk hl).symm;have lp:l≠p:=(B0 hp hl).symm;have lo:l≠pj:=λz=>SF.poNe (z▸hl);have hY:∀z∈[l,k,p],F0 z=none\/z∈[k,p]:=λz hz=>(AV.mp hz).elim (λe=>.inl (by rw[e];exact hl)) .inr;have K1:KO T.aa T.ac [l,k,p] F1 k p o ss0 ps0 ns0 qs0 rk m:=(KF.neX hY).same s1;have S1:ST T.aa T.ac [l,k,p] F1 k p j pj y fo R U qs ss ps:=(SF.neX hY).same s1;clear s1 hk hp hY SF;refine C3 rfl (C3 rfl ⟨[l,k,p],o,ss0,ps0,rfl,K1.own,⟨3,_,rfl,rfl,.inl ⟨by decide,by decide⟩,C4 rfl rfl (hM2 _ _ (B3 λM3 hM3=>?_))⟩⟩);refine C3 rfl (C4 rfl rfl ?_);refine⟨_,rfl,w8 (λ_=>?_) λ_=>?_⟩
   .exact hB1 _ _ ⟨_,_,_,_,_,_,_,_,_,_,_,_,_,_,rfl,sF1,K1.neX λz hz=>.inr (AM _ hz),S1.neX λz hz=>.inr (AM _ hz),lm⟩
   refine hM3 _ _ (B3 λM4 hM4=>?_);refine C3 rfl ⟨l,0,3,rfl,L1,by decide,by decide,by decide,λd F2 hd k2 L2=>?_⟩;refine C4 rfl rfl ⟨1 +(d:Int),rfl,by lia,by lia,?_⟩;rw[show(1 +(d:Int)).toNat=1+d by lia];have lX:l∈[l,k,p]:=BA ..;have sF2:Cv H F2:=λb o e=>k2 b o (sF1 b o e) (by simpa using B0 (sF b o e) hl);have J:KO T.aa T.ac [l,k,p] F2 k p o ss0 ps0 ns0 qs0 rk m:=⟨K1.kp.sm L1 lp k2,K1.own.smp lX k2,K1.pn,K1.pq,K1.l30,K1.l140⟩;have S2:=S1.sm L1 lk lp lo lX k2;have l0:H l=none:=by
    cases e:H l with
    | none=>rfl
    | some o=>rw[sF l o e]at hl;cases hl
   refine X5 (λn σ G=>∃(o:A3) (v9 v10 v11 L:A5 V) (O C rk:A0 Str) (ps' M:A0 IZ) (m:Nat) (c:Int),σ = [some (.ref u),some (.ref l),some (.ref o),some (.ref y),some (.ref k),some (.ref j),some (.ref fo),some (.int (sp+3 *(1000 +(ss0.length:Int) *(ps0.length:Int)))),some (.int (1 +(i:Int))),v9,v10,v11,L]/\Cv H G/\IW G l c/\c<=1+10 *(n:Int)/\KO T.aa T.ac [l,k,p] G k p o O ps' C M rk m/\ST T.aa T.ac [l,k,p] G k p j pj y fo R U qs ss ps/\m<=3*i+n) ⟨_,_,_,_,_,_,_,_,_,_,_,_,rfl,sF2,L2,by lia,J,S2,by lia⟩ ?_ ?_
   .clear J K1 KF sF2 sF1 L1 L2 lm k2 hM1 hM2 hM3 hM4 hB1 hD1 S1 S2;rintro n σ F2 hn ⟨o,v9,v10,v11,L,O,C,rk,ps',M,m,c,rfl,s2,L2,hc,J,S2,lm⟩ D2 hD2 _;have j3:n<3:=by lia
    refine zAv λM1 hM1=>?_;refine C3 rfl (C3 rfl ⟨[l,k,p],l,o,c,O,ps',rfl,L2,by lia,lX,J.own,by have:=J.l140;lia,λt e c' F3 ht hc' k3 L3 D3 f3=>?_⟩);refine hM1 _ _ ?_;have s3:Cv H F3:=λb o e=>k3 b o (s2 b o e) (by simpa using B0 e l0);have kp3:=J.kp.sm L2 lp k3;have S3:=S2.sm L2 lk lp lo lX k3;have O3:=J.own.smp lX k3;refine C3 rfl (C3 rfl ⟨[l,k,p],o,t,O,ps',e,rfl,O3,D3,f3,λF4 s4 hc=>?_,λr F4 s4=>?_⟩)
    .refine⟨rfl,_,rfl,Z7 (B3 λM2 hM2=>?_)⟩;have O4:=O3.same s4;have D4:=D3.same s4;have kp4:=kp3.same s4;obtain⟨dk,_,_,_,_,_,_,_,hk,W,_,_,_,_,hp,_⟩:=id kp4.ex;refine C3 rfl (C3 rfl ⟨k,p,t,C,M,rk,m,e,rfl,kp4,by lia,D4,e.fit_perm J.pn J.pq f3,e.can_perm J.pn J.pq hc,λr2 l2 rs ns2 S ts F6 b6 hr2 hl2 er2 K6 RK pn2 pq2 R6 e6=>?_⟩);have m6:Sm [l,k,p] F4 F6:=λb u e n=>b6 b u (λz=>n (by rw[z];simp)) (λz=>n (by rw[z];simp)) e;have s6:Cv H F6:=λb o e=>b6 b o (B0 e kH) (B0 e pH) (s3.trans s4 b o e);have L6:IW F6 l c':=let⟨y,z,e,h⟩:=L3.same s4;⟨y,z,b6 _ _ lk lp e,h⟩;have D6:M_ F6 t e:=⟨b6 _ _ (J4 D4.at_ hk (by intro z;cases z)) (J4 D4.at_ hp (by intro z;cases z)) D4.at_,D4.ok⟩;have O6:=O4.sm m6;have S6:=(S3.same s4).bt b6 (by simp) (by simp);obtain⟨dk6,_,_,_,_,_,_,_,hk6,W2,_,_,_,_,hp6,_⟩:=id K6.ex;have hX:∀z∈[l,k,p],F6 z≠none:=λz hz=>by
      obtain⟨_,_,el,_⟩:=L6;rcases AV.mp hz with h | hz
      .rw[h,el];intro z;cases z
      rcases AV.mp hz with h | hz
      .rw[h,hk6];intro z;cases z
      .rw[AE.mp hz,hp6];intro z;cases z
     refine hM2 _ _ ?_;refine C3 rfl (C3 rfl ⟨[l,k,p],o,t,O,ps',e,rfl,hX,O6,D6,f3,hc,by have:=J.l140;lia,λr o2 sa ss2 ps2 F7 s7 hr0 er O7 en ep=>?_⟩);refine⟨r,_,0,_,rfl,rfl,JG.of er,rfl,?_⟩;exact hD2 _ _ ⟨_,_,_,_,_,_,_,_,_,_,_,_,rfl,s6.trans s7,L6.same s7,by lia,⟨K6.same s7,O7,by rw[en];exact pn2.trans (e.names_perm J.pn),by rw[ep];exact pq2.trans (e.prs_perm J.pq),by rw[en];exact e.names_len J.l30 f3,by
      have:=e.prs_len J.l140 f3;rw[<-ep,AB]at this;exact this⟩,S6.same s7,by lia⟩
    .refine⟨rfl,_,rfl,O9 ?_⟩;exact hD2 _ _ ⟨_,_,_,_,_,_,_,_,_,_,_,_,rfl,s3.trans s4,L3.same s4,by lia,⟨kp3.same s4,O3.same s4,J.pn,J.pq,J.l30,J.l140⟩,S3.same s4,by lia⟩
   .rintro σ G ⟨o,v9,v10,v11,L,O,C,rk,ps',M,m,c,rfl,sG,_,_,KG,SG,lm⟩;refine hM4 _ _ ?_;refine chk rfl rfl KG.kp KG.own KG.pn KG.pq λG2 s2=>O9 ?_;exact hD1 _ _ ⟨_,_,_,_,_,_,_,_,_,_,_,_,_,_,rfl,sG.trans s2,(KG.same s2).neX λz hz=>.inr (AM _ hz),(SG.same s2).neX λz hz=>.inr (AM _ hz),by lia⟩
  .rintro i σ G ⟨o,sp,v1,v8,v9,v10,v11,L,O,C,rk,ps',M,m,rfl,sG,KG,SG,lm⟩;refine hN9 _ _ (B3 λM1 hM1=>?_);obtain⟨dk,_,_,_,_,_,_,_,hk,W,_⟩:=id KG.kp.ex;refine C3 rfl ⟨k,dk,C3 rfl ⟨hk,rfl,k,p,C,M,rk,m,rfl,KG.kp,λx2 S G2 pq2 s2 hx2 W2=>hM1 _ _ (B3 λM2 hM2=>?_)⟩⟩;have hk2:=s2 _ _ hk;have J:=KG.same s2;have S2:=SG.same s2;clear sG KG SG hM1 hk s2 hx2;obtain⟨⟨fa,fb,f1,f2,f3,_⟩,fpin,fnm,fst⟩:=id S2.own;obtain⟨⟨oa,ob,o1,o2,o3,_⟩,_⟩:=id J.own;refine C3 rfl ⟨fo,_,0,_,rfl,rfl,IR.of f1,rfl,⟨by show 1<=sizeLine;decide,λnl hnl=>⟨fa,nl,_,_,rfl,rfl,Cv.new hnl _ _ f2,A7,by rw[AB,sizeLine_eq];show ss.length+1<=_;have:=fnm.2.2;lia,λcl hcl=>⟨cl,rfl,⟨_,IR.of A7⟩,λD hD=>?_⟩⟩⟩⟩;have u3:=(Cv.new (o:=.lst [V.str "nobody"]) hnl).trans (Cv.new (o:=.lst (ss.map V.str ++ [V.str "nobody"])) hcl);have g3:(II (II G2 nl (.lst [V.str "nobody"])) cl (.lst (ss.map V.str ++ [V.str "nobody"]))) cl=some (.lst ((ss ++ [("nobody":Str)]).map V.str)):=by rw[A7,AH];rfl
   generalize II (II G2 nl (.lst [V.str "nobody"])) cl (.lst (ss.map V.str ++ [V.str "nobody"]))=G3 at u3 g3 hD⊢;refine V3 (λn=>!decide (n∈O)) g3 (by rw[AS];have:=fnm.2.2;show ss.length+1<=_;lia) hD (λz hz H4 s4 Q' hQ=>?_) (λσ G4 s4 f4=>?_) _
   .have s24:=u3.trans s4;exact C3 rfl (C3 rfl ⟨o,_,0,_,rfl,rfl,IR.of (s24 _ _ o1),rfl,T9 (.inl (IR.of (s24 _ _ o2))) ⟨_,rfl,hQ H4 λb o e=>e⟩⟩)
   have s24:=u3.trans s4;refine⟨D,rfl,⟨_,IR.of f4⟩,Di (PQ (IR.of f4)) (λn σ G5=>(∃L,σ = [some (.ref u),v1,some (.ref o),some (.ref y),some (.ref k),some (.ref j),some (.ref fo),some (.int sp),v8,v9,v10,some (.ref x2),L])/\Cv G4 G5) ⟨⟨_,rfl⟩,λb o e=>e⟩ (λn σ G5 _ ⟨_,s5⟩=>s5.at D) ?_ ?_⟩
   .rintro n σ G5 v hv ⟨⟨L,rfl⟩,s5⟩ D1 hD1 _;rw[AJ]at hv;obtain⟨z,hz,rfl⟩:=BG.mp hv;have zn:z∉C:=λh=>by
     have:=(AW.mp (AZ hz)).2;rw[AQ (J.pn.mem_iff.mp h)]at this;cases this
    have I:=s24.trans s5;refine C3 rfl (C3 rfl ⟨x2,z,false,C,S,rfl,W2.same I,zn,λG6 s6=>?_⟩);refine⟨_,rfl,O9 (C3 rfl (C3 rfl ⟨x2,z,true,C,S,rfl,W2.same (I.trans s6),zn,λG7 s7=>⟨_,rfl,O9 ?_⟩⟩))⟩;exact hD1 _ _ ⟨⟨_,rfl⟩,s5.trans (s6.trans s7)⟩
   rintro σ G5 ⟨⟨L,rfl⟩,s5⟩;have I:=s24.trans s5;clear s24 s5 s4 f4 u3 g3 hD hcl hnl;refine hM2 _ _ (B3 λM3 hM3=>?_);refine C3 rfl ⟨x2,C,S,rfl,W2.same I,λlr us H5 s5 hlr Lr wd pm=>⟨lr,rfl,⟨_,IR.of Lr.1⟩,λD2 hD2=>?_⟩⟩;have lus:us.length=C.length:=by
    have:=pm.length_eq
    rwa [AB]at this
   have l100:=W.ok.len;refine zBp Lr (by lia) hD2 (λz hz H6 s6 Q' hQ=>?_) (λσ H6 rs6 s6 e6 p6 q6=>?_) _
   .exact C3 rfl ⟨2,rfl,.inl ⟨z.1,_,rfl,JG.of (s6 _ _ (Lr.2 z hz)),by show ¬(HT.JU 3 0 none=0/\HT.JU 3 3 (some 2)=3);decide,λT1 hT1=>hQ T1 hT1⟩⟩
   have w6:(rs6.map λq=>q.2).Perm (y6 C M):=by
    have e:(us.map λq=>(q.2.1,q.2.2.1)) =(us.map λq=>q.2.1).map λn=>(n,J7 (B2 S) n):=by
     rw[B_];exact G_ λq hq=>by rw[wd q hq];rfl
    rw[q6,e,Bb (pq2.map λq=>q.2)];exact pm.map _
   have okw:∀q∈y6 C M,PySem.PyData.strOk q.1=true/\PySem.PyData.strOk q.2=true:=λq hq=>by
    obtain⟨n,hn,e⟩:=BJ.mp hq;rw[<-e];exact⟨P9 (J.kp.nm n hn),Mq⟩
   have s26:=(I.trans s5).trans s6;clear I s5 s6 Lr hD2 hlr;refine⟨D2,rs6,rfl,IR.of e6,p6,λl7 k7 hl7 pk7 sk7=>?_⟩;have u7:=Cv.new (o:=.lst (F8 k7)) hl7;have f7:(II H6 l7 (.lst (F8 k7))) l7=some (.lst (F8 k7)):=A7;have p7:∀q∈k7,G0 (II H6 l7 (.lst (F8 k7))) q:=λq hq=>u7 _ _ (p6 q (pk7.mem_iff.mp hq));generalize hH7:II H6 l7 (.lst (F8 k7))=H7 at u7 f7 p7;have hH7:II H6 l7 (.lst (k7.map λq=>V.ref q.1))=H7:=hH7;rw[hH7];have s27:=s26.trans u7;refine C3 rfl ⟨k,dk,C3 rfl ⟨s27 _ _ hk2,rfl,k,p,C,M,rk,m,rfl,J.kp.same s27,λl8 r8 H8 s8 hl8 e8 p8 q8=>?_⟩⟩;refine⟨l8,r8,rfl,IR.of e8,p8,λl9 k9 hl9 pk9 sk9=>?_⟩;have u9:=Cv.new (o:=.lst (F8 k9)) hl9;have s79:=s8.trans u9;refine Wh (s79 _ _ f7) (λq hq=>s79 _ _ (p7 q hq)) A7 (λq hq=>u9 _ _ (p8 q (pk9.mem_iff.mp hq))) (Ql sk9 sk7 ((pk9.map _).trans (by rw[q8];exact w6.symm.trans (pk7.map _).symm))) (λq hq=>okw _ ((pk7.map _).trans w6 |>.mem_iff.mp (BJ.mpr ⟨q,hq,rfl⟩))) ⟨_,rfl,O9 (hM3 _ _ (B3 λM4 hM4=>?_))⟩;have s29:=s27.trans s79;have Z:ST T.aa T.ac [k,p] (II H8 l9 (.lst (k9.map λq=>V.ref q.1))) k p j pj y fo R U qs ss ps:=S2.same s29;generalize (II H8 l9 (.lst (k9.map λq=>V.ref q.1)):Hp)=H9 at Z⊢;refine C3 rfl (C3 rfl ⟨[k,p],y,fo,ss,R,qs,ps,rfl,Z.web.same U0,Z.own,Z.pn,Z.pq1,λHA sA=>⟨_,rfl,O9 ?_⟩⟩);have N:=Z.same sA;have KA:=N.kp.same U0;obtain⟨dj',_,_,_,_,_,_,_,hj,WA,_⟩:=id KA.ex;refine C3 rfl ⟨j,dj',C3 rfl ⟨hj,rfl,j,pj,R,U,[],0,rfl,KA,λy2 qs4 HB pq4 sB hy2 WB=>?_⟩⟩;refine C3 rfl ⟨[k,p],y2,fo,ss,R,qs4,ps,rfl,WB,N.own.same sB,N.pn,(pq4.map _).trans N.pq,λHC sC=>⟨_,rfl,O9 (hM4 _ _ ?_)⟩⟩;have sAC:=sB.trans sC;refine C3 rfl ⟨j,dj',C3 rfl ⟨sAC _ _ hj,rfl,j,pj,R,U,[],0,rfl,KA.same sAC,λl1 r1 HD sD hl1 e1 p1 q1=>?_⟩⟩;refine C3 rfl ⟨[k,p],fo,ss,ps,rfl,(N.own.same sAC).same sD,λl2 ns3 r2 HE sE hl2 pn3 srt3 e2 p2 q2=>?_⟩;rw[O8 srt3 WA.ok.srt (pn3.trans N.pn.symm)]at q2;have q2:(r2.map λq=>q.2)=y6 R U:=by rw[q2];unfold y6;rw[Bb N.pq]
   have okn:∀n∈R,PySem.PyData.strOk n=true:=λn hn=>P9 (KA.nm n hn);exact(Ck (sE _ _ e1) (G9 sE p1) q1 okn WA.ok.len).alike (Ck e2 (λq hq=>(p2 q hq).1) q2 okn WA.ok.len) λHF _=>q HF
end
section
variable{K:VA}{h:IP}{mg:Str->A5 A2}
theorem TF{us:A0 A2}(h:us.length=1):∃a,us = [a]:=List.length_eq_one_iff.mp h
theorem QL{us:A0 A2}(h:us.length=2):∃a b,us = [a,b]:=by
 cases us with
 | nil=>cases h
 | cons a r=>obtain⟨b,rfl⟩:=TF (Nat.succ.inj h);exact⟨a,b,rfl⟩
theorem SK{us:A0 A2}(h:us.length=3):∃a b c,us = [a,b,c]:=by
 cases us with
 | nil=>cases h
 | cons a r=>obtain⟨b,c,rfl⟩:=QL (Nat.succ.inj h);exact⟨a,b,c,rfl⟩
def JF{x:Str}{st:IY}{ps:A0 Str}{f:A3}{n:A2}{o i:A5 A3}{j:IG (A5 A2)}{kV e m d ct:A2}(X:K.In h)(G:h.Ns mainGlobals mg)(a:PySem.W.nsIn K mainGlobals x=some (some (.ref f)))
  (l:K.lookup f=some ⟨n,o,.func (PySem.W.fnOf x x (X2 st) (T3 st) (B6 st) .none kV e m i d ct),j⟩) (c:PySem.W.codeIn K d x=true) (k:PySem.W.keepIn K (.ref f)=true)
  (p:∀(kV e m:A2) (i:A5 A3) (d ct:A2) (us:A0 A2),us.length=ps.length->bindArgs (PySem.W.fnOf x x (X2 st) (T3 st) (B6 st) .none kV e m i d ct) ⟨us,[]⟩=pure (ps.zip us):=by intro _ _ _ _ _ _ us g;first | (obtain rfl:=E_.mp g;rfl) | (obtain⟨a,rfl⟩:=Sw.TF g;rfl) | (obtain⟨a,b,rfl⟩:=Sw.QL g;rfl) | (obtain⟨a,b,c,rfl⟩:=Sw.SK g;rfl)):Fn K mg x st ps :=
 ⟨f,_,KY l c k,(KY l c k).binds p,PySem.W.mg_of X G a⟩
def LJ{C:A3}{x q:Str}{st:IY}{ps:A0 Str}{f:A3}{n:A2}{o h:A5 A3}{j:IG (A5 A2)}{kV e m d ct:A2}(a:PySem.W.findIn K (.ref C) x=some (some (.ref f)))(i:PySem.W.isFn K (.ref f)=true)
  (l:K.lookup f=some ⟨n,o,.func (PySem.W.fnOf x q (X2 st) (T3 st) (B6 st) .none kV e m h d ct),j⟩) (c:PySem.W.codeIn K d q=true) (k:PySem.W.keepIn K (.ref f)=true)
  (p:∀(kV e m:A2) (h:A5 A3) (d ct:A2) (us:A0 A2),us.length=ps.length->bindArgs (PySem.W.fnOf x q (X2 st) (T3 st) (B6 st) .none kV e m h d ct) ⟨us,[]⟩=pure (ps.zip us):=by intro _ _ _ _ _ _ us g;first | (obtain rfl:=E_.mp g;rfl) | (obtain⟨a,rfl⟩:=Sw.TF g;rfl) | (obtain⟨a,b,rfl⟩:=Sw.QL g;rfl) | (obtain⟨a,b,c,rfl⟩:=Sw.SK g;rfl)):Mt K C x q st ps :=
 ⟨f,_,KY l c k,(KY l c k).binds p,⟨a,i,k⟩⟩
theorem TB{x z:Str}{v:A2}(X:K.In h)(G:h.Ns mainGlobals mg)(a:PySem.W.nsIn K mainGlobals x=some (some v))(e:∃t,v = .str z t):∃t,mg x=some (.str z t):=by
 obtain⟨t,rfl⟩:=e;exact⟨t,PySem.W.mg_of X G a⟩
theorem TH{x:Str}{z:Int}{v:A2}(X:K.In h)(G:h.Ns mainGlobals mg)(a:PySem.W.nsIn K mainGlobals x=some (some v))(e:∃t,v = .int z t):∃t,mg x=some (.int z t):=by
 obtain⟨t,rfl⟩:=e;exact⟨t,PySem.W.mg_of X G a⟩
theorem SV{C:A3}(h:PySem.W.findIn K (.ref C) "__init__" = some (some (.builtin "ValueError.__init__"))):PySem.W.findIn K (.ref C) "__init__" = some (some (.builtin "ValueError.__init__")):=h
theorem JR{C:A3}{f:Str}(h:PySem.W.findIn K (.ref C) f=some none):JV K C f:=h
end
def TL{l:PySem.W.OpenLaw}{w:IJ}{K:VA}{h:IP}{g:Str->A5 A2}{n f:A3}{r:A2}{t o:A5 A3}{j:IG (A5 A2)}{kV i p d ct:A2}(X:K.In h)(G:h.Ns mainGlobals g)(m:g "law" = some (.ref n))
  (T:Tx K g) (a:PySem.W.nsIn K mainGlobals "law" = some (some (.ref f))) (lk:K.lookup f=some ⟨r,t,.func (PySem.W.fnOf "law" "law" (X2 OM) (T3 OM) (B6 OM) .none kV i p o d ct),j⟩) (c:PySem.W.codeIn K d "law" = true) (k:PySem.W.keepIn K (.ref f)=true) :
  ∃q:I7,(∀(s:A4) (v:A2),BindsTo s q ⟨[v],[]⟩ [("_law_script",v)])/\∀b:IP,K.In b->b.Ns mainGlobals g->IU l.prog w K g b JW 10 n q ["_law_script"] (Nf K):=by
 have e:=m.symm.trans (PySem.W.mg_of X G a);cases e;exact⟨PySem.W.fnOf "law" "law" (X2 OM) (T3 OM) (B6 OM) .none kV i p o d ct,λs v=>.of_eq rfl,λb _ _=>zGd T (KY lk c k)⟩
def walk{l:PySem.W.OpenLaw}{q:IE}{c:A0 Str}{o:(Str->A5 A2)->IP->Prop}{i:IJ->IP->Prop}{d:DefRec}{K:Params->VA}(p:l.most=some 63)(g:d.params.defaults = [])
  (r:∀(w:IJ) (h:IP),i w h->(K w.params).In h)
  (F:∀(w:IJ) (e:Str->A5 A2) (j:A3) (h:IP),(K w.params).In h->h.Ns mainGlobals e->e d.name=some (.ref j) ->
   ∃m:I7,(∀(s:A4) (u:A2),BindsTo s m ⟨[u],[]⟩ [("_law_script",u)])/\∀b:IP,(K w.params).In b->b.Ns mainGlobals e->IU l.prog w (K w.params) e b JW 10 j m ["_law_script"] (Nf (K w.params))) :
  PySem.W.WalkO q c o i l.row.toRowW d [] (λf vs=>PySem.call f vs) :=
 L2.SE (n:=63) (k:=10) (x := "_law_script") (CX:=λ_=>JW) (sp:=λw=>Nf (K w.params)) p (by decide) g ⟨rfl,by decide,by decide⟩ r F (λ_ _ a t v _ y=>⟨a,t,rfl,y,v,λ_=>rfl⟩) λ_ _ _ _ _ z=>z
end Sw
open PySem PySem.W PyProof.Rows
set_option maxRecDepth 100000 in
set_option maxHeartbeats 0 in
theorem PySem.Challenge.cw_strikeweave_k62_words_of_a_keeper_holds : PySem.Challenge.rw_strikeweave_k62_words_of_a_keeper.Holds := by
 w_on;o_law;k_head;(case hw=>w_witness2)
 k_fill
 refine Sw.walk (l:=PySem.Challenge.rw_strikeweave_k62_words_of_a_keeper) rfl rfl (λw h Y=>PySem.W.kIn_of Y) ?F
 case F =>
  intro w mg fa h KX G hmg;refine' Sw.TL KX G hmg (Sw.Tx.mk (Sw.JF KX G ?a1 ?l2 ?c3 ?k4)
   (Sw.JF KX G ?a5 ?l6 ?c7 ?k8)
   (Sw.JF KX G ?a9 ?l10 ?c11 ?k12)
   (Sw.JF KX G ?a13 ?l14 ?c15 ?k16)
   (Sw.JF KX G ?a17 ?l18 ?c19 ?k20)
   (Sw.JF KX G ?a21 ?l22 ?c23 ?k24)
   (Sw.JF KX G ?a25 ?l26 ?c27 ?k28)
   (Sw.JF KX G ?a29 ?l30 ?c31 ?k32)
   (Sw.JF KX G ?a33 ?l34 ?c35 ?k36)
   (Sw.JF KX G ?a37 ?l38 ?c39 ?k40)
   (Sw.JF KX G ?a41 ?l42 ?c43 ?k44)
   (Sw.JF KX G ?a45 ?l46 ?c47 ?k48)
   (Sw.JF KX G ?a49 ?l50 ?c51 ?k52)
   (Sw.JF KX G ?a53 ?l54 ?c55 ?k56)
   (Sw.JF KX G ?a57 ?l58 ?c59 ?k60)
   (Sw.JF KX G ?a61 ?l62 ?c63 ?k64)
   (Sw.JF KX G ?a65 ?l66 ?c67 ?k68)
   (Sw.JF KX G ?a69 ?l70 ?c71 ?k72)
   (Sw.JF KX G ?a73 ?l74 ?c75 ?k76)
   (Sw.JF KX G ?a77 ?l78 ?c79 ?k80)
   (Sw.JF KX G ?a81 ?l82 ?c83 ?k84)
   (Sw.JF KX G ?a85 ?l86 ?c87 ?k88)
   (Sw.JF KX G ?a89 ?l90 ?c91 ?k92)
   (Sw.JF KX G ?a93 ?l94 ?c95 ?k96)
   (Sw.JF KX G ?a97 ?l98 ?c99 ?k100)
   (Sw.JF KX G ?a101 ?l102 ?c103 ?k104)
   (Sw.JF KX G ?a105 ?l106 ?c107 ?k108)
   (Sw.JF KX G ?a109 ?l110 ?c111 ?k112)
   (Sw.JF KX G ?a113 ?l114 ?c115 ?k116)
   (Sw.JF KX G ?a117 ?l118 ?c119 ?k120)
   (Sw.JF KX G ?a121 ?l122 ?c123 ?k124)
   (Sw.JF KX G ?a125 ?l126 ?c127 ?k128)
   (Sw.JF KX G ?a129 ?l130 ?c131 ?k132)
   (Sw.JF KX G ?a133 ?l134 ?c135 ?k136)
   (Sw.JF KX G ?a137 ?l138 ?c139 ?k140)
   (Sw.JF KX G ?a141 ?l142 ?c143 ?k144)
   _
   ⟨?g146,?g147,?g148,?g149⟩
   (PySem.W.mg_of KX G ?q145)
   (Sw.JR ?n150)
   (Sw.JR ?n151)
   (Sw.JR ?n152)
   (Sw.JR ?n153)
   _
   _
   (L2.KY ?l156 ?c157 ?k158)
   (L2.PL.binds (L2.KY ?l156 ?c157 ?k158) (λ_ _ _ _ _ _ us hl=>by obtain⟨a,b,c,rfl⟩:=Sw.SK hl;rfl))
   ⟨?g159,?a154,?i155,?k160⟩
   (Sw.LJ ?a161 ?i162 ?l163 ?c164 ?k165)
   (Sw.LJ ?a166 ?i167 ?l168 ?c169 ?k170)
   (Sw.LJ ?a171 ?i172 ?l173 ?c174 ?k175)
   (Sw.LJ ?a176 ?i177 ?l178 ?c179 ?k180)
   (Sw.LJ ?a181 ?i182 ?l183 ?c184 ?k185)
   _
   ⟨?g187,?g188,?g189,?g190⟩
   (PySem.W.mg_of KX G ?q186)
   (Sw.JR ?n191)
   (Sw.JR ?n192)
   (Sw.JR ?n193)
   (Sw.JR ?n194)
   _
   _
   (L2.KY ?l197 ?c198 ?k199)
   (L2.PL.binds (L2.KY ?l197 ?c198 ?k199) (λ_ _ _ _ _ _ us hl=>by obtain⟨a,b,rfl⟩:=Sw.QL hl;rfl))
   ⟨?g200,?a195,?i196,?k201⟩
   (Sw.LJ ?a202 ?i203 ?l204 ?c205 ?k206)
   (Sw.LJ ?a207 ?i208 ?l209 ?c210 ?k211)
   (Sw.LJ ?a212 ?i213 ?l214 ?c215 ?k216)
   (Sw.LJ ?a217 ?i218 ?l219 ?c220 ?k221)
   (Sw.LJ ?a222 ?i223 ?l224 ?c225 ?k226)
   (Sw.LJ ?a227 ?i228 ?l229 ?c230 ?k231)
   (Sw.LJ ?a232 ?i233 ?l234 ?c235 ?k236)
   (Sw.LJ ?a237 ?i238 ?l239 ?c240 ?k241)
   (Sw.LJ ?a242 ?i243 ?l244 ?c245 ?k246)
   (Sw.LJ ?a247 ?i248 ?l249 ?c250 ?k251)
   _
   _
   (L2.NT ?l253 ?t254 ?k255 ?g256 ?g257)
   (PySem.W.mg_of KX G ?q252)
   _
   _
   (L2.NT ?l259 ?t260 ?k261 ?g262 ?g263)
   (PySem.W.mg_of KX G ?q258)
   _
   _
   (L2.NT ?l265 ?t266 ?k267 ?g268 ?g269)
   (PySem.W.mg_of KX G ?q264)
   _
   _
   (L2.NT ?l271 ?t272 ?k273 ?g274 ?g275)
   (PySem.W.mg_of KX G ?q270)
   _
   _
   (L2.NT ?l277 ?t278 ?k279 ?g280 ?g281)
   (PySem.W.mg_of KX G ?q276)
   _
   _
   (L2.NT ?l283 ?t284 ?k285 ?g286 ?g287)
   (PySem.W.mg_of KX G ?q282)
   _
   _
   (L2.NT ?l289 ?t290 ?k291 ?g292 ?g293)
   (PySem.W.mg_of KX G ?q288)
   _
   _
   (L2.NT ?l295 ?t296 ?k297 ?g298 ?g299)
   (PySem.W.mg_of KX G ?q294)
   _
   _
   (L2.NT ?l301 ?t302 ?k303 ?g304 ?g305)
   (PySem.W.mg_of KX G ?q300)
   ⟨?g306,?g307,?g308,?g309⟩
   ⟨?g310,?g311,?g312,?g313,L2.N_ _ _⟩
   ?u314
   ?w315
   ?w316
   ?w317
   ?w318
   ?w319
   ?w320
   ?w321
   ?w322
   ?w323
   (Sw.JR ?n324)
   _
   _
   (L2.KY ?l327 ?c328 ?k329)
   (L2.PL.binds (L2.KY ?l327 ?c328 ?k329) (λ_ _ _ _ _ _ us hl=>by obtain⟨a,b,rfl⟩:=Sw.QL hl;rfl))
   ⟨?a325,?i326,?k329⟩
   ⟨?g330,?g331,?g332,?g333⟩
   ⟨?g334,?g335,?g336,?g337,L2.N_ _ _⟩
   ?u338
   ?w339
   ?w340
   ?w341
   ?w342
   ?w343
   ?w344
   ?w345
   ?w346
   ?w347
   (Sw.JR ?n348)
   _
   _
   (L2.KY ?l351 ?c352 ?k353)
   (L2.PL.binds (L2.KY ?l351 ?c352 ?k353) (λ_ _ _ _ _ _ us hl=>by obtain⟨a,b,rfl⟩:=Sw.QL hl;rfl))
   ⟨?a349,?i350,?k353⟩
   ⟨?g354,?g355,?g356,?g357⟩
   ⟨?g358,?g359,?g360,?g361,L2.N_ _ _⟩
   ?u362
   ?w363
   ?w364
   ?w365
   ?w366
   ?w367
   ?w368
   ?w369
   ?w370
   ?w371
   (Sw.SV ?g372)
   ⟨?g373,?g374,?g375,?g376⟩
   ⟨?g377,?g378,?g379,?g380,L2.N_ _ _⟩
   ?u381
   ?w382
   ?w383
   ?w384
   ?w385
   ?w386
   ?w387
   ?w388
   ?w389
   ?w390
   (Sw.SV ?g391)
   (Sw.TB KX G ?v392 ?e393)
   (Sw.TH KX G ?v394 ?e395)
   (VM KX G ?z396)
   (VM KX G ?z397)
   (VM KX G ?z398)
   (VM KX G ?z399)
   (VM KX G ?z400)
   (VM KX G ?z401)
   (VM KX G ?z402)
   (VM KX G ?z403)
   (VM KX G ?z404)
   (VM KX G ?z405)
   (VM KX G ?z406)
   (VM KX G ?z407)
   (VM KX G ?z408)
   (VM KX G ?z409)
   (VM KX G ?z410)
   (VM KX G ?z411)
   (VM KX G ?z412)
   (VM KX G ?z413)
   (VM KX G ?z414)) ?aL ?lL ?cL ?kL
  case a1|l2|c3|k4|a5|l6|c7|k8|a9|l10|c11|k12|a13|l14|c15|k16|a17|l18|c19|k20|a21|l22|c23|k24|a25|l26|c27|k28|a29|l30|c31|k32|a33|l34|c35|k36|a37|l38|c39|k40|a41|l42|c43|k44|a45|l46|c47|k48|a49|l50|c51|k52|a53|l54|c55|k56|a57|l58|c59|k60|a61|l62|c63|k64|a65|l66|c67|k68|a69|l70|c71|k72|a73|l74|c75|k76|a77|l78|c79|k80|a81|l82|c83|k84|a85|l86|c87|k88|a89|l90|c91|k92|a93|l94|c95|k96|a97|l98|c99|k100|a101|l102|c103|k104|a105|l106|c107|k108|a109|l110|c111|k112|a113|l114|c115|k116|a117|l118|c119|k120|a121|l122|c123|k124|a125|l126|c127|k128|a129|l130|c131|k132|a133|l134|c135|k136|a137|l138|c139|k140|a141|l142|c143|k144|q145|g146|g147|g148|g149|n150|n151|n152|n153|a154|i155|l156|c157|k158|g159|k160|a161|i162|l163|c164|k165|a166|i167|l168|c169|k170|a171|i172|l173|c174|k175|a176|i177|l178|c179|k180|a181|i182|l183|c184|k185|q186|g187|g188|g189|g190|n191|n192|n193|n194|a195|i196|l197|c198|k199|g200|k201|a202|i203|l204|c205|k206|a207|i208|l209|c210|k211|a212|i213|l214|c215|k216|a217|i218|l219|c220|k221|a222|i223|l224|c225|k226|a227|i228|l229|c230|k231|a232|i233|l234|c235|k236|a237|i238|l239|c240|k241|a242|i243|l244|c245|k246|a247|i248|l249|c250|k251|q252|l253=>k_is
  case t254=>kernel_rfl
  case k255|g256|g257|q258|l259=>k_is
  case t260=>kernel_rfl
  case k261|g262|g263|q264|l265=>k_is
  case t266=>kernel_rfl
  case k267|g268|g269|q270|l271=>k_is
  case t272=>kernel_rfl
  case k273|g274|g275|q276|l277=>k_is
  case t278=>kernel_rfl
  case k279|g280|g281|q282|l283=>k_is
  case t284=>kernel_rfl
  case k285|g286|g287|q288|l289=>k_is
  case t290=>kernel_rfl
  case k291|g292|g293|q294|l295=>k_is
  case t296=>kernel_rfl
  case k297|g298|g299|q300|l301=>k_is
  case t302=>kernel_rfl
  case k303|g304|g305|g306|g307|g308|g309|g310|g311|g312|g313=>k_is
  case u314=>kernel_rfl
  case w315=>kit_is
  case w316=>kit_is
  case w317=>kit_is
  case w318=>kit_is
  case w319=>kit_is
  case w320=>kit_is
  case w321=>kit_is
  case w322=>kit_is
  case w323=>kit_is
  case n324|a325|i326|l327|c328|k329|g330|g331|g332|g333|g334|g335|g336|g337=>k_is
  case u338=>kernel_rfl
  case w339=>kit_is
  case w340=>kit_is
  case w341=>kit_is
  case w342=>kit_is
  case w343=>kit_is
  case w344=>kit_is
  case w345=>kit_is
  case w346=>kit_is
  case w347=>kit_is
  case n348|a349|i350|l351|c352|k353|g354|g355|g356|g357|g358|g359|g360|g361=>k_is
  case u362=>kernel_rfl
  case w363=>kit_is
  case w364=>kit_is
  case w365=>kit_is
  case w366=>kit_is
  case w367=>kit_is
  case w368=>kit_is
  case w369=>kit_is
  case w370=>kit_is
  case w371=>kit_is
  case g372|g373|g374|g375|g376|g377|g378|g379|g380=>k_is
  case u381=>kernel_rfl
  case w382=>kit_is
  case w383=>kit_is
  case w384=>kit_is
  case w385=>kit_is
  case w386=>kit_is
  case w387=>kit_is
  case w388=>kit_is
  case w389=>kit_is
  case w390=>kit_is
  case g391|v392=>k_is
  case e393=>exact⟨_,rfl⟩
  case v394=>k_is
  case e395=>exact⟨_,rfl⟩
  case z396|z397|z398|z399|z400|z401|z402|z403|z404|z405|z406|z407|z408|z409|z410|z411|z412|z413|z414|aL|lL|cL|kL=>k_is
