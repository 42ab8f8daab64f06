import PyProof.Rows.All
import Wide.All
import OpenK.AllK
import Wide.FinOn
import PyProof.Rows.SortShellK
import KE.KSortTup
import Lean
import PyProof.EqAt
import PyProof.EqKinds
import PyProof.TupleCall
import PyProof.SetRoads
import PyProof.DictRoadsH
import PyProof.IsRules
import PyProof.CollectWalk
import PyProof.FactsAll.set
import PyProof.NeData
import PyProof.P3In
import PyProof.TupleOfSeq
import PyProof.ZipIter
import PyProof.Rows.ZipGen
import KE.KDictOf
import PyProof.AttrMissHeap
import PyProof.Rows.SumAny
import PyProof.DictIter
import PyProof.DictWalks
import PyProof.DictValues
import PyProof.ListRange
import PyProof.ListStr
import PyProof.DictTruth
import PySem.Challenge.RW_strikeweave_k60_words_of_a_weave
namespace PySem.W.Fast
def tw6699079803490524138:=0
def tw924654135732437979:=0
def tw4226925164380717051:=0
def tw17825730681138936467:=0
def tw2574654292071358202:=0
def tw4040197332092827898:=0
def tw11925268643061523950:=0
def tw2835207127656102707:=0
def tw15576189765440251260:=0
def tw4346035496568063202:=0
def tw8943612947714036859:=0
def tw18089756183194878441:=0
def tw17481524782126478618:=0
def tw18285110252174043553:=0
def tw10377781741896562617:=0
def tw7791690255968713080:=0
def tw393396219037209166:=0
def tw4873481806344821226:=0
def tw4438207285696376175:=0
def tw3346376386800621255:=0
def tw12824556310884220295:=0
def tw4562496086425914497:=0
def tw7275819000109925426:=0
def tw17348093675646324453:=0
def tw8166569804821174181:=0
def tw1902919819848278431:=0
def tw5538586858578427853:=0
def tw3715934953456016256:=0
def tw8389371169972089706:=0
def tw4640172065259106868:=0
def tw455859308218419146:=0
def tw1855710608685843491:=0
def tw8587479506653869598:=0
def tw18381007062448055338:=0
def tw7091383394021642124:=0
def tw12089745540541282448:=0
def tw12324570909504864011:=0
def tw11579260293672763978:=0
def tw14955216862764718321:=0
def tw10729123562769626585:=0
def tw7106482496891071927:=0
def tw12004598754061804588:=0
def tw4470417213600189035:=0
def tw4235272452147993490:=0
def tw1754028445158739192:=0
def tw4847761884765864108:=0
def tw2869023576669574192:=0
def tw8147668876059243132:=0
def tw3328985919464266173:=0
def tw13675194331733747331:=0
def tw11886243921088773657:=0
def tw7177012152553316568:=0
def tw11809185489161761755:=0
def tw88410859129080234:=0
def tw7417030296335998491:=0
def tw16068972353177831417:=0
def tw1352963696252457075:=0
def tw10036968878672356016:=0
def tw16166488927705431639:=0
def tw13970103244645004673:=0
def tw17819140200862816885:=0
def tw18434186121881163675:=0
def tw18358768389185968787:=0
def tw12613561244701990521:=0
def tw15591745537229120523:=0
def tw1551432474424359840:=0
def tw18125076708213287603:=0
def tw465825963978688740:=0
def tw3739266711072128118:=0
def tw2908416821281483532:=0
def tw618854573440191967:=0
def tw16647406606090890070:=0
def tw12345392134953517550:=0
def tw7795814129750362808:=0
def tw5530959397437329893:=0
def tw7957120677389412722:=0
def tw5892309610575322082:=0
def tw10812404214380012117:=0
def tw5439291828101619769:=0
def tw808280538949879387:=0
def tw14509667203320559290:=0
def tw5934014618439423447:=0
def tw562475568449876239:=0
def tw10158001084555767811:=0
def tw7630961578264091315:=0
def tw9201769308940466702:=0
def tw10594311646764086226:=0
def tw12335357800702336774:=0
def tw15078333346168924430:=0
def tw2707446313597086172:=0
def tw16384008700031530493:=0
def tw11229780534925621920:=0
def tw11460526373379135484:=0
def tw18219715720708006870:=0
def tw15312607983343766431:=0
def tw10258150699212417221:=0
def tw16638949875983076935:=0
def tw6846030300692819487:=0
def tw17863851346203478097:=0
def tw11713492335209835685:=0
def tw6671415872676204230:=0
def tw10343622209327323382:=0
def tw14910188765883615606:=0
def tw15287204477947970309:=0
def tw15999996710213719317:=0
def tw1154661078694786183:=0
def tw13207459597607424759:=0
def tw3583132292117877282:=0
def tw15073712525831700423:=0
def tw15515055695660929551:=0
def tw17106275185858094193:=0
def tw14091246617326391294:=0
def tw16328693250779442742:=0
def tw15884727969283412841:=0
def tw750883168444120689:=0
def tw10537812860498204185:=0
def tw11426008198787683035:=0
def tw10964611584437235206:=0
def tw18369415499994602328:=0
def tw733969058287823787:=0
def tw4527629771556810832:=0
def tw7200113725765508261:=0
def tw12870137652555066289:=0
def tw13393487399456133769:=0
def tw9854474656801413020:=0
def tw1465022979062251494:=0
def tw7482252829134308703:=0
def tw13157724146444134558:=0
def tw990546700220543720:=0
def tw17133795254321641603:=0
def tw3614068139111276252:=0
def tw8562059621335457972:=0
def tw7670467584659332409:=0
def tw13539033006436731071:=0
def tw4391376225179078475:=0
def tw6773771841772254290:=0
def tw12675153920940201172:=0
def tw12245284857589624103:=0
def tw2567253550057181690:=0
def tw16429869690897838074:=0
def tw11256208062985685330:=0
def tw2531396829008739803:=0
def tw8163435408673026376:=0
def tw5352587309946474718:=0
def tw7481421859463246110:=0
def tw3630807144262363152:=0
def tw1705680799349276838:=0
def tw1705587952963281657:=0
def tw12350913204440445866:=0
def tw4643815986106607115:=0
def tw15488410255047477653:=0
def tw17409041832362176399:=0
def tw10470112009101360009:=0
def tw4420152613359666433:=0
def tw6488473711435046748:=0
def tw2549421308627038223:=0
def tw8462315751271447802:=0
def tw13293655898684521220:=0
def tw11052242220083793593:=0
def tw6169490600353706386:=0
def tw10417564964622652012:=0
def tw8546633907001404438:=0
def tw3787801497889574676:=0
def tw4978150490643349214:=0
def tw3495418984937205894:=0
def tw10578885139351573752:=0
def tw17871964597978179897:=0
def tw17729832709777066034:=0
def tw13130206303182676949:=0
def tw9180221417247877478:=0
def tw1185674952613355267:=0
def tw16190190488616869405:=0
def tw14564284416952130722:=0
def tw17900546275621725187:=0
def tw456367642518829464:=0
def tw12052086213761659681:=0
def tw11389362432258032927:=0
def tw16148275451950149543:=0
def tw7504917462764903483:=0
def tw12622813073698863925:=0
def tw9049333743490073336:=0
def tw15057559947353941091:=0
def tw3418883462756680174:=0
def tw2087696762203827404:=0
def tw14579917343352379982:=0
def tw3219953045582791754:=0
def tw431284699187166625:=0
def tw13017581329014350230:=0
def tw15378316959023328806:=0
def tw15899653019625642025:=0
def tw4451160557134002432:=0
def tw11269023491114028329:=0
def tw15288740378983232615:=0
def tw4375759738045926376:=0
def tw4179039908961800950:=0
def tw3671512553482908029:=0
def tw4548509049994913520:=0
def tw7592351440778498210:=0
def tw5215053999444859443:=0
def tw1535371475129550866:=0
def tw1836948802381446415:=0
def tw11480486284858287552:=0
def tw2624541678861118032:=0
def tw5982876159955369661:=0
def tw16924753124875945615:=0
def tw707260706815877420:=0
def tw7207901616523598330:=0
def tw3809782361606929495:=0
def tw15743984649580754490:=0
def tw13767143839506963615:=0
def tw16129465174996825415:=0
def tw7108286094017760597:=0
def tw3401202707389123569:=0
def tw16169119693697698570:=0
def tw10607449366136924894:=0
def tw13894794393719808208:=0
def tw9274510011940254375:=0
def tw3539608465979571281:=0
def tw5481330547164496298:=0
def tw243501760154689455:=0
def tw5180176670228308930:=0
def tw17892679563364814551:=0
def tw14988460481366308353:=0
def tw15732298778469396449:=0
def tw4543273402564927183:=0
def tw14577972306993458581:=0
def tw7675277854626475003:=0
def tw2295112314639156933:=0
def tw8888533932723957996:=0
def tw5955536186863573262:=0
def tw13917338674557485854:=0
def tw14544995970073403530:=0
def tw11772780345552532567:=0
def tw5209969767126938719:=0
def tw12611500759114374291:=0
def tw16997552939125847668:=0
def tw15552139152059463660:=0
def tw14037848734287114997:=0
def tw1278274992808447683:=0
def tw17205747147024076190:=0
def tw3930724630479631769:=0
def tw511619113100548488:=0
def tw16532127510252427761:=0
def tw17240871842099581375:=0
def tw10578872238547345321:=0
def tw13328438841566545598:=0
def tw13635981829908152435:=0
def tw733605114210308695:=0
def tw3021777649273052273:=0
def tw11135139347530231422:=0
def tw117735402023448620:=0
def tw1655794960444048403:=0
def tw563105846225277372:=0
def tw1109419476902208943:=0
def tw1436376716804259583:=0
def tw2174316171267463184:=0
def tw528256293812927607:=0
def tw958527690678549261:=0
def tw432163485590248395:=0
def tw3405510897153694134:=0
def tw13468181845748763370:=0
def tw3279996100433078351:=0
def tw263622526844612589:=0
def tw15352182404550140917:=0
def tw17583822886866014475:=0
def tw4089613734742951668:=0
def tw12097003622408164722:=0
def tw7986066631174605177:=0
def tw6169283173462942245:=0
def tw3047609760897021624:=0
def tw10482142388067108353:=0
def tw16164448082793843965:=0
def tw14114747679911253735:=0
def tw15562722461789299787:=0
def tw11673107806538426974:=0
def tw11250638857251638553:=0
def tw8803587497307959676:=0
def tw12821367763787522521:=0
def tw7315051798845490431:=0
def tw18210528703453768768:=0
def tw2199848786017956001:=0
def tw7066965841808744451:=0
def tw17476880406179455072:=0
def tw512651269035048291:=0
def tw17056454840803036294:=0
def tw12172887177920421480:=0
def tw3148310540537115170:=0
def tw12121451816376972014:=0
def tw4806328066299741953:=0
def tw13315099372810119914:=0
def tw14996503649390207146:=0
def tw6962388195305990630:=0
def tw11336296501146168904:=0
def tw15980270386117530454:=0
def tw3812859109810308936:=0
def tw9668571064888230139:=0
def tw10532396817473818366:=0
def tw3273475056298599394:=0
def tw6123264273967845243:=0
def tw4447199492610733679:=0
def tw8650693989753085757:=0
def tw5008997615688818029:=0
def tw13894757721026094705:=0
def tw3364025540534054244:=0
def tw9739521578199681767:=0
def tw5428014873304705585:=0
def tw5890067190778022892:=0
def tw16907901165754088230:=0
def tw8054504576352741424:=0
def tw14412896073807494783:=0
def tw9058261970258562207:=0
def tw2360842091297657726:=0
def tw1408881291939136126:=0
def tw6320577420176622831:=0
def tw1193905558502927430:=0
def tw11061271409909782627:=0
def tw5821620199127246800:=0
def tw1105565441322543089:=0
def tw6686630210888309676:=0
def tw8960247966812338878:=0
def tw6896745429054011411:=0
def tw18412660225349748750:=0
def tw1444784429272022097:=0
def tw17647424896568365983:=0
def tw16740327724338242542:=0
def tw8081484440576952854:=0
def tw18190372489402234266:=0
def tw10685216364860780623:=0
def tw10555097993308131040:=0
def tw14931985233973116077:=0
def tw13909607579206126051:=0
def tw8857717532458016614:=0
def tw3119297220656003058:=0
def tw13276055017176271543:=0
def tw14943969785586029572:=0
def tw9734960344718210397:=0
def tw2687121882412275913:=0
def tw7407201821654086763:=0
def tw14451074001593607818:=0
def tw16508784707419642244:=0
def tw3034044683396601419:=0
def tw2594716369026553680:=0
def tw12354392641743859939:=0
def tw6448343833507174581:=0
def tw10674061573684456645:=0
def tw8231598906697512772:=0
def tw1535590299802714589:=0
def tw13516651697200918675:=0
def tw269229370414669057:=0
def tw6904836991777834541:=0
def tw10206240300295537918:=0
def tw3945287666935762861:=0
def tw8616015904799550911:=0
def tw7775621494991649144:=0
def tw4126486482767168373:=0
def tw9684606443351770730:=0
def tw12687590018252291265:=0
def tw12892207489509008261:=0
def tw16417975890799871454:=0
def tw7611591471936908828:=0
def tw6984305997841951898:=0
def tw5849560969547710096:=0
def tw3284349970204476891:=0
def tw14742063332492142582:=0
def tw14869815833132141730:=0
def tw11664878697939773816:=0
def tw16077564646370612570:=0
def tw3179778464593829044:=0
def tw4350808628819141861:=0
def tw14605676569063594103:=0
def tw13693711555123537455:=0
def tw788835359796234631:=0
def tw903944083399925422:=0
def tw1791319952508172983:=0
def tw14013377625188237197:=0
def tw6830459882807302156:=0
def tw945029495983149223:=0
def tw15398793583063681287:=0
def tw773610337424937433:=0
def tw1633371253133722252:=0
def tw5539050104638929726:=0
def tw5439573919425157823:=0
def tw13640548203531915857:=0
def tw16587368861241179923:=0
def tw10461543281656825354:=0
def tw16063097628408605266:=0
def tw10859449557219488117:=0
def tw11977311229681892586:=0
def tw7831935335785109398:=0
def tw344497412090997311:=0
def tw1232138703262432679:=0
def tw6368281237059159229:=0
def tw2715089498178453891:=0
def tw17997059476785313320:=0
def tw16884469973005239022:=0
def tw374092438105119565:=0
def tw1241632556331137234:=0
def tw17025263449886906726:=0
def tw15956549929476281971:=0
def tw8765462239676481527:=0
def tw14859835801098916219:=0
def tw15866348216321238771:=0
def tw12362669603484323698:=0
def tw4018720156656321576:=0
def tw3577377516266715206:=0
def tw7375773141472605562:=0
def tw12964798769784062342:=0
def tw2273298007429015917:=0
def tw17261219616076356805:=0
def tw13786638732363713487:=0
def tw268394519755632984:=0
def tw6904560623715334835:=0
def tw7383905321158724707:=0
def tw1479359269461473625:=0
def tw15907353180808016855:=0
def tw13152984654609662969:=0
def tw17236791607473681153:=0
def tw6672645964893159198:=0
def tw17578613572413889721:=0
def tw15806763763640956638:=0
def tw11213026606524943100:=0
def tw2758333809862103912:=0
def tw1411970578941181840:=0
def tw6831723605671846733:=0
def tw16380027599228644766:=0
def tw8183457793338899787:=0
def tw3226386917351249601:=0
def tw578422267858762936:=0
def tw14464482077689356481:=0
def tw356414577917920407:=0
def tw13651220259944769936:=0
def tw11895499081932198875:=0
def tw16596345288736318289:=0
def tw197773373776829572:=0
def tw11045591644340224846:=0
def tw14918868542673711574:=0
def tw10871292428544785647:=0
def tw11503170313679290740:=0
def tw6137242162316796319:=0
def tw3944992580804746136:=0
def tw2078572232983536321:=0
def tw5008907222144112080:=0
def tw17680317039505671921:=0
def tw16344985178633488226:=0
def tw17856916648908809918:=0
def tw3622771904943586586:=0
def tw17874366330049228642:=0
def tw4350777340897470559:=0
def tw17337326310939608147:=0
def tw12294658922116170181:=0
def tw4835267432385818782:=0
def tw1088501350524978427:=0
def tw13639746815370114192:=0
def tw17166417411335734868:=0
def tw14865968025750220836:=0
end PySem.W.Fast
set_option autoImplicit false
set_option genSizeOf false
set_option genSizeOfSpec false
set_option bootstrap.genMatcherCode false
set_option compiler.extract_closed false
set_option linter.all false
set_option maxRecDepth 100000
section
open PySem PySem.Spec PyProof.Rows
abbrev A0:=@List
abbrev A1:=Value
abbrev A2:=Addr
abbrev A5:=Shared
abbrev A6:=@Option
abbrev Cv:=Program
abbrev HQ:=@Array
abbrev HR:=Keyed
abbrev HS:=World
abbrev HV:=SortSt
abbrev HX:=Heap
abbrev HZ:=Around
abbrev H_:=Expr
abbrev IE:=Stmt
abbrev IG:=SetTable
abbrev IJ:=FuncData
abbrev IT:=Scope
abbrev JF:=NameKind
abbrev JT:=SortKind
abbrev NL:=Env
end
section
open PySem PySem.Spec PyProof.Rows
def AA:=@List.length_map
def AB:=@wpAny_bind
def AC:=@List.mem_singleton
def AD:=@Heap.get?_push_of_some
def AE:=@wpAny_pure
def AF:=@List.map_append
def AG:=@List.getElem?_map
def AH:=@List.mem_append
def AI:=@List.mem_map
def AJ:=@decide_eq_true
def AK:=@Heap.lt_size
def AL:=@List.not_mem_nil
def AM:=@List.mem_of_getElem?
def AN:=@List.map_map
def AO:=@List.length_take
def AQ:=@List.mem_cons_of_mem
def AR:=@List.getElem?_eq_some_iff
def AS:=@if_neg
def AU:=@List.getElem?_eq_getElem
def AV:=@Option.map_eq_some_iff
def AW:=@List.length_append
def AX:=@Array.length_toList
def AY:=@if_pos
def AZ:=@List.mem_cons_self
def A_:=@List.mem_cons
def BA:=@Bool.false_ne_true
def BB:=@decide_eq_false
def BC:=@Nat.ne_of_lt
def BD:=@List.size_toArray
def BE:=@Bool.false_eq_true
def BF:=@List.append_assoc
def BG:=@Heap.get?_push_size
def BH:=@of_decide_eq_true
def BI:=@Nat.lt_of_lt_of_le
def BJ:=@List.mem_append_right
def BK:=@List.length_cons
def BL:=@Heap.get?_update_other
def BM:=@List.take_length
def BN:=@Array.getElem?_toList
def BO:=@List.length_filter_le
def BP:=@List.map_cons
def BQ:=@List.mem_of_mem_take
def BR:=@Nat.zero_le
def BS:=@List.mem_append_left
def BT:=@Array.toList_append
def BU:=@List.nodup_append
def BV:=@List.mem_filter
def BW:=@wpAny_holding
def BZ:=@List.take_append_drop
def B_:=@List.nodup_cons
def CA:=@wpAny_mono
def CB:=@List.append_nil
def CC:=@Heap.get?_update_self
def CD:=@wpAny_newObj_type
def CF:=@Bool.and_eq_true
def CG:=@List.mem_of_find?_eq_some
def CH:=@wpAny_setState_of
def CI:=@List.length_drop
def CJ:=@Option.some.inj
def CK:=@Array.getElem?_eq_some_iff
def CL:=@wpAny_truthy_bool
def CM:=@Nat.lt_irrefl
def CN:=@if_false
def CO:=@Array.getD_eq_getD_getElem?
def CP:=@List.pairwise_append
def CQ:=@Nat.le_succ
def CS:=@List.perm_append_comm
def CT:=@List.take_of_length_le
def CU:=@List.filterMap_cons
def CV:=@List.filter_eq_self
def CY:=@List.mem_range
def CZ:=@Heap.size_push
def C_:=@List.nodup_nil
def DA:=@Array.toList_push
def DB:=@Nat.le_of_lt
def DC:=@wpAny_Call_Name_kw
def DD:=@List.getElem?_take_of_lt
def DE:=@Option.isSome_iff_exists
def DF:=@List.Perm.append_left
def DG:=@Bool.eq_false_iff
def DH:=@List.getD_eq_getElem?_getD
def DI:=@codeAny_builtin
def DJ:=@List.Perm.append_right
def DK:=@Int.toNat_natCast
def DL:=@List.mem_of_mem_drop
def DM:=@wpAny_call_entry
def DN:=@List.all_eq_true
def DP:=@wpAny_standAt
def DQ:=@List.take_sublist
def DR:=@List.drop_zero
def DT:=@wpAny_rule
def DU:=@Nat.le_of_succ_le
def DV:=@List.getElem?_append_right
def DW:=@List.length_range
def DX:=@wpAny_loadPart_at
def DY:=@Nat.add_le_add_left
def DZ:=@Heap.SameBut.update
def D_:=@Bool.eq_iff_iff
def EA:=@wpAny_of_eq
def EB:=@List.drop_eq_getElem_cons
def EC:=@List.extract_eq_take_drop
def ED:=@List.getElem?_append_left
def EE:=@List.length_singleton
def EF:=@List.filter_cons
def EG:=@if_true
def EH:=@Nat.zero_add
def EI:=@Bool.not_true
def EJ:=@List.filterMap_cons_some
def EK:=@List.map_take
def EL:=@Array.toList_extract
def EM:=@List.pairwise_map
def EN:=@Nat.lt_succ_of_lt
def EO:=@wpAny_pyIter_list
def EQ:=@List.length_eq_zero_iff
def ER:=@Nat.min_eq_left
def ES:=@List.filter_sublist
def ET:=@List.drop_eq_nil_of_le
def EU:=@List.drop_drop
def EV:=@Bool.false_and
def EW:=@Int.emod_lt_of_pos
def EX:=@wpAny_setField
def EY:=@List.filter_append
def EZ:=@List.getElem?_toArray
def E_:=@wpAny_passesOwn
def FA:=@List.drop_sublist
def FB:=@List.mem_iff_getElem
def FC:=@Array.toList_reverse
def FD:=@List.ext_getElem?
def FE:=@codeAny_mono
def FF:=@List.map_eq_nil_iff
def FG:=@Nat.lt_succ_self
def FH:=@List.lookup_cons
def FI:=@wpAny_seqItems
def FJ:=@wpAny_tryCatch
def FK:=@List.any_eq_true
def FL:=@List.take_append_of_le_length
def FM:=@wpAny_field
def FN:=@Nat.eq_zero_of_not_pos
def FO:=@List.getElem?_drop
def FP:=@Array.size_extract
def FQ:=@Nat.ne_of_gt
def FR:=@wpAny_call
def FS:=@Array.getElem?_eq_none
def FT:=@List.append_eq_nil_iff
def FU:=@wpAny_execs_nil
def FV:=@List.find?_cons
def FW:=@Int.emod_nonneg
def FX:=@List.any_cons
def FY:=@List.getElem?_eq_none
def FZ:=@Nat.lt_of_succ_lt
def F_:=@List.drop_take
def GA:=@codeAny_call_builtin
def GB:=@wpAny_typeOf
def GD:=@wpAny_askSetting
def GE:=@List.getElem_mem
def GF:=@List.getElem?_eq_none_iff
def GG:=@List.reverse_append
def GH:=@wpAny_isSubtype_exc
def GI:=@Array.size_setIfInBounds
def GJ:=@wpAny_comprehension_free
def GK:=@List.filterMap_cons_none
def GL:=@Nat.zero_lt_one
def GM:=@List.length_nil
def GN:=@List.of_mem_zip
def GO:=@Option.map_some
def GP:=@wpAny_updateSeq
def GQ:=@Nat.lt_of_le_of_ne
def GR:=@List.find?_eq_none
def GS:=@List.pairwise_singleton
def GT:=@wpAny_callSpecial?_slot
def GU:=@Nat.sub_pos_of_lt
def GV:=@Array.size_map
def GW:=@wpAny_assign_Name
def GX:=@wpAny_Call_method
def GY:=@Bool.not_false
def G_:=@wpAny_storeSet_of
def HI:=@wpAny_ite_true
def HJ:=@Nat.succ_le_succ
def HK:=@Nat.le_add_right
def HL:=@Heap.size_update
def HM:=@Heap.ExtBut.push
def HN:=@wpAny_attempt
def HP:=@wpAny_newList
end
noncomputable section
namespace TS
def Yj{k x l r:Nat}(h:l<r)(a:r-l<=k-x):(l+r) / 2-l<=k-(x+1) :=
 Nat.le_trans (Nat.le_pred_of_lt (Nat.sub_lt_sub_right ((Nat.le_div_iff_mul_le (by decide)).mpr (by rw[Nat.mul_two];exact DY (DB h) l)) ((Nat.div_lt_iff_lt_mul (by decide)).mpr (by rw[Nat.mul_two];exact Nat.add_lt_add_right h r)))) (Nat.pred_le_pred a)
def Xk{n x l r m:Nat}(h:l<=m)(a:r-l<=n-x):r-(m+1)<=n-(x+1):=Nat.le_trans (Nat.sub_le_sub_left (HJ h) r) (Nat.pred_le_pred a)
def zAw{k x l r:Nat}(h:l<r)(a:r-l<=k-x):r-((l+r) / 2+1)<=k-(x+1) :=
 Xk ((Nat.le_div_iff_mul_le (by decide)).mpr (by rw[Nat.mul_two];exact DY (DB h) l)) a
def zBe{n x l r:Nat}(h:l<r)(a:r-l<=n-x):l +(r-l) / 2-l<=n-(x+1):=by
 rw[Nat.add_sub_cancel_left];exact Nat.le_trans (Nat.le_pred_of_lt (Nat.div_lt_self (GU h) (by decide))) (Nat.pred_le_pred a)
def zHs{lo x q k:Nat}(h:q+1<=x)(a:lo+x-(q+1)<=k):x-(q+1)<=k-lo:=Nat.le_sub_of_add_le' (by rw[Nat.add_sub_assoc h]at a;exact a)
open PySem PyProof.Rows
def kk(U:KeyKind)(p:HR):U.α:=(U.keyOf p.1).getD U.dflt
def SY(U:KeyKind)(p:HR):Prop:=∃a,U.keyOf p.1=some a
def le(U:KeyKind)(p q:HR):Prop:=U.kle (kk U p) (kk U q)
def KM(U:KeyKind)(l:A0 HR):Prop:=l.Pairwise (le U)
structure SL(prog:Cv)(w:HS)(A:HZ)(s:A5)(U:KeyKind)(kd:JT):Prop where
 lt:∀(x y:A1) (a b:U.α) (Q:Bool->A5->Prop) (E:A1->A5->Prop),U.keyOf x=some a->U.keyOf y=some b->Q (U.blt a b) s->wpAny (model prog w) A (keyLt' kd x y) Q E s
section
variable{prog:Cv}{w:HS}{A:HZ}{E:A1->A5->Prop}{s:A5}{U:KeyKind}{kd:JT}
theorem Iv(C:SL prog w A s U kd){st:HV}{x y:HR}{Q:A6 Bool->HV->Prop}(e:kindOf st=kd)(f:SY U x)(g:SY U y)
  (h:Q (some (U.blt (kk U x) (kk U y))) st):wpS (model prog w) A E s (lt' x y) Q st:=by
 obtain⟨a,c⟩:=f;obtain⟨b,d⟩:=g;have i:kk U x=a:=by unfold kk;rw[c];rfl
 have j:kk U y=b:=by unfold kk;rw[d];rfl
 rw[i,j]at h;rw[lt'_eq];refine wpS_bind (wpS_get ?_);rw[e];refine wpS_bind (wpS_lift (HN (C.lt x.1 y.1 a b _ _ c d ⟨rfl,?_⟩)));exact wpS_pure h
theorem E7{st:HV}{a:HQ HR}{i:Nat}{p:HR}{Q:HR->HV->Prop}(hi:a[i]?=some p)(h:Q p st):wpS (model prog w) A E s (elem' a i) Q st:=by
 rw[elem'_eq,hi];exact wpS_pure h
def V1:Bool->HR->HQ HR->Nat->Nat->Nat->StateT HV Sem (A6 Nat):=sortPriv% PySem.Builtin.gallop
def UK(left:Bool)(a:HR)(b:HQ HR)(bs:Nat)(i:Nat):StateT HV Sem (A6 Bool):=do
 let x <-elem' b (bs+i)
 if left then lt' x a else return(<-lt' a x).map (!·)
theorem Ow(left:Bool)(c:HR)(d:HQ HR)(bs n b:Nat):V1 left c d bs n b =(do
  let mut la:=0
  let mut a:=1
  let mut lo:=0
  let mut hi:=0
  let some f <-UK left c d bs b | return none
  if f then
   let mx:=n-b
   for _ in [0:n] do
    if a ≥ mx then break
    let some e <-UK left c d bs (b+a) | return none
    if !e then break
    la:=a
    a:=2*a+1
   lo:=b+la+1
   hi:=b+min a mx
  else
   let mx:=b+1
   for _ in [0:n] do
    if a ≥ mx then break
    let some g <-UK left c d bs (b-a) | return none
    if g then break
    la:=a
    a:=2*a+1
   lo:=b+1-min a mx
   hi:=b-la
  for _ in [0:n] do
   if lo ≥ hi then break
   let m:=lo +(hi-lo) / 2
   let some e <-UK left c d bs m | return none
   if e then lo:=m+1 else hi:=m
  return some hi):=rfl
def PB(U:KeyKind)(left:Bool)(a:HR)(p:HR):Bool:=if left then U.blt (kk U p) (kk U a)else !U.blt (kk U a) (kk U p)
theorem Yb(C:SL prog w A s U kd){st:HV}{left:Bool}{b p:HR}{c:HQ HR}{bs i:Nat}{Q:A6 Bool->HV->Prop}(d:kindOf st=kd)(a:SY U b)(e:SY U p)(hi:c[bs+i]?=some p)
  (h:Q (some (PB U left b p)) st):wpS (model prog w) A E s (UK left b c bs i) Q st:=by
 unfold UK;refine wpS_bind (E7 hi ?_);cases left with
 | true=>exact Iv C d e a h
 | false =>
  simp only[BE,CN];refine wpS_bind (Iv C d a e ?_);exact wpS_pure h
theorem Of(C:SL prog w A s U kd){st:HV}{left:Bool}{L:HR}{O:HQ HR}{bs n g:Nat}{Q:A6 Nat->HV->Prop}(hk:kindOf st=kd)(R:SY U L)
  (P:Nat->Bool) (hP:∀i,i<n->∃p,O[bs+i]?=some p/\SY U p/\PB U left L p=P i) (o:∀i j,i<=j->j<n->P j=true->P i=true) (T:g<n)
  (h:∀k,k<=n->(∀i,i<k->P i=true)->(∀i,k<=i->i<n->P i=false)->Q (some k) st):wpS (model prog w) A E s (V1 left L O bs n g) Q st:=by
 have B:∀{a:HV} {i:Nat} {Q:A6 Bool->HV->Prop},a=st->i<n->Q (some (P i)) a->wpS (model prog w) A E s (UK left L O bs i) Q a:=by
  intro a i Q e hi q;subst e;obtain⟨p,V,W,X⟩:=hP i hi;exact Yb C hk R W V (by rw[X];exact q)
 have m:∀i j,i<=j->j<n->P i=false->P j=false:=by
  intro i j Y hj hi;cases e:P j with
  | false=>rfl
  | true=>rw[o i j Y hj e]at hi;cases hi
 rw[Ow];dsimp only;refine wpS_bind (B rfl T ?_);dsimp only;have S:∀{lo hi:Nat} {f:Nat->(A6 (A6 Nat)×Nat×Nat)->StateT HV Sem (ForInStep (A6 (A6 Nat)×Nat×Nat))},
   (∀x l h,wpS (model prog w) A E s (f x (none,l,h)) (λr a=>a=st/\(if h<=l then r = .done (none,l,h)else if P (l +(h-l) / 2)=true then r = .yield (none,l +(h-l) / 2+1,h)else r = .yield (none,l,l +(h-l) / 2))) st\/¬(h<=l\/l +(h-l) / 2<n)) ->
   lo<=hi->hi<=n->(∀i,i<lo->P i=true)->(∀i,hi<=i->i<n->P i=false) ->
   wpS (model prog w) A E s (forIn [0:n] (none,lo,hi) f) (λc a=>a=st/\∃k,c =(none,k,k)/\k<=n/\(∀i,i<k->P i=true)/\(∀i,k<=i->i<n->P i=false)) st:=by
  intro lo hi f hf V W X h4;refine wpS_forRange (I:=λx c a=>a=st/\∃l r,c =(none,l,r)/\l<=r/\r<=n/\r-l<=n-x/\(∀i,i<l->P i=true)/\(∀i,r<=i->i<n->P i=false)) ?_ ?_ ⟨rfl,lo,hi,rfl,V,W,by lia,X,h4⟩
  .rintro x c a _ hx ⟨rfl,l,r,rfl,hl,K,Z,M,N⟩;have hin:r<=l\/l +(r-l) / 2<n:=by lia
   rcases hf x l r with q | q
   .refine wpS_mono q λz st2 ⟨e,F⟩=>?_;subst e;by_cases b:r<=l
    .rw[AY b]at F;subst F;have:l=r:=by lia
     subst this;exact⟨rfl,l,rfl,K,M,N⟩
    .rw[AS b]at F;cases u:P (l +(r-l) / 2)with
     | true =>
      rw[AY u]at F;subst F;exact⟨rfl,_,_,rfl,by lia,by lia,Xk (HK ..) Z,λi hi=>o i (l +(r-l) / 2) (by lia) (by lia) u,N⟩
     | false =>
      rw[AS (by rw[u];exact BA)]at F;subst F;exact⟨rfl,_,_,rfl,by lia,by lia,zBe (Nat.lt_of_not_le b) Z,M,λi G y=>m (l +(r-l) / 2) i G y u⟩
   .exact absurd hin q
  .rintro c a ⟨rfl,l,r,rfl,hl,K,Z,M,N⟩;have:l=r:=by lia
   subst this;exact⟨rfl,l,rfl,K,M,N⟩
 cases K:P g with
 | true =>
  rw[AY rfl];refine wpS_bind (wpS_mono (wpS_forRange (I:=λx c a=>a=st/\∃la d,c =(none,la,d)/\la<d/\x+1<=d/\g+la<n/\P (g+la)=true)
   (Q:=λc a=>a=st/\∃la d,c =(none,la,d)/\la<d/\g+la<n/\P (g+la)=true/\(n-g<=d\/(g+d<n/\P (g+d)=false))) ?st ?en ⟨rfl,0,1,rfl,by lia,by lia,by lia,K⟩) ?po)
  case en =>
   rintro c a ⟨rfl,la,d,rfl,D,a2,v,t⟩;exact⟨rfl,la,d,rfl,D,v,t,.inl (by lia)⟩
  case st =>
   rintro x c a _ hx ⟨rfl,la,d,rfl,D,a2,v,t⟩;dsimp only;by_cases b:d ≥ n-g
   .rw[AY b];exact wpS_pure ⟨rfl,la,d,rfl,D,v,t,.inl b⟩
   .rw[AS b];refine wpS_bind (B rfl (show g+d<n by lia) ?_);cases u:P (g+d)with
    | true=>exact wpS_pure ⟨rfl,d,2*d+1,rfl,by lia,by lia,by lia,u⟩
    | false=>exact wpS_pure ⟨rfl,la,d,rfl,D,v,t,.inr ⟨by lia,u⟩⟩
  case po =>
   rintro c a ⟨rfl,la,d,rfl,D,v,t,H⟩;dsimp only;refine wpS_bind (wpS_mono (S (lo:=g+la+1) (hi:=g+min d (n-g)) (λx l J=>by
    dsimp only;by_cases b:J<=l
    .refine .inl ?_;rw[AY b];exact wpS_pure ⟨rfl,by rw[AY b]⟩
    .by_cases hn:l +(J - l) / 2<n
     .refine .inl ?_;rw[AS b];refine wpS_bind (B rfl hn ?_);dsimp only;cases u:P (l +(J - l) / 2)with
      | true =>
       simp only[EG];exact wpS_pure ⟨rfl,by rw[AS b]⟩
      | false =>
       simp only[BE,CN];exact wpS_pure ⟨rfl,by rw[AS b]⟩
     .exact .inr (by lia)) (by lia) (by lia) (λi hi=>o i (g+la) (by lia) v t) λi G y=>?_) λc a ⟨e,k,e2,b1,b2,b3⟩=>?_)
   .rcases H with H | ⟨H,a6⟩
    .lia
    .exact m (g+d) i (by lia) y a6
   .subst e e2;exact wpS_pure (h k b1 b2 b3)
 | false =>
  rw[AS BA];refine wpS_bind (wpS_mono (wpS_forRange (I:=λx c a=>a=st/\∃la d,c =(none,la,d)/\la<d/\x+1<=d/\la<=g/\P (g-la)=false)
   (Q:=λc a=>a=st/\∃la d,c =(none,la,d)/\la<d/\la<=g/\P (g-la)=false/\(g+1<=d\/(d<=g/\P (g-d)=true))) ?st ?en ⟨rfl,0,1,rfl,by lia,by lia,by lia,K⟩) ?po)
  case en =>
   rintro c a ⟨rfl,la,d,rfl,D,a2,v,t⟩;exact⟨rfl,la,d,rfl,D,v,t,.inl (by lia)⟩
  case st =>
   rintro x c a _ hx ⟨rfl,la,d,rfl,D,a2,v,t⟩;dsimp only;by_cases b:d ≥ g+1
   .rw[AY b];exact wpS_pure ⟨rfl,la,d,rfl,D,v,t,.inl b⟩
   .rw[AS b];refine wpS_bind (B rfl (show g-d<n by lia) ?_);cases u:P (g-d)with
    | false=>exact wpS_pure ⟨rfl,d,2*d+1,rfl,by lia,by lia,by lia,u⟩
    | true=>exact wpS_pure ⟨rfl,la,d,rfl,D,v,t,.inr ⟨by lia,u⟩⟩
  case po =>
   rintro c a ⟨rfl,la,d,rfl,D,v,t,H⟩;dsimp only;refine wpS_bind (wpS_mono (S (lo:=g+1-min d (g+1)) (hi:=g-la) (λx l J=>by
    dsimp only;by_cases b:J<=l
    .refine .inl ?_;rw[AY b];exact wpS_pure ⟨rfl,by rw[AY b]⟩
    .by_cases hn:l +(J - l) / 2<n
     .refine .inl ?_;rw[AS b];refine wpS_bind (B rfl hn ?_);dsimp only;cases u:P (l +(J - l) / 2)with
      | true =>
       simp only[EG];exact wpS_pure ⟨rfl,by rw[AS b]⟩
      | false =>
       simp only[BE,CN];exact wpS_pure ⟨rfl,by rw[AS b]⟩
     .exact .inr (by lia)) (by lia) (by lia) (λi hi=>?_) λi G y=>m (g-la) i (by lia) y t) λc a ⟨e,k,e2,b1,b2,b3⟩=>?_)
   .rcases H with H | ⟨H,a6⟩
    .lia
    .exact o i (g-d) (by lia) (by lia) a6
   .subst e e2;exact wpS_pure (h k b1 b2 b3)
end
end TS
namespace TS
open PySem PyProof.Rows
section
variable{U:KeyKind}
theorem TN(p:HR):le U p p:=KeyOrd.kle_refl _
theorem I_{p q r:HR}(h1:le U p q)(h2:le U q r):le U p r:=KeyOrd.kle_trans h1 h2
structure ML(U:KeyKind)(a b:A0 HR)(o:A0 HR)(i j:Nat):Prop where
 perm:o.Perm (a.take i++b.take j)
 sor:KM U o
 la:∀x∈o,∀y∈a.drop i,le U x y
 lb:∀x∈o,∀y∈b.drop j,le U x y
theorem ML.sym{a b o:A0 HR}{i j:Nat}(m:ML U a b o i j):ML U b a o j i:=⟨m.perm.trans CS,m.sor,m.lb,m.la⟩
theorem He{l:A0 HR}(k:Nat)(h:KM U l):∀x∈l.take k,∀y∈l.drop k,le U x y:=by
 have a:KM U (l.take k++l.drop k):=by rw[BZ];exact h
 exact(CP.mp a).2.2
theorem ML.addA{a b o:A0 HR}{i j:Nat}(m:ML U a b o i j)(e:KM U a)(k:Nat)(f:∀y∈(a.drop i).take k,∀z∈b.drop j,le U y z):ML U a b (o ++(a.drop i).take k) (i+k) j:=by
 have d:KM U (a.drop i):=e.sublist (FA _ _);refine⟨?_,?_,λx hx y c=>?_,λx hx y c=>?_⟩
 .rw[List.take_add];refine(DJ _ m.perm).trans ?_;rw[BF,BF];exact DF _ CS
 .refine CP.mpr ⟨m.sor,d.sublist (DQ _ _),λx hx y c=>m.la x hx y (BQ c)⟩
 .rw[<-EU]at c;rcases AH.mp hx with hx | hx
  .exact m.la x hx y (DL c)
  .exact He k d x hx y c
 .rcases AH.mp hx with hx | hx
  .exact m.lb x hx y c
  .exact f x hx y c
theorem ML.addB{a b o:A0 HR}{i j:Nat}(m:ML U a b o i j)(c:KM U b)(k:Nat)(d:∀y∈(b.drop j).take k,∀z∈a.drop i,le U y z):ML U a b (o ++(b.drop j).take k) i (j+k) :=
 (m.sym.addA c k d).sym
theorem ML.endA{a b o:A0 HR}{i j:Nat}(m:ML U a b o i j)(e:KM U a)(f:KM U b)(h:∀y∈a.drop i,∀z∈b.drop j,le U y z):KM U (o++a.drop i++b.drop j)/\(o++a.drop i++b.drop j).Perm (a++b):=by
 refine⟨?_,?_⟩
 .refine CP.mpr ⟨CP.mpr ⟨m.sor,e.sublist (FA _ _),m.la⟩,f.sublist (FA _ _),λx hx y c=>?_⟩;rcases AH.mp hx with hx | hx
  .exact m.lb x hx y c
  .exact h x hx y c
 .have g:(o++a.drop i++b.drop j).Perm ((a.take i++b.take j)++a.drop i++b.drop j):=DJ _ (DJ _ m.perm);refine g.trans ?_;have d:((a.take i++b.take j)++a.drop i++b.drop j).Perm ((a.take i++a.drop i) ++(b.take j++b.drop j)):=by
   rw[BF,BF,BF];refine DF _ ?_;rw[<-BF,<-BF];exact DJ _ CS
  rw[BZ,BZ]at d;exact d
theorem ML.endB{a b o:A0 HR}{i j:Nat}(m:ML U a b o i j)(c:KM U a)(d:KM U b)(h:∀y∈b.drop j,∀z∈a.drop i,le U y z):KM U (o++b.drop j++a.drop i)/\(o++b.drop j++a.drop i).Perm (a++b) :=
 ⟨(m.sym.endA d c h).1,(m.sym.endA d c h).2.trans CS⟩
structure MH(U:KeyKind)(a b:A0 HR)(o:A0 HR)(i j:Nat):Prop where
 perm:o.Perm (a.drop i++b.drop j)
 sor:KM U o
 la:∀x∈o,∀y∈a.take i,le U y x
 lb:∀x∈o,∀y∈b.take j,le U y x
theorem MH.sym{a b o:A0 HR}{i j:Nat}(m:MH U a b o i j):MH U b a o j i:=⟨m.perm.trans CS,m.sor,m.lb,m.la⟩
theorem MH.addA{a b o:A0 HR}{i j:Nat}(m:MH U a b o i j)(g:KM U a)(k:Nat)(d:k<=i)(h:∀y∈(a.take i).drop k,∀z∈b.take j,le U z y):MH U a b ((a.take i).drop k++o) k j:=by
 have f:KM U (a.take i):=g.sublist (DQ _ _);have e:a.drop k =(a.take i).drop k++a.drop i:=by
  conv=>lhs;rw[<-BZ i a]
  rw[List.drop_append];by_cases l:i<=a.length
  .rw[AO,ER l,Nat.sub_eq_zero_of_le d,DR]
  .have:a.drop i = []:=ET (by lia);rw[this,List.drop_nil]
 have n:(a.take i).take k=a.take k:=by rw[List.take_take,ER d]
 refine⟨?_,?_,λx hx y c=>?_,λx hx y c=>?_⟩
 .rw[e,BF];exact DF _ m.perm
 .exact CP.mpr ⟨f.sublist (FA _ _),m.sor,λx hx y c=>m.la y c x (DL hx)⟩
 .rw[<-n]at c;rcases AH.mp hx with hx | hx
  .exact He k f y c x hx
  .exact m.la x hx y (BQ c)
 .rcases AH.mp hx with hx | hx
  .exact h x hx y c
  .exact m.lb x hx y c
theorem MH.addB{a b o:A0 HR}{i j:Nat}(m:MH U a b o i j)(d:KM U b)(k:Nat)(c:k<=j)(e:∀y∈(b.take j).drop k,∀z∈a.take i,le U z y):MH U a b ((b.take j).drop k++o) i k :=
 (m.sym.addA d k c e).sym
theorem MH.endA{a b o:A0 HR}{i j:Nat}(m:MH U a b o i j)(e:KM U a)(f:KM U b)(h:∀y∈a.take i,∀z∈b.take j,le U y z):KM U (a.take i++b.take j++o)/\(a.take i++b.take j++o).Perm (a++b):=by
 refine⟨?_,?_⟩
 .refine CP.mpr ⟨CP.mpr ⟨e.sublist (DQ _ _),f.sublist (DQ _ _),h⟩,m.sor,λx hx y c=>?_⟩;rcases AH.mp hx with hx | hx
  .exact m.la y c x hx
  .exact m.lb y c x hx
 .have g:(a.take i++b.take j++o).Perm (a.take i++b.take j ++(a.drop i++b.drop j)):=DF _ m.perm;refine g.trans ?_;have d:(a.take i++b.take j ++(a.drop i++b.drop j)).Perm ((a.take i++a.drop i) ++(b.take j++b.drop j)):=by
   rw[BF,BF];refine DF _ ?_;rw[<-BF,<-BF];exact DJ _ CS
  rw[BZ,BZ]at d;exact d
theorem MH.endB{a b o:A0 HR}{i j:Nat}(m:MH U a b o i j)(c:KM U a)(d:KM U b)(h:∀y∈b.take j,∀z∈a.take i,le U y z):KM U (b.take j++a.take i++o)/\(b.take j++a.take i++o).Perm (a++b) :=
 ⟨(m.sym.endA d c h).1,(m.sym.endA d c h).2.trans CS⟩
end
section
variable{prog:Cv}{w:HS}{A:HZ}{E:A1->A5->Prop}{s:A5}{U:KeyKind}{kd:JT}
def Cj(g:Nat):StateT HV Sem Unit:=modify λs=>SortSt.mk' (kindOf s) (arrOf s) (pendingOf s) g (failedOf s)
def Eb:HQ HR->HQ HR->StateT HV Sem (HQ HR):=sortPriv% PySem.Builtin.mergeLo
theorem Jn(a b:HQ HR):Eb a b =(do
  rule "list.sort.merge-lo"
  let e:=a.size+b.size
  let d (o:HQ HR) (i j:Nat):=o++a.extract i a.size++b.extract j b.size
  let h (o:HQ HR) (i j:Nat):=o++b.extract j b.size++a.extract i a.size
  let mut o:HQ HR:=#[<-elem' b 0]
  let mut i:=0
  let mut j:=1
  if j == b.size then return d o i j
  if i+1 == a.size then return h o i j
  let mut c:=gallopOf (<-get)
  for _ in [0:e] do
   let mut f:=0
   let mut g:=0
   for _ in [0:e] do
    let some l <-lt' (<-elem' b j) (<-elem' a i) | return d o i j
    if l then
     o:=o.push (<-elem' b j);j:=j+1;g:=g+1;f:=0
     if j == b.size then return d o i j
     if g ≥ c then break
    else
     o:=o.push (<-elem' a i);i:=i+1;f:=f+1;g:=0
     if i+1 == a.size then return h o i j
     if f ≥ c then break
   rule "list.sort.gallop"
   c:=c+1
   for _ in [0:e] do
    if c>1 then c:=c-1
    Cj c
    let some k <-V1 false (<-elem' b j) a i (a.size-i) 0 | return d o i j
    f:=k
    if k>0 then
     o:=o++a.extract i (i+k);i:=i+k
     if i+1 == a.size then return h o i j
     if i == a.size then return d o i j
    o:=o.push (<-elem' b j);j:=j+1
    if j == b.size then return d o i j
    let some k <-V1 true (<-elem' a i) b j (b.size-j) 0 | return d o i j
    g:=k
    if k>0 then
     o:=o++b.extract j (j+k);j:=j+k
     if j == b.size then return d o i j
    o:=o.push (<-elem' a i);i:=i+1
    if i+1 == a.size then return h o i j
    if f<7&&g<7 then break
   c:=c+1
   Cj c
  unsupported "internal:list.sort.merge-bound"):=rfl
def Sm(st a:HV):Prop:=kindOf a=kindOf st/\arrOf a=arrOf st/\pendingOf a=pendingOf st/\failedOf a=failedOf st
theorem Sm.refl(st:HV):Sm st st:=⟨rfl,rfl,rfl,rfl⟩
theorem Y3{st st0:HV}{g:Nat}{Q:Unit->HV->Prop}(b:Sm st0 st)(h:∀a,Sm st0 a->Q () a):wpS (model prog w) A E s (Cj g) Q st :=
 wpS_modify (h _ ⟨b.1,b.2.1,b.2.2.1,b.2.2.2⟩)
theorem Dl{l:A0 HR}{i k:Nat}{y:HR}(h:y∈(l.drop i).take k):∃t,t<k/\l[i+t]?=some y:=by
 obtain⟨t,a,e⟩:=FB.mp h;rw[AO,CI]at a;refine⟨t,by lia,?_⟩;rw[List.getElem_take,List.getElem_drop]at e;rw[<-e];exact AU (by lia)
theorem Jp{l:A0 HR}{i:Nat}{y:HR}(h:y∈l.drop i):∃t,i+t<l.length/\l[i+t]?=some y:=by
 obtain⟨t,a,e⟩:=FB.mp h;rw[CI]at a;refine⟨t,by lia,?_⟩;rw[List.getElem_drop]at e;rw[<-e];exact AU (by lia)
theorem On{l:A0 HR}{i:Nat}{y:HR}(h:y∈l.take i):∃t,t<i/\t<l.length/\l[t]?=some y:=by
 obtain⟨t,a,e⟩:=FB.mp h;rw[AO]at a;refine⟨t,by lia,by lia,?_⟩;rw[List.getElem_take]at e;rw[<-e];exact AU (by lia)
theorem Xf{l:A0 HR}{i k:Nat}{y:HR}(h:y∈(l.take i).drop k):∃t,k<=t/\t<i/\l[t]?=some y:=by
 obtain⟨t,b,a⟩:=Jp h;rw[AO]at b;rw[DD (by lia)]at a;exact⟨k+t,by lia,by lia,a⟩
theorem z8{l:A0 HR}(h:KM U l){i j:Nat}{p q:HR}(a:i<=j)(b:l[i]?=some p)(c:l[j]?=some q):le U p q:=by
 obtain⟨d,rfl⟩:=AR.mp b;obtain⟨e,rfl⟩:=AR.mp c;rcases Nat.lt_or_eq_of_le a with z | z
 .exact List.pairwise_iff_getElem.mp h i j d e z
 .subst z;exact TN _
theorem Dt{l:A0 HR}(h:KM U l){i:Nat}{p:HR}(a:l[i]?=some p):∀z∈l.drop i,le U p z:=λz b=>by
 obtain⟨t,_,e⟩:=Jp b;exact z8 h (HK _ _) a e
theorem IA{a:HQ HR}{i:Nat}{p:HR}:a[i]?=some p↔a.toList[i]?=some p:=by rw[BN]
theorem Y9{a:HQ HR}{i:Nat}(h:i<a.size):∃p,a[i]?=some p:=⟨a[i],getElem?_pos a i h⟩
theorem Qg{l:A0 HR}{i:Nat}{p:HR}(h:l[i]?=some p):(l.drop i).take 1 = [p]:=by
 obtain⟨a,rfl⟩:=AR.mp h;rw[EB a];rfl
theorem En(a:HQ HR)(i k:Nat):(a.extract i (i+k)).toList =(a.toList.drop i).take k:=by
 rw[EL,EC,Nat.add_sub_cancel_left]
theorem w4(a:HQ HR)(i:Nat):(a.extract i a.size).toList=a.toList.drop i:=by
 rw[EL,EC,CT];rw[CI,AX];exact Nat.le_refl _
theorem w5(a:HQ HR)(i:Nat):(a.extract 0 i).toList=a.toList.take i:=by
 rw[EL,EC,DR,Nat.sub_zero]
def Rm(U:KeyKind)(a b r:HQ HR):Prop:=KM U r.toList/\r.toList.Perm (a.toList++b.toList)
structure NK(U:KeyKind)(a b:HQ HR):Prop where
 sa:KM U a.toList
 sb:KM U b.toList
 ka:∀(i:Nat) p,a[i]?=some p->SY U p
 kb:∀(i:Nat) p,b[i]?=some p->SY U p
 na:1<=a.size
 nb:1<=b.size
 first:∀q,b[0]?=some q->∀z∈a.toList,le U q z
 last:∀p,a[a.size-1]?=some p->∀z∈b.toList,le U z p
section
variable{a b o:HQ HR}{i j k:Nat}{p q:HR}
theorem NK.pushB(P:NK U a b)(m:ML U a.toList b.toList o.toList i j)(c:b[j]?=some q)(h:∀z∈a.toList.drop i,le U q z):ML U a.toList b.toList (o.push q).toList i (j+1):=by
 have d:=m.addB P.sb 1 (by rw[Qg (IA.mp c)];intro y e;rw[AC.mp e];exact h);rw[Qg (IA.mp c)]at d;rw[DA];exact d
theorem NK.pushA(P:NK U a b)(m:ML U a.toList b.toList o.toList i j)(c:a[i]?=some p)(h:∀z∈b.toList.drop j,le U p z):ML U a.toList b.toList (o.push p).toList (i+1) j:=by
 have d:=m.addA P.sa 1 (by rw[Qg (IA.mp c)];intro y e;rw[AC.mp e];exact h);rw[Qg (IA.mp c)]at d;rw[DA];exact d
theorem NK.extA(P:NK U a b)(m:ML U a.toList b.toList o.toList i j)(h:∀y∈(a.toList.drop i).take k,∀z∈b.toList.drop j,le U y z):ML U a.toList b.toList (o++a.extract i (i+k)).toList (i+k) j:=by
 rw[BT,En];exact m.addA P.sa k h
theorem NK.extB(P:NK U a b)(m:ML U a.toList b.toList o.toList i j)(h:∀y∈(b.toList.drop j).take k,∀z∈a.toList.drop i,le U y z):ML U a.toList b.toList (o++b.extract j (j+k)).toList i (j+k):=by
 rw[BT,En];exact m.addB P.sb k h
theorem NK.doneB(P:NK U a b)(m:ML U a.toList b.toList o.toList i j)(d:j=b.size):Rm U a b (o++a.extract i a.size++b.extract j b.size):=by
 unfold Rm;rw[BT,BT,w4,w4];refine m.endA P.sa P.sb λy _ z c=>?_;rw[ET (by rw[AX];lia)]at c;exact absurd c (by simp)
theorem NK.doneA(P:NK U a b)(m:ML U a.toList b.toList o.toList i j)(hi:i=a.size):Rm U a b (o++a.extract i a.size++b.extract j b.size):=by
 unfold Rm;rw[BT,BT,w4,w4];refine m.endA P.sa P.sb λy c z _=>?_;rw[ET (by rw[AX];lia)]at c;exact absurd c (by simp)
theorem NK.lastA(P:NK U a b)(m:ML U a.toList b.toList o.toList i j)(hi:i+1=a.size):Rm U a b (o++b.extract j b.size++a.extract i a.size):=by
 unfold Rm;rw[BT,BT,w4,w4];refine m.endB P.sa P.sb λy d z f=>?_;obtain⟨t,g,c⟩:=Jp f;rw[AX]at g;have e:i+t=a.size-1:=by lia
 rw[e]at c;exact P.last z (IA.mpr c) y (DL d)
end
theorem Sm.knd{st a:HV}(h:Sm st a){k:JT}(b:kindOf st=k):kindOf a=k:=h.1.trans b
theorem t4(C:SL prog w A s U kd){st:HV}{left:Bool}{d:HR}{b:HQ HR}{bs n e:Nat}{Q:A6 Nat->HV->Prop}(D:kindOf st=kd)(f:SY U d)
  (hsz:bs+n<=b.size) (F:∀(i:Nat) p,b[i]?=some p->SY U p) (G:∀(u v:Nat) p q,u<=v->v<n->b[bs+u]?=some p->b[bs+v]?=some q->le U p q) (g:e<n)
  (h:∀k,k<=n->(∀(t:Nat) p,t<k->b[bs+t]?=some p->PB U left d p=true)->(∀(t:Nat) p,k<=t->t<n->b[bs+t]?=some p->PB U left d p=false)->Q (some k) st) :
  wpS (model prog w) A E s (V1 left d b bs n e) Q st:=by
 have c:∀t,t<n->∃p,b[bs+t]?=some p:=λt e=>Y9 (by lia);refine Of C D f (λt=>match b[bs+t]? with | some p=>PB U left d p | none=>false) (λi H=>?_) (λi j m y a=>?_) g λk o I J=>?_
 .obtain⟨p,a⟩:=c i H;exact⟨p,a,F _ p a,by rw[a]⟩
 .obtain⟨p,z⟩:=c i (by lia);obtain⟨q,B⟩:=c j y;rw[B]at a;rw[z];have l:=G i j p q m y z B;dsimp only at a⊢;unfold PB at a⊢;cases left with
  | true =>
   simp only[EG]at a⊢;exact KeyOrd.klt_of_kle_of_klt l a
  | false =>
   simp only[BE,CN,Bool.not_eq_true']at a⊢;exact KeyOrd.kle_trans l a
 .refine h k o (λt p e a=>?_) λt p r x a=>?_
  .have:=I t e;rw[a]at this;exact this
  .have:=J t r x;rw[a]at this;exact this
theorem Dy{a p:HR}(h:PB U false a p=true):le U p a:=by
 unfold PB at h;show U.blt (kk U a) (kk U p)=false;simpa using h
theorem Ay{a p:HR}(h:PB U false a p=false):U.klt (kk U a) (kk U p):=by
 unfold PB at h;show U.blt (kk U a) (kk U p)=true;simpa using h
theorem Jm{a p:HR}(h:PB U true a p=true):U.klt (kk U p) (kk U a):=by
 unfold PB at h;show U.blt (kk U p) (kk U a)=true;simpa using h
theorem Dw{a p:HR}(h:PB U true a p=false):le U a p:=by
 unfold PB at h;show U.blt (kk U p) (kk U a)=false;simpa using h
section
variable{α:Type}{Q:α->HV->Prop}{st:HV}
theorem U5{c:Prop}{_:Decidable c}{t e:StateT HV Sem α}(h1:c->wpS (model prog w) A E s t Q st)(h2:¬c->wpS (model prog w) A E s e Q st):wpS (model prog w) A E s (if c then t else e) Q st:=by
 split
 .rename_i h;exact h1 h
 .rename_i h;exact h2 h
theorem O0{x y:Nat}{t e:StateT HV Sem α}(h1:x=y->wpS (model prog w) A E s t Q st)(h2:x≠y->wpS (model prog w) A E s e Q st):wpS (model prog w) A E s (if(x == y)=true then t else e) Q st :=
 U5 (λh=>h1 (eq_of_beq h)) λh=>h2 λz=>h (beq_iff_eq.mpr z)
theorem Ri{c:Prop}{_:Decidable c}{t:StateT HV Sem α}{F:Nat->StateT HV Sem α}(x:Nat){y:Nat}(h:∀g,wpS (model prog w) A E s (F g) Q st)(e:t=F x):wpS (model prog w) A E s (if c then t else F y) Q st:=by
 subst e;exact U5 (λ_=>h _) λ_=>h _
theorem El{c:Prop}{_:Decidable c}{t:StateT HV Sem α}{F:HQ HR->Nat->StateT HV Sem α}{o:HQ HR}{i:Nat}(R:HQ HR->Nat->Prop)(h:∀o i,R o i->wpS (model prog w) A E s (F o i) Q st)
  (a:(∀o i,R o i->wpS (model prog w) A E s (F o i) Q st)->c->wpS (model prog w) A E s t Q st) (b:¬c->R o i):wpS (model prog w) A E s (if c then t else F o i) Q st:=U5 (a h) λz=>h _ _ (b z)
end
theorem Qk{α β:Type}{h:Sem Unit}{i:StateT HV Sem HR}{x0:HR}{b e:Prop}{_:Decidable b}{_:Decidable e}{j k:HR->StateT HV Sem α}{d:HR->HV->β}{n:Nat}{f:Nat->β->StateT HV Sem (ForInStep β)}{g:β->StateT HV Sem α}{Q:α->HV->Prop}{st:HV}
  (m:∀R:Unit->HV->Prop,R () st->wpS (model prog w) A E s (liftM h:StateT HV Sem Unit) R st) (o:∀R:HR->HV->Prop,R x0 st->wpS (model prog w) A E s i R st) (h1:b->wpS (model prog w) A E s (j x0) Q st) (h2:¬b->e->wpS (model prog w) A E s (k x0) Q st)
  (p:¬b->¬e->wpS (model prog w) A E s (forIn [0:n] (d x0 st) f) (λc a=>wpS (model prog w) A E s (g c) Q a) st) :
  wpS (model prog w) A E s ((liftM h:StateT HV Sem Unit) >>= λ_=>i >>= λx=>if b then j x else if e then k x else get >>= λa=>forIn [0:n] (d x a) f >>= g) Q st :=
 wpS_bind (m _ (wpS_bind (o _ (U5 h1 λl=>U5 (h2 l) λq=>wpS_bind (wpS_get (wpS_bind (p l q)))))))
def MR(U:KeyKind)(a b:HQ HR)(st:HV){β:Type}(c:A6 (HQ HR)×β)(d:HV):Prop:=Sm st d/\∃r,c.1=some r/\Rm U a b r
theorem MR.mk{a b r:HQ HR}{st d:HV}{β:Type}{c:β}(e:Sm st d)(h:Rm U a b r):MR U a b st (some r,c) d:=⟨e,r,rfl,h⟩
structure RE(U:KeyKind)(a b:HQ HR)(n:Nat)(o:HQ HR)(i j:Nat):Prop where
 m:ML U a.toList b.toList o.toList i j
 hi:i+1<a.size
 hj:j<b.size
 hn:n<=i+j
theorem RE.putB{a b o c:HQ HR}{n i j:Nat}(h:RE U a b n o i j)(m:ML U a.toList b.toList c.toList i (j+1))(e:j+1≠b.size):RE U a b (n+1) c i (j+1):=⟨m,h.hi,GQ h.hj e,HJ h.hn⟩
theorem RE.putA{a b o c:HQ HR}{n i j:Nat}(h:RE U a b n o i j)(m:ML U a.toList b.toList c.toList (i+1) j)(e:i+1+1≠a.size):RE U a b (n+1) c (i+1) j:=⟨m,GQ h.hi e,h.hj,by rw[Nat.add_right_comm];exact HJ h.hn⟩
theorem RE.mono{a b o:HQ HR}{n c i j:Nat}(h:RE U a b n o i j)(l:c<=n):RE U a b c o i j:=⟨h.m,h.hi,h.hj,Nat.le_trans l h.hn⟩
def zHa(U:KeyKind)(a b:HQ HR)(st:HV)(n:Nat)(c:A6 (HQ HR)×HQ HR×Nat×Nat×Nat)(d:HV):Prop:=Sm st d/\∃o i j e,c =(none,o,i,j,e)/\RE U a b n o i j
def QR(U:KeyKind)(a b:HQ HR)(st:HV)(n:Nat)(c:A6 (HQ HR)×HQ HR×Nat×Nat×Nat×Nat)(d:HV):Prop:=Sm st d/\∃o i j e f,c =(none,o,i,j,e,f)/\RE U a b n o i j
def RF(U:KeyKind)(a b:HQ HR)(st:HV)(n:Nat)(c:A6 (HQ HR)×HQ HR×Nat×Nat×Nat×Nat×Nat)(d:HV):Prop:=Sm st d/\∃o i j e f g,c =(none,o,i,j,e,f,g)/\RE U a b n o i j
theorem QR.mk{a b o:HQ HR}{st c:HV}{n i j d e:Nat}(f:Sm st c)(h:RE U a b n o i j):QR U a b st n (none,o,i,j,d,e) c:=⟨f,_,_,_,_,_,rfl,h⟩
theorem RF.mk{a b o:HQ HR}{st c:HV}{n i j d e f:Nat}(g:Sm st c)(h:RE U a b n o i j):RF U a b st n (none,o,i,j,d,e,f) c:=⟨g,_,_,_,_,_,_,rfl,h⟩
theorem Ju(C:SL prog w A s U kd){st:HV}{a b:HQ HR}{Q:HQ HR->HV->Prop}(hk:kindOf st=kd)(P:NK U a b)
  (h:∀r d,Sm st d->Rm U a b r->Q r d):wpS (model prog w) A E s (Eb a b) Q st:=by
 rw[Jn];obtain⟨b0,O⟩:=Y9 (a:=b) (i:=0) P.nb;have m0:ML U a.toList b.toList (#[]:HQ HR).toList 0 0:=⟨by simp,List.Pairwise.nil,λx hx=>absurd hx (by simp),λx hx=>absurd hx (by simp)⟩;have m1:ML U a.toList b.toList (#[b0]:HQ HR).toList 0 1:=by
  have:=P.pushB m0 O (by rw[DR];exact P.first b0 O);simpa using this
 apply Qk (x0:=b0) (λR z=>wpS_lift (DT ⟨rfl,z⟩)) (λR z=>E7 O z)
 case h1=>exact λS=>wpS_pure (h _ _ (Sm.refl _) (P.doneB m1 (eq_of_beq S)))
 case h2=>exact λ_ T=>wpS_pure (h _ _ (Sm.refl _) (P.lastA m1 (eq_of_beq T)))
 intro S T;have p1:RE U a b 1 #[b0] 0 1:=⟨m1,GQ P.na λz=>T (beq_iff_eq.mpr z),GQ P.nb λz=>S (beq_iff_eq.mpr z),Nat.le_refl _⟩;refine wpS_mono (wpS_forRange (I:=λx=>zHa U a b st (x+1)) (Q:=MR U a b st) ?st ?en ⟨Sm.refl _,_,_,_,_,rfl,p1⟩) ?po
 case po =>
  rintro⟨c1,c2⟩ d ⟨sm,r,e,hr⟩;cases e;exact wpS_pure (h r d sm hr)
 case en =>
  rintro c d ⟨sm,o,i,j,mg,rfl,p⟩;obtain⟨_,h1,h2,h3⟩:=p;exfalso;lia
 case st =>
  rintro x c d _ hx ⟨sm,o,i,j,mg,rfl,p⟩;refine wpS_bind (wpS_mono (wpS_forRange (I:=λ_=>QR U a b st (x+1)) (Q:=λc d=>MR U a b st c d\/QR U a b st (x+1) c d) ?st1 ?en1 (QR.mk sm p)) ?po1)
  case en1=>exact λc st2 z=>.inr z
  case st1 =>
   rintro x2 c st2 _ _ ⟨f,o,i',j',ac,bc,rfl,N⟩;obtain⟨bj,l⟩:=Y9 (a:=b) (i:=j') N.hj;obtain⟨ai,n⟩:=Y9 (a:=a) (i:=i') (FZ N.hi);refine wpS_bind (E7 l (wpS_bind (E7 n (wpS_bind (Iv C (f.knd hk) (P.kb _ _ l) (P.ka _ _ n) ?_)))));refine U5 (λV=>wpS_bind (E7 l ?_)) λV=>wpS_bind (E7 n ?_)
   .have m3:=P.pushB N.m l λz H=>I_ (KeyOrd.kle_of_klt V) (Dt P.sa (IA.mp n) z H);refine O0 (λG=>wpS_pure (.inl (MR.mk f (P.doneB m3 G)))) λG=>?_;have D:=(N.putB m3 G).mono (CQ _);exact U5 (λ_=>wpS_pure (.inr (QR.mk f D))) λ_=>wpS_pure (QR.mk f D)
   .have m3:=P.pushA N.m n λz H=>I_ (show le U ai bj from DG.mpr V) (Dt P.sb (IA.mp l) z H);refine O0 (λG=>wpS_pure (.inl (MR.mk f (P.lastA m3 G)))) λG=>?_;have D:=(N.putA m3 G).mono (CQ _);exact U5 (λ_=>wpS_pure (.inr (QR.mk f D))) λ_=>wpS_pure (QR.mk f D)
  case po1 =>
   rintro⟨c1,c2⟩ st2 (⟨f,r,e,hr⟩ | ⟨f,o2,i2,j2,ac,bc,e,N⟩)
   .cases e;exact wpS_pure (MR.mk f hr)
   .cases e;refine wpS_bind (wpS_lift (DT ⟨rfl,?_⟩));refine wpS_bind (wpS_mono (wpS_forRange (I:=λx3=>RF U a b st (x+1+x3)) (Q:=λc d=>MR U a b st c d\/RF U a b st (x+1+1) c d) ?st2 ?en2 (RF.mk f N)) ?po2)
    case en2 =>
     rintro c st3 ⟨F,o',i',j',mg',ac,bc,rfl,D⟩;refine .inr (RF.mk F (D.mono ?_));have:=P.na;lia
    case po2 =>
     rintro⟨c1,c2⟩ st3 (⟨F,r,e,hr⟩ | ⟨F,o',i',j',mg',ac,bc,e,D⟩)
     .cases e;exact wpS_pure (MR.mk F hr)
     .cases e;refine wpS_bind (Y3 F λst4 B=>?_);exact wpS_pure ⟨B,_,_,_,_,rfl,D⟩
    case st2 =>
     rintro x3 c st3 _ _ ⟨F,o3,W,j3,mg3,ac3,bc3,rfl,D⟩;obtain⟨bj,l⟩:=Y9 (a:=b) (i:=j3) D.hj;have hi3:W +(a.size-W)<=a.size:=by rw[Nat.add_sub_cancel' (DB (FZ D.hi))];exact Nat.le_refl _
     have hj3:=D.hj;apply Ri (mg3-1) (y:=mg3)
     case e=>exact rfl
     intro g;refine wpS_bind (Y3 F λst4 B=>?_);refine wpS_bind (E7 l (wpS_bind (t4 C (B.knd hk) (P.kb _ _ l) hi3 P.ka (λu v p q X _ G Z=>z8 P.sa (DY X _) (IA.mp G) (IA.mp Z)) (GU (FZ D.hi)) λk hk1 k1 k2=>?_)));have m4:ML U a.toList b.toList (o3++a.extract W (W+k)).toList (W+k) j3:=P.extA D.m λy hy z H=>by
      obtain⟨t,Y,e⟩:=Dl hy;exact I_ (Dy (k1 t y Y (IA.mpr e))) (Dt P.sb (IA.mp l) z H)
     have K:∀z∈a.toList.drop (W+k),le U bj z:=λz H=>by
      obtain⟨t,Y,e⟩:=Jp H;rw[AX]at Y;exact KeyOrd.kle_of_klt (Ay (k2 (k+t) z (HK _ _) (by lia) (by rw[<-Nat.add_assoc];exact IA.mpr e)))
     apply El (o:=o3) (i:=W) (λo i=>RE U a b (x+1+x3) o i j3/\∀z∈a.toList.drop i,le U bj z)
     .rintro o4 i4 ⟨p4,K⟩;refine wpS_bind (E7 l ?_);have m5:=P.pushB p4.m l K;refine O0 (λe3=>wpS_pure (.inl (MR.mk B (P.doneB m5 e3)))) λe3=>?_;have L:=p4.putB m5 e3;generalize o4.push bj=o5 at m5 L⊢;generalize j3+1=j5 at m5 L⊢;obtain⟨ai,n⟩:=Y9 (a:=a) (i:=i4) (FZ L.hi);refine wpS_bind (E7 n (wpS_bind (t4 C (B.knd hk) (P.ka _ _ n) (by rw[Nat.add_sub_cancel' (DB L.hj)];exact Nat.le_refl _) P.kb (λu v p q X _ G Z=>z8 P.sb (DY X _) (IA.mp G) (IA.mp Z)) (GU L.hj) λk' hk1' k1' k2'=>?_)));have M:∀z∈b.toList.drop (j5+k'),le U ai z:=λz H=>by
       obtain⟨t,Y,e⟩:=Jp H;rw[AX]at Y;exact Dw (k2' (k'+t) z (HK _ _) (by lia) (by rw[<-Nat.add_assoc];exact IA.mpr e))
      apply El (o:=o5) (i:=j5) (λo j=>RE U a b (x+1+x3+1) o i4 j/\∀z∈b.toList.drop j,le U ai z)
      .rintro o6 j6 ⟨p6,M⟩;refine wpS_bind (E7 n ?_);have m7:=P.pushA p6.m n M;refine O0 (λe5=>wpS_pure (.inl (MR.mk B (P.lastA m7 e5)))) λe5=>?_;have p7:=p6.putA m7 e5;exact U5 (λ_=>wpS_pure (.inr (RF.mk B (p7.mono (by lia))))) λ_=>wpS_pure (RF.mk B (p7.mono (by lia)))
      .intro hF J;have m6:ML U a.toList b.toList (o5++b.extract j5 (j5+k')).toList i4 (j5+k'):=P.extB m5 λy hy z H=>by
        obtain⟨t,Y,e⟩:=Dl hy;exact I_ (KeyOrd.kle_of_klt (Jm (k1' t y Y (IA.mpr e)))) (Dt P.sa (IA.mp n) z H)
       have hj5:=L.hj;exact O0 (λe4=>wpS_pure (.inl (MR.mk B (P.doneB m6 e4)))) λe4=>hF _ _ ⟨⟨m6,L.hi,by lia,Nat.le_trans L.hn (by lia)⟩,M⟩
      .intro J;have z0:k'=0:=FN J;subst z0;exact⟨L,M⟩
     .intro hF J;have hi:=D.hi;exact O0 (λG=>wpS_pure (.inl (MR.mk B (P.lastA m4 G)))) λG=>O0 (λZ=>wpS_pure (.inl (MR.mk B (P.doneA m4 Z)))) λZ=>hF _ _ ⟨⟨m4,by lia,D.hj,Nat.le_trans D.hn (by lia)⟩,K⟩
     .intro J;have z0:k=0:=FN J;subst z0;exact⟨D,K⟩
end
section
variable{prog:Cv}{w:HS}{A:HZ}{E:A1->A5->Prop}{s:A5}{U:KeyKind}{kd:JT}
def Du:HQ HR->HQ HR->StateT HV Sem (HQ HR):=sortPriv% PySem.Builtin.mergeHi
theorem Js(a b:HQ HR):Du a b =(do
  rule "list.sort.merge-hi"
  let f:=a.size+b.size
  let e (o:HQ HR) (i j:Nat):=a.extract 0 i++b.extract 0 j++o.reverse
  let l (o:HQ HR) (i j:Nat):=b.extract 0 j++a.extract 0 i++o.reverse
  let mut i:=a.size-1
  let mut j:=b.size
  let mut o:HQ HR:=#[<-elem' a i]
  if i == 0 then return e o i j
  if j == 1 then return l o i j
  let mut d:=gallopOf (<-get)
  for _ in [0:f] do
   let mut g:=0
   let mut h:=0
   for _ in [0:f] do
    let some m <-lt' (<-elem' b (j-1)) (<-elem' a (i-1)) | return e o i j
    if m then
     i:=i-1;o:=o.push (<-elem' a i);g:=g+1;h:=0
     if i == 0 then return e o i j
     if g ≥ d then break
    else
     j:=j-1;o:=o.push (<-elem' b j);h:=h+1;g:=0
     if j == 1 then return l o i j
     if h ≥ d then break
   rule "list.sort.gallop"
   d:=d+1
   for _ in [0:f] do
    if d>1 then d:=d-1
    Cj d
    let some c <-V1 false (<-elem' b (j-1)) a 0 i (i-1) | return e o i j
    let k:=i-c
    g:=k
    if k>0 then
     o:=o ++(a.extract c i).reverse;i:=c
     if i == 0 then return e o i j
    j:=j-1;o:=o.push (<-elem' b j)
    if j == 1 then return l o i j
    let some c <-V1 true (<-elem' a (i-1)) b 0 j (j-1) | return e o i j
    let k:=j-c
    h:=k
    if k>0 then
     o:=o ++(b.extract c j).reverse;j:=c
     if j == 1 then return l o i j
     if j == 0 then return e o i j
    i:=i-1;o:=o.push (<-elem' a i)
    if i == 0 then return e o i j
    if g<7&&h<7 then break
   d:=d+1
   Cj d
  unsupported "internal:list.sort.merge-bound"):=rfl
abbrev P_(U:KeyKind)(a b o:HQ HR)(i j:Nat):Prop:=MH U a.toList b.toList o.toList.reverse i j
section
variable{a b o:HQ HR}{i j k:Nat}{p q:HR}
theorem td1{l:A0 HR}{i:Nat}{p:HR}(hi:1<=i)(h:l[i-1]?=some p):(l.take i).drop (i-1) = [p]:=by
 rw[F_,show i-(i-1)=1 by lia];exact Qg h
theorem Jx(a:HQ HR)(k i:Nat):(a.extract k i).toList =(a.toList.take i).drop k:=by
 rw[EL,EC,F_]
theorem Ep{l:A0 HR}(h:KM U l){i:Nat}{p:HR}(a:l[i-1]?=some p):∀z∈l.take i,le U z p:=λz b=>by
 obtain⟨t,c,_,e⟩:=On b;exact z8 h (by lia) e a
theorem NK.hpA(P:NK U a b)(m:P_ U a b o i j)(hi:1<=i)(c:a[i-1]?=some p)(h:∀z∈b.toList.take j,le U z p):P_ U a b (o.push p) (i-1) j:=by
 have d:=m.addA P.sa (i-1) (by lia) (by rw[td1 hi (IA.mp c)];intro y e;rw[AC.mp e];exact h);rw[td1 hi (IA.mp c)]at d;unfold P_;rw[DA,GG];exact d
theorem NK.hpB(P:NK U a b)(m:P_ U a b o i j)(c:1<=j)(d:b[j-1]?=some q)(h:∀z∈a.toList.take i,le U z q):P_ U a b (o.push q) i (j-1):=by
 have e:=m.addB P.sb (j-1) (by lia) (by rw[td1 c (IA.mp d)];intro y f;rw[AC.mp f];exact h);rw[td1 c (IA.mp d)]at e;unfold P_;rw[DA,GG];exact e
theorem NK.heA(P:NK U a b)(m:P_ U a b o i j)(c:k<=i)(h:∀y∈(a.toList.take i).drop k,∀z∈b.toList.take j,le U z y):P_ U a b (o ++(a.extract k i).reverse) k j:=by
 unfold P_;rw[BT,FC,GG,List.reverse_reverse,Jx];exact m.addA P.sa k c h
theorem NK.heB(P:NK U a b)(m:P_ U a b o i j)(c:k<=j)(h:∀y∈(b.toList.take j).drop k,∀z∈a.toList.take i,le U z y):P_ U a b (o ++(b.extract k j).reverse) i k:=by
 unfold P_;rw[BT,FC,GG,List.reverse_reverse,Jx];exact m.addB P.sb k c h
theorem NK.hdA(P:NK U a b)(m:P_ U a b o i j)(hi:i=0):Rm U a b (a.extract 0 i++b.extract 0 j++o.reverse):=by
 unfold Rm;rw[BT,BT,FC,w5,w5];refine m.endA P.sa P.sb λy c z _=>?_;rw[hi,List.take_zero]at c;exact absurd c (by simp)
theorem NK.hdB(P:NK U a b)(m:P_ U a b o i j)(d:j=0):Rm U a b (a.extract 0 i++b.extract 0 j++o.reverse):=by
 unfold Rm;rw[BT,BT,FC,w5,w5];refine m.endA P.sa P.sb λy _ z c=>?_;rw[d,List.take_zero]at c;exact absurd c (by simp)
theorem NK.hfB(P:NK U a b)(m:P_ U a b o i j)(g:j=1):Rm U a b (b.extract 0 j++a.extract 0 i++o.reverse):=by
 unfold Rm;rw[BT,BT,FC,w5,w5];refine m.endB P.sa P.sb λy c z d=>?_;obtain⟨t,h,_,e⟩:=On c;have f:t=0:=by lia
 rw[f]at e;exact P.first y (IA.mpr e) z (BQ d)
end
structure P6(U:KeyKind)(a b:HQ HR)(n:Nat)(o:HQ HR)(i j:Nat):Prop where
 m:P_ U a b o i j
 hi:1<=i
 hj:2<=j
 ia:i<=a.size
 jb:j<=b.size
 hn:n+i+j<=a.size+b.size
theorem P6.putA{a b o c:HQ HR}{n i j:Nat}(h:P6 U a b n o i j)(m:P_ U a b c (i-1) j)(e:i-1≠0):P6 U a b (n+1) c (i-1) j:=by
 obtain⟨_,g,d,k,f,l⟩:=h;exact⟨m,by lia,d,by lia,f,by lia⟩
theorem P6.putB{a b o c:HQ HR}{n i j:Nat}(h:P6 U a b n o i j)(m:P_ U a b c i (j-1))(e:j-1≠1):P6 U a b (n+1) c i (j-1):=by
 obtain⟨_,d,g,f,k,l⟩:=h;exact⟨m,d,by lia,f,by lia,by lia⟩
theorem P6.mono{a b o:HQ HR}{n c i j:Nat}(h:P6 U a b n o i j)(l:c<=n):P6 U a b c o i j:=⟨h.m,h.hi,h.hj,h.ia,h.jb,Nat.le_trans (Nat.add_le_add_right (Nat.add_le_add_right l _) _) h.hn⟩
theorem P6.la{a b o:HQ HR}{n i j:Nat}(h:P6 U a b n o i j):i-1<a.size:=BI (Nat.sub_lt h.hi (GL)) h.ia
theorem P6.lb{a b o:HQ HR}{n i j:Nat}(h:P6 U a b n o i j):j-1<b.size:=BI (Nat.sub_lt (FZ h.hj) (GL)) h.jb
theorem P6.hj1{a b o:HQ HR}{n i j:Nat}(h:P6 U a b n o i j):1<=j:=DU h.hj
def zHj(U:KeyKind)(a b:HQ HR)(st:HV)(n:Nat)(c:A6 (HQ HR)×Nat×Nat×HQ HR×Nat)(d:HV):Prop:=Sm st d/\∃i j o e,c =(none,i,j,o,e)/\P6 U a b n o i j
def QS(U:KeyKind)(a b:HQ HR)(st:HV)(n:Nat)(c:A6 (HQ HR)×Nat×Nat×HQ HR×Nat×Nat)(d:HV):Prop:=Sm st d/\∃i j o e f,c =(none,i,j,o,e,f)/\P6 U a b n o i j
def RH(U:KeyKind)(a b:HQ HR)(st:HV)(n:Nat)(c:A6 (HQ HR)×Nat×Nat×HQ HR×Nat×Nat×Nat)(d:HV):Prop:=Sm st d/\∃i j o e f g,c =(none,i,j,o,e,f,g)/\P6 U a b n o i j
theorem QS.mk{a b o:HQ HR}{st c:HV}{n i j d e:Nat}(f:Sm st c)(h:P6 U a b n o i j):QS U a b st n (none,i,j,o,d,e) c:=⟨f,_,_,_,_,_,rfl,h⟩
theorem RH.mk{a b o:HQ HR}{st c:HV}{n i j d e f:Nat}(g:Sm st c)(h:P6 U a b n o i j):RH U a b st n (none,i,j,o,d,e,f) c:=⟨g,_,_,_,_,_,_,rfl,h⟩
theorem Kc(C:SL prog w A s U kd){st:HV}{a b:HQ HR}{Q:HQ HR->HV->Prop}(hk:kindOf st=kd)(P:NK U a b)
  (h:∀r f,Sm st f->Rm U a b r->Q r f):wpS (model prog w) A E s (Du a b) Q st:=by
 rw[Js];have hna:=P.na;have hnb:=P.nb;obtain⟨b0,V⟩:=Y9 (a:=a) (i:=a.size-1) (Nat.sub_lt hna GL);have m0:P_ U a b (#[]:HQ HR) a.size b.size:=⟨by simp,List.Pairwise.nil,λx hx=>absurd hx (by simp),λx hx=>absurd hx (by simp)⟩;have m1:P_ U a b (#[b0]:HQ HR) (a.size-1) b.size:=by
  have:=P.hpA m0 hna V (λz J=>P.last b0 V z (BQ J));simpa using this
 apply Qk (x0:=b0) (λR z=>wpS_lift (DT ⟨rfl,z⟩)) (λR z=>E7 V z)
 case h1=>exact λN=>wpS_pure (h _ _ (Sm.refl _) (P.hdA m1 (eq_of_beq N)))
 case h2=>exact λ_ O=>wpS_pure (h _ _ (Sm.refl _) (P.hfB m1 (eq_of_beq O)))
 intro N O;have N:¬a.size-1=0:=λz=>N (beq_iff_eq.mpr z);have O:¬b.size=1:=λz=>O (beq_iff_eq.mpr z);have p1:P6 U a b 1 #[b0] (a.size-1) b.size:=⟨m1,by lia,by lia,by lia,by lia,by lia⟩;refine wpS_mono (wpS_forRange (I:=λx=>zHj U a b st (x+1)) (Q:=MR U a b st) ?st ?en ⟨Sm.refl _,_,_,_,_,rfl,p1⟩) ?po
 case po =>
  rintro⟨c1,c2⟩ f ⟨sm,r,e,hr⟩;cases e;exact wpS_pure (h r f sm hr)
 case en =>
  rintro c f ⟨sm,i,j,o,mg,rfl,p⟩;obtain⟨_,h1,h2,_,_,h3⟩:=p;exfalso;lia
 case st =>
  rintro x c f _ hx ⟨sm,i,j,o,mg,rfl,p⟩;refine wpS_bind (wpS_mono (wpS_forRange (I:=λ_=>QS U a b st (x+1)) (Q:=λc f=>MR U a b st c f\/QS U a b st (x+1) c f) ?st1 ?en1 (QS.mk sm p)) ?po1)
  case en1=>exact λc st2 z=>.inr z
  case st1 =>
   rintro x2 c st2 _ _ ⟨l,i',j',o,ac,bc,rfl,M⟩;obtain⟨bj,n⟩:=Y9 (a:=b) (i:=j' - 1) M.lb;obtain⟨ai,B⟩:=Y9 (a:=a) (i:=i' - 1) M.la;refine wpS_bind (E7 n (wpS_bind (E7 B (wpS_bind (Iv C (l.knd hk) (P.kb _ _ n) (P.ka _ _ B) ?_)))));refine U5 (λW=>wpS_bind (E7 B ?_)) λW=>wpS_bind (E7 n ?_)
   .have m3:=P.hpA M.m M.hi B λz J=>I_ (Ep P.sb (IA.mp n) z J) (KeyOrd.kle_of_klt W);refine O0 (λH=>wpS_pure (.inl (MR.mk l (P.hdA m3 H)))) λH=>?_;have F:=(M.putA m3 H).mono (CQ _);exact U5 (λ_=>wpS_pure (.inr (QS.mk l F))) λ_=>wpS_pure (QS.mk l F)
   .have m3:=P.hpB M.m M.hj1 n λz J=>I_ (Ep P.sa (IA.mp B) z J) (show le U ai bj from DG.mpr W);refine O0 (λH=>wpS_pure (.inl (MR.mk l (P.hfB m3 H)))) λH=>?_;have F:=(M.putB m3 H).mono (CQ _);exact U5 (λ_=>wpS_pure (.inr (QS.mk l F))) λ_=>wpS_pure (QS.mk l F)
  case po1 =>
   rintro⟨c1,c2⟩ st2 (⟨l,r,e,hr⟩ | ⟨l,i2,j2,o2,ac,bc,e,M⟩)
   .cases e;exact wpS_pure (MR.mk l hr)
   .cases e;refine wpS_bind (wpS_lift (DT ⟨rfl,?_⟩));refine wpS_bind (wpS_mono (wpS_forRange (I:=λx3=>RH U a b st (x+1+x3)) (Q:=λc f=>MR U a b st c f\/RH U a b st (x+1+1) c f) ?st2 ?en2 (RH.mk l M)) ?po2)
    case en2 =>
     rintro c st3 ⟨G,i',j',o',mg',ac,bc,rfl,F⟩;exact .inr (RH.mk G (F.mono (by lia)))
    case po2 =>
     rintro⟨c1,c2⟩ st3 (⟨G,r,e,hr⟩ | ⟨G,i',j',o',mg',ac,bc,e,F⟩)
     .cases e;exact wpS_pure (MR.mk G hr)
     .cases e;refine wpS_bind (Y3 G λst4 D=>?_);exact wpS_pure ⟨D,_,_,_,_,rfl,F⟩
    case st2 =>
     rintro x3 c st3 _ _ ⟨G,i3,j3,o3,mg3,ac3,bc3,rfl,F⟩;obtain⟨bj,n⟩:=Y9 (a:=b) (i:=j3-1) F.lb;apply Ri (mg3-1) (y:=mg3)
     case e=>exact rfl
     intro g;refine wpS_bind (Y3 G λst4 D=>?_);refine wpS_bind (E7 n (wpS_bind (t4 C (D.knd hk) (P.kb _ _ n) (by rw[EH];exact F.ia) P.ka (λu v p q X _ H e2=>z8 P.sa (DY X _) (IA.mp H) (IA.mp e2)) (Nat.sub_lt F.hi GL) λk Y k1 k2=>?_)));dsimp only;have m4:P_ U a b (o3 ++(a.extract k i3).reverse) k j3:=P.heA F.m Y λy hy z J=>by
      obtain⟨t,Z,ht2,e⟩:=Xf hy;exact I_ (Ep P.sb (IA.mp n) z J) (KeyOrd.kle_of_klt (Ay (k2 t y Z ht2 (by rw[EH];exact IA.mpr e))))
     have S:∀z∈a.toList.take k,le U z bj:=λz J=>by
      obtain⟨t,ht,_,e⟩:=On J;exact Dy (k1 t z ht (by rw[EH];exact IA.mpr e))
     generalize hd:i3-k=d;apply El (o:=o3) (i:=i3) (λo i=>P6 U a b (x+1+x3) o i j3/\∀z∈a.toList.take i,le U z bj)
     .rintro o4 i4 ⟨p4,S⟩;refine wpS_bind (E7 n ?_);have m5:=P.hpB p4.m p4.hj1 n S;refine O0 (λe3=>wpS_pure (.inl (MR.mk D (P.hfB m5 e3)))) λe3=>?_;have p5:=p4.putB m5 e3;generalize o4.push bj=o5 at m5 p5⊢;generalize j3-1=j5 at m5 p5⊢;obtain⟨ai,B⟩:=Y9 (a:=a) (i:=i4-1) p5.la;refine wpS_bind (E7 B (wpS_bind (t4 C (D.knd hk) (P.ka _ _ B) (by rw[EH];exact p5.jb) P.kb (λu v p q X _ H e2=>z8 P.sb (DY X _) (IA.mp H) (IA.mp e2)) (Nat.sub_lt p5.hj1 GL) λk' K k1' k2'=>?_)));dsimp only;have T:∀z∈b.toList.take k',le U z ai:=λz J=>by
       obtain⟨t,ht,_,e⟩:=On J;exact KeyOrd.kle_of_klt (Jm (k1' t z ht (by rw[EH];exact IA.mpr e)))
      generalize hd':j5-k'=d';apply El (o:=o5) (i:=j5) (λo j=>P6 U a b (x+1+x3+1) o i4 j/\∀z∈b.toList.take j,le U z ai)
      .rintro o6 j6 ⟨p6,T⟩;refine wpS_bind (E7 B ?_);have m7:=P.hpA p6.m p6.hi B T;refine O0 (λe5=>wpS_pure (.inl (MR.mk D (P.hdA m7 e5)))) λe5=>?_;have p7:=p6.putA m7 e5;exact U5 (λ_=>wpS_pure (.inr (RH.mk D (p7.mono (by lia))))) λ_=>wpS_pure (RH.mk D (p7.mono (by lia)))
      .intro hF L;have m6:P_ U a b (o5 ++(b.extract k' j5).reverse) i4 k':=P.heB m5 K λy hy z J=>by
        obtain⟨t,Z,ht2,e⟩:=Xf hy;exact I_ (Ep P.sa (IA.mp B) z J) (Dw (k2' t y Z ht2 (by rw[EH];exact IA.mpr e)))
       obtain⟨_,h1,h2,h3,h4,h5⟩:=p5;exact O0 (λe4=>wpS_pure (.inl (MR.mk D (P.hfB m6 e4)))) λe4=>O0 (λe5=>wpS_pure (.inl (MR.mk D (P.hdB m6 e5)))) λe5=>hF _ _ ⟨⟨m6,h1,by lia,h3,Nat.le_trans K h4,by lia⟩,T⟩
      .intro L;have z0:k'=j5:=Nat.le_antisymm K (Nat.le_of_sub_eq_zero (hd'.trans (FN L)));subst z0;exact⟨p5,T⟩
     .intro hF L;obtain⟨_,h1,h2,h3,h4,h5⟩:=F;exact O0 (λH=>wpS_pure (.inl (MR.mk D (P.hdA m4 H)))) λH=>hF _ _ ⟨⟨m4,by lia,h2,Nat.le_trans Y h3,h4,by lia⟩,S⟩
     .intro L;have z0:k=i3:=Nat.le_antisymm Y (Nat.le_of_sub_eq_zero (hd.trans (FN L)));subst z0;exact⟨F,S⟩
end
section
variable{prog:Cv}{w:HS}{A:HZ}{E:A1->A5->Prop}{s:A5}{U:KeyKind}{kd:JT}
def JM(l:A0 HR)(lo n:Nat):A0 HR:=(l.drop lo).take n
theorem Qi(m:A0 HR)(lo:Nat):∀(n:Nat) (a:HQ HR),lo+n+m.length<=a.size ->
  ((m.zipIdx n).foldl (λa (x:HR×Nat)=>a.setIfInBounds (lo+x.2) x.1) a).size=a.size /\
  ∀t:Nat,((m.zipIdx n).foldl (λa (x:HR×Nat)=>a.setIfInBounds (lo+x.2) x.1) a)[t]?=if lo+n<=t/\t<lo+n+m.length then m[t-(lo+n)]? else a[t]?:=by
 induction m with
 | nil =>
  intro n a h;refine⟨rfl,λt=>?_⟩;rw[AS (by simp only[GM];lia)];rfl
 | cons p m d =>
  intro n a h;rw[BK]at h;rw[List.zipIdx_cons,List.foldl_cons];obtain⟨e,f⟩:=d (n+1) (a.setIfInBounds (lo+n) p) (by rw[GI];lia);refine⟨e.trans GI,λt=>?_⟩;rw[f t,BK];by_cases b:lo+n=t
  .subst b;rw[AS (by lia),AY (by lia),Array.getElem?_setIfInBounds_self_of_lt (by lia),Nat.sub_self];rfl
  .by_cases c:lo +(n+1)<=t/\t<lo +(n+1)+m.length
   .rw[AY c,AY (by lia),show t-(lo+n) =(t-(lo +(n+1)))+1 by lia,List.getElem?_cons_succ]
   .rw[AS c,AS (by lia),Array.getElem?_setIfInBounds_ne b]
theorem Cp(m:A0 HR)(lo:Nat)(a:HQ HR)(h:lo+m.length<=a.size) :
  (m.zipIdx.foldl (λa (x:HR×Nat)=>a.setIfInBounds (lo+x.2) x.1) a).toList=a.toList.take lo++m++a.toList.drop (lo+m.length):=by
 obtain⟨e,c⟩:=Qi m lo 0 a (by lia);refine FD λt=>?_;rw[BN,c t];have b:(a.toList.take lo).length=lo:=by rw[AO,AX];lia
 by_cases d:t<lo
 .rw[AS (by lia),BF,ED (by lia),DD d,BN]
 .by_cases f:t<lo+m.length
  .rw[AY (by lia),ED (by rw[AW];lia),DV (by lia),b];rfl
  .rw[AS (by lia),DV (by rw[AW];lia),AW,b,FO,BN];congr 1;lia
theorem Rj(l:A0 HR)(lo n:Nat):l=l.take lo++JM l lo n++l.drop (lo+n):=by
 unfold JM;rw[BF,<-EU,BZ,BZ]
theorem Km(l:A0 HR)(lo n m:Nat):JM l lo (n+m)=JM l lo n++JM l (lo+n) m:=by
 unfold JM;rw[List.take_add,EU]
structure KZ(U:KeyKind)(l l':A0 HR)(lo n:Nat):Prop where
 perm:l'.Perm l
 front:l'.take lo=l.take lo
 back:l'.drop (lo+n)=l.drop (lo+n)
theorem KZ.refl(l:A0 HR)(lo n:Nat):KZ U l l lo n:=⟨List.Perm.refl _,rfl,rfl⟩
theorem KZ.seg_front{l a:A0 HR}{lo n:Nat}(h:KZ U l a lo n){u m:Nat}(b:u+m<=lo):JM a u m=JM l u m:=by
 have:∀x:A0 HR,JM x u m =((x.take lo).drop u).take m:=λx=>by
  unfold JM;rw[F_,List.take_take,ER (by lia)]
 rw[this,this,h.front]
theorem KZ.seg_back{l a:A0 HR}{lo n:Nat}(h:KZ U l a lo n){u m:Nat}(b:lo+n<=u):JM a u m=JM l u m:=by
 have:∀x:A0 HR,JM x u m =((x.drop (lo+n)).drop (u-(lo+n))).take m:=λx=>by
  unfold JM;rw[EU,show lo+n +(u-(lo+n))=u by lia]
 rw[this,this,h.back]
theorem KZ.of{l z:A0 HR}{lo n:Nat}(a:z.Perm (JM l lo n))(d:lo+n<=l.length):KZ U l (l.take lo++z++l.drop (lo+n)) lo n/\JM (l.take lo++z++l.drop (lo+n)) lo n=z:=by
 have b:(l.take lo).length=lo:=by rw[AO];lia
 have c:z.length=n:=by
  rw[a.length_eq];unfold JM;rw[AO,CI];lia
 refine⟨⟨?_,?_,?_⟩,?_⟩
 .conv=>rhs;rw[Rj l lo n]
  exact DJ _ (DF _ a)
 .rw[BF,FL (by lia),CT (by lia)]
 .rw[List.drop_append,ET (by rw[AW];lia),List.nil_append,AW,b,c,Nat.sub_self,DR]
 .unfold JM;rw[BF,List.drop_append,ET (by lia),List.nil_append,b,Nat.sub_self,DR,FL (by lia),CT (by lia)]
structure St(U:KeyKind)(kd:JT)(a₀:HQ HR)(st:HV):Prop where
 perm:(arrOf st).toList.Perm a₀.toList
 kind:kindOf st=kd
 failed:failedOf st=none
theorem St.size{a₀:HQ HR}{st:HV}(h:St U kd a₀ st):(arrOf st).size=a₀.size:=by
 have:=h.perm.length_eq;simpa using this
theorem St.has{a₀:HQ HR}{st:HV}(h:St U kd a₀ st)(b:KeysOf U a₀)(i:Nat)(p:HR)(e:(arrOf st)[i]?=some p):SY U p :=
 b p (h.perm.mem_iff.mp (AM (IA.mp e)))
theorem P4{l:A0 HR}{lo n t:Nat}(a:t<n):(JM l lo n)[t]?=l[lo+t]?:=by
 unfold JM;rw[DD a,FO]
theorem Ks(i:Nat):mergeAt' i =(do
  let u <-get
  let(some (b,c,f),some (e,d,_)):=((pendingOf u)[i]?,(pendingOf u)[i+1]?) | unsupported "internal:list.sort.pending"
  set (setPending u (((pendingOf u).setIfInBounds i (b,c+d,f)).eraseIdxIfInBounds (i+1)))
  let some k <-V1 false (<-elem' (arrOf u) e) (arrOf u) b c 0 | return false
  let(b,c):=(b+k,c-k)
  if c == 0 then return true
  let some d <-V1 true (<-elem' (arrOf u) (b+c-1)) (arrOf u) e d (d-1) | return false
  if d == 0 then return true
  let x:=(arrOf u).extract b e
  let y:=(arrOf u).extract e (e+d)
  let g <-if c<=d then Eb x y else Du x y
  modify λv=>setArr v (g.toList.zipIdx.foldl (λa (z:HR×Nat)=>a.setIfInBounds (b+z.2) z.1) (arrOf v))
  return(failedOf (<-get)).isNone):=rfl
theorem Zf{st st2:HV}{Q:PUnit->HV->Prop}(h:Q ⟨⟩ st2):wpS (model prog w) A E s (set st2:StateT HV Sem PUnit) Q st:=by
 unfold wpS;rw[StateT.run_set];exact AE ⟨rfl,h⟩
theorem Jv(C:SL prog w A s U kd){a₀:HQ HR}(L:KeysOf U a₀){st:HV}{i b c pw sb f pw2:Nat}{Q:Bool->HV->Prop}(j:St U kd a₀ st)
  (hi:(pendingOf st)[i]?=some (b,c,pw)) (hj:(pendingOf st)[i+1]?=some (sb,f,pw2)) (hsb:sb=b+c) (hsz:sb+f<=a₀.size) (hna:1<=c) (hnb:1<=f)
  (N:KM U (JM (arrOf st).toList b c)) (O:KM U (JM (arrOf st).toList sb f))
  (h:∀n,St U kd a₀ n->KZ U (arrOf st).toList (arrOf n).toList b (c+f)->KM U (JM (arrOf n).toList b (c+f)) ->
   pendingOf n =((pendingOf st).setIfInBounds i (b,c+f,pw)).eraseIdxIfInBounds (i+1)->Q true n):wpS (model prog w) A E s (mergeAt' i) Q st:=by
 subst hsb;have hL:(arrOf st).toList.length=a₀.size:=by rw[AX];exact j.size
 have hsz':=j.size;rw[Ks];refine wpS_bind (wpS_get ?_);rw[hi,hj];dsimp only;refine wpS_bind (Zf ?_);obtain⟨R,D⟩:=Y9 (a:=arrOf st) (i:=b+c) (by lia);have S:∀u v p q,u<=v->v<c->(arrOf st)[b+u]?=some p->(arrOf st)[b+v]?=some q->le U p q:=λu v p q H hv T F =>
  z8 N H (by rw[P4 (by lia)];exact IA.mp T) (by rw[P4 hv];exact IA.mp F)
 have V:∀u v p q,u<=v->v<f->(arrOf st)[b+c+u]?=some p->(arrOf st)[b+c+v]?=some q->le U p q:=λu v p q H hv T F =>
  z8 O H (by rw[P4 (by lia)];exact IA.mp T) (by rw[P4 hv];exact IA.mp F)
 refine wpS_bind (E7 D (wpS_bind (t4 C j.kind (j.has L _ _ D) (by lia) (j.has L) S (by lia) λk hk1 k1 k2=>?_)));dsimp only;have W:∀z∈JM (arrOf st).toList (b+c) f,le U R z:=λz I=>by
  obtain⟨t,l,e⟩:=Dl I;exact V 0 t R z (by lia) l D (IA.mpr e)
 have xk:∀x∈(JM (arrOf st).toList b c).take k,le U x R:=λx hx=>by
  obtain⟨t,l,o,e⟩:=On hx;unfold JM at o;rw[AO]at o;rw[P4 (by lia)]at e;exact Dy (k1 t x l (IA.mpr e))
 have kx:∀x∈(JM (arrOf st).toList b c).drop k,le U R x:=λx hx=>by
  obtain⟨t,l,e⟩:=Jp hx;unfold JM at l;rw[AO]at l;rw[P4 (by lia)]at e;exact KeyOrd.kle_of_klt (Ay (k2 (k+t) x (by lia) (by lia) (IA.mpr e)))
 have X:St U kd a₀ (setPending st (((pendingOf st).setIfInBounds i (b,c+f,pw)).eraseIdxIfInBounds (i+1))):=⟨j.perm,j.kind,j.failed⟩;by_cases Y:c-k=0
 .rw[AY (by simpa using Y)];have hkk:k=c:=by lia
  refine wpS_pure (h _ X (KZ.refl _ _ _) ?_ rfl);show KM U (JM (arrOf st).toList b (c+f));rw[Km];refine CP.mpr ⟨N,O,λx hx y hy=>I_ (xk x ?_) (W y hy)⟩;rw[CT (by unfold JM;rw[AO];lia)];exact hx
 rw[AS (by simpa using Y)];obtain⟨M,J⟩:=Y9 (a:=arrOf st) (i:=b+k +(c-k)-1) (by lia);refine wpS_bind (E7 J (wpS_bind (t4 C X.kind (j.has L _ _ J) (by lia) (j.has L) V (by lia) λg Z k1' k2'=>?_)));dsimp only;have G:(arrOf st)[b +(c-1)]?=some M:=by rw[show b +(c-1)=b+k +(c-k)-1 by lia];exact J
 have K:∀x∈JM (arrOf st).toList b c,le U x M:=λx hx=>by
  obtain⟨t,l,e⟩:=Dl hx;exact S t (c-1) x M (by lia) (by lia) (IA.mpr e) G
 have yk:∀y∈(JM (arrOf st).toList (b+c) f).take g,le U y M:=λy hy=>by
  obtain⟨t,l,o,e⟩:=On hy;unfold JM at o;rw[AO]at o;rw[P4 (by lia)]at e;exact KeyOrd.kle_of_klt (Jm (k1' t y l (IA.mpr e)))
 have ky:∀y∈(JM (arrOf st).toList (b+c) f).drop g,le U M y:=λy hy=>by
  obtain⟨t,l,e⟩:=Jp hy;unfold JM at l;rw[AO]at l;rw[P4 (by lia)]at e;exact Dw (k2' (g+t) y (by lia) (by lia) (IA.mpr e))
 by_cases B:g=0
 .rw[AY (by simpa using B)];refine wpS_pure (h _ X (KZ.refl _ _ _) ?_ rfl);show KM U (JM (arrOf st).toList b (c+f));rw[Km];refine CP.mpr ⟨N,O,λx hx y hy=>I_ (K x hx) (ky y ?_)⟩;rw[B,DR];exact hy
 rw[AS (by simpa using B)];have ex:((arrOf st).extract (b+k) (b+c)).toList =(JM (arrOf st).toList b c).drop k:=by
  rw[Jx];unfold JM;rw[F_,F_,EU];congr 1;lia
 have ey:((arrOf st).extract (b+c) (b+c+g)).toList =(JM (arrOf st).toList (b+c) f).take g:=by
  rw[En];unfold JM;rw[List.take_take,ER Z]
 have P:NK U ((arrOf st).extract (b+k) (b+c)) ((arrOf st).extract (b+c) (b+c+g)):=by
  refine⟨by rw[ex];exact N.sublist (FA _ _),by rw[ey];exact O.sublist (DQ _ _),λt p e=>?_,λt p e=>?_,?_,?_,λq e z I=>?_,λp e z I=>?_⟩
  .have m:=AM (IA.mp e);rw[ex]at m;obtain⟨u,_,F⟩:=Dl (DL m);exact j.has L _ p (IA.mpr F)
  .have m:=AM (IA.mp e);rw[ey]at m;obtain⟨u,_,F⟩:=Dl (BQ m);exact j.has L _ p (IA.mpr F)
  .rw[FP];lia
  .rw[FP];lia
  .have m:=IA.mp e;rw[ey,DD (by lia),P4 (by lia)]at m;have:q=R:=by
    have:=IA.mp D;rw[Nat.add_zero,this]at m;exact(CJ m).symm
   subst this;rw[ex]at I;exact kx z I
  .have m:=IA.mp e;rw[ex,FP,FO,P4 (by lia)]at m;have:p=M:=by
    have q:=IA.mp G;rw[show k +(min (b+c) (arrOf st).size-(b+k)-1)=c-1 by lia,q]at m;exact(CJ m).symm
   subst this;rw[ey]at I;exact yk z I
 have fin:∀(r:HQ HR) (d:HV),Sm (setPending st (((pendingOf st).setIfInBounds i (b,c+f,pw)).eraseIdxIfInBounds (i+1))) d->Rm U ((arrOf st).extract (b+k) (b+c)) ((arrOf st).extract (b+c) (b+c+g)) r ->
   Q (failedOf (setArr d (r.toList.zipIdx.foldl (λa (z:HR×Nat)=>a.setIfInBounds (b+k+z.2) z.1) (arrOf d)))).isNone (setArr d (r.toList.zipIdx.foldl (λa (z:HR×Nat)=>a.setIfInBounds (b+k+z.2) z.1) (arrOf d))):=by
  rintro r d ⟨q1,q2,q3,q4⟩ ⟨r1,r2⟩;rw[ex,ey]at r2;have hrl:r.toList.length =(c-k)+g:=by
   rw[r2.length_eq,AW];unfold JM;rw[CI,AO,AO,CI,AO,CI];lia
  have q2':arrOf d=arrOf st:=q2;have ef:failedOf (setArr d (r.toList.zipIdx.foldl (λa (z:HR×Nat)=>a.setIfInBounds (b+k+z.2) z.1) (arrOf d)))=none:=q4.trans j.failed;rw[ef];have el:=Cp r.toList (b+k) (arrOf d) (by rw[q2'];lia);have eq:(r.toList.zipIdx.foldl (λa (z:HR×Nat)=>a.setIfInBounds (b+k+z.2) z.1) (arrOf d)).toList =(arrOf st).toList.take b ++((JM (arrOf st).toList b c).take k++r.toList ++(JM (arrOf st).toList (b+c) f).drop g) ++(arrOf st).toList.drop (b +(c+f)):=by
   rw[el,q2',hrl];have T:(arrOf st).toList.take (b+k) =(arrOf st).toList.take b ++(JM (arrOf st).toList b c).take k:=by
    unfold JM;rw[List.take_add,List.take_take,ER hk1]
   have F:(arrOf st).toList.drop (b+k +(c-k+g)) =(JM (arrOf st).toList (b+c) f).drop g ++(arrOf st).toList.drop (b +(c+f)):=by
    unfold JM;rw[F_,EU,show b+k +(c-k+g)=b+c+g by lia]
    conv=>lhs;rw[<-BZ (f-g) ((arrOf st).toList.drop (b+c+g))]
    rw[EU,show b+c+g +(f-g)=b +(c+f) by lia]
   rw[T,F];simp only[BF]
  have hp:((JM (arrOf st).toList b c).take k++r.toList ++(JM (arrOf st).toList (b+c) f).drop g).Perm (JM (arrOf st).toList b (c+f)):=by
   rw[Km];have a1:((JM (arrOf st).toList b c).take k++r.toList ++(JM (arrOf st).toList (b+c) f).drop g).Perm ((JM (arrOf st).toList b c).take k ++((JM (arrOf st).toList b c).drop k ++(JM (arrOf st).toList (b+c) f).take g) ++(JM (arrOf st).toList (b+c) f).drop g) :=
    DJ _ (DF _ r2)
   refine a1.trans (List.Perm.of_eq ?_);rw[<-BF,BZ,BF,BZ]
  obtain⟨pa,ps⟩:=KZ.of (U:=U) hp (by rw[hL];lia);have hs:KM U ((JM (arrOf st).toList b c).take k++r.toList ++(JM (arrOf st).toList (b+c) f).drop g):=by
   refine CP.mpr ⟨CP.mpr ⟨N.sublist (DQ _ _),r1,λx hx y hy=>?_⟩,O.sublist (FA _ _),λx hx y hy=>?_⟩
   .rcases AH.mp (r2.mem_iff.mp hy)with hy | hy
    .exact I_ (xk x hx) (kx y hy)
    .exact I_ (xk x hx) (W y (BQ hy))
   .rcases AH.mp hx with hx | hx
    .exact I_ (K x (BQ hx)) (ky y hy)
    .rcases AH.mp (r2.mem_iff.mp hx)with hx | hx
     .exact I_ (K x (DL hx)) (ky y hy)
     .exact I_ (yk x hx) (ky y hy)
  refine h _ ⟨?_,q1.trans j.kind,q4.trans j.failed⟩ ?_ ?_ q3
  .show(r.toList.zipIdx.foldl (λa (z:HR×Nat)=>a.setIfInBounds (b+k+z.2) z.1) (arrOf d)).toList.Perm a₀.toList;rw[eq];exact pa.perm.trans j.perm
  .show KZ U (arrOf st).toList (r.toList.zipIdx.foldl (λa (z:HR×Nat)=>a.setIfInBounds (b+k+z.2) z.1) (arrOf d)).toList b (c+f);rw[eq];exact pa
  .show KM U (JM (r.toList.zipIdx.foldl (λa (z:HR×Nat)=>a.setIfInBounds (b+k+z.2) z.1) (arrOf d)).toList b (c+f));rw[eq,ps];exact hs
 by_cases hab:c-k<=g
 .rw[AY hab];refine wpS_bind (Ju C X.kind P λr d q r1=>?_);exact wpS_bind (wpS_modify (wpS_bind (wpS_get (wpS_pure (fin r d q r1)))))
 .rw[AS hab];refine wpS_bind (Kc C X.kind P λr d q r1=>?_);exact wpS_bind (wpS_modify (wpS_bind (wpS_get (wpS_pure (fin r d q r1)))))
end
section
variable{prog:Cv}{w:HS}{A:HZ}{E:A1->A5->Prop}{s:A5}{U:KeyKind}{kd:JT}{a₀:HQ HR}
theorem Vy{xs:HQ HR}{i:Nat}{p:HR}(h:xs[i]?=some p):KK U xs i=kk U p:=by unfold KK kk;rw[h]
def SI(U:KeyKind)(xs:HQ HR)(lo m:Nat):Prop:=∀i j,i<=j->j<m->U.kle (KK U xs (lo+i)) (KK U xs (lo+j))
def NI(U:KeyKind)(xs:HQ HR)(lo m:Nat):Prop:=∀i j,i<=j->j<m->U.kle (KK U xs (lo+j)) (KK U xs (lo+i))
theorem SI.sor{xs:HQ HR}{lo m:Nat}(h:SI U xs lo m):KM U (JM xs.toList lo m):=by
 refine List.pairwise_iff_getElem.mpr λi j a b c=>?_;unfold JM at a b;rw[AO]at a b;have d:xs[lo+i]?=some (JM xs.toList lo m)[i]:=by
  rw[IA,<-P4 (n:=m) (by lia)];exact AU _
 have e:xs[lo+j]?=some (JM xs.toList lo m)[j]:=by
  rw[IA,<-P4 (n:=m) (by lia)];exact AU _
 have:=h i j (by lia) (by lia);rw[Vy d,Vy e]at this;exact this
structure Lo(U:KeyKind)(kd:JT)(a₀:HQ HR)(st0:HV)(lo n:Nat)(st:HV):Prop where
 S:St U kd a₀ st
 pend:pendingOf st=pendingOf st0
 out:∀t,t<lo\/lo+n<=t->(arrOf st)[t]? =(arrOf st0)[t]?
theorem Lo.part{st0 st:HV}{lo n:Nat}(h:Lo U kd a₀ st0 lo n st)(c:St U kd a₀ st0):KZ U (arrOf st0).toList (arrOf st).toList lo n:=by
 refine⟨h.S.perm.trans c.perm.symm,FD λt=>?_,FD λt=>?_⟩
 .by_cases b:t<lo
  .rw[DD b,DD b,BN,BN];exact h.out t (.inl b)
  .rw[FY (by rw[AO];lia),FY (by rw[AO];lia)]
 .rw[FO,FO,BN,BN];exact h.out _ (.inr (by lia))
theorem Lo.mirror{st0 st:HV}{lo n i j:Nat}(h:Lo U kd a₀ st0 lo n st)(hi:lo<=i)(c:j<=lo+n)(d:lo+n<=a₀.size):Lo U kd a₀ st0 lo n (setArr st (mirror (arrOf st) i j ((j-i) / 2))):=by
 refine⟨⟨(Array.perm_iff_toList_perm.mp (mirror_perm _ _ _ _)).trans h.S.perm,h.S.kind,h.S.failed⟩,h.pend,λt b=>?_⟩;show(PyProof.Rows.mirror (arrOf st) i j ((j-i) / 2))[t]?=_;have:=h.S.size;rw[getElem?_mirror_all (by lia),AS (by lia)];exact h.out t b
theorem Q3(C:SL prog w A s U kd)(e:KeysOf U a₀){st:HV}(b:St U kd a₀ st){i j:Nat}{Q:A6 Bool->HV->Prop}(hi:i<a₀.size)(f:j<a₀.size)
  (h:Q (some (U.blt (KK U (arrOf st) i) (KK U (arrOf st) j))) st):wpS (model prog w) A E s (ltAt' i j) Q st:=by
 have:=b.size;obtain⟨p,c⟩:=Y9 (a:=arrOf st) (i:=i) (by lia);obtain⟨q,d⟩:=Y9 (a:=arrOf st) (i:=j) (by lia);rw[ltAt'_eq];refine wpS_bind (wpS_get ?_);refine wpS_bind (E7 c (wpS_bind (E7 d (Iv C b.kind (b.has e _ _ c) (b.has e _ _ d) ?_))));rw[Vy c,Vy d]at h;exact h
theorem UW{st:HV}{lo a b:Nat}{f:Nat->(A6 (A6 Nat)×Nat)->StateT HV Sem (ForInStep (A6 (A6 Nat)×Nat))}{Q:(A6 (A6 Nat)×Nat)->HV->Prop}
  (z:∀x n,1<=n->n<b->wpS (model prog w) A E s (f x (none,n)) (λr k=>k=st/\r=if U.blt (KK U (arrOf st) (lo+n)) (KK U (arrOf st) (lo+n-1))=true then .done (none,n)else .yield (none,n+1)) st)
  (C:1<=a) (o:a<=b) (B:SI U (arrOf st) lo a)
  (h:∀n,a<=n->n<=b->SI U (arrOf st) lo n->(n=b\/U.klt (KK U (arrOf st) (lo+n)) (KK U (arrOf st) (lo+n-1)))->Q (none,n) st):wpS (model prog w) A E s (forIn [a:b] (none,a) f) Q st:=by
 refine wpS_forRange (I:=λx c k=>k=st/\c =(none,x)/\SI U (arrOf st) lo x) ?_ ?_ ⟨rfl,rfl,B⟩
 .rintro x c k p q ⟨rfl,rfl,g⟩;refine wpS_mono (z x x (by lia) q) λr l ⟨e,m⟩=>?_;subst e;cases d:U.blt (KK U (arrOf l) (lo+x)) (KK U (arrOf l) (lo+x-1))
  .rw[d,AS BA]at m;subst m;refine⟨rfl,rfl,λi j t D=>?_⟩;by_cases u:j<x
   .exact g i j t u
   .have v:j=x:=by lia
    subst v;by_cases y:i=j
    .subst y;exact KeyOrd.kle_refl _
    .have:=g i (j-1) (by lia) (by lia);rw[show lo +(j-1)=lo+j-1 by lia]at this;exact KeyOrd.kle_trans this d
  .rw[d,AY rfl]at m;subst m;exact h x p (by lia) g (.inr d)
 .rintro c k ⟨rfl,rfl,g⟩;rw[show max a b=b by lia]at g⊢;exact h b o (Nat.le_refl _) g (.inl rfl)
theorem NI.step{xs e:HQ HR}{lo x:Nat}(l:1<=x)(f:∀k,KK U e k=KK U xs k)(g:NI U xs lo x)(h:U.kle (KK U xs (lo+x)) (KK U xs (lo+x-1))):NI U e lo (x+1):=by
 intro i j a m;rw[f,f];by_cases b:j<x
 .exact g i j a b
 .have c:j=x:=by lia
  subst c;by_cases d:i=j
  .subst d;exact KeyOrd.kle_refl _
  .have:=g i (j-1) (by lia) (by lia);rw[show lo +(j-1)=lo+j-1 by lia]at this;exact KeyOrd.kle_trans h this
abbrev DS:=A6 (A6 Nat)×Nat×Nat
theorem zDg{st0 st:HV}{lo n d:Nat}(hsz:lo+d<=a₀.size){f:Nat->DS->StateT HV Sem (ForInStep DS)}{Q:DS->HV->Prop}
  (J:∀x n q b,1<=n->n<d->Lo U kd a₀ st0 lo d b->wpS (model prog w) A E s (f x (none,n,q)) (λr st2 =>
   if U.blt (KK U (arrOf b) (lo+n)) (KK U (arrOf b) (lo+n-1))=true then(st2=if q>0 then setArr b (mirror (arrOf b) (lo+n-(q+1)) (lo+n) ((lo+n-(lo+n-(q+1))) / 2))else b)/\r = .yield (none,n+1,0)
   else st2=b/\r=if U.blt (KK U (arrOf b) (lo+n-1)) (KK U (arrOf b) (lo+n))=true then .done (none,n,q)else .yield (none,n+1,q+1)) b)
  (h1:1<=n) (B:n<=d) (K:Lo U kd a₀ st0 lo d st) (L:NI U (arrOf st) lo n)
  (h:∀m q b,Lo U kd a₀ st0 lo d b->n<=m->m<=d->NI U (arrOf b) lo m->q+1<=m->(∀i,m-(q+1)<=i->i<m->KK U (arrOf b) (lo+i)=KK U (arrOf b) (lo+m-1))->Q (none,m,q) b) :
  wpS (model prog w) A E s (forIn [n:d] (none,n,0) f) Q st:=by
 refine wpS_forRange (I:=λx c b=>∃q,c =(none,x,q)/\Lo U kd a₀ st0 lo d b/\NI U (arrOf b) lo x/\q+1<=x /\
   (∀i,x-(q+1)<=i->i<x->KK U (arrOf b) (lo+i)=KK U (arrOf b) (lo+x-1))) ?_ ?_ ⟨0,rfl,K,L,by lia,λi h1 N=>by congr 1;lia⟩
 .rintro x c b C D ⟨q,rfl,j,l,y,p⟩;have M:=j.S.size;refine wpS_mono (J x x q b (by lia) D j) λr st2 z=>?_;cases g:U.blt (KK U (arrOf b) (lo+x)) (KK U (arrOf b) (lo+x-1))
  .rw[g,AS BA]at z;obtain⟨e,t⟩:=z;subst e;cases o:U.blt (KK U (arrOf st2) (lo+x-1)) (KK U (arrOf st2) (lo+x))
   .rw[o,AS BA]at t;subst t;have u:KK U (arrOf st2) (lo+x)=KK U (arrOf st2) (lo+x-1):=KeyOrd.kle_antisymm o g;refine⟨q+1,rfl,j,NI.step (by lia) (λ_=>rfl) l o,by lia,λi F G=>?_⟩;rw[show lo +(x+1)-1=lo+x by lia];by_cases H:i=x
    .subst H;rfl
    .rw[u];exact p i (by lia) (by lia)
   .rw[o,AY rfl]at t;subst t;exact h x q st2 j C (by lia) l y p
  .rw[g,AY rfl]at z;obtain⟨e,t⟩:=z;subst t;have o:U.kle (KK U (arrOf b) (lo+x)) (KK U (arrOf b) (lo+x-1)):=KeyOrd.kle_of_klt g;by_cases v:q>0
   .rw[AY v]at e;subst e;refine⟨0,rfl,j.mirror (by lia) (by lia) hsz,NI.step (by lia) (KK_mirror_equal (by lia) λk F G=>?_) l o,by lia,λi F G=>by congr 1;lia⟩;have:=p (k-lo) (by lia) (by lia);rw[show lo +(k-lo)=k by lia]at this;exact this
   .rw[AS v]at e;subst e;exact⟨0,rfl,j,NI.step (by lia) (λ_=>rfl) l o,by lia,λi F G=>by congr 1;lia⟩
 .rintro c b ⟨q,rfl,j,l,y,p⟩;rw[show max n d=d by lia]at l y p⊢;exact h d q b j B (Nat.le_refl _) l y p
theorem NI.turn{xs:HQ HR}{lo n:Nat}(a:lo+n<=xs.size)(h:NI U xs lo n):SI U (mirror xs lo (lo+n) ((lo+n-lo) / 2)) lo n:=by
 intro i j b c;rw[KK_mirror a,KK_mirror a,AY (by lia),AY (by lia)];have:=h (n-1-j) (n-1-i) (by lia) (by lia);rw[show lo +(n-1-i)=lo +(lo+n)-1-(lo+i) by lia,show lo +(n-1-j)=lo +(lo+n)-1-(lo+j) by lia]at this;exact this
theorem Hs(C:SL prog w A s U kd)(D:KeysOf U a₀){st:HV}{lo c:Nat}{Q:A6 Nat->HV->Prop}(X:St U kd a₀ st)(hsz:lo+c<=a₀.size)(h1:1<=c)
  (h:∀m b,Lo U kd a₀ st lo c b->1<=m->m<=c->SI U (arrOf b) lo m->Q (some m) b):wpS (model prog w) A E s (countRun' lo c) Q st:=by
 have Y:Lo U kd a₀ st lo c st:=⟨X,rfl,λ_ _=>rfl⟩;rw[countRun'_eq];dsimp only;refine wpS_bind (UW (U:=U) (lo:=lo) (λx n G H=>?_) (Nat.le_refl 1) h1 (λi j p P=>by have:i=j:=(by lia);subst this;exact KeyOrd.kle_refl _) λn R T F Z=>?_)
 .dsimp only;refine wpS_bind (Q3 C D X (by lia) (by lia) ?_);dsimp only;cases U.blt (KK U (arrOf st) (lo+n)) (KK U (arrOf st) (lo+n-1))
  .exact wpS_pure ⟨rfl,rfl⟩
  .exact wpS_pure ⟨rfl,rfl⟩
 dsimp only;by_cases I:n=c
 .rw[AY (by simpa using I)];exact wpS_pure (h n st Y R T F)
 rw[AS (by simpa using I)];have V:U.klt (KK U (arrOf st) (lo+n)) (KK U (arrOf st) (lo+n-1)):=Z.resolve_left I;have hz:=X.size;by_cases W:n>1
 .rw[AY W];refine wpS_bind (Q3 C D X (by lia) (by lia) ?_);dsimp only;cases J:U.blt (KK U (arrOf st) lo) (KK U (arrOf st) (lo+n-1))with
  | true =>
   simp only[EG];exact wpS_pure (h n st Y R T F)
  | false =>
   simp only[BE,CN];have r:∀k,lo<=k->k<lo+n->KK U (arrOf st) k=KK U (arrOf st) (lo+n-1):=by
    intro k hk1 hk2;have a1:=F 0 (k-lo) (by lia) (by lia);have a2:=F (k-lo) (n-1) (by lia) (by lia);rw[Nat.add_zero,show lo +(k-lo)=k by lia]at a1;rw[show lo +(k-lo)=k by lia,show lo +(n-1)=lo+n-1 by lia]at a2;exact KeyOrd.kle_antisymm a2 (KeyOrd.kle_trans J a1)
   have K:=KK_mirror_equal (κ:=U) (xs:=arrOf st) (i:=lo) (j:=lo+n) (by lia) r;refine wpS_bind (wpS_reverse ?_);have L:=Y.mirror (i:=lo) (j:=lo+n) (by lia) (by lia) hsz;have hN:NI U (mirror (arrOf st) lo (lo+n) ((lo+n-lo) / 2)) lo (n+1):=by
    refine NI.step (by lia) K (λi j p P=>?_) (KeyOrd.kle_of_klt V);rw[r (lo+i) (by lia) (by lia),r (lo+j) (by lia) (by lia)];exact KeyOrd.kle_refl _
   refine wpS_bind (wpS_lift (DT ⟨rfl,?_⟩));refine wpS_bind (zDg (U:=U) (kd:=kd) (a₀:=a₀) (st0:=st) (lo:=lo) hsz (λx f q b G H t=>?_) (by lia) (by lia) L hN λm q b l hm1 u v y he=>?_)
   .dsimp only;refine wpS_bind (Q3 C D t.S (by lia) (by lia) ?_);dsimp only;cases U.blt (KK U (arrOf b) (lo+f)) (KK U (arrOf b) (lo+f - 1))
    .simp only[BE,CN];refine wpS_bind (Q3 C D t.S (by lia) (by lia) ?_);dsimp only;cases U.blt (KK U (arrOf b) (lo+f - 1)) (KK U (arrOf b) (lo+f))
     .exact wpS_pure ⟨rfl,rfl⟩
     .exact wpS_pure ⟨rfl,rfl⟩
    .simp only[EG];by_cases y:q>0
     .rw[AY y,AY y];exact wpS_bind (wpS_reverse (wpS_pure ⟨rfl,rfl⟩))
     .rw[AS y,AS y];exact wpS_pure ⟨rfl,rfl⟩
   .dsimp only;have hz3:=l.S.size;by_cases z:q>0
    .rw[AY z];refine wpS_bind (wpS_reverse (wpS_bind (wpS_reverse ?_)));have g:=l.mirror (i:=lo+m-(q+1)) (j:=lo+m) (by lia) (by lia) hsz;have d:=g.mirror (i:=lo) (j:=lo+m) (by lia) (by lia) hsz;have hz4:=g.S.size;have M:NI U (mirror (arrOf b) (lo+m-(q+1)) (lo+m) ((lo+m-(lo+m-(q+1))) / 2)) lo m:=by
      have K:=KK_mirror_equal (κ:=U) (xs:=arrOf b) (i:=lo+m-(q+1)) (j:=lo+m) (by lia) (λk G H=>by
       have:=he (k-lo) (by lia) (by lia);rw[show lo +(k-lo)=k by lia]at this;exact this)
      intro i j p P;rw[K,K];exact v i j p P
     have N:=M.turn (U:=U) (lo:=lo) (n:=m) (by rw[mirror_size];lia);refine wpS_bind (UW (U:=U) (lo:=lo) (λx f G H=>?_) (by lia) u N λO B e o _=>wpS_pure (h O _ d (by lia) e o));dsimp only;refine wpS_bind (Q3 C D d.S (by lia) (by lia) ?_);dsimp only;cases U.blt (KK U _ (lo+f)) (KK U _ (lo+f - 1))
     .exact wpS_pure ⟨rfl,rfl⟩
     .exact wpS_pure ⟨rfl,rfl⟩
    .rw[AS z];refine wpS_bind (wpS_reverse ?_);have d:=l.mirror (i:=lo) (j:=lo+m) (by lia) (by lia) hsz;have N:=v.turn (U:=U) (lo:=lo) (n:=m) (by lia);refine wpS_bind (UW (U:=U) (lo:=lo) (λx f G H=>?_) (by lia) u N λO B e o _=>wpS_pure (h O _ d (by lia) e o));dsimp only;refine wpS_bind (Q3 C D d.S (by lia) (by lia) ?_);dsimp only;cases U.blt (KK U _ (lo+f)) (KK U _ (lo+f - 1))
     .exact wpS_pure ⟨rfl,rfl⟩
     .exact wpS_pure ⟨rfl,rfl⟩
 .rw[AS W];have hn1':n=1:=by lia
  have L:=Y;have hN:NI U (arrOf st) lo (n+1):=by
   refine NI.step (by lia) (λ_=>rfl) (λi j p P=>?_) (KeyOrd.kle_of_klt V);have:i=j:=by lia
   subst this;exact KeyOrd.kle_refl _
  refine wpS_bind (wpS_lift (DT ⟨rfl,?_⟩));refine wpS_bind (zDg (U:=U) (kd:=kd) (a₀:=a₀) (st0:=st) (lo:=lo) hsz (λx f q b G H t=>?_) (by lia) (by lia) L hN λm q b l hm1 u v y he=>?_)
  .dsimp only;refine wpS_bind (Q3 C D t.S (by lia) (by lia) ?_);dsimp only;cases U.blt (KK U (arrOf b) (lo+f)) (KK U (arrOf b) (lo+f - 1))
   .simp only[BE,CN];refine wpS_bind (Q3 C D t.S (by lia) (by lia) ?_);dsimp only;cases U.blt (KK U (arrOf b) (lo+f - 1)) (KK U (arrOf b) (lo+f))
    .exact wpS_pure ⟨rfl,rfl⟩
    .exact wpS_pure ⟨rfl,rfl⟩
   .simp only[EG];by_cases y:q>0
    .rw[AY y,AY y];exact wpS_bind (wpS_reverse (wpS_pure ⟨rfl,rfl⟩))
    .rw[AS y,AS y];exact wpS_pure ⟨rfl,rfl⟩
  .dsimp only;have hz3:=l.S.size;by_cases z:q>0
   .rw[AY z];refine wpS_bind (wpS_reverse (wpS_bind (wpS_reverse ?_)));have g:=l.mirror (i:=lo+m-(q+1)) (j:=lo+m) (by lia) (by lia) hsz;have d:=g.mirror (i:=lo) (j:=lo+m) (by lia) (by lia) hsz;have hz4:=g.S.size;have M:NI U (mirror (arrOf b) (lo+m-(q+1)) (lo+m) ((lo+m-(lo+m-(q+1))) / 2)) lo m:=by
     have K:=KK_mirror_equal (κ:=U) (xs:=arrOf b) (i:=lo+m-(q+1)) (j:=lo+m) (by lia) (λk G H=>by
      have:=he (k-lo) (by lia) (by lia);rw[show lo +(k-lo)=k by lia]at this;exact this)
     intro i j p P;rw[K,K];exact v i j p P
    have N:=M.turn (U:=U) (lo:=lo) (n:=m) (by rw[mirror_size];lia);refine wpS_bind (UW (U:=U) (lo:=lo) (λx f G H=>?_) (by lia) u N λO B e o _=>wpS_pure (h O _ d (by lia) e o));dsimp only;refine wpS_bind (Q3 C D d.S (by lia) (by lia) ?_);dsimp only;cases U.blt (KK U _ (lo+f)) (KK U _ (lo+f - 1))
    .exact wpS_pure ⟨rfl,rfl⟩
    .exact wpS_pure ⟨rfl,rfl⟩
   .rw[AS z];refine wpS_bind (wpS_reverse ?_);have d:=l.mirror (i:=lo) (j:=lo+m) (by lia) (by lia) hsz;have N:=v.turn (U:=U) (lo:=lo) (n:=m) (by lia);refine wpS_bind (UW (U:=U) (lo:=lo) (λx f G H=>?_) (by lia) u N λO B e o _=>wpS_pure (h O _ d (by lia) e o));dsimp only;refine wpS_bind (Q3 C D d.S (by lia) (by lia) ?_);dsimp only;cases U.blt (KK U _ (lo+f)) (KK U _ (lo+f - 1))
    .exact wpS_pure ⟨rfl,rfl⟩
    .exact wpS_pure ⟨rfl,rfl⟩
theorem Lo.bubble{st0 st:HV}{lo n b d:Nat}(h:Lo U kd a₀ st0 lo n st)(h1:lo+d<=b)(h2:b<lo+n)(e:lo+n<=a₀.size):Lo U kd a₀ st0 lo n (setArr st (bubble (arrOf st) b d)):=by
 refine⟨⟨(Array.perm_iff_toList_perm.mp (bubble_perm _ _ _)).trans h.S.perm,h.S.kind,h.S.failed⟩,h.pend,λt c=>?_⟩;show(PyProof.Rows.bubble (arrOf st) b d)[t]?=_;have:=h.S.size;rw[getElem?_bubble (by lia) d (by lia),AS (by lia),AS (by lia)];exact h.out t c
theorem Cr(C:SL prog w A s U kd)(H:KeysOf U a₀){st0 st:HV}{lo g n v:Nat}{Q:Bool->HV->Prop}(J:Lo U kd a₀ st0 lo g st)(hsz:lo+g<=a₀.size)(V:n<=g)(K:v<=n)(L:SI U (arrOf st) lo v)
  (h:∀b,Lo U kd a₀ st0 lo g b->SI U (arrOf b) lo n->Q true b):wpS (model prog w) A E s (binarySort' lo n v) Q st:=by
 rw[binarySort'_eq];refine wpS_bind (wpS_mono (wpS_forRange (I:=λk c b=>c =(none,())/\Lo U kd a₀ st0 lo g b/\SI U (arrOf b) lo (min k n))
  (Q:=λc b=>c =(none,())/\Lo U kd a₀ st0 lo g b/\SI U (arrOf b) lo n) ?step ?fin ?init) ?post)
 case post =>
  rintro c b ⟨rfl,m,f⟩;exact wpS_pure (h b m f)
 case init =>
  refine⟨rfl,J,λi j y M=>?_⟩;by_cases B:v=0
  .have:i=j:=by lia
   subst this;exact KeyOrd.kle_refl _
  .exact L i j y (by lia)
 case fin =>
  rintro c b ⟨N,m,f⟩;refine⟨N,m,?_⟩
  rwa [show min (max (max v 1) n) n=n by lia]at f
 case step =>
  rintro k c b O P ⟨rfl,m,f⟩;rw[show min k n=k by lia]at f;dsimp only;refine wpS_bind (wpS_mono (wpS_forRange (I:=λx c d=>d=b/\∃l r,c =(none,l,r)/\l<=r/\r<=k/\r-l<=k-x /\
    (∀i,i<l->U.kle (KK U (arrOf b) (lo+i)) (KK U (arrOf b) (lo+k)))/\(∀i,r<=i->i<k->U.klt (KK U (arrOf b) (lo+k)) (KK U (arrOf b) (lo+i))))
   (Q:=λc d=>d=b/\∃l r,c =(none,l,r)/\l<=k /\
    (∀i,i<l->U.kle (KK U (arrOf b) (lo+i)) (KK U (arrOf b) (lo+k)))/\(∀i,l<=i->i<k->U.klt (KK U (arrOf b) (lo+k)) (KK U (arrOf b) (lo+i)))) ?istep ?ifin ?iinit) ?ipost)
  case iinit=>exact⟨rfl,0,k,rfl,by lia,by lia,by lia,λi W=>by lia,λi B G=>by lia⟩
  case ifin =>
   rintro c d ⟨rfl,l,r,rfl,D,u,F,o,p⟩;have:l=r:=by lia
   subst this;exact⟨rfl,l,l,rfl,u,o,p⟩
  case istep =>
   rintro x c d _ R ⟨rfl,l,r,rfl,D,u,F,o,p⟩;dsimp only;by_cases t:l ≥ r
   .rw[AY t];have:l=r:=by lia
    subst this;exact wpS_pure ⟨rfl,l,l,rfl,u,o,p⟩
   .rw[AS t];refine wpS_bind (Q3 C H m.S (by lia) (by lia) ?_);dsimp only;cases q:U.blt (KK U (arrOf d) (lo+k)) (KK U (arrOf d) (lo +(l+r) / 2))
    case true =>
     simp only[EG];refine wpS_pure ⟨rfl,l,(l+r) / 2,rfl,by lia,by lia,Yj (Nat.lt_of_not_le t) F,o,λi B G=>?_⟩;exact KeyOrd.klt_of_klt_of_kle q (f _ _ B G)
    case false =>
     simp only[BE,CN];refine wpS_pure ⟨rfl,(l+r) / 2+1,r,rfl,by lia,by lia,zAw (Nat.lt_of_not_le t) F,λi B=>?_,p⟩;exact KeyOrd.kle_trans (f i ((l+r) / 2) (by lia) (by lia)) (show U.kle _ _ from q)
  case ipost =>
   rintro c d ⟨rfl,l,r,rfl,T,o,p⟩;have X:=m.S.size;show wpS _ _ _ _ (do moveDown' (lo+k) (lo+l);pure (ForInStep.yield (none,()))) _ _;rw[moveDown'_eq];refine wpS_bind (wpS_modify (wpS_pure ⟨rfl,m.bubble (by lia) (by lia) hsz,?_⟩));rw[show min (k+1) n=k+1 by lia];intro i j y M;show U.kle (KK U (bubble (arrOf d) (lo+k) (lo+k-(lo+l))) (lo+i)) (KK U (bubble (arrOf d) (lo+k) (lo+k-(lo+l))) (lo+j));rw[KK_bubble (by lia) (by lia),KK_bubble (by lia) (by lia),show lo+k-(lo+k-(lo+l))=lo+l by lia];have e:∀z,1<=z->lo+z-1=lo +(z-1):=λz _=>by lia
   repeat' split
   all_goals first
    | (exfalso;lia)
    | exact KeyOrd.kle_refl _
    | exact o _ (by lia)
    | exact KeyOrd.kle_of_klt (p _ (by lia) (by lia))
    | exact f _ _ (by lia) (by lia)
    | (rw[e j (by lia)];exact KeyOrd.kle_of_klt (p _ (by lia) (by lia)))
    | (rw[e i (by lia)];exact o _ (by lia))
    | (rw[e j (by lia)];exact f _ _ (by lia) (by lia))
    | (rw[e i (by lia),e j (by lia)];exact f _ _ (by lia) (by lia))
    | (rw[e i (by lia)];exact f _ _ (by lia) (by lia))
end
abbrev Run:=Nat×Nat×Nat
def MX:A0 Run->Nat->Nat->Prop
 | [],a,b=>a=b
 | x::r,a,b=>x.1=a/\1<=x.2.1/\MX r (a+x.2.1) b
def MX.app:∀{i l2:A0 Run} {a b:Nat},MX (i++l2) a b↔∃c,MX i a c/\MX l2 c b
 | [],l2,a,b=>⟨λh=>⟨a,rfl,h⟩,λ⟨c,d,e⟩=>by have:a=c:=d;subst this;exact e⟩
 | x::r,l2,a,b=>by
  constructor
  .rintro⟨d,e,j⟩;obtain⟨c,f,g⟩:=MX.app.mp j;exact⟨c,⟨d,e,f⟩,g⟩
  .rintro⟨c,⟨d,e,f⟩,g⟩;exact⟨d,e,MX.app.mpr ⟨c,f,g⟩⟩
def MX.le:∀{l:A0 Run} {a b:Nat},MX l a b->a+l.length<=b
 | [],a,b,h=>by have:a=b:=h;subst this;simp
 | x::r,a,b,⟨d,e,c⟩=>by have:=MX.le c;rw[BK];lia
def MX.mem:∀{l:A0 Run} {a b:Nat} {x:Run},MX l a b->x∈l->a<=x.1/\x.1+x.2.1<=b
 | [],_,_,_,_,hx=>absurd hx (by simp)
 | y::r,a,b,x,⟨d,f,c⟩,hx=>by
  have g:=MX.le c;rcases A_.mp hx with e | hx
  .subst e;lia
  .have:=MX.mem c hx;lia
def zGm{l:A0 Run}{i:Nat}{x y:Run}(a:l[i]?=some x)(b:l[i+1]?=some y):l=l.take i++x::y::l.drop (i+2):=by
 obtain⟨c,rfl⟩:=AR.mp a;obtain⟨d,rfl⟩:=AR.mp b
 conv=>lhs;rw[<-BZ i l]
 rw[EB c,EB d]
def zFn{l:A0 Run}{i:Nat}{x y:Run}(z:Run)(a:l[i]?=some x)(b:l[i+1]?=some y):(l.set i z).eraseIdx (i+1)=l.take i++z::l.drop (i+2):=by
 obtain⟨d,_⟩:=AR.mp a;obtain⟨f,_⟩:=AR.mp b;have e:=zGm a b;have c:(l.take i).length=i:=by rw[AO];lia
 generalize l.take i=p at *;generalize l.drop (i+2)=q at *;subst e;rw[List.set_append_right _ _ (by lia),c,Nat.sub_self,List.eraseIdx_append_of_length_le (by lia),c,show i+1-i=1 by lia];rfl
section
variable{prog:Cv}{w:HS}{A:HZ}{E:A1->A5->Prop}{s:A5}{U:KeyKind}{kd:JT}{a₀:HQ HR}
structure RI(U:KeyKind)(kd:JT)(a₀:HQ HR)(lo:Nat)(st:HV):Prop where
 S:St U kd a₀ st
 cov:MX (pendingOf st).toList 0 lo
 sor:∀x∈(pendingOf st).toList,KM U (JM (arrOf st).toList x.1 x.2.1)
theorem Jg(C:SL prog w A s U kd)(I:KeysOf U a₀){st:HV}{lo i:Nat}{Q:Bool->HV->Prop}(R:RI U kd a₀ lo st)(J:lo<=a₀.size)(hi:i+1 <(pendingOf st).size)
  (h:∀b,RI U kd a₀ lo b->(pendingOf b).size+1 =(pendingOf st).size->KZ U (arrOf st).toList (arrOf b).toList 0 lo->Q true b):wpS (model prog w) A E s (mergeAt' i) Q st:=by
 obtain⟨⟨g,d,q⟩,u⟩:∃x,(pendingOf st)[i]?=some x:=⟨_,getElem?_pos _ i (by lia)⟩;obtain⟨⟨K,f,r⟩,n⟩:∃x,(pendingOf st)[i+1]?=some x:=⟨_,getElem?_pos _ (i+1) hi⟩;have j:(pendingOf st).toList[i]?=some (g,d,q):=by rw[BN];exact u
 have k:(pendingOf st).toList[i+1]?=some (K,f,r):=by rw[BN];exact n
 have e:=zGm j k;have c:=R.cov;rw[e]at c;obtain⟨v,B,L⟩:=MX.app.mp c;obtain⟨D,F,M,G,o⟩:=L;dsimp only at D F M G o;have N:=MX.le o;refine Jv C I R.S u n (by lia) (by lia) F G (R.sor _ (AM j)) (R.sor _ (AM k)) λb O p P T=>?_;have t:(pendingOf b).toList =(pendingOf st).toList.take i ++(g,d+f,q) ::(pendingOf st).toList.drop (i+2):=by
  rw[T,<-zFn (g,d+f,q) j k];simp
 refine h b ⟨O,?_,λx l=>?_⟩ ?_ ?_
 .rw[t];exact MX.app.mpr ⟨v,B,D,(by show 1<=d+f;lia),(by show MX _ (v +(d+f)) lo;rw[<-Nat.add_assoc];exact o)⟩
 .rw[t]at l;have m:∀y∈(pendingOf st).toList,(y.1+y.2.1<=g\/g +(d+f)<=y.1)->KM U (JM (arrOf b).toList y.1 y.2.1):=λy n ho=>by
   have:=R.sor y n;rcases ho with ho | ho
   .rw[p.seg_front ho];exact this
   .rw[p.seg_back ho];exact this
  rcases AH.mp l with hm | hm
  .have:=MX.mem B hm;exact m x (BQ hm) (.inl (by lia))
  .rcases A_.mp hm with hm | hm
   .subst hm;exact P
   .have:=MX.mem o hm;exact m x (DL hm) (.inr (by lia))
 .have:=congrArg List.length t;rw[AX,AW,BK,AO,CI,AX]at this;lia
 .have H:∀z:A0 HR,z.drop (0+lo) =(z.drop (g +(d+f))).drop (lo-(g +(d+f))):=λz=>by
   rw[EU];congr 1;lia
  exact⟨p.perm,rfl,by rw[H,H,p.back]⟩
theorem Ci{l:HQ Run}{a:Nat}:(l.modify (l.size-1) λx=>(x.1,x.2.1,a)).toList.map (λx:Run=>(x.1,x.2.1))=l.toList.map λx:Run=>(x.1,x.2.1):=by
 refine FD λt=>?_;rw[AG,AG,BN,BN,Array.getElem?_modify];split
 .cases l[t]?<;>rfl
 .rfl
theorem MX.congr:∀{l c:A0 Run} {a b:Nat},c.map (λx:Run=>(x.1,x.2.1))=l.map (λx:Run=>(x.1,x.2.1))->MX l a b->MX c a b
 | [],[],_,_,_,h=>h
 | [],_::_,_,_,e,_=>by simp at e
 | _::_,[],_,_,e,_=>by simp at e
 | x::r,y::n,a,b,e,⟨f,g,i⟩=>by
  rw[BP,BP]at e;obtain⟨j,k⟩:=List.cons.inj e;obtain⟨m,d⟩:=Prod.mk.inj j;exact⟨m.trans f,by rw[d];exact g,by rw[d];exact MX.congr k i⟩
theorem RI.congr{lo:Nat}{st:HV}(R:RI U kd a₀ lo st){p:HQ Run}(e:p.toList.map (λx:Run=>(x.1,x.2.1)) =(pendingOf st).toList.map λx:Run=>(x.1,x.2.1)):RI U kd a₀ lo (setPending st p):=by
 refine⟨⟨R.S.perm,R.S.kind,R.S.failed⟩,MX.congr e R.cov,λx b=>?_⟩;have:(x.1,x.2.1)∈(pendingOf st).toList.map λx:Run=>(x.1,x.2.1):=by
  rw[<-e];exact AI.mpr ⟨x,b,rfl⟩
 obtain⟨y,c,d⟩:=AI.mp this;obtain⟨f,g⟩:=Prod.mk.inj d;have:=R.sor y c;rw[f,g]at this;exact this
theorem Fd(C:SL prog w A s U kd)(v:KeysOf U a₀){st:HV}{Q:Unit->HV->Prop}(hS:St U kd a₀ st)(hp:pendingOf st = #[])
  (h:∀d,St U kd a₀ d->KM U (arrOf d).toList->Q () d):wpS (model prog w) A E s sortRuns' Q st:=by
 rw[sortRuns'_eq];refine wpS_bind (wpS_get ?_);dsimp only;have hz:=hS.size;rw[hz];generalize minRun' a₀.size a₀.size 0=B;refine wpS_bind (wpS_mono (wpS_forRange (I:=λx c d=>∃lo,c =(none,lo)/\RI U kd a₀ lo d/\lo<=a₀.size/\min x a₀.size<=lo)
  (Q:=λc d=>∃lo,c =(none,lo)/\RI U kd a₀ lo d/\lo=a₀.size) ?st ?en ⟨0,rfl,⟨hS,by rw[hp];rfl,λx K=>by rw[hp]at K;exact absurd K (by simp)⟩,BR _,by lia⟩) ?po)
 case en =>
  rintro c d ⟨lo,rfl,R,P,h2⟩;exact⟨lo,rfl,R,by lia⟩
 case po =>
  rintro c d ⟨lo,rfl,R,rfl⟩;dsimp only;refine wpS_bind (wpS_mono (wpS_forRange (I:=λx c d=>c =(none,())/\RI U kd a₀ a₀.size d/\(pendingOf d).size+x<=a₀.size+1)
   (Q:=λc d=>c =(none,())/\RI U kd a₀ a₀.size d/\(pendingOf d).size<=1) ?st3 ?en3 ⟨rfl,R,?in3⟩) ?po3)
  case in3 =>
   have:=MX.le R.cov;rw[AX]at this;lia
  case en3 =>
   rintro c e ⟨rfl,R2,g⟩;exact⟨rfl,R2,by lia⟩
  case po3 =>
   rintro c e ⟨rfl,R2,g⟩;refine wpS_pure (h e R2.S ?_);have c:=R2.cov;have L:=R2.sor;have hz2:=R2.S.size;have M:(pendingOf e).toList.length<=1:=by rw[AX];exact g
   generalize (pendingOf e).toList=l at c L M
   match l,c,L,M with
   | [],c,_,_ =>
    have c':0=a₀.size:=c;have:(arrOf e).toList = []:=List.eq_nil_of_length_eq_zero (by rw[AX];lia);rw[this];exact List.Pairwise.nil
   | [x],⟨c1,c2,c3⟩,L,_ =>
    have c3':0+x.2.1=a₀.size:=c3;have:=L x (AC.mpr rfl);unfold JM at this;rw[c1,DR,CT (by rw[AX];lia)]at this;exact this
   | _::_::_,_,_,M=>exact absurd M (by simp)
  case st3 =>
   rintro x c e _ K ⟨rfl,R2,g⟩
   try dsimp only
   refine wpS_bind (wpS_get ?_);by_cases r:(pendingOf e).size<=1
   .rw[AY r];exact wpS_pure ⟨rfl,R2,r⟩
   rw[AS r];refine wpS_bind (Jg C v R2 (Nat.le_refl _) ?_ λst3 R3 e3 _=>?_)
   .have T:∀{c:Prop} [Decidable c] {n:Nat},(if c then n-1 else n)+1<=n+1:=by intro c _ n;split<;>lia
    exact Nat.lt_of_le_of_lt T (by lia)
   .simp only[EI,BE,CN];exact wpS_pure ⟨rfl,R3,by lia⟩
 case st =>
  rintro x c d _ K ⟨lo,rfl,R,P,h2⟩;dsimp only;by_cases D:lo ≥ a₀.size
  .rw[AY D];exact wpS_pure ⟨lo,rfl,R,by lia⟩
  rw[AS D];refine wpS_bind (Hs C v R.S (by lia) (by lia) λm e L2 hm1 hm2 t=>?_);dsimp only;by_cases F:m<B
  .rw[AY F];refine wpS_bind (wpS_lift (DT ⟨rfl,?_⟩));refine wpS_bind (Cr C v L2 (by lia) (show min (a₀.size-lo) B<=a₀.size-lo by lia) (by lia) t λq O V=>?_);simp only[EI,BE,CN];have hN:1<=min (a₀.size-lo) B/\min (a₀.size-lo) B<=a₀.size-lo:=by lia
   generalize min (a₀.size-lo) B=N at hN V⊢;have G:RI U kd a₀ lo q:=by
    refine⟨O.S,by rw[O.pend];exact R.cov,λy k=>?_⟩;rw[O.pend]at k;have hc:=MX.mem R.cov k;rw[(O.part R.S).seg_front (by lia)];exact R.sor y k
   refine wpS_bind (wpS_get ?_);have i:∀(b:HV),RI U kd a₀ lo b->KM U (JM (arrOf b).toList lo N)->RI U kd a₀ (lo+N) (setPending b ((pendingOf b).push (lo,N,0))):=λb f W=>by
    refine⟨⟨f.S.perm,f.S.kind,f.S.failed⟩,?_,λy k=>?_⟩
    .show MX ((pendingOf b).push (lo,N,0)).toList 0 (lo+N);rw[DA];exact MX.app.mpr ⟨lo,f.cov,rfl,(by show 1<=N;lia),rfl⟩
    .have hy':y∈((pendingOf b).push (lo,N,0)).toList:=k;rw[DA]at hy';rcases AH.mp hy' with hy' | hy'
     .exact f.sor y hy'
     .rw[AC.mp hy'];exact W
   cases X:(pendingOf q).back? with
   | none =>
    dsimp only;refine wpS_bind (wpS_modify (wpS_pure ⟨_,rfl,i _ G V.sor,by lia,by lia⟩))
   | some Y =>
    obtain⟨H,u,pb⟩:=Y;dsimp only;generalize power' a₀.size (2*H+u) (2*H+u+u+N) a₀.size=Z;refine wpS_bind (wpS_mono (wpS_forRange (I:=λx c b=>c =(none,())/\RI U kd a₀ lo b/\KZ U (arrOf q).toList (arrOf b).toList 0 lo)
     (Q:=λc b=>c =(none,())/\RI U kd a₀ lo b/\KZ U (arrOf q).toList (arrOf b).toList 0 lo) ?stc1 (λ_ _ z=>z) ⟨rfl,G,KZ.refl _ _ _⟩) ?poc1)
    case stc1 =>
     rintro x' c b _ _ ⟨rfl,f,j⟩
     try dsimp only
     refine wpS_bind (wpS_get ?_);by_cases o:(pendingOf b).size>1
     .rw[AY o];obtain⟨⟨u1,u2,ol⟩,hu⟩:∃y,(pendingOf b)[(pendingOf b).size-2]?=some y:=⟨_,getElem?_pos _ _ (by lia)⟩;rw[hu];dsimp only;by_cases p:ol<=Z
      .rw[AY p];exact wpS_pure ⟨rfl,f,j⟩
      rw[AS p];refine wpS_bind (Jg C v f P (by lia) λst7 R7 _ J=>?_);simp only[EI,BE,CN];exact wpS_pure ⟨rfl,R7,⟨J.perm.trans j.perm,rfl,J.back.trans j.back⟩⟩
     .rw[AS o];exact wpS_pure ⟨rfl,f,j⟩
    case poc1 =>
     rintro c b ⟨rfl,f,j⟩;dsimp only;refine wpS_bind (wpS_modify (wpS_bind (wpS_modify (wpS_pure ⟨_,rfl,i _ (f.congr Ci) ?_,by lia,by lia⟩))));show KM U (JM (arrOf b).toList lo N);rw[j.seg_back (by lia)];exact V.sor
  .rw[AS F];have G:RI U kd a₀ lo e:=by
    refine⟨L2.S,by rw[L2.pend];exact R.cov,λy k=>?_⟩;rw[L2.pend]at k;have hc:=MX.mem R.cov k;rw[(L2.part R.S).seg_front (by lia)];exact R.sor y k
   refine wpS_bind (wpS_get ?_);have i:∀(b:HV),RI U kd a₀ lo b->KM U (JM (arrOf b).toList lo m)->RI U kd a₀ (lo+m) (setPending b ((pendingOf b).push (lo,m,0))):=λb f W=>by
    refine⟨⟨f.S.perm,f.S.kind,f.S.failed⟩,?_,λy k=>?_⟩
    .show MX ((pendingOf b).push (lo,m,0)).toList 0 (lo+m);rw[DA];exact MX.app.mpr ⟨lo,f.cov,rfl,(by show 1<=m;lia),rfl⟩
    .have hy':y∈((pendingOf b).push (lo,m,0)).toList:=k;rw[DA]at hy';rcases AH.mp hy' with hy' | hy'
     .exact f.sor y hy'
     .rw[AC.mp hy'];exact W
   cases X:(pendingOf e).back? with
   | none =>
    dsimp only;refine wpS_bind (wpS_modify (wpS_pure ⟨_,rfl,i _ G t.sor,by lia,by lia⟩))
   | some Y =>
    obtain⟨H,u,pb⟩:=Y;dsimp only;generalize power' a₀.size (2*H+u) (2*H+u+u+m) a₀.size=Z;refine wpS_bind (wpS_mono (wpS_forRange (I:=λx c b=>c =(none,())/\RI U kd a₀ lo b/\KZ U (arrOf e).toList (arrOf b).toList 0 lo)
     (Q:=λc b=>c =(none,())/\RI U kd a₀ lo b/\KZ U (arrOf e).toList (arrOf b).toList 0 lo) ?stc2 (λ_ _ z=>z) ⟨rfl,G,KZ.refl _ _ _⟩) ?poc2)
    case stc2 =>
     rintro x' c b _ _ ⟨rfl,f,j⟩
     try dsimp only
     refine wpS_bind (wpS_get ?_);by_cases o:(pendingOf b).size>1
     .rw[AY o];obtain⟨⟨u1,u2,ol⟩,hu⟩:∃y,(pendingOf b)[(pendingOf b).size-2]?=some y:=⟨_,getElem?_pos _ _ (by lia)⟩;rw[hu];dsimp only;by_cases p:ol<=Z
      .rw[AY p];exact wpS_pure ⟨rfl,f,j⟩
      rw[AS p];refine wpS_bind (Jg C v f P (by lia) λst7 R7 _ J=>?_);simp only[EI,BE,CN];exact wpS_pure ⟨rfl,R7,⟨J.perm.trans j.perm,rfl,J.back.trans j.back⟩⟩
     .rw[AS o];exact wpS_pure ⟨rfl,f,j⟩
    case poc2 =>
     rintro c b ⟨rfl,f,j⟩;dsimp only;refine wpS_bind (wpS_modify (wpS_bind (wpS_modify (wpS_pure ⟨_,rfl,i _ (f.congr Ci) ?_,by lia,by lia⟩))));show KM U (JM (arrOf b).toList lo m);rw[j.seg_back (by lia)];exact t.sor
end
def kd1(U:KeyKind)(v:A1):U.α:=(U.keyOf v).getD U.dflt
section
variable{prog:Cv}{w:HS}{A:HZ}{E:A1->A5->Prop}{s:A5}{U:KeyKind}{kd:JT}
def VR(a:A2)(s c:A5):Prop:=∀b o,b≠a->s.heap.get? b=some o->c.heap.get? b=some o
structure TV(prog:Cv)(w:HS)(a:A2)(s:A5)(U:KeyKind)(kd:JT)(vs:A0 A1):Prop where
 cmp:∀(A:HZ) (s':A5),VR a s s'->SL prog w A s' U kd
 key:∀v∈vs,∃k,U.keyOf v=some k
 kind:2<=vs.length->∀(A:HZ) (E:A1->A5->Prop) (s':A5) (Q:JT->A5->Prop),VR a s s'->Q kd s'->wpAny (model prog w) A (keyKind' vs.toArray) Q E s'
def Out(U:KeyKind)(vs:A0 A1)(out:HQ A1):Prop:=out.toList.Perm vs/\out.toList.Pairwise λu v=>U.kle (kd1 U u) (kd1 U v)
theorem Wz{vs:A0 A1}{xs:HQ HR}(a:xs.toList.Perm (pairsOf vs).toList)(b:KM U xs.toList):Out U vs (xs.map (·.2)):=by
 rw[pairsOf_toList]at a;have c:∀p∈xs.toList,p.1=p.2:=λp h=>(mem_zip_self (a.mem_iff.mp h)).1;have e:(xs.map (·.2)).toList=xs.toList.map (·.1):=by
  rw[Array.toList_map];exact List.map_congr_left λp h=>(c p h).symm
 refine⟨?_,?_⟩
 .rw[e];have:=a.map Prod.fst
  rwa [List.map_fst_zip (Nat.le_refl _)]at this
 .rw[e,EM];exact b
theorem Ea{a:A2}{vs:A0 A1}{n:Nat}{P:Fin->A5->Prop}(k:s.heap.get? a=some (seqObj "list" vs.toArray n))(m:vs.length<=sizeLine)(K:TV prog w a s U kd vs)
  (h:∀out:HQ A1,Out U vs out->P (.done (.ret .none)) { s with heap:=sortedHeap s.heap a vs out }) :
  wpAny (model prog w) A (Builtin.«list.sort» ⟨[.ref a],[]⟩) P E s:=by
 rw[list_sort_plain];have q:a<s.heap.objs.size:=AK k;have i:vs.toArray.size=vs.length:=by simp
 refine AB (listItems_at k rfl ?_);refine AB (listUpdate_at k rfl ?_ (by rw[i];exact m) (by simp));obtain⟨l,j⟩:∃l,(s.heap.update a (Obj.mapSeq λ_=>#[])).get? a=some (seqObj "list" #[] l):=⟨_,get?_update_seq k (λ_=>#[])⟩;refine AB (seqEpoch_at j rfl ?_);refine AB (wpAny_newTuple ?_ (by simpa using m));refine AB (HP ?_);refine BW ?_;have d:(((s.heap.update a (Obj.mapSeq λ_=>#[])).push (seqObj "tuple" vs.toArray 0)).push (seqObj "list" #[] 0)).get? a=some (seqObj "list" #[] l):=by
  rw[Heap.get?_push_ne _ _ _ (by rw[size_push',HL];exact BC (EN q)),Heap.get?_push_ne _ _ _ (by rw[HL];exact BC q)];exact j
 show wpAny (model prog w) A _ P E { s with heap:=((s.heap.update a (Obj.mapSeq λ_=>#[])).push (seqObj "tuple" vs.toArray 0)).push (seqObj "list" #[] 0) };dsimp only;have r:VR a s { s with heap:=((s.heap.update a (Obj.mapSeq λ_=>#[])).push (seqObj "tuple" vs.toArray 0)).push (seqObj "list" #[] 0) }:=λb o t e =>
  AD _ (AD _ ((BL s.heap _ (Ne.symm t)).trans e))
 by_cases f:vs.toArray.size<2
 .rw[AY f,AY f];refine AB (AE ?_);rw[StateT.run_pure];refine AB (AE ?_);dsimp only;refine AB (seqEpoch_at d rfl ?_);refine AB (listUpdate_at d rfl ?_ (by simp) (by rw[GV];show(pairsOf vs).size<=_;rw[pairsOf_size];lia));simp only[bne_self_eq_false,BE,CN];refine AE (h _ (Wz (U:=U) (xs:=pairsOf vs) (List.Perm.refl _) ?_));rw[pairsOf_toList];rw[i]at f
  match vs,f with
  | [],_=>exact List.Pairwise.nil
  | [v],_=>exact GS _ _
  | _::_::_,f=>simp at f;lia
 .rw[AS f,AS f];refine AB (K.kind (by lia) A E _ _ r ?_);refine AB (CA (Fd (K.cmp A _ r) (a₀:=pairsOf vs) (st:=SortSt.mk' kd (vs.toArray.zip vs.toArray) #[] 7 none)
   (Q:=λ_ c=>St U kd (pairsOf vs) c/\KM U (arrOf c).toList)
   (λp g=>?_) ⟨List.Perm.refl _,rfl,rfl⟩ rfl λc u x=>⟨u,x⟩) ?_ λ_ _ e=>e)
  .rw[pairsOf_toList]at g;exact K.key _ (mem_zip_self g).2
  rintro⟨⟨⟩,c⟩ z ⟨rfl,g,y⟩;dsimp only;refine AB (seqEpoch_at d rfl ?_);refine AB (listUpdate_at d rfl ?_ (by simp) (by rw[GV];show(arrOf c).size<=_;rw[g.size,pairsOf_size];lia));rw[show failedOf c=none from g.failed];simp only[bne_self_eq_false,BE,CN];exact AE (h _ (Wz g.perm y))
theorem NF{x:A1}{Q:A1->A5->Prop}
  (g:wpAny (model prog w) A.in1 (collect x) (λvs s1=>s1.os=s.os/\vs.length<=sizeLine/\(∃(U:KeyKind) (kd:JT),(∀d:A5,VR s1.heap.objs.size s1 d->TV prog w s1.heap.objs.size d U kd vs) /\
   ∀(out:HQ A1) (h':HX) (e:Nat),Out U vs out->(∀b o,s1.heap.get? b=some o->h'.get? b=some o)->h'.get? s1.heap.objs.size=some (seqObj "list" out e)->Q (.ref s1.heap.objs.size) { s1 with heap:=h' })) E s) :
  wpAny (model prog w) A (call (.builtin "sorted") [x]) Q E s:=by
 refine Calls.call_function_entry kind_sorted plain_sorted entry_sorted (args_sorted1 _) ?_;unfold Builtin.«sorted»;refine AB (m:=checkCount "sorted" 1 1 _) (AE ?_);refine AB (CA g (λvs s1 ⟨i,j,U,kd,K,q⟩=>?_) λ_ _ z=>z);refine AB (HP ?_);have a:(s1.heap.push (seqObj "list" vs.toArray 0)).get? s1.heap.objs.size=some (seqObj "list" vs.toArray 0):=BG _ rfl;show wpAny _ _ _ _ _ { s1 with heap:=s1.heap.push (seqObj "list" vs.toArray 0) };have k:VR s1.heap.objs.size s1 { s1 with heap:=s1.heap.push (seqObj "list" vs.toArray 0) }:=λb o _ e=>AD _ e;refine AB (BW (DM slot_list_sort ⟨_,a,rfl⟩ entry_list_sort (Ea (s:={ s1 with heap:=s1.heap.push (seqObj "list" vs.toArray 0) }) a j (K _ k) λout l=>⟨_,rfl,?_⟩) (args_list_sort _)));obtain⟨e,n⟩:=sortedHeap_at (h:=s1.heap.push (seqObj "list" vs.toArray 0)) (out:=out) a;refine AE ⟨_,rfl,q out _ e l (λb o f=>?_) n⟩;have c:=AK f;rw[sortedHeap_old (BC c) (by rw[size_push'];exact EN c)];exact AD _ f
theorem QM{a:A2}{vs:A0 A1}{ss:A0 Str}(b:StrsAre vs ss):TV prog w a s strKind oneType' vs:=by
 refine⟨λA c _=>⟨λx y k l Q E d e q=>?_⟩,λv f=>?_,λg A E c Q _ q=>?_⟩
 .rw[keyLt'_oneType];exact strKind_oneLt prog w A E c x y k l d e q
 .obtain⟨x,t,rfl⟩:=b.all v f;exact⟨_,rfl⟩
 .match vs,g,b with
  | v1::h::r,_,b =>
   rw[keyKind_strs b];exact AE q
def KS(a b:A0 Nat×A0 Nat):Bool:=decide (a.1<b.1)||(decide (a.1=b.1)&&decide (a.2<b.2))
theorem JL{a b:A0 Nat×A0 Nat}:KS a b=true↔a.1<b.1\/(a.1=b.1/\a.2<b.2):=by
 unfold KS;simp
theorem UZ(a b:A0 Nat):a<b\/a=b\/b<a:=by
 by_cases h:a<b
 .exact .inl h
 .by_cases c:b<a
  .exact .inr (.inr c)
  .exact .inr (.inl (List.le_antisymm (List.not_lt.mp c) (List.not_lt.mp h)))
def Pq:A0 A1->A6 (A0 Nat×A0 Nat)
 | [.str x _,.str y _]=>some (x.cps.toList,y.cps.toList)
 | _=>none
def Ti(c:A1):Data->A6 (A0 Nat×A0 Nat)
 | .seq a _=>if c = .type "tuple" then Pq a.toList else none
 | _=>none
def OB(h:HX):A1->A6 (A0 Nat×A0 Nat)
 | .ref p=>(h.get? p).bind λo=>Ti o.cls o.data
 | _=>none
@[reducible] def pairKind(h:HX):KeyKind where
 α:=A0 Nat×A0 Nat
 blt:=KS
 irrefl a:=by
  rw[DG];intro z;rcases JL.mp z with z | ⟨_,z⟩
  .exact List.lt_irrefl _ z
  .exact List.lt_irrefl _ z
 trans a b c e d:=by
  rw[JL]at *;rcases e with e | ⟨e,f⟩
  .rcases d with d | ⟨d,_⟩
   .exact .inl (List.lt_trans e d)
   .exact .inl (d▸e)
  .rcases d with d | ⟨d,g⟩
   .exact .inl (e▸d)
   .exact .inr ⟨e.trans d,List.lt_trans f g⟩
 negTrans a b c h:=by
  rw[JL]at h;simp only[JL];rcases h with h | ⟨h,i⟩
  .rcases UZ a.1 b.1 with q | q | q
   .exact .inl (.inl q)
   .exact .inr (.inl (q▸h))
   .exact .inr (.inl (List.lt_trans q h))
  .rcases UZ a.1 b.1 with q | q | q
   .exact .inl (.inl q)
   .rcases UZ a.2 b.2 with r | r | r
    .exact .inl (.inr ⟨q,r⟩)
    .exact .inr (.inr ⟨q▸h,r▸i⟩)
    .exact .inr (.inr ⟨q▸h,List.lt_trans r i⟩)
   .exact .inr (.inl (h▸q))
 total a b e d:=by
  rw[DG]at e d;rcases UZ a.1 b.1 with q | q | q
  .exact absurd (JL.mpr (.inl q)) e
  .rcases UZ a.2 b.2 with r | r | r
   .exact absurd (JL.mpr (.inr ⟨q,r⟩)) e
   .exact Prod.ext q r
   .exact absurd (JL.mpr (.inr ⟨q.symm,r⟩)) d
  .exact absurd (JL.mpr (.inl q)) d
 keyOf:=OB h
 dflt:=([],[])
def MQ(h:HX)(v:A1)(x y:Str):Prop:=∃p o n t u,v = .ref p/\h.get? p=some o/\o.cls = .type "tuple"/\o.data = .seq #[.str x t,.str y u] n
theorem MQ.key{h:HX}{v:A1}{x y:Str}(z:MQ h v x y):OB h v=some (x.cps.toList,y.cps.toList):=by
 obtain⟨p,o,n,t,u,rfl,e,c,d⟩:=z;show(h.get? p).bind (λo=>Ti o.cls o.data)=_;rw[e];show Ti o.cls o.data=_;rw[d,c];unfold Ti;exact(AY rfl).trans rfl
theorem zDq{l:A0 A1}{k:A0 Nat×A0 Nat}(e:Pq l=some k):∃x t y u,l = [.str x t,.str y u]:=by
 match l,e with
 | [.str x t,.str y u],_=>exact⟨x,t,y,u,rfl⟩
theorem Pi{h:HX}{v:A1}{k:A0 Nat×A0 Nat}(e:OB h v=some k):∃x y,MQ h v x y:=by
 match v,e with
 | .ref p,e =>
  have g:(h.get? p).bind (λo=>Ti o.cls o.data)=some k:=e;obtain⟨o,i,b⟩:=Option.bind_eq_some_iff.mp g;cases d:o.data with
  | seq f n =>
   rw[d]at b;have a:(if o.cls = .type "tuple" then Pq f.toList else none)=some k:=b;by_cases c:o.cls = .type "tuple"
   .rw[AY c]at a;obtain⟨x,t,y,u,j⟩:=zDq a;refine⟨x,y,p,o,n,t,u,rfl,i,c,?_⟩;rw[d];have:f = #[.str x t,.str y u]:=by rw[<-Array.toList_inj,j]
    rw[this]
   .rw[AS c]at a;cases a
  | _=>rw[d]at b;cases b
theorem Lm{h:HX}{v:A1}{k:A0 Nat×A0 Nat}{x y:Str}(z:MQ h v x y)(e:OB h v=some k):k =(x.cps.toList,y.cps.toList):=by
 rw[z.key]at e;exact(CJ e).symm
theorem RO{a:A2}{vs:A0 A1}{F:HX}(B:∀v∈vs,∃x y,MQ F v x y)(C:∀b o,F.get? b=some o->b≠a/\s.heap.get? b=some o) :
  TV prog w a s (pairKind F) (tuples' true) vs:=by
 refine⟨λA G J=>⟨λx y k l Q E O P q=>?_⟩,λv K=>?_,λh2 A E G Q J q=>?_⟩
 .obtain⟨g,m,R⟩:=Pi O;obtain⟨f,i,S⟩:=Pi P;have Y:=Lm R O;have Z:=Lm S P;subst Y Z;obtain⟨px,ox,nx,t1,u1,rfl,U,_,d1⟩:=R;obtain⟨py,oy,ny,t2,u2,rfl,V,_,d2⟩:=S;have f1:=J _ _ (C _ _ U).1 (C _ _ U).2;have f2:=J _ _ (C _ _ V).1 (C _ _ V).2;refine PySem.W.kat_lt f1 d1 f2 d2 ?_;show PySem.W.KatLex prog w A true _ Q [(.str g t1,.str f t2),(.str m u1,.str i u2)] 0 G;refine PySem.W.kat_cons (wpAny_eqBool_str (PySem.W.kat_go (λj=>?_) λj=>?_))
  .have j:g=f:=by simpa using j
   refine PySem.W.kat_yes (PySem.W.kat_cons (wpAny_eqBool_str (PySem.W.kat_go (λh=>?_) λh=>?_)))
   .have h:m=i:=by simpa using h
    refine PySem.W.kat_yes (PySem.W.kat_nil ?_);have:KS (g.cps.toList,m.cps.toList) (f.cps.toList,i.cps.toList)=decide (2<2):=by
     rw[j,h];exact(pairKind F).irrefl (f.cps.toList,i.cps.toList)
    show Q (decide (2<2)) G;rw[<-this];exact q
   .refine PySem.W.kat_no (PySem.W.kat_one _ _ (lt_str ?_));have:KS (g.cps.toList,m.cps.toList) (f.cps.toList,i.cps.toList)=decide (m.cps.toList<i.cps.toList):=by
     rw[j];unfold KS;simp[List.lt_irrefl]
    show Q (decide (m.cps.toList<i.cps.toList)) G;rw[<-this];exact q
  .have j:¬g=f:=by simpa using j
   refine PySem.W.kat_no (oneLt_str ?_);have L:¬g.cps.toList=f.cps.toList:=λz=>j (by cases g;cases f;simp at z;simp[z]);have:KS (g.cps.toList,m.cps.toList) (f.cps.toList,i.cps.toList)=decide (g.cps.toList<f.cps.toList):=by
    unfold KS;simp[L]
   rw[<-this];exact q
 .obtain⟨x,y,z⟩:=B v K;exact⟨_,z.key⟩
 .have hT:∀(H:A0 A1),(∀v∈H,∃x y,MQ F v x y)->∃D,PySem.W.KatTups G.heap H D/\D.length=H.length/\∀v∈D,∃x t,v = .str x t:=by
   intro H
   induction H with
   | nil=>exact λ_=>⟨[],.nil,rfl,λv B=>by simp at B⟩
   | cons v r ih =>
    intro I;obtain⟨D,M,X,N⟩:=ih λu hu=>I u (AQ _ hu);obtain⟨x,y,p,o,n,t,u,rfl,e,c,d⟩:=I v (AZ ..);refine⟨.str x t::D,.cons (J _ _ (C _ _ e).1 (C _ _ e).2) c d rfl M,by simp[X],λz hz=>?_⟩;rcases A_.mp hz with rfl | hz
    .exact⟨x,t,rfl⟩
    .exact N z hz
  obtain⟨D,M,X,N⟩:=hT vs B;refine PySem.W.kat_kind (T:=.type "str") M (by lia) (λv B=>?_) (by rfl) q;obtain⟨x,t,rfl⟩:=N v B;exact .now
end
end TS
set_option Elab.async false
namespace L2
open PySem PySem.Spec PyProof.Rows
abbrev IL:=Sum Int Str
def Fc:IL->A1->Bool
 | .inl k,v=>Value.isInt k v
 | .inr x,v=>Value.isStrOf x v
def zHh(w:HS):IL->Int
 | .inl k=>hashInt k
 | .inr x=>hashStr w x
def F8:∀{k:IL} {v:A1},Fc k v=true->(∃i t,k=Sum.inl i/\v=Value.int i t)\/(∃x t,k=Sum.inr x/\v=Value.str x t)
 | .inl i,v,h=>by
  obtain⟨t,e⟩:=Value.isInt_shape (k:=i) (v:=v) h;exact .inl ⟨i,t,rfl,e⟩
 | .inr x,v,h=>by
  obtain⟨t,e⟩:=Value.isStrOf_shape (x:=x) (v:=v) h;exact .inr ⟨x,t,rfl,e⟩
def Tl(i:Int)(t:Tok):Fc (.inl i) (.int i t)=true:=by simp[Fc,Value.isInt]
def X6(x:Str)(t:Tok):Fc (.inr x) (.str x t)=true:=by simp[Fc,Value.isStrOf]
def zDl(a b:Int):decide ((Sum.inl a:IL)=Sum.inl b) =(a == b):=by
 by_cases e:a=b
 .subst e;simp
 .have h:¬(Sum.inl a:IL)=Sum.inl b:=λq=>e (Sum.inl.inj q);rw[BB h];exact(beq_eq_false_iff_ne.mpr e).symm
def zCc(a b:Str):decide ((Sum.inr a:IL)=Sum.inr b)=decide (a=b):=by
 by_cases e:a=b
 .subst e;simp
 .have h:¬(Sum.inr a:IL)=Sum.inr b:=λq=>e (Sum.inr.inj q);rw[BB h,BB e]
def zBh(a:Int)(b:Str):decide ((Sum.inl a:IL)=Sum.inr b)=false:=BB (λq=>nomatch q)
def zEg(a:Str)(b:Int):decide ((Sum.inr a:IL)=Sum.inl b)=false:=BB (λq=>nomatch q)
def D0(prog:Cv)(w:HS):PySem.KeyKind prog w IL where
 is:=Fc
 hash:=zHh w
 inj:=λv a b g f=>by
  rcases F8 g with⟨i,t,rfl,rfl⟩ | ⟨x,t,rfl,rfl⟩
  .rcases F8 f with⟨j,u,rfl,e⟩ | ⟨y,u,rfl,e⟩
   .injection e with c _;rw[c]
   .exact nomatch e
  .rcases F8 f with⟨j,u,rfl,e⟩ | ⟨y,u,rfl,e⟩
   .exact nomatch e
   .injection e with c _;rw[c]
 byValue:=λk v h=>by
  rcases F8 h with⟨i,t,rfl,rfl⟩ | ⟨x,t,rfl,rfl⟩<;>rfl
 pyHash:=λd h=>by
  rcases F8 d with⟨i,t,rfl,rfl⟩ | ⟨x,t,rfl,rfl⟩
  .exact wpAny_pyHash_int h
  .exact wpAny_pyHash_str h
 eqBool:=λl d h=>by
  rcases F8 l with⟨i,t,rfl,rfl⟩ | ⟨x,t,rfl,rfl⟩
  .rcases F8 d with⟨j,u,rfl,rfl⟩ | ⟨y,u,rfl,rfl⟩
   .rw[zDl]at h;exact wpAny_eqBool_int h
   .rw[zBh]at h;exact SeqAt.EqAt.int_str i t y u _ _ _ _ h
  .rcases F8 d with⟨j,u,rfl,rfl⟩ | ⟨y,u,rfl,rfl⟩
   .rw[zEg]at h;exact SeqAt.EqAt.str_int x t j u _ _ _ _ h
   .rw[zCc]at h;exact wpAny_eqBool_str h
 «strs»:=λk x t v h=>by
  rcases F8 h with⟨i,u,rfl,e⟩ | ⟨y,u,rfl,e⟩
  .exact nomatch e
  .injection e with c _;subst c;cases v<;>rfl
def Ja(prog:Cv)(w:HS)(i:Int)(t:Tok):(D0 prog w).is (.inl i) (.int i t)=true:=Tl i t
def Ji(prog:Cv)(w:HS)(x:Str)(t:Tok):(D0 prog w).is (.inr x) (.str x t)=true:=X6 x t
inductive V where
 | non | bl (b:Bool) | int (i:Int) | str (x:Str) | byt (b:HQ UInt8) | flt (b:UInt64) | ref (a:A2) | ty (n:String)
 deriving DecidableEq
def RelV:V->A1->Prop
 | .non,u=>u=Value.none
 | .bl b,u=>u=Value.bool b
 | .int i,u=>∃t,u=Value.int i t
 | .str x,u=>∃t,u=Value.str x t
 | .byt b,u=>∃t,u=Value.bytes b t
 | .flt b,u=>∃t,u=Value.float b t
 | .ref a,u=>u=Value.ref a
 | .ty n,u=>u=Value.type n
abbrev IC:A0 V->A0 A1->Prop:=Paired RelV
def IC.length{xs:A0 V}{us:A0 A1}(r:IC xs us):xs.length=us.length:=Paired.length r
def IC.get:∀{xs:A0 V} {us:A0 A1} {i:Nat} {x:V},IC xs us->xs[i]?=some x->∃u,us[i]?=some u/\RelV x u
 | _,_,_,_,.nil,e=>by simp at e
 | _,_,0,_,.cons r _,e=>by simp at e;subst e;exact⟨_,rfl,r⟩
 | _,_,i+1,x,.cons _ t,e=>by
  obtain⟨u,a,b⟩:=IC.get (i:=i) (x:=x) t (by simpa using e);exact⟨u,by simpa using a,b⟩
def IC.set{x:V}{u:A1}(r:RelV x u):∀{xs:A0 V} {us:A0 A1} (i:Nat),IC xs us->IC (xs.set i x) (us.set i u)
 | _,_,_,.nil=>.nil
 | _,_,0,.cons _ t=>.cons r t
 | _,_,i+1,.cons q t=>.cons q (IC.set r i t)
def IC.append:∀{xs a:A0 V} {us b:A0 A1},IC xs us->IC a b->IC (xs++a) (us++b)
 | _,_,_,_,.nil,s=>s
 | _,_,_,_,.cons r t,s=>.cons r (IC.append t s)
def IC.take:∀{xs:A0 V} {us:A0 A1} (n:Nat),IC xs us->IC (xs.take n) (us.take n)
 | _,_,0,_=>.nil
 | _,_,_+1,.nil=>.nil
 | _,_,n+1,.cons r t=>.cons r (IC.take n t)
def IC.drop:∀{xs:A0 V} {us:A0 A1} (n:Nat),IC xs us->IC (xs.drop n) (us.drop n)
 | _,_,0,r=>r
 | _,_,_+1,.nil=>.nil
 | _,_,n+1,.cons _ t=>IC.drop n t
def IC.none_of:∀{xs:A0 V} {us:A0 A1} {i:Nat},IC xs us->xs[i]?=none->us[i]?=none:=fun{xs us i} r e=>by
 have a:=r.length;have b:xs.length<=i:=GF.mp e;exact GF.mpr (by lia)
def L_:A6 V->A6 A1->Prop
 | some v,some u=>RelV v u
 | none,none=>True
 | _,_=>False
def KV{U:Type}:A0 (U×V)->A0 (U×A1)->Prop:=Paired λ(p:U×V) (q:U×A1)=>p.1=q.1/\RelV p.2 q.2
def kV:IL->V
 | .inl i=>.int i
 | .inr x=>.str x
inductive HO where
 | lst (xs:A0 V)
 | tup (xs:A0 V)
 | dK (kvs:A0 (IL×V)) | dT (kvs:A0 (A0 IL×V))
 | set (S:Int->Bool) (n:Nat)
 | ins (C dx:A2) (fs:A0 (Str×V))
 | own (x:A2)
 | xd (fs:A0 (Str×V))
 | met (f x:A2)
 | rng (lo hi:Int)
 | frz (o:Obj) (u:HO)
 | tbl (ps:HQ A1)
 | ext (φ:HX->Prop)
set_option genInjectivity false
abbrev Hp:=A2->A6 HO
def HU(H:Hp)(a:A2)(o:HO):Hp:=λb=>if b=a then some o else H b
def A9{H:Hp}{a:A2}{o:HO}:HU H a o a=some o:=by unfold HU;rw[AY rfl]
def B8{H:Hp}{a b:A2}{o:HO}(h:b≠a):HU H a o b=H b:=by unfold HU;rw[AS h]
def zAl{H:Hp}{a:A2}{o u:HO}:HU (HU H a o) a u=HU H a u:=by
 funext b;unfold HU;split<;>rfl
def J8{H:Hp}{a b:A2}{o u:HO}(h:H a=some o)(h':H b=some u)(d:o≠u):a≠b:=by
 intro e;subst e;rw[h]at h';exact d (CJ h')
def B3{H:Hp}{a b:A2}{o:HO}(h:H a=some o)(h':H b=none):a≠b:=by
 intro e;subst e;rw[h]at h';cases h'
section
variable(P:Cv)(w:HS)
def IM(H:Hp)(h:HX)(a:A2):HO->Prop
 | .lst d=>d.length<=sizeLine/\∃(b:A0 A1) (n:Nat),IC d b/\h.get? a=some { cls:=.type "list",data:=.seq b.toArray n }
 | .tup d=>d.length<=sizeLine/\∃b:A0 A1,IC d b/\IsTup h a b.toArray
 | .dK c=>c.length<=sizeLine/\(a == sysModules)=false/\∃j,KV c j/\h.DictOf (D0 P w) a j
 | .dT c=>c.length<=sizeLine/\(a == sysModules)=false/\∃d:A0 (A0 IL×A2×A1),
   Paired (λ(p:A0 IL×V) (q:A0 IL×A2×A1)=>p.1=q.1/\H q.2.1=some (.tup (p.1.map kV))/\RelV p.2 q.2.2) c d /\
   ∃o k r,h.get? a=some o/\o.ExactDict/\o.data = .dict k r/\k.toList=d.map (entryOfKey (tupleKind (D0 P w)))/\(d.map (·.1)).Nodup
 | .set S n=>h.SetOf (intKind P w) a S n
 | .ins C i g=>H i=some (.own a)/\g.length<=1000/\i≠a/\h.get? a=some (PySem.W.instObj C i) /\
   ∃e,h.Ns1 i e/\(∀f,L_ (g.lookup f) (e f))/\PySem.Within e (g.map (·.1))
 | .own _=>∃o,h.get? a=some o
 | .xd g=>∃e,h.Ns1 a e/\∀f,L_ (g.lookup f) (e f)
 | .rng lo s=>∃t u v,h.get? a=some { cls:=.type "range",data:=.fields #[.int lo t,.int s u,.int 1 v] }
 | .frz o u=>h.get? a=some o/\IM H h a u
 | .tbl y=>h.get? a=some { cls:=.none,data:=.fields y }
 | .met f x=>h.get? a=some (PySem.W.methodObj (.ref f) (.ref x))
 | .ext φ=>φ h/\(∃o,h.get? a=some o)/\∀l m:HX,φ l->(∀o,l.get? a=some o->m.get? a=some o)->φ m
def L0(H:Hp)(h:HX):Prop:=∀a o,H a=some o->IM P w H h a o
end
section
variable{P:Cv}{w:HS}{H H':Hp}{h h':HX}{a:A2}{o:HO}
theorem IM.lt(x:IM P w H h a o):a<h.objs.size:=by
 cases o with
 | lst c=>obtain⟨_,_,_,_,e⟩:=x;exact AK e
 | tup c=>obtain⟨_,_,_,p⟩:=x;exact p.lt
 | dK b=>obtain⟨_,_,_,_,o,_,_,e,_⟩:=x;exact AK e
 | dT b=>obtain⟨_,_,_,_,o,_,_,e,_⟩:=x;exact AK e
 | set S n=>obtain⟨o,_,_,_,e,_⟩:=x;exact AK e
 | ins C g d=>obtain⟨_,_,_,e,_⟩:=x;exact AK e
 | own y=>obtain⟨_,e⟩:=x;exact AK e
 | xd d=>obtain⟨_,⟨_,_,_,e,_⟩,_⟩:=x;exact AK e
 | rng lo i=>obtain⟨_,_,_,e⟩:=x;exact AK e
 | frz j u=>obtain⟨e,_⟩:=x;exact AK e
 | tbl k=>exact AK (show h.get? a=some _ from x)
 | met f y=>exact AK (show h.get? a=some _ from x)
 | ext φ=>obtain⟨_,⟨_,e⟩,_⟩:=x;exact AK e
theorem Paired.mapP{α β:Type}{F G:α->β->Prop}:∀{l₁:A0 α} {l₂:A0 β},Paired F l₁ l₂->(∀a b,F a b->G a b)->Paired G l₁ l₂
 | _,_,.nil,_=>.nil
 | _,_,.cons r t,f=>.cons (f _ _ r) (Paired.mapP t f)
theorem IM.stay(x:IM P w H h a o)(k:∀b u,(b=a\/H b=some (.own a))->h.get? b=some u->h'.get? b=some u)
  (D:∀b,H b=some (.own a)->H' b=some (.own a)) (E:∀b xs,H b=some (.tup xs)->H' b=some (.tup xs)):IM P w H' h' a o:=by
 induction o with
 | lst xs=>obtain⟨z,l,n,r,e⟩:=x;exact⟨z,l,n,r,k _ _ (.inl rfl) e⟩
 | tup xs=>obtain⟨z,l,r,g,e,c⟩:=x;exact⟨z,l,r,g,k _ _ (.inl rfl) e,c⟩
 | dK m=>obtain⟨z,y,F,r,g,i,j,e,c⟩:=x;exact⟨z,y,F,r,g,i,j,k _ _ (.inl rfl) e,c⟩
 | dT m =>
  obtain⟨z,y,xs,r,g,i,j,e,c⟩:=x;exact⟨z,y,xs,Paired.mapP r λp q z=>⟨z.1,E _ _ z.2.1,z.2.2⟩,g,i,j,k _ _ (.inl rfl) e,c⟩
 | set S n=>obtain⟨g,i,j,t,e,c⟩:=x;exact⟨g,i,j,t,k _ _ (.inl rfl) e,c⟩
 | ins C L G =>
  obtain⟨d,z,I,e,s,⟨A,i,j,J,c⟩,r⟩:=x;exact⟨D _ d,z,I,k _ _ (.inl rfl) e,s,⟨A,i,j,k _ _ (.inr d) J,c⟩,r⟩
 | own y=>obtain⟨g,e⟩:=x;exact⟨g,k _ _ (.inl rfl) e⟩
 | xd G=>obtain⟨s,⟨A,i,j,e,c⟩,r⟩:=x;exact⟨s,⟨A,i,j,k _ _ (.inl rfl) e,c⟩,r⟩
 | rng lo M=>obtain⟨t,u,v,e⟩:=x;exact⟨t,u,v,k _ _ (.inl rfl) e⟩
 | frz g u K=>obtain⟨e,q⟩:=x;exact⟨k _ _ (.inl rfl) e,K q⟩
 | tbl B =>
  have e:h.get? a=some { cls:=.none,data:=.fields B }:=x;show h'.get? a=some { cls:=.none,data:=.fields B };exact k a _ (.inl rfl) e
 | met f y =>
  have e:h.get? a=some (PySem.W.methodObj (.ref f) (.ref y)):=x;show h'.get? a=some (PySem.W.methodObj (.ref f) (.ref y));exact k a _ (.inl rfl) e
 | ext φ=>obtain⟨p,⟨o,e⟩,st⟩:=x;exact⟨st _ _ p λo q=>k _ _ (.inl rfl) q,⟨o,k _ _ (.inl rfl) e⟩,st⟩
theorem L0.lt(x:L0 P w H h)(e:H a=some o):a<h.objs.size:=(x a o e).lt
theorem L0.fresh(x:L0 P w H h)(e:h.objs.size<=a):H a=none:=by
 cases q:H a with
 | none=>rfl
 | some u=>exact absurd (BI (x.lt q) e) (CM _)
theorem L0.kept(x:L0 P w H h)(k:∀b u,h.get? b=some u->h'.get? b=some u):L0 P w H h':=λa o e =>
 (x a o e).stay (λb u _ q=>k b u q) (λ_ q=>q) λ_ _ q=>q
theorem L0.laid(x:L0 P w H h)(k:∀b u,h.get? b=some u->h'.get? b=some u)(i:h.objs.size<=a)(d:IM P w (HU H a o) h' a o):L0 P w (HU H a o) h':=λb u e=>by
 have f:=x.fresh i;by_cases g:b=a
 .subst g;rw[A9]at e;cases e;exact d
 .rw[B8 g]at e;exact(x b u e).stay (λc v _ q=>k c v q) (λc q=>by rw[B8 (B3 q f)];exact q) λc j q=>by rw[B8 (B3 q f)];exact q
end
def Rd(H:Hp)(a:A2)(u:HO):Prop:=H a=some u\/∃o,H a=some (.frz o u)
def Rd.ok{P:Cv}{w:HS}{H:Hp}{h:HX}{a:A2}{u:HO}(r:Rd H a u)(x:L0 P w H h):IM P w H h a u:=by
 rcases r with r | ⟨o,r⟩
 .exact x a u r
 .obtain⟨_,q⟩:=x a _ r;exact q
def VO:A6 HO->Prop
 | some (.lst _)=>True
 | some (.dK _)=>True
 | some (.dT _)=>True
 | some (.set _ _)=>True
 | some (.ins _ _ _)=>True
 | some (.ext _)=>True
 | _=>False
section
variable{P:Cv}{w:HS}{H:Hp}{h h':HX}{x e:A2}{o':HO}
theorem L0.write(p:L0 P w H h)(g:VO (H x))(n:e=x\/H e=some (.own x))(k:∀b u,b≠e->h.get? b=some u->h'.get? b=some u)(l:∃u,h'.get? e=some u)
  (m:IM P w (HU H x o') h' x o'):L0 P w (HU H x o') h':=λb u q=>by
 have d:∀c y,H c=some (.own y)->c≠x:=λc y r z=>by subst z;rw[r]at g;exact g
 have f:∀c i,H c=some (.tup i)->c≠x:=λc i r z=>by subst z;rw[r]at g;exact g
 by_cases j:b=x
 .subst j;rw[A9]at q;cases q;exact m
 .rw[B8 j]at q;by_cases a:b=e
  .have o:H b=some (.own x):=by
    rcases n with z | z
    .exact absurd (a.trans z) j
    .rw[a];exact z
   rw[q]at o;cases o;obtain⟨v,s⟩:=l;exact⟨v,by rw[a];exact s⟩
  .refine(p b u q).stay (λc v hc r=>k c v ?_ r) (λc r=>by rw[B8 (d c b r)];exact r) λc i r=>by rw[B8 (f c i r)];exact r
   rcases hc with rfl | hc
   .exact a
   .rintro rfl;rcases n with z | z
    .exact d c b hc z
    .rw[hc]at z;cases z;exact j rfl
end
structure Un(fs ex:A0 A2)(H H':Hp)(h h':HX):Prop where
 keep:∀b o,h.get? b=some o->H b=none->b∉fs->b∉ex->h'.get? b=some o
 slot:∀b o,h.get? b=some o->H b=none->b∈fs->b∉ex->∃sl,h'.get? b=some { o with slots:=sl }
 free:∀b o,h.get? b=some o->H b=none->b∉ex->H' b=none
 there:∀b o,h.get? b=some o->b∉ex->∃o',h'.get? b=some o'
 tups:∀b xs,H b=some (.tup xs)->H' b=some (.tup xs)
 frzs:∀b o u,H b=some (.frz o u)->H' b=some (.frz o u)
 tbls:∀b ps,H b=some (.tbl ps)->∃more,H' b=some (.tbl (ps++more))
section
variable{fs fs' ex ex':A0 A2}{H H1 H2:Hp}{h h1 h2 h':HX}{a x e:A2}{o:HO}
theorem Un.any(u:Un fs ex H H1 h h1){b:A2}{ob:Obj}(q:h.get? b=some ob)(n:H b=none)(a:b∉ex):∃d,h1.get? b=some { ob with slots:=d }:=by
 by_cases c:b∈fs
 .exact u.slot b ob q n c a
 .exact⟨ob.slots,u.keep b ob q n c a⟩
theorem Un.kept(k:∀b u,h.get? b=some u->h'.get? b=some u):Un fs ex H H h h' :=
 ⟨λb a q _ _ _=>k b a q,λb a q _ _ _=>⟨a.slots,k b a q⟩,λ_ _ _ n _=>n,λb a q _=>⟨a,k b a q⟩,λ_ _ q=>q,λ_ _ _ q=>q,λ_ c q=>⟨#[],by rw[q];simp⟩⟩
theorem Un.refl:Un fs ex H H h h:=Un.kept λ_ _ q=>q
theorem Un.laid(k:∀b u,h.get? b=some u->h'.get? b=some u)(d:h.objs.size<=a)(c:H a=none):Un fs ex H (HU H a o) h h' where
 keep:=λb u q _ _ _=>k b u q
 slot:=λb u q _ _ _=>⟨u.slots,k b u q⟩
 free:=λb u q n _=>by rw[B8 (BC (BI (AK q) d))];exact n
 there:=λb u q _=>⟨u,k b u q⟩
 tups:=λb e q=>by rw[B8 (B3 q c)];exact q
 frzs:=λb u e q=>by rw[B8 (B3 q c)];exact q
 tbls:=λb f q=>⟨#[],by rw[B8 (B3 q c),q];simp⟩
theorem Un.write(c:VO (H x))(j:e=x\/H e=some (.own x))(k:∀b u,b≠e->h.get? b=some u->h'.get? b=some u)(d:∃u,h'.get? e=some u):Un fs ex H (HU H x o) h h':=by
 have g:∀b,H b=none->b≠x:=λb n z=>by subst z;rw[n]at c;exact c
 have i:∀b,H b=none->b≠e:=λb n z=>by
  subst z;rcases j with r | r
  .exact g b n r
  .rw[n]at r;cases r
 have f:∀b u,H b=some u->¬VO (some u)->b≠x:=λb u q l z=>by subst z;rw[q]at c;exact l c
 refine⟨λb u q n _ _=>k b u (i b n) q,λb u q n _ _=>⟨u.slots,k b u (i b n) q⟩,λb u q n _=>by rw[B8 (g b n)];exact n,λb u q _=>?_,
  λb m q=>by rw[B8 (f b _ q λz=>z)];exact q,λb u m q=>by rw[B8 (f b _ q λz=>z)];exact q,λb p q=>⟨#[],by rw[B8 (f b _ q λz=>z),q];simp⟩⟩
 by_cases a:b=e
 .subst a;exact d
 .exact⟨u,k b u a q⟩
end
def UG(h:HX)(H:Hp):A0 A2:=(List.range h.objs.size).filter λa=>(H a).isSome
def Uk(h:HX)(H:Hp):HX:=PySem.W.hideAll h (UG h H)
def Hk(h:HX)(H:Hp):(Uk h H).objs.size=h.objs.size:=PySem.W.hideAll_size _ _
def As{h:HX}{H:Hp}{b:A2}{o:Obj}(e:h.get? b=some o)(n:H b=none):(Uk h H).get? b=some o :=
 PySem.W.hideAll_get _ e λa=>by
  have q:(H b).isSome=true:=(BV.mp a).2;rw[n]at q;simp at q
def Ps{h:HX}{H:Hp}{b:A2}{o:Obj}(e:(Uk h H).get? b=some o):h.get? b=some o/\H b=none:=by
 have a:h.get? b=some o:=PySem.W.of_hideAll (UG h H) e;refine⟨a,?_⟩;cases q:H b with
 | none=>rfl
 | some x =>
  have c:b∈UG h H:=BV.mpr ⟨CY.mpr (AK a),by simp[q]⟩;have z:(Uk h H).get? b=none:=PySem.W.hideAll_none (UG h H) c;rw[z]at e;cases e
structure Mod(K:PySem.W.Frag)(mg:Str->A6 A1)(base:HX):Prop where
 kin:K.In base
 glob:base.Ns mainGlobals mg
 blt:∃mb,base.Ns builtinsNs mb/\∀x:Str,x≠ "__name__"->mb x=bootBuiltins x
 nolimit:base.NoLimit
set_option genInjectivity false in
structure Cx where
 prog:Cv
 w:HS
 K:PySem.W.Frag
 mg:Str->A6 A1
 base:HX
 A:HZ
 N:A0 Str
 s₀:A5
 H₀:Hp
 env:NL
 outer:A0 NL
 stack:A0 NL
 ex:A0 A2
 fn:Str->Bool
 calm:Bool
 pn:A0 (A2×Obj)
 xe:A1->A5->Prop
def MW(l:A0 NL):A0 A2:=l.filterMap (·.frame)
abbrev Cx.fs(X:Cx):A0 A2:=MW X.outer
def UT(a:IT)(x:Str):Prop:=a.names.lookup x=some .local\/a.names.lookup x=some .cell\/a.names.lookup x=some .free
def Loc(a:IT)(x:Str):Prop:=a.names.lookup x=some .local\/a.names.lookup x=some .cell
def zHy(a:NL)(h:HX)(m:Str->A6 A1)(x:Str)(u:A1):Prop :=
 (a.kindOf x=some .local/\m x=some u)\/((a.kindOf x=some .cell\/a.kindOf x=some .free)/\∃c,a.cells.lookup x=some c/\h.IsCell c (some u))
structure Cx.Ok(X:Cx):Prop where
 mod:Mod X.K X.mg X.base
 kind:X.env.scope.kind = .function
 glob:X.env.globals=mainGlobals
 blt:X.env.builtins=builtinsNs
 above:X.s₀.heap.objs.size<=X.env.locals
 inj:∀x y c,X.env.cells.lookup x=some c->X.env.cells.lookup y=some c->x=y
 has:∀x,(X.env.kindOf x=some .cell\/X.env.kindOf x=some .free)->∃c,X.env.cells.lookup x=some c
 cab:∀x c,X.fn x=true->X.env.cells.lookup x=some c->X.s₀.heap.objs.size<=c
 hd:X.calm=true->X.A.handled=none
 frames:X.A.frames=some X.stack
 stk:X.stack=X.outer\/(X.stack=X.env::X.outer/\X.env.frame=some X.env.locals)
 exf:∀b∈X.ex,b≠X.env.locals/\∀x c,X.env.cells.lookup x=some c->c≠b
 bs:∀b o,X.base.get? b=some o->X.s₀.heap.get? b=some o/\X.H₀ b=none
 bsz:X.base.objs.size<=X.s₀.heap.objs.size
 noex:∀b o,X.base.get? b=some o->b∉X.ex
 exfs:∀b∈X.ex,b∉X.fs
 funs:X.s₀.heap.FunFrames X.base X.outer
 frf:∀b∈X.fs,X.H₀ b=none
structure Inv(X:Cx)(pins:A0 (A2×Obj))(σ:A0 (A6 V))(H:Hp)(s:A5):Prop where
 ok:X.Ok
 os:s.os=X.s₀.os
 bare:AllBare s.gens
 base:Un X.fs X.ex X.H₀ H X.s₀.heap s.heap
 loc:∃m,s.heap.Ns X.env.locals m/\∀(i:Nat) (x:Str) (v:V),X.N[i]?=some x->σ[i]?=some (some v)->UT X.env.scope x->∃u,RelV v u/\zHy X.env s.heap m x u
 cell:∀x c,X.env.cells.lookup x=some c->∃v,s.heap.IsCell c v
 free:H X.env.locals=none
 freeC:∀x c,X.env.cells.lookup x=some c->H c=none
 pin:∀p∈X.pn++pins,s.heap.get? p.1=some p.2/\H p.1=none/\p.1≠X.env.locals/\p.1∉X.fs/\∀v,p.2.data≠ .cell v
 hok:L0 X.prog X.w H s.heap
 len:σ.length=X.N.length
section
variable{X:Cx}{pins:A0 (A2×Obj)}{σ:A0 (A6 V)}{H H':Hp}{s:A5}{h':HX}
theorem Cx.Ok.nofr(a:X.Ok){b:A2}{o:Obj}(e:X.base.get? b=some o):b∉X.fs:=λc=>by
 have:=(a.funs.mem c).1;rw[e]at this;cases this
theorem Inv.bs(I:Inv X pins σ H s):∀b o,X.base.get? b=some o->s.heap.get? b=some o/\H b=none:=λb o e =>
 ⟨I.base.keep b o (I.ok.bs b o e).1 (I.ok.bs b o e).2 (I.ok.nofr e) (I.ok.noex b o e),I.base.free b o (I.ok.bs b o e).1 (I.ok.bs b o e).2 (I.ok.noex b o e)⟩
theorem Inv.bk(I:Inv X pins σ H s):∀b o,X.base.get? b=some o->s.heap.get? b=some o:=λb o e=>(I.bs b o e).1
theorem Inv.mod(I:Inv X pins σ H s):Mod X.K X.mg X.base:=I.ok.mod
theorem Inv.kIn(I:Inv X pins σ H s):X.K.In s.heap:=I.ok.mod.kin.keeps I.bk
theorem Inv.lt(I:Inv X pins σ H s):X.env.locals<s.heap.objs.size:=let⟨_,a,_⟩:=I.loc;a.lt
theorem Inv.sz(I:Inv X pins σ H s):X.s₀.heap.objs.size<=s.heap.objs.size:=Nat.le_trans I.ok.above (DB I.lt)
theorem Inv.nofs(I:Inv X pins σ H s){a:A2}(h:s.heap.objs.size<=a):a∉X.fs:=λb=>by
 obtain⟨_,o,c,_⟩:=I.ok.funs.mem b;exact absurd (BI (AK c) (Nat.le_trans I.sz h)) (CM _)
theorem Inv.cne(I:Inv X pins σ H s):∀x c,X.env.cells.lookup x=some c->c≠X.env.locals:=λx c e z=>by
 obtain⟨v,o,d,f⟩:=I.cell x c e;obtain⟨m,⟨g,h,i,a,b,_⟩,_⟩:=I.loc;rw[z,a]at d;cases d;rw[b]at f;cases f
theorem Inv.funs(I:Inv X pins σ H s):s.heap.FunFrames X.base X.outer:=by
 have a:∀(l:A0 NL),(∀b∈MW l,b∈X.fs)->X.s₀.heap.FunFrames X.base l->s.heap.FunFrames X.base l:=by
  intro l
  induction l with
  | nil=>intro _ _;trivial
  | cons h r i =>
   intro g j;obtain⟨k,⟨L,o,c,m,n,p⟩,q⟩:=j;have d:L∈X.fs:=g L (by unfold MW;rw[CU,c];exact AZ);obtain⟨t,e⟩:=I.base.slot L o n (I.ok.frf L d) d λz=>I.ok.exfs L z d;exact⟨k,⟨L,_,c,m,e,p⟩,i (λb f=>g b (by unfold MW;rw[CU,c];exact AQ _ f)) q⟩
 exact a X.outer (λ_ f=>f) I.ok.funs
theorem Inv.stack(I:Inv X pins σ H s):s.heap.FunFrames X.base X.stack:=by
 rcases I.ok.stk with e | ⟨e,a⟩
 .rw[e];exact I.funs
 .rw[e];obtain⟨m,b,_⟩:=I.loc;refine .cons (by rw[I.ok.kind];decide) a b ?_ I.funs;exact Heap.get?_none_of_le (Nat.le_trans I.ok.bsz I.ok.above)
theorem Inv.stkSub(I:Inv X pins σ H s):∀b∈MW X.stack,b∈X.env.locals::X.fs:=λb a=>by
 rcases I.ok.stk with e | ⟨e,c⟩
 .rw[e]at a;exact AQ _ a
 .rw[e]at a;unfold MW at a;rw[CU,c]at a;exact a
theorem Inv.stkFree(I:Inv X pins σ H s):∀b∈MW X.stack,H b=none:=λb hb=>by
 rcases A_.mp (I.stkSub b hb)with e | hb
 .rw[e];exact I.free
 .obtain⟨_,o,a,_⟩:=I.ok.funs.mem hb;exact I.base.free b o a (I.ok.frf b hb) λz=>I.ok.exfs b z hb
theorem Inv.step{g':HQ GenState}{t':Nat}{d':Drawn}{ch:A0 A2}(I:Inv X pins σ H s)
  (g:∀b∈ch,(b∈X.ex\/X.s₀.heap.objs.size<=b)/\b≠X.env.locals/\(∀x c,X.env.cells.lookup x=some c->c≠b)/\∀p∈X.pn++pins,p.1≠b)
  (h:∀b o,b≠X.env.locals->b∉X.fs->b∉ch->s.heap.get? b=some o->H b=none->h'.get? b=some o)
  (B:∀b o,b≠X.env.locals->b∈X.fs->b∉ch->s.heap.get? b=some o->H b=none->∃N,h'.get? b=some { o with slots:=N }) (f:∀b o,b∉ch->s.heap.get? b=some o->H b=none->H' b=none)
  (C:∀b o,b∉ch->s.heap.get? b=some o->∃F,h'.get? b=some F)
  (G:∀b xs,H b=some (.tup xs)->H' b=some (.tup xs)) (J:∀b o u,H b=some (.frz o u)->H' b=some (.frz o u)) (K:∀b ps,H b=some (.tbl ps)->∃more,H' b=some (.tbl (ps++more)))
  (ns:∀m,s.heap.Ns X.env.locals m->h'.Ns X.env.locals m) (O:L0 X.prog X.w H' h') (V:AllBare g') :
  Inv X pins σ H' { s with heap:=h',gens:=g',drawn:=d',toks:=t' }:=by
 have L:∀b o,X.s₀.heap.get? b=some o->b≠X.env.locals:=λb o e=>BC (BI (AK e) I.ok.above);have y:∀b o,X.s₀.heap.get? b=some o->b∉X.ex->b∉ch:=λb o e a D=>by
  rcases(g b D).1 with z | z
  .exact a z
  .exact absurd (BI (AK e) z) (CM _)
 have j:∀x c,X.env.cells.lookup x=some c->∀v,s.heap.IsCell c v->h'.IsCell c v:=λx c e v ⟨o,E,P⟩=>by
  have t:c∉ch:=λz=>(g c z).2.2.1 x c e rfl;by_cases R:c∈X.fs
  .obtain⟨N,q⟩:=B c o (I.cne x c e) R t E (I.freeC x c e);exact⟨_,q,P⟩
  .exact⟨o,h c o (I.cne x c e) R t E (I.freeC x c e),P⟩
 refine⟨I.ok,I.os,V,⟨λb o e n D a=>?_,λb o e n D a=>?_,λb o e n a=>?_,λb o e a=>?_,λb xs e=>G b xs (I.base.tups b xs e),λb o xs e=>J b o xs (I.base.frzs b o xs e),λb ps e=>?_⟩,?_,λx c e=>?_,?_,λx c e=>?_,λp S=>?_,O,I.len⟩
 .exact h b o (L b o e) D (y b o e a) (I.base.keep b o e n D a) (I.base.free b o e n a)
 .obtain⟨N,A⟩:=I.base.slot b o e n D a;obtain⟨Q,M⟩:=B b _ (L b o e) D (y b o e a) A (I.base.free b o e n a);exact⟨Q,M⟩
 .obtain⟨F,A⟩:=I.base.there b o e a;exact f b F (y b o e a) A (I.base.free b o e n a)
 .obtain⟨F,A⟩:=I.base.there b o e a;exact C b F (y b o e a) A
 .obtain⟨W,A⟩:=I.base.tbls b ps e;obtain⟨Y,M⟩:=K b _ A;exact⟨W++Y,by rw[M,Array.append_assoc]⟩
 .obtain⟨m,Z,hl⟩:=I.loc;refine⟨m,ns m Z,λi x v A M e3=>?_⟩;obtain⟨u,r,l⟩:=hl i x v A M e3;refine⟨u,r,?_⟩;rcases l with l | ⟨k,c,e,z⟩
  .exact .inl l
  .exact .inr ⟨k,c,e,j x c e _ z⟩
 .obtain⟨v,z⟩:=I.cell x c e;exact⟨v,j x c e v z⟩
 .obtain⟨m,⟨o,_,_,E,_⟩,_⟩:=I.loc;exact f _ o (λz=>(g _ z).2.1 rfl) E I.free
 .obtain⟨v,o,E,P⟩:=I.cell x c e;exact f c o (λz=>(g c z).2.2.1 x c e rfl) E (I.freeC x c e)
 .obtain⟨e,n,T,U,d⟩:=I.pin p S;have t:p.1∉ch:=λz=>(g p.1 z).2.2.2 p S rfl;exact⟨h p.1 p.2 T U t e n,f p.1 p.2 t e n,T,U,d⟩
theorem Inv.un{t':Nat}(I:Inv X pins σ H s)(u:Un X.fs [] H H' s.heap h')(c:L0 X.prog X.w H' h'):Inv X pins σ H' { s with heap:=h',toks:=t' }:=by
 obtain⟨m,⟨o,l,p,h,r⟩,_⟩:=id I.loc;obtain⟨q,i⟩:=u.any h I.free (by simp);exact I.step (g':=s.gens) (d':=s.drawn) (ch:=[]) (λ_ z=>nomatch z) (λb o _ d _ e n=>u.keep b o e n d (by simp)) (λb o _ d _ e n=>u.slot b o e n d (by simp)) (λb o _ e n=>u.free b o e n (by simp)) (λb o _ e=>u.there b o e (by simp)) u.tups u.frzs u.tbls (λt j=>by
  obtain⟨v,f,g,a,k⟩:=j;rw[h]at a;cases a;exact⟨_,f,g,i,k⟩) c I.bare
theorem Inv.call{g':HQ GenState}{t':Nat}{d':Drawn}{ch:A0 A2}(I:Inv X pins σ H s)(u:Un (MW X.stack) ch H H' s.heap h')(g:L0 X.prog X.w H' h')(l:AllBare g')
  (d:∀b∈ch,(b∈X.ex\/X.s₀.heap.objs.size<=b)/\b≠X.env.locals/\(∀x c,X.env.cells.lookup x=some c->c≠b)/\∀p∈X.pn++pins,p.1≠b) :
  Inv X pins σ H' { s with heap:=h',gens:=g',drawn:=d',toks:=t' }:=by
 obtain⟨m,⟨o,y,A,k,r⟩,_⟩:=id I.loc;obtain⟨B,h⟩:=u.any k I.free λz=>(d _ z).2.1 rfl;exact I.step (ch:=ch) d (λb o h q a e n=>u.keep b o e n (λz=>(A_.mp (I.stkSub b z)).elim h q) a) (λb o _ _ a e n=>u.any e n a) (λb o a e n=>u.free b o e n a) (λb o a e=>u.there b o e a) u.tups u.frzs u.tbls (λC t=>by
  obtain⟨D,i,j,f,v⟩:=t;rw[k]at f;cases f;exact⟨_,i,j,h,v⟩) g l
theorem Inv.turned{t':Nat}{a:A2}(I:Inv X pins σ H s)(k:∀b o,b≠a->s.heap.get? b=some o->h'.get? b=some o)(h:H a=none)(g:a≠X.env.locals)
  (h1:a∈X.ex\/X.s₀.heap.objs.size<=a) (h2:∀x c,X.env.cells.lookup x=some c->c≠a) (i:∀p∈X.pn++pins,p.1≠a):Inv X pins σ H { s with heap:=h',toks:=t' }:=by
 have f:∀b u,H b=some u->b≠a:=λb u e z=>by rw[z,h]at e;cases e
 refine I.step (g':=s.gens) (d':=s.drawn) (ch:=[a]) (λb j=>?_) (λb o _ _ d e _=>k b o (λz=>d (by simp[z])) e) (λb o _ _ d e _=>⟨o.slots,k b o (λz=>d (by simp[z])) e⟩) (λ_ _ _ _ n=>n)
  (λb o d e=>⟨o,k b o (λz=>d (by simp[z])) e⟩) (λ_ _ e=>e) (λ_ _ _ e=>e) (λb A e=>⟨#[],by rw[e];simp⟩) (λm l=>?_) (λb u e=>?_) I.bare
 .have e:b=a:=by simpa using j
  subst e;exact⟨h1,g,h2,i⟩
 .obtain⟨o,t,w,y,r⟩:=l;exact⟨o,t,w,k _ o (Ne.symm g) y,r⟩
 .refine(I.hok b u e).stay (λc v d q=>k c v ?_ q) (λ_ q=>q) λ_ _ q=>q;rcases d with z | z
  .rw[z];exact f b u e
  .exact f c _ z
theorem Inv.tok(I:Inv X pins σ H s)(t:Nat):Inv X pins σ H { s with toks:=t }:=I.un (h':=s.heap) (t':=t) Un.refl I.hok
theorem Inv.kept{t':Nat}(I:Inv X pins σ H s)(k:∀b u,s.heap.get? b=some u->h'.get? b=some u):Inv X pins σ H { s with heap:=h',toks:=t' }:=I.un (Un.kept k) (I.hok.kept k)
theorem Inv.laid{a:A2}{o:HO}{t':Nat}(I:Inv X pins σ H s)(k:∀b u,s.heap.get? b=some u->h'.get? b=some u)(c:s.heap.objs.size<=a)(d:IM X.prog X.w (HU H a o) h' a o) :
  Inv X pins σ (HU H a o) { s with heap:=h',toks:=t' }:=I.un (Un.laid k c (I.hok.fresh c)) (I.hok.laid k c d)
theorem Inv.write{x e:A2}{o:HO}{t':Nat}(I:Inv X pins σ H s)(d:VO (H x))(f:e=x\/H e=some (.own x))(k:∀b u,b≠e->s.heap.get? b=some u->h'.get? b=some u)(a:∃u,h'.get? e=some u)
  (c:IM X.prog X.w (HU H x o) h' x o):Inv X pins σ (HU H x o) { s with heap:=h',toks:=t' }:=I.un (Un.write d f k a) (I.hok.write d f k a c)
theorem Inv.pins_of{a:A0 (A2×Obj)}(I:Inv X pins σ H s)(h:∀p∈a,s.heap.get? p.1=some p.2/\H p.1=none/\p.1≠X.env.locals/\p.1∉X.fs/\∀v,p.2.data≠ .cell v):Inv X a σ H s :=
 ⟨I.ok,I.os,I.bare,I.base,I.loc,I.cell,I.free,I.freeC,λp b=>(AH.mp b).elim (λz=>I.pin p (BS _ z)) (h p),I.hok,I.len⟩
theorem Fp{N:A0 Str}(c:N.Nodup){i j:Nat}{x:Str}(a:N[i]?=some x)(b:N[j]?=some x):i=j:=by
 obtain⟨f,d⟩:=AR.mp a;obtain⟨g,e⟩:=AR.mp b;exact(List.getElem_inj c).mp (d.trans e.symm)
theorem n8{M:Model}{A:HZ}{E:A1->A5->Prop}{i:Nat}{x:Str}{v:V}{u:A1}{Q:Unit->A5->Prop}(I:Inv X pins σ H s)(hN:X.N.Nodup)(hi:X.N[i]?=some x)(t:Loc X.env.scope x)(r:RelV v u)
  (h:∀W,Inv X pins (σ.set i (some v)) H W->(∃a,Heap.SameBut a s.heap W.heap/\(a=X.env.locals\/X.env.cells.lookup x=some a))->Q () W) (hf:X.fn x=true\/X.env.scope.names.lookup x=some .local:=by first | exact .inl rfl | exact .inr rfl | assumption):wpAny M A (storeName X.env x u) Q E s:=by
 obtain⟨m,Y,hl⟩:=id I.loc;have K:(X.env.scope.kind == .class||(X.env.scope.kind == .module&&X.env.locals != X.env.globals))=false:=by rw[I.ok.kind];rfl
 have hiσ:i<σ.length:=by rw[I.len];exact(AR.mp hi).1
 have D:=I.cne;have g:∀{a:A2} {h':HX},(∃o,s.heap.get? a=some o/\H a=none)->Heap.SameBut a s.heap h'->L0 X.prog X.w H h':=fun{a h'} ha f b ob e=>by
  obtain⟨_,_,B⟩:=ha;refine(I.hok b ob e).stay (λc S hc q=>(f.2 c ?_).trans q) (λ_ q=>q) λ_ _ q=>q;rintro rfl;rcases hc with rfl | hc
  .rw[B]at e;cases e
  .rw[B]at hc;cases hc
 rcases t with hk | hk
 .refine wpAny_storeName_local hk Y (λh' Z f=>?_) K;obtain⟨oL,_,_,hoL,_⟩:=id Y;refine h _ ⟨I.ok,I.os,I.bare,⟨λb o e n F t=>?_,λb o e n F t=>?_,I.base.free,λb o e t=>?_,I.base.tups,I.base.frzs,I.base.tbls⟩,⟨_,Z,λj y v' l C e3=>?_⟩,λy c e=>?_,I.free,I.freeC,λp hp=>?_,g ⟨oL,hoL,I.free⟩ f,by simpa using I.len⟩ ⟨_,f,.inl rfl⟩
  .exact(f.2 b (BC (BI (AK e) I.ok.above))).trans (I.base.keep b o e n F t)
  .obtain⟨sl,l⟩:=I.base.slot b o e n F t;exact⟨sl,(f.2 b (BC (BI (AK e) I.ok.above))).trans l⟩
  .obtain⟨o',l⟩:=I.base.there b o e t;exact⟨o',(f.2 b (BC (BI (AK e) I.ok.above))).trans l⟩
  .by_cases G:j=i
   .subst G;rw[hi]at l;cases l;rw[List.getElem?_set_self hiσ]at C;cases C;exact⟨u,r,.inl ⟨hk,by simp⟩⟩
   .rw[List.getElem?_set_ne (Ne.symm G)]at C;obtain⟨u',r',q⟩:=hl j y v' l C e3;refine⟨u',r',?_⟩;rcases q with⟨k,e⟩ | ⟨k,c,e,z⟩
    .refine .inl ⟨k,?_⟩;have:y≠x:=λe=>G (Fp hN l (e▸hi));simp[this,e]
    .exact .inr ⟨k,c,e,z.sameBut f (D y c e)⟩
  .obtain⟨S,z⟩:=I.cell y c e;exact⟨S,z.sameBut f (D y c e)⟩
  .obtain⟨e,n,T,nf,d⟩:=I.pin p hp;exact⟨(f.2 p.1 T).trans e,n,T,nf,d⟩
 .have J:X.fn x=true:=by
   rcases hf with z | z
   .exact z
   .rw[z]at hk;cases hk
  obtain⟨c,hc⟩:=I.ok.has x (.inl hk);obtain⟨S,z⟩:=I.cell x c hc;refine wpAny_storeName_cell I.ok.kind hk hc z (λh' L f=>?_);obtain⟨oc,O,P⟩:=id z;refine h { s with heap:=h' } ⟨I.ok,I.os,I.bare,⟨λb o e n F t=>?_,λb o e n F t=>?_,I.base.free,λb o e t=>?_,I.base.tups,I.base.frzs,I.base.tbls⟩,⟨m,Y.sameBut f (Ne.symm (D x c hc)),λj y v' l C e3=>?_⟩,λy U e=>?_,I.free,I.freeC,λp hp=>?_,g ⟨oc,O,I.freeC x c hc⟩ f,by simpa using I.len⟩ ⟨c,f,.inr hc⟩
  .exact(f.2 b (BC (BI (AK e) (I.ok.cab x c J hc)))).trans (I.base.keep b o e n F t)
  .obtain⟨sl,l⟩:=I.base.slot b o e n F t;exact⟨sl,(f.2 b (BC (BI (AK e) (I.ok.cab x c J hc)))).trans l⟩
  .obtain⟨o',l⟩:=I.base.there b o e t;exact⟨o',(f.2 b (BC (BI (AK e) (I.ok.cab x c J hc)))).trans l⟩
  .by_cases G:j=i
   .subst G;rw[hi]at l;cases l;rw[List.getElem?_set_self hiσ]at C;cases C;exact⟨u,r,.inr ⟨.inl hk,c,hc,L⟩⟩
   .rw[List.getElem?_set_ne (Ne.symm G)]at C;obtain⟨u',r',q⟩:=hl j y v' l C e3;refine⟨u',r',?_⟩;rcases q with q | ⟨k,U,e,z'⟩
    .exact .inl q
    .refine .inr ⟨k,U,e,z'.sameBut f ?_⟩;rintro rfl;exact G (Fp hN l (I.ok.inj _ _ _ e hc▸hi))
  .by_cases R:U=c
   .subst R;exact⟨_,L⟩
   .obtain⟨w2,z2⟩:=I.cell y U e;exact⟨w2,z2.sameBut f R⟩
  .obtain⟨e,n,T,nf,d⟩:=I.pin p hp;refine⟨(f.2 p.1 ?_).trans e,n,T,nf,d⟩;intro q;rw[q,O]at e;have q':oc=p.2:=CJ e;exact d S (by rw[<-q'];exact P)
theorem i6{M:Model}{A:HZ}{E:A1->A5->Prop}{i:Nat}{x:Str}{v:V}{u:A1}{Q:Unit->A5->Prop}(I:Inv X pins σ H s)(b:X.N.Nodup)(hi:X.N[i]?=some x)(c:Loc X.env.scope x)(r:RelV v u)
  (h:∀a,Inv X pins (σ.set i (some v)) H a->Q () a) (d:X.fn x=true\/X.env.scope.names.lookup x=some .local:=by first | exact .inl rfl | exact .inr rfl | assumption):wpAny M A (storeName X.env x u) Q E s :=
 n8 I b hi c r (λa e _=>h a e) d
theorem Inv.call'{a:A5}{ch:A0 A2}(I:Inv X pins σ H s)(g:a.os=s.os)(u:Un (MW X.stack) ch H H' s.heap a.heap)(d:L0 X.prog X.w H' a.heap)(h:AllBare a.gens)
  (f:∀b∈ch,(b∈X.ex\/X.s₀.heap.objs.size<=b)/\b≠X.env.locals/\(∀x c,X.env.cells.lookup x=some c->c≠b)/\∀p∈X.pn++pins,p.1≠b):Inv X pins σ H' a:=by
 obtain⟨h',g',d',t',i⟩:=a;have e:i=s.os:=g;subst e;exact I.call (g':=g') (t':=t') (d':=d') u d h f
end
abbrev XK:=A1->A6 A2->Hp->Prop
abbrev St:=A0 (A6 V)
abbrev VK:=V->Hp->Prop
abbrev TE:=St->Hp->VK->Prop
abbrev TT:=St->Hp->(Bool->Hp->Prop)->Prop
abbrev TA:=St->Hp->(A0 V->Hp->Prop)->Prop
set_option genInjectivity false in
structure Ends where
 nx:St->Hp->Prop
 rt:VK
 bk:St->Hp->Prop:=λ_ _=>False
 ct:St->Hp->Prop:=λ_ _=>False
abbrev TS:=Ends->St->Hp->Prop
def EP(X:Cx)(a:A0 (A2×Obj))(σ:St)(Q:VK)(u:A1)(c:A5):Prop:=∃v b,Inv X a σ b c/\RelV v u/\Q v b
def TP(X:Cx)(a:A0 (A2×Obj))(σ:St)(Q:Bool->Hp->Prop)(b:Bool)(d:A5):Prop:=∃c,Inv X a σ c d/\Q b c
def AP(X:Cx)(a:A0 (A2×Obj))(σ:St)(Q:A0 V->Hp->Prop)(us:A0 A1)(d:A5):Prop:=∃b c,Inv X a σ c d/\IC b us/\Q b c
def SP(X:Cx)(a:A0 (A2×Obj))(D:Ends)(f:Flow)(c:A5):Prop :=
 match f with
 | .next=>∃σ' b,Inv X a σ' b c/\D.nx σ' b
 | .brk=>∃σ' b,Inv X a σ' b c/\D.bk σ' b
 | .cont=>∃σ' b,Inv X a σ' b c/\D.ct σ' b
 | .ret u=>∃v σ' b,Inv X a σ' b c/\RelV v u/\D.rt v b
def PE(X:Cx)(e:H_)(t:TE):Prop :=
 ∀(a:A0 (A2×Obj)) (s:A5) (σ:St) (H:Hp) (Q:VK),Inv X a σ H s->t σ H Q->wpAny (model X.prog X.w) X.A (eval e X.env) (EP X a σ Q) X.xe s
def PT(X:Cx)(e:H_)(t:TT):Prop :=
 ∀(a:A0 (A2×Obj)) (s:A5) (σ:St) (H:Hp) (Q:Bool->Hp->Prop),Inv X a σ H s->t σ H Q->wpAny (model X.prog X.w) X.A (isTrue e X.env (eval e X.env)) (TP X a σ Q) X.xe s
def PW(X:Cx)(e:H_)(t:TT):Prop :=
 ∀(b:Sem A1) (a:A0 (A2×Obj)) (s:A5) (σ:St) (H:Hp) (Q:Bool->Hp->Prop),Inv X a σ H s->t σ H Q->wpAny (model X.prog X.w) X.A (isTrue e X.env b) (TP X a σ Q) X.xe s
def PW.pt{X:Cx}{e:H_}{t:TT}(h:PW X e t):PT X e t:=h _
def PA(X:Cx)(c:A0 H_)(t:TA):Prop :=
 ∀(b:Pos) (a:A0 (A2×Obj)) (s:A5) (σ:St) (H:Hp) (Q:A0 V->Hp->Prop),Inv X a σ H s->t σ H Q->wpAny (model X.prog X.w) X.A (spliced (backTo b (starEach c X.env))) (AP X a σ Q) X.xe s
def PS(X:Cx)(st:IE)(t:TS):Prop :=
 ∀(a:A0 (A2×Obj)) (s:A5) (σ:St) (H:Hp) (D:Ends),Inv X a σ H s->t D σ H->wpAny (model X.prog X.w) X.A (exec st X.env) (SP X a D) X.xe s
def P7(X:Cx)(st:A0 IE)(t:TS):Prop :=
 ∀(a:A0 (A2×Obj)) (s:A5) (σ:St) (H:Hp) (D:Ends),Inv X a σ H s->t D σ H->wpAny (model X.prog X.w) X.A (execs st X.env) (SP X a D) X.xe s
def IZ{α:Type}{t:Sem α}{Q b:α->A5->Prop}{M:Model}{A:HZ}{E:A1->A5->Prop}{s:A5}(h:wpAny M A t Q E s)(c:∀a s,Q a s->b a s):wpAny M A t b E s:=CA h c λ_ _ x=>x
section
variable{X:Cx}
def Jw(i:Nat):TE:=λσ H Q=>∃v,σ[i]?=some (some v)/\Q v H
def tC(v:V):TE:=λ_ H Q=>Q v H
theorem Qc{i:Nat}{x:Str}{pos:Pos}(k:X.N[i]?=some x)(n:UT X.env.scope x)(f:(x ==("__debug__":Str))=false:=by decide)(g:(x ==("__classdict__":Str))=false:=by decide):PE X (.Name x pos) (Jw i):=by
 intro d s σ H Q I h;obtain⟨v,e,h⟩:=h;obtain⟨m,o,p⟩:=I.loc;obtain⟨u,r,l⟩:=p i x v k e n;have b:EP X d σ Q u s:=⟨v,H,I,r,h⟩;rcases l with⟨hk,q⟩ | ⟨hk,c,j,a⟩
 .exact wpAny_Name (wpAny_loadName_local I.ok.kind hk o q b) f
 .rcases hk with hk | hk
  .exact wpAny_Name (wpAny_loadName_cell I.ok.kind hk j a b) f
  .exact wpAny_Name (wpAny_loadName_free I.ok.kind hk j a b g) f
theorem B4{i j pos}:PE X (.Constant (.int i) j pos) (tC (.int i)):=λ_ _ _ H _ I h=>wpAny_Constant_int ⟨.int i,H,I.tok _,⟨_,rfl⟩,h⟩
theorem Cn{b j pos}:PE X (.Constant (.bool b) j pos) (tC (.bl b)):=λ_ _ _ H _ I h=>Constant_bool ⟨.bl b,H,I,rfl,h⟩
theorem m8{j pos}:PE X (.Constant .none j pos) (tC .non):=λ_ _ _ H _ I h=>Constant_none ⟨.non,H,I,rfl,h⟩
theorem E3{x j pos}:PE X (.Constant (.str x) j pos) (tC (.str x)):=λ_ _ _ H _ I h=>Calls.Constant_str ⟨.str x,H,I.tok _,⟨_,rfl⟩,h⟩
def Gl(X:Cx)(x:Str):Prop:=X.env.kindOf x=some .globalImplicit
theorem u0{E:A1->A5->Prop}{a:A0 (A2×Obj)}{s:A5}{σ:St}{H:Hp}{x:Str}{u:A1}{pos:Pos}{Q:A1->A5->Prop}(I:Inv X a σ H s)(b:Gl X x)(c:X.mg x=some u)(h:Q u s)
  (d:(x ==("__debug__":Str))=false:=by decide):wpAny (model X.prog X.w) X.A (eval (.Name x pos) X.env) Q E s :=
 Calls.Name_function_global I.ok.kind b (Calls.loadGlobal_global (by rw[I.ok.glob];exact I.mod.glob.keeps I.bk) c h) d
theorem Bp{E:A1->A5->Prop}{a:A0 (A2×Obj)}{s:A5}{σ:St}{H:Hp}{x:Str}{u:A1}{pos:Pos}{Q:A1->A5->Prop}(I:Inv X a σ H s)(b:Gl X x)(c:X.mg x=none)(d:bootBuiltins x=some u)(h:Q u s)
  (e:x≠ "__name__":=by decide) (f:(x ==("__debug__":Str))=false:=by decide):wpAny (model X.prog X.w) X.A (eval (.Name x pos) X.env) Q E s:=by
 obtain⟨j,g,i⟩:=I.mod.blt;exact Calls.Name_function_global I.ok.kind b (Calls.loadGlobal_builtin (by rw[I.ok.glob];exact I.mod.glob.keeps I.bk) c (by rw[I.ok.blt];exact g.keeps I.bk) ((i x e).trans d) h) f
theorem Jj{x:Str}{v:V}{u:A1}{pos:Pos}(a:Gl X x)(b:X.mg x=some u)(r:RelV v u)(c:(x ==("__debug__":Str))=false:=by decide):PE X (.Name x pos) (tC v) :=
 λ_ _ _ H _ I h=>u0 I a b ⟨v,H,I,r,h⟩ c
theorem Zi{x:Str}{v:V}{u:A1}{pos:Pos}(a:Gl X x)(b:X.mg x=none)(c:bootBuiltins x=some u)(r:RelV v u)(d:x≠ "__name__":=by decide)(e:(x ==("__debug__":Str))=false:=by decide):PE X (.Name x pos) (tC v) :=
 λ_ _ _ H _ I h=>Bp I a b c ⟨v,H,I,r,h⟩ d e
variable{a b:H_}{ta tb:TE}{pos:Pos}
def PC(X:Cx)(d:CmpOp)(a b:H_)(t:TE):Prop :=
 ∀(c:A0 (A2×Obj)) (s:A5) (σ:St) (H:Hp) (Q:VK),Inv X c σ H s->t σ H Q ->
  wpAny (model X.prog X.w) X.A (eval a X.env) (λv s₁=>wpAny (model X.prog X.w) X.A (eval b X.env) (λu s₂=>wpAny (model X.prog X.w) X.A (compareOp d v u) (EP X c σ Q) X.xe s₂) X.xe s₁) X.xe s
def tB(t:TE):TT:=λσ H Q=>t σ H λx a=>∃c,x = .bl c/\Q c a
theorem Lj{g:CmpOp}{t:TE}(h:PC X g a b t)(h1:behindInMarks g b=false:=by first | exact e _ (by decide) (by decide) | rfl):PT X (.Compare a [g] [b] pos) (tB t):=by
 intro f s σ H Q I i;refine wpAny_isTrue_Compare1 (IZ (h f s σ H _ I i) λv o h1=>IZ h1 λu p j=>IZ j λc r ⟨x,k,l,m,n⟩=>?_) h1;obtain⟨d,rfl,q⟩:=n;cases m;exact CL ⟨k,l,q⟩
theorem K1{e:H_}{t:TE}(h:PE X e t)(c:∀a,isTrue e X.env a =(do let v <-a;standAt e.pos;holding [v] (truthy v)):=by intro _;rfl):PT X e (tB t):=by
 intro b s σ H Q I f;refine isTrue_plain (IZ (h b s σ H _ I f) λv l ⟨x,g,i,j,k⟩=>?_) (c _);obtain⟨d,rfl,q⟩:=k;cases j;exact CL ⟨g,i,q⟩
variable{tA tB':TT}{rest:A0 H_}
def zHn(t u:TT):TT:=λσ H Q=>t σ H λc a=>if c=true then u σ a Q else Q false a
def tOr(t u:TT):TT:=λσ H Q=>t σ H λc a=>if c=true then Q true a else u σ a Q
def zHb(t:TT):TT:=λσ H Q=>t σ H λc a=>Q (!c) a
theorem w9(d:PT X a tA):PW X (.BoolOp .And [a] pos) tA:=by
 intro f b s σ H Q I h;refine isTrue_and (IZ (d b s σ H Q I h) λc g e=>?_);cases c with
 | true=>exact isTrue_and_nil e
 | false=>exact e
theorem Y7(d:PT X a tA):PW X (.BoolOp .Or [a] pos) tA:=by
 intro f b s σ H Q I h;refine isTrue_or (IZ (d b s σ H Q I h) λc g e=>?_);cases c with
 | false=>exact isTrue_or_nil e
 | true=>exact e
theorem Ds(i:PT X a tA)(j:PW X (.BoolOp .And (b::rest) pos) tB'):PW X (.BoolOp .And (a::b::rest) pos) (zHn tA tB'):=by
 intro k d s σ H Q I h;refine isTrue_and (IZ (i d s σ H _ I h) λc l ⟨e,f,g⟩=>?_);cases c with
 | true=>exact j k d l σ e Q f g
 | false=>exact⟨e,f,g⟩
theorem Az(i:PT X a tA)(j:PW X (.BoolOp .Or (b::rest) pos) tB'):PW X (.BoolOp .Or (a::b::rest) pos) (tOr tA tB'):=by
 intro k d s σ H Q I h;refine isTrue_or (IZ (i d s σ H _ I h) λc l ⟨e,f,g⟩=>?_);cases c with
 | true=>exact⟨e,f,g⟩
 | false=>exact j k d l σ e Q f g
theorem Q8(d:PT X a tA):PT X (.UnaryOp .Not a pos) (zHb tA):=by
 intro b s σ H Q I h;exact isTrue_not (d b s σ H (λc e=>Q (!c) e) I h)
def zFb(ta tb:TE):TE:=λσ H Q=>ta σ H λx a=>∃c,x = .bl c/\if c=true then tb σ a Q else Q (.bl false) a
def zHr(ta tb:TE):TE:=λσ H Q=>ta σ H λx a=>∃c,x = .bl c/\if c=true then Q (.bl true) a else tb σ a Q
def zFt(ta:TE):TE:=λσ H Q=>ta σ H λx a=>∃c,x = .bl c/\Q (.bl (!c)) a
theorem V3{c}{t:TE}(h:PE X a t):PE X (.BoolOp c [a] pos) t:=λb s σ H Q I d=>BoolOp_one (h b s σ H Q I d)
theorem R8(i:PE X a ta)(j:PE X (.BoolOp .And (b::rest) pos) tb):PE X (.BoolOp .And (a::b::rest) pos) (zFb ta tb):=by
 intro d s σ H Q I h;refine BoolOp_and (IZ (i d s σ H _ I h) λv k ⟨x,f,g,l,e⟩=>?_);obtain⟨c,rfl,e⟩:=e;cases l;refine CL ?_;cases c with
 | true=>exact j d k σ f Q g e
 | false=>exact⟨.bl false,f,g,rfl,e⟩
theorem zEw(i:PE X a ta)(j:PE X (.BoolOp .Or (b::rest) pos) tb):PE X (.BoolOp .Or (a::b::rest) pos) (zHr ta tb):=by
 intro d s σ H Q I h;refine BoolOp_or (IZ (i d s σ H _ I h) λv k ⟨x,f,g,l,e⟩=>?_);obtain⟨c,rfl,e⟩:=e;cases l;refine CL ?_;cases c with
 | false=>exact j d k σ f Q g e
 | true=>exact⟨.bl true,f,g,rfl,e⟩
theorem zDz(e:PE X a ta):PE X (.UnaryOp .Not a pos) (zFt ta):=by
 intro b s σ H Q I h;refine UnaryOp_ (IZ (e b s σ H _ I h) λv j ⟨x,f,g,i,d⟩=>?_);obtain⟨c,rfl,d⟩:=d;cases i;exact not_of (CL ⟨.bl (!c),f,g,rfl,d⟩)
def tIf(t:TT)(ta tb:TE):TE:=λσ H Q=>t σ H λc a=>if c=true then ta σ a Q else tb σ a Q
theorem Mu{c:H_}(k:PT X c tA)(l:PE X a ta)(m:PE X b tb):PE X (.IfExp c a b pos) (tIf tA ta tb):=by
 intro e s σ H Q I h;refine wpAny_IfExp (IZ (k e s σ H _ I h) λd f ⟨g,i,j⟩=>?_);cases d with
 | true=>exact l e f σ g Q i j
 | false=>exact m e f σ g Q i j
end
def HY(K:PySem.W.Frag)(H:Hp)(a:A2)(xs:A0 V):Prop :=
 Rd H a (.lst xs) \/
  ∃(o:Obj) (b:HQ A1) (n:Nat),K.lookup a=some o/\o.cls = .type "list"/\o.dict=none/\o.data = .seq b n/\b.size<=sizeLine/\IC xs b.toList
def JC(K:PySem.W.Frag)(H:Hp)(a:A2)(xs:A0 V):Prop :=
 Rd H a (.tup xs) \/
  ∃(o:Obj) (b:HQ A1) (n:Nat),K.lookup a=some o/\o.cls = .type "tuple"/\o.data = .seq b n/\b.size<=sizeLine/\IC xs b.toList
def zHf:A1->A6 V
 | .none=>some .non
 | .bool b=>some (.bl b)
 | .int i _=>some (.int i)
 | .str x _=>some (.str x)
 | .bytes b _=>some (.byt b)
 | .float b _=>some (.flt b)
 | .ref a=>some (.ref a)
 | .type n=>some (.ty n)
 | _=>none
def RelV.abs{x:V}{u:A1}(r:RelV x u):zHf u=some x:=by
 cases x with
 | non=>cases r;rfl
 | bl _=>cases r;rfl
 | int _=>obtain⟨t,rfl⟩:=r;rfl
 | str _=>obtain⟨t,rfl⟩:=r;rfl
 | byt _=>obtain⟨t,rfl⟩:=r;rfl
 | flt _=>obtain⟨t,rfl⟩:=r;rfl
 | ref _=>cases r;rfl
 | ty _=>cases r;rfl
def RelV.inj{x y:V}{u:A1}(r:RelV x u)(q:RelV y u):x=y:=CJ (r.abs.symm.trans q.abs)
def IC.inj:∀{xs a:A0 V} {us:A0 A1},IC xs us->IC a us->xs=a
 | _,_,_,.nil,.nil=>rfl
 | _,_,_,.cons r t,.cons b c=>by rw[r.inj b,IC.inj t c]
section
variable{X:Cx}{pins:A0 (A2×Obj)}{σ:St}{H:Hp}{s:A5}{a:A2}{xs ys:A0 V}
theorem HY.of{K:PySem.W.Frag}(h:H a=some (.lst xs)):HY K H a xs:=.inl (.inl h)
theorem JC.of{K:PySem.W.Frag}(h:H a=some (.tup xs)):JC K H a xs:=.inl (.inl h)
theorem Inv.list(I:Inv X pins σ H s)(h:HY X.K H a xs):∃its:A0 A1,IC xs its/\PlainL s.heap a its.toArray/\xs.length<=sizeLine:=by
 rcases h with h | ⟨o,its,n,b,c,d,f,g,r⟩
 .obtain⟨z,its,n,r,e⟩:=h.ok I.hok;exact⟨its,r,⟨_,n,e,rfl,rfl,rfl⟩,z⟩
 .refine⟨its.toList,r,⟨o,n,I.kIn a o b,c,d,by simpa using f⟩,?_⟩;have e:=r.length;simp only[AX]at e;lia
theorem Inv.tuple(I:Inv X pins σ H s)(h:JC X.K H a xs):∃its:A0 A1,IC xs its/\IsTup s.heap a its.toArray/\xs.length<=sizeLine:=by
 rcases h with h | ⟨o,its,n,b,c,d,f,r⟩
 .obtain⟨z,its,r,p⟩:=h.ok I.hok;exact⟨its,r,p,z⟩
 .refine⟨its.toList,r,⟨o,I.kIn a o b,c,n,by simpa using d⟩,?_⟩;have e:=r.length;simp only[AX]at e;lia
theorem Inv.list_inj(I:Inv X pins σ H s)(h:HY X.K H a xs)(h':HY X.K H a ys):xs=ys:=by
 obtain⟨c,r,⟨o,n,e,_,_,d⟩,_⟩:=I.list h;obtain⟨b,i,⟨k,l,f,_,_,g⟩,_⟩:=I.list h';rw[e]at f;cases f;rw[d]at g;injection g with j _;have:c=b:=by simpa using congrArg Array.toList j
 subst this;exact r.inj i
end
abbrev Cx.wish(X:Cx)(E:A1->A5->Prop):Cx:={ X with xe:=E }
abbrev Cx.nox(X:Cx):Cx:=X.wish λ_ _=>False
def Cx.Ok.wish{X:Cx}(a:X.Ok)(E:A1->A5->Prop):(X.wish E).Ok :=
 ⟨a.mod,a.kind,a.glob,a.blt,a.above,a.inj,a.has,a.cab,a.hd,a.frames,a.stk,a.exf,a.bs,a.bsz,a.noex,a.exfs,a.funs,a.frf⟩
def Cx.Ok.unwish{X:Cx}{E:A1->A5->Prop}(a:(X.wish E).Ok):X.Ok :=
 ⟨a.mod,a.kind,a.glob,a.blt,a.above,a.inj,a.has,a.cab,a.hd,a.frames,a.stk,a.exf,a.bs,a.bsz,a.noex,a.exfs,a.funs,a.frf⟩
section
variable{X:Cx}{pins:A0 (A2×Obj)}{σ:St}{H:Hp}{s:A5}{E:A1->A5->Prop}
theorem Inv.wish(I:Inv X pins σ H s)(E:A1->A5->Prop):Inv (X.wish E) pins σ H s:=⟨I.ok.wish E,I.os,I.bare,I.base,I.loc,I.cell,I.free,I.freeC,I.pin,I.hok,I.len⟩
theorem Inv.unwish(I:Inv (X.wish E) pins σ H s):Inv X pins σ H s:=⟨I.ok.unwish,I.os,I.bare,I.base,I.loc,I.cell,I.free,I.freeC,I.pin,I.hok,I.len⟩
theorem SP.unwish{D:Ends}{f:Flow}{b:A5}(h:SP (X.wish E) pins D f b):SP X pins D f b:=by
 cases f with
 | next=>obtain⟨σ',a,I,q⟩:=h;exact⟨σ',a,I.unwish,q⟩
 | brk=>obtain⟨σ',a,I,q⟩:=h;exact⟨σ',a,I.unwish,q⟩
 | cont=>obtain⟨σ',a,I,q⟩:=h;exact⟨σ',a,I.unwish,q⟩
 | ret u=>obtain⟨v,σ',a,I,r,q⟩:=h;exact⟨v,σ',a,I.unwish,r,q⟩
theorem P7.nox{st:A0 IE}{t:TS}(h:P7 X.nox st t):P7 X st t:=λpins s σ H D I a =>
 CA (h pins s σ H D (I.wish _) a) (λ_ _ q=>q.unwish) λ_ _ z=>False.elim z
end
section
variable{X:Cx}{st:IE}{rest:A0 IE}{t u:TS}{e:H_}{te:TE}{pos:Pos}
def zFr:TS:=λD σ H=>D.nx σ H
def UV(t u:TS):TS:=λD σ H=>t { D with nx:=u D } σ H
theorem E6:P7 X [] zFr:=λ_ _ σ H _ I h=>FU ⟨σ,H,I,h⟩
theorem B2(h1:PS X st t)(h2:P7 X rest u):P7 X (st::rest) (UV t u):=by
 intro a s σ H D I h;refine wpAny_execs_cons (IZ (h1 a s σ H { D with nx:=u D } I h) λf b q=>?_);cases f with
 | next =>
  obtain⟨σ',c,d,q⟩:=q;exact h2 a b σ' c D d q
 | ret v=>exact q
 | brk=>exact q
 | cont=>exact q
theorem B7(h1:PS X st t):P7 X [st] t:=by
 intro a s σ H D I h;refine wpAny_execs_cons (IZ (h1 a s σ H D I h) λf b q=>?_);cases f with
 | next=>exact FU q
 | ret v=>exact q
 | brk=>exact q
 | cont=>exact q
theorem Inv.quiet{a:A0 (A2×Obj)}{σ:St}{H:Hp}{s:A5}(I:Inv X a σ H s):interactive X.env=false:=by simp[interactive,I.ok.kind]
def zFo(te:TE):TS:=λD σ H=>te σ H λ_ a=>D.nx σ a
theorem G9(b:PE X e te)(c:swapsWith e none pos.line X.env=pure false:=by rfl):PS X (.Expr e pos) (zFo te):=by
 intro a s σ H D I h;exact wpAny_Expr_any (IZ (b a s σ H _ I h) λv i ⟨x,d,f,j,g⟩=>⟨σ,d,f,g⟩) I.quiet c
def zHp(te:TE):TS:=λD σ H=>te σ H D.rt
theorem C3(b:PE X e te):PS X (.Return (some e) pos) (zHp te):=by
 intro a s σ H D I h;exact wpAny_Return_some (IZ (b a s σ H _ I h) λv i ⟨x,c,d,f,g⟩=>⟨x,σ,c,d,f,g⟩)
def zHu(c:TT)(t u:TS):TS:=λD σ H=>c σ H λb a=>if b=true then t D σ a else u D σ a
theorem K5{c:H_}{a b:A0 IE}{f:TT}(l:PT X c f)(m:P7 X a t)(n:P7 X b u):PS X (.If c a b pos) (zHu f t u):=by
 intro e s σ H D I h;refine wpAny_If (IZ (l e s σ H _ I h) λd g ⟨i,j,k⟩=>?_);cases d with
 | true=>exact m e g σ i D j k
 | false=>exact n e g σ i D j k
def zBk:TS:=λ_ _ _=>False
theorem U7:PS X st zBk:=λ_ _ _ _ _ _ h=>h.elim
end
abbrev TG:=V->St->Hp->(St->Hp->Prop)->Prop
abbrev UD:=A0 V->St->Hp->(St->Hp->Prop)->Prop
def PG(X:Cx)(a:H_)(t:TG):Prop :=
 ∀(b:A0 (A2×Obj)) (s:A5) (σ:St) (H:Hp) (v:V) (u:A1) (Q:St->Hp->Prop),Inv X b σ H s->RelV v u->t v σ H Q ->
  wpAny (model X.prog X.w) X.A (assign a X.env u) (λ_ d=>∃σ' c,Inv X b σ' c d/\Q σ' c) X.xe s
def VN(X:Cx)(ts:A0 H_)(t:UD):Prop :=
 ∀(a:A0 (A2×Obj)) (s:A5) (σ:St) (H:Hp) (b:A0 V) (c:A0 A1) (Q:St->Hp->Prop),Inv X a σ H s->IC b c->t b σ H Q ->
  wpAny (model X.prog X.w) X.A (assignInOrder ((assignEach ts X.env).map (·.2)) c) (λ_ e=>∃σ' d,Inv X a σ' d e/\Q σ' d) X.xe s
abbrev NJ:=V->V->V->Hp->(Hp->Prop)->Prop
def zGj(X:Cx)(t:NJ):Prop :=
 ∀(a:A0 (A2×Obj)) (s:A5) (σ:St) (H:Hp) (o i v:V) (b c u:A1) (Q:Hp->Prop),Inv X a σ H s->RelV o b->RelV i c->RelV v u->t o i v H Q ->
  wpAny (model X.prog X.w) X.A (setItem b c u) (λ_ e=>∃d,Inv X a σ d e/\Q d) X.xe s
abbrev TIp:=V->V->Hp->VK->Prop
def PIp(X:Cx)(b:Operator)(t:TIp):Prop :=
 ∀(a:A0 (A2×Obj)) (s:A5) (σ:St) (H:Hp) (x y:V) (v u:A1) (Q:VK),Inv X a σ H s->RelV x v->RelV y u->t x y H Q ->
  wpAny (model X.prog X.w) X.A (inplaceOp b v u) (EP X a σ Q) X.xe s
section
variable{X:Cx}{pos:Pos}
def P9(i:Nat):TG:=λv σ H Q=>Q (σ.set i (some v)) H
theorem E4{i:Nat}{x:Str}(b:X.N.Nodup)(hi:X.N[i]?=some x)(c:Loc X.env.scope x)(d:X.fn x=true\/X.env.scope.names.lookup x=some .local:=by first | exact .inl rfl | exact .inr rfl | assumption):PG X (.Name x pos) (P9 i):=by
 intro a s σ H v u Q I r h;exact GW (i6 I b hi c r (λf e=>⟨_,H,e,h⟩) d)
def zHk:UD:=λa σ H Q=>a = []/\Q σ H
def zEz(t:TG)(u:UD):UD:=λa σ H Q=>∃v r,a=v::r/\t v σ H λσ' b=>u r σ' b Q
theorem J9:VN X [] zHk:=by
 intro a s σ H b c Q I r h;obtain⟨e,h⟩:=h;subst e;cases r;exact assignInOrder_nil ⟨σ,H,I,h⟩
theorem C6{e:H_}{b:A0 H_}{t:TG}{u:UD}(h1:PG X e t)(h2:VN X b u)
  (c:(assignEach (e::b) X.env).map (·.2)=assign e X.env ::(assignEach b X.env).map (·.2):=by rfl):VN X (e::b) (zEz t u):=by
 intro a s σ H l m Q I r h;obtain⟨v,n,d,h⟩:=h;subst d;cases r with
 | cons r f =>
  rw[c];refine assignInOrder_cons (IZ (h1 a s σ H _ _ _ I r h) λ_ g ⟨σ1,i,j,k⟩=>?_);exact h2 a g σ1 i _ _ Q j f k
def zGl(K:PySem.W.Frag)(n:Nat)(t:UD):TG:=λv σ H Q=>∃a b,v = .ref a/\JC K H a b/\b.length=n/\t b σ H Q
theorem zDm{d:A0 H_}{k:Nat}{t:UD}{n:Nat}(j:X.calm=true)(h:VN X d t)
  (l:(assignEach d X.env).length=n:=by rfl) (f:(assignEach d X.env).findIdx? (·.1)=none:=by rfl):PG X (.Tuple d k pos) (zGl X.K n t):=by
 intro c s σ H v u Q I r g;obtain⟨a,m,p,q,w,g⟩:=g;subst p;cases r;obtain⟨x,i,y,C⟩:=I.tuple q;refine assign_Tuple_tuple (I.ok.hd j) y (by simp[l,<-w,i.length]) f λz A=>?_;have B:Inv X c σ H { s with heap:=z }:=I.kept (t':=s.toks) λb o e=>A b o (BC (AK e)) e;exact h c _ σ H m _ Q B (by simpa using i) g
def zIc(a b:TE)(t:NJ):TG:=λv σ H Q=>a σ H λo c=>b σ c λi d=>t o i v d λe=>Q σ e
theorem Pm{o i:H_}{d e:TE}{t:NJ}(f:PE X o d)(hi:PE X i e)(g:zGj X t)
  (j:∀v,assign (.Subscript o i pos) X.env v =(do
   let b <-holding [v] (eval o X.env)
   let c <-holding [v,b] (eval i X.env)
   standAt pos
   holding [v,b,c] (setItem b c v)
   release [v,b,c] []):=by intro _;rfl):PG X (.Subscript o i pos) (zIc d e t):=by
 intro a s σ H v u Q I r h;rw[j];refine AB (BW (IZ (f a s σ H _ I h) λb k ⟨x,l,m,n,p⟩=>?_));refine AB (BW (IZ (hi a k σ l _ m p) λc q ⟨y,w,z,A,B⟩=>?_));refine AB (DP (AB (BW (IZ (g a q σ w x y v b c u _ z n A r B) λ_ F ⟨C,D,E⟩=>?_))));exact wpAny_release ⟨σ,C,D,E⟩
def UO(a:TE)(g:TG):TS:=λD σ H=>a σ H λx b=>g x σ b D.nx
theorem Ip{tg e:H_}{b:TE}{g:TG}(c:PE X e b)(d:PG X tg g)(f:swapsWithSole [tg] e pos.line X.env=pure false:=by rfl)(hw:swappedStores [tg] e X.env=pure none:=by rfl)
  (h1:(assignEach [tg] X.env).map (·.2) = [assign tg X.env]:=by rfl):PS X (.Assign [tg] e pos) (UO b g):=by
 intro a s σ H D I h;refine wpAny_Assign_stores (IZ (c a s σ H _ I h) λv i ⟨x,j,k,l,m⟩=>?_) f hw;rw[h1];exact IZ (d a i σ j x v _ k l m) λ_ n q=>q
theorem C2{i:Nat}{x:Str}{e:H_}{c:TE}{a:Pos}(d:X.N.Nodup)(hi:X.N[i]?=some x)(f:Loc X.env.scope x)(g:PE X e c)(j:swapsWith e (some (.Name x a)) pos.line X.env=pure false:=by rfl)(k:X.fn x=true\/X.env.scope.names.lookup x=some .local:=by first | exact .inl rfl | exact .inr rfl | assumption) :
  PS X (.Assign [.Name x a] e pos) (UO c (P9 i)):=by
 intro b s σ H D I h;refine wpAny_Assign_Name (IZ (g b s σ H _ I h) λv q ⟨y,l,m,n,o⟩=>?_) j;exact i6 m d hi f n (λr p=>⟨_,l,p,o⟩) k
def zHi(i:Nat)(a:TE)(b:TIp):TS:=λD σ H=>∃x,σ[i]?=some (some x)/\a σ H λy c=>b x y c λz d=>D.nx (σ.set i (some z)) d
theorem zDh{i:Nat}{x:Str}{e:H_}{n:TE}{f:Operator}{o:TIp}{d:Pos}(p:X.N.Nodup)(hi:X.N[i]?=some x)(g:Loc X.env.scope x)(q:PE X e n)(t:PIp X f o)(B:X.fn x=true\/X.env.scope.names.lookup x=some .local:=by first | exact .inl rfl | exact .inr rfl | assumption) :
  PS X (.AugAssign (.Name x d) f e pos) (zHi i n o):=by
 intro a s σ H D I h;obtain⟨v,C,h⟩:=h;obtain⟨m,E,F⟩:=I.loc;have j:UT X.env.scope x:=by rcases g with k | k;exact .inl k;exact .inr (.inl k)
 obtain⟨u,r,l⟩:=F i x v hi C j;refine wpAny_AugAssign_Name ?_;have go:wpAny (model X.prog X.w) X.A (eval e X.env) (λw s₂=>wpAny (model X.prog X.w) X.A (inplaceOp f u w) (λr s₃=>wpAny (model X.prog X.w) X.A (storeName X.env x r) (λ_=>SP X a D .next) X.xe s₃) X.xe s₂) X.xe s:=by
  refine IZ (q a s σ H _ I h) λw G ⟨y,J,K,L,M⟩=>?_;refine IZ (t a G σ J v y u w _ K r L M) λz V ⟨W,O,P,Q,R⟩=>?_;exact i6 P p hi g Q (λY S=>⟨_,O,S,R⟩) B
 rcases l with⟨hk,T⟩ | ⟨hk,c,U,b⟩
 .exact wpAny_loadName_local I.ok.kind hk E T go
 .rcases hk with hk | hk
  .exact wpAny_loadName_cell I.ok.kind hk U b go
  .rcases g with k | k
   .have:X.env.scope.names.lookup x=some .free:=hk;rw[k]at this;cases this
   .have:X.env.scope.names.lookup x=some .free:=hk;rw[k]at this;cases this
def ipI(f:Int->Int->Int):TIp:=λx y H Q=>∃i j,x = .int i/\y = .int j/\Q (.int (f i j)) H
theorem zBq:PIp X .Add (ipI λi j=>i+j):=by
 intro a s σ H x y v u Q I b c h;obtain⟨i,j,d,e,q⟩:=h;subst d;subst e;obtain⟨t,rfl⟩:=b;obtain⟨f,rfl⟩:=c;exact iadd_int ⟨.int _,H,I.tok _,⟨_,rfl⟩,q⟩
def zEi(c:TT)(f:TS):TS:=λD σ H=>∃W:Nat->St->Hp->Prop,(∃m,W m σ H)/\∀m σ H,W m σ H ->
 c σ H λb a=>if b=true then ∃N:St->Hp->Prop,(∀σ' d,N σ' d->∃e,e < m/\W e σ' d)/\f { D with nx:=N,ct:=N,bk:=D.nx } σ a else D.nx σ a
theorem Aq{c:H_}{d:A0 IE}{q:TT}{r:TS}(t:PassesOwn (model X.prog X.w) X.A X.env X.xe)(C:PT X c q)(E:P7 X d r):PS X (.While c d [] pos) (zEi q r):=by
 intro a s σ H D I h;obtain⟨W,⟨F,G⟩,e⟩:=h;refine wpAny_While (codeAny_whileLoop (λn J=>∃σ' u,Inv X a σ' u J/\W n σ' u) ?_ F ⟨σ,H,I,G⟩);rintro n K ⟨σ1,x,L,M⟩;refine E_ t (IZ (C a K σ1 x _ L (e n σ1 x M)) λb O ⟨y,z,i⟩=>?_);cases b with
 | true =>
  obtain⟨N,B,i⟩:=i;rw[AY rfl];refine E_ t (IZ (E a O σ1 y _ z i) λf P j=>?_);cases f with
  | next =>
   obtain⟨σ3,g,k,l⟩:=j;obtain⟨m,o,p⟩:=B σ3 g l;exact⟨m,o,σ3,g,k,p⟩
  | cont =>
   obtain⟨σ3,g,k,l⟩:=j;obtain⟨m,o,p⟩:=B σ3 g l;exact⟨m,o,σ3,g,k,p⟩
  | brk=>exact j
  | ret v=>exact j
 | false =>
  rw[AS BA];exact FU ⟨σ1,y,z,i⟩
end
set_option genInjectivity false in
structure It where
 go:Nat->Hp->Prop
 yld:Nat->Hp->V->Hp->Prop
 stop:Nat->Hp->Prop
def Ar(X:Cx)(a:A0 (A2×Obj))(H:Hp)(b:A2):Prop :=
 H b=none/\b≠X.env.locals/\b∉X.fs/\(b∈X.ex\/X.s₀.heap.objs.size<=b)/\(∀x c,X.env.cells.lookup x=some c->c≠b)/\∀p∈X.pn++a,p.1≠b
def Inv.fpOk{X:Cx}{a:A0 (A2×Obj)}{σ:St}{H H':Hp}{s:A5}{b:A2}(I:Inv X a σ H s)(d:s.heap.objs.size<=b)(f:H' b=none):Ar X a H' b:=by
 refine⟨f,FQ (BI I.lt d),I.nofs d,.inr (Nat.le_trans I.sz d),λx c e z=>?_,λp g z=>?_⟩
 .obtain⟨v,q⟩:=I.cell x c e;exact absurd (BI q.lt (by rw[z];exact d)) (CM _)
 .exact absurd (BI (AK (I.pin p g).1) (by rw[z];exact d)) (CM _)
structure PX(P:Cv)(w:HS)(K:PySem.W.Frag)(tg:H_)(J:It)(fp:A0 A2)(it:A2)(tn:Nat->HX->Prop):Prop where
 mem:it∈fp
 obj:∀i h,tn i h->∀b∈fp,∃o,h.get? b=some o/\∀v,o.data≠ .cell v
 keep:∀i h h',tn i h->(∀b∈fp,∀o,h.get? b=some o->h'.get? b=some o)->tn i h'
 item:∀(X:Cx),X.prog=P->X.w=w->X.K=K->X.calm=true->∀(i:Nat) (pins:A0 (A2×Obj)) (s:A5) (σ:St) (H:Hp) (E:A1->A5->Prop),Inv X pins σ H s->(∀b∈fp,Ar X pins H b)->tn i s.heap->J.go i H ->
  wpAny (model P w) X.A (pyNext (.ref it)) (λr s1=>∃u,r=some u /\
   wpAny (model P w) X.A (letOwnedTupleGo tg (.ref it) u) (λ_ s2=>∃x H',Inv X pins σ H' s2/\RelV x u/\J.yld i H x H'/\tn (i+1) s2.heap/\∀b∈fp,H' b=none) E s1) E s
 done:∀(X:Cx),X.prog=P->X.w=w->X.K=K->X.calm=true->∀(i:Nat) (pins:A0 (A2×Obj)) (s:A5) (σ:St) (H:Hp) (E:A1->A5->Prop),Inv X pins σ H s->(∀b∈fp,Ar X pins H b)->tn i s.heap->J.stop i H ->
  wpAny (model P w) X.A (pyNext (.ref it)) (λr s1=>r=none/\Inv X pins σ H s1) E s
 self:∀(A:HZ) (i:Nat) (s:A5) (Q:A1->A5->Prop) (E:A1->A5->Prop),tn i s.heap->Q (.ref it) s->wpAny (model P w) A (pyIter (.ref it)) Q E s
abbrev TI:=St->Hp->(It->Hp->Prop)->Prop
def PIE(X:Cx)(a:A0 (A2×Obj))(σ:St)(tg:H_)(R:It->Hp->Prop)(c:A1)(e:A5):Prop :=
 ∃(f:A2) (g:A0 A2) (h:Nat->HX->Prop) (J:It) (d:Hp),c = .ref f/\Inv X a σ d e/\PX X.prog X.w X.K tg J g f h/\h 0 e.heap/\(∀b∈g,Ar X a d b)/\R J d
def PI(X:Cx)(tg iter:H_)(b:TI):Prop :=
 ∀(a:A0 (A2×Obj)) (s:A5) (σ:St) (H:Hp) (R:It->Hp->Prop),Inv X a σ H s->b σ H R ->
  wpAny (model X.prog X.w) X.A (eval iter X.env) (λv c=>wpAny (model X.prog X.w) X.A (pyIter v) (PIE X a σ tg R) X.xe c) X.xe s
def Zk{M:Model}{A:HZ}{E:A1->A5->Prop}{s:A5}{tg:H_}{b:A2}{u:A1}{o:Obj}{n:String}{vs:HQ A1}{Q:Unit->A5->Prop}(c:s.heap.get? b=some o)(d:o.cls = .type n)(e:o.data = .fields vs)
    (f:["enumerate", "zip", "dict_itemiterator", "dict_reverseitemiterator", "odict_iterator", "itertools.zip_longest", "itertools.pairwise"].contains n=false) (a:Q () s):wpAny M A (letOwnedTupleGo tg (.ref b) u) Q E s:=by
  unfold letOwnedTupleGo;cases tg<;>first
    | exact AE a
    | (cases u<;>first
        | exact AE a
        | (refine AB (wpAny_load c ?_)
           rw[d,e];show wpAny M A (if(["enumerate", "zip", "dict_itemiterator", "dict_reverseitemiterator", "odict_iterator", "itertools.zip_longest", "itertools.pairwise"].contains n&&vs[0]? == some (rawInt _))=true then _ else _) Q E s;rw[AS (by intro h;rw[f,EV]at h;cases h)];exact AE a))
def SM(K:PySem.W.Frag)(a:A2):It :=
 ⟨λi H=>∃b x,HY K H a b/\b[i]?=some x,λi H x c=>c=H/\∀b,HY K H a b->b[i]?=some x,λi H=>∃b,HY K H a b/\b.length<=i⟩
def TW(lo:Int)(n:Nat):It:=⟨λi _=>i<n,λi H x a=>a=H/\x = .int (lo+i),λi _=>n<=i⟩
def Tn{P:Cv}{w:HS}{K:PySem.W.Frag}{tg:H_}(a g:A2):PX P w K tg (SM K a) [g] g (λi h=>h.IsListIter g a i) where
 mem:=by simp
 obj:=λi h st b j=>by
  have e:b=g:=by simpa using j
  subst e;obtain⟨o,e,c,d⟩:=st;exact⟨o,e,λv z=>by rw[d]at z;cases z⟩
 keep:=λi h m st k=>st.at λo e=>k g (by simp) o e
 item:=by
  intro X r t y N i f s σ H E I n st A;subst r t y;obtain⟨O,x,q,B⟩:=A;obtain⟨C,D,p,Q⟩:=I.list q;obtain⟨u,R,S⟩:=D.get B;obtain⟨F,G,T,J,L,M⟩:=n g (by simp);refine wpAny_pyNext_list_item st p.isList (x:=u) (by simpa using R) λm l U=>?_;have V:Inv X f σ H { s with heap:=m }:=I.turned (t':=s.toks) (λb o j e=>(U.2 b j).trans e) F G J L M;obtain⟨o,e,c,d⟩:=id l;exact⟨u,rfl,Zk (s:={ s with heap:=m }) e c d (by decide) ⟨x,H,V,S,⟨rfl,λys Y=>by rw[I.list_inj Y q];exact B⟩,l,λb j=>(n b j).1⟩⟩
 done:=by
  intro X r t y N i f s σ H E I n st A;subst r t y;obtain⟨O,q,B⟩:=A;obtain⟨C,D,p,Q⟩:=I.list q;obtain⟨F,G,T,J,L,M⟩:=n g (by simp);have hl:=D.length;exact wpAny_pyNext_list_end (I.ok.hd N) st p.isList (by simp;lia) λm Z=>⟨rfl,I.turned (t':=s.toks) (λb o j e=>Z b o j e) F G J L M⟩
 self:=λ_ _ _ _ _ st h=>wpAny_pyIter_listiter st h
def Oi{P:Cv}{w:HS}{K:PySem.W.Frag}{tg:H_}(a:A2)(lo:Int)(n:Nat):PX P w K tg (TW lo n) [a] a (λi h=>IsRangeIter h a (lo +(i:Nat)*1) ((n:Int)-(i:Nat)) 1) where
 mem:=by simp
 obj:=λi h st b d=>by
  have e:b=a:=by simpa using d
  subst e;exact⟨_,st,λv z=>by
   have D:Data.fields _=Data.cell v:=z;cases D⟩
 keep:=λi h g st k=>k a (by simp) _ st
 item:=by
  intro X l m p q i c s σ H E I j st r;subst l m p;obtain⟨u,x,F,y,A,B⟩:=j a (by simp);have W:=Walks.range (prog:=X.prog) (w:=X.w) (I.ok.hd q) a lo 1 n;refine W.item i s _ _ r st λv g C G f kk=>?_;obtain⟨t,rfl⟩:=G;have J:Inv X c σ H { s with heap:=g,toks:=C }:=I.turned (λb o d e=>kk b o (by simpa using d) e) u x y A B;refine⟨_,rfl,Zk (s:={ s with heap:=g,toks:=C }) (n := "range_iterator") f rfl rfl (by decide) ⟨.int (lo+i),H,J,⟨t,?_⟩,⟨rfl,rfl⟩,f,λb d=>(j b d).1⟩⟩;rw[Int.mul_one]
 done:=by
  intro X l m p q i c s σ H E I j st r;subst l m p;obtain⟨u,x,F,y,A,B⟩:=j a (by simp);exact wpAny_pyNext_range_end (I.ok.hd q) st (by have:n<=i:=r;lia) λg L=>⟨rfl,I.turned (t':=s.toks) (λb o d e=>L b o d e) u x y A B⟩
 self:=λ_ _ _ _ _ st h=>wpAny_pyIter_rangeiter st h
section
variable{X:Cx}{tg:H_}
def zBj(K:PySem.W.Frag)(c:TE):TI:=λσ H R=>c σ H λx b=>∃a,x = .ref a/\(∃d,HY K b a d)/\R (SM K a) b
theorem Ys{l:H_}{g:TE}(i:PE X l g):PI X tg l (zBj X.K g):=by
 intro c s σ H R I h;refine IZ (i c s σ H _ I h) λv d ⟨x,j,f,k,m⟩=>?_;obtain⟨a,e,⟨u,n⟩,q⟩:=m;subst e;cases k;obtain⟨r,w,p,y⟩:=f.list n;refine EO p.isList ?_;refine⟨d.heap.objs.size,[d.heap.objs.size],_,_,j,rfl,f.kept (t':=d.toks) λb o e=>AD _ e,Tn a _,⟨_,BG _ rfl,rfl,rfl⟩,λb t=>?_,q⟩;have e:b=d.heap.objs.size:=by simpa using t
 subst e;exact f.fpOk (Nat.le_refl _) (f.hok.fresh (Nat.le_refl _))
theorem Vp{a:A0 (A2×Obj)}{σ:St}{H:Hp}{s:A5}{R:It->Hp->Prop}{E:A1->A5->Prop}{lo hi:Int}{t u v:Tok}{c:Nat}(I:Inv X a σ H s)(h1:-(2^62)<=lo)(h2:lo<2^62)(f:-(2^62)<=hi)(g:hi<2^62)
  (q:R (TW lo (hi-lo).toNat) H):wpAny (model X.prog X.w) X.A (pyIter (.ref s.heap.objs.size)) (PIE X a σ tg R) E { s with heap:=s.heap.push { cls:=.type "range",data:=.fields #[.int lo t,.int hi u,.int 1 v] },toks:=c }:=by
 refine wpAny_pyIter_range (IsRange.new ..) (small_one h1 h2 f g) ?_;have d:Inv X a σ H { s with heap:=s.heap.push { cls:=.type "range",data:=.fields #[.int lo t,.int hi u,.int 1 v] },toks:=c }:=I.kept λb o e=>AD _ e;refine⟨(s.heap.push { cls:=.type "range",data:=.fields #[.int lo t,.int hi u,.int 1 v] }).objs.size,[(s.heap.push { cls:=.type "range",data:=.fields #[.int lo t,.int hi u,.int 1 v] }).objs.size],_,_,H,rfl,
  d.kept (t':=c) λb o e=>AD _ e,Oi _ lo (hi-lo).toNat,?_,λb h=>?_,q⟩
 .have i:lo +((0:Nat):Int)*1=lo:=by simp
  have j:(((hi-lo).toNat:Nat):Int)-((0:Nat):Int)=Builtin.Range.rangeSize lo hi 1:=by rw[rangeSize_one];split<;>lia
  show IsRangeIter _ _ (lo +((0:Nat):Int)*1) ((((hi-lo).toNat:Nat):Int)-((0:Nat):Int)) 1;rw[i,j];exact BG _ rfl
 .have e:b =(s.heap.push { cls:=.type "range",data:=.fields #[.int lo t,.int hi u,.int 1 v] }).objs.size:=by simpa using h
  subst e;exact d.fpOk (Nat.le_refl _) (d.hok.fresh (Nat.le_refl _))
def zCv(a:TA):TI:=λσ H R=>a σ H λb c=>∃j:Int,b = [.int j]/\-(2^62)<=j/\j<2^62/\R (TW 0 j.toNat) c
theorem Ss{a:H_}{d:TA}{p pos:Pos}(f:Gl X "range")(g:X.mg "range" = none)(i:PA X [a] d)(k:starEach [a] X.env = [(false,eval a X.env)]:=by rfl):PI X tg (.Call (.Name "range" p) [a] [] pos) (zCv d):=by
 intro b s σ H R I h;refine Call_ (Bp I f g boot_range (PyProof.Rows.callWith_type1 (IZ (i pos b s σ H _ I h) λu v ⟨w,x,l,m,c⟩=>?_) k rfl));obtain⟨j,e,c,n,q⟩:=c;subst e;cases m with
 | cons r o =>
  cases o;obtain⟨t,rfl⟩:=r;exact call_range_1 (Vp l (by lia) (by lia) c n (by simpa using q))
def zHq(c:TI)(g:TG)(d:TS):TS:=λD σ H=>c σ H λJ e=>∃W:Nat->Nat->St->Hp->Prop,(∃m,W 0 m σ e)/\∀i m σ H,W i m σ H ->
 (J.stop i H/\D.nx σ H)\/(J.go i H/\∃N:St->Hp->Prop,(∀σ' a,N σ' a->∃b,b < m/\W (i+1) b σ' a)/\∀x a,J.yld i H x a->g x σ a λσ2 f=>d { D with nx:=N,ct:=N,bk:=D.nx } σ2 f)
def Iu(fp:A0 A2)(h:HX):A0 (A2×Obj):=fp.filterMap λb=>(h.get? b).map λo=>(b,o)
theorem Y2{fp:A0 A2}{h:HX}{b:A2}{o:Obj}(a:b∈fp)(e:h.get? b=some o):(b,o)∈Iu fp h:=List.mem_filterMap.mpr ⟨b,a,by rw[e];rfl⟩
theorem Qe{fp:A0 A2}{h:HX}{p:A2×Obj}(a:p∈Iu fp h):p.1∈fp/\h.get? p.1=some p.2:=by
 obtain⟨b,c,e⟩:=List.mem_filterMap.mp a;cases q:h.get? b with
 | none=>rw[q]at e;cases e
 | some o =>
  rw[q]at e;have d:(b,o)=p:=CJ e;subst d;exact⟨c,q⟩
theorem Inv.pinned{a:A0 (A2×Obj)}{σ:St}{H:Hp}{s:A5}{fp:A0 A2}(I:Inv X a σ H s)(g:∀b∈fp,Ar X a H b)(h:∀b∈fp,∃o,s.heap.get? b=some o/\∀v,o.data≠ .cell v):Inv X (a++Iu fp s.heap) σ H s :=
 I.pins_of λp i=>(AH.mp i).elim (λz=>I.pin p (BJ _ z)) λz=>by
  obtain⟨c,e⟩:=Qe z;obtain⟨j,k,l,_⟩:=g p.1 c;obtain⟨o,f,d⟩:=h p.1 c;rw[e]at f;cases f;exact⟨e,j,k,l,d⟩
theorem Inv.unpinned{a pl:A0 (A2×Obj)}{σ:St}{H:Hp}{s:A5}(I:Inv X (a++pl) σ H s):Inv X a σ H s:=I.pins_of λp b=>I.pin p (BJ _ (BS _ b))
theorem P0{iter:H_}{q:A0 IE}{R:TI}{g:TG}{S:TS}{pos:Pos}(z:PassesOwn (model X.prog X.w) X.A X.env X.xe)(U:X.calm=true)(hi:PI X tg iter R)(hg:PG X tg g)(c:P7 X q S)
  (hs:∀x,foldedSetIterable iter X.env x=pure x:=by intro _;rfl):PS X (.For tg iter q [] pos) (zHq R g S):=by
 intro a s σ H D I h;refine wpAny_For (IZ (hi a s σ H _ I h) λv s1 h1=>IZ h1 λitv s2 h2=>?_) hs;obtain⟨it,B,V,J,H2,e,I2,T,L,Y,W,⟨m0,w0⟩,C⟩:=h2;subst e;have j:∀{p:Hp},(∀b∈B,p b=none)->∀b∈B,Ar X a p b:=λhn b c=>⟨hn b c,(Y b c).2⟩;refine codeAny_forLoop_any (λn Z=>∃i σ' p,Inv X a σ' p Z/\V i Z.heap/\(∀b∈B,p b=none)/\W i n σ' p) ?_ m0 ⟨0,σ,H2,I2,L,λb c=>(Y b c).1,w0⟩;rintro n s3 ⟨i,σ3,K,I3,E,F,w3⟩;rcases C i n σ3 K w3 with⟨stop,qn⟩ | ⟨go,N,hN,step⟩
 .refine E_ z (IZ (T.done X rfl rfl rfl U i a s3 σ3 K X.xe I3 (j F) E stop) λr s4 ⟨M,I4⟩=>?_);subst M;exact FU ⟨σ3,K,I4,qn⟩
 .refine E_ z (IZ (T.item X rfl rfl rfl U i a s3 σ3 K X.xe I3 (j F) E go) λr s4 ⟨u,M,h4⟩=>?_);subst M;refine E_ z (IZ h4 λ_ s5 ⟨x,H5,I5,r5,y5,y,O⟩=>?_);have P:=I5.pinned (j O) (T.obj _ _ y);refine E_ z (IZ (hg _ s5 σ3 H5 x u _ P r5 (step x H5 y5)) λ_ s6 ⟨σ6,H6,I6,q6⟩=>?_);refine E_ z (IZ (c _ s6 σ6 H6 _ I6 q6) λf Q t=>?_);have again:∀{σ7:St} {k:Hp},Inv X (a++Iu B s5.heap) σ7 k Q->N σ7 k->∃m,m<n/\∃i σ' p,Inv X a σ' p Q/\V i Q.heap/\(∀b∈B,p b=none)/\W i m σ' p:=fun{σ7 k} l G=>by
   obtain⟨m',hm,w7⟩:=hN σ7 k G;refine⟨m',hm,i+1,σ7,k,l.unpinned,T.keep _ _ _ y λb c o e=>(l.pin (b,o) (BJ _ (BJ _ (Y2 c e)))).1,λb c=>?_,w7⟩;obtain⟨o,e,d⟩:=T.obj _ _ y b c;exact(l.pin (b,o) (BJ _ (BJ _ (Y2 c e)))).2.1
  cases f with
  | next=>obtain⟨σ7,k,l,G⟩:=t;exact again l G
  | cont=>obtain⟨σ7,k,l,G⟩:=t;exact again l G
  | brk=>obtain⟨σ7,k,l,t⟩:=t;exact⟨σ7,k,l.unpinned,t⟩
  | ret v=>obtain⟨x7,σ7,k,l,r7,t⟩:=t;exact⟨x7,σ7,k,l.unpinned,r7,t⟩
end
def Sk{lo:Int}{n:Nat}{g:TG}{c:TS}{D:Ends}{σ:St}{H:Hp}(Pv:Nat->St->Hp->Prop)(f:Pv 0 σ H)
  (h:∀i σ H,i<n->Pv i σ H->g (.int (lo+i)) σ H λσ2 b=>c { D with nx:=Pv (i+1),ct:=Pv (i+1),bk:=D.nx } σ2 b) (j:∀σ H,Pv n σ H->D.nx σ H) :
  ∃W:Nat->Nat->St->Hp->Prop,(∃m,W 0 m σ H)/\∀i m σ H,W i m σ H ->
   ((TW lo n).stop i H/\D.nx σ H)\/((TW lo n).go i H/\∃N:St->Hp->Prop,(∀σ' H',N σ' H'->∃d,d < m/\W (i+1) d σ' H')/\∀x H',(TW lo n).yld i H x H'->g x σ H' λσ2 b=>c { D with nx:=N,ct:=N,bk:=D.nx } σ2 b):=by
 refine⟨λi m σ H=>m=n-i/\i<=n/\Pv i σ H,⟨n,by simp,BR _,f⟩,?_⟩;rintro i m σ H ⟨rfl,l,p⟩;by_cases a:i<n
 .refine .inr ⟨a,Pv (i+1),λσ' H' k=>⟨n-(i+1),by lia,rfl,a,k⟩,λx H' y=>?_⟩;obtain⟨e,y⟩:=y;subst e y;exact h i σ _ a p
 .have e:i=n:=by lia
  subst e;exact .inl ⟨Nat.le_refl _,j σ H p⟩
abbrev R2:=V->V->Hp->VK->Prop
def LK(X:Cx)(f:A1->A1->Sem A1)(r:R2):Prop :=
 ∀(a:A0 (A2×Obj)) (s:A5) (σ:St) (H:Hp) (x y:V) (v u:A1) (Q:VK),Inv X a σ H s->RelV x v->RelV y u->r x y H Q ->
  wpAny (model X.prog X.w) X.A (f v u) (EP X a σ Q) X.xe s
def J2(X:Cx)(f:A1)(r:A0 V->Hp->VK->Prop):Prop :=
 ∀(a:A0 (A2×Obj)) (s:A5) (σ:St) (H:Hp) (b:A0 V) (c:A0 A1) (Q:VK),Inv X a σ H s->IC b c->r b H Q ->
  wpAny (model X.prog X.w) X.A (call f c) (EP X a σ Q) X.xe s
def zHg(X:Cx)(r:V->Hp->(Bool->Hp->Prop)->Prop):Prop :=
 ∀(a:A0 (A2×Obj)) (s:A5) (σ:St) (H:Hp) (x:V) (v:A1) (Q:Bool->Hp->Prop),Inv X a σ H s->RelV x v->r x H Q ->
  wpAny (model X.prog X.w) X.A (truthy v) (TP X a σ Q) X.xe s
def U_(r:R2)(a b:TE):TE:=λσ H Q=>a σ H λx c=>b σ c λy d=>r x y d Q
def rI(C:Int->Int->Prop)(g:Int->Int->V):R2:=λx y H Q=>∃i j,x = .int i/\y = .int j/\C i j/\Q (g i j) H
def TY(g:Int->Int->V):R2:=λx y H Q=>∃i j,x = .int i/\y = .int j/\Q (g i j) H
section
variable{X:Cx}{a b c:H_}{ta tb tc:TE}{pos:Pos}
theorem zFx(i:PE X a ta)(j:PE X b tb){c:A0 (A2×Obj)}{s:A5}{σ:St}{H:Hp}{R:V->V->Hp->Prop}(I:Inv X c σ H s)
  (h:ta σ H λx g=>tb σ g λy d=>R x y d) {Q:A1->A5->Prop} {f:A1->A1->Sem A1}
  (k:∀v u e x y d,Inv X c σ d e->RelV x v->RelV y u->R x y d->wpAny (model X.prog X.w) X.A (f v u) Q X.xe e) :
  wpAny (model X.prog X.w) X.A (eval a X.env) (λv s₁=>wpAny (model X.prog X.w) X.A (eval b X.env) (λu s₂=>wpAny (model X.prog X.w) X.A (f v u) Q X.xe s₂) X.xe s₁) X.xe s:=by
 refine IZ (i c s σ H _ I h) λv l ⟨x,g,m,n,o⟩=>?_;refine IZ (j c l σ g _ m o) λu e ⟨y,d,p,q,r⟩=>?_;exact k v u e x y d p n q r
theorem F9{d:Operator}{r:R2}(e:LK X (binaryOp d) r)(f:PE X a ta)(g:PE X b tb):PE X (.BinOp a d b pos) (U_ r ta tb):=by
 intro c s σ H Q I h;exact wpAny_BinOp (zFx f g I h λv u i x y j k l m q=>e c i σ j x y v u Q k l m q)
theorem opI{f:A1->A1->Sem A1}{C:Int->Int->Prop}{g:Int->Int->Int}
  (rule:∀(i j:Int) (t u:Tok) (s:A5) (Q:A1->A5->Prop) (E:A1->A5->Prop),C i j->Q (.int (g i j) s.toks) { s with toks:=s.toks+1 }->wpAny (model X.prog X.w) X.A (f (.int i t) (.int j u)) Q E s) :
  LK X f (rI C λi j=>.int (g i j)):=by
 intro a s σ H x y v u Q I b c h;obtain⟨i,j,rfl,rfl,d,q⟩:=h;obtain⟨t,rfl⟩:=b;obtain⟨e,rfl⟩:=c;exact rule i j t e s _ _ d ⟨.int (g i j),H,I.tok _,⟨_,rfl⟩,q⟩
theorem zGn{f:A1->A1->Sem A1}{g:Int->Int->Int}
  (rule:∀(i j:Int) (t u:Tok) (s:A5) (Q:A1->A5->Prop) (E:A1->A5->Prop),Q (.int (g i j) s.toks) { s with toks:=s.toks+1 }->wpAny (model X.prog X.w) X.A (f (.int i t) (.int j u)) Q E s) :
  LK X f (TY λi j=>.int (g i j)):=by
 intro a s σ H x y v u Q I b c h;obtain⟨i,j,rfl,rfl,q⟩:=h;obtain⟨t,rfl⟩:=b;obtain⟨d,rfl⟩:=c;exact rule i j t d s _ _ ⟨.int (g i j),H,I.tok _,⟨_,rfl⟩,q⟩
theorem zEn{f:A1->A1->Sem A1}{g:Int->Int->Bool}
  (rule:∀(i j:Int) (t u:Tok) (s:A5) (Q:A1->A5->Prop) (E:A1->A5->Prop),Q (.bool (g i j)) s->wpAny (model X.prog X.w) X.A (f (.int i t) (.int j u)) Q E s) :
  LK X f (TY λi j=>.bl (g i j)):=by
 intro a s σ H x y v u Q I b c h;obtain⟨i,j,rfl,rfl,q⟩:=h;obtain⟨t,rfl⟩:=b;obtain⟨d,rfl⟩:=c;exact rule i j t d s _ _ ⟨.bl (g i j),H,I,rfl,q⟩
def zHe(i j:Int):Prop:=0<j/\j<1073741824
def zIa(i j:Int):Prop:=0<=j/\j<=1000000/\i.natAbs<2^64
def UN(i j:Int):Prop:=(-(2^64)<i/\i<2^64)\/(-(2^64)<j/\j<2^64)
theorem UN.ok{i j:Int}(h:UN i j):IntMulOk i j:=by
 rcases h with⟨a,b⟩ | ⟨a,b⟩
 .exact .of_left (intBits_le_64 a b)
 .exact .of_right (intBits_le_64 a b)
theorem V2:LK X (binaryOp .Add) (TY λi j=>.int (i+j)):=zGn λ_ _ _ _ _ _ _ q=>add_int q
theorem Qa:LK X (binaryOp .Sub) (TY λi j=>.int (i-j)):=zGn λ_ _ _ _ _ _ _ q=>sub_int q
theorem Ch:LK X (binaryOp .Mult) (rI UN λi j=>.int (i*j)):=opI λ_ _ _ _ _ _ _ a q=>mul_int q a.ok
theorem Sr:LK X (binaryOp .FloorDiv) (rI zHe λi j=>.int (i / j)):=opI λi j _ _ _ _ _ a q=>by
 have b:(0:Int)<j:=a.1;have c:j<1073741824:=a.2;exact floordiv_int (by lia) (by rw[Int.fdiv_eq_ediv_of_nonneg i (by lia)];exact q) (.inl (PyProof.noPylong_small (by lia)))
theorem Gi:LK X (binaryOp .Mod) (rI (λ_ j=>0<j) λi j=>.int (i % j)):=opI λi j _ _ _ _ _ a q=>by
 have b:(0:Int)<j:=a;exact mod_int' (by lia) (by rw[Int.fmod_eq_emod_of_nonneg i (by lia)];exact q)
theorem zCn:LK X (binaryOp .Pow) (rI zIa λi j=>.int (i^j.toNat)):=opI λ_ _ _ _ _ _ _ a q=>pow_int_small a.1 a.2.1 a.2.2 q
end
def zGe:V->V->Bool
 | .non,.non=>true | .non,.int _=>true | .int _,.non=>true | .non,.bl _=>true | .bl _,.non=>true | .non,.str _=>true | .str _,.non=>true
 | .int _,.int _=>true | .bl _,.bl _=>true | .str _,.str _=>true | .byt _,.byt _=>true
 | .int _,.str _=>true | .str _,.int _=>true | .bl _,.str _=>true | .str _,.bl _=>true
 | _,_=>false
def rEq:R2:=λx y H Q=>zGe x y=true/\Q (.bl (decide (x=y))) H
def rNe:R2:=λx y H Q=>zGe x y=true/\Q (.bl (!decide (x=y))) H
def Py{i j:Int}:decide (V.int i=V.int j) =(i == j):=by
 rw[D_];simp
def Xl{i j:Bool}:decide (V.bl i=V.bl j) =(i == j):=by
 rw[D_];simp
def Ra{i j:Str}:decide (V.str i=V.str j) =(i == j):=by
 rw[D_];simp
def Ub{i j:HQ UInt8}:decide (V.byt i=V.byt j) =(i.toList == j.toList):=by
 rw[D_];cases i;cases j;simp
section
variable{X:Cx}{a b c:H_}{ta tb tc:TE}{pos:Pos}
theorem G8{a:A0 (A2×Obj)}{σ:St}{H:Hp}{s:A5}{Q:VK}{k b:Bool}(I:Inv X a σ H s)(q:Q (.bl k) H)(e:k=b):EP X a σ Q (.bool b) s:=by
 subst e;exact⟨.bl k,H,I,rfl,q⟩
theorem i0:LK X (compareOp .Eq) rEq:=by
 intro e s σ H x y v u Q I d a h;obtain⟨c,q⟩:=h;cases x with
 | non =>
  cases d;cases y with
  | non=>cases a;exact PySem.EqNone.eq_none_none (G8 I q (by simp))
  | bl j=>cases a;exact PySem.EqNone.eq_none_bool (G8 I q (by simp))
  | int j=>obtain⟨b,rfl⟩:=a;exact PySem.EqNone.eq_none_int (G8 I q (by simp))
  | str j=>obtain⟨b,rfl⟩:=a;exact PySem.EqNone.eq_none_str (G8 I q (by simp))
  | _=>exact absurd (show false=true from c) BA
 | bl i =>
  cases d;cases y with
  | non=>cases a;exact PySem.EqNone.eq_bool_none (G8 I q (by simp))
  | bl j=>cases a;exact eq_bool (G8 I q Xl)
  | str j=>obtain⟨b,rfl⟩:=a;exact PySem.EqMixed.eq_bool_str (G8 I q (by simp))
  | _=>exact absurd (show false=true from c) BA
 | int i =>
  obtain⟨t,rfl⟩:=d;cases y with
  | non=>cases a;exact PySem.EqNone.eq_int_none (G8 I q (by simp))
  | int j=>obtain⟨b,rfl⟩:=a;exact eq_int (G8 I q Py)
  | str j=>obtain⟨b,rfl⟩:=a;exact PySem.EqMixed.eq_int_str (G8 I q (by simp))
  | _=>exact absurd (show false=true from c) BA
 | str i =>
  obtain⟨t,rfl⟩:=d;cases y with
  | non=>cases a;exact PySem.EqNone.eq_str_none (G8 I q (by simp))
  | bl j=>cases a;exact PySem.EqMixed.eq_str_bool (G8 I q (by simp))
  | int j=>obtain⟨b,rfl⟩:=a;exact PySem.EqMixed.eq_str_int (G8 I q (by simp))
  | str j=>obtain⟨b,rfl⟩:=a;exact eq_str (G8 I q Ra)
  | _=>exact absurd (show false=true from c) BA
 | byt i =>
  obtain⟨t,rfl⟩:=d;cases y with
  | byt j=>obtain⟨b,rfl⟩:=a;exact PySem.W.eq_bytes (G8 I q Ub)
  | _=>exact absurd (show false=true from c) BA
 | _=>cases y<;>exact absurd (show false=true from c) BA
theorem Rk:LK X (compareOp .NotEq) rNe:=by
 intro e s σ H x y v u Q I d a h;obtain⟨c,q⟩:=h;cases x with
 | non =>
  cases d;cases y with
  | non=>cases a;exact PySem.EqNone.ne_none_none (G8 I q (by simp))
  | bl j=>cases a;exact PySem.EqNone.ne_none_bool (G8 I q (by simp))
  | int j=>obtain⟨b,rfl⟩:=a;exact PySem.EqNone.ne_none_int (G8 I q (by simp))
  | str j=>obtain⟨b,rfl⟩:=a;exact PySem.EqNone.ne_none_str (G8 I q (by simp))
  | _=>exact absurd (show false=true from c) BA
 | bl i =>
  cases d;cases y with
  | non=>cases a;exact PySem.EqNone.ne_bool_none (G8 I q (by simp))
  | bl j=>cases a;exact ne_bool (G8 I q (congrArg not Xl))
  | str j=>obtain⟨b,rfl⟩:=a;exact PySem.EqMixed.ne_bool_str (G8 I q (by simp))
  | _=>exact absurd (show false=true from c) BA
 | int i =>
  obtain⟨t,rfl⟩:=d;cases y with
  | non=>cases a;exact PySem.EqNone.ne_int_none (G8 I q (by simp))
  | int j=>obtain⟨b,rfl⟩:=a;exact ne_int (G8 I q (congrArg not Py))
  | str j=>obtain⟨b,rfl⟩:=a;exact PySem.EqMixed.ne_int_str (G8 I q (by simp))
  | _=>exact absurd (show false=true from c) BA
 | str i =>
  obtain⟨t,rfl⟩:=d;cases y with
  | non=>cases a;exact PySem.EqNone.ne_str_none (G8 I q (by simp))
  | bl j=>cases a;exact PySem.EqMixed.ne_str_bool (G8 I q (by simp))
  | int j=>obtain⟨b,rfl⟩:=a;exact PySem.EqMixed.ne_str_int (G8 I q (by simp))
  | str j=>obtain⟨b,rfl⟩:=a;exact ne_str (G8 I q (congrArg not Ra))
  | _=>exact absurd (show false=true from c) BA
 | byt i =>
  obtain⟨t,rfl⟩:=d;cases y with
  | byt j=>obtain⟨b,rfl⟩:=a;exact PySem.W.ne_bytes (G8 I q (congrArg not Ub))
  | _=>exact absurd (show false=true from c) BA
 | _=>cases y<;>exact absurd (show false=true from c) BA
theorem zBn:LK X (compareOp .Lt) (TY λi j=>.bl (decide (i<j))):=zEn λ_ _ _ _ _ _ _ q=>lt_int q
theorem Ur:LK X (compareOp .LtE) (TY λi j=>.bl (decide (i<=j))):=zEn λ_ _ _ _ _ _ _ q=>le_int q
theorem zCi:LK X (compareOp .Gt) (TY λi j=>.bl (decide (j<i))):=zEn λ_ _ _ _ _ _ _ q=>gt_int q
theorem zAa:LK X (compareOp .GtE) (TY λi j=>.bl (decide (j<=i))):=zEn λ_ _ _ _ _ _ _ q=>ge_int q
theorem Sh:LK X (compareOp .In) (λx y H Q=>∃i j,x = .str i/\y = .str j/\Q (.bl (!(Builtin.Str.occurrences j i 0 j.length 1).isEmpty)) H):=by
 intro a s σ H x y v u Q I b c h;obtain⟨i,j,rfl,rfl,q⟩:=h;obtain⟨t,rfl⟩:=b;obtain⟨d,rfl⟩:=c;exact in_str (G8 I q rfl)
theorem Pf:LK X (compareOp .Is) (λx y H Q=>y = .non/\Q (.bl (decide (x = .non))) H):=by
 intro a s σ H x y v u Q I b c h;obtain⟨rfl,q⟩:=h;cases c;refine is_none_gen (G8 I q ?_);cases x<;>first
  | (cases b;rfl)
  | (obtain⟨t,rfl⟩:=b;rfl)
theorem Pr:LK X (compareOp .IsNot) (λx y H Q=>y = .non/\Q (.bl (!decide (x = .non))) H):=by
 intro a s σ H x y v u Q I b c h;obtain⟨rfl,q⟩:=h;cases c;refine isnot_none_gen (G8 I q ?_);cases x<;>first
  | (cases b;rfl)
  | (obtain⟨t,rfl⟩:=b;rfl)
theorem F6(b:H_){a:CmpOp}(h:a≠ .In:=by decide)(h2:a≠ .NotIn:=by decide):behindInMarks a b=false:=by
 have c:(a == CmpOp.In)=false:=by cases a<;>first | rfl | exact absurd rfl h
 have d:(a == CmpOp.NotIn)=false:=by cases a<;>first | rfl | exact absurd rfl h2
 cases b<;>simp[behindInMarks,c,d]
theorem I0{d:CmpOp}{r:R2}(e:LK X (compareOp d) r)(f:PE X a ta)(g:PE X b tb)(i:behindInMarks d b=false):PE X (.Compare a [d] [b] pos) (U_ r ta tb):=by
 intro c s σ H Q I h;exact wpAny_Compare1 (zFx f g I h λv u j x y k l m n q=>e c j σ k x y v u Q l m n q) i
def zEe(t:TE):TT:=λσ H Q=>t σ H λx a=>∃k,x = .bl k/\Q k a
theorem C9{f:CmpOp}{r:R2}(g:LK X (compareOp f) r)(i:PE X a ta)(j:PE X b tb)(l:behindInMarks f b=false):PT X (.Compare a [f] [b] pos) (zEe (U_ r ta tb)):=by
 intro d s σ H Q I h;refine wpAny_isTrue_Compare1 (IZ (i d s σ H _ I h) λv m ⟨x,n,o,p,q⟩=>IZ (j d m σ n _ o q) λu t ⟨y,w,A,B,C⟩ =>
  IZ (g d t σ w x y v u _ A p B C) λc J ⟨z,D,E,F,k,e,G⟩=>?_) l
 subst e;cases F;exact CL ⟨D,E,G⟩
def Xi(r b:R2)(ta tb tc:TE):TE:=λσ H Q=>ta σ H λx c=>tb σ c λy d=>r x y d λz a=>∃k,z = .bl k /\
 (if k=true then tc σ a λe f=>b y e f Q else Q (.bl false) a)
theorem Vo{i g:CmpOp}{r l:R2}(q:LK X (compareOp i) r)(j:LK X (compareOp g) l)(t:PE X a ta)(w:PE X b tb)(A:PE X c tc)
  (B:lastMarks [i,g] [b,c]=false:=by with_unfolding_all rfl):PE X (.Compare a [i,g] [b,c] pos) (Xi r l ta tb tc):=by
 intro f s σ H Q I h;refine Compare_chain (IZ (t f s σ H _ I h) λv C ⟨x,D,E,F,G⟩=>chain_link (IZ (w f C σ D _ E G) λu J ⟨y,K,L,m,M⟩ =>
  IZ (q f J σ K x y v u _ L F m M) λd N ⟨z,n,o,O,k,e,p⟩=>?_)) B
 subst e;cases O;refine CL ?_;cases k with
 | false=>exact ite_ff ⟨.bl false,n,o,rfl,p⟩
 | true=>exact ite_tt (chain_last (IZ (A f N σ n _ o p) λP R ⟨S,T,U,V,W⟩=>j f R σ T y S u P Q U m V W))
theorem Vh{i g:CmpOp}{r l:R2}(q:LK X (compareOp i) r)(j:LK X (compareOp g) l)(t:PE X a ta)(w:PE X b tb)(A:PE X c tc)
  (B:lastMarks [i,g] [b,c]=false:=by with_unfolding_all rfl):PT X (.Compare a [i,g] [b,c] pos) (zEe (Xi r l ta tb tc)):=by
 intro f s σ H Q I h;refine isTrue_chain (IZ (t f s σ H _ I h) λv C ⟨x,D,E,F,G⟩=>test_link (IZ (w f C σ D _ E G) λu J ⟨y,K,L,m,M⟩ =>
  IZ (q f J σ K x y v u _ L F m M) λd N ⟨z,n,o,O,k,e,p⟩=>?_)) B
 subst e;cases O;refine CL ?_;cases k with
 | false =>
  obtain⟨k',P,R⟩:=p;cases P;exact ite_ff ⟨n,o,R⟩
 | true =>
  refine ite_tt (test_last (IZ (A f N σ n _ o p) λS T ⟨U,V,W,Y,Z⟩=>IZ (j f T σ V y U u S _ W m Y Z) λd' s5 ⟨z2,H5,I5,r5,k2,e2,q5⟩=>?_));subst e2;cases r5;exact CL ⟨H5,I5,q5⟩
def zEs(K:PySem.W.Frag)(x:V)(H:Hp)(k:Bool):Prop :=
 match x with
 | .non=>k=false
 | .bl b=>k=b
 | .int i=>k =(i != 0)
 | .str y=>y.length<=sizeLine/\k =((y.length:Int) != 0)
 | .byt y=>y.size<=sizeLine/\k =((y.size:Int) != 0)
 | .ref p=>(∃a,HY K H p a/\k=!a.isEmpty)\/(∃a,JC K H p a/\k=!a.isEmpty)\/∃c,H p=some (.dK c)/\k=!c.isEmpty
 | _=>False
theorem Nj{U:Type}{a:A0 (U×V)}{vs:A0 (U×A1)}(r:KV a vs):(!vs.isEmpty)=!a.isEmpty:=by
 cases r<;>rfl
theorem Dr{xs:A0 V}{its:A0 A1}(r:IC xs its):(!its.toArray.isEmpty)=!xs.isEmpty:=by
 cases r<;>simp
theorem Dj:(sizeLine:Nat)<2^63:=by rw[sizeLine_eq];decide
theorem zBc:zHg X (λx H Q=>∃k,zEs X.K x H k/\Q k H):=by
 intro u s σ H x v Q I g h;obtain⟨k,e,q⟩:=h;have C:=Dj;have D:sizeLine=16777216:=sizeLine_eq;cases x with
 | non =>
  cases g;have a:k=false:=e;subst a;exact truthy_none ⟨H,I,q⟩
 | bl b =>
  cases g;have a:k=b:=e;subst a;exact CL ⟨H,I,q⟩
 | int i =>
  obtain⟨t,rfl⟩:=g;have a:k =(i != 0):=e;subst a;exact PySem.P.truthy_int ⟨H,I,q⟩
 | str y =>
  obtain⟨t,rfl⟩:=g;obtain⟨A,a⟩:y.length<=sizeLine/\k =((y.length:Int) != 0):=e;subst a;exact PySem.P.truthy_str (by lia) ⟨H,I.tok _,q⟩
 | byt y =>
  obtain⟨t,rfl⟩:=g;obtain⟨A,a⟩:y.size<=sizeLine/\k =((y.size:Int) != 0):=e;subst a;exact PySem.W.truthy_bytes (by lia) ⟨H,I.tok _,q⟩
 | ref p =>
  cases g;have a:(∃f,HY X.K H p f/\k=!f.isEmpty)\/(∃f,JC X.K H p f/\k=!f.isEmpty)\/∃c,H p=some (.dK c)/\k=!c.isEmpty:=e;rcases a with⟨f,j,a⟩ | ⟨f,j,a⟩ | ⟨c,j,a⟩
  .subst a;obtain⟨n,r,o,z⟩:=I.list j;have d:=r.length;exact wpAny_truthy_list o.isList (by simp only[BD];lia) ⟨H,I.tok _,by rw[Dr r];exact q⟩
  .subst a;obtain⟨n,r,o,z⟩:=I.tuple j;have d:=r.length;exact truthy_tuple o (by simp only[BD];lia) ⟨H,I.tok _,by rw[Dr r];exact q⟩
  .subst a;obtain⟨z,B,l,r,m⟩:c.length<=sizeLine/\(p == sysModules)=false/\∃l,KV c l/\s.heap.DictOf (D0 X.prog X.w) p l:=I.hok p _ j;have d:c.length=l.length:=Paired.length r;exact wpAny_truthy_dict B m (by lia) ⟨H,I.tok _,by rw[Nj r];exact q⟩
 | _=>exact(show False from e).elim
theorem Wv(d:PE X a ta)(e:∀b,isTrue a X.env b =(do let v <-b;standAt a.pos;holding [v] (truthy v))) :
  PT X a (λσ H Q=>ta σ H λx H'=>∃k,zEs X.K x H' k/\Q k H'):=by
 intro c s σ H Q I h;exact isTrue_plain (IZ (d c s σ H _ I h) λv f ⟨x,g,i,j,l⟩=>zBc c f σ g x v Q i j l) (e _)
theorem U6{x:V}{us:A0 A1}(r:IC [x] us):∃u,us = [u]/\RelV x u:=by
 cases r with
 | cons a b=>cases b;exact⟨_,rfl,a⟩
theorem zEt{x y:V}{us:A0 A1}(r:IC [x,y] us):∃u a,us = [u,a]/\RelV x u/\RelV y a:=by
 cases r with
 | cons b c =>
  cases c with
  | cons d e=>cases e;exact⟨_,_,rfl,b,d⟩
theorem Lf:J2 X (.builtin "abs") (λxs H Q=>∃i,xs = [.int i]/\Q (.int (if i<0 then -i else i)) H):=by
 intro a s σ H xs b Q I r h;obtain⟨i,rfl,q⟩:=h;obtain⟨u,rfl,t,rfl⟩:=U6 r;exact call_abs_int λu c=>⟨.int (if i<0 then -i else i),H,I.tok _,⟨_,rfl⟩,q⟩
theorem Sx(c:X.calm=true):J2 X (.builtin "min") (λxs H Q=>∃i j,xs = [.int i,.int j]/\Q (.int (if j<i then j else i)) H):=by
 intro b s σ H xs d Q I r h;obtain⟨i,j,rfl,q⟩:=h;obtain⟨u,e,rfl,⟨t,rfl⟩,⟨f,rfl⟩⟩:=zEt r;refine min_two_ints (I.ok.hd c) λg l k=>⟨_,H,I.kept k,?_,q⟩;by_cases a:j<i
 .rw[AY a,AY a];exact⟨_,rfl⟩
 .rw[AS a,AS a];exact⟨_,rfl⟩
theorem Gs:J2 X (.type "int") (λxs H Q=>(∃i,xs = [.int i]/\Q (.int i) H)\/∃k,xs = [.bl k]/\Q (.int (if k then 1 else 0)) H):=by
 intro a s σ H xs c Q I r h;rcases h with⟨i,rfl,q⟩ | ⟨k,rfl,q⟩
 .obtain⟨u,rfl,t,rfl⟩:=U6 r;exact call_int_int ⟨.int i,H,I,⟨_,rfl⟩,q⟩
 .obtain⟨u,rfl,b⟩:=U6 r;cases b;exact call_int_bool ⟨.int (if k then 1 else 0),H,I.tok _,⟨_,rfl⟩,q⟩
end
structure RR(h:HX)(x dx C:A2)(mA:Str->A6 A1):Prop where
 obj:h.get? x=some (PySem.W.instObj C dx)
 ns:h.Ns1 dx mA
 ne:dx≠x
def Rr{h:HX}{c:A2}{d:Str->A6 A1}(n:h.Ns1 c d):∃f,h.get? c=some f/\∀name,PySem.W.lookIn name f=some (d name):=by
 obtain⟨o,g,r,i,j,k,_,l⟩:=n;refine⟨o,i,λname=>?_⟩;have e:=l name;unfold nsFind findBy at e;rw[<-Array.find?_toList]at e;unfold PySem.W.lookIn;rw[j];dsimp only;split
 .rename_i y q;rw[q]at e;exact congrArg some e
 .rename_i q;rw[q]at e;have a:g.toList.any (·.refKey)=false:=by
   rw[List.any_eq_false];intro y m;obtain⟨z,t,b⟩:=k y (Array.mem_toList_iff.mp m);simp[DictEntry.refKey,b]
  have p:¬g.toList.any (·.refKey)=true:=by rw[a];exact BA
  rw[AS p];exact congrArg some e
def RR.look{h:HX}{x b C:A2}{c:Str->A6 A1}(I:RR h x b C c):∃a,PySem.W.InstAt h x (PySem.W.instObj C b) C (some a)/\∀name,PySem.W.lookIn name a=some (c name) :=
 let⟨a,d,e⟩:=Rr I.ns
 ⟨a,⟨I.obj,rfl,rfl,d⟩,e⟩
section
variable{prog:Cv}{w:HS}{A:HZ}{E:A1->A5->Prop}{s:A5}{K:PySem.W.Frag}{x dx C f:A2}{mA:Str->A6 A1}{name:Str}{v:A1}
theorem Xz{a:Bool}{Q:A1->A5->Prop}(X:K.In s.heap)(I:RR s.heap x dx C mA)(c:PySem.W.plainGet K C name=true)(d:PySem.W.hasDictIn K C=true)
  (e:PySem.W.findIn K (.ref C) name=some none) (f:mA name=some v) (b:PySem.W.handedIn v=true) (h:Q v { s with toks:=s.toks+1 }) :
  wpAny (model prog w) A (getAttr (.ref x) name a) Q E s:=by
 obtain⟨i,J,g⟩:=I.look;exact PySem.W.get_value X J (PySem.W.plainGet_of c).1 (PySem.W.findObj_own d e rfl (by rw[g,f])) b h
theorem Wg{pl:Sem Bool}{Q:A1×A0 A1->A5->Prop}(X:K.In s.heap)(I:RR s.heap x dx C mA)(a:PySem.W.plainGet K C name=true)
  (b:PySem.W.findIn K (.ref C) name=some (some (.ref f))) (c:PySem.W.isFn K (.ref f)=true) (d:mA name=none) (h:Q (.ref f,[.ref x]) s) :
  wpAny (model prog w) A (getMethod (.ref x) name pl) Q E s:=by
 obtain⟨e,J,g⟩:=I.look;exact PySem.W.method_fn X J (PySem.W.plainGet_of a).1 (PySem.W.plainGet_of a).2 b (beq_iff_eq.mp c) (by show(PySem.W.lookIn name e).map (·.isSome)=some false;rw[g,d];rfl) h
theorem Zw{ns:A0 Str}{Q:Unit->A5->Prop}(X:K.In s.heap)(I:RR s.heap x dx C mA)
  (j:PySem.W.findIn K (.ref C) "__setattr__" = some (some (.builtin "object.__setattr__"))) (k:PySem.W.plainOver K C=true) (l:PySem.W.takerIn K C name=some none) (m:PySem.W.hasDictIn K C=true)
  (hw:PySem.Within mA ns) (hsz:ns.length<=sizeLine)
  (h:∀h',RR h' x dx C (λy=>if y=name then some v else mA y)->Heap.SameBut dx s.heap h'->Q () { s with heap:=h',toks:=s.toks+2 }) :
  wpAny (model prog w) A (setAttr (.ref x) name v) Q E s:=by
 obtain⟨t,J,u⟩:=I.look;refine PySem.W.set_plain X J j (PySem.W.osa_open (s:={ s with toks:=s.toks+1 }) (r:=none) X J k l λb=>?_);obtain⟨z,n,e⟩:=PySem.W.any_some m;have o:s.heap.get? x=some ⟨.ref C,some dx,.plain,#[]⟩:=I.obj;refine AB (AE (AB (AB (wpAny_loadPart o (AB (PySem.W.Looks.here (s:={ s with toks:=s.toks+1 }) (PySem.W.looks_clsIn X n) ?_))))));rw[e];refine AE (a:=some dx) (AB (AE (AB ?_)));refine wpAny_nsSet1 (s:={ s with toks:=s.toks+1 }) I.ns λh' c d=>?_;obtain⟨B,p,q,f,g,i⟩:=c.count (PySem.Within.cons name v hw);refine AB (wpAny_lookBehind f (by rw[g];exact pastItsLine_dict (Nat.le_trans i (by rw[BK];lia))) ?_);exact AE (h _ ⟨(d.2 _ (Ne.symm I.ne)).trans I.obj,c,I.ne⟩ d)
theorem Wx{R:Result->A5->Prop}{vs:A0 A1}{b:A0 (Str×A1)}(X:K.In s.heap)(c:PySem.W.makesIn K C=true)
  (hi:PySem.W.findIn K (.ref C) "__init__" = some (some (.ref f))) (e:PySem.W.typeIn K (.ref f)=some (.type "function"))
  (h:codeAny (model prog w) (A.under (.builtin "type.__call__" ⟨.ref C::vs,b⟩)) (.call (.ref f) ⟨.ref (s.heap.objs.size+1)::vs,b⟩) (PySem.W.InitBack (s.heap.objs.size+1) R)
   { s with heap:=(s.heap.push PySem.W.emptyDict).push (PySem.W.instObj C s.heap.objs.size) }) :
  codeAny (model prog w) A (.call (.ref C) ⟨vs,b⟩) R s:=by
 obtain⟨i,g,d,t,os⟩:=s;exact PySem.W.make_core (PySem.W.makes_of X c) (PySem.W.looks_findIn X hi) (λa=>PySem.W.bind_fn X a e) (.inl rfl) h
end
def P3(f:Str)(v:V):A0 (Str×V)->A0 (Str×V)
 | []=>[(f,v)]
 | (g,x)::r=>if g=f then(g,v)::r else(g,x)::P3 f v r
def Aw(f g:Str)(v:V):∀c:A0 (Str×V),(P3 f v c).lookup g=if g=f then some v else c.lookup g
 | []=>by
  show List.lookup g [(f,v)]=_;by_cases h:g=f
  .have a:(g == f)=true:=beq_iff_eq.mpr h;simp only[List.lookup,a,AY h]
  .have a:(g == f)=false:=beq_eq_false_iff_ne.mpr h;simp only[List.lookup,a,AS h]
 | (k,x)::r=>by
  have d:=Aw f g v r;rw[show P3 f v ((k,x)::r) =(if k=f then(k,v)::r else(k,x)::P3 f v r)from rfl];by_cases b:k=f
  .rw[AY b];by_cases h:g=k
   .have a:(g == k)=true:=beq_iff_eq.mpr h;simp only[List.lookup,a,AY (h.trans b)]
   .have a:(g == k)=false:=beq_eq_false_iff_ne.mpr h;simp only[List.lookup,a,AS (λe:g=f=>h (e.trans b.symm))]
  .rw[AS b];by_cases h:g=k
   .have a:(g == k)=true:=beq_iff_eq.mpr h;simp only[List.lookup,a,AS (λe:g=f=>b (h.symm.trans e))]
   .have a:(g == k)=false:=beq_eq_false_iff_ne.mpr h;simp only[List.lookup,a];exact d
def Bt(f:Str)(v:V):∀a:A0 (Str×V),f∈(P3 f v a).map (·.1)/\∀g,g∈a.map (·.1)->g∈(P3 f v a).map (·.1)
 | []=>⟨by simp[P3],λg h=>by simp at h⟩
 | (k,x)::r=>by
  obtain⟨c,d⟩:=Bt f v r;rw[show P3 f v ((k,x)::r) =(if k=f then(k,v)::r else(k,x)::P3 f v r)from rfl];by_cases b:k=f
  .rw[AY b];subst b;exact⟨by simp,λg h=>by simpa using h⟩
  .rw[AS b];refine⟨?_,λg h=>?_⟩
   .rw[BP];exact AQ _ c
   .rw[BP]at h⊢;rcases A_.mp h with e | e
    .exact A_.mpr (.inl e)
    .exact AQ _ (d g e)
def Cf(f:Str)(v:V):∀a:A0 (Str×V),(P3 f v a).length<=a.length+1
 | []=>by simp[P3]
 | (k,x)::r=>by
  have c:=Cf f v r;rw[show P3 f v ((k,x)::r) =(if k=f then(k,v)::r else(k,x)::P3 f v r)from rfl];by_cases b:k=f
  .rw[AY b,BK,BK];lia
  .rw[AS b,BK,BK];lia
def L_.some_of{v:V}{o:A6 A1}(r:L_ (some v) o):∃u,o=some u/\RelV v u:=by
 cases o with
 | none=>exact(show False from r).elim
 | some u=>exact⟨u,rfl,r⟩
def L_.none_of{o:A6 A1}(r:L_ none o):o=none:=by
 cases o with
 | none=>rfl
 | some u=>exact(show False from r).elim
def Si{v:V}{u:A1}(r:RelV v u):PySem.W.handedIn u=true:=by
 cases v with
 | non=>cases(show u=Value.none from r);rfl
 | bl b=>cases(show u=Value.bool b from r);rfl
 | int i=>obtain⟨t,e⟩:=(show ∃t,u=Value.int i t from r);cases e;rfl
 | str x=>obtain⟨t,e⟩:=(show ∃t,u=Value.str x t from r);cases e;rfl
 | byt b=>obtain⟨t,e⟩:=(show ∃t,u=Value.bytes b t from r);cases e;rfl
 | flt b=>obtain⟨t,e⟩:=(show ∃t,u=Value.float b t from r);cases e;rfl
 | ref a=>cases(show u=Value.ref a from r);rfl
 | ty n=>cases(show u=Value.type n from r);rfl
section
variable{P:Cv}{w:HS}{H H':Hp}{h h':HX}{a C dx:A2}{fs fs':A0 (Str×V)}
theorem Fk(c:L0 P w H h)(e:H a=some (.ins C dx fs)):∃b,RR h a dx C b/\(∀f,L_ (fs.lookup f) (b f))/\PySem.Within b (fs.map (·.1))/\fs.length<=1000/\H dx=some (.own a):=by
 obtain⟨d,z,g,i,b,n,r,q⟩:=(show IM P w H h a (.ins C dx fs)from c a _ e);exact⟨b,⟨i,n,g⟩,r,q,z,d⟩
end
structure SN(K:PySem.W.Frag)(C:A2):Prop where
 pg:PySem.W.plainGet K C Str.empty=true
 hd:PySem.W.hasDictIn K C=true
 po:PySem.W.plainOver K C=true
 sa:PySem.W.findIn K (.ref C) "__setattr__" = some (some (.builtin "object.__setattr__"))
def SN.get{K:PySem.W.Frag}{C:A2}(c:SN K C)(f:Str):PySem.W.plainGet K C f=true:=c.pg
def JE(K:PySem.W.Frag)(C:A2)(f:Str):Prop:=PySem.W.findIn K (.ref C) f=some none
def JE.taker{K:PySem.W.Frag}{C:A2}{f:Str}(n:JE K C f):PySem.W.takerIn K C f=some none:=by
 unfold PySem.W.takerIn;rw[show PySem.W.findIn K (.ref C) f=some none from n];rfl
structure RU(K:PySem.W.Frag)(C:A2)(m:Str)(f:A2):Prop where
 at_:PySem.W.findIn K (.ref C) m=some (some (.ref f))
 fn:PySem.W.isFn K (.ref f)=true
 kp:PySem.W.keepIn K (.ref f)=true
section
variable{X:Cx}{pins:A0 (A2×Obj)}{σ:St}{H:Hp}{s:A5}{a C dx:A2}{fs:A0 (Str×V)}{f:Str}{v:V}{A:HZ}{E:A1->A5->Prop}
theorem Ou{b:Bool}{Q:A1->A5->Prop}(I:Inv X pins σ H s)(e:H a=some (.ins C dx fs))(c:SN X.K C)(n:JE X.K C f)(l:fs.lookup f=some v)
  (h:∀u d,Inv X pins σ H d->RelV v u->Q u d):wpAny (model X.prog X.w) A (getAttr (.ref a) f b) Q E s:=by
 obtain⟨i,O,r,_,_,_⟩:=Fk I.hok e;obtain⟨u,j,g⟩:=L_.some_of (v:=v) (o:=i f) (by rw[<-l];exact r f);exact Xz I.kIn O (c.get f) c.hd n j (Si g) (h u _ (I.tok _) g)
theorem Da{m:Str}{g:A2}{pl:Sem Bool}{Q:A1×A0 A1->A5->Prop}(I:Inv X pins σ H s)(e:H a=some (.ins C dx fs))(c:SN X.K C)(k:RU X.K C m g)(l:fs.lookup m=none)
  (h:Q (.ref g,[.ref a]) s):wpAny (model X.prog X.w) A (getMethod (.ref a) m pl) Q E s:=by
 obtain⟨b,O,r,_,_,_⟩:=Fk I.hok e;have d:b m=none:=L_.none_of (by rw[<-l];exact r m);exact Wg I.kIn O (c.get m) k.at_ k.fn d h
theorem Np{y:V}{u:A1}{Q:Unit->A5->Prop}(I:Inv X pins σ H s)(e:H a=some (.ins C dx fs))(c:SN X.K C)(n:JE X.K C f)(J:fs.length<1000)(m:RelV y u)
  (h:∀i,Inv X pins σ (HU H a (.ins C dx (P3 f y fs))) i->Q () i):wpAny (model X.prog X.w) A (setAttr (.ref a) f u) Q E s:=by
 obtain⟨j,O,r,k,_,l⟩:=Fk I.hok e;have p:(fs.map (·.1)).length<=sizeLine:=by rw[AA,sizeLine_eq];lia
 refine Zw I.kIn O c.sa c.po n.taker c.hd k p λt d v=>h _ ?_;have B:∃o,t.get? dx=some o:=let⟨o,_,_,D,_⟩:=d.ns;⟨o,D⟩;refine I.write (x:=a) (e:=dx) (by rw[e];exact True.intro) (.inr l) (λb q F z=>(v.2 b F).trans z) B ?_;refine⟨by rw[B8 O.ne];exact l,?_,O.ne,d.obj,_,d.ns,λg=>?_,λg G=>?_⟩
 .have:=Cf f y fs;lia
 .show L_ ((P3 f y fs).lookup g) (if g=f then some u else j g);rw[Aw];by_cases q:g=f
  .rw[AY q,AY q];exact m
  .rw[AS q,AS q];exact r g
 .by_cases q:g=f
  .rw[q];exact(Bt f y fs).1
  .refine(Bt f y fs).2 g (k g λz=>G ?_);show(if g=f then some u else j g)=none;rw[AS q];exact z
theorem Inv.made(I:Inv X pins σ H s):Inv X pins σ (HU (HU H s.heap.objs.size (.own (s.heap.objs.size+1))) (s.heap.objs.size+1) (.ins C s.heap.objs.size []))
  { s with heap:=(s.heap.push PySem.W.emptyDict).push (PySem.W.instObj C s.heap.objs.size) }:=by
 have c:(s.heap.push PySem.W.emptyDict).get? s.heap.objs.size=some PySem.W.emptyDict:=BG s.heap rfl;have f:((s.heap.push PySem.W.emptyDict).push (PySem.W.instObj C s.heap.objs.size)).get? (s.heap.objs.size+1)=some (PySem.W.instObj C s.heap.objs.size):=by
  have:=BG (s.heap.push PySem.W.emptyDict) (o:=PySem.W.instObj C s.heap.objs.size) rfl
  rwa [CZ]at this
 have g:(s.heap.push PySem.W.emptyDict).Ns s.heap.objs.size (λ_=>none):=⟨PySem.W.emptyDict,#[],_,c,rfl,(λe h=>absurd h (by simp)),λ_=>rfl⟩;have i:=I.laid (a:=s.heap.objs.size) (o:=.own (s.heap.objs.size+1)) (h':=s.heap.push PySem.W.emptyDict) (t':=s.toks) (λb u q=>AD _ q) (Nat.le_refl _) ⟨_,c⟩;refine i.laid (a:=s.heap.objs.size+1) (o:=.ins C s.heap.objs.size []) (t':=s.toks) (λb u q=>AD _ q) (Nat.le_of_eq (CZ _ _)) ?_;have d:s.heap.objs.size≠s.heap.objs.size+1:=BC (FG _);refine⟨by rw[B8 d,A9],BR _,d,f,λ_=>none,(Heap.Ns1.of_empty g).at λo q=>AD _ q,λ_=>True.intro,λy j=>absurd rfl j⟩
theorem Yh{prog:Cv}{w:HS}{a:NL}{e:H_}{f:Str}{pos:Pos}{s:A5}{Q:A1->A5->Prop}(b:attributeBase e f a (eval e a)=eval e a)
  (h:wpAny (model prog w) A (eval e a) (λo s₁=>wpAny (model prog w) A (getAttr o f true) Q E s₁) E s):wpAny (model prog w) A (eval (.Attribute e f pos) a) Q E s :=
 Attribute_any_ h (by rw[arm_eval_Attribute,b])
end
def zGx(K:PySem.W.Frag)(d:TE)(f:Str):TE:=λσ H Q=>d σ H λx b=>∃a C e c v,x = .ref a/\b a=some (.ins C e c)/\SN K C/\JE K C f/\c.lookup f=some v/\Q v b
def zFg(K:PySem.W.Frag)(e g:TE)(f:Str):TS:=λD σ H=>g σ H λy h=>e σ h λx c=>∃a C d b,x = .ref a/\c a=some (.ins C d b)/\SN K C/\JE K C f/\b.length<1000 /\
 D.nx σ (HU c a (.ins C d (P3 f y b)))
section
variable{X:Cx}{o e value:H_}{f:Str}{pos pos' tpos:Pos}{ta tv:TE}
theorem zCq(d:PE X e ta)(g:attributeBase e f X.env (eval e X.env)=eval e X.env):PE X (.Attribute e f pos) (zGx X.K ta f):=by
 intro b s σ H Q I h;refine Yh g (IZ (d b s σ H _ I h) λu t ⟨x,i,j,k,a,C,w,y,v,m,o,c,n,l,q⟩=>?_);subst m;obtain rfl:u=Value.ref a:=k;exact Ou j o c n l λz A p r=>⟨v,i,p,r,q⟩
theorem zDb(d:PE X o ta)(e:PE X value tv)(g:swapsWith value (some (.Attribute o f pos')) pos.line X.env=pure false):PS X (.Assign [.Attribute o f pos'] value pos) (zFg X.K ta tv f):=by
 intro b s σ H D I h;refine plainObj_wpAny_Assign_Attribute (IZ (e b s σ H _ I h) λu i ⟨y,j,k,m,q⟩=>IZ (d b i σ j _ k q) λp B ⟨x,E,r,t,a,C,F,G,v,w,c,n,l,z⟩=>?_) g;subst v;obtain rfl:p=Value.ref a:=t;exact Np r w c n l m λJ A=>⟨σ,_,A,z⟩
end
section
variable{X:Cx}{pins:A0 (A2×Obj)}{σ:St}{H:Hp}{s:A5}{A:HZ}{E:A1->A5->Prop}{Q:A1->A5->Prop}{c:A1}{b:Bool}
inductive MP(K:PySem.W.Frag)(H:Hp):V->A1->Prop where
 | non:MP K H .non (.type "NoneType")
 | bl (x:Bool):MP K H (.bl x) (.type "bool")
 | int (i:Int):MP K H (.int i) (.type "int")
 | str (x:Str):MP K H (.str x) (.type "str")
 | flt (x:UInt64):MP K H (.flt x) (.type "float")
 | lst {a:A2} {xs:A0 V} (e:H a=some (.lst xs)):MP K H (.ref a) (.type "list")
 | frz {a:A2} {o:Obj} {xs:A0 V} (e:H a=some (.frz o (.lst xs))):MP K H (.ref a) (.type "list")
 | tup {a:A2} {xs:A0 V} (e:H a=some (.tup xs)):MP K H (.ref a) (.type "tuple")
 | dK {a:A2} {kvs:A0 (IL×V)} (e:H a=some (.dK kvs)):MP K H (.ref a) (.type "dict")
 | dT {a:A2} {kvs:A0 (A0 IL×V)} (e:H a=some (.dT kvs)):MP K H (.ref a) (.type "dict")
 | ins {a C dx:A2} {fs:A0 (Str×V)} (e:H a=some (.ins C dx fs)) (cl:SN K C) (ha:PySem.W.findIn K (.ref C) "__class__" = some (some (.builtin "object.__class__")))
   (hn:PySem.W.specialIn K (.builtin "object.__class__") "__get__" = some (some (.builtin "getset_descriptor.__get__"))) (htk:PySem.W.takesIn K (.builtin "object.__class__")=some true)
   (hm:PySem.W.mroIn K C (.type "object")=some true):MP K H (.ref a) (.ref C)
theorem Pu{x:V}{u t:A1}(I:Inv X pins σ H s)(d:RelV x u)(ty:MP X.K H x t)(e:PySem.W.kitOne X.K t c=some b)(h:∀v,Q (.bool b) { s with toks:=v }) :
  wpAny (model X.prog X.w) A (call (.builtin "isinstance") [u,c]) Q E s:=by
 cases ty with
 | non=>cases(show u=Value.none from d);exact PySem.W.kia_one PySem.W.kitx_none I.kIn True.intro e (λz=>nomatch z) h
 | bl y=>cases(show u=Value.bool y from d);exact PySem.W.kia_one PySem.W.kitx_bool I.kIn True.intro e (λz=>nomatch z) h
 | int i=>obtain⟨t,q⟩:=(show ∃t,u=Value.int i t from d);cases q;exact PySem.W.kia_one PySem.W.kitx_int I.kIn True.intro e (λz=>nomatch z) h
 | str y=>obtain⟨t,q⟩:=(show ∃t,u=Value.str y t from d);cases q;exact PySem.W.kia_one PySem.W.kitx_str I.kIn True.intro e (λz=>nomatch z) h
 | flt y=>obtain⟨t,q⟩:=(show ∃t,u=Value.float y t from d);cases q;exact PySem.W.kia_one PySem.W.kitx_float I.kIn True.intro e (λz=>nomatch z) h
 | @lst a k f =>
  cases(show u=Value.ref a from d);obtain⟨_,_,n,_,g⟩:=(show IM X.prog X.w H s.heap a (.lst k)from I.hok a _ f);exact PySem.W.kia_one PySem.W.kitx_list I.kIn ⟨_,g,rfl⟩ e (λz=>nomatch z) h
 | @frz a B k f =>
  cases(show u=Value.ref a from d);obtain⟨_,_,_,n,_,g⟩:=(show IM X.prog X.w H s.heap a (.frz B (.lst k))from I.hok a _ f);exact PySem.W.kia_one PySem.W.kitx_list I.kIn ⟨_,g,rfl⟩ e (λz=>nomatch z) h
 | @tup a k f =>
  cases(show u=Value.ref a from d);obtain⟨_,_,_,p⟩:=(show IM X.prog X.w H s.heap a (.tup k)from I.hok a _ f);obtain⟨o,g,l,_⟩:=p;exact PySem.W.kia_one PySem.W.kitx_tuple I.kIn ⟨o,g,l⟩ e (λz=>nomatch z) h
 | @dK a j f =>
  cases(show u=Value.ref a from d);obtain⟨_,_,N,_,p⟩:=(show IM X.prog X.w H s.heap a (.dK j)from I.hok a _ f);obtain⟨o,D,F,g,l,_⟩:=p;exact PySem.W.kia_one PySem.W.kitx_dict I.kIn ⟨o,g,l.1⟩ e (λz=>nomatch z) h
 | @dT a j f =>
  cases(show u=Value.ref a from d);obtain⟨_,_,k,_,o,D,F,g,l,_⟩:=(show IM X.prog X.w H s.heap a (.dT j)from I.hok a _ f);exact PySem.W.kia_one PySem.W.kitx_dict I.kIn ⟨o,g,l.1⟩ e (λz=>nomatch z) h
 | @ins a C P R f r G L m M =>
  cases(show u=Value.ref a from d);obtain⟨S,O,_⟩:=Fk I.hok f;obtain⟨T,J,_⟩:=O.look;exact PySem.W.kia_one (PySem.W.kitx_own (r.get _) r.hd G L m M) I.kIn J e (λz=>nomatch z) h
end
structure JH(k:Nat)(A:HZ):Prop where
 hd:A.handled=none
 dp:A.depth+3*k+5<recursionLimit
 un:A.units+16*k+200<cLine
def JH.mono{j k:Nat}{A:HZ}(r:JH k A)(h:j<=k):JH j A:=⟨r.hd,by have:=r.dp;lia,by have:=r.un;lia⟩
def JH.deeper{k:Nat}{A:HZ}(r:JH (k+1) A)(a:NL):JH k (A.deeper a) :=
 ⟨r.hd,by have:=r.dp;show A.depth+1+3*k+5<_;lia,by have:=r.un;show A.units+3+16*k+200<_;lia⟩
def Nf{A:HZ}{C:A2}{us:A0 A1}{a:A0 (Str×A1)}:(A.under (.builtin "type.__call__" ⟨.ref C::us,a⟩)).depth=A.depth+1:=by
 first | rfl | simp[Around.under,Code.weight,Code.isCreation,Code.isGuard,Code.isCaller,Code.frames,Code.isFrame,guardIds]
def Nu{A:HZ}{C:A2}{us:A0 A1}{a:A0 (Str×A1)}:(A.under (.builtin "type.__call__" ⟨.ref C::us,a⟩)).units=A.units+1:=by
 first | rfl | simp[Around.under,Code.cUnits,Code.frames,Code.isFrame]
def JH.make{k:Nat}{A:HZ}(r:JH (k+1) A)(C:A2)(us:A0 A1)(a:A0 (Str×A1)):JH k (A.under (.builtin "type.__call__" ⟨.ref C::us,a⟩)) :=
 ⟨r.hd,by have:=r.dp;rw[Nf];lia,by have:=r.un;rw[Nu];lia⟩
def JH.depth{k:Nat}{A:HZ}(r:JH k A):A.depth<recursionLimit:=by have:=r.dp;lia
def JH.units{k:Nat}{A:HZ}(r:JH k A):A.units+64<cLine:=by have:=r.un;lia
def Ul:TA:=λ_ H Q=>Q [] H
def Bz(a:TE)(b:TA):TA:=λσ H Q=>a σ H λx c=>b σ c λd e=>Q (x::d) e
section
variable{X:Cx}{e:H_}{es:A0 H_}{te:TE}{t:TA}{pos:Pos}
theorem B0:PA X [] Ul:=λ_ _ _ _ H Q I h=>Calls.spliced_nil ⟨[],H,I,.nil,h⟩
theorem A8(b:PE X e te)(c:PA X es t)(d:starEach (e::es) X.env =(false,eval e X.env)::starEach es X.env:=by rfl):PA X (e::es) (Bz te t):=by
 intro pos a s σ H Q I h;rw[d];show wpAny _ _ (spliced ((false,eval e X.env)::backTo pos (starEach es X.env))) _ _ s;refine Calls.spliced_cons (IZ (b a s σ H _ I h) λu f ⟨x,g,i,j,k⟩=>?_);exact IZ (c pos a f σ g _ i k) λq r ⟨l,m,n,o,p⟩=>⟨x::l,m,n,.cons j o,p⟩
def UU(t:TA):TE:=λσ H Q=>t σ H λa b=>a.length<=sizeLine/\∀p,b p=none->Q (.ref p) (HU b p (.tup a))
def zGk(t:TA):TE:=λσ H Q=>t σ H λa b=>a.length<=sizeLine/\∀p,b p=none->Q (.ref p) (HU b p (.lst a))
theorem J7{g}(h:PA X es t):PE X (.Tuple es g pos) (UU t):=by
 intro a s σ H Q I i;refine wpAny_Tuple_spliced (IZ (h pos a s σ H _ I i) λj c ⟨k,d,f,r,z,q⟩=>⟨by rw[<-r.length];exact z,?_⟩);have l:d c.heap.objs.size=none:=f.hok.fresh (Nat.le_refl _);refine⟨.ref c.heap.objs.size,HU d c.heap.objs.size (.tup k),f.laid (t':=c.toks) (λb u e=>AD _ e) (Nat.le_refl _) ?_,rfl,q _ l⟩;exact⟨z,j,r,⟨_,BG _ rfl,rfl,_,rfl⟩⟩
theorem F7(h:PA X es t):PE X (.List es pos) (zGk t):=by
 intro a s σ H Q I g;refine wpAny_List_spliced (IZ (h pos a s σ H _ I g) λi c ⟨j,d,f,r,z,q⟩=>⟨by rw[<-r.length];exact z,?_⟩);have k:d c.heap.objs.size=none:=f.hok.fresh (Nat.le_refl _);refine⟨.ref c.heap.objs.size,HU d c.heap.objs.size (.lst j),f.laid (t':=c.toks) (λb u e=>AD _ e) (Nat.le_refl _) ?_,rfl,q _ k⟩;exact⟨z,i,0,r,BG _ rfl⟩
end
abbrev Sp:=A0 V->Hp->VK->XK->Prop
abbrev TK:=A0 NL->Hp->A5->XK->A1->A5->Prop
structure QT(P:Cv)(w:HS)(K:PySem.W.Frag)(mg:Str->A6 A1)(base:HX)(A:HZ)(outer:A0 NL)(s:A5)(H:Hp):Prop where
 frames:A.frames=some outer
 mod:Mod K mg base
 bs:∀b o,base.get? b=some o->s.heap.get? b=some o/\H b=none
 bsz:base.objs.size<=s.heap.objs.size
 funs:s.heap.FunFrames base outer
 frf:∀b∈MW outer,H b=none
 hok:L0 P w H s.heap
 bare:AllBare s.gens
def CE(a:A0 NL)(P:Cv)(w:HS)(H:Hp)(s:A5)(Q:VK)(u:A1)(b:A5):Prop :=
 ∃v c,b.os=s.os/\AllBare b.gens/\Un (MW a) [] H c s.heap b.heap/\L0 P w c b.heap/\RelV v u/\Q v c
def CR(c:TK)(a:A0 NL)(P:Cv)(w:HS)(H:Hp)(s:A5)(Q:VK)(E:XK)(r:Result)(b:A5):Prop :=
 match r with
 | .ok (.ret u)=>CE a P w H s Q u b
 | .ok _=>False
 | .error e=>c a H s E e b
structure II(P:Cv)(w:HS)(K:PySem.W.Frag)(mg:Str->A6 A1)(base:HX)(CX:TK)(k:Nat)(f:A2)(fd:IJ)(ps:A0 Str)(sp:Sp):Prop where
 len:∀vs H Q E,sp vs H Q E->vs.length=ps.length
 run:∀(A:HZ) (outer:A0 NL) (s:A5) (H:Hp) (args:Args) (us:A0 A1) (vs:A0 V) (Q:VK) (E:XK),JH k A->QT P w K mg base A outer s H->BindsTo s fd args (ps.zip us)->IC vs us->sp vs H Q E ->
  codeAny (model P w) A (.call (.ref f) args) (CR CX outer P w H s Q E) s
def II.mono{P:Cv}{w:HS}{K:PySem.W.Frag}{b:Str->A6 A1}{base:HX}{c:TK}{j k:Nat}{f:A2}{d:IJ}{ps:A0 Str}{sp:Sp}(F:II P w K b base c j f d ps sp)(h:j<=k) :
  II P w K b base c k f d ps sp:=⟨F.len,λA a s H args e g Q E i=>F.run A a s H args e g Q E (i.mono h)⟩
def QT.make{P:Cv}{w:HS}{K:PySem.W.Frag}{b:Str->A6 A1}{base:HX}{A:HZ}{a:A0 NL}{s:A5}{H:Hp}(e:QT P w K b base A a s H)(C:A2)(us:A0 A1)(c:A0 (Str×A1)) :
  QT P w K b base (A.under (.builtin "type.__call__" ⟨.ref C::us,c⟩)) a s H:=⟨by first | exact e.frames | (simpa [Around.under,Code.envs,Code.isFrame,pushEnvs] using e.frames),e.mod,e.bs,e.bsz,e.funs,e.frf,e.hok,e.bare⟩
section
variable{X:Cx}{pins:A0 (A2×Obj)}{σ:St}{H:Hp}{s s':A5}
theorem Inv.env0(I:Inv X pins σ H s):QT X.prog X.w X.K X.mg X.base X.A X.stack s H :=
 ⟨I.ok.frames,I.ok.mod,I.bs,Nat.le_trans I.ok.bsz I.sz,I.stack,I.stkFree,I.hok,I.bare⟩
theorem Inv.after{Q:VK}{u:A1}(I:Inv X pins σ H s)(h:CE X.stack X.prog X.w H s Q u s'):EP X pins σ Q u s':=by
 obtain⟨v,f,os,a,i,c,r,q⟩:=h;obtain⟨j,g,d,t,e⟩:=s';obtain rfl:e=s.os:=os;exact⟨v,f,I.call (h':=j) (g':=g) (d':=d) (t':=t) (ch:=[]) i c a (λb z=>absurd z (by simp)),r,q⟩
end
def Yg(sp:Sp)(a:A0 V)(E:XK)(t:TA):TE:=λσ H Q=>t σ H λb c=>sp (b++a) c Q E
def zEl(C:A2)(m:Str)(sp:Sp)(b:A0 V)(E:XK)(e:TE)(t:TA):TE:=λσ H Q=>e σ H λx c=>∃a f d,x = .ref a/\c a=some (.ins C f d)/\d.lookup m=none /\
 t σ c λg h=>sp (x ::(g++b)) h Q E
def zFf(C:A2)(sp:Sp)(b:A0 V)(E:XK)(t:TA):TE:=λσ H Q=>t σ H λd c=>∀x a,c x=none->c a=none->a≠x ->
 sp (.ref x ::(d++b)) (HU (HU c a (.own x)) x (.ins C a [])) (λv e=>v = .non/\Q (.ref x) e) E
def Binds(K:PySem.W.Frag)(c:IJ)(ps:A0 Str)(b:A0 A1):Prop :=
 ∀(s:A5) (a:A0 A1),K.In s.heap->(a++b).length=ps.length->BindsTo s c ⟨a,[]⟩ (ps.zip (a++b))
def Binds.all{K:PySem.W.Frag}{a:IJ}{ps:A0 Str}(h:∀us:A0 A1,us.length=ps.length->bindArgs a ⟨us,[]⟩=pure (ps.zip us)):Binds K a ps []:=λs us _ b=>by
 rw[CB]at b⊢;exact .of_eq (h us b)
def Bm(c:TK)(X:Cx)(E:XK):Prop:=∀(a:A0 (A2×Obj)) (σ:St) (H:Hp) (s:A5) (e:A1) (b:A5),Inv X a σ H s->c X.stack H s E e b->X.xe e b
section
variable{X:Cx}{CX:TK}{k:Nat}{f C:A2}{fd:IJ}{ps:A0 Str}{sp:Sp}{dvs:A0 V}{ds:A0 A1}{E:XK}{x m:Str}{p pos apos:Pos}{e o:H_}{es:A0 H_}{ta:TE}{t:TA}
theorem Mc{a:A0 (A2×Obj)}{σ:St}{H:Hp}{s:A5}{Q:VK}{us:A0 A1}{vs:A0 V}(F:II X.prog X.w X.K X.mg X.base CX k f fd ps sp)(d:JH k X.A)(g:Binds X.K fd ps ds)(i:IC dvs ds)(j:Bm CX X E)
  (I:Inv X a σ H s) (r:IC vs us) (h:sp (vs++dvs) H Q E):wpAny (model X.prog X.w) X.A (call (.ref f) us) (EP X a σ Q) X.xe s:=by
 have c:IC (vs++dvs) (us++ds):=r.append i;have l:(us++ds).length=ps.length:=by rw[<-c.length];exact F.len _ _ _ _ h
 refine FR (FE (F.run X.A X.stack s H ⟨us,[]⟩ (us++ds) (vs++dvs) Q E d I.env0 (g s us I.kIn l) c h) λr m b=>?_);cases r with
 | error e=>exact j a σ H s e m I b
 | ok n =>
  cases n with
  | ret u=>exact I.after b
  | next=>exact False.elim b
  | brk=>exact False.elim b
  | cont=>exact False.elim b
theorem zAm(F:II X.prog X.w X.K X.mg X.base CX k f fd ps sp)(g:JH k X.A)(i:Gl X x)(j:X.mg x=some (.ref f))(l:PySem.W.keepIn X.K (.ref f)=true)(m:Binds X.K fd ps ds)(n:IC dvs ds)(o:Bm CX X E)
  (u:PA X (e::es) t) (b:(x ==("__debug__":Str))=false:=by decide) (v:starEach (e::es) X.env =(false,eval e X.env)::starEach es X.env:=by rfl) (c:(backTo pos (starEach es X.env)).any (·.1)=false:=by rfl) :
  PE X (.Call (.Name x p) (e::es) [] pos) (Yg sp dvs E t):=by
 intro a s σ H Q I h;refine DC (u0 I i j ?_ b);refine PySem.W.callWith_K (h₀:=X.base) I.ok.mod.kin l (IZ (u pos a s σ H _ I h) λy z ⟨B,C,d,r,q⟩=>⟨d.kIn,?_⟩) v c;exact Mc F g m n o d r q
theorem Kq{pl:Sem Bool}(v:PE X o ta)(c:SN X.K C)(i:RU X.K C m f)(F:II X.prog X.w X.K X.mg X.base CX k f fd ps sp)(y:JH k X.A)(z:Binds X.K fd ps ds)(B:IC dvs ds)(D:Bm CX X E)(G:PA X (e::es) t)
  (d:starEach (e::es) X.env =(false,eval e X.env)::starEach es X.env:=by rfl) (g:(backTo pos (starEach es X.env)).any (·.1)=false:=by rfl)
  (J:eval (.Call (.Attribute o m apos) (e::es) [] pos) X.env =(do
   let j <-eval o X.env
   standAt apos.atName
   let(f,first) <-holding [j] (getMethod j m pl)
   callWith pos f first (backTo pos (starEach (e::es) X.env)) (backToKw pos (keywordEach [] X.env))):=by rfl) :
  PE X (.Call (.Attribute o m apos) (e::es) [] pos) (zEl C m sp dvs E ta t):=by
 intro b s σ H Q I h;refine PySem.W.methodCall_KW (pl:=pl) (IZ (v b s σ H _ I h) λu L ⟨x,M,n,N,a,S,T,O,P,l,q⟩=>?_) J;subst O;obtain rfl:u=Value.ref a:=N;refine Da n P c i l ?_;refine PySem.W.callWith_K (first:=[.ref a]) (h₀:=X.base) I.ok.mod.kin i.kp (IZ (G pos b L σ M _ n q) λus U ⟨vs,V,p,r,R⟩=>⟨p.kIn,?_⟩) d g;exact Mc (us:=.ref a::us) (vs:=.ref a::vs) F y z B D p (.cons rfl r) R
theorem Vj{pl:Sem Bool}(i:PE X o ta)(c:SN X.K C)(e:RU X.K C m f)(F:II X.prog X.w X.K X.mg X.base CX k f fd ps sp)(j:JH k X.A)(n:Binds X.K fd ps ds)(p:IC dvs ds)(r:Bm CX X E)
  (t:eval (.Call (.Attribute o m apos) [] [] pos) X.env =(do
   let g <-eval o X.env
   standAt apos.atName
   let(f,first) <-holding [g] (getMethod g m pl)
   callWith pos f first (backTo pos (starEach [] X.env)) (backToKw pos (keywordEach [] X.env))):=by rfl) :
  PE X (.Call (.Attribute o m apos) [] [] pos) (zEl C m sp dvs E ta Ul):=by
 intro b s σ H Q I h;refine PySem.W.methodCall_KW (pl:=pl) (IZ (i b s σ H _ I h) λu B ⟨x,D,d,v,a,G,J,y,z,l,q⟩=>?_) t;subst y;obtain rfl:u=Value.ref a:=v;refine Da d z c e l ?_;exact PySem.W.callWith_K0 (first:=[.ref a]) d.kIn e.kp (Mc (us:=[.ref a]) (vs:=[.ref a]) F j n p r d (.cons rfl .nil) q)
structure Mk(K:PySem.W.Frag)(C f:A2):Prop where
 makes:PySem.W.makesIn K C=true
 init:PySem.W.findIn K (.ref C) "__init__" = some (some (.ref f))
 fn:PySem.W.isFn K (.ref f)=true
 kp:PySem.W.keepIn K (.ref C)=true
theorem Vl{a:A0 (A2×Obj)}{σ:St}{H:Hp}{s:A5}{Q:VK}{us:A0 A1}{vs:A0 V}(M:Mk X.K C f)(F:II X.prog X.w X.K X.mg X.base CX k f fd ps sp)(j:JH (k+1) X.A)(l:Binds X.K fd ps ds)(m:IC dvs ds)
  (n:Bm CX X E) (I:Inv X a σ H s) (r:IC vs us)
  (h:∀x c,H x=none->H c=none->c≠x->sp (.ref x ::(vs++dvs)) (HU (HU H c (.own x)) x (.ins C c [])) (λv o=>v = .non/\Q (.ref x) o) E) :
  wpAny (model X.prog X.w) X.A (call (.ref C) us) (EP X a σ Q) X.xe s:=by
 have g:=h (s.heap.objs.size+1) s.heap.objs.size (I.hok.fresh (CQ _)) (I.hok.fresh (Nat.le_refl _)) (BC (FG _));have d:=Inv.made (C:=C) I;have i:IC (V.ref (s.heap.objs.size+1) ::(vs++dvs)) (Value.ref (s.heap.objs.size+1) ::(us++ds)):=.cons rfl (r.append m);have p:(Value.ref (s.heap.objs.size+1)::us++ds).length=ps.length:=by
  have e:=i.length;rw[F.len _ _ _ _ g]at e;exact e.symm
 refine FR (Wx (f:=f) I.kIn M.makes M.init (beq_iff_eq.mp M.fn) (FE (F.run _ X.stack _ _ ⟨Value.ref (s.heap.objs.size+1)::us,[]⟩ (Value.ref (s.heap.objs.size+1) ::(us++ds)) _ _ E (j.make C us [])
  (d.env0.make C us []) (l _ (Value.ref (s.heap.objs.size+1)::us) d.kIn p) i g) λr q b=>?_))
 cases r with
 | error e=>exact n a σ _ _ e q d b
 | ok t =>
  cases t with
  | ret u =>
   obtain⟨v,y,z,B,D,G⟩:=d.after b;subst D;exact⟨B,⟨V.ref (s.heap.objs.size+1),y,z,rfl,G⟩⟩
  | next=>exact False.elim b
  | brk=>exact False.elim b
  | cont=>exact False.elim b
theorem Qt(M:Mk X.K C f)(F:II X.prog X.w X.K X.mg X.base CX k f fd ps sp)(g:JH (k+1) X.A)(i:Gl X x)(j:X.mg x=some (.ref C))(l:Binds X.K fd ps ds)(m:IC dvs ds)(n:Bm CX X E)
  (o:PA X (e::es) t) (b:(x ==("__debug__":Str))=false:=by decide) (u:starEach (e::es) X.env =(false,eval e X.env)::starEach es X.env:=by rfl) (c:(backTo pos (starEach es X.env)).any (·.1)=false:=by rfl) :
  PE X (.Call (.Name x p) (e::es) [] pos) (zFf C sp dvs E t):=by
 intro a s σ H Q I h;refine DC (u0 I i j ?_ b);refine PySem.W.callWith_K (h₀:=X.base) I.ok.mod.kin M.kp (IZ (o pos a s σ H _ I h) λv y ⟨z,B,d,r,q⟩=>⟨d.kIn,?_⟩) u c;exact Vl M F g l m n d r q
end
structure HW(N P:A0 Str)(sc:IT):Prop where
 kind:sc.kind = .function
 co:sc.isCoroutine=false
 gen:sc.isGenerator=false
 nd:N.Nodup
 pre:N.take P.length=P
 par:∀x∈P,sc.names.lookup x=some .local\/sc.names.lookup x=some .cell
 nofree:∀y∈sc.names,y.2≠ .free
def Fx{kindOf:Str->A6 JF}{x:Str}:∀{a:A0 (Str×A1)} {m:Str->A6 A1},(∀v,(x,v)∉a)->bindL kindOf a m x=m x
 | [],_,_=>rfl
 | (n,v)::r,m,h=>by
  unfold bindL;rw[Fx λw b=>h w (AQ _ b)];split
  .have:x≠n:=by rintro rfl;exact h v AZ
   simp[this]
  .rfl
def Iw{kindOf:Str->A6 JF}{x:Str}:∀{a:A0 (Str×A1)} {m:Str->A6 A1},(∀v,(x,v)∉a)->bindC kindOf a m x=m x
 | [],_,_=>rfl
 | (n,v)::r,m,h=>by
  unfold bindC;rw[Iw λw b=>h w (AQ _ b)];split
  .rfl
  .have:x≠n:=by rintro rfl;exact h v AZ
   simp[this]
def Gx{kindOf:Str->A6 JF}{x:Str}{v:A1}:∀{P:A0 Str} {vs:A0 A1} {i:Nat} {m:Str->A6 A1},P.Nodup->P[i]?=some x->vs[i]?=some v->kindOf x=some .local ->
  bindL kindOf (P.zip vs) m x=some v
 | [],_,_,_,_,h,_,_=>by simp at h
 | _::_,[],_,_,_,_,h,_=>by simp at h
 | p::P,w::vs,0,m,c,a,b,d=>by
  simp at a b;subst a;subst b;show bindL kindOf ((p,w)::P.zip vs) m p=_;unfold bindL;rw[Fx λv e=>(B_.mp c).1 (GN e).1,AY d];simp
 | p::P,w::vs,i+1,m,c,a,b,d=>by
  show bindL kindOf ((p,w)::P.zip vs) m x=_;unfold bindL;exact Gx (i:=i) (B_.mp c).2 (by simpa using a) (by simpa using b) d
def Ir{kindOf:Str->A6 JF}{x:Str}{v:A1}:∀{P:A0 Str} {vs:A0 A1} {i:Nat} {m:Str->A6 A1},P.Nodup->P[i]?=some x->vs[i]?=some v->kindOf x≠some .local ->
  bindC kindOf (P.zip vs) m x=some v
 | [],_,_,_,_,h,_,_=>by simp at h
 | _::_,[],_,_,_,_,h,_=>by simp at h
 | p::P,w::vs,0,m,c,a,b,d=>by
  simp at a b;subst a;subst b;show bindC kindOf ((p,w)::P.zip vs) m p=_;unfold bindC;rw[Iw λv e=>(B_.mp c).1 (GN e).1,AS d];simp
 | p::P,w::vs,i+1,m,c,a,b,d=>by
  show bindC kindOf ((p,w)::P.zip vs) m x=_;unfold bindC;exact Ir (i:=i) (B_.mp c).2 (by simpa using a) (by simpa using b) d
def t9(N:A0 Str)(vs:A0 V):St:=vs.map some++List.replicate (N.length-vs.length) none
def Tq(g:TK)(P:Cv)(w:HS)(K:PySem.W.Frag)(mg:Str->A6 A1)(base:HX)(N:A0 Str)(b:Str)(a:IT)(f:A2)(d:A1)(A:HZ)(outer:A0 NL)(s:A5)(H:Hp)(E:XK):Cx where
 prog:=P
 w:=w
 K:=K
 mg:=mg
 base:=base
 A:=A.deeper (envOfC b a s.heap.objs.size f d)
 N:=N
 s₀:=s
 H₀:=H
 env:=envOfC b a s.heap.objs.size f d
 outer:=outer
 stack:=envOfC b a s.heap.objs.size f d::outer
 ex:=[]
 calm:=true
 fn:=λ_=>true
 pn:=[]
 xe:=λe h=>wpAny (model P w) (A.deeper (envOfC b a s.heap.objs.size f d)) (leaving (envOfC b a s.heap.objs.size f d) e) (λ_ c=>g outer H s E e c) (λi c=>g outer H s E i c) h
def Lc{a:IT}{n:Nat}{x:Str}(h:a.names.lookup x=some .cell):∃c,(cellsFrom n a.names []).lookup x=some c:=by
 have q:=PySem.W.cellsFrom_some a.names n [] (.inl h);exact DE.mp q
def Ud{I:TK}{P:Cv}{w:HS}{K:PySem.W.Frag}{G:Str->A6 A1}{base:HX}{N ps:A0 Str}{j:Str}{d:IT}{f:A2}{C:A1}{A:HZ}{g:A0 NL}{s J:A5}{H:Hp}{E:XK}{us:A0 A1}{vs:A0 V}
  (S:HW N ps d) (O:A.handled=none) (m:QT P w K G base A g s H) (U:vs.length=ps.length) (r:IC vs us)
  (x:InCallC s s.heap.objs.size (bindL (envOfC j d s.heap.objs.size f C).kindOf (ps.zip us) λ_=>none) (cellsFrom (s.heap.objs.size+1) d.names []) (bindC (envOfC j d s.heap.objs.size f C).kindOf (ps.zip us) λ_=>none) J) :
  Inv (Tq I P w K G base N j d f C A g s H E) [] (t9 N vs) H J:=by
 have Q:ps.length<=N.length:=by have:=congrArg List.length S.pre;rw[AO]at this;lia
 obtain⟨D,X,rfl,L⟩:=x.done;have o:∀b:A2,b∉(Tq I P w K G base N j d f C A g s H E).ex:=λb z=>absurd (show b∈([]:A0 A2)from z) (by simp);refine⟨⟨m.mod,S.kind,rfl,rfl,Nat.le_refl _,λy z c D l=>?_,λy hy=>?_,λy c _ h=>?_,λ_=>O,Around.frames_deeper m.frames,.inr ⟨rfl,rfl⟩,λb z=>absurd z (o b),m.bs,m.bsz,λb _ _=>o b,λb z=>absurd z (o b),m.funs,m.frf⟩,
  rfl,m.bare,Un.kept L,⟨_,x.toInCall.ns,λi y v D l Y=>?_⟩,λy c h=>⟨_,x.cell y c h⟩,m.hok.fresh (Nat.le_refl _),λy c h=>?_,λp t=>absurd (show p∈([]:A0 (A2×Obj))from t) (by simp),m.hok.kept L,?_⟩
 .exact name_of_addr x.apart (PySem.mem_of_lookup D) (PySem.mem_of_lookup l)
 .have hy:d.names.lookup y=some .cell\/d.names.lookup y=some .free:=hy;rcases hy with hy | hy
  .exact Lc hy
  .exact absurd rfl (S.nofree _ (PySem.mem_of_lookup hy))
 .exact DB (x.above y c (PySem.mem_of_lookup h))
 .have F:i<vs.length:=by
   unfold t9 at l;by_cases F:i<vs.length
   .exact F
   .rw[DV (by simpa using F)]at l;rw[List.getElem?_replicate]at l;split at l<;>cases l
  have R:vs[i]?=some v:=by
   unfold t9 at l;rw[ED (by simpa using F),AG]at l;cases e:vs[i]? with
   | none=>rw[e]at l;cases l
   | some a=>rw[e]at l;cases l;rfl
  obtain⟨u,M,T⟩:=r.get R;have t:ps[i]?=some y:=by
   rw[<-S.pre,DD (by lia)];exact D
  have B:ps.Nodup:=by rw[<-S.pre];exact S.nd.sublist (DQ _ _)
  refine⟨u,T,?_⟩;rcases S.par y (AM t)with k | k
  .exact .inl ⟨k,Gx B t M k⟩
  .obtain⟨c,e⟩:=Lc (n:=s.heap.objs.size+1) k;refine .inr ⟨.inl k,c,e,?_⟩;have q:=x.cell y c e;rw[Ir B t M (by show d.names.lookup y≠_;rw[k];decide)]at q;exact q
 .exact m.hok.fresh (DB (x.above y c (PySem.mem_of_lookup h)))
 .unfold t9;show _=N.length;rw[AW,AA,List.length_replicate];lia
def Yu{F:TK}{P:Cv}{w:HS}{K:PySem.W.Frag}{G:Str->A6 A1}{base:HX}{k:Nat}{f:A2}{name d:Str}{h:Arguments}{i:A0 IE}{a:IT}{X kV p Y g ct oc:A1}{Z od:A6 A2}
  {L:HQ (A6 A1)} {N ps:A0 Str} {sp:Sp} (lk:K.lookup f=some ⟨oc,od,.func (PySem.W.fnOf name d h i a X kV p Y Z g ct),L⟩) (M:PySem.W.codeIn K g d=true) (S:HW N ps a)
  (z:∀vs H Q E,sp vs H Q E->vs.length=ps.length)
  (j:∀(A:HZ) (c:A0 NL) (s:A5) (H:Hp) (vs:A0 V) (Q:VK) (E:XK),JH k (A.deeper (envOfC d a s.heap.objs.size f g))->sp vs H Q E ->
   ∃t,P7 (Tq F P w K G base N d a f g A c s H E) i t/\t { nx:=λ_ H'=>Q .non H',rt:=Q } (t9 N vs) H) :
  II P w K G base F (k+1) f (PySem.W.fnOf name d h i a X kV p Y Z g ct) ps sp:=by
 refine⟨z,λA c s H args us vs Q E O B hb r C=>?_⟩;have hl:=z _ _ _ _ C;have KX:K.In s.heap:=B.mod.kin.keeps λb o e=>(B.bs b o e).1;have R:s.heap.NoLimit:=B.mod.nolimit.keeps λb o e=>(B.bs b o e).1;have l:∀y∈ps.zip us,a.names.lookup y.1=some .local\/(a.names.lookup y.1=some .cell/\((cellsFrom (s.heap.objs.size+1) a.names []).lookup y.1).isSome=true):=λ⟨n,v⟩ hy=>by
  rcases S.par n (GN hy).1 with q | q
  .exact .inl q
  .exact .inr ⟨q,PySem.W.cellsFrom_some _ _ _ (.inl q)⟩
 refine codeAny_call_function O.depth (KX _ _ lk) rfl S.co S.gen rfl (PySem.W.codeRec_of KX M) (hb _ _ _ _ ?_);refine wpAny_newFunctionEnv_cells S.kind l λenv he s1 x=>?_;subst he;refine⟨R.keeps x.toInCall.keep,codeAny_func ?_⟩;obtain⟨t,ht,hq⟩:=j A c s H vs Q E (O.deeper _) C;have I:Inv (Tq F P w K G base N d a f g A c s H E) [] (t9 N vs) H s1:=Ud S O.hd B hl r x;refine CA (ht [] s1 (t9 N vs) H _ I hq) (λfl T m=>?_) λe T m=>m;have D:∀{σ':St} {H':Hp} {v:V} {u:A1},Inv (Tq F P w K G base N d a f g A c s H E) [] σ' H' T->RelV v u->Q v H'->CE c P w H s Q u T :=
  fun{σ' H' v u} J U q=>⟨v,H',J.os,J.bare,J.base,J.hok,U,q⟩
 cases fl with
 | ret u =>
  obtain⟨v,σ',H',J,U,q⟩:=m;exact D J U q
 | next =>
  obtain⟨σ',H',J,q⟩:=m;exact D (v:=V.non) (u:=Value.none) J rfl q
 | brk =>
  obtain⟨_,_,_,q⟩:=m;exact False.elim q
 | cont =>
  obtain⟨_,_,_,q⟩:=m;exact False.elim q
section
variable{X:Cx}{x:Str}{p pos:Pos}{e:H_}{es:A0 H_}{t:TA}{id T:String}{r:A0 V->Hp->VK->Prop}
def VE(r:A0 V->Hp->VK->Prop)(t:TA):TE:=λσ H Q=>t σ H λa b=>r a b Q
theorem Wm(d:J2 X (.builtin id) r)(f:Gl X x)(g:X.mg x=none)(i:bootBuiltins x=some (.builtin id))(j:PA X (e::es) t)(k:x≠ "__name__":=by decide)(b:(x ==("__debug__":Str))=false:=by decide)
  (l:starEach (e::es) X.env =(false,eval e X.env)::starEach es X.env:=by rfl) (c:(backTo pos (starEach es X.env)).any (·.1)=false:=by rfl):PE X (.Call (.Name x p) (e::es) [] pos) (VE r t):=by
 intro a s σ H Q I h;refine DC (Bp I f g i ?_ k b);exact PyProof.Rows.callWith_builtin1 (IZ (j pos a s σ H _ I h) λm n ⟨o,q,u,v,w⟩=>d a n σ q o m Q u v w) l c
theorem Qx(d:J2 X (.type T) r)(f:Gl X x)(g:X.mg x=none)(i:bootBuiltins x=some (.type T))(j:PA X (e::es) t)(k:x≠ "__name__":=by decide)(b:(x ==("__debug__":Str))=false:=by decide)
  (l:starEach (e::es) X.env =(false,eval e X.env)::starEach es X.env:=by rfl) (c:(backTo pos (starEach es X.env)).any (·.1)=false:=by rfl):PE X (.Call (.Name x p) (e::es) [] pos) (VE r t):=by
 intro a s σ H Q I h;refine DC (Bp I f g i ?_ k b);exact PyProof.Rows.callWith_type1 (IZ (j pos a s σ H _ I h) λm n ⟨o,q,u,v,w⟩=>d a n σ q o m Q u v w) l c
theorem De(c:J2 X (.type T) r)(d:Gl X x)(e:X.mg x=none)(f:bootBuiltins x=some (.type T))(g:x≠ "__name__":=by decide)(b:(x ==("__debug__":Str))=false:=by decide) :
  PE X (.Call (.Name x p) [] [] pos) (VE r Ul):=by
 intro a s σ H Q I h;refine DC (Bp I d e f ?_ g b);exact PyProof.Rows.callWith_type0 (c a s σ H [] [] Q I .nil h)
end
end L2
namespace HT
open PySem PyProof.Rows
section
variable{prog:Cv}{w:HS}{A:HZ}{E:A1->A5->Prop}{s:A5}
def KE(n d:Nat):A6 Int->Nat
 | none=>d
 | some v=>if v<0 then(v +(n:Int)).toNat else min v.toNat n
theorem PP(n d:Nat):KE n d none=d:=rfl
theorem QQ(n d k:Nat):KE n d (some (k:Int))=min k n:=by
 show(if(k:Int)<0 then((k:Int) +(n:Int)).toNat else min (k:Int).toNat n)=min k n;rw[AS (by lia),DK]
theorem zCh(n d:Nat)(b:d<=n)(o:A6 Int):KE n d o<=n:=by
 cases o with
 | none=>exact b
 | some v =>
  show(if v<0 then(v +(n:Int)).toNat else min v.toNat n)<=n;by_cases a:v<0
  .rw[AY a];lia
  .rw[AS a];exact Nat.min_le_right _ _
theorem Ta(v:Int)(n d:Nat):(if v<0 then max (v +(n:Int)) 0 else min v (n:Int)) =((KE n d (some v):Nat):Int):=by
 show(if v<0 then max (v +(n:Int)) 0 else min v (n:Int)) =(((if v<0 then(v +(n:Int)).toNat else min v.toNat n):Nat):Int);by_cases a:v<0
 .simp only[AY a];lia
 .simp only[AS a];lia
theorem Oe(lo hi:A6 Int)(n:Nat):Builtin.Slice.sliceAdjust lo hi 1 (n:Int) =(((KE n 0 lo:Nat):Int),((KE n n hi:Nat):Int)):=by
 have a:¬((1:Int)<0):=by lia
 unfold Builtin.Slice.sliceAdjust;simp only[a,CN];refine Prod.ext ?_ ?_
 .cases lo with
  | none=>rfl
  | some v=>exact Ta v n 0
 .cases hi with
  | none=>rfl
  | some v=>exact Ta v n n
theorem Nd(i j:Nat):Builtin.Slice.slicePlaces (i:Int) (j:Int) 1=j-i:=by
 unfold Builtin.Slice.slicePlaces;have a:(1:Int)>0:=by lia
 simp only[a,EG,Int.ediv_one];split<;>lia
theorem Dk{v:A1}{o:A6 Int}{Q:A6 Int->A5->Prop}(p:IsPart v o)(h:Q o s):wpAny (model prog w) A (Builtin.Slice.slicePartIndex v) Q E s:=by
 cases p with
 | none=>exact slicePart_none h
 | int i t=>exact slicePart_int h
theorem Ag{e:A2}{c d:A1}{lo hi:A6 Int}{n:Nat}{Q:Int×Int×Nat->A5->Prop}(f:s.heap.IsSliceOf e c d .none)(pl:IsPart c lo)(g:IsPart d hi)
  (h:Q (((KE n 0 lo:Nat):Int),1,KE n n hi-KE n 0 lo) s):wpAny (model prog w) A (Builtin.Slice.sliceApplied (.ref e) (pure (n:Int))) Q E s:=by
 obtain⟨os,a,i,b⟩:=id f;unfold Builtin.Slice.sliceApplied Builtin.Slice.sliceFields;refine AB (AB (FM a b (x:=c) rfl (AB (FM a b (x:=d) rfl (AB (FM a b (x:=.none) rfl (AE ?_)))))));refine AB (slicePart_none ?_);show wpAny _ _ (if((1:Int) == 0)=true then _ else _) _ _ s;rw[AS (by decide)];refine AB (Dk pl (AB (Dk g (AB (AE ?_)))));show wpAny _ _ (match Builtin.Slice.sliceAdjust lo hi 1 (n:Int)with | (lo,hi)=>pure (lo,(1:Int),Builtin.Slice.slicePlaces lo hi 1)) _ _ s;rw[Oe lo hi n];show wpAny _ _ (pure (((KE n 0 lo:Nat):Int),(1:Int),Builtin.Slice.slicePlaces ((KE n 0 lo:Nat):Int) ((KE n n hi:Nat):Int) 1)) _ _ s;rw[Nd];exact AE h
theorem Uw(xs:HQ A1)(i k:Nat):((List.range k).filterMap λ(m:Nat)=>xs[((i:Int) +(m:Int)*1).toNat]?).toArray =((xs.toList.drop i).take k).toArray:=by
 have e:(λ(m:Nat)=>xs[((i:Int) +(m:Int)*1).toNat]?)=λm=>xs[i+m]?:=by
  funext m;have:((i:Int) +(m:Int)*1).toNat=i+m:=by lia
  rw[this]
 rw[e];have:=pick_run xs i k;rw[List.filterMap_map]at this;have a:((λx=>xs[x]?)∘λx=>i+x)=λm=>xs[i+m]?:=rfl;rw[a]at this;rw[this]
theorem NY{t c:A2}{items:HQ A1}{i j:A1}{lo hi:A6 Int}{Q:A1->A5->Prop}(b:IsTup s.heap t items)(k:s.heap.IsSliceOf c i j .none)(pl:IsPart i lo)(l:IsPart j hi)
  (hw:¬(KE items.size 0 lo=0/\KE items.size items.size hi=items.size))
  (h:Q (.ref s.heap.objs.size) { s with heap:=s.heap.push { cls:=.type "tuple",data:=.seq ((items.toList.drop (KE items.size 0 lo)).take (KE items.size items.size hi-KE items.size 0 lo)).toArray } })
  (hsz:items.size<=sizeLine):wpAny (model prog w) A (getItem (.ref t) (.ref c)) Q E s:=by
 have a:sizeOk (.seq ((items.toList.drop (KE items.size 0 lo)).take (KE items.size items.size hi-KE items.size 0 lo)).toArray):=by
  show((items.toList.drop (KE items.size 0 lo)).take (KE items.size items.size hi-KE items.size 0 lo)).toArray.size<=sizeLine;rw[BD,AO,CI,AX];lia
 have o:KE items.size items.size hi<=items.size:=zCh _ _ (Nat.le_refl _) hi;obtain⟨os,d,e,n⟩:=id k;have f:s.TypeIs (.ref c) "slice":=⟨os,d,e⟩;unfold getItem
 try with_reducible refine BW ?_
 first | refine AB (AE ?_) | skip
 refine AB (wpAny_sequenceKey b.typeIs (by decide) ?_);refine AB (GT (name:=Str.ofString "__getitem__") b.typeIs PyProof.Rows.slot_tuple_getitem
  (DM PyProof.Rows.slot_tuple_getitem b.typeIs entry_tuple_getitem ?_ (args_tuple_getitem _ _)))
 show wpAny _ _ (Builtin.Tuple.tupleItemsOf (.ref t) >>= _) _ _ s;refine AB (tupleItemsOf_ b ?_);refine AB (GB f ?_);rw[AY (by decide)];refine AB (Ag k pl l ?_);have g:¬((((KE items.size 0 lo:Nat):Int) == 0 &&(1:Int) == 1 &&(KE items.size items.size hi-KE items.size 0 lo) == items.size)=true):=by
  intro q;rw[CF,CF]at q;have p:((KE items.size 0 lo:Nat):Int)=0:=eq_of_beq q.1.1;have r:KE items.size items.size hi-KE items.size 0 lo=items.size:=eq_of_beq q.2;exact hw ⟨by lia,by lia⟩
 show wpAny _ _ (if(((KE items.size 0 lo:Nat):Int) == 0 &&(1:Int) == 1 &&(KE items.size items.size hi-KE items.size 0 lo) == items.size)=true then _ else _) _ _ s;rw[AS g,Uw]
 first
  | exact AB (m:=Builtin.Tuple.tupleExact _) (CD (AE ⟨_,rfl,AE h⟩) a)
  | exact AB (m:=Builtin.Tuple.tupleExact _) (CD (AB (AE (AE ⟨_,rfl,AE h⟩))) a)
  | exact AB (AB (m:=Builtin.Tuple.tupleExact _) (CD (AE (AE ⟨_,rfl,AE h⟩)) a))
  | exact AB (AB (m:=Builtin.Tuple.tupleExact _) (CD (AE ⟨_,rfl,AE h⟩) a))
end
end HT
namespace L2
open PySem PySem.Spec PyProof.Rows
abbrev TO:=St->Hp->(A6 Int->Hp->Prop)->Prop
def PO(X:Cx)(e:A6 H_)(t:TO):Prop :=
 ∀(a:A0 (A2×Obj)) (s:A5) (σ:St) (H:Hp) (Q:A6 Int->Hp->Prop),Inv X a σ H s->t σ H Q ->
  wpAny (model X.prog X.w) X.A (evalPart e X.env) (λu c=>∃o b,Inv X a σ b c/\IsPart u o/\Q o b) X.xe s
def Qh:TO:=λ_ H Q=>Q none H
def zBl(t:TE):TO:=λσ H Q=>t σ H λx a=>∃i,x = .int i/\Q (some i) a
def Cz{ns:A0 Int}:∀{us:A0 A1},IC (ns.map V.int) us->IntsAre us ns:=by
 induction ns with
 | nil=>intro us r;rw[List.map_nil]at r;cases r;exact .nil
 | cons n ns a =>
  intro us r;rw[BP]at r;cases r with
  | cons b c =>
   obtain⟨t,e⟩:=b;subst e;exact .cons n t (a c)
section
variable{X:Cx}{e:H_}{te:TE}{lo hi:A6 H_}{tl th:TO}{pos p2:Pos}
theorem Ba:PO X none Qh:=by
 intro a s σ H Q I h;rw[evalPart_none];exact AE ⟨none,H,I,.none,h⟩
theorem Bc(h:PE X e te):PO X (some e) (zBl te):=by
 intro a s σ H Q I b;rw[evalPart_some];refine IZ (h a s σ H _ I b) λu j ⟨x,c,d,f,g⟩=>?_;obtain⟨i,rfl,q⟩:=g;obtain⟨t,rfl⟩:=f;exact⟨some i,c,d,.int i t,q⟩
def VM(X:Cx)(r:V->A6 Int->A6 Int->Hp->VK->Prop):Prop :=
 ∀(a:A0 (A2×Obj)) (s:A5) (σ:St) (H:Hp) (x:V) (v b c:A1) (lo hi:A6 Int) (d:A2) (Q:VK),Inv X a σ H s->RelV x v->s.heap.IsSliceOf d b c .none->IsPart b lo->IsPart c hi->r x lo hi H Q ->
  ∃T id,typeLookup (.type T) "__getitem__" = pure (some (.builtin id))/\s.TypeIs v T/\wpAny (model X.prog X.w) X.A (getItem v (.ref d)) (EP X a σ Q) X.xe s
def tSl(r:V->A6 Int->A6 Int->Hp->VK->Prop)(te:TE)(tl th:TO):TE:=λσ H Q=>te σ H λx a=>tl σ a λl b=>th σ b λu c=>r x l u c Q
theorem o0{r:V->A6 Int->A6 Int->Hp->VK->Prop}(f:VM X r)(g:PE X e te)(i:PO X lo tl)(j:PO X hi th):PE X (.Subscript e (.Slice lo hi none p2) pos) (tSl r te tl th):=by
 intro a s σ H Q I h;refine Subscript_ (IZ (g a s σ H _ I h) λv k ⟨x,m,n,o,p⟩=>?_);refine wpAny_Slice (IZ (i a k σ m _ n p) λc t ⟨l,y,z,B,C⟩=>IZ (j a t σ y _ z C) λvu s3 ⟨u,d,D,E,F⟩=>?_);rw[evalPart_none];refine AE ?_;have G:Inv X a σ d { s3 with heap:=s3.heap.push { cls:=.type "slice",data:=.fields #[c,vu,.none] } }:=D.kept (t':=s3.toks) λb M q=>AD _ q;obtain⟨T,id,J,K,L⟩:=f a { s3 with heap:=s3.heap.push { cls:=.type "slice",data:=.fields #[c,vu,.none] } } σ d x v c vu l u s3.heap.objs.size Q G o (Heap.IsSliceOf.new ..) B E F;show wpAny (model X.prog X.w) X.A (subscriptTail e (.Slice lo hi none p2) v (.ref s3.heap.objs.size)) (EP X a σ Q) X.xe { s3 with heap:=s3.heap.push { cls:=.type "slice",data:=.fields #[c,vu,.none] } };exact tail_any (ops:=[.ref s3.heap.objs.size,v]) K J L (by with_unfolding_all rfl)
def Ao(xs:A0 V)(lo hi:A6 Int):A0 V:=(xs.drop (HT.KE xs.length 0 lo)).take (HT.KE xs.length xs.length hi-HT.KE xs.length 0 lo)
theorem Cd(xs:A0 V)(lo hi:A6 Int):(Ao xs lo hi).length<=xs.length:=by
 unfold Ao;rw[AO,CI];lia
def zFi(K:PySem.W.Frag):V->A6 Int->A6 Int->Hp->VK->Prop:=λx lo hi H Q=>∃a b,x = .ref a/\JC K H a b /\
 ¬(HT.KE b.length 0 lo=0/\HT.KE b.length b.length hi=b.length)/\∀p,H p=none->Q (.ref p) (HU H p (.tup (Ao b lo hi)))
theorem zCx:VM X (zFi X.K):=by
 intro f s σ H x v t u lo hi w Q I j k l m h;obtain⟨a,d,rfl,n,p,q⟩:=h;cases j;obtain⟨e,r,g,i⟩:=I.tuple n;have c:e.toArray.size=d.length:=by rw[BD];exact r.length.symm
 refine⟨"tuple",_,PyProof.Rows.slot_tuple_getitem.lookup,g.typeIs,?_⟩;refine HT.NY g k l m (by rw[c];exact p) ?_ (by rw[c];exact i);rw[c];refine⟨.ref s.heap.objs.size,_,I.laid (t':=s.toks) (o:=.tup (Ao d lo hi)) (λb y q=>AD _ q) (Nat.le_refl _) ?_,rfl,q _ (I.hok.fresh (Nat.le_refl _))⟩;exact⟨Nat.le_trans (Cd d lo hi) i,_,(r.drop (HT.KE d.length 0 lo)).take (HT.KE d.length d.length hi-HT.KE d.length 0 lo),IsTup.new _ _⟩
end
def UJ(n:Nat)(i:Int):A6 Nat:=if 0<=i then(if i<n then some i.toNat else none)else if -(n:Int)<=i then some (i+n).toNat else none
def TD{α:Type}(xs:A0 α)(i:Int):A6 α:=(UJ xs.length i).bind λj=>xs[j]?
def Sj{n:Nat}{i:Int}{j:Nat}(h:UJ n i=some j):seqIndex? i n=some j/\j<n/\-(n:Int)<=i/\i<n:=by
 unfold UJ at h;by_cases b:0<=i
 .rw[AY b]at h;by_cases a:i<n
  .rw[AY a]at h;have e:i.toNat=j:=CJ h;exact⟨by rw[seqIndex_of b a,e],by lia,by lia,a⟩
  .rw[AS a]at h;cases h
 .rw[AS b]at h;by_cases a:-(n:Int)<=i
  .rw[AY a]at h;have e:(i+n).toNat=j:=CJ h;exact⟨by rw[seqIndex_neg (by lia) a,e],by lia,a,by lia⟩
  .rw[AS a]at h;cases h
def Ql{α:Type}{xs:A0 α}{i:Int}{v:α}(h:TD xs i=some v):∃j,seqIndex? i xs.length=some j/\xs[j]?=some v/\j<xs.length/\-(xs.length:Int)<=i/\i<xs.length:=by
 unfold TD at h;cases e:UJ xs.length i with
 | none=>rw[e]at h;cases h
 | some j =>
  rw[e]at h;obtain⟨a,b,c,d⟩:=Sj e;exact⟨j,a,h,b,c,d⟩
def B9{α:Type}{xs:A0 α}{j:Nat}{v:α}(h:xs[j]?=some v):TD xs (j:Int)=some v:=by
 have a:j<xs.length:=(AR.mp h).1;have e:UJ xs.length (j:Int)=some j:=by
  unfold UJ;rw[AY (by lia),AY (by lia)];simp
 unfold TD;rw[e];exact h
def zAf(b:H_):Prop:=∀o i,subscripted b false o i=operate [o,i] (getItem o i)
def VP(X:Cx)(r:R2):Prop :=
 ∀(c a:H_) (b:A0 (A2×Obj)) (s:A5) (σ:St) (H:Hp) (x y:V) (v u:A1) (Q:VK),Inv X b σ H s->RelV x v->RelV y u->r x y H Q ->
  subscripted a false v u=operate [v,u] (getItem v u)->wpAny (model X.prog X.w) X.A (subscriptTail c a v u) (EP X b σ Q) X.xe s
def MtR(X:Cx)(id:String)(r:V->A0 V->Hp->VK->Prop):Prop :=
 ∀(a:A0 (A2×Obj)) (s:A5) (σ:St) (H:Hp) (x:V) (b:A0 V) (v:A1) (c:A0 A1) (Q:VK),Inv X a σ H s->RelV x v->IC b c->r x b H Q ->
  wpAny (model X.prog X.w) X.A (call (.builtin id) (v::c)) (EP X a σ Q) X.xe s
section
variable{X:Cx}{a b:H_}{ta tb:TE}{pos:Pos}
theorem D6{r:R2}(d:VP X r)(e:PE X a ta)(f:PE X b tb)(g:zAf b):PE X (.Subscript a b pos) (U_ r ta tb):=by
 intro c s σ H Q I h;exact Subscript_ (zFx e f I h λv u i x y j k l m q=>d a b c i σ j x y v u Q k l m q (g _ _))
def zGh(K:PySem.W.Frag):R2:=λx y H Q=>∃p a i v,x = .ref p/\y = .int i/\HY K H p a/\TD a i=some v/\Q v H
def zGf(K:PySem.W.Frag):R2:=λx y H Q=>∃p a i v,x = .ref p/\y = .int i/\JC K H p a/\TD a i=some v/\Q v H
theorem Yn:VP X (zGh X.K):=by
 intro d e a s σ H x y v u Q I A B h m;obtain⟨p,M,i,z,rfl,rfl,C,D,q⟩:=h;cases A;obtain⟨t,rfl⟩:=B;obtain⟨f,r,g,N⟩:=I.list C;obtain⟨j,c,E,O,F,G⟩:=Ql D;obtain⟨w,n,k⟩:=r.get E;have J:=r.length;have P:=Dj;have b:EP X a σ Q w s:=⟨z,H,I,k,q⟩;by_cases o:0<=i
 .have l:i.toNat=j:=by
   rw[seqIndex_of o G]at c;exact CJ c
  exact item_listR g.isList o (by lia) (by rw[l];simpa using n) b m
 .have l:(i +(f.toArray.size:Int)).toNat=j:=by
   rw[seqIndex_neg (by lia) F]at c;rw[BD,<-J];exact CJ c
  exact subscriptTail_builtinR (x:=w) g.isList.typeIs slot_list_getitem.lookup
   (wpAny_getItem_list_neg (Q:=λr L=>r=w/\EP X a σ Q r L) g.isList (by lia) (by rw[BD]<;>lia) (by lia) (by rw[l];simpa using n) ⟨rfl,b⟩) m
theorem zBs:VP X (zGf X.K):=by
 intro b c a s σ H x y v u Q I g k h l;obtain⟨p,F,i,z,rfl,rfl,m,n,q⟩:=h;cases g;obtain⟨t,rfl⟩:=k;obtain⟨o,r,f,G⟩:=I.tuple m;obtain⟨j,A,B,J,L,M⟩:=Ql n;obtain⟨w,C,d⟩:=r.get B;have D:=r.length;have N:=Dj;have e:EP X a σ Q w s:=⟨z,H,I,d,q⟩;exact subscriptTail_builtinR (x:=w) f.typeIs slot_tuple_getitem.lookup
  (getItem_tuple (j:=j) (Q:=λr E=>r=w/\EP X a σ Q r E) f (by lia) (by lia) (by rw[BD,<-D];exact A) (by simpa using C) ⟨rfl,e⟩) l
theorem Oc(its:A0 A1)(n j:Nat)(u:A1):Obj.mapSeq (·.setIfInBounds j u) { cls:=.type "list",data:=.seq its.toArray n } ={ cls:=.type "list",data:=.seq (its.set j u).toArray n }:=by
 simp[Obj.mapSeq]
theorem Inv.lst{a:A0 (A2×Obj)}{σ:St}{H:Hp}{s:A5}{p:A2}{xs:A0 V}(I:Inv X a σ H s)(h:H p=some (.lst xs)) :
  ∃(its:A0 A1) (n:Nat),IC xs its/\s.heap.get? p=some { cls:=.type "list",data:=.seq its.toArray n }/\xs.length<=sizeLine:=by
 obtain⟨z,its,n,r,e⟩:=I.hok p _ h;exact⟨its,n,r,e,z⟩
theorem Inv.lstUpd{a:A0 (A2×Obj)}{σ:St}{H:Hp}{s:A5}{p:A2}{xs c:A0 V}{its its':A0 A1}{n d:Nat}{f:Obj->Obj}(I:Inv X a σ H s)(h:H p=some (.lst xs))
  (i:s.heap.get? p=some { cls:=.type "list",data:=.seq its.toArray n }) (g:f { cls:=.type "list",data:=.seq its.toArray n } ={ cls:=.type "list",data:=.seq its'.toArray d }) (r:IC c its') (j:c.length<=sizeLine) (t:Nat) :
  Inv X a σ (HU H p (.lst c)) { s with heap:=s.heap.update p f,toks:=t }:=by
 have e:(s.heap.update p f).get? p=some { cls:=.type "list",data:=.seq its'.toArray d }:=by
  rw[CC f i (by rw[g]<;>rfl),g]
 refine I.write (x:=p) (e:=p) (by rw[h];trivial) (.inl rfl) (λb u k q=>(BL _ _ (Ne.symm k)).trans q) ⟨_,e⟩ ?_;exact⟨j,its',d,r,e⟩
def zFq:V->V->V->Hp->(Hp->Prop)->Prop:=λo i v H Q=>∃p a k j,o = .ref p/\i = .int k/\H p=some (.lst a)/\UJ a.length k=some j/\Q (HU H p (.lst (a.set j v)))
theorem Ej:zGj X zFq:=by
 intro a s σ H o i v E F u Q I y z A h;obtain⟨p,B,k,j,rfl,rfl,g,C,q⟩:=h;cases y;obtain⟨t,rfl⟩:=z;obtain⟨b,n,r,d,D⟩:=I.lst g;obtain⟨c,G,l,m⟩:=Sj C;have e:=r.length;have J:=Dj;have w:Inv X a σ (HU H p (.lst (B.set j v))) { s with heap:=s.heap.update p (Obj.mapSeq (·.setIfInBounds j u)) } :=
  I.lstUpd g d (Oc b n j u) (r.set A j) (by rw[List.length_set];exact D) s.toks
 by_cases x:0<=k
 .have f:k.toNat=j:=by
   rw[seqIndex_of x m]at c;exact CJ c
  exact PySem.W.ki_setAt d x (by lia) (by rw[BD,<-e];exact m) (by rw[f];exact⟨_,w,q⟩)
 .have f:(k +(b.toArray.size:Int)).toNat=j:=by
   rw[seqIndex_neg (by lia) l]at c;rw[BD,<-e];exact CJ c
  exact PySem.W.ki_setBack d (by lia) (by rw[BD,<-e];exact l) (by lia) (by rw[f];exact⟨_,w,q⟩)
theorem Gy(lo hi:A6 Int)(n:Nat):(sliceBounds lo hi none n).1 =((HT.KE n 0 lo:Nat):Int)/\(sliceBounds lo hi none n).2.1 =((HT.KE n n hi:Nat):Int)/\(sliceBounds lo hi none n).2.2=1:=by
 refine⟨?_,?_,rfl⟩
 .cases lo with
  | none=>simp[sliceBounds,HT.KE]
  | some i =>
   simp only[sliceBounds,HT.KE,Option.getD_none,show(1:Int)>0 by decide,EG];by_cases h:i<0
   .simp only[h,EG]<;>lia
   .simp only[h,CN]<;>lia
 .cases hi with
  | none=>simp[sliceBounds,HT.KE]
  | some i =>
   simp only[sliceBounds,HT.KE,Option.getD_none,show(1:Int)>0 by decide,EG];by_cases h:i<0
   .simp only[h,EG]<;>lia
   .simp only[h,CN]<;>lia
theorem Ez(its:A0 A1)(lo hi:A6 Int):slicePick its.toArray lo hi none =((its.drop (HT.KE its.length 0 lo)).take (HT.KE its.length its.length hi-HT.KE its.length 0 lo)).toArray:=by
 obtain⟨a,b,c⟩:=Gy lo hi its.toArray.size;unfold slicePick;rw[a,b,c];simp only[sliceRange_one,pick_run,BD]<;>rfl
def zGd(K:PySem.W.Frag):V->A6 Int->A6 Int->Hp->VK->Prop:=λx lo c H Q=>∃a b,x = .ref a/\HY K H a b/\∀p,H p=none->Q (.ref p) (HU H p (.lst (Ao b lo c)))
theorem Yt:VM X (zGd X.K):=by
 intro f s σ H x v t u lo e w Q I i j k l h;obtain⟨a,c,rfl,m,q⟩:=h;cases i;obtain⟨n,r,g,p⟩:=I.list m;have d:=r.length;refine⟨"list",_,slot_list_getitem.lookup,g.isList.typeIs,?_⟩;refine wpAny_getItem_list_slice g.isList j k l .none (by simp) ?_ (by rw[BD]<;>lia);rw[Ez,<-d];refine⟨.ref s.heap.objs.size,_,I.laid (t':=s.toks) (o:=.lst (Ao c lo e)) (λb y q=>AD _ q) (Nat.le_refl _) ?_,rfl,q _ (I.hok.fresh (Nat.le_refl _))⟩;exact⟨Nat.le_trans (Cd c lo e) p,_,0,(r.drop (HT.KE c.length 0 lo)).take (HT.KE c.length c.length e-HT.KE c.length 0 lo),BG _ rfl⟩
def Ff:V->Bool
 | .non=>true
 | .bl _=>true
 | .int _=>true
 | .str _=>true
 | _=>false
def UB:V->V->Bool
 | .non,.non=>true
 | .bl a,.bl b=>a == b
 | .bl a,.int b=>(if a then 1 else 0) == b
 | .int a,.bl b=>a ==(if b then 1 else 0)
 | .int a,.int b=>a == b
 | .str a,.str b=>a == b
 | _,_=>false
theorem zDj{A:HZ}{s:A5}{y x:V}{u v:A1}(e:RelV y u)(c:RelV x v)(g:Ff y=true)(f:Ff x=true):SeqAt.EqAt A s u v (UB y x):=by
 cases y with
 | non =>
  cases e;cases x with
  | non=>cases c;exact SeqAt.EqAt.same _
  | bl b=>cases c;exact SeqAt.EqAt.none_bool b
  | int b=>obtain⟨t,rfl⟩:=c;exact SeqAt.EqAt.none_int b t
  | str b=>obtain⟨t,rfl⟩:=c;exact SeqAt.EqAt.none_str b t
  | _=>exact absurd (show false=true from f) BA
 | bl a =>
  cases e;cases x with
  | non=>cases c;exact SeqAt.EqAt.bool_none a
  | bl b=>cases c;exact SeqAt.EqAt.bool_bool a b
  | int b=>obtain⟨t,rfl⟩:=c;exact SeqAt.EqAt.bool_int a b t
  | str b=>obtain⟨t,rfl⟩:=c;exact SeqAt.EqAt.bool_str a b t
  | _=>exact absurd (show false=true from f) BA
 | int a =>
  obtain⟨d,rfl⟩:=e;cases x with
  | non=>cases c;exact SeqAt.EqAt.int_none a d
  | bl b=>cases c;exact SeqAt.EqAt.int_bool a d b
  | int b=>obtain⟨t,rfl⟩:=c;exact SeqAt.EqAt.int_int a d b t
  | str b=>obtain⟨t,rfl⟩:=c;exact SeqAt.EqAt.int_str a d b t
  | _=>exact absurd (show false=true from f) BA
 | str a =>
  obtain⟨d,rfl⟩:=e;cases x with
  | non=>cases c;exact SeqAt.EqAt.str_none a d
  | bl b=>cases c;exact SeqAt.EqAt.str_bool a d b
  | int b=>obtain⟨t,rfl⟩:=c;exact SeqAt.EqAt.str_int a d b t
  | str b=>obtain⟨t,rfl⟩:=c;exact SeqAt.EqAt.str_str a d b t
  | _=>exact absurd (show false=true from f) BA
 | _=>exact absurd (show false=true from g) BA
def RQ(x:V)(u:A1):Bool:=match u with
 | .none=>UB .non x
 | .bool b=>UB (.bl b) x
 | .int i _=>UB (.int i) x
 | .str z _=>UB (.str z) x
 | _=>false
theorem Xs{x y:V}{u:A1}(r:RelV y u)(f:Ff y=true):RQ x u=UB y x:=by
 cases y with
 | non=>cases r;rfl
 | bl b=>cases r;rfl
 | int i=>obtain⟨t,rfl⟩:=r;rfl
 | str z=>obtain⟨t,rfl⟩:=r;rfl
 | _=>exact absurd (show false=true from f) BA
theorem Bn{x:V}:∀{xs:A0 V} {us:A0 A1},IC xs us->xs.all Ff=true->us.any (RQ x)=xs.any λy=>UB y x
 | _,_,.nil,_=>rfl
 | y::xs,u::us,.cons r t,f=>by
  rw[List.all_cons,CF]at f;rw[FX,FX,Xs r f.1,Bn t f.2]
theorem i5{A:HZ}{s:A5}{x:V}{v:A1}(a:RelV x v)(b:Ff x=true):∀{xs:A0 V} {us:A0 A1},IC xs us->xs.all Ff=true->∀u∈us,SeqAt.EqAt A s u v (RQ x u)
 | _,_,.nil,_=>λu hu=>by cases hu
 | y::xs,u::us,.cons r t,f=>λc hu=>by
  rw[List.all_cons,CF]at f;rcases A_.mp hu with rfl | hu
  .rw[Xs r f.1];exact zDj r a f.1 b
  .exact i5 a b t f.2 c hu
def inV(x:V)(xs:A0 V):Bool:=xs.any λy=>UB y x
def UQ(K:PySem.W.Frag)(neg:Bool):R2:=λx y H Q=>∃p a,y = .ref p/\(HY K H p a\/JC K H p a)/\Ff x=true/\a.all Ff=true/\Q (.bl (if neg then !inV x a else inV x a)) H
theorem Tw:LK X (compareOp .In) (UQ X.K false):=by
 intro e s σ H x y v u Q I f i h;obtain⟨p,k,rfl,hq,g,b,q⟩:=h;cases i;rcases hq with hq | hq
 .obtain⟨a,r,c,j⟩:=I.list hq;refine SeqAt.in_listAt (RQ x) c.isList (λw d=>i5 f g r b w (by simpa using d)) ⟨.bl _,H,I,rfl,?_⟩;rw[show a.toArray.any (RQ x)=a.any (RQ x) by simp,Bn r b];exact q
 .obtain⟨a,r,c,j⟩:=I.tuple hq;refine SeqAt.in_tupleAt (RQ x) c (λw d=>i5 f g r b w (by simpa using d)) ⟨.bl _,H,I,rfl,?_⟩;rw[show a.toArray.any (RQ x)=a.any (RQ x) by simp,Bn r b];exact q
theorem Gr:LK X (compareOp .NotIn) (UQ X.K true):=by
 intro e s σ H x y v u Q I f i h;obtain⟨p,k,rfl,hq,g,b,q⟩:=h;cases i;rcases hq with hq | hq
 .obtain⟨a,r,c,j⟩:=I.list hq;refine SeqAt.notIn_listAt (RQ x) c.isList (λw d=>i5 f g r b w (by simpa using d)) ⟨.bl _,H,I,rfl,?_⟩;rw[show a.toArray.any (RQ x)=a.any (RQ x) by simp,Bn r b];exact q
 .obtain⟨a,r,c,j⟩:=I.tuple hq;refine SeqAt.notIn_tupleAt (RQ x) c (λw d=>i5 f g r b w (by simpa using d)) ⟨.bl _,H,I,rfl,?_⟩;rw[show a.toArray.any (RQ x)=a.any (RQ x) by simp,Bn r b];exact q
theorem Fv:J2 X (.builtin "len") (λxs H Q=>∃p b,xs = [.ref p]/\(HY X.K H p b\/JC X.K H p b)/\Q (.int b.length) H):=by
 intro f s σ H xs j Q I r h;obtain⟨p,b,rfl,hq,q⟩:=h;obtain⟨u,rfl,g⟩:=U6 r;cases g;have k:=Dj;rcases hq with hq | hq
 .obtain⟨c,d,e,i⟩:=I.list hq;have a:=d.length;exact Calls.call_len_list e.isList (by simp only[BD]<;>lia) ⟨.int b.length,H,I.tok _,⟨s.toks+1,by rw[BD,a]⟩,q⟩
 .obtain⟨c,d,e,i⟩:=I.tuple hq;have a:=d.length;exact len_tuple e (by simp only[BD]<;>lia) ⟨.int b.length,H,I.tok _,⟨s.toks+1,by rw[BD,a]⟩,q⟩
theorem Hb:J2 X (.builtin "len") (λxs H Q=>∃z,xs = [.str z]/\z.length<=sizeLine/\Q (.int z.length) H):=by
 intro a s σ H xs b Q I r h;obtain⟨z,rfl,c,q⟩:=h;obtain⟨u,rfl,t,rfl⟩:=U6 r;have d:=Dj;exact len_str (by lia) ⟨.int z.length,H,I.tok _,⟨_,rfl⟩,q⟩
theorem Gw:J2 X (.type "list") (λxs H Q=>∃p d,xs = [.ref p]/\(HY X.K H p d\/JC X.K H p d)/\∀l,H l=none->Q (.ref l) (HU H l (.lst d))):=by
 intro i s σ H xs C Q I r h;obtain⟨p,d,rfl,hq,q⟩:=h;obtain⟨u,rfl,B⟩:=U6 r;cases B;have j:∀(a:A0 A1),IC d a->d.length<=sizeLine->∀(c:HX) (f:Nat),(∀b A,s.heap.get? b=some A->c.get? b=some A) ->
   c.get? s.heap.objs.size=some { cls:=.type "list",dict:=none,data:=.seq a.toArray f,slots:=#[] }->EP X i σ Q (.ref s.heap.objs.size) { s with heap:=c }:=λa g k c f m e =>
  ⟨.ref s.heap.objs.size,_,I.laid (t':=s.toks) m (Nat.le_refl _) (show IM X.prog X.w _ c _ (.lst d)from⟨k,a,f,g,e⟩),rfl,q _ (I.hok.fresh (Nat.le_refl _))⟩
 rcases hq with hq | hq
 .obtain⟨a,g,v,k⟩:=I.list hq;have t:=g.length;obtain⟨o,x,y,n,z⟩:=v.isList;exact call_list_seq p (.inl rfl) x y z (λc f m e=>j a g k c f m e) (by simp only[BD]<;>lia)
 .obtain⟨a,g,v,k⟩:=I.tuple hq;have t:=g.length;obtain⟨o,x,y,n,z⟩:=v;exact call_list_seq p (.inr rfl) x y z (λc f m e=>j a g k c f m e) (by simp only[BD]<;>lia)
def tyV(K:PySem.W.Frag)(T:String)(x:V)(H:Hp):Prop:=match x with
 | .str _=>T = "str"
 | .int _=>T = "int"
 | .ref p=>(T = "list"/\∃b,HY K H p b)\/(T = "tuple"/\∃o,K.lookup p=some o/\o.cls = .type "tuple"/\o.dict=none) \/
   (T = "dict"/\((∃a,H p=some (.dK a))\/∃a,H p=some (.dT a)))\/(T = "set"/\∃S n,H p=some (.set S n))
 | _=>False
theorem Xj{f:A0 (A2×Obj)}{σ:St}{H:Hp}{s:A5}{T:String}{x:V}{v:A1}(I:Inv X f σ H s)(r:RelV x v)(ty:tyV X.K T x H) :
  s.TypeIs v T/\∀a,v = .ref a->∃k,s.heap.get? a=some k/\k.dict=none:=by
 cases x with
 | str z =>
  obtain⟨t,rfl⟩:=r;cases(show T = "str" from ty);exact⟨typeIs_str s z t,λ_ e=>nomatch e⟩
 | int i =>
  obtain⟨t,rfl⟩:=r;cases(show T = "int" from ty);exact⟨typeIs_int s i t,λ_ e=>nomatch e⟩
 | ref p =>
  cases r;rcases ty with⟨rfl,w,m⟩ | ⟨rfl,o,b,q,g⟩ | ⟨rfl,b⟩ | ⟨rfl,S,n,b⟩
  .obtain⟨u,_,l,_⟩:=I.list m;refine⟨l.isList.typeIs,λa e=>?_⟩;cases e;obtain⟨o,n,e,c,g,_⟩:=l;exact⟨o,e,g⟩
  .refine⟨⟨o,I.kIn p o b,q⟩,λa e=>?_⟩;cases e;exact⟨o,I.kIn _ o b,g⟩
  .have z:∃o,s.heap.get? p=some o/\o.ExactDict:=by
    rcases b with⟨h,b⟩ | ⟨h,b⟩
    .obtain⟨_,_,_,_,o,_,_,e,d,_⟩:=I.hok p _ b;exact⟨o,e,d⟩
    .obtain⟨_,_,_,_,o,_,_,e,d,_⟩:=I.hok p _ b;exact⟨o,e,d⟩
   obtain⟨o,e,d⟩:=z;refine⟨⟨o,e,d.1⟩,λa j=>?_⟩;cases j;exact⟨o,e,d.2.1⟩
  .obtain⟨o,_,_,_,e,d,_⟩:=I.hok p _ b;refine⟨⟨o,e,d.1⟩,λa j=>?_⟩;cases j;exact⟨o,e,d.2.1⟩
 | _=>exact False.elim ty
def zGp(K:PySem.W.Frag)(T:String)(r:V->A0 V->Hp->VK->Prop)(b:TE):TE:=λσ H Q=>b σ H λx a=>tyV K T x a/\r x [] a Q
def tBM(K:PySem.W.Frag)(T:String)(r:V->A0 V->Hp->VK->Prop)(b:TE)(t:TA):TE:=λσ H Q=>b σ H λx a=>tyV K T x a/\t σ a λc d=>r x c d Q
variable{o e:H_}{es:A0 H_}{to:TE}{t:TA}{name:Str}{apos cpos:Pos}{T id:String}{r:V->A0 V->Hp->VK->Prop}
theorem zDr(i:PlainAttrs T)(d:Slot T name id)(e:typeOf (.builtin id)=pure (.type "method_descriptor"))(j:MtR X id r)(k:PE X o to)
  (b:attributeBase o name X.env (eval o X.env)=eval o X.env:=by rfl) (c:(apos.endLine == cpos.line)=true:=by rfl):PE X (.Call (.Attribute o name apos) [] [] cpos) (zGp X.K T r to):=by
 intro a s σ H Q I h;refine wpAny_Call_method0_late b c (IZ (k a s σ H _ I h) λv l ⟨x,m,f,g,ty,n⟩=>?_);obtain⟨p,q⟩:=Xj f g ty;exact⟨T,id,i,d,e,p,q,Calls.callWith_builtin rfl (PySem.evalArgs_none (j a l σ m x [] v [] Q f g .nil n))⟩
theorem zEx(m:PlainAttrs T)(f:Slot T name id)(i:typeOf (.builtin id)=pure (.type "method_descriptor"))(n:MtR X id r)(p:PE X o to)(q:PA X (e::es) t)
  (c:attributeBase o name X.env (eval o X.env)=eval o X.env:=by rfl)
  (g:((backTo cpos (starEach (e::es) X.env)).all (λx=>!x.1) &&(backToKw cpos (keywordEach [] X.env)).all (λx=>x.1.isSome)
   && decide ((e::es).length +([]:A0 Keyword).length +(if([]:A0 Keyword).isEmpty then 0 else 1)<30))=true:=by rfl)
  (d:(apos.endLine == cpos.line)=true:=by rfl) (u:starEach (e::es) X.env =(false,eval e X.env)::starEach es X.env:=by rfl) (b:(backTo cpos (starEach es X.env)).any (·.1)=false:=by rfl) :
  PE X (.Call (.Attribute o name apos) (e::es) [] cpos) (tBM X.K T r to t):=by
 intro a s σ H Q I h;refine wpAny_Call_method_late c g d rfl (IZ (p a s σ H _ I h) λv w ⟨x,y,j,k,ty,z⟩=>?_);obtain⟨A,B⟩:=Xj j k ty;refine⟨T,id,m,f,i,A,B,?_⟩;have l:=q cpos a w σ y _ j z;rw[u]at l⊢;refine Calls.callWith_builtin (by show(false||(backTo cpos (starEach es X.env)).any (·.1))=false;rw[b]<;>rfl) (Calls.evalArgs_plain ?_);exact IZ l λC D ⟨E,F,G,J,L⟩=>n a D σ F x E v C Q G k J L
end
def RT(X:Cx)(id:String)(r:V->A0 V->Hp->VK->Prop):Prop :=
 ∀(a:A0 (A2×Obj)) (s:A5) (σ:St) (H:Hp) (x:V) (b:A0 V) (v:A1) (c:A0 A1) (Q:VK),Inv X a σ H s->RelV x v->IC b c->r x b H Q ->
  wpAny (model X.prog X.w) X.A (call (.builtin id) (v::c)) (EP X a σ Q) X.xe s
def IC.one:∀{x:V} {us:A0 A1},IC [x] us->∃u,us = [u]/\RelV x u
 | _,_,.cons r .nil=>⟨_,rfl,r⟩
def IC.two:∀{x y:V} {us:A0 A1},IC [x,y] us->∃u v,us = [u,v]/\RelV x u/\RelV y v
 | _,_,_,.cons r (.cons q .nil)=>⟨_,_,rfl,r,q⟩
def IC.zero:∀{us:A0 A1},IC [] us->us = []
 | _,.nil=>rfl
def IC.dropLast{xs:A0 V}{us:A0 A1}(h:IC xs us):IC xs.dropLast us.dropLast:=by
 induction h with
 | nil=>exact .nil
 | cons r t a =>
  cases t with
  | nil=>exact .nil
  | cons q b=>exact .cons r a
def IC.eraseIdx:∀{xs:A0 V} {us:A0 A1} (i:Nat),IC xs us->IC (xs.eraseIdx i) (us.eraseIdx i)
 | _,_,_,.nil=>.nil
 | _,_,0,.cons _ t=>t
 | _,_,i+1,.cons r t=>.cons r (IC.eraseIdx i t)
def Nq{α:Type}(l:A0 α):l.eraseIdx (l.length-1)=l.dropLast:=by
 induction l with
 | nil=>rfl
 | cons a r c =>
  cases r with
  | nil=>rfl
  | cons b r =>
   have e:(a::b::r).length-1 =((b::r).length-1)+1:=by
    have d:(a::b::r).length=r.length+2:=rfl;have f:(b::r).length=r.length+1:=rfl;lia
   rw[e,List.eraseIdx_cons_succ,c]
   all_goals rfl
def Hq{α:Type}:∀(l:A0 α) (i:Nat),(l.eraseIdx i).length<=l.length
 | [],_=>Nat.le_refl _
 | _::_,0=>CQ _
 | _::r,i+1=>HJ (Hq r i)
section
variable{X:Cx}{pins:A0 (A2×Obj)}{σ:St}{H:Hp}{s:A5}{l b:A2}{xs ys zs:A0 V}
theorem Inv.lset{its its':A0 A1}{n:Nat}{f:HQ A1->HQ A1}{t':Nat}(I:Inv X pins σ H s)(a:H l=some (.lst xs))
  (e:s.heap.get? l=some { cls:=.type "list",data:=.seq its.toArray n }) (b:f its.toArray=its'.toArray) (c:IC ys its') (d:ys.length<=sizeLine) :
  Inv X pins σ (HU H l (.lst ys)) { s with heap:=s.heap.update l (Obj.mapSeq f),toks:=t' }:=by
 have q:=PySem.IsL.update e f;rw[b]at q;refine I.write (x:=l) (e:=l) (by rw[a];exact trivial) (.inl rfl) (λi u g h=>(BL s.heap (Obj.mapSeq f) (Ne.symm g)).trans h) ⟨_,q⟩ ?_;exact⟨d,its',_,c,q⟩
theorem Inv.lnew{its:A0 A1}{t':Nat}(I:Inv X pins σ H s)(a:IC ys its)(b:ys.length<=sizeLine) :
  Inv X pins σ (HU H s.heap.objs.size (.lst ys)) { s with heap:=s.heap.push { cls:=.type "list",data:=.seq its.toArray },toks:=t' } :=
 I.laid (λ_ _ q=>AD _ q) (Nat.le_refl _) ⟨b,its,0,a,BG _ rfl⟩
theorem Inv.fresh(I:Inv X pins σ H s):H s.heap.objs.size=none:=I.hok.fresh (Nat.le_refl _)
theorem Inv.lstM(I:Inv X pins σ H s)(a:H l=some (.lst xs)):xs.length<=sizeLine/\∃(its:A0 A1) (n:Nat),IC xs its/\xs.length=its.length/\s.heap.get? l=some { cls:=.type "list",data:=.seq its.toArray n }:=by
 obtain⟨z,its,n,r,e⟩:=I.hok l _ a;exact⟨z,its,n,r,r.length,e⟩
theorem Wh{n:Nat}(h:n<=sizeLine):Builtin.List.listTooLong n=false:=by
 unfold Builtin.List.listTooLong;exact BB (by lia)
end
section
variable{X:Cx}
def Yw:V->A0 V->Hp->VK->Prop:=λx b H Q=>∃l a y,x = .ref l/\b = [y]/\H l=some (.lst a)/\a.length<sizeLine/\Q .non (HU H l (.lst (a ++ [y])))
theorem M0:RT X "list.append" Yw:=by
 intro b s σ H x i v j Q I d f h;obtain⟨l,k,y,rfl,rfl,c,m,q⟩:=h;cases d;obtain⟨u,rfl,g⟩:=f.one;obtain⟨z,a,n,r,o,e⟩:=I.lstM c;refine call_meets F.slot_list_append ⟨_,e,rfl⟩ F.entry_list_append (F.args_list_append_2 _ _) (PySem.list_append l a.toArray n u (by rw[BD];lia)) ⟨e,?_⟩;refine⟨.non,_,I.lset (its':=a ++ [u]) c e (by simp) (r.append (.cons g .nil)) ?_,rfl,q⟩;rw[AW,EE];lia
def Yx:V->A0 V->Hp->VK->Prop:=λx d H Q=>∃l b a c,x = .ref l/\d = [.ref b]/\H l=some (.lst a)/\H b=some (.lst c)/\a.length+c.length<=sizeLine/\Q .non (HU H l (.lst (a++c)))
theorem Go:RT X "list.extend" Yx:=by
 intro g s σ H x A v B Q I j k h;obtain⟨l,b,C,D,rfl,rfl,i,m,E,q⟩:=h;cases j;obtain⟨u,rfl,o⟩:=k.one;cases o;obtain⟨z,c,n,r,G,e⟩:=I.lstM i;obtain⟨J,a,p,t,w,y⟩:=I.lstM m;have f:c.toArray.size+a.toArray.size<=sizeLine:=by rw[BD,BD];lia
 have d:¬(!c.toArray.isEmpty&&Builtin.List.listTooLong (c.toArray.size+a.toArray.size))=true:=by
  rw[Wh f,Bool.and_false];exact BA
 refine call_meets F.slot_list_extend ⟨_,e,rfl⟩ F.entry_list_extend (F.args_list_extend_2 _ _)
  (AutoSeq1.list_extend_list_list_0 l c.toArray n b a.toArray p d (by rw[BD];lia) (by lia)) ⟨e,y,?_⟩
 refine⟨.non,_,I.lset (its':=c++a) i e (by simp) (r.append t) ?_,rfl,q⟩;rw[AW];lia
def zHm:V->A0 V->Hp->VK->Prop:=λx b H Q=>∃l a y,x = .ref l/\b = []/\H l=some (.lst a)/\a[a.length-1]?=some y/\Q y (HU H l (.lst a.dropLast))
theorem zBy:RT X "list.pop" zHm:=by
 intro d s σ H x p v t Q I g i h;obtain⟨l,w,y,rfl,rfl,f,j,q⟩:=h;cases g;have b:=i.zero;subst b;obtain⟨z,a,n,r,k,e⟩:=I.lstM f;obtain⟨u,m,o⟩:=r.get j;have c:a.toArray[a.toArray.size-1]?=some u:=by
  show a.toArray[a.length-1]?=some u;rw[<-BN,<-k];exact m
 refine call_meets F.slot_list_pop ⟨_,e,rfl⟩ F.entry_list_pop (F.args_list_pop_1 _) (MeetsSeq.list_pop_last l a.toArray n u c (by rw[BD];lia)) ⟨e,?_⟩;refine⟨y,_,I.lset (its':=a.dropLast) f e ?_ r.dropLast ?_,o,q⟩
 .show a.toArray.eraseIdxIfInBounds (a.toArray.size-1)=a.dropLast.toArray;rw[BD,List.eraseIdxIfInBounds_toArray,Nq]
 .rw[List.length_dropLast];lia
def zEc:V->A0 V->Hp->VK->Prop:=λx b H Q=>∃l a i k y,x = .ref l/\b = [.int i]/\H l=some (.lst a)/\-(2^63)<=i/\i<2^63/\seqIndex? i a.length=some k/\a[k]?=some y/\Q y (HU H l (.lst (a.eraseIdx k)))
theorem Vu:RT X "list.pop" zEc:=by
 intro c s σ H x E v G Q I f g h;obtain⟨l,j,i,k,y,rfl,rfl,d,m,o,p,A,q⟩:=h;cases f;obtain⟨u,rfl,B⟩:=g.one;obtain⟨t,rfl⟩:=B;obtain⟨z,a,n,r,C,e⟩:=I.lstM d;obtain⟨w,D,b⟩:=r.get A;refine call_meets F.slot_list_pop ⟨_,e,rfl⟩ F.entry_list_pop (F.args_list_pop_2 _ _)
  (MeetsSeq.list_pop_at l a.toArray n i t k w (fitsIndex_both m o) (by rw[BD,<-C];exact p) (by rw[<-BN];exact D) (by rw[BD];lia)) ⟨e,?_⟩
 refine⟨y,_,I.lset (its':=a.eraseIdx k) d e ?_ (r.eraseIdx k) ?_,b,q⟩
 .show a.toArray.eraseIdxIfInBounds k =(a.eraseIdx k).toArray;rw[List.eraseIdxIfInBounds_toArray]
 .have:=Hq j k;lia
def zIb:R2:=λx y H Q=>∃l b a c,x = .ref l/\y = .ref b/\H l=some (.lst a)/\H b=some (.lst c)/\a.length+c.length<=sizeLine/\∀p,H p=none->Q (.ref p) (HU H p (.lst (a++c)))
theorem K4:LK X (binaryOp .Add) zIb:=by
 intro d s σ H x y v u Q I f g h;obtain⟨l,b,t,w,rfl,rfl,i,j,A,q⟩:=h;cases f;cases g;obtain⟨z,c,n,r,B,e⟩:=I.lstM i;obtain⟨C,a,D,k,m,o⟩:=I.lstM j;refine PySem.P.add_list e o ?_ (by rw[BD,BD];lia);have p:c.toArray++a.toArray =(c++a).toArray:=by simp
 rw[p];exact⟨.ref _,_,I.lnew (t':=s.toks) (r.append k) (by rw[AW];lia),rfl,q _ I.fresh⟩
end
section
variable{U:Type}[DecidableEq U]
def U1(a:A0 (U×V))(k:U):A6 V:=(a.find? λb=>decide (b.1=k)).map (·.2)
def i7(a:A0 (U×V))(k:U)(v:V):A0 (U×V) :=
 if(a.any λb=>decide (b.1=k))=true then a.map (λb=>if b.1=k then(b.1,v)else b)else a ++ [(k,v)]
theorem O2{p:U×V}{r:A0 (U×V)}{k:U}(e:p.1=k):U1 (p::r) k=some p.2:=by simp[U1,FV,e]
theorem O3{p:U×V}{r:A0 (U×V)}{k:U}(e:¬p.1=k):U1 (p::r) k=U1 r k:=by simp[U1,FV,e]
theorem Fq(k:U):∀a:A0 (U×V),(a.any λb=>decide (b.1=k)) =(U1 a k).isSome
 | []=>rfl
 | p::r=>by
  rw[FX];by_cases e:p.1=k
  .simp only[O2 e,AJ e,Bool.true_or,Option.isSome_some]
  .rw[O3 e,BB e,Bool.false_or];exact Fq k r
theorem Mp(k j:U)(y:V):∀a:A0 (U×V),U1 (a.map λb=>if b.1=k then(b.1,y)else b) j =(U1 a j).map λx=>if j=k then y else x
 | []=>rfl
 | p::r=>by
  have c:=Mp k j y r;rw[BP];by_cases h:p.1=k
  .rw[AY h];by_cases e:p.1=j
   .rw[O2 (p:=(p.1,y)) e,O2 e,GO,AY (e.symm.trans h)]
   .rw[O3 (p:=(p.1,y)) e,O3 e,c]
  .rw[AS h];by_cases e:p.1=j
   .rw[O2 (p:=p) e,O2 e,GO,AS (λz=>h (e.trans z))]
   .rw[O3 (p:=p) e,O3 e,c]
theorem Iq(k j:U)(y:V):∀a:A0 (U×V),U1 a k=none->U1 (a ++ [(k,y)]) j=if j=k then some y else U1 a j
 | [],_=>by
  by_cases e:k=j
  .rw[AY e.symm];exact O2 (p:=(k,y)) e
  .rw[AS (λz=>e z.symm)];exact O3 (p:=(k,y)) e
 | p::r,b=>by
  rw[List.cons_append];have c:¬p.1=k:=λz=>by rw[O2 z]at b;cases b
  rw[O3 c]at b;have d:=Iq k j y r b;by_cases e:p.1=j
  .rw[O2 e,O2 e,AS (λz=>c (e.trans z))]
  .rw[O3 e,O3 e,d]
theorem Ee(b:A0 (U×V))(k j:U)(y:V):U1 (i7 b k y) j=if j=k then some y else U1 b j:=by
 unfold i7;by_cases a:(b.any λc=>decide (c.1=k))=true
 .rw[AY a,Mp];rw[Fq]at a;by_cases e:j=k
  .obtain⟨x,d⟩:=DE.mp a;rw[AY e,e,d,GO,AY rfl]
  .rw[AS e];cases U1 b j with
   | none=>rfl
   | some x=>rw[GO,AS e]
 .rw[AS a];refine Iq k j y b ?_;rw[Fq]at a;cases q:U1 b k with
  | none=>rfl
  | some x=>rw[q]at a;exact(a rfl).elim
theorem Q7(a:A0 (U×V))(k:U)(v:V):(i7 a k v).length<=a.length+1:=by
 unfold i7;split
 .rw[AA];lia
 .rw[AW,BK,GM];lia
theorem L_.isSome_eq{o:A6 V}{u:A6 A1}(r:L_ o u):o.isSome=u.isSome:=by
 cases o with
 | none=>cases u with
  | none=>rfl
  | some _=>exact(show False from r).elim
 | some _=>cases u with
  | none=>exact(show False from r).elim
  | some _=>rfl
theorem L_.getD{o:A6 V}{u:A6 A1}{d:V}{d':A1}(r:L_ o u)(a:RelV d d'):RelV (o.getD d) (u.getD d'):=by
 cases o with
 | none=>cases u with
  | none=>exact a
  | some _=>exact(show False from r).elim
 | some _=>cases u with
  | none=>exact(show False from r).elim
  | some _=>exact r
theorem KV.val{a:A0 (U×V)}{vs:A0 (U×A1)}(r:KV a vs)(k:U):L_ (U1 a k) (valueAt vs k):=by
 unfold KV at r
 induction r with
 | nil=>exact True.intro
 | @cons p q j c h t g =>
  obtain⟨f,i⟩:=h;by_cases e:p.1=k
  .have d:q.1=k:=f.symm.trans e;have b:valueAt (q::c) k=some q.2:=by simp[valueAt,FV,d]
   rw[O2 e,b];exact i
  .have d:¬q.1=k:=λz=>e (f.trans z);have b:valueAt (q::c) k=valueAt c k:=by simp[valueAt,FV,d]
   rw[O3 e,b];exact g
theorem KV.any{a:A0 (U×V)}{vs:A0 (U×A1)}(r:KV a vs)(k:U):(a.any λb=>decide (b.1=k))=vs.any λb=>decide (b.1=k):=by
 unfold KV at r
 induction r with
 | nil=>rfl
 | cons h t c=>rw[FX,FX,c,h.1]
theorem KV.repl{b:A0 (U×V)}{vs:A0 (U×A1)}(r:KV b vs)(k:U){y:V}{u:A1}(d:RelV y u) :
  KV (b.map λa=>if a.1=k then(a.1,y)else a) (vs.map λa=>if a.1=k then(a.1,u)else a):=by
 unfold KV at r⊢
 induction r with
 | nil=>exact .nil
 | @cons p q i j h t f =>
  rw[BP,BP];refine .cons ?_ f;obtain⟨c,g⟩:=h;by_cases e:p.1=k
  .rw[AY e,AY (c.symm.trans e)];exact⟨c,d⟩
  .rw[AS e,AS (λz=>e (c.trans z))];exact⟨c,g⟩
theorem KV.put{a:A0 (U×V)}{vs:A0 (U×A1)}(r:KV a vs)(k:U){y:V}{u:A1}(b:RelV y u):KV (i7 a k y) (stored vs k u):=by
 unfold i7 stored;rw[r.any k];by_cases e:(vs.any λc=>decide (c.1=k))=true
 .rw[AY e,AY e];exact r.repl k b
 .rw[AS e,AS e];exact Paired.snoc r ⟨rfl,b⟩
theorem KV.length{a:A0 (U×V)}{vs:A0 (U×A1)}(r:KV a vs):a.length=vs.length:=Paired.length r
end
def Ey{P:Cv}{w:HS}{k:IL}{u:A1}(r:RelV (kV k) u):(D0 P w).is k u=true:=by
 cases k with
 | inl i=>obtain⟨t,e⟩:=(show ∃t,u=Value.int i t from r);subst e;exact Ja P w i t
 | inr x=>obtain⟨t,e⟩:=(show ∃t,u=Value.str x t from r);subst e;exact Ji P w x t
def Hw{P:Cv}{w:HS}:∀{a:A0 IL} {us:A0 A1},IC (a.map kV) us->ItemsAre (D0 P w) a us
 | [],_,r=>by rw[List.map_nil]at r;cases r;exact .nil
 | k::a,_,r=>by
  rw[BP]at r;cases r with
  | cons h t=>exact .cons (Ey h) (Hw t)
abbrev KT(H:Hp):A0 (A0 IL×V)->A0 (A0 IL×A2×A1)->Prop:=Paired λp q=>p.1=q.1/\H q.2.1=some (.tup (p.1.map kV))/\RelV p.2 q.2.2
def KT.val{H:Hp}{a:A0 (A0 IL×V)}{xs:A0 (A0 IL×A2×A1)}(r:KT H a xs)(k:A0 IL):L_ (U1 a k) ((atKey xs k).map (·.2)):=by
 induction r with
 | nil=>exact True.intro
 | @cons p q j c h t g =>
  obtain⟨f,_,i⟩:=h;by_cases e:p.1=k
  .have d:q.1=k:=f.symm.trans e;have b:atKey (q::c) k=some q.2:=by simp[atKey,FV,d]
   rw[O2 e,b];exact i
  .have d:¬q.1=k:=λz=>e (f.trans z);have b:atKey (q::c) k=atKey c k:=by simp[atKey,FV,d]
   rw[O3 e,b];exact g
section
variable{P:Cv}{w:HS}{H:Hp}{h:HX}{a:A2}
theorem zCt{u:HO}(b:L0 P w H h)(e:Rd H a u):IM P w H h a u:=e.ok b
theorem Kg{b:A0 (IL×V)}(c:L0 P w H h)(e:Rd H a (.dK b)):b.length<=sizeLine/\(a == sysModules)=false/\∃vs,KV b vs/\h.DictOf (D0 P w) a vs :=
 show IM P w H h a (.dK b)from zCt c e
theorem Sq{b:A0 (IL×V)}(c:L0 P w H h)(e:H a=some (.dK b)):b.length<=sizeLine/\(a == sysModules)=false/\∃vs,KV b vs/\h.DictOf (D0 P w) a vs:=Kg c (.inl e)
theorem j8{b:A0 IL}(d:L0 P w H h)(e:H a=some (.tup (b.map kV))):(tupleKind (D0 P w)).is h b a:=by
 obtain⟨_,c,r,o,f,g,n,i⟩:=(show IM P w H h a (.tup (b.map kV))from d a _ e);exact⟨o,c.toArray,n,f,g,i,by simpa using Hw r⟩
theorem Nn{b:A0 (A0 IL×V)}(d:L0 P w H h)(e:Rd H a (.dT b)):b.length<=sizeLine/\(a == sysModules)=false /\
  ∃xs,KT H b xs/\h.DictOfH (tupleKind (D0 P w)) a xs:=by
 obtain⟨z,y,xs,r,o,g,i,j,k,n,s,u⟩:=(show IM P w H h a (.dT b)from zCt d e);refine⟨z,y,xs,r,o,g,i,j,k,n,s,λx hx=>?_,u⟩;have c:∀{l:A0 (A0 IL×V)} {m:A0 (A0 IL×A2×A1)},KT H l m->∀x∈m,(tupleKind (D0 P w)).is h x.1 x.2.1:=by
  intro l m q
  induction q with
  | nil=>intro x hx;exact nomatch hx
  | @cons p q A B f t v =>
   intro x hx;rcases A_.mp hx with e | hx
   .subst e;exact j8 d (by rw[<-f.1];exact f.2.1)
   .exact v x hx
 exact c r x hx
end
def KD(H:Hp)(a:A2)(y:V)(r:A6 V):Prop :=
 (∃c k,Rd H a (.dK c)/\y=kV k/\r=U1 c k)\/∃c k b,Rd H a (.dT c)/\y = .ref b/\H b=some (.tup (k.map kV))/\r=U1 c k
def KD.k{H:Hp}{a:A2}{b:A0 (IL×V)}{k:IL}(e:H a=some (.dK b)):KD H a (kV k) (U1 b k):=.inl ⟨b,k,.inl e,rfl,rfl⟩
section
variable{X:Cx}{pins:A0 (A2×Obj)}{σ:St}{H:Hp}{s:A5}{a:A2}{y v:V}{u r:A1}{o:A6 V}{A:HZ}{E:A1->A5->Prop}
theorem Inv.big(I:Inv X pins σ H s):sysModules<s.heap.objs.size:=by
 have h:mainGlobals<s.heap.objs.size:=(I.mod.glob.keeps I.bk).lt;exact Nat.lt_trans (by decide) h
theorem Qw{Q:A1->A5->Prop}(x:A.units+1<cLine)(I:Inv X pins σ H s)(g:KD H a y (some v))(r:RelV y u)(h:∀f t,Inv X pins σ H t->RelV v f->Q f t) :
  wpAny (model X.prog X.w) A (getItem (.ref a) u) Q E s:=by
 rcases g with⟨i,k,e,j,l⟩ | ⟨i,k,b,e,j,B,l⟩
 .subst j;obtain⟨z,C,D,c,m⟩:=Kg I.hok e;obtain⟨f,n,d⟩:=L_.some_of (v:=v) (o:=valueAt D k) (by rw[l];exact c.val k);exact wpAny_getItem_of (Ey r) m.mapOf n (h f _ (I.tok _) d)
 .subst j;cases(show u=Value.ref b from r);obtain⟨z,C,F,c,m⟩:=Nn I.hok e;obtain⟨f,n,d⟩:=L_.some_of (v:=v) (o:=(atKey F k).map (·.2)) (by rw[l];exact c.val k);obtain⟨p,G,q⟩:=AV.mp n;refine wpAny_getItem_heap (tupleKind_room_in1 x) (j8 I.hok B) m G ?_;rw[q];exact h f _ (I.tok _) d
theorem Yf{Q:A1->A5->Prop}(p:A.units+1<cLine)(I:Inv X pins σ H s)(g:KD H a y o)(m:RelV y u)(h:∀n,Inv X pins σ H n->Q (.bool (!o.isSome)) n) :
  wpAny (model X.prog X.w) A (compareOp .NotIn u (.ref a)) Q E s:=by
 rcases g with⟨d,k,e,f,l⟩ | ⟨d,k,b,e,f,r,l⟩
 .subst f;obtain⟨z,i,t,c,j⟩:=Kg I.hok e;refine wpAny_notIn_of (Ey m) i j.mapOf ?_;rw[<-(c.val k).isSome_eq,<-l];exact h _ (I.tok _)
 .subst f;cases(show u=Value.ref b from m);obtain⟨z,i,v,c,j⟩:=Nn I.hok e;refine wpAny_notIn_heap (tupleKind_room_in1 p) (j8 I.hok r) i j ?_;have q:=(c.val k).isSome_eq;rw[Option.isSome_map]at q;rw[<-q,<-l];exact h _ (I.tok _)
theorem Pk{h':HX}{t':Nat}{c:HO}(I:Inv X pins σ H s)(f:VO (H a))(g:Heap.SameBut a s.heap h')(h:∃q,h'.get? a=some q)(d:IM X.prog X.w (HU H a c) h' a c) :
  Inv X pins σ (HU H a c) { s with heap:=h',toks:=t' } :=
 I.write (x:=a) (e:=a) f (.inl rfl) (λb q i z=>(g.2 b i).trans z) h d
theorem Gf{P:Cv}{w:HS}{H':Hp}{h':HX}{b:A0 (IL×V)}{vs:A0 (IL×A1)}(z:b.length<=sizeLine)(d:(a == sysModules)=false)(c:KV b vs)(dd:h'.DictOf (D0 P w) a vs) :
  IM P w H' h' a (.dK b):=⟨z,d,vs,c,dd⟩
end
def zGv(i:H_):Prop:=∀a b,subscripted i false a b=operate [a,b] (getItem a b)
def zAh{prog:Cv}{w:HS}{A:HZ}{E:A1->A5->Prop}{s:A5}{c:NL}{b a:H_}{pos:Pos}{T id:String}{Q:A1->A5->Prop}
  (f:typeLookup (.type T) "__getitem__" = pure (some (.builtin id))) (g:zGv a)
  (h:wpAny (model prog w) A (eval b c) (λo s₁=>wpAny (model prog w) A (eval a c) (λi s₂=>s₂.TypeIs o T/\wpAny (model prog w) A (getItem o i) Q E s₂) E s₁) E s) :
  wpAny (model prog w) A (eval (.Subscript b a pos) c) Q E s:=by
 refine Subscript_ (CA h (λo s₁ h₁=>CA h₁ (λi s₂ h₂=>?_) λ_ _ x=>x) λ_ _ x=>x);obtain⟨e,h₂⟩:=h₂;unfold subscriptTail;refine AB ?_;rw[getitemInPython_of_ne e.not_modules];refine AB (wpAny_specialOf e f ?_);have d:wpAny (model prog w) A (subscripted a false o i) (λr s₃=>wpAny (model prog w) A (letTemporaryGo b o r >>= λ_=>pure r) Q E s₃) E s₂:=by
  rw[g o i];exact wpAny_operating (CA h₂ (λr s₃ h₃=>AB (wpAny_letTemporaryGo (AE h₃))) λ_ _ x=>x)
 first
  | exact AE (AB d)
  | exact AB (AE (AB d))
  | exact AB d
def Jk{X:Cx}{c:A0 (A2×Obj)}{σ:St}{H:Hp}{s:A5}{a:A2}{y:V}{o:A6 V}(I:Inv X c σ H s)(g:KD H a y o):s.TypeIs (.ref a) "dict":=by
 rcases g with⟨d,k,e,_,_⟩ | ⟨d,k,b,e,_,_,_⟩
 .obtain⟨_,_,h,_,f⟩:=Kg I.hok e;exact f.typeIs
 .obtain⟨_,_,i,_,f⟩:=Nn I.hok e;exact f.typeIs
def zFa(c ty:TE):TE:=λσ H Q=>c σ H λx d=>ty σ d λy b=>∃a v,x = .ref a/\KD b a y (some v)/\Q v b
def Zs(ty c:TE):TE:=λσ H Q=>ty σ H λy d=>c σ d λx b=>∃a o,x = .ref a/\KD b a y o/\Q (.bl (!o.isSome)) b
section
variable{X:Cx}{o i e value:H_}{pos pos' tpos:Pos}{td ty tv:TE}
theorem X1(e:X.A.units+1<cLine)(f:PE X o td)(hi:PE X i ty)(j:zGv i):PE X (.Subscript o i pos) (zFa td ty):=by
 intro b s σ H Q I h;refine zAh PySem.F.slot_dict_getitem.lookup j (IZ (f b s σ H _ I h) λu k ⟨x,l,m,n,p⟩=>IZ (hi b k σ l _ m p) λB C ⟨y,q,d,r,a,v,t,g,w⟩=>?_);subst t;obtain rfl:u=Value.ref a:=n;exact⟨Jk d g,Qw e d g r λD E z c=>⟨v,q,z,c,w⟩⟩
theorem j7(c:X.A.units+1<cLine)(hi:PE X i ty)(d:PE X o td):PC X .NotIn i o (Zs ty td):=by
 intro b s σ H Q I h;refine IZ (hi b s σ H _ I h) λw e ⟨y,f,j,k,l⟩=>IZ (d b e σ f _ j l) λu z ⟨x,m,n,p,a,q,r,g,t⟩=>?_;subst r;obtain rfl:u=Value.ref a:=p;exact Yf c n g k λB v=>⟨.bl (!q.isSome),m,v,rfl,t⟩
end
def At{P:Cv}{w:HS}{H:Hp}(h:HX)(a:sysModules<h.objs.size):IM P w H (h.push { cls:=.type "dict",data:=.dict #[] }) h.objs.size (.dK []) :=
 ⟨BR _,beq_eq_false_iff_ne.mpr (Ne.symm (BC a)),[],.nil,Heap.DictOf.new h⟩
def zDd:TE:=λ_ H Q=>∀p,H p=none->Q (.ref p) (HU H p (.dK []))
section
variable{X:Cx}{pos:Pos}
theorem Mh:PE X (.Dict [] [] pos) zDd:=λb s σ H Q I h =>
 wpAny_Dict_empty ⟨.ref s.heap.objs.size,_,I.laid (a:=s.heap.objs.size) (o:=.dK []) (t':=s.toks) (λ_ _ q=>AD _ q) (Nat.le_refl _) (At s.heap I.big),rfl,h _ (I.hok.fresh (Nat.le_refl _))⟩
end
structure M1(X:Cx)(o:H_)(m:Str)(apos:Pos)(e:H_)(cpos:Pos):Prop where
 base:attributeBase o m X.env (eval o X.env)=eval o X.env
 few:((backTo cpos (starEach [e] X.env)).all (λx=>!x.1) &&(backToKw cpos (keywordEach [] X.env)).all (λx=>x.1.isSome)
  && decide (([e]:A0 H_).length +([]:A0 Keyword).length +(if([]:A0 Keyword).isEmpty then 0 else 1)<30))=true
 line:(apos.endLine == cpos.line)=true
 trees:backTo cpos (starEach [e] X.env) = [(false,eval e X.env)]
structure M2(X:Cx)(o:H_)(m:Str)(apos:Pos)(e f:H_)(cpos:Pos):Prop where
 base:attributeBase o m X.env (eval o X.env)=eval o X.env
 few:((backTo cpos (starEach [e,f] X.env)).all (λx=>!x.1) &&(backToKw cpos (keywordEach [] X.env)).all (λx=>x.1.isSome)
  && decide (([e,f]:A0 H_).length +([]:A0 Keyword).length +(if([]:A0 Keyword).isEmpty then 0 else 1)<30))=true
 line:(apos.endLine == cpos.line)=true
 trees:backTo cpos (starEach [e,f] X.env) = [(false,eval e X.env),(false,eval f X.env)]
def VQ(H:Hp)(a:A2):Prop:=(∃b,Rd H a (.dK b))\/∃b,Rd H a (.dT b)
def Mg{X:Cx}{f:A0 (A2×Obj)}{σ:St}{H:Hp}{s:A5}{a:A2}(I:Inv X f σ H s)(d:VQ H a) :
  s.TypeIs (.ref a) "dict"/\(∀b,Value.ref a = .ref b->∃c,s.heap.get? b=some c/\c.dict=none)/\(a == sysModules)=false:=by
 rcases d with⟨h,e⟩ | ⟨h,e⟩
 .obtain⟨_,i,l,_,g⟩:=Kg I.hok e;refine⟨g.typeIs,λb q=>?_,i⟩;cases q;obtain⟨c,_,_,j,k,_⟩:=g;exact⟨c,j,k.2.1⟩
 .obtain⟨_,i,m,_,g⟩:=Nn I.hok e;refine⟨g.typeIs,λb q=>?_,i⟩;cases q;obtain⟨c,_,_,j,k,_⟩:=g;exact⟨c,j,k.2.1⟩
section
variable{X:Cx}{pins:A0 (A2×Obj)}{σ:St}{H:Hp}{s:A5}{a:A2}{y d:V}{u r:A1}{o:A6 V}{A:HZ}{E:A1->A5->Prop}
theorem zBx{Q:A1->A5->Prop}(q:A.units+1<cLine)(I:Inv X pins σ H s)(g:KD H a y o)(m:RelV y u)(h:∀n p,Inv X pins σ H p->RelV (o.getD .non) n->Q n p) :
  wpAny (model X.prog X.w) A (call (.builtin "dict.get") [.ref a,u]) Q E s:=by
 rcases g with⟨f,k,e,i,l⟩ | ⟨f,k,b,e,i,r,l⟩
 .subst i;obtain⟨z,j,v,c,d⟩:=Kg I.hok e;refine call_meetsIn PySem.F.slot_dict_get d.typeIs PySem.F.entry_dict_get (PySem.F.args_dict_get_2 _ _) (meets_dict_get (D0 X.prog X.w) a (Ey m) j) ⟨_,d.mapOf,h _ _ (I.tok _) ?_⟩;rw[l];exact(c.val k).getD rfl
 .subst i;cases(show u=Value.ref b from m);obtain⟨z,j,t,c,d⟩:=Nn I.hok e;refine call_meetsIn PySem.F.slot_dict_get d.typeIs PySem.F.entry_dict_get (PySem.F.args_dict_get_2 _ _) (meetsH_dict_get (tupleKind (D0 X.prog X.w)) a b j) ⟨tupleKind_room_in1 q,k,t,j8 I.hok r,d,h _ _ (I.tok _) ?_⟩;rw[l];exact(c.val k).getD rfl
theorem zDt{Q:A1->A5->Prop}(v:A.units+1<cLine)(I:Inv X pins σ H s)(g:KD H a y o)(n:RelV y u)(p:RelV d r)(h:∀q t,Inv X pins σ H t->RelV (o.getD d) q->Q q t) :
  wpAny (model X.prog X.w) A (call (.builtin "dict.get") [.ref a,u,r]) Q E s:=by
 rcases g with⟨i,k,e,j,l⟩ | ⟨i,k,b,e,j,x,l⟩
 .subst j;obtain⟨z,m,C,c,f⟩:=Kg I.hok e;refine call_meetsIn PySem.F.slot_dict_get f.typeIs PySem.F.entry_dict_get (PySem.F.args_dict_get_3 _ _ _) (meets_dict_get_default (D0 X.prog X.w) a (Ey n) m r) ⟨_,f.mapOf,h _ _ (I.tok _) ?_⟩;rw[l];exact(c.val k).getD p
 .subst j;cases(show u=Value.ref b from n);obtain⟨z,m,B,c,f⟩:=Nn I.hok e;refine call_meetsIn PySem.F.slot_dict_get f.typeIs PySem.F.entry_dict_get (PySem.F.args_dict_get_3 _ _ _) (meetsH_dict_get_default (tupleKind (D0 X.prog X.w)) a b m r) ⟨tupleKind_room_in1 v,k,B,j8 I.hok x,f,h _ _ (I.tok _) ?_⟩;rw[l];exact(c.val k).getD p
end
def Xu(d ty:TE):TE:=λσ H Q=>d σ H λx b=>∃a,x = .ref a/\VQ b a/\ty σ b λy c=>∃o,KD c a y o/\Q (o.getD .non) c
def Wy(d ty e:TE):TE:=λσ H Q=>d σ H λx b=>∃a,x = .ref a/\VQ b a/\ty σ b λy f=>e σ f λz c=>∃o,KD c a y o/\Q (o.getD z) c
section
variable{X:Cx}{o e f:H_}{apos cpos:Pos}{td ty tx:TE}
theorem Mw(i:X.A.units+1<cLine)(j:PE X o td)(k:PE X e ty)(m:M1 X o "get" apos e cpos):PE X (.Call (.Attribute o "get" apos) [e] [] cpos) (Xu td ty):=by
 intro b s σ H Q I h;refine GX m.base m.few m.line PySem.F.plainAttrs_dict PySem.F.slot_dict_get PySem.F.type_dict_get (IZ (j b s σ H _ I h) λu l ⟨x,n,f,p,a,q,d,r⟩=>?_);subst q;obtain rfl:u=Value.ref a:=p;obtain⟨t,v,_⟩:=Mg f d;refine⟨t,v,?_⟩;rw[m.trees];refine Calls.callWith_builtin rfl (Calls.evalArgs_plain (Calls.spliced_cons (IZ (k b l σ n _ f r) λE G ⟨y,w,z,B,J,g,C⟩=>Calls.spliced_nil ?_)));exact zBx i z g B λK L D c=>⟨_,w,D,c,C⟩
theorem Y1(j:X.A.units+1<cLine)(k:PE X o td)(l:PE X e ty)(n:PE X f tx)(m:M2 X o "get" apos e f cpos):PE X (.Call (.Attribute o "get" apos) [e,f] [] cpos) (Wy td ty tx):=by
 intro b s σ H Q I h;refine GX m.base m.few m.line PySem.F.plainAttrs_dict PySem.F.slot_dict_get PySem.F.type_dict_get (IZ (k b s σ H _ I h) λu p ⟨x,q,i,r,a,t,d,v⟩=>?_);subst t;obtain rfl:u=Value.ref a:=r;obtain⟨w,B,_⟩:=Mg i d;refine⟨w,B,?_⟩;rw[m.trees];refine Calls.callWith_builtin rfl (Calls.evalArgs_plain (Calls.spliced_cons (IZ (l b p σ q _ i v) λP C ⟨y,D,E,G,J⟩ =>
  Calls.spliced_cons (IZ (n b C σ D _ E J) λR S ⟨z,K,L,M,T,g,N⟩=>Calls.spliced_nil ?_))))
 exact zDt j L g G M λU V O c=>⟨_,K,O,c,N⟩
end
end L2
namespace Att
open PySem PySem.W PySem.Calls PyProof.Rows
def Bo{P:Params}{h:HX}:∀(ns:A0 Int) (vs:A0 A1),WellAll P h vs (ns.map WData.int)->IntsAre vs ns:=by
 intro ns
 induction ns with
 | nil =>
  intro vs w;rw[List.map_nil]at w;cases w;exact .nil
 | cons n ns c =>
  intro vs w;rw[BP]at w;cases w with
  | cons a b =>
   cases a;exact .cons _ _ (c _ b)
def Uf{l:OpenLaw}{n:Nat}(o:l.most=some n){P:Params}{h:HX}{args:A0 WData}{b:A0 A1}
  (c:l.row.toRowW.claim.pre args=true) (j:WellAll P h b args) :
  ∃a vs ns,b = [Value.ref a]/\args = [WData.list (ns.map WData.int)]/\h.get? a=some { cls:=.type "list",data:=.seq vs.toArray }/\IntsAre vs ns/\ns.length<=n:=by
 have k:WShape.hasAll [] args [.list .int]=true:=(pre_splitW c).1;have m:l.pre.holds [] { args:=args }=true:=(pre_splitW c).2;obtain⟨d,r,rfl,p,s⟩:=hasAllW_cons k;obtain rfl:=hasAllW_nil s;obtain⟨y,rfl,t⟩:=hasW_list p;obtain⟨ns,rfl⟩:=items_int t;have e:ns.length<=n:=by
  unfold OpenLaw.pre at m;have g:(WTm.not (.lt (.lit (.int (n:Int))) (.len (.arg 0)))).holds [] { args:=[.list (ns.map .int)] }=true:=by
   have g:=(holds_andW m).1;rw[o]at g;exact g
  have i:=condW_of g (w_not (w_lt w_lit (w_len_list (w_arg rfl))));rw[AA]at i;refine Nat.le_of_not_lt λq=>?_;have u:(n:Int) <((ns.length:Nat):Int):=by lia
  first
   | (rw[AJ u]at i;exact absurd i (by decide))
   | (simp at i;lia)
 cases j with
 | cons v w =>
  cases w;cases v with
  | list x f=>exact⟨_,_,ns,rfl,rfl,x,Bo ns _ f,e⟩
def Pc(l:OpenLaw)(args:A0 WData):l.row.toRowW.claim.post args (.bool true) args=true :=
 postW_of (r:=l.row.toRowW) (X:=(true == true))
  (show WShape.has [] (.bool true) .bool=true by first | rfl | decide | simp[WShape.has,WShape.arms,WShape.armsAll])
  (show(WTm.eq .res (.lit (.bool true))).value [] { args:=args,res:=some (.bool true),after:=args }=some (.bool (true == true))from w_eq_bool (w_res rfl) w_lit) rfl
def RC{l:OpenLaw}{n:Nat}{q:Cv}{b:A0 Str}{A:(Str->A6 A1)->HX->Prop}{B:HS->HX->Prop}{d:DefRec}
  (F:l.most=some n) (t:d.params.defaults = [])
  (call:∀(w:HS) (s₀ s₁:A5) (k u:Str->A6 A1) (g:A2) (o:Obj) (v m c:A1) (a:A2) (vs:A0 A1) (ns:A0 Int),
   Ground q b [] A w s₀ k u s₁.heap->B w s₁.heap ->
   s₁.heap.get? g=some o->o.data = .func (docDef d.name d.params d.body d.scope v m c)->s₁.heap.CodeRec m d.name->k d.name=some (.ref g) ->
   s₁.heap.get? a=some { cls:=.type "list",data:=.seq vs.toArray }->IntsAre vs ns->ns.length<=n->s₁.gens = #[] ->
   codeAny (model l.prog w) callerA (.call (.ref g) ⟨[.ref a],[]⟩) (λr p=>r = .ok (.ret (.bool true))/\OldK s₁.heap p.heap/\p.os=s₁.os/\AllBare p.gens) s₁) :
  WalkO q b A B l.row.toRowW d [] (λf vs=>PySem.call f vs):=by
 intro w s₀ s₁ k u G Y g o v m c H kV I J x C y K args D S h E L z M;obtain rfl:H = .none:=Dflts.none C t;obtain rfl:kV = .none:=Dflts.noKw C;obtain⟨a,vs,ns,rfl,rfl,i,e,j⟩:=Uf F h z;refine enter_call (FE (call w s₀ s₁ k u g o v m c a vs ns G Y I (fd_plain J) x y i e j K) λr p N=>?_);obtain⟨rfl,O,P,Q⟩:=N;exact⟨.inl ⟨.bool true,.bool true,[],rfl,λ_=>rfl,.bool true,Pc l _,λ_=>⟨List.Pairwise.nil,λ_ R=>(nomatch R)⟩⟩,O,P,Q⟩
end Att
namespace L2
open PySem PySem.Spec PyProof.Rows
def Fu:∀{vs:A0 A1} {ns:A0 Int},IntsAre vs ns->IC (ns.map V.int) vs
 | _,_,.nil=>.nil
 | _,_,.cons n t h=>.cons ⟨t,rfl⟩ (Fu h)
def S7(s:IE)(j:Nat):IE:=match s with
 | .ClassDef _ _ _ a _ _ _ _ _ _ _=>a.getD j (.Pass ⟨0,0,0,0⟩)
 | _=>.Pass ⟨0,0,0,0⟩
def S9(s:IE):Arguments:=match s with
 | .FunctionDef _ a _ _ _ _ _ _ _ _=>a
 | _=>{ posonlyargs:=[],args:=[],vararg:=none,kwonlyargs:=[],kw_defaults:=[],kwarg:=none,defaults:=[] }
def K2(s:IE):A0 IE:=match s with
 | .FunctionDef _ _ b _ _ _ _ _ _ _=>b
 | _=>[]
def B6(s:IE):IT:=match s with
 | .FunctionDef _ _ _ _ _ _ a _ _ _=>a
 | _=>{ kind:=.function,names:=[],isGenerator:=false,isCoroutine:=false }
abbrev JG:TK:=λ_ _ _ _ _ _=>False
abbrev E0:XK:=λ_ _ _=>False
def Hc{X:Cx}:Bm JG X E0:=λ_ _ _ _ _ _ _ h=>h.elim
structure N_(K:PySem.W.Frag)(x qual:Str)(st:IE)(f:A2)(fd:IJ):Prop where
 ex:∃(oc:A1) (od:A6 A2) (kV doc pm:A1) (an:A6 A2) (cdv ct:A1) (osl:HQ (A6 A1)),
  fd=PySem.W.fnOf x qual (S9 st) (K2 st) (B6 st) .none kV doc pm an cdv ct/\K.lookup f=some ⟨oc,od,.func fd,osl⟩/\PySem.W.codeIn K cdv qual=true
 kp:PySem.W.keepIn K (.ref f)=true
section
variable{P:Cv}{w:HS}{K:PySem.W.Frag}{mg:Str->A6 A1}{base:HX}
theorem N_.ok{x b:Str}{st:IE}{f:A2}{j:IJ}{N ps:A0 Str}{k:Nat}{sp:Sp}(F:N_ K x b st f j)(S:HW N ps (B6 st))(e:∀vs H Q E,sp vs H Q E->vs.length=ps.length)
  (d:∀(c:A1) (A:HZ) (a:A0 NL) (s:A5) (H:Hp) (vs:A0 V) (Q:VK) (E:XK),JH k (A.deeper (envOfC b (B6 st) s.heap.objs.size f c))->sp vs H Q E ->
   ∃t,P7 (Tq JG P w K mg base N b (B6 st) f c A a s H E).nox (K2 st) t/\t { nx:=λ_ H'=>Q .non H',rt:=Q } (t9 N vs) H):II P w K mg base JG (k+1) f j ps sp:=by
 obtain⟨o,p,kV,l,r,u,c,v,m,rfl,lk,g⟩:=F.ex;refine Yu lk g S e λA a s H vs Q E n i=>?_;obtain⟨t,h,q⟩:=d c A a s H vs Q E n i;exact⟨t,h.nox,q⟩
theorem N_.binds{x a:Str}{st:IE}{f:A2}{g:IJ}{ps:A0 Str}(F:N_ K x a st f g)
  (h:∀(kV b d:A1) (e:A6 A2) (c ct:A1) (us:A0 A1),us.length=ps.length->bindArgs (PySem.W.fnOf x a (S9 st) (K2 st) (B6 st) .none kV b d e c ct) ⟨us,[]⟩=pure (ps.zip us)):Binds K g ps []:=by
 obtain⟨k,l,kV,b,d,e,c,ct,i,rfl,lk,j⟩:=F.ex;exact .all (h kV b d e c ct)
theorem JY{x a:Str}{st:IE}{f:A2}{i:A1}{j g:A6 A2}{e:HQ (A6 A1)}{kV d h b ct:A1}(l:K.lookup f=some ⟨i,j,.func (PySem.W.fnOf x a (S9 st) (K2 st) (B6 st) .none kV d h g b ct),e⟩)
  (c:PySem.W.codeIn K b a=true) (k:PySem.W.keepIn K (.ref f)=true):N_ K x a st f (PySem.W.fnOf x a (S9 st) (K2 st) (B6 st) .none kV d h g b ct):=⟨⟨i,j,kV,d,h,g,b,ct,e,rfl,l,c⟩,k⟩
end
def U0{A:HZ}{k:Nat}(a:JH k A):A.units+1<cLine:=Nat.lt_of_le_of_lt (DY (by decide:1<=64) _) a.units
section
variable{X:Cx}
theorem pv(i:Nat){x:Str}{pos:Pos}(b:X.N[i]?=some x:=by rfl)(c:UT X.env.scope x:=by first | exact Or.inl rfl | exact Or.inr (Or.inl rfl) | exact Or.inr (Or.inr rfl))(d:(x ==("__debug__":Str))=false:=by decide)
  (a:(x ==("__classdict__":Str))=false:=by decide):PE X (.Name x pos) (Jw i):=Qc b c d a
end
def X0{A B:Prop}(h:B):if false=true then A else B:=by
 rw[AS BA];exact h
def g9{A B:Prop}(h:A):if true=true then A else B:=by
 rw[AY rfl];exact h
def g7{c A B:Prop}[Decidable c](h1:c->A)(h2:¬c->B):if c then A else B:=by
 by_cases h:c
 .rw[AY h];exact h1 h
 .rw[AS h];exact h2 h
def CW(H H':Hp):Prop:=∀b o,H b=some o->H' b=some o
def CW.refl(H:Hp):CW H H:=λ_ _ h=>h
def CW.trans{H d e:Hp}(a:CW H d)(b:CW d e):CW H e:=λc o h=>b c o (a c o h)
def CW.free{H H':Hp}(e:CW H H'){l:A2}(h:H' l=Option.none):H l=Option.none:=by
 cases q:H l with
 | none=>rfl
 | some o =>
  rw[e l o q]at h;cases h
section
variable{U:Type}[DecidableEq U]
theorem Sv:∀{l:A0 U} {k:U},l.Nodup->¬k∈l->(l ++ [k]).Nodup
 | [],k,_,_=>by simp
 | a::r,k,h,b=>by
  obtain⟨c,d⟩:=B_.mp h;show(a ::(r ++ [k])).Nodup;refine B_.mpr ⟨λm=>?_,Sv d λm=>b (A_.mpr (Or.inr m))⟩;rcases AH.mp m with q | q
  .exact c q
  .exact b (A_.mpr (Or.inl (AC.mp q).symm))
end
def KJ(X:Cx)(a:IT)(cl:A0 (Str×A2))(N':A0 Str)(b:A0 (A2×Obj))(ex:A0 A2)(c:A5)(d:Hp):Cx where
 prog:=X.prog
 w:=X.w
 K:=X.K
 mg:=X.mg
 base:=X.base
 A:=X.A
 N:=N'
 s₀:=c
 H₀:=d
 env:=compEnvC a cl c.heap.objs.size X.env
 outer:=X.stack
 stack:=X.stack
 ex:=ex
 fn:=λ_=>false
 calm:=X.calm
 pn:=X.pn++b
 xe:=λ_ _=>False
def OA(X:Cx)(a:IT)(cl:A0 (Str×A2)):A0 Str->A0 (A6 Nat)->Prop
 | [],[]=>True
 | _::N,none::c=>OA X a cl N c
 | x::N,some j::c=>(X.N[j]?=some x/\X.env.scope.names.lookup x=some .cell/\(relabel a X.env).names.lookup x=some .cell/\cl.lookup x=X.env.cells.lookup x)/\OA X a cl N c
 | _,_=>False
def RJ(X:Cx):A0 (Str×A2)->Prop
 | []=>True
 | p::r=>X.env.cells.lookup p.1=some p.2/\RJ X r
structure LU(X:Cx)(scope:IT)(cl:A0 (Str×A2))(N':A0 Str)(cap:A0 (A6 Nat)):Prop where
 kind:scope.kind = .function
 nocell:∀y∈scope.names,y.2≠ .cell
 loc:∀y∈scope.names,y.2 = .local->scope.names.lookup y.1=some .local
 clos:closureFor scope X.env=pure cl
 cin:RJ X cl
 has:((relabel scope X.env).names.all λy=>!(y.2 == .cell||y.2 == .free)||(cl.lookup y.1).isSome)=true
 caps:OA X scope cl N' cap
def Oh(cap:A0 (A6 Nat))(σ:St):St:=cap.map λo=>o.bind λj=>(σ[j]?).join
def RJ.get{X:Cx}:∀{cl:A0 (Str×A2)} {x:Str} {c:A2},RJ X cl->cl.lookup x=some c->X.env.cells.lookup x=some c
 | [],_,_,_,h=>by simp at h
 | (y,d)::r,x,c,⟨a,b⟩,h=>by
  rw[FH]at h;cases e:x == y with
  | true =>
   rw[e]at h;cases h;rw[beq_iff_eq.mp e];exact a
  | false =>
   rw[e]at h;exact RJ.get b h
def OA.len{X:Cx}{a:IT}{cl:A0 (Str×A2)}:∀{N:A0 Str} {cap:A0 (A6 Nat)},OA X a cl N cap->cap.length=N.length
 | [],[],_=>rfl
 | _::N,none::c,h=>by rw[BK,BK,OA.len (N:=N) (cap:=c) h]
 | _::N,some j::c,h=>by rw[BK,BK,OA.len h.2]
 | [],_::_,h=>h.elim
 | _::_,[],h=>h.elim
def OA.get{X:Cx}{a:IT}{cl:A0 (Str×A2)}{j:Nat}{x:Str}:∀{N:A0 Str} {cap:A0 (A6 Nat)} {i:Nat},OA X a cl N cap->N[i]?=some x->cap[i]?=some (some j) ->
  X.N[j]?=some x/\X.env.scope.names.lookup x=some .cell/\(relabel a X.env).names.lookup x=some .cell/\cl.lookup x=X.env.cells.lookup x
 | [],_,_,_,h,_=>by simp at h
 | _::_,[],_,_,_,h=>by simp at h
 | y::N,none::c,0,_,_,h=>by simp at h
 | y::N,none::c,i+1,h,b,d=>OA.get (N:=N) (cap:=c) (i:=i) h (by simpa using b) (by simpa using d)
 | y::N,some k::c,0,h,b,d=>by
  simp at b d;subst b;subst d;exact h.1
 | y::N,some k::c,i+1,h,b,d=>OA.get (N:=N) (cap:=c) (i:=i) h.2 (by simpa using b) (by simpa using d)
section
variable{X:Cx}{scope:IT}{cl:A0 (Str×A2)}{N':A0 Str}{cap:A0 (A6 Nat)}{pins:A0 (A2×Obj)}{σ:St}{H3:Hp}{s3:A5}{ex:A0 A2}
theorem t0{p:JF->Bool}:∀{names:A0 (Str×JF)} {q:Str->JF->Bool} {x:Str} {k:JF},(names.all λy=>q y.1 y.2)=true->names.lookup x=some k->q x k=true
 | [],_,_,_,_,h=>by simp at h
 | (y,d)::r,q,x,k,a,h=>by
  rw[List.all_cons,CF]at a;rw[FH]at h;cases e:x == y with
  | true =>
   rw[e]at h;cases h;rw[beq_iff_eq.mp e];exact a.1
  | false =>
   rw[e]at h;exact t0 (p:=p) (names:=r) (q:=q) a.2 h
theorem Inv.block(I:Inv X pins σ H3 s3)(S:LU X scope cl N' cap)(hc:X.calm=true)(t:∀b∈ex,Ar X pins H3 b/\∃o,s3.heap.get? b=some o){h1:HX}{T:Nat}
  (G:h1.Ns s3.heap.objs.size (λ_=>none)) (B:∀b o,s3.heap.get? b=some o->h1.get? b=some o) :
  Inv (KJ X scope cl N' pins ex s3 H3) [] (Oh cap σ) H3 { s3 with heap:=h1,toks:=T }:=by
 have C:∀b o,s3.heap.get? b=some o->b≠s3.heap.objs.size:=λb o e=>BC (AK e);have w:∀x c,cl.lookup x=some c->∃v,s3.heap.IsCell c v:=λx c e=>I.cell x c (S.cin.get e);have A:H3 s3.heap.objs.size=none:=I.hok.fresh (Nat.le_refl _);refine⟨⟨I.ok.mod,?_,I.ok.glob,I.ok.blt,Nat.le_refl _,λx y c H g=>I.ok.inj x y c (S.cin.get H) (S.cin.get g),λx U=>?_,λx c h _=>absurd h BA,I.ok.hd,I.ok.frames,.inl rfl,λb D=>?_,I.bs,Nat.le_trans I.ok.bsz I.sz,λb o e D=>?_,λb D=>?_,I.stack,I.stkFree⟩,
  rfl,I.bare,Un.kept B,⟨_,G,λi x v H g e3=>?_⟩,λx c e=>?_,A,λx c e=>I.freeC x c (S.cin.get e),λp V=>?_,I.hok.kept B,?_⟩
 .exact S.kind
 .have q:∀k,(relabel scope X.env).names.lookup x=some k->(!(k == .cell||k == .free)||(cl.lookup x).isSome)=true:=λk e=>t0 (p:=λ_=>true) (q:=λa k=>!(k == .cell||k == .free)||(cl.lookup a).isSome) S.has e;have J:(relabel scope X.env).names.lookup x=some .cell\/(relabel scope X.env).names.lookup x=some .free:=U;have:(cl.lookup x).isSome=true:=by
   rcases J with e | e
   .exact q _ e
   .exact q _ e
  exact DE.mp this
 .obtain⟨⟨_,_,_,_,W,_⟩,o,e⟩:=t b D;exact⟨C b o e,λx c E=>W x c (S.cin.get E)⟩
 .obtain⟨⟨f0,P,Q,f3,_⟩,_⟩:=t b D;rcases f3 with f3 | f3
  .exact I.ok.noex b o e f3
  .have:=(I.ok.bs b o e).1;exact absurd (BI (AK this) f3) (CM _)
 .intro K;obtain⟨⟨_,P,Q,_⟩,_⟩:=t b D;rcases A_.mp (I.stkSub b K)with z | z
  .exact P z
  .exact Q z
 .unfold Oh at g;rw[AG]at g;cases E:cap[i]? with
  | none=>rw[E]at g;cases g
  | some o =>
   rw[E]at g;cases o with
   | none=>cases g
   | some j =>
    have f:(σ[j]?).join=some v:=CJ g;obtain⟨Y,R,Z,c4⟩:=S.caps.get H E;have F:σ[j]?=some (some v):=by
     cases F:σ[j]? with
     | none=>rw[F]at f;cases f
     | some z=>rw[F]at f;cases z with
      | none=>cases f
      | some z=>cases f;rfl
    obtain⟨m,hn,hl⟩:=I.loc;obtain⟨u,r,l⟩:=hl j x v Y F (.inr (.inl R));refine⟨u,r,?_⟩;rcases l with⟨k,_⟩ | ⟨_,c,L,s⟩
    .have:X.env.scope.names.lookup x=some .local:=k;rw[R]at this;cases this
    .exact .inr ⟨.inl Z,c,c4.trans L,let⟨o,M,N⟩:=s;⟨o,B _ _ M,N⟩⟩
 .obtain⟨v,o,M,N⟩:=w x c e;exact⟨v,o,B _ _ M,N⟩
 .have O:p∈X.pn++pins:=by simpa [KJ] using V
  obtain⟨e,n,ne,nf,d⟩:=I.pin p O;refine⟨B _ _ e,n,C _ _ e,λK=>?_,d⟩;rcases A_.mp (I.stkSub p.1 K)with z | z
  .exact ne z
  .exact nf z
 .unfold Oh;rw[AA];exact S.caps.len
theorem Inv.unblock{σ':St}{H':Hp}{s':A5}{h':HX}(I:Inv X pins σ H3 s3)(g:∀b∈ex,Ar X pins H3 b)(J:Inv (KJ X scope cl N' pins ex s3 H3) [] σ' H' s')(f:Heap.SameBut s3.heap.objs.size s'.heap h') :
  Inv X pins σ H' { s' with heap:=h' }:=by
 have d:H' s3.heap.objs.size=none:=J.free;refine I.call' (ch:=ex) J.os ⟨λb o e n h a=>?_,λb o e n h a=>?_,λb o e n a=>?_,λb o e a=>?_,J.base.tups,J.base.frzs,J.base.tbls⟩ (λb j e=>?_) J.bare λb i=>?_
 .exact(f.2 b (BC (AK e))).trans (J.base.keep b o e n h a)
 .obtain⟨k,q⟩:=J.base.slot b o e n h a;exact⟨k,(f.2 b (BC (AK e))).trans q⟩
 .exact J.base.free b o e n a
 .obtain⟨l,q⟩:=J.base.there b o e a;exact⟨l,(f.2 b (BC (AK e))).trans q⟩
 .refine(J.hok b j e).stay (λc u m q=>(f.2 c ?_).trans q) (λ_ q=>q) λ_ _ q=>q;rintro rfl;rcases m with z | z
  .rw[<-z,d]at e;cases e
  .rw[d]at z;cases z
 .obtain⟨_,p,_,r,s,t⟩:=g b i;exact⟨r,p,s,t⟩
end
def Do(e:H_)(d:Nat)(iter tg:H_)(ifs:A0 H_)(b:Sem Fin->Sem Fin)(g f:A1)(a:NL):Sem Fin:=do
 standAt iter.pos
 match <-pyNext g with
 | none=>pure (.done .next)
 | some v =>
  letOwnedTupleGo tg g v
  assign tg a v
  let mut h:=true
  for c in ifs do
   if h then h <-isTrue c a (eval c a)
  if h then b (again (.compLoop e d g f a))else again (.compLoop e d g f a)
def emL(a:H_)(b:A1)(c:NL)(k:Sem Fin):Sem Fin:=(do let _ <-call (.builtin "list.append") [b,<-eval a c]:Sem Unit) >>= λ_=>k
def emD(a b:H_)(D:A2)(c:NL)(k:Sem Fin):Sem Fin:=(do
   let d <-eval a c
   let e <-holding [d] (eval b c)
   standAt { a.pos with endLine:=b.pos.endLine,endCol:=b.pos.endCol }
   holding [d,e] (dictSet D d e):Sem Unit) >>= λ_=>k
def emN(e a:H_)(d:Nat)(c:A1)(b:NL)(k:Sem Fin):Sem Fin:=do
    let x <-eval a b
    standAt a.pos
    let x <-foldedSetIterable a b x
    let _ <-runOwn (.compStart e d (<-holding [x] (pyIter x)) c b) b
    k
def Dp(b tg iter:H_)(ifs:A0 H_)(a:IT)(pos:Pos)(e c:A1)(d:NL) :
  compTurn (.ListComp b [⟨tg,iter,ifs,0⟩] a pos) 0 e c d=Do (.ListComp b [⟨tg,iter,ifs,0⟩] a pos) 0 iter tg ifs (emL b c d) e c d:=rfl
def p8(k v tg iter:H_)(ifs:A0 H_)(a:IT)(pos:Pos)(c:A1)(D:A2)(b:NL) :
  compTurn (.DictComp k v [⟨tg,iter,ifs,0⟩] a pos) 0 c (.ref D) b=Do (.DictComp k v [⟨tg,iter,ifs,0⟩] a pos) 0 iter tg ifs (emD k v D b) c (.ref D) b:=rfl
abbrev SW:=St->Hp->(St->Hp->Prop)->Prop
def PEm(X:Cx)(b:Sem Fin->Sem Fin)(t:SW):Prop :=
 ∀(a:A0 (A2×Obj)) (s:A5) (σ:St) (H:Hp) (Q:St->Hp->Prop) (k:Sem Fin) (F:Fin->A5->Prop) (E:A1->A5->Prop),Inv X a σ H s->t σ H Q ->
  (∀c σ' d,Inv X a σ' d c->Q σ' d->wpAny (model X.prog X.w) X.A k F E c)->wpAny (model X.prog X.w) X.A (b k) F E s
def SX(X:Cx)(ifs:A0 H_)(t:TT):Prop :=
 ∀(a:A0 (A2×Obj)) (s:A5) (σ:St) (H:Hp) (Q:Bool->Hp->Prop),Inv X a σ H s->t σ H Q ->
  wpAny (model X.prog X.w) X.A (forIn ifs true λc r=>if r=true then do let b <-isTrue c X.env (eval c X.env);pure (ForInStep.yield b)else pure (ForInStep.yield r)) (TP X a σ Q) X.xe s
def V7:TT:=λ_ H Q=>Q true H
def D8{X:Cx}:SX X [] V7:=λ_ _ _ H _ I h=>wpAny_tests_nil ⟨H,I,h⟩
def J5{X:Cx}{c:H_}{t:TT}(h:PT X c t):SX X [c] t:=λa s σ H Q I q=>wpAny_tests_one (h a s σ H Q I q)
def Aa(g:TG)(e:TT)(f:SW)(J:It)(σ:St)(H:Hp)(Q:St->Hp->Prop):Prop :=
 ∃W:Nat->Nat->St->Hp->Prop,(∃m,W 0 m σ H)/\∀i m σ H,W i m σ H->(J.stop i H/\Q σ H)\/(J.go i H/\∀x c,J.yld i H x c->g x σ c λσ2 h=>e σ2 h λb d =>
  if b=true then f σ2 d λσ3 j=>∃a,a < m/\W (i+1) a σ3 j else ∃a,a < m/\W (i+1) a σ2 d)
section
variable{X:Cx}{e tg iter:H_}{d:Nat}{ifs:A0 H_}{emit:Sem Fin->Sem Fin}{it:A2}{acc:A1}{g:TG}{tc:TT}{em:SW}{J:It}{fp:A0 A2}{tn:Nat->HX->Prop}{R:Result->A5->Prop}
theorem Q6(G:X.A.under (.compLoop e d (.ref it) acc X.env)=X.A)(t:(model X.prog X.w).den (.compLoop e d (.ref it) acc X.env) =(compTurn e d (.ref it) acc X.env).onRaise (λx=>do noteFrame x X.env;theTreesLotGoes x))(V:X.calm=true)(L:X.xe=λ_ _=>False)(M:compTurn e d (.ref it) acc X.env=Do e d iter tg ifs emit (.ref it) acc X.env)(hg:PG X tg g)(ht:SX X ifs tc)(N:PEm X emit em)
  (T:PX X.prog X.w X.K tg J fp it tn) {a:A0 (A2×Obj)} {s:A5} {σ:St} {H:Hp} {Q:St->Hp->Prop} (I:Inv X a σ H s) (st:tn 0 s.heap) (Y:∀b∈fp,Ar X a H b) (h:Aa g tc em J σ H Q)
  (hR:∀v σ' H',Inv X a σ' H' v->Q σ' H'->R (.ok .next) v):codeAny (model X.prog X.w) X.A (.compLoop e d (.ref it) acc X.env) R s:=by
 obtain⟨W,⟨m0,w0⟩,y⟩:=h;have c:∀{H':Hp},(∀b∈fp,H' b=none)->∀b∈fp,Ar X a H' b:=λhn b f=>⟨hn b f,(Y b f).2⟩;have Z:∀{α:Type} {m:Sem α} {P:α->A5->Prop} {E:A1->A5->Prop} {s:A5},wpAny (model X.prog X.w) X.A m P X.xe s->wpAny (model X.prog X.w) X.A m P E s:=λq=>by
  rw[L]at q;exact CA q (λ_ _ z=>z) λ_ _ z=>z.elim
 refine codeAny_loop rfl (λn v=>∃i σ' H',Inv X a σ' H' v/\tn i v.heap/\(∀b∈fp,H' b=none)/\W i n σ' H') (λn s3 hI=>?_) m0 ⟨0,σ,H,I,st,λb f=>(Y b f).1,w0⟩;obtain⟨i,σ3,D,I3,B,C,w3⟩:=hI;rw[G,t];refine wpAny_noted ?_;rw[M];unfold Do;refine AB (DP (AB ?_));rcases y i n σ3 D w3 with⟨stop,qn⟩ | ⟨go,step⟩
 .refine CA (T.done X rfl rfl rfl V i a s3 σ3 D _ I3 (c C) B stop) (λr s4 ⟨O,I4⟩=>?_) λ_ _ z=>z;subst O;exact AE (hR s4 σ3 D I4 qn)
 .refine CA (T.item X rfl rfl rfl V i a s3 σ3 D _ I3 (c C) B go) (λr s4 ⟨u,O,h4⟩=>?_) λ_ _ z=>z;subst O;refine AB (CA h4 (λ_ s5 ⟨x,H5,I5,r5,y5,j,S⟩=>?_) λ_ _ z=>z);have U:=I5.pinned (c S) (T.obj _ _ j);have again:∀{σ7:St} {k:Hp} {l:A5},Inv X (a++Iu fp s5.heap) σ7 k l->(∃F,F < n/\W (i+1) F σ7 k)->∃m,m<n/\∃i σ' H',Inv X a σ' H' l/\tn i l.heap/\(∀b∈fp,H' b=none)/\W i m σ' H':=fun{σ7 k l} p n7=>by
   obtain⟨F,hm,w7⟩:=n7;refine⟨F,hm,i+1,σ7,k,p.unpinned,T.keep _ _ _ j λb f o e=>(p.pin (b,o) (BJ _ (BJ _ (Y2 f e)))).1,λb f=>?_,w7⟩;obtain⟨o,e,d⟩:=T.obj _ _ j b f;exact(p.pin (b,o) (BJ _ (BJ _ (Y2 f e)))).2.1
  refine AB (CA (Z (hg _ s5 σ3 H5 x u _ U r5 (step x H5 y5))) (λ_ s6 ⟨σ6,H6,I6,q6⟩=>?_) λ_ _ z=>z);refine AB (CA (Z (ht _ s6 σ6 H6 _ I6 q6)) (λok l ⟨k,p,q7⟩=>?_) λ_ _ z=>z);cases ok with
  | false=>exact AE ⟨rfl,again p q7⟩
  | true =>
   exact N _ l σ6 k _ _ _ _ p q7 λs8 σ8 H8 I8 q8=>AE ⟨rfl,again I8 q8⟩
theorem X9(f:X.A.under (.compStart e d (.ref it) acc X.env)=X.A)(b:(model X.prog X.w).den (.compStart e d (.ref it) acc X.env) =(compStart e d (.ref it) acc X.env).onRaise (λx=>do noteFrame x X.env;standAt theWindowsPlace)){gs:A0 Comprehension}(g:clausesOf e=gs)(k:gs[d]?=some ⟨tg,iter,ifs,0⟩){s:A5}(T:PX X.prog X.w X.K tg J fp it tn)(st:tn 0 s.heap)
  (h:codeAny (model X.prog X.w) X.A (.compLoop e d (.ref it) acc X.env) R s):codeAny (model X.prog X.w) X.A (.compStart e d (.ref it) acc X.env) R s:=by
 refine codeAny_of_tree ?_;rw[f,b];refine wpAny_notedAt ?_;unfold compStart;rw[g,k];show wpAny _ X.A (ask >>= _) _ _ s;refine AB (GD (wpAny_ite ?_));have j:=T.self X.A 0 s (λa c=>codeAny (model X.prog X.w) X.A (.compLoop e d a acc X.env) R c) (notedBy (model X.prog X.w) X.A X.env λx c=>R (.error x) c) st h;split
 .first
   | exact AB (AE (AE (And.intro rfl h)))
   | exact AE (And.intro rfl h)
 .first
   | exact AB (DT (AB (DP (AB (CA j (λa c i=>AE (And.intro rfl i)) λ_ _ x=>x)))))
   | (refine AB (DT ?_);show wpAny _ _ (standAt iter.pos >>= _) _ _ s;exact AB (DP (AB (CA j (λa c i=>AE (And.intro rfl i)) λ_ _ x=>x))))
end
section
variable{X:Cx}{tg iter:H_}{ifs:A0 H_}{g:TG}{tc:TT}{em:SW}{scope:IT}{cl:A0 (Str×A2)}{N':A0 Str}{cap:A0 (A6 Nat)}{pos:Pos}{wi:TI}
def Fo(wi:TI)(o:A2->HO)(cap:A0 (A6 Nat))(b:A2->It->St->Hp->(St->Hp->Prop)->Prop):TE:=λσ H Q=>wi σ H λJ a=>∀D,a D=none->b D J (Oh cap σ) (HU a D (o D)) λ_ c=>Q (.ref D) c
theorem Ew{e:H_}{gs:A0 Comprehension}{newAcc:Sem A1}{p2:Pos}(r:clausesOf e =⟨tg,iter,ifs,0⟩::gs)(o:A2->HO)(hs:∀x,foldedSetIterable iter X.env x=pure x)(S:LU X scope cl N' cap)(hc:X.calm=true)(hi:PI X tg iter wi)
  {lp:A2->It->St->Hp->(St->Hp->Prop)->Prop}
  (t:∀(a:A0 (A2×Obj)) (s:A5) (σ:St) (H:Hp) (Q:A1->A5->Prop) (E:A1->A5->Prop),Inv X a σ H s->(∀l,Inv X a σ (HU H s.heap.objs.size (o s.heap.objs.size)) l->(∀b f,s.heap.get? b=some f->l.heap.get? b=some f)->Q (.ref s.heap.objs.size) l)->wpAny (model X.prog X.w) X.A newAcc Q E s)
  (L:∀(a:A0 (A2×Obj)) (M:A0 A2) (s3:A5) (N:Hp) (D k:A2) (fp:A0 A2) (u:Nat->HX->Prop) (J:It) (σ:St) (s:A5) (H:Hp) (Q:St->Hp->Prop) (R:Result->A5->Prop),
   PX X.prog X.w X.K tg J fp k u->Inv (KJ X scope cl N' a M s3 N) [] σ H s->u 0 s.heap->(∀b∈fp,Ar (KJ X scope cl N' a M s3 N) [] H b)->lp D J σ H Q ->
   (∀l σ' H',Inv (KJ X scope cl N' a M s3 N) [] σ' H' l->Q σ' H'->R (.ok .next) l) ->
   codeAny (model X.prog X.w) X.A (.compLoop e 0 (.ref k) (.ref D) (compEnvC scope cl s3.heap.objs.size X.env)) R s)
  (O:∀k D g,X.A.under (.compStart e 0 (.ref k) (.ref D) g)=X.A) (B:∀k D g,(model X.prog X.w).den (.compStart e 0 (.ref k) (.ref D) g) =(compStart e 0 (.ref k) (.ref D) g).onRaise (λx=>do noteFrame x g;standAt theWindowsPlace))
  (P:∀E Q s,wpAny (model X.prog X.w) X.A (comprehension e scope X.env p2 newAcc false (eval iter X.env)) Q E s->wpAny (model X.prog X.w) X.A (eval e X.env) Q E s) :
  PE X e (Fo wi o cap lp):=by
 intro a s σ H Q I h;refine P _ _ _ (GJ (use:=none) r hs S.clos S.kind S.loc (IZ (hi a s σ H _ I h) λv s1 C=>IZ C λitv i h2=>?_));obtain⟨k,fp,u,J,q,U,I2,T,F,f2,R2⟩:=h2;subst U;refine t a i σ q _ _ I2 λs3 V k3=>?_;have hD:q i.heap.objs.size=none:=I2.hok.fresh (Nat.le_refl _);have n:∀b∈fp,Ar X a (HU q i.heap.objs.size (o i.heap.objs.size)) b/\∃f,s3.heap.get? b=some f:=λb j=>by
  obtain⟨f,e,_⟩:=T.obj _ _ F b j;obtain⟨W,fr⟩:=f2 b j;exact⟨⟨by rw[B8 (BC (AK e))];exact W,fr⟩,f,k3 b f e⟩
 refine wpAny_newFunctionEnv S.nocell (by intro y hy;simp at hy) (λC Y Z=>?_) S.kind;have hk:∀b f,s3.heap.get? b=some f->C.get? b=some f:=λb f e=>(Z.2 b (BC (AK e))).trans (AD _ e);have I4:Inv (KJ X scope cl N' a fp s3 (HU q i.heap.objs.size (o i.heap.objs.size))) [] (Oh cap σ) (HU q i.heap.objs.size (o i.heap.objs.size)) { s3 with heap:=C,toks:=s3.toks +([]:A0 (Str×A1)).length } :=
  V.block S hc n Y hk
 have G:u 0 C:=T.keep 0 _ _ F λb j f e=>hk b f (k3 b f e);refine X9 (X:=KJ X scope cl N' a fp s3 (HU q i.heap.objs.size (o i.heap.objs.size))) (gs:=⟨tg,iter,ifs,0⟩::gs) (e:=e) (d:=0) (tg:=tg) (iter:=iter) (ifs:=ifs) (O _ _ _) (B _ _ _) r rfl T G ?_;refine L a fp s3 _ i.heap.objs.size k fp u J (Oh cap σ) _ _ _ _ T I4 G (λb j=>?_) (R2 _ hD) λl σ' H' I' q'=>?_
 .obtain⟨⟨W,f1,f2',f3,f4,f5⟩,f,eo⟩:=n b j;refine⟨W,BC (AK eo),λhf=>?_,.inl j,λx c e=>f4 x c (S.cin.get e),λp hp=>f5 p (by simpa [KJ] using hp)⟩;rcases A_.mp (V.stkSub b hf)with z | z
  .exact f1 z
  .exact f2' z
 .obtain⟨m,hn,_⟩:=I'.loc;exact⟨m,hn,λh' j=>⟨.ref _,H',V.unblock (λb j=>(n b j).1) I' j,rfl,q'⟩⟩
end
section
variable{X:Cx}{tg iter elt:H_}{ifs:A0 H_}{g:TG}{tc:TT}{te:TE}{scope:IT}{cl:A0 (Str×A2)}{N':A0 Str}{cap:A0 (A6 Nat)}{pos:Pos}{wi:TI}
def X3(D:A2)(te:TE):SW:=λσ H Q=>te σ H λy b=>∃a,b D=some (.lst a)/\a.length<sizeLine/\Q σ (HU b D (.lst (a ++ [y])))
theorem Mx{α:Type}{X:Cx}(a:X.xe=λ_ _=>False){m:Sem α}{P:α->A5->Prop}{E:A1->A5->Prop}{s:A5}(q:wpAny (model X.prog X.w) X.A m P X.xe s):wpAny (model X.prog X.w) X.A m P E s:=by
 rw[a]at q;exact CA q (λ_ _ z=>z) λ_ _ z=>z.elim
theorem Fg{D:A2}(b:X.xe=λ_ _=>False)(d:PE X elt te):PEm X (emL elt (.ref D) X.env) (X3 D te):=by
 intro a s σ H Q k F E I h e;unfold emL;refine AB (AB (CA (Mx b (d a s σ H _ I h)) (λu f ⟨y,g,i,j,l,m,n,o⟩=>?_) λ_ _ z=>z));refine AB (CA (Mx b (M0 a f σ g (.ref D) [y] (.ref D) [u] (λv c=>v = .non/\Q σ c) i rfl (.cons j .nil) ⟨D,l,y,rfl,rfl,m,n,rfl,o⟩)) (λv p ⟨t,c,q,w,_,r⟩=>?_) λ_ _ z=>z);exact AE (e p σ c q r)
theorem J1(S:LU X scope cl N' cap)(i:X.calm=true)(hi:PI X tg iter wi)
  (j:∀(a:A0 (A2×Obj)) (c:A0 A2) (d:A5) (f:Hp),PG (KJ X scope cl N' a c d f) tg g/\SX (KJ X scope cl N' a c d f) ifs tc/\PE (KJ X scope cl N' a c d f) elt te)
  (k:∀x,foldedSetIterable iter X.env x=pure x:=by intro _;rfl) :
  PE X (.ListComp elt [⟨tg,iter,ifs,0⟩] scope pos) (Fo wi (λ_=>.lst []) cap λD J σ H Q=>Aa g tc (X3 D te) J σ H Q):=by
 refine Ew (newAcc:=newList []) (p2:=firstIterPos [⟨tg,iter,ifs,0⟩] pos) rfl (λ_=>.lst []) k S i hi (λa s σ H Q E I h=>?_) (λa c d f D q r t J σ s H Q R T I st l h m=>?_) (λ_ _ _=>rfl) (λ_ _ _=>rfl) (λE Q s h=>h)
 .refine HP ?_;exact h _ (I.lnew (t':=s.toks) (its:=[]) .nil (BR _)) λb u e=>AD _ e
 .obtain⟨n,o,p⟩:=j a c d f;exact Q6 (X:=KJ X scope cl N' a c d f) rfl rfl i rfl (Dp elt tg iter ifs scope pos _ _ _) n o (Fg rfl p) T I st l h m
def Ix(D:A2)(c d:TE):SW:=λσ H Q=>c σ H λy e=>d σ e λv b=>∃a k,b D=some (.dK a)/\y=kV k/\a.length<sizeLine/\Q σ (HU b D (.dK (i7 a k v)))
theorem Fa{D:A2}{a b:H_}{j m:TE}(d:X.xe=λ_ _=>False)(o:PE X a j)(p:PE X b m):PEm X (emD a b D X.env) (Ix D j m):=by
 intro c s σ H Q k F E I h t;unfold emD;refine AB (AB (CA (Mx d (o c s σ H _ I h)) (λu w ⟨y,x,A,B,C⟩=>?_) λ_ _ z=>z));refine AB (BW (CA (Mx d (p c w σ x _ A C)) (λr G ⟨v,W,n,J,f,kk,e,K,l,L⟩=>?_) λ_ _ z=>z));refine AB (DP (BW ?_));subst K;obtain⟨z,M,N,g,O⟩:=Sq n.hok e;have P:N.length<=sizeLine:=by rw[<-g.length];exact z
 have R:(i7 f kk v).length<=sizeLine:=by have:=Q7 f kk v;lia
 refine wpAny_dictSet_pairs (hsz:=P) (Ey B) O λS i T=>?_;have U:∃q,S.get? D=some q:=let⟨q,_,_,V,_⟩:=i;⟨q,V⟩;exact t _ σ _ (Pk (t':=G.toks+1) n (by rw[e];exact True.intro) T U (Gf R M (g.put kk J) i)) L
theorem Vv{a b:H_}{j k:TE}(S:LU X scope cl N' cap)(l:X.calm=true)(hi:PI X tg iter wi)
  (m:∀(c:A0 (A2×Obj)) (d:A0 A2) (f:A5) (i:Hp),PG (KJ X scope cl N' c d f i) tg g/\SX (KJ X scope cl N' c d f i) ifs tc/\PE (KJ X scope cl N' c d f i) a j/\PE (KJ X scope cl N' c d f i) b k)
  (n:∀x,foldedSetIterable iter X.env x=pure x:=by intro _;rfl) :
  PE X (.DictComp a b [⟨tg,iter,ifs,0⟩] scope pos) (Fo wi (λ_=>.dK []) cap λD J σ H Q=>Aa g tc (Ix D j k) J σ H Q):=by
 refine Ew (newAcc:=newDict) (p2:=firstIterPos [⟨tg,iter,ifs,0⟩] pos) rfl (λ_=>.dK []) n S l hi (λc s σ H Q E I h=>?_) (λc d f i D y z A J σ s H Q R T I st p h r=>?_) (λ_ _ _=>rfl) (λ_ _ _=>rfl) (λE Q s h=>h)
 .refine CD ?_;exact h _ (I.laid (a:=s.heap.objs.size) (o:=.dK []) (t':=s.toks) (λ_ _ q=>AD _ q) (Nat.le_refl _) (At s.heap I.big)) λb B e=>AD _ e
 .obtain⟨t,u,v,w⟩:=m c d f i;exact Q6 (X:=KJ X scope cl N' c d f i) rfl rfl l rfl (p8 a b tg iter ifs scope pos _ _ _) t u (Fa rfl v w) T I st p h r
end
instance:LawfulBEq IL where
 rfl {a}:=by cases a with
  | inl i=>show(i == i)=true;simp
  | inr x=>show(x == x)=true;simp
 eq_of_beq {a b} h:=by
  cases a with
  | inl i=>cases b with
   | inl j=>exact congrArg Sum.inl (eq_of_beq (show(i == j)=true from h))
   | inr j=>exact absurd h (by intro z;cases z)
  | inr i=>cases b with
   | inl j=>exact absurd h (by intro z;cases z)
   | inr j=>exact congrArg Sum.inr (eq_of_beq (show(i == j)=true from h))
def Oz(P:Cv)(w:HS)(a:A2)(l:A0 IL):HO:=.ext λh=>h.SetOf (D0 P w) a (λk=>decide (k∈l)) l.length
section
variable{X:Cx}{pins:A0 (A2×Obj)}{σ:St}{H:Hp}{s:A5}{a:A2}{l:A0 IL}
theorem zBd{P:Cv}{w:HS}{H:Hp}{h:HX}(z:h.SetOf (D0 P w) a (λk=>decide (k∈l)) l.length):IM P w H h a (Oz P w a l) :=
 ⟨z,let⟨o,_,_,_,e,_⟩:=z;⟨o,e⟩,λd f ⟨o,b,c,t,e,r⟩ k=>⟨o,b,c,t,k o e,r⟩⟩
theorem Inv.set(I:Inv X pins σ H s)(e:H a=some (Oz X.prog X.w a l)):s.heap.SetOf (D0 X.prog X.w) a (λk=>decide (k∈l)) l.length:=by
 obtain⟨z,_⟩:=(show IM X.prog X.w H s.heap a (Oz X.prog X.w a l)from I.hok a _ e);exact z
theorem Lg{k:IL}{u:A1}(r:RelV (kV k) u):u.scannable=true:=by
 cases k with
 | inl i=>obtain⟨t,rfl⟩:=r;rfl
 | inr x=>obtain⟨t,rfl⟩:=r;rfl
def zEo(l:A0 IL)(k:IL):A0 IL:=if k∈l then l else l ++ [k]
theorem Kd{P:Cv}{w:HS}{h:HX}{S b:IL->Bool}{n c:Nat}(z:h.SetOf (D0 P w) a S n)(e:∀k,b k=S k)(en:c=n):h.SetOf (D0 P w) a b c:=by
 have:b=S:=funext e;subst this;subst en;exact z
theorem Rs:J2 X (.type "set") (λxs H Q=>xs = []/\∀p,H p=none->Q (.ref p) (HU H p (Oz X.prog X.w p []))):=by
 intro pins s σ H xs c Q I r h;obtain⟨rfl,q⟩:=h;cases r;refine call_set_0 λa=>⟨.ref s.heap.objs.size,_,I.laid (t':=s.toks) (λb o e=>AD _ e) (Nat.le_refl _) (zBd ?_),rfl,q _ (I.hok.fresh (Nat.le_refl _))⟩;exact(setObjOf_fresh a).setOf (BG _ rfl) (by decide)
def zBi(P:Cv)(w:HS):V->A0 V->Hp->VK->Prop:=λx b H Q=>∃a l k,x = .ref a/\b = [kV k]/\H a=some (Oz P w a l)/\l.length+1<4096/\Q .non (HU H a (Oz P w a (zEo l k)))
theorem zCp:RT X "set.add" (zBi X.prog X.w):=by
 intro pins s σ H x r v t Q I g i h;obtain⟨a,l,k,rfl,rfl,c,j,q⟩:=h;cases g;obtain⟨u,rfl,d⟩:=i.one;refine call_set_add (Ey d) (Lg d) (I.set c) j λy m z=>?_;refine⟨.non,_,I.write (x:=a) (e:=a) (t':=s.toks+1) (by rw[c];exact True.intro) (.inl rfl) (λb q n e=>(m.2 b n).trans e) (let⟨o,_,_,_,e,_⟩:=z;⟨o,e⟩) (zBd (Kd z (λp=>?_) ?_)),rfl,q⟩
 .unfold zEo;by_cases e:k∈l
  .rw[AY e];by_cases f:p=k
   .subst f;simp[e]
   .simp[f]
  .rw[AS e];simp
 .unfold zEo;by_cases e:k∈l
  .rw[AY e];simp[e]
  .rw[AS e];simp[e]
def zGo(P:Cv)(w:HS)(neg:Bool):R2:=λx y H Q=>∃a l k,y = .ref a/\x=kV k/\H a=some (Oz P w a l)/\Q (.bl (if neg then !decide (k∈l)else decide (k∈l))) H
theorem Qs:LK X (compareOp .In) (zGo X.prog X.w false):=by
 intro pins s σ H x y v u Q I b c h;obtain⟨a,l,k,rfl,rfl,d,q⟩:=h;cases c;exact wpAny_inSet_of (Ey b) (Lg b) (I.set d) ⟨.bl (decide (k∈l)),H,I.tok _,rfl,q⟩
end
section
variable{X:Cx}{tg iter elt tg2 iter2:H_}{g g2:TG}{tc tc2:TT}{te:TE}{ifs ifs2:A0 H_}{scope:IT}{cl:A0 (Str×A2)}{N':A0 Str}{cap:A0 (A6 Nat)}{pos:Pos}{wi wi2:TI}
def zGs(wi:TI)(a:It->St->Hp->(St->Hp->Prop)->Prop):SW:=λσ H Q=>wi σ H λJ b=>a J σ b Q
end
def Its(x:Str):It:=⟨λi _=>i<x.cps.size,λi H v a=>a=H/\∃c,x.cps[i]?=some c/\v = .str ⟨#[c]⟩,λi _=>i=x.cps.size⟩
def Nb{P:Cv}{w:HS}{K:PySem.W.Frag}{tg:H_}(a:A2)(x:Str)(t:Tok)(ty:String)(p:["enumerate", "zip", "dict_itemiterator", "dict_reverseitemiterator", "odict_iterator", "itertools.zip_longest", "itertools.pairwise"].contains ty=false)
  (W:∀R:HZ,R.handled=none->Walks P w R a [a] [a] x.cps.size (SignAt x) (λi h=>h.IsStrIter a ty x t i))
  (g:∀(A:HZ) (i:Nat) (s:A5) (Q:A1->A5->Prop) (E:A1->A5->Prop),s.heap.IsStrIter a ty x t i->Q (.ref a) s->wpAny (model P w) A (pyIter (.ref a)) Q E s):PX P w K tg (Its x) [a] a (λi h=>h.IsStrIter a ty x t i) where
 mem:=by simp
 obj:=λi h st b j=>by
  have e:b=a:=by simpa using j
  subst e;obtain⟨o,e,c,d⟩:=st;exact⟨o,e,λv z=>by rw[d]at z;cases z⟩
 keep:=λi h m st k=>let⟨o,e,r⟩:=st;⟨o,k a (by simp) o e,r⟩
 item:=by
  intro X q y B C i f s σ H E I n st D;subst q y B;obtain⟨F,G,S,J,L,M⟩:=n a (by simp);refine(W X.A (I.ok.hd C)).item i s _ _ D st λv m N T l k=>?_;obtain⟨c,u,U,V⟩:=T;have Y:Inv X f σ H { s with heap:=m,toks:=N }:=I.turned (λb o j e=>k b o (by simpa using j) e) F G J L M;obtain⟨o,e,Z,d⟩:=id l;exact⟨v,rfl,Zk (s:={ s with heap:=m,toks:=N }) e Z d p ⟨.str ⟨#[c]⟩,H,Y,⟨u,V⟩,⟨rfl,c,U,rfl⟩,l,λb j=>(n b j).1⟩⟩
 done:=by
  intro X q y B C i f s σ H E I n st D;subst q y B;obtain⟨F,G,S,J,L,M⟩:=n a (by simp);have O:i=x.cps.size:=D;subst O;exact(W X.A (I.ok.hd C)).done s _ _ st λm N k=>⟨rfl,I.turned (λb o j e=>k b o (by simpa using j) e) F G J L M⟩
 self:=λA i s Q E st h=>g A i s Q E st h
section
variable{X:Cx}{tg:H_}
def zGz(a:TE):TI:=λσ H R=>a σ H λx b=>∃z,x = .str z/\R (Its z) b
theorem zEd{l:H_}{k:TE}(n:PE X l k):PI X tg l (zGz k):=by
 intro a s σ H R I h;refine IZ (n a s σ H _ I h) λv s1 ⟨x,p,g,r,u⟩=>?_;obtain⟨z,e,q⟩:=u;subst e;obtain⟨t,rfl⟩:=r;have f:∀(o:Obj) (ty:String),o.cls = .type ty->o.data = .fields #[.str z t,.int (0:Nat) 0]->o.isFreed=false->PX X.prog X.w X.K tg (Its z) [s1.heap.objs.size] s1.heap.objs.size (λi h=>h.IsStrIter s1.heap.objs.size ty z t i) ->
   PIE X a σ tg R (.ref s1.heap.objs.size) { s1 with heap:=s1.heap.push o }:=λo ty c d y T=>by
  refine⟨s1.heap.objs.size,[s1.heap.objs.size],_,_,p,rfl,g.kept (t':=s1.toks) λb o e=>AD _ e,T,⟨o,BG _ y,c,d⟩,λb B=>?_,q⟩;have e:b=s1.heap.objs.size:=by simpa using B
  subst e;exact g.fpOk (Nat.le_refl _) (g.hok.fresh (Nat.le_refl _))
 cases m:z.cps.all (· < 128)
 .exact wpAny_pyIter_wide m (f _ _ rfl rfl rfl (Nb _ z t "str_iterator" (by decide) (λC j=>Walks.strWide j _ z t) λA i s Q E st h=>wpAny_pyIter_striter_wide st h))
 .exact wpAny_pyIter_ascii m (f _ _ rfl rfl rfl (Nb _ z t "str_ascii_iterator" (by decide) (λC j=>Walks.strAscii j _ z t) λA i s Q E st h=>wpAny_pyIter_striter_ascii st h))
end
section
variable{X:Cx}
theorem Wq(E:X.calm=true):J2 X (.builtin "all") (λxs H Q=>∃(p:A2) (bs:A0 Bool),xs = [.ref p]/\HY X.K H p (bs.map V.bl)/\Q (.bl (bs.all id)) H):=by
 intro B s σ H xs M Q I r h;obtain⟨p,bs,rfl,F,q⟩:=h;obtain⟨u,rfl,t⟩:=U6 r;cases t;obtain⟨a,w,x,N⟩:=I.list F;refine call_all_walk (EO x.isList ?_);have y:p≠s.heap.objs.size:=by
  obtain⟨o,n,e,_⟩:=x;exact BC (AK e)
 refine⟨s.heap.objs.size,_,_,_,_,_,λi=>bs.getD i true,rfl,Walks.list (A:=X.A.in1) (show X.A.in1.handled=none from I.ok.hd E) _ p y a.toArray,⟨⟨_,BG _ rfl,rfl,rfl⟩,?_⟩,λi v O P R G J=>?_,λS T k=>?_⟩
 .obtain⟨o,n,e,c,d,L⟩:=x;exact⟨o,AD _ e,c,n,L⟩
 .have f:(bs.map V.bl)[i]?=some (V.bl (bs.getD i true))/\RelV (V.bl (bs.getD i true)) v:=by
   have g:a[i]?=some v:=by simpa using G
   have j:i<a.length:=(AR.mp g).1;have m:=w.length;rw[AA]at m;have e:(bs.map V.bl)[i]?=some (V.bl (bs.getD i true)):=by
    rw[AG,AU (by lia)];simp[DH,AU (show i<bs.length by lia)]
   obtain⟨u,C,t⟩:=w.get e;rw[g]at C;cases C;exact⟨e,t⟩
  cases f.2;exact CL J
 .have m:=w.length;rw[AA]at m;have e:(List.range a.toArray.size).all (λi=>bs.getD i true)=bs.all id:=by
   rw[BD,<-m];rw[D_,DN,DN];constructor
   .intro z b f;obtain⟨i,j,rfl⟩:=FB.mp f;have:=z i (CY.mpr j);simpa [DH,AU j] using this
   .intro z i j;have l:=CY.mp j;have:=z bs[i] (GE l);simpa [DH,AU l] using this
  rw[e];exact⟨.bl (bs.all id),H,I.kept λb o D=>k b o (by
   intro f;have:b=s.heap.objs.size:=by simpa using f
   exact absurd (AK D) (by rw[this];exact CM _)) (AD _ D),rfl,q⟩
theorem Dc:∀{ss:A0 Str} {us:A0 A1},IC (ss.map V.str) us->StrsAre us ss
 | [],_,.nil=>.nil
 | _::_,_,.cons ⟨t,e⟩ r=>by subst e;exact .cons _ _ (Dc r)
def QL(a b:Str):Prop:=¬b.cps.toList<a.cps.toList
theorem Hg:J2 X (.builtin "sorted") (λxs H Q=>∃(p:A2) (ss:A0 Str),xs = [.ref p]/\HY X.K H p (ss.map V.str)/\∀(l:A2) (c:A0 Str),H l=none->c.Perm ss->c.Pairwise QL->Q (.ref l) (HU H l (.lst (c.map V.str)))):=by
 intro E s σ H xs f Q I r h;obtain⟨p,ss,rfl,L,q⟩:=h;obtain⟨u,rfl,M⟩:=U6 r;cases M;obtain⟨g,F,N,W⟩:=I.list L;have j:=Dc F;have Y:=F.length;refine TS.NF (collect_list (vs:=g) N.isList ?_ (by lia));refine⟨rfl,by lia,strKind,oneType',λZ _=>TS.QM j,λa G e O k P=>?_⟩;have i:((s.heap.push (seqObj "list" #[] 0)).update s.heap.objs.size (Obj.mapSeq (· ++ g.toArray))).objs.size=s.heap.objs.size+1:=by rw[HL,size_push']
 obtain⟨m,R⟩:=O;have n:∀v∈a.toList,∃x t,v = .str x t:=λv w=>j.all v (m.mem_iff.mp w);have w:IC ((a.toList.map strOf).map V.str) a.toList:=by
  have:∀f:A0 A1,(∀v∈f,∃x t,v = .str x t)->IC ((f.map strOf).map V.str) f:=by
   intro f
   induction f with
   | nil=>exact λ_=>.nil
   | cons v r S =>
    intro h;obtain⟨x,t,rfl⟩:=h v (AZ ..);exact .cons ⟨t,rfl⟩ (S λu z=>h u (AQ _ z))
  exact this _ n
 have d:(a.toList.map strOf).Perm ss:=by
  have:=m.map strOf
  rwa [j.strs]at this
 have A:(a.toList.map strOf).Pairwise QL:=by
  rw[EM];refine(List.Pairwise.and_mem.mp R).imp fun{u v} ⟨z,B,q⟩=>?_;obtain⟨x,t,rfl⟩:=n u z;obtain⟨y,t',rfl⟩:=n v B;have T:decide (y.cps.toList<x.cps.toList)=false:=q;exact of_decide_eq_false T
 have C:∀b o,s.heap.get? b=some o->G.get? b=some o:=λb o J=>k b o (by
  rw[Heap.get?_update_ne _ _ _ _ (BC (AK J))];exact AD _ J)
 have U:H (s.heap.objs.size+1)=none:=I.hok.fresh (CQ _);have D:G.get? (s.heap.objs.size+1)=some (seqObj "list" a e):=by rw[<-i];exact P
 refine⟨.ref (s.heap.objs.size+1),HU H (s.heap.objs.size+1) (.lst ((a.toList.map strOf).map V.str)),?_,by show Value.ref _=_;rw[<-i],q _ _ U d A⟩;refine I.laid (t':=s.toks) C (CQ _) ⟨?_,a.toList,e,w,by simpa using D⟩;rw[AA,AA,m.length_eq];lia
end
def Hu{α β:Type}(f:α->β){l m:A0 β}(h:l.Perm m):∀ps:A0 α,m=ps.map f->∃a:A0 α,a.Perm ps/\l=a.map f:=by
 induction h with
 | nil=>intro ps e;exact⟨ps,.refl _,e⟩
 | cons x _ n =>
  intro ps e;cases ps with
  | nil=>cases e
  | cons p ps =>
   rw[BP]at e;obtain⟨rfl,b⟩:=List.cons.inj e;obtain⟨a,c,d⟩:=n ps b;exact⟨p::a,.cons _ c,by rw[BP,d]⟩
 | swap x y l =>
  intro ps e
  match ps,e with
  | p::q::ps,e =>
   rw[BP,BP]at e;obtain⟨rfl,b⟩:=List.cons.inj e;obtain⟨rfl,o⟩:=List.cons.inj b;exact⟨q::p::ps,.swap _ _ _,by rw[BP,BP,o]⟩
 | trans _ _ g i =>
  intro ps e;obtain⟨j,c,d⟩:=i ps e;obtain⟨k,r,s⟩:=g j d;exact⟨k,r.trans c,s⟩
abbrev IU:=A2×Str×Str
def zGu(q:IU):A0 Nat×A0 Nat:=(q.2.1.cps.toList,q.2.2.cps.toList)
def US(q r:IU):Prop:=TS.KS (zGu r) (zGu q)=false
def I9(H:Hp)(q:IU):Prop:=H q.1=some (.tup [.str q.2.1,.str q.2.2])
def Hr:∀{ps:A0 IU} {us:A0 A1},IC (ps.map λq=>V.ref q.1) us->us=ps.map λq=>Value.ref q.1
 | [],_,.nil=>rfl
 | _::_,_,.cons r t=>by rw[BP,Hr t];cases r;rfl
def Ic:∀(ps:A0 IU),IC (ps.map λq=>V.ref q.1) (ps.map λq=>Value.ref q.1)
 | []=>.nil
 | _::ps=>.cons rfl (Ic ps)
section
variable{X:Cx}
theorem Inv.pairAt{a:A0 (A2×Obj)}{σ:St}{H:Hp}{s:A5}{q:IU}(I:Inv X a σ H s)(h:I9 H q):TS.MQ s.heap (.ref q.1) q.2.1 q.2.2:=by
 obtain⟨b,f,⟨o,e,c,n,d⟩,_⟩:=I.tuple (JC.of h);obtain⟨i,j,rfl,⟨t,rfl⟩,⟨g,rfl⟩⟩:=f.two;exact⟨q.1,o,n,t,g,rfl,e,c,d⟩
theorem Hz:J2 X (.builtin "sorted") (λxs H Q=>∃(p:A2) (ps:A0 IU),xs = [.ref p]/\HY X.K H p (ps.map λq=>V.ref q.1)/\(∀q∈ps,I9 H q) /\
  ∀(l:A2) (c:A0 IU),H l=none->c.Perm ps->c.Pairwise US->Q (.ref l) (HU H l (.lst (c.map λq=>V.ref q.1)))):=by
 intro B s σ H xs us Q I r h;obtain⟨p,ps,rfl,j,x,q⟩:=h;obtain⟨u,rfl,N⟩:=U6 r;cases N;obtain⟨d,C,O,D⟩:=I.list j;have E:=Hr C;have hl:=C.length;refine TS.NF (collect_list (vs:=d) O.isList ?_ (by lia));have f:((s.heap.push (seqObj "list" #[] 0)).update s.heap.objs.size (Obj.mapSeq (· ++ d.toArray))).objs.size=s.heap.objs.size+1:=by rw[HL,size_push']
 have m:∀b o,s.heap.get? b=some o->((s.heap.push (seqObj "list" #[] 0)).update s.heap.objs.size (Obj.mapSeq (· ++ d.toArray))).get? b=some o:=λb o g=>by
  rw[Heap.get?_update_ne _ _ _ _ (BC (AK g))];exact AD _ g
 have i:∀q∈ps,TS.MQ s.heap (.ref q.1) q.2.1 q.2.2:=λq j=>I.pairAt (x q j);refine⟨rfl,by lia,TS.pairKind s.heap,tuples' true,λs2 P=>TS.RO (λv F=>?_) (λb o g=>?_),λn R e S k T=>?_⟩
 .rw[E]at F;obtain⟨q,j,rfl⟩:=AI.mp F;exact⟨_,_,i q j⟩
 .have t:b≠((s.heap.push (seqObj "list" #[] 0)).update s.heap.objs.size (Obj.mapSeq (· ++ d.toArray))).objs.size:=by
   rw[f];exact BC (EN (AK g))
  exact⟨t,P b o t (m b o g)⟩
 .obtain⟨G,J⟩:=S;rw[E]at G;obtain⟨c,w,L⟩:=Hu (λq:IU=>Value.ref q.1) G ps rfl;have y:c.Pairwise US:=by
   rw[L,EM]at J;refine(List.Pairwise.and_mem.mp J).imp fun{a b} ⟨U,W,z⟩=>?_;have Y:=(i a (w.mem_iff.mp U)).key;have Z:=(i b (w.mem_iff.mp W)).key;have M:TS.KS ((TS.OB s.heap (.ref b.1)).getD ([],[])) ((TS.OB s.heap (.ref a.1)).getD ([],[]))=false:=z;rw[Y,Z]at M;exact M
  have hn:H (s.heap.objs.size+1)=none:=I.hok.fresh (CQ _);have A:R.get? (s.heap.objs.size+1)=some (seqObj "list" n e):=by rw[<-f];exact T
  refine⟨.ref (s.heap.objs.size+1),HU H (s.heap.objs.size+1) (.lst (c.map λq=>V.ref q.1)),?_,by show Value.ref _=_;rw[<-f],q _ _ hn w y⟩;refine I.laid (t':=s.toks) (λb o g=>k b o (m b o g)) (CQ _) ⟨?_,n.toList,e,by rw[L];exact Ic c,by simpa using A⟩;rw[AA,w.length_eq];rw[AA]at D;exact D
end
def Inv.turnLaid{X:Cx}{d:A0 (A2×Obj)}{σ:St}{H:Hp}{s:A5}{h':HX}{t':Nat}{fp:A0 A2}{T:A2}{o:HO}(I:Inv X d σ H s)(k:∀b a,b∉fp->s.heap.get? b=some a->h'.get? b=some a)
  (i:∀b∈fp,Ar X d H b) (x:∀b∈fp,∃a,s.heap.get? b=some a) (l:s.heap.objs.size<=T) (j:IM X.prog X.w (HU H T o) h' T o):Inv X d σ (HU H T o) { s with heap:=h',toks:=t' }:=by
 have h:=I.hok.fresh l;have nT:∀b a,s.heap.get? b=some a->b≠T:=λb a e=>BC (BI (AK e) l);have p:∀b u,H b=some u->b∉fp:=λb u e f=>by rw[(i b f).1]at e;cases e
 refine I.step (g':=s.gens) (d':=s.drawn) (ch:=fp) (λb f=>let⟨_,y,_,A,B,C⟩:=i b f;⟨A,y,B,C⟩) (λb a _ _ g e _=>k b a g e) (λb a _ _ g e _=>⟨a.slots,k b a g e⟩) (λb a _ e n=>by rw[B8 (nT b a e)];exact n)
  (λb a g e=>⟨a,k b a g e⟩) (λb t e=>by rw[B8 (B3 e h)];exact e) (λb u t e=>by rw[B8 (B3 e h)];exact e) (λb J e=>⟨#[],by rw[B8 (B3 e h),e];simp⟩) (λm D=>?_) (λb u e=>?_) I.bare
 .obtain⟨a,E,F,G,r⟩:=D;exact⟨a,E,F,k _ a (λf=>(i _ f).2.1 rfl) G,r⟩
 .by_cases f:b=T
  .subst f;rw[A9]at e;cases e;exact j
  .rw[B8 f]at e;refine(I.hok b u e).stay (λc v g q=>k c v ?_ q) (λc q=>by rw[B8 (B3 q h)];exact q) λc t q=>by rw[B8 (B3 q h)];exact q
   rcases g with z | z
   .rw[z];exact p b u e
   .exact p c _ z
def Ite(K:PySem.W.Frag)(a:A2):It :=
 ⟨λi H=>∃b x,HY K H a b/\b[i]?=some x,λi H v c=>∃T x,v = .ref T/\H T=none/\c=HU H T (.tup [.int i,x])/\∀b,HY K H a b->b[i]?=some x,λi H=>∃b,HY K H a b/\b.length=i⟩
def Ug{P:Cv}{w:HS}{K:PySem.W.Frag}{F:A0 H_}{kk:Nat}{tp:Pos}(a g e:A2)(N:e≠g):PX P w K (.Tuple F kk tp) (Ite K a) [e,g] e (λi h=>(∃f,IsEnum h e g i f)/\h.IsListIter g a i) where
 mem:=by simp
 obj:=λi h st b hb=>by
  obtain⟨⟨f,y⟩,o,G,c,d⟩:=st;rcases A_.mp hb with rfl | hb
  .exact⟨_,y,λv z=>by cases z⟩
  .rw[AC.mp hb];exact⟨o,G,λv z=>by rw[d]at z;cases z⟩
 keep:=λi h h' st k=>⟨let⟨f,y⟩:=st.1;⟨f,k e (by simp) _ y⟩,st.2.at λo x=>k g (by simp) o x⟩
 item:=by
  intro X hP hw hK B i O s σ H E I D st hg;subst hP hw hK;obtain⟨xs,x,Z,hx⟩:=hg;obtain⟨j,rv,p,hz⟩:=I.list Z;obtain⟨u,hu,ru⟩:=rv.get hx;obtain⟨f0,f1,f2,f3,f4,f5⟩:=D e (by simp);obtain⟨g0,g1,g2,g3,g4,g5⟩:=D g (by simp);have J:a≠e:=λz=>by
   obtain⟨f,y⟩:=st.1;obtain⟨o,n,l,c,_⟩:=p;rw[z,y]at l;cases l;exact absurd c (by show ¬Value.type "enumerate" = Value.type "list";decide)
  have L:a≠g:=λz=>by
   obtain⟨o2,G,c2,d2⟩:=st.2;obtain⟨o,n,l,c,_⟩:=p;rw[z,G]at l;cases l;rw[c2]at c;exact absurd c (by decide)
  have hi:i<j.toArray.size:=by
   rw[BD];exact(AR.mp hu).1
  have W:=WalksT.enumerate (prog:=X.prog) (w:=X.w) (A:=X.A) (I.ok.hd B) e g a N J L j.toArray;refine W.item i s _ _ hi ⟨st.1,st.2,p.isList⟩ λT vals h' tk hv hT ht R k=>?_;obtain⟨t,x',S,rfl⟩:=hv;have:x'=u:=by
   have:j.toArray[i]?=some u:=by simpa using hu
   rw[this]at S;exact(CJ S).symm
  subst this;refine⟨.ref T,rfl,W.go F kk tp i T _ _ _ R λG U k2=>?_⟩;have hTn:H T=none:=I.hok.fresh hT;have V:T≠e:=λz=>W.apart i T h' R (by simp[z]);have Y:T≠g:=λz=>W.apart i T h' R (by simp[z]);have kk2:∀b o,b≠e->b≠g->s.heap.get? b=some o->G.get? b=some o:=λb o b1 b2 M=>k2 b o (by simp[b1,b2]) (k b o (by simp[b1,b2]) M);have hT2:G.IsTuple T #[.int i t,x']:=by
   obtain⟨o,l,r⟩:=ht;exact⟨o,k2 T o (by simp[V,Y]) l,r⟩
  refine⟨.ref T,HU H T (.tup [.int i,x]),I.turnLaid (fp:=[e,g]) (λb o hb M=>kk2 b o (λz=>hb (by simp[z])) (λz=>hb (by simp[z])) M) D (λb hb=>?_) hT ⟨?_,[.int i t,x'],.cons ⟨t,rfl⟩ (.cons ru .nil),hT2⟩,rfl,⟨T,x,rfl,hTn,rfl,λys hy=>by rw[I.list_inj hy Z];exact hx⟩,⟨U.1,U.2.1⟩,λb hb=>?_⟩
  .rcases A_.mp hb with rfl | hb
   .obtain⟨f,y⟩:=st.1;exact⟨_,y⟩
   .rw[AC.mp hb];obtain⟨o,y,_⟩:=st.2;exact⟨o,y⟩
  .show 2<=sizeLine;decide
  .rcases A_.mp hb with rfl | hb
   .rw[B8 (Ne.symm V)];exact f0
   .rw[AC.mp hb,B8 (Ne.symm Y)];exact g0
 done:=by
  intro X hP hw hK B i O s σ H E I D st hg;subst hP hw hK;obtain⟨xs,Z,hx⟩:=hg;obtain⟨j,rv,p,hz⟩:=I.list Z;obtain⟨f0,f1,f2,f3,f4,f5⟩:=D e (by simp);obtain⟨g0,g1,g2,g3,g4,g5⟩:=D g (by simp);have J:a≠e:=λz=>by
   obtain⟨f,y⟩:=st.1;obtain⟨o,n,l,c,_⟩:=p;rw[z,y]at l;cases l;exact absurd c (by show ¬Value.type "enumerate" = Value.type "list";decide)
  have L:a≠g:=λz=>by
   obtain⟨o2,G,c2,d2⟩:=st.2;obtain⟨o,n,l,c,_⟩:=p;rw[z,G]at l;cases l;rw[c2]at c;exact absurd c (by decide)
  have W:=WalksT.enumerate (prog:=X.prog) (w:=X.w) (A:=X.A) (I.ok.hd B) e g a N J L j.toArray;have hl:=rv.length;have hi:i=j.toArray.size:=by rw[BD];lia
  rw[hi]at st;refine W.done s _ _ ⟨st.1,st.2,p.isList⟩ λh' tk k=>⟨rfl,?_⟩;have I1:=I.step (h':=h') (H':=H) (t':=tk) (g':=s.gens) (d':=s.drawn) (ch:=[e,g]) (λb hb=>let⟨_,f1,_,f3,f4,f5⟩:=D b hb;⟨f3,f1,f4,f5⟩) (λb C _ _ B e _=>k b C B e) (λb C _ _ B e _=>⟨C.slots,k b C B e⟩) (λ_ _ _ _ n=>n)
   (λb C B e=>⟨C,k b C B e⟩) (λ_ _ e=>e) (λ_ _ _ e=>e) (λb ps e=>⟨#[],by rw[e];simp⟩) (λm R=>?_) (λb u M=>?_) I.bare
  .exact I1
  .obtain⟨C,es,ep,ho,r⟩:=R;exact⟨C,es,ep,k _ C (λhb=>(D _ hb).2.1 rfl) ho,r⟩
  .have nf:∀b u,H b=some u->b∉[e,g]:=λb u e hb=>by rw[(D b hb).1]at e;cases e
   refine(I.hok b u M).stay (λc v B q=>k c v ?_ q) (λ_ q=>q) λ_ _ q=>q;rcases B with z | z
   .rw[z];exact nf b u M
   .exact nf c _ z
 self:=λA i s Q E st h=>by
  obtain⟨f,he⟩:=st.1;exact wpAny_pyIter_enum he h
section
variable{X:Cx}{elts:A0 H_}{kk:Nat}{tp:Pos}
def zDo(K:PySem.W.Frag)(c:TA):TI:=λσ H R=>c σ H λd b=>∃a e,d = [.ref a]/\HY K b a e/\R (Ite K a) b
theorem Yl{a:H_}{g:TA}{p pos:Pos}(m:Gl X "enumerate")(n:X.mg "enumerate" = none)(o:bootBuiltins "enumerate" = some (.type "enumerate"))(r:PA X [a] g)(t:starEach [a] X.env = [(false,eval a X.env)]:=by rfl):PI X (.Tuple elts kk tp) (.Call (.Name "enumerate" p) [a] [] pos) (zDo X.K g):=by
 intro c s σ H R I h;refine Call_ (Bp I m n o (PyProof.Rows.callWith_type1 (IZ (r pos c s σ H _ I h) λF s1 ⟨G,i,d,v,w⟩=>?_) t rfl));obtain⟨l,J,e,x,q⟩:=w;subst e;obtain⟨u,rfl,y⟩:=U6 v;cases y;obtain⟨A,L,B,M⟩:=d.list x;refine call_enumerate_list B.isList λC j f D k=>wpAny_pyIter_enum j ?_;have E:Inv X c σ i { s1 with heap:=C }:=d.kept (t':=s1.toks) k;refine⟨s1.heap.objs.size+1,[s1.heap.objs.size+1,s1.heap.objs.size],_,_,i,rfl,E,Ug l s1.heap.objs.size (s1.heap.objs.size+1) (Nat.succ_ne_self _),⟨⟨_,j⟩,f⟩,λb hb=>?_,q⟩;rcases A_.mp hb with z | hb
 .rw[z];exact d.fpOk (CQ _) (d.hok.fresh (CQ _))
 .rw[AC.mp hb];exact d.fpOk (Nat.le_refl _) (d.hok.fresh (Nat.le_refl _))
end
end L2
namespace ST
open PySem
def stp(mask i:Nat):Nat:=(5*i+1) %(mask+1)
def S_(mask:Nat):Nat->Nat->Nat
 | 0,i=>i
 | t+1,i=>S_ mask t (stp mask i)
def orb(mask:Nat):Nat->Nat->A0 Nat
 | 0,_=>[]
 | n+1,i=>i::orb mask n (stp mask i)
def Jy(mask a b i:Nat):S_ mask (a+b) i=S_ mask b (S_ mask a i):=by
 induction a generalizing i with
 | zero=>rw[EH];rfl
 | succ a c=>rw[Nat.succ_add];exact c (stp mask i)
def Uh{mask j:Nat}:∀{n i:Nat},j∈orb mask n i->∃t,t<n/\S_ mask t i=j
 | 0,_,h=>by simp[orb]at h
 | n+1,i,h=>by
  rcases A_.mp h with rfl | h
  .exact⟨0,by lia,rfl⟩
  .obtain⟨t,b,a⟩:=Uh h;exact⟨t+1,by lia,a⟩
def TJ(mask:Nat):Prop:=mask=7\/mask=31\/mask=127\/mask=511
def SK(mask:Nat):Bool:=(List.range (mask+1)).all (λj=>(orb mask (mask+1) 0).contains j)&&S_ mask (mask+1) 0 == 0
def zFy:SK 7=true:=by decide +kernel
def zCm:SK 31=true:=by decide +kernel
def zAi:SK 127=true:=by decide +kernel
def zAg:SK 511=true:=by decide +kernel
def TJ.full{mask:Nat}(h:TJ mask):SK mask=true:=by
 rcases h with rfl | rfl | rfl | rfl
 .exact zFy
 .exact zCm
 .exact zAi
 .exact zAg
def cyc{mask:Nat}(h:TJ mask){i j:Nat}(hi:i<=mask)(l:j<=mask):∃t,t<=mask/\S_ mask t i=j:=by
 have f:=h.full;unfold ST.SK at f;rw[CF,DN]at f;obtain⟨m,d⟩:=f;have d:S_ mask (mask+1) 0=0:=by simpa using d
 have c:∀k,k<=mask->∃t,t<mask+1/\S_ mask t 0=k:=λk o=>Uh (by simpa using m k (CY.mpr (by lia)));obtain⟨a,p,e⟩:=c i hi;obtain⟨b,q,g⟩:=c j l;by_cases n:a<=b
 .refine⟨b-a,by lia,?_⟩;rw[<-e,<-Jy,show a +(b-a)=b by lia,g]
 .refine⟨mask+1-a+b,by lia,?_⟩;rw[<-e,<-Jy,show a +(mask+1-a+b) =(mask+1)+b by lia,Jy,d,g]
def RK(mask:Nat):Nat->Nat×Nat->Nat×Nat
 | 0,x=>x
 | t+1,x=>RK mask t (SetTable.leap mask x.1 x.2)
def Zu(mask a b:Nat)(x:Nat×Nat):RK mask (a+b) x=RK mask b (RK mask a x):=by
 induction a generalizing x with
 | zero=>rw[EH];rfl
 | succ a c=>rw[Nat.succ_add];exact c _
def Lh(mask:Nat):∀(t:Nat) (x:Nat×Nat),(RK mask t x).2=x.2 / 32^t
 | 0,x=>by simp[RK]
 | t+1,x=>by
  show(RK mask t (SetTable.leap mask x.1 x.2)).2=_;rw[Lh mask t];show x.2 / 32 / 32^t=_;rw[Nat.div_div_eq_div_mul,Nat.pow_succ,Nat.mul_comm]
def Xo(mask:Nat):∀(t:Nat) (x:Nat×Nat),x.1<=mask->(RK mask t x).1<=mask
 | 0,_,h=>h
 | t+1,x,_=>Xo mask t _ (Nat.lt_succ_iff.mp (Nat.mod_lt _ (Nat.succ_pos _)))
def Ly(mask:Nat):∀(t i:Nat),RK mask t (i,0) =(S_ mask t i,0)
 | 0,_=>rfl
 | t+1,i=>by
  show RK mask t ((i*5+1+0 / 32) %(mask+1),0 / 32)=_;rw[Nat.zero_div,Nat.add_zero,Ly mask t,Nat.mul_comm];rfl
def Sc{mask:Nat}(h:TJ mask){i j p:Nat}(hi:i<=mask)(a:j<=mask)(b:p<2^64):∃t,t<=mask+13/\(RK mask t (i,p)).1=j:=by
 have c:(RK mask 13 (i,p)).2=0:=by
  rw[Lh];exact Nat.div_eq_of_lt (BI b (by decide))
 obtain⟨t,e,d⟩:=cyc h (Xo mask 13 (i,p) hi) a;refine⟨13+t,by lia,?_⟩;rw[Zu];have:RK mask 13 (i,p) =((RK mask 13 (i,p)).1,0):=Prod.ext rfl c;rw[this,Ly];exact d
def NZ(t:IG):Nat->SetTable.Probe->SetTable.Probe
 | 0,p=>p
 | n+1,p=>NZ t n (t.advance p)
def Se(t:IG)(a b:Nat)(p:SetTable.Probe):NZ t (a+b) p=NZ t b (NZ t a p):=by
 induction a generalizing p with
 | zero=>rw[EH];rfl
 | succ a c=>rw[Nat.succ_add];exact c _
def Rb(t:IG):∀(m:Nat) (p:SetTable.Probe),p.more=m->∃a,NZ t (m+1) p=a/\a.i =(SetTable.leap t.mask p.i p.perturb).1/\a.perturb =(SetTable.leap t.mask p.i p.perturb).2/\a.j=a.i/\a.more=SetTable.runEnd t.mask a.i-a.i/\a.dummy=p.dummy
 | 0,p,h=>by
  have b:t.advance p ={ p with j:=(SetTable.leap t.mask p.i p.perturb).1,more:=SetTable.runEnd t.mask (SetTable.leap t.mask p.i p.perturb).1-(SetTable.leap t.mask p.i p.perturb).1,i:=(SetTable.leap t.mask p.i p.perturb).1,perturb:=(SetTable.leap t.mask p.i p.perturb).2 }:=by
   unfold SetTable.advance;rw[AS (by lia)]
  refine⟨t.advance p,rfl,?_⟩;rw[b];exact⟨rfl,rfl,rfl,rfl,rfl⟩
 | m+1,p,h=>by
  have b:t.advance p ={ p with j:=p.j+1,more:=p.more-1 }:=by unfold SetTable.advance;rw[AY (by lia)]
  obtain⟨a,d,c⟩:=Rb t m (t.advance p) (by rw[b];show p.more-1=m;lia);rw[b]at c;exact⟨a,d,c⟩
def zCf(mask i:Nat):SetTable.runEnd mask i-i<=9:=by unfold SetTable.runEnd;split<;>lia
def Qz(t:IG):∀(n:Nat) (p:SetTable.Probe),p.j=p.i->p.more=SetTable.runEnd t.mask p.i-p.i->∃k,k<=10*n/\(NZ t k p).j =(RK t.mask n (p.i,p.perturb)).1
 | 0,p,a,_=>⟨0,by lia,a⟩
 | n+1,p,a,l=>by
  obtain⟨b,e,c,d,f,g,_⟩:=Rb t p.more p rfl;obtain⟨k,m,h⟩:=Qz t n b f g;have:=zCf t.mask p.i;refine⟨p.more+1+k,by lia,?_⟩;rw[Se,e,h,c,d];rfl
def Gv(t:IG):∀(n:Nat) (p:SetTable.Probe),(NZ t n p).dummy=p.dummy
 | 0,_=>rfl
 | n+1,p=>by
  show(NZ t n (t.advance p)).dummy=_;rw[Gv t n];unfold SetTable.advance;split<;>rfl
def Ru{t:IG}(a:TJ t.mask)(h:Int){j:Nat}(b:j<=t.mask):∃n,n<10*SetTable.turns t.mask/\(NZ t n (t.probeStart h)).j=j:=by
 have c:SetTable.bits h<2^64:=by
  unfold SetTable.bits;have g:0<=h %(2^64:Int):=FW _ (by decide);have i:h %(2^64:Int)<2^64:=EW _ (by decide);lia
 have d:SetTable.bits h %(t.mask+1)<=t.mask:=Nat.lt_succ_iff.mp (Nat.mod_lt _ (Nat.succ_pos _));obtain⟨n,l,e⟩:=Sc a d b c;obtain⟨k,m,f⟩:=Qz t n (t.probeStart h) rfl rfl;refine⟨k,by unfold SetTable.turns;lia,f.trans e⟩
def y0{t:IG}(a:t.dummies = #[])(j:Nat):t.slot j = .empty\/∃i,t.slot j = .live i/\t.place[i]?=some j:=by
 unfold SetTable.slot;dsimp only;by_cases h:(t.place[SetTable.below t.place j]? == some j)=true
 .rw[AY h];exact .inr ⟨_,rfl,by simpa using h⟩
 .rw[AS h];have:SetTable.has t.dummies j=false:=by
   rw[a];unfold SetTable.has;simp
  rw[this];exact .inl rfl
def Oq{t:IG}(c:t.dummies = #[])(f:t.place.size<=t.mask):∃j,j<=t.mask/\t.slot j = .empty:=by
 by_cases h:∃j,j<=t.mask/\t.slot j = .empty
 .exact h
 .exfalso;have a:∀j∈List.range (t.mask+1),j∈t.place.toList:=λj d=>by
   have b:j<=t.mask:=by have:=CY.mp d;lia
   rcases y0 c j with e | ⟨i,_,e⟩
   .exact absurd ⟨j,b,e⟩ h
   .exact AM (by rw[BN];exact e)
  have:=(List.nodup_range (n:=t.mask+1)).length_le_of_subset a;rw[DW,AX]at this;lia
def Xr{t:IG}(o:t.dummies = #[])(hashAt:Nat->Int)(h:Int)(p:SetTable.Probe)(c:p.dummy=none):∀(k m n a:Nat),m+k=n->t.slot (NZ t n p).j = .empty->k<a ->
  (∃j,SetTable.probe.go t hashAt h a (NZ t m p)=some (.empty j none)/\t.slot j = .empty) \/
   ∃l i,m<=l/\l<n/\t.slot (NZ t l p).j = .live i/\hashAt i=h/\SetTable.probe.go t hashAt h a (NZ t m p)=some (.candidate (NZ t l p).j i (NZ t (l+1) p))
 | k,m,n,0,_,_,q=>absurd q (Nat.not_lt_zero _)
 | k,m,n,a+1,e,r,q=>by
  have d:(NZ t m p).dummy=none:=(Gv t m p).trans c;have s:NZ t (m+1) p=t.advance (NZ t m p):=Se t m 1 p;rcases y0 o (NZ t m p).j with b | ⟨i,b,A⟩
  .refine .inl ⟨(NZ t m p).j,?_,b⟩;unfold SetTable.probe.go;rw[b,d]
  .have B:k≠0:=by
    rintro rfl;have:m=n:=by lia
    subst this;rw[r]at b;cases b
   by_cases f:hashAt i=h
   .refine .inr ⟨m,i,Nat.le_refl _,by lia,b,f,?_⟩;unfold SetTable.probe.go;rw[b];dsimp only;rw[AY (by simpa using f),s]
   .have u:SetTable.probe.go t hashAt h (a+1) (NZ t m p)=SetTable.probe.go t hashAt h a (NZ t (m+1) p):=by
     conv=>lhs;unfold SetTable.probe.go
     rw[b];dsimp only;rw[AS (by simpa using f),s]
    rcases Xr o hashAt h p c (k-1) (m+1) n a (by lia) r (by lia)with⟨j,v,g⟩ | ⟨l,w,v,g,x,y,z⟩
    .exact .inl ⟨j,u.trans v,g⟩
    .exact .inr ⟨l,w,by lia,g,x,y,u.trans z⟩
def Fh{α β:Type}{f g:α->A6 β}:∀{l:A0 α},(∀x∈l,f x=g x)->l.filterMap f=l.filterMap g
 | [],_=>rfl
 | a::r,h=>by
  have b:=h a (AZ ..);have c:=Fh (l:=r) λx d=>h x (AQ _ d);rw[CU,CU,b,c]
def Xh{α:Type}{f g:Nat->A6 α}{j:Nat}{k:α}(d:g j=some k)(m:f j=none):∀{l:A0 Nat},l.Nodup->j∈l->(∀i,i≠j->g i=f i)->(l.filterMap g).Perm (k::l.filterMap f)
 | [],_,h,_=>by simp at h
 | i::r,o,h,a=>by
  obtain⟨p,q⟩:=B_.mp o;by_cases e:i=j
  .subst e;have s:r.filterMap g=r.filterMap f:=Fh λx t=>a x λz=>p (z▸t);rw[EJ d,GK m,s]
  .have n:=Xh d m q ((A_.mp h).resolve_left λz=>e z.symm) a;cases c:f i with
   | none=>rw[GK ((a i e).trans c),GK c];exact n
   | some b =>
    rw[EJ ((a i e).trans c),EJ c];exact(List.Perm.cons b n).trans (List.Perm.swap _ _ _)
def UR(mask:Nat)(a:HQ (A6 Nat)):A0 Nat:=(List.range (mask+1)).filterMap λj=>a.getD j none
structure LI(mask:Nat)(ow:HQ (A6 Nat))(k:Nat):Prop where
 sz:ow.size=mask+1
 pm:(UR mask ow).Perm (List.range k)
def To{mask:Nat}{b:HQ (A6 Nat)}{j:Nat}(c:b[j]?=some none):∀(t a i p:Nat),(RK mask t (i,p)).1=j->t<a->∃d,SetTable.layClean.free mask b a i p=some d/\b[d]?=some none
 | t,0,_,_,_,h=>absurd h (Nat.not_lt_zero _)
 | t,a+1,i,p,e,h=>by
  unfold SetTable.layClean.free;cases q:(List.range (SetTable.runEnd mask i+1-i)).find? λk=>(b.getD (i+k) (some 0)).isNone with
  | some k =>
   refine⟨i+k,rfl,?_⟩;have:=List.find?_some q;rw[CO]at this;cases g:b[i+k]? with
   | none=>rw[g]at this;simp at this
   | some z=>rw[g]at this;simp at this;rw[this]
  | none =>
   dsimp only;cases t with
   | zero =>
    exfalso;have f:i=j:=e;subst f;have l:0∈List.range (SetTable.runEnd mask i+1-i):=CY.mpr (by unfold SetTable.runEnd;split<;>lia);have:=GR.mp q 0 l;rw[CO,Nat.add_zero,c]at this;simp at this
   | succ t=>exact To c t a _ _ e (by lia)
def LI.room{mask:Nat}{a:HQ (A6 Nat)}{k:Nat}(h:LI mask a k)(p:k<=mask):∃j,j<=mask/\a[j]?=some none:=by
 by_cases q:∃j,j<=mask/\a[j]?=some none
 .exact q
 .exfalso;have b:∀j∈List.range (mask+1),∃v,a.getD j none=some v:=λj c=>by
   have g:j<a.size:=by rw[h.sz];exact CY.mp c
   cases e:a[j]? with
   | none=>rw[Array.getElem?_eq_none_iff]at e;lia
   | some v =>
    cases v with
    | none=>exact absurd ⟨j,by have:=CY.mp c;lia,e⟩ q
    | some v=>exact⟨v,by rw[CO,e];rfl⟩
  have i:∀l:A0 Nat,(∀j∈l,∃v,a.getD j none=some v)->(l.filterMap λj=>a.getD j none).length=l.length:=by
   intro l
   induction l with
   | nil=>intro _;rfl
   | cons j r m =>
    intro d;obtain⟨v,n⟩:=d j (AZ ..);rw[EJ (f:=λj=>a.getD j none) n,BK,BK,m λx o=>d x (AQ _ o)]
  have:=h.pm.length_eq;unfold UR at this;rw[i _ b,DW,DW]at this;lia
def LI.put{mask:Nat}{a:HQ (A6 Nat)}{k j:Nat}(h:LI mask a k)(c:a[j]?=some none):LI mask (a.setIfInBounds j (some k)) (k+1):=by
 have b:j<a.size:=by
  obtain⟨d,_⟩:=CK.mp c;exact d
 refine⟨by rw[GI];exact h.sz,?_⟩;have p:=Xh (f:=λj=>a.getD j none) (g:=λi=>(a.setIfInBounds j (some k)).getD i none) (j:=j) (k:=k) (by rw[CO,Array.getElem?_setIfInBounds_self_of_lt b];rfl) (by rw[CO,c];rfl)
  (l:=List.range (mask+1)) List.nodup_range (CY.mpr (by rw[<-h.sz];exact b)) λi m=>by
   rw[CO,Array.getElem?_setIfInBounds_ne (Ne.symm m),<-CO]
 have e:List.range (k+1)=List.range k ++ [k]:=List.range_succ;refine p.trans ?_;rw[e];exact(List.Perm.cons k h.pm).trans (CS (l₁:=[k]))
def zAn(h:Int):SetTable.bits h<2^64:=by
 unfold SetTable.bits;have a:0<=h %(2^64:Int):=FW _ (by decide);have b:h %(2^64:Int)<2^64:=EW _ (by decide);lia
def Xc{mask:Nat}(e:TJ mask):∀(c:A0 Int) (a:HQ (A6 Nat)) (k:Nat),LI mask a k->k+c.length<=mask->∃b,(c.foldl (init:=some (a,k)) λd h=>do
   let(owner,k) <-d
   let j <-SetTable.layClean.free mask owner (SetTable.turns mask) (SetTable.bits h %(mask+1)) (SetTable.bits h)
   pure (owner.setIfInBounds j (some k),k+1))=some (b,k+c.length)/\LI mask b (k+c.length)
 | [],a,k,h,_=>⟨a,rfl,h⟩
 | x::r,a,k,h,g=>by
  rw[BK]at g;obtain⟨j,l,m⟩:=h.room (by lia);obtain⟨t,u,n⟩:=Sc e (i:=SetTable.bits x %(mask+1)) (j:=j) (Nat.lt_succ_iff.mp (Nat.mod_lt _ (Nat.succ_pos _))) l (zAn x);obtain⟨f,o,p⟩:=To m t (SetTable.turns mask) _ _ n (by unfold SetTable.turns;lia);obtain⟨b,q,s⟩:=Xc e r (a.setIfInBounds f (some k)) (k+1) (h.put p) (by lia);refine⟨b,?_,by rw[BK,show k +(r.length+1)=k+1+r.length by lia];exact s⟩;rw[List.foldl_cons];show List.foldl _ ((SetTable.layClean.free mask a (SetTable.turns mask) (SetTable.bits x %(mask+1)) (SetTable.bits x)).bind λj=>some (a.setIfInBounds j (some k),k+1)) r=_;rw[o];show List.foldl _ (some (a.setIfInBounds f (some k),k+1)) r=_;rw[BK,show k +(r.length+1)=k+1+r.length by lia];exact q
def Zd{mask:Nat}(h:TJ mask)(finger moves:Nat)(led plain:Bool)(c:HQ Int)(l:c.size<=mask) :
  ∃place a,SetTable.laid mask finger moves led plain c=some ({ mask,place,dummies:=#[],finger,led,moves,plain },a)/\place.size=c.size/\a.toList.Perm (List.range c.size):=by
 have i:LI mask (Array.replicate (mask+1) none) 0:=by
  refine⟨Array.size_replicate,?_⟩;have:UR mask (Array.replicate (mask+1) none) = []:=by
   unfold UR;rw[List.filterMap_eq_nil_iff];intro j m;rw[CO,Array.getElem?_replicate];split<;>rfl
  rw[this];exact List.Perm.refl _
 obtain⟨b,e,d⟩:=Xc h c.toList _ 0 i (by rw[AX];lia);rw[EH,AX]at e d;have k:SetTable.layClean mask c=some b:=by
  unfold SetTable.layClean;rw[<-Array.foldl_toList,e];rfl
 have g:((List.range (mask+1)).filterMap λj=>(b.getD j none).map (j,·)).map (·.2)=UR mask b:=by
  unfold UR;rw[List.map_filterMap];refine Fh λj _=>?_;cases b.getD j none<;>rfl
 refine⟨(((List.range (mask+1)).filterMap λj=>(b.getD j none).map (j,·)).map (·.1)).toArray,(((List.range (mask+1)).filterMap λj=>(b.getD j none).map (j,·)).map (·.2)).toArray,?_,?_,?_⟩
 .unfold SetTable.laid;rw[k];rfl
 .rw[BD,AA,<-AA (f:=(·.2)),g,d.pm.length_eq,DW]
 .show(((List.range (mask+1)).filterMap λj=>(b.getD j none).map (j,·)).map (·.2)).Perm _;rw[g];exact d.pm
def Wj{c:HQ (Int×A1)}{b:HQ Nat}(h:b.toList.Perm (List.range c.size)):(b.filterMap (c[·]?)).toList.Perm c.toList:=by
 rw[Array.toList_filterMap];refine(h.filterMap _).trans (List.Perm.of_eq ?_);refine FD λt=>?_;have:(List.range c.size).filterMap (λx=>c[x]?)=c.toList:=by
  have:∀(l:A0 (Int×A1)),(List.range l.length).filterMap (λx=>l[x]?)=l:=by
   intro l
   induction l with
   | nil=>rfl
   | cons a r d =>
    rw[BK,List.range_succ_eq_map,EJ (by rfl:(a::r)[0]?=some a),List.filterMap_map];congr 1
  have q:=this c.toList;rw[AX]at q;simpa using q
 rw[this]
section
variable{prog:Cv}{w:HS}{K:Type}[DecidableEq K]{knd:KeyKind prog w K}{A:HZ}{E:A1->A5->Prop}{s:A5}
structure UC(t:IG)(n:Nat):Prop where
 dm:t.dummies = #[]
 pl:t.place.size=n
 mm:TJ t.mask
 rm:n*5<t.mask*3
theorem UC.fits{t:IG}{n:Nat}(h:UC t n):t.fits n=true:=by
 have:=h.rm;have:=h.pl;unfold SetTable.fits SetTable.fill;rw[h.dm];simp;lia
theorem UC.odd{t:IG}{n:Nat}(h:UC t n):t.gaveWay=false:=by
 unfold SetTable.gaveWay;rcases h.mm with e | e | e | e<;>rw[e]<;>rfl
def UM(knd:KeyKind prog w K)(a:HQ (Int×A1))(b:A0 (A0 K×A2)):Prop:=a.toList.Perm (b.map λq=>((tupleKind knd).hash q.1,Value.ref q.2))
def NJ(knd:KeyKind prog w K)(h:HX)(a:A2)(c:A0 (A0 K×A2)):Prop:=∃o b d t,h.get? a=some o/\o.ExactSet/\o.data = .set b d t/\UM knd b c/\UC t b.size
theorem UM.get{a:HQ (Int×A1)}{b:A0 (A0 K×A2)}(h:UM knd a b){i:Nat}{e:Int×A1}(c:a[i]?=some e):∃k p,(k,p)∈b/\e =((tupleKind knd).hash k,.ref p):=by
 have:e∈a.toList:=AM (by rw[BN];exact c);obtain⟨q,d,rfl⟩:=AI.mp (h.mem_iff.mp this);exact⟨q.1,q.2,d,rfl⟩
theorem Bb{β:Type}{c:β}{f:A1->β->Sem (ForInStep β)}:∀{l:A0 A1},(∀y∈l,f y c=pure (.yield c))->forIn l c f=pure c
 | [],_=>List.forIn_nil
 | a::r,h=>by
  rw[List.forIn_cons,h a (AZ ..),pure_bind];exact Bb λy b=>h y (AQ _ b)
theorem Im{a:A0 K}{vs:A0 A1}(h:ItemsAre knd a vs):∀v∈vs,∃x,knd.is x v=true:=by
 induction h with
 | nil=>intro v hv;simp at hv
 | cons b _ c =>
  intro v hv;rcases A_.mp hv with rfl | hv
  .exact⟨_,b⟩
  .exact c v hv
def Flat(knd:KeyKind prog w K):Prop:=∀v,(∃x,knd.is x v=true)->carriedByValue v=true
theorem Flat.no{v:A1}(a:Flat knd)(h:∃x,knd.is x v=true)(d:Nat):ofAClassStatement d v=pure false:=by
 have:=a v h;cases v<;>first
  | (cases d<;>rfl)
  | (exact absurd this (by intro z;cases z))
theorem Xv{k:A0 K}{p:A2}{Q:Bool->A5->Prop}(c:Flat knd)(d:(tupleKind knd).is s.heap k p)(h:Q false s):wpAny (model prog w) A (ofAClassStatement 8 (.ref p)) Q E s:=by
 obtain⟨o,a,n,b,e,f,g⟩:=d;have i:s.TypeIs (.ref p) "tuple":=⟨o,b,e⟩;unfold ofAClassStatement;refine AB (GB i ?_);dsimp only;rw[AY (by rfl)];refine AB (AE ?_);simp only[EI,BE,CN];refine AB (FI b f ?_);dsimp only;rw[<-Array.forIn_toList,Bb λy j=>by rw[c.no (Im g y j)];rfl];exact AB (AE (AE h))
theorem zCy{m:A0 K}{b:A2}{Q:Bool->A5->Prop}(g:Flat knd)(i:(tupleKind knd).is s.heap m b)(h:Q false s){l:A0 A1}(n:∀v∈l,∃k p,v = .ref p/\(tupleKind knd).is s.heap k p) :
  wpAny (model prog w) A (searchCouldBeSeen (.ref b) l) Q E s:=by
 unfold searchCouldBeSeen;refine AB (wpAny_forIn_list _ (λa c d=>d=s/\c =(none,())/\∀v∈a,v∈l) _ ?_ ?_ l _ ⟨rfl,rfl,λ_ h=>h⟩)
 .rintro v a c d ⟨rfl,rfl,e⟩;obtain⟨k,p,rfl,j⟩:=n v (e v (AZ ..));dsimp only;have o:carriedByValue (Value.ref b)=false:=rfl;rw[o,EV,Bool.or_false];split
  .exact AE ⟨rfl,rfl,λu f=>e u (AQ _ f)⟩
  .refine AB ((tupleKind knd).quiet i ?_);simp only[EI,BE,CN];refine AB ((tupleKind knd).quiet j ?_);simp only[EI,BE,CN];refine AB (Xv g i ?_);simp only[BE,CN];refine AB (Xv g j ?_);simp only[BE,CN];exact AE ⟨rfl,rfl,λu f=>e u (AQ _ f)⟩
 .rintro c d ⟨rfl,rfl,_⟩;exact AE h
theorem Vt(t:IG):t.sameMemory t.moves t.mask=some true:=by
 unfold SetTable.sameMemory;simp
theorem Kp{a:A2}{o:Obj}{r:HQ (Int×A1)}{ep:Nat}{t:IG}{M:A0 (A0 K×A2)}{d:A0 K}{G:A2}{c:Bool}{Q:SetFound->A5->Prop}{n:Nat}
  (hr:(tupleKind knd).room A) (hF:Flat knd) (V:s.heap.get? a=some o) (W:o.data = .set r ep t) (X:UM knd r M) (D:UC t r.size)
  (H:∀q∈M,(tupleKind knd).is s.heap q.1 q.2) (Y:(tupleKind knd).is s.heap d G) (N:∀q∈M,q.1≠d) (hn:n<10*SetTable.turns t.mask)
  (he:t.slot (NZ t n (t.probeStart ((tupleKind knd).hash d))).j = .empty) (h:∀j,t.slot j = .empty->Q (.free j false) s) :
  ∀(k m b:Nat) (e:A6 SetTable.Probe),e.getD (t.probeStart ((tupleKind knd).hash d))=NZ t m (t.probeStart ((tupleKind knd).hash d))->m+k=n->k<b ->
   wpAny (model prog w) A (setSearchFrom a (.ref G) ((tupleKind knd).hash d) c b e) Q E s:=by
 intro k
 induction k using Nat.strongRecOn with
 | _ k ih =>
  intro m b e O P hf;cases b with
  | zero=>lia
  | succ b =>
   unfold setSearchFrom;refine AB (CH V W D.fits ?_);dsimp only;rw[D.odd];simp only[BE,CN];rw[O];unfold SetTable.probe;rcases Xr D.dm _ ((tupleKind knd).hash d) (t.probeStart ((tupleKind knd).hash d)) rfl k m n (10*SetTable.turns t.mask) P he (by lia)with⟨j,F,Z⟩ | ⟨l,i,h1,h2,F,Z,e3⟩
   .rw[F];dsimp only;exact AE (h j Z)
   .rw[e3];dsimp only;obtain⟨u,I,R⟩:∃u,t.slot (NZ t l (t.probeStart ((tupleKind knd).hash d))).j = .live u/\t.place[u]?=some (NZ t l (t.probeStart ((tupleKind knd).hash d))).j:=by
     rcases y0 D.dm (NZ t l (t.probeStart ((tupleKind knd).hash d))).j with z | z
     .rw[z]at F;cases F
     .exact z
    rw[F]at I;cases I;have S:i<r.size:=by
     have:=(CK.mp R).1;rw[D.pl]at this;exact this
    obtain⟨J,f⟩:∃J,r[i]?=some J:=⟨r[i],CK.mpr ⟨S,rfl⟩⟩;obtain⟨k',p',L,rfl⟩:=X.get f;have B:∀v∈(r.filter (·.1 ==(tupleKind knd).hash d)).toList.map (·.2),∃k p,v = .ref p/\(tupleKind knd).is s.heap k p:=by
     intro v hv;obtain⟨z,hz,rfl⟩:=AI.mp hv;have T:z∈r.toList:=by
      rw[Array.toList_filter]at hz;exact(BV.mp hz).1
     obtain⟨q,hq,rfl⟩:=AI.mp (X.mem_iff.mp T);exact⟨q.1,q.2,rfl,H q hq⟩
    have x:wpAny (model prog w) A (do
      let some (_,y):=r[i]? | unsupported "internal:set-entry"
      let g <-holding [y] (eqBool y (.ref G))
      let(U,_,t') <-setState a
      if c&&g then return .there none
      let some same:=t'.sameMemory t.moves t.mask | unsupported "set.changed-during-lookup:is-the-new-block-at-the-old-address"
      let C <-match(if same then t'.slot (NZ t l (t.probeStart ((tupleKind knd).hash d))).j else .empty)with
       | .live u=>match U[u]? with
        | some (_,y')=>do pure (if <-isSame y' y then some u else none)
        | none=>pure none
       | _=>pure none
      match C with
      | none=>rule "set.search.anew";setSearchFrom a (.ref G) ((tupleKind knd).hash d) c b none
      | some u=>if g then return .there (some u)else setSearchFrom a (.ref G) ((tupleKind knd).hash d) c b (some (NZ t (l+1) (t.probeStart ((tupleKind knd).hash d))))) Q E s:=by
     rw[f];dsimp only;refine AB (BW ((tupleKind knd).eqBool hr (H _ L) Y ?_));rw[BB (N _ L)];refine AB (CH V W D.fits ?_);dsimp only;rw[Vt,Bool.and_false];simp only[BE,CN,EG];rw[F];dsimp only;rw[f];dsimp only;refine AB (wpAny_isSame_ref_self (AB (AE ?_)));simp only[EG];exact ih (n-(l+1)) (by lia) (l+1) b _ rfl (by lia) (by lia)
    cases hled:t.led with
    | true =>
     simp only[EI,BE,CN];exact x
    | false =>
     simp only[GY,EG];refine AB (zCy hF Y ?_ B);simp only[BE,CN];exact x
theorem Br{a:A2}{o:Obj}{f:HQ (Int×A1)}{m:Nat}{t:IG}{g:A0 (A0 K×A2)}{d:A0 K}{l:A2}{b:Bool}{Q:SetFound->A5->Prop}
  (p:(tupleKind knd).room A) (r:Flat knd) (u:s.heap.get? a=some o) (v:o.data = .set f m t) (x:UM knd f g) (c:UC t f.size)
  (i:∀q∈g,(tupleKind knd).is s.heap q.1 q.2) (y:(tupleKind knd).is s.heap d l) (k:∀q∈g,q.1≠d) (h:∀j,t.slot j = .empty->Q (.free j false) s) :
  wpAny (model prog w) A (setSearch a (.ref l) ((tupleKind knd).hash d) b) Q E s:=by
 obtain⟨j,z,B⟩:=Oq c.dm (by rw[c.pl];have:=c.rm;lia);obtain⟨n,C,e⟩:=Ru c.mm ((tupleKind knd).hash d) z;unfold setSearch;refine Kp p r u v x c i y k C (by rw[e];exact B) h n 0 100000 none rfl (by lia) ?_;have:SetTable.turns t.mask<=526:=by
  unfold SetTable.turns;rcases c.mm with e | e | e | e<;>lia
 lia
theorem NJ.typeIs{a:A2}{b:A0 (A0 K×A2)}(h:NJ knd s.heap a b):s.TypeIs (.ref a) "set":=let⟨o,_,_,_,c,d,_⟩:=h;⟨o,c,d.1⟩
theorem Rq{a:A2}{b:HQ (Int×A1)}:byScan (.ref a) b=false:=rfl
theorem Su{a:A2}{b:A0 (A0 K×A2)}{c:A0 K}{f:A2}{Q:A6 Nat->A5->Prop}(l:(tupleKind knd).room A)(m:Flat knd)(n:NJ knd s.heap a b)
  (d:∀q∈b,(tupleKind knd).is s.heap q.1 q.2) (p:(tupleKind knd).is s.heap c f) (e:∀q∈b,q.1≠c) (h:Q none s):wpAny (model prog w) A (setFind a (.ref f) ((tupleKind knd).hash c)) Q E s:=by
 obtain⟨o,u,v,t,g,_,i,r,k⟩:=n;unfold setFind setFindIn;refine AB (CH g i k.fits ?_);dsimp only;rw[Rq];simp only[BE,CN];refine AB (Br l m g i r k d p e λj _=>?_);dsimp only;exact AE h
theorem TQ{neg:Bool}{a:A2}{d:A0 (A0 K×A2)}{b:A0 K}{e:A2}{Q:A1->A5->Prop}(i:A.units+1<cLine)(k:Flat knd)(c:NJ knd s.heap a d)
  (f:∀q∈d,(tupleKind knd).is s.heap q.1 q.2) (j:(tupleKind knd).is s.heap b e) (g:∀q∈d,q.1≠b) (h:Q (.bool false) { s with toks:=s.toks +(tupleKind knd).draws b }) :
  wpAny (model prog w) A (compareOp .In (.ref e) (.ref a)) Q E s:=by
 show wpAny _ _ (do return .bool (<-contains (.ref a) (.ref e))) Q E s;refine AB ?_;unfold contains
 try with_reducible refine BW ?_
 refine AB (wpAny_specialOf c.typeIs F.slot_set_contains.lookup ?_);show wpAny _ _ (if(some (Value.builtin "set.__contains__") == some Value.none)=true then _ else _) _ E s;rw[AS (by rw[beq_builtin_none];exact BA)];refine AB (wpAny_callSpecialUnlessNone?_slot (name:=Str.ofString "__contains__") c.typeIs F.slot_set_contains
  (DM F.slot_set_contains c.typeIs entry_set_contains ?_ (F.args_set_contains_2 _ _)))
 unfold Builtin.«frozenset.__contains__» Builtin.Frozenset.oneOther;simp only[List.isEmpty_nil,bind_assoc];unfold Builtin.Frozenset.addrOf Builtin.Frozenset.withSetAsKey setContains;refine AB (AE ?_)
 try dsimp only
 refine AB (AE ?_)
 try dsimp only
 refine AB (FJ ?_);refine BW ?_;refine AB ((tupleKind knd).pyHash ?hroom j ?_)
 case hroom=>exact i
 refine AB (Su (s:={ s with toks:=s.toks +(tupleKind knd).draws b }) ?hroom k c f j g ?_)
 case hroom=>exact i
 refine AE ?_;show wpAny _ _ (ret (Value.bool false)) _ _ _;exact AE ⟨_,rfl,CL (AE h)⟩
def TU(knd:KeyKind prog w K):Prop:=∀v,(∃x,knd.is x v=true)->v.scannable=true
theorem hbv{j:A0 K}{f:A2}{Q:Bool->A5->Prop}(k:TU knd)(l:(tupleKind knd).is s.heap j f)(h:∀b,Q b s):wpAny (model prog w) A (hashByValue 8 (.ref f)) Q E s:=by
 obtain⟨o,d,n,g,m,p,r⟩:=l;have t:s.TypeIs (.ref f) "tuple":=⟨o,g,m⟩;unfold hashByValue;refine AB (wpAny_specialOf t F.slot_tuple_hash.lookup ?_);dsimp only;refine AB (FI g p ?_);dsimp only[Option.getD_some];rw[<-Array.forIn_toList];refine AB (CA (wpAny_forIn_list _ (λa c e=>e=s/\c =(none,())/\∀v∈a,v∈d.toList) (λc e=>e=s/\(c =(none,())\/c =(some false,()))) ?_ ?_ _ _ ⟨rfl,rfl,λ_ z=>z⟩) ?_ λ_ _ q=>q)
 .rintro v a c e ⟨rfl,rfl,i⟩;rw[hashByValue_scannable _ (k v (Im r v (i v (AZ ..))))];refine AB (AE ?_);cases plainKind v with
  | true =>
   simp only[EI,BE,CN];exact AE ⟨rfl,rfl,λu x=>i u (AQ _ x)⟩
  | false =>
   simp only[GY,EG];exact AE ⟨rfl,.inr rfl⟩
 .rintro c e ⟨rfl,rfl,_⟩;exact⟨rfl,.inl rfl⟩
 .rintro c e ⟨rfl,rfl | rfl⟩
  .exact AE (h _)
  .exact AE (h _)
theorem i8{α:Type}(xs:HQ α)(p:Nat)(x:α)(a:p<=xs.size):(SetTable.insertAt xs p x).size=xs.size+1:=by
 unfold SetTable.insertAt;rw[Array.size_append,Array.size_push,FP,FP];lia
theorem Fe{α:Type}(xs:HQ α)(p:Nat)(x:α)(b:p<=xs.size):(SetTable.insertAt xs p x).toList.Perm (xs.toList ++ [x]):=by
 unfold SetTable.insertAt;rw[BT,DA,EL,EL];simp only[EC,DR,Nat.sub_zero];have e:List.take (xs.size-p) (List.drop p xs.toList)=List.drop p xs.toList:=by
  rw[CT];rw[CI,AX];lia
 rw[e];have a:xs.toList=xs.toList.take p++xs.toList.drop p:=(BZ ..).symm
 conv=>rhs;rw[a]
 rw[BF,BF];exact DF _ CS
theorem Z0(xs:HQ Nat)(j:Nat):∀(f lo hi:Nat),lo<=hi->SetTable.below.go xs j f lo hi<=hi
 | 0,lo,hi,h=>h
 | f+1,lo,hi,h=>by
  unfold SetTable.below.go;split
  .rename_i a;dsimp only;split
   .exact Z0 xs j f _ _ (by lia)
   .exact Nat.le_trans (Z0 xs j f _ _ (by lia)) (by lia)
  .exact h
theorem Wl(xs:HQ Nat)(j:Nat):SetTable.below xs j<=xs.size:=Z0 xs j _ _ _ (BR _)
theorem zDn{t:IG}(a:t.dummies = #[])(j:Nat):t.put j =({ t with place:=SetTable.insertAt t.place (SetTable.below t.place j) j },SetTable.below t.place j):=by
 unfold SetTable.put;have:SetTable.has t.dummies j=false:=by
  rw[a];unfold SetTable.has;simp
 rw[this];rfl
theorem zGy:SetTable.sizeAbove 20=32:=by decide
theorem zHv:SetTable.sizeAbove 76=128:=by decide
theorem zEp:SetTable.sizeAbove 308=512:=by decide
theorem Wd{f:HQ (Int×A1)->A6 (IG×HQ Nat)->Sem (HQ (Int×A1)×IG)}(y:∀c g,f c g =(do
  let some (t,b):=g | unsupported "internal:set-table-without-room"
  let d:=b.filterMap (c[·]?)
  if d.size != c.size then unsupported "internal:set-table-lost-an-element"
  pure (d,t)))
  {a:A2} {o:Obj} {c:HQ (Int×A1)} {z:Nat} {t:IG} {n m:Nat} {Q:Unit->A5->Prop} (q:s.heap.get? a=some o) (r:o.data = .set c z t) (B:t.dummies = #[]) (j:t.fits c.size=true)
  (l:SetTable.sizeAbove n=m+1) (i:TJ m) (hsz:c.size*5<m*3)
  (h:∀(d:HQ (Int×A1)) (t':IG),d.toList.Perm c.toList->UC t' d.size->Q () { s with heap:=s.heap.update a (Obj.putSet d t') }) :
  wpAny (model prog w) A (do
   let(c,_,t) <-setState a
   if SetTable.sizeAbove n>sizeLine then unsupported "set:memory"
   let(c,t) <-f c (t.relaid (c.map (·.1)) n)
   storeSet a c t) Q E s:=by
 refine AB (CH q r j ?_);dsimp only;have p:m<=511:=by rcases i with e | e | e | e<;>lia
 rw[l,AS (by rw[sizeLine_eq];lia)];rw[y];have C:(c.map (·.1)).size<=m:=by rw[GV];lia
 obtain⟨place,b,u,D,v⟩:=Zd i t.finger (t.movedTo (SetTable.sizeAbove n-1)) t.led t.plain (c.map (·.1)) C;have F:t.relaid (c.map (·.1)) n=some ({ mask:=m,place,dummies:=#[],finger:=t.finger,led:=t.led,moves:=t.movedTo (SetTable.sizeAbove n-1),plain:=t.plain },b):=by
  unfold SetTable.relaid;rw[l];rw[l]at u;exact u
 rw[F];dsimp only;have x:(b.filterMap (c[·]?)).toList.Perm c.toList:=Wj (by rw[GV]at v;exact v);have k:(b.filterMap (c[·]?)).size=c.size:=by rw[<-AX,x.length_eq,AX]
 rw[AS (by rw[k];simp)];refine AB (AE ?_);dsimp only;refine G_ q r (h _ _ x ⟨rfl,?_,i,?_⟩) (by rw[k,sizeLine_eq];lia)
 .rw[k,D,GV]
 .rw[k];exact hsz
theorem Fj{h:HX}{a:A2}{o:Obj}{e:HQ (Int×A1)}{c:Nat}{t:IG}(f:h.get? a=some o)(d:o.data = .set e c t)(b:HQ (Int×A1))(t':IG) :
  (h.update a (Obj.putSet b t')).get? a=some { o with data:=.set b (c+1) t' }:=by
 have:=CC (Obj.putSet b t') f (by rw[putSet_of b t' d];rfl);rw[putSet_of b t' d]at this;exact this
theorem Op{a:A2}{p:A0 (A0 K×A2)}{g:A0 K}{l:A2}{Q:Bool->A5->Prop}(W:(tupleKind knd).room A)(X:Flat knd)(Y:TU knd)(Z:NJ knd s.heap a p)
  (J:∀q∈p,(tupleKind knd).is s.heap q.1 q.2) (T:(tupleKind knd).is s.heap g l) (L:∀q∈p,q.1≠g) (hl:p.length+1<=300)
  (h:∀h',Heap.SameBut a s.heap h'->NJ knd h' a (p ++ [(g,l)])->Q true { s with heap:=h' }) :
  wpAny (model prog w) A (setAddHashed a (.ref l) ((tupleKind knd).hash g)) Q E s:=by
 obtain⟨o,c,ep,t,z,B,C,M,i⟩:=Z;have hsz:c.size=p.length:=by
  have:=M.length_eq;rw[AX,AA]at this;exact this
 unfold setAddHashed setAddHashedIn;refine BW ?_;refine AB (CH z C i.fits ?_);dsimp only;rw[Rq];simp only[BE,CN];refine AB (Br W X z C M i J T L λj hj=>?_);dsimp only;refine AB (CH z C i.fits ?_);dsimp only;rw[zDn i.dm];dsimp only;have N:=Wl t.place j;have D:SetTable.below t.place j<=c.size:=by rw[i.pl]at N;exact N
 have hrm:=i.rm;have r:=i.mm;have d:=i8 c (SetTable.below t.place j) ((tupleKind knd).hash g,Value.ref l) D;have O:=Fe c (SetTable.below t.place j) ((tupleKind knd).hash g,Value.ref l) D;have F:∀f:HQ (Int×A1),f.toList.Perm (SetTable.insertAt c (SetTable.below t.place j) ((tupleKind knd).hash g,Value.ref l)).toList->UM knd f (p ++ [(g,l)]):=λf P=>by
  unfold UM;rw[AF];exact P.trans (O.trans (M.append_right _))
 have u:∀n:IG,n.dummies = #[]->n.mask=t.mask->n.place.size=c.size+1->wpAny (model prog w) A (do
   storeSet a (SetTable.insertAt c (SetTable.below t.place j) ((tupleKind knd).hash g,Value.ref l)) n
   if(!false&&n.tooFull)=true then do
    setRelay a (SetTable.grown (c.size+1))
    pure true
   else pure true) Q E s:=by
  intro n H I R;refine AB (G_ z C ?_ (by rw[d,sizeLine_eq];lia));have v:=Fj z C (SetTable.insertAt c (SetTable.below t.place j) ((tupleKind knd).hash g,Value.ref l)) n;have G:=DZ s.heap a (Obj.putSet (SetTable.insertAt c (SetTable.below t.place j) ((tupleKind knd).hash g,Value.ref l)) n);have S:n.tooFull=decide ((c.size+1)*5 ≥ t.mask*3):=by
   unfold SetTable.tooFull SetTable.fill;rw[H,I,R];rfl
  rw[S,GY,Bool.true_and];by_cases k:(c.size+1)*5 ≥ t.mask*3
  .rw[AJ k,AY rfl];have x:∃m,SetTable.sizeAbove (SetTable.grown (c.size+1))=m+1/\TJ m/\(c.size+1)*5<m*3:=by
    have hg:SetTable.grown (c.size+1) =(c.size+1)*4:=by
     unfold SetTable.grown;rw[AS (by lia)]
    rw[hg];rcases r with e | e | e | e
    .have:c.size+1=5:=by lia
     rw[this];exact⟨31,zGy,.inr (.inl rfl),by decide⟩
    .have:c.size+1=19:=by lia
     rw[this];exact⟨127,zHv,.inr (.inr (.inl rfl)),by decide⟩
    .have:c.size+1=77:=by lia
     rw[this];exact⟨511,zEp,.inr (.inr (.inr rfl)),by decide⟩
    .lia
   obtain⟨m,c1,c2,c3⟩:=x;refine AB ?_;unfold setRelay;refine Wd (λ_ _=>rfl) (s:={ s with heap:=_ }) v rfl H ?_ c1 c2 (by rw[d];exact c3) λf U P ht=>?_
   .unfold SetTable.fits SetTable.fill;rw[d,R,H,I];have V:c.size+1+0<=t.mask:=by rcases r with e | e | e | e<;>lia
    simp;lia
   .refine AE (h _ (G.trans (DZ _ a _)) ?_);exact⟨_,f,_,U,Fj v rfl f U,B,rfl,F f P,ht⟩
  .rw[BB k,AS (by decide)];refine AE (h _ G ⟨_,_,_,n,v,B,rfl,F _ (.refl _),⟨H,?_,?_,?_⟩⟩)
   .rw[R,d]
   .rw[I];exact r
   .rw[I,d];lia
 have y:(SetTable.insertAt t.place (SetTable.below t.place j) j).size=c.size+1:=by rw[i8 _ _ _ N,i.pl]
 cases hpl:t.plain with
 | true =>
  simp only[EG];refine AB (hbv Y T λb=>?_);cases b with
  | true =>
   simp only[EG];exact u _ i.dm rfl y
  | false =>
   simp only[BE,CN];exact u _ i.dm rfl y
 | false =>
  simp only[BE,CN];refine AB (AE ?_);simp only[EG];exact u _ i.dm rfl y
theorem SV{a:A2}{b:A0 (A0 K×A2)}{c:A0 K}{d:A2}{Q:A1->A5->Prop}(j:A.units+1<cLine)(m:Flat knd)(n:TU knd)(k:NJ knd s.heap a b)
  (e:∀q∈b,(tupleKind knd).is s.heap q.1 q.2) (l:(tupleKind knd).is s.heap c d) (f:∀q∈b,q.1≠c) (o:b.length+1<=300)
  (h:∀h',Heap.SameBut a s.heap h'->NJ knd h' a (b ++ [(c,d)])->Q .none { s with heap:=h',toks:=s.toks +(tupleKind knd).draws c }) :
  wpAny (model prog w) A (call (.builtin "set.add") [.ref a,.ref d]) Q E s:=by
 refine DM F.slot_set_add k.typeIs F.entry_set_add ?_ (F.args_set_add_2 _ _);unfold Builtin.«set.add» Builtin.Frozenset.oneOther;simp only[List.isEmpty_nil,bind_assoc];unfold Builtin.Frozenset.addrOf setAdd;refine AB (AE ?_)
 try dsimp only
 refine AB (AE ?_)
 try dsimp only
 refine AB ?_;refine BW ?_;refine AB ((tupleKind knd).pyHash ?hroom l ?_)
 case hroom=>exact j
 refine Op (s:={ s with toks:=s.toks +(tupleKind knd).draws c }) ?hroom m n k e l f o λh' g i=>?_
 case hroom=>exact j
 show wpAny _ _ (ret Value.none) _ _ _;exact AE ⟨_,rfl,h h' g i⟩
end
def Lb:Manifest.owners.lookup (String.ofList ['r','o','t','a','r','e','t','i','_','t','e','s'].reverse)=some Manifest.sig_set_iterator:=by kernel_rfl
def JN:Slot "set_iterator" "__next__" "set_iterator.__next__" :=
 .of (owner := "set_iterator") (n := "__next__") (by rw[typeLookup_type,builtinLookup_eq_fast];kernel_rfl) (by decide +kernel) (by decide +kernel) (by decide +kernel) (by first | exact .inl (by decide +kernel) | exact .inr (by decide +kernel)) (by rw[isSubtype_type];kernel_rfl)
def l9:entryFor table "set_iterator.__next__" = some Builtin.«set_iterator.__next__»:=entryFor_of_tree (by kernel_rfl)
def y7(a:A1):argsOk "set_iterator.__next__" ⟨[a],[]⟩:=by
 unfold argsOk;rw[signature?_of (id := "set_iterator.__next__") (n:=['_','_','t','x','e','n','_','_']) (o:=['r','o','t','a','r','e','t','i','_','t','e','s']) (by kernel_rfl) Lb];kernel_rfl
def Ab:Slot "set_iterator" "__iter__" "set_iterator.__iter__" :=
 .of (owner := "set_iterator") (n := "__iter__") (by rw[typeLookup_type,builtinLookup_eq_fast];kernel_rfl) (by decide +kernel) (by decide +kernel) (by decide +kernel) (by first | exact .inl (by decide +kernel) | exact .inr (by decide +kernel)) (by rw[isSubtype_type];kernel_rfl)
def Hx(a:A1):argsOk "set_iterator.__iter__" ⟨[a],[]⟩:=by
 unfold argsOk;rw[signature?_of (id := "set_iterator.__iter__") (n:=['_','_','r','e','t','i','_','_']) (o:=['r','o','t','a','r','e','t','i','_','t','e','s']) (by kernel_rfl) Lb];kernel_rfl
def Fm:entryFor table "set_iterator.__iter__" = some Builtin.«dict_keyiterator.__iter__» :=
 entryFor_alias (id' := "dict_keyiterator.__iter__") (by kernel_rfl) (by first | rfl | decide +kernel | (unfold String.splitOn;simp +decide [String.splitOnAux])) (by decide +kernel) (by kernel_rfl)
def Hv:entryFor table "set.__iter__" = some Builtin.«frozenset.__iter__» :=
 entryFor_alias (id' := "frozenset.__iter__") (by kernel_rfl) rfl (by decide +kernel) (by kernel_rfl)
def zFw:typeLookup (.type "set") "__len__" = pure (some (.builtin "set.__len__")):=by rw[typeLookup_type,builtinLookup_eq_fast];kernel_rfl
section
variable{prog:Cv}{w:HS}{A:HZ}{E:A1->A5->Prop}{s:A5}
theorem Rg{n:Nat}{Q:Nat->A5->Prop}(a:n≠0)(h:∀i d,i<n->Q i { s with drawn:=d }):wpAny (model prog w) A (choose .order n) Q E s:=λΓ p hΓ=>by
 unfold choose;rw[Sem.wp_choose];exact⟨a,h _ _ (Nat.mod_lt _ (Nat.pos_of_ne_zero a))⟩
theorem JZ{α:Type}:∀{l:A0 α} {i:Nat} {x:α},l[i]?=some x->(x::l.eraseIdx i).Perm l
 | [],i,x,h=>by simp at h
 | y::l,0,x,h=>by
  have:y=x:=by simpa using h
  subst this;exact .refl _
 | y::l,i+1,x,h=>by
  have a:l[i]?=some x:=by simpa using h
  exact(List.Perm.swap y x _).trans ((JZ a).cons y)
theorem Ih{α:Type}{l:A0 α}{i:Nat}{x:α}(h:l[i]?=some x):(l.eraseIdx i).length+1=l.length:=(JZ h).length_eq
theorem Pg{α:Type}:∀(n:Nat) (l:A0 α) (s:A5) (Q:A0 α->A5->Prop),l.length=n->(∀b d,b.Perm l->Q b { s with drawn:=d })->wpAny (model prog w) A (drawOrder n l) Q E s
 | 0,l,s,Q,a,h=>by
  unfold drawOrder;obtain rfl:=EQ.mp a;exact AE (h [] s.drawn (.refl _))
 | n+1,[],s,Q,a,h=>by simp at a
 | n+1,x::f,s,Q,a,h=>by
  unfold drawOrder;refine AB (Rg (by simp) λi d g=>?_);have e:(x::f)[i]?=some ((x::f)[i]):=AU g;rw[e];dsimp only;have j:=JZ e;refine AB (Pg n _ _ _ (by have:=Ih e;lia) λb k c=>?_);exact AE (h _ k ((c.cons _).trans j))
theorem Uc{α:Type}(nx:Nat->Nat):∀(f k:Nat) (left:A0 α) (out:HQ α),left.length=f->(pickOrder.go nx f k left out).toList.Perm (out.toList++left)
 | 0,k,left,out,h=>by
  obtain rfl:=EQ.mp h;unfold pickOrder.go;simp
 | f+1,k,left,out,h=>by
  have a:nx k % left.length<left.length:=Nat.mod_lt _ (by lia);have e:left[nx k % left.length]?=some left[nx k % left.length]:=AU a;unfold pickOrder.go;rw[e];dsimp only;have b:=JZ e;refine(Uc nx f (k+1) _ _ (by have:=Ih e;lia)).trans ?_;rw[DA,BF];exact b.append_left _
theorem Av{α:Type}(nx:Nat->Nat)(xs:HQ α):(pickOrder nx xs).toList.Perm xs.toList:=by
 unfold pickOrder;have:=Uc nx xs.size 0 xs.toList #[] (AX ..);simpa using this
structure TH(w:HS)(h:HX)(a:A2)(o:Obj)(es:HQ (Int×A1))(ep:Nat)(t:IG):Prop where
 ho:h.get? a=some o
 ex:o.ExactSet
 hd:o.data = .set es ep t
 ft:t.fits es.size=true
 led:t.led=!(w.params.followText "set-order")
 pln:t.plain=true->es.size=0
 few:es.size<4096
def TL(first:A1)(i n b:Nat)(a:A2):Obj:={ cls:=.type "set_iterator",data:=.fields #[first,rawInt i,.ref a,rawInt n,rawInt b] }
theorem Q9{Q:Bool->A5->Prop}(h:Q (w.params.followText "set-order") s):wpAny (model prog w) A setsByText Q E s:=by
 unfold setsByText;exact AB (GD (AE h))
variable{a it:A2}{o:Obj}{es:HQ (Int×A1)}{ep:Nat}{t:IG}
theorem Au{i g:Nat}{r:A6 (A1×Nat)}{Q:A6 A1->A5->Prop}(h:A.handled=none)(S:TH w s.heap a o es ep t)(n:it≠a)(hi:s.heap.get? it=some (TL (rawInt g) i es.size ep a))
  (c:∀(j:A6 (A1×Nat)->A5->Prop) (q:HZ) (u:A1->A5->Prop),j r s->wpAny (model prog w) q (setNext a g i ep) j u s)
  (d:∀x nx h',r=some (x,nx)->h'.get? it=some (TL (rawInt nx) (i+1) es.size ep a)->Heap.SameBut it s.heap h'->Q (some x) { s with heap:=h' })
  (f:r=none->∀h',Heap.ExtBut it s.heap h'->Q none { s with heap:=h' }):wpAny (model prog w) A (pyNext (.ref it)) Q E s:=by
 have k:s.TypeIs (.ref it) "set_iterator":=⟨_,hi,rfl⟩;unfold pyNext;refine AB (HN (GT (name:=Str.ofString "__next__") k JN (DM JN k l9 ?_ (y7 _))));unfold Builtin.«set_iterator.__next__»;refine AB (EA (a:=(Value.ref it,[])) rfl ?_);dsimp only;refine AB (wpAny_fieldsOf hi rfl ?_);dsimp only[rawInt];refine AB (wpAny_setEntries_of S.ho S.hd S.ft ?_);rw[AS (by simp)];simp only[DK];refine AB (c _ _ _ ?_);cases r with
 | some p =>
  obtain⟨x,nx⟩:=p;dsimp only;refine AB (EX hi rfl (by simp) ?_);have l:=CC (Obj.mapFields (·.setIfInBounds 0 (rawInt (nx:Nat)))) hi rfl;refine AB (EX l rfl (by simp) ?_);have v:=CC (Obj.mapFields (·.setIfInBounds 1 (rawInt ((i:Int)+1)))) l rfl;refine AE ⟨x,rfl,AE (d x nx _ rfl ?_ ((DZ ..).trans (DZ ..)))⟩;exact v
 | none =>
  dsimp only;refine AB (EX hi rfl (by simp) ?_);refine AB ?_;simp only[newExc,newTuple];refine AB (CD ?_ (by size_fits));refine AB (m:=firstArgMember _ _) (EA (a:=Value.none) (by first | rfl | (simp only[firstArgMember];rfl)) ?_);refine CD ?_ (by size_fits);simp only[raiseNew];refine AB (wpAny_handled ?_)
  first | rw[show A.in1.handled=none from h] | rw[h]
  refine AB (AE (wpAny_throw ?_));refine AB (wpAny_isInstance (T := "StopIteration") (b:=true) ⟨_,BG _ rfl,rfl⟩ isSubtype_stop ?_);exact AE (f rfl _ ((HM (HM (λb o y e=>(BL _ _ (Ne.symm y)).trans e) _)) _))
end
def UY(ps:A0 Nat):Obj:={ cls:=.type "tuple",data:=.seq (ps.map λ(i:Nat)=>rawInt i).toArray }
section
variable{prog:Cv}{w:HS}{A:HZ}{E:A1->A5->Prop}{s:A5}{a it T:A2}{o:Obj}{es:HQ (Int×A1)}{ep:Nat}{t:IG}
theorem Mz{i:Nat}{ps:A0 Nat}{Q:A6 A1->A5->Prop}(l:A.handled=none)(S:TH w s.heap a o es ep t)(hi:s.heap.get? it=some (TL (.ref T) i es.size ep a))(n:s.heap.get? T=some (UY ps))
  (f:∀p x h',ps[i]?=some p->es[p]?=some x->h'.get? it=some (TL (.ref T) (i+1) es.size ep a)->Heap.SameBut it s.heap h'->Q (some x.2) { s with heap:=h' }) (g:∀p∈ps,p<es.size)
  (h:ps.length<=i->∀h',Heap.ExtBut it s.heap h'->Q none { s with heap:=h' }):wpAny (model prog w) A (pyNext (.ref it)) Q E s:=by
 have d:s.TypeIs (.ref it) "set_iterator":=⟨_,hi,rfl⟩;unfold pyNext;refine AB (HN (GT (name:=Str.ofString "__next__") d JN (DM JN d l9 ?_ (y7 _))));unfold Builtin.«set_iterator.__next__»;refine AB (EA (a:=(Value.ref it,[])) rfl ?_);dsimp only;refine AB (wpAny_fieldsOf hi rfl ?_);dsimp only[rawInt];refine AB (wpAny_setEntries_of S.ho S.hd S.ft ?_);rw[AS (by simp)];simp only[DK];refine AB (FI n rfl ?_);dsimp only;cases e:ps[i]? with
 | some p =>
  have q:(ps.map λ(i:Nat)=>Value.int (i:Int) 0).toArray[i]?=some (.int (p:Int) 0):=by
   rw[EZ,AG,e];rfl
  have c:(ps.map λ(i:Nat)=>rawInt i).toArray[i]?=some (.int (p:Int) 0):=q;rw[c];have r:p<es.size:=g p (AM e);obtain⟨x,j⟩:∃x,es[p]?=some x:=⟨es[p],CK.mpr ⟨r,rfl⟩⟩;dsimp only;simp only[DK];unfold setNextDrawn;refine AB (AB (CH S.ho S.hd S.ft ?_));dsimp only;rw[AS (by simp),j];dsimp only;refine AE ?_;refine AB (EX hi rfl (by simp) ?_);have u:=CC (Obj.mapFields (·.setIfInBounds 1 (rawInt ((i:Int)+1)))) hi rfl;exact AE ⟨x.2,rfl,AE (f p x _ e j u (DZ ..))⟩
 | none =>
  have c:(ps.map λ(i:Nat)=>rawInt i).toArray[i]?=none:=by
   rw[EZ,AG,e];rfl
  rw[c];dsimp only;refine AB (EX hi rfl (by simp) ?_);have v:=CC (Obj.mapFields (·.setIfInBounds 0 (rawInt 0))) hi rfl;refine AB (EX v rfl (by simp) ?_);refine AB ?_;simp only[newExc,newTuple];refine AB (CD ?_ (by size_fits));refine AB (m:=firstArgMember _ _) (EA (a:=Value.none) (by first | rfl | (simp only[firstArgMember];rfl)) ?_);refine CD ?_ (by size_fits);simp only[raiseNew];refine AB (wpAny_handled ?_);rw[show A.in1.handled=none from l];refine AB (AE (wpAny_throw ?_));refine AB (wpAny_isInstance (T := "StopIteration") (b:=true) ⟨_,BG _ rfl,rfl⟩ isSubtype_stop ?_);refine AE (h (GF.mp e) _ (HM (HM (λb z k y=>?_) _) _));exact(BL _ _ (Ne.symm k)).trans ((BL _ _ (Ne.symm k)).trans y)
def zGi(w:HS)(a T:A2)(es:HQ (Int×A1))(ep:Nat)(t:IG)(b:A0 A1)(i:Nat)(h:HX)(first:A1):Prop :=
 (w.params.followText "set-order" = true/\first=rawInt (0:Nat)/\b =(pickOrder (w.params.setOrder a ep) es).toList.map (·.2)) \/
 (w.params.followText "set-order" = false/\∃c:A0 Nat,first = .ref T/\h.get? T=some (UY c)/\c.Perm (List.range es.size)/\b=c.filterMap λp=>es[p]?.map (·.2)) \/
 (w.params.followText "set-order" = false/\es.size<=1/\b=es.toList.map (·.2)/\∃d:Nat,first=rawInt d/\(i=0->d=0)/\(i=1->∃j,t.place = #[j]/\d=j+1))
def SSt(w:HS)(a it T:A2)(o:Obj)(es:HQ (Int×A1))(ep:Nat)(t:IG)(b:A0 A1)(i:Nat)(h:HX):Prop :=
 TH w h a o es ep t/\∃first,h.get? it=some (TL first i es.size ep a)/\zGi w a T es ep t b i h first
theorem TH.at{h h':HX}(S:TH w h a o es ep t)(e:h'.get? a=some o):TH w h' a o es ep t:=⟨e,S.ex,S.hd,S.ft,S.led,S.pln,S.few⟩
theorem zCd(j:Nat):SetTable.below #[j] 0=0:=by simp[SetTable.below,SetTable.below.go]
theorem zCe(j:Nat):SetTable.below #[j] (j+1)=1:=by simp[SetTable.below,SetTable.below.go]
theorem Vk(S:TH w s.heap a o es ep t):t.place.size=es.size:=by
 have:=S.ft;unfold SetTable.fits at this;rw[CF]at this;simpa using this.1
theorem Qj(L:A.handled=none){u:A0 A1}(m:it≠a)(hiT:it≠T):Walks prog w A it [it,a,T] [it] es.size (λi v=>u[i]?=some v) (SSt w a it T o es ep t u) where
 sub:=λb M=>by simp at M;simp[M]
 frame:=λi h c ⟨S,first,B,N⟩ k=>by
  refine⟨S.at (k a (by simp) _ S.ho),first,k it (by simp) _ B,?_⟩;rcases N with z | ⟨g,O,W,n,F,G⟩ | z
  .exact .inl z
  .exact .inr (.inl ⟨g,O,W,k T (by simp) _ n,F,G⟩)
  .exact .inr (.inr z)
 item:=λi s Q E hlt ⟨S,first,B,N⟩ I=>by
  have d:∀c,Heap.SameBut it s.heap c->∀b H,b∉[it]->s.heap.get? b=some H->c.get? b=some H:=λc f b H M e=>(f.2 b (by simpa using M)).trans e;rcases N with⟨g,rfl,n⟩ | ⟨g,O,rfl,n,F,G⟩ | ⟨g,W,n,sl,rfl,G,z6⟩
  .have J:=Av (w.params.setOrder a ep) es;have C:(pickOrder (w.params.setOrder a ep) es).size=es.size:=by rw[<-AX,J.length_eq,AX]
   obtain⟨x,R⟩:∃x,(pickOrder (w.params.setOrder a ep) es)[i]?=some x:=⟨_,CK.mpr ⟨by rw[C];exact hlt,rfl⟩⟩;refine Au (r:=some (x.2,0)) L S m B (λU A' E' q=>?_) (λy nx c D P f=>?_) (λe=>nomatch e)
   .unfold setNext setWalk;refine AB (CH S.ho S.hd S.ft ?_);dsimp only;refine AB (Q9 ?_);rw[g,AY rfl,AS (by simp)];refine AB (AB (CH S.ho S.hd S.ft ?_));dsimp only;refine AB (Q9 ?_);rw[g,AY rfl];refine AB (GD (AE (AE ?_)));show U (((pickOrder (w.params.setOrder a ep) es)[i]?).map λe=>(e.2,0)) s;rw[R];exact q
   .cases D;have:=I x.2 c s.toks (by rw[n,AG,BN,R];rfl) ⟨S.at ((f.2 a (Ne.symm m)).trans S.ho),_,P,.inl ⟨g,rfl,n⟩⟩ (d c f);exact this
  .refine Mz L S B n (λp x c D P e3 f=>?_) (λp hp=>CY.mp (F.mem_iff.mp hp)) (λhle=>?_)
   .have V:∀q∈O,(es[q]?.map (·.2)).isSome=true:=λq hq=>by
     have:q<es.size:=CY.mp (F.mem_iff.mp hq);rw[CK.mpr ⟨this,rfl⟩];rfl
    refine I x.2 c s.toks ?_ ⟨S.at ((f.2 a (Ne.symm m)).trans S.ho),_,e3,.inr (.inl ⟨g,O,rfl,(f.2 T (Ne.symm hiT)).trans n,F,G⟩)⟩ (d c f);have gen:∀(l:A0 Nat) (i p:Nat),(∀q∈l,(es[q]?.map (·.2)).isSome=true)->l[i]?=some p->(l.filterMap λp=>es[p]?.map (·.2))[i]?=es[p]?.map (·.2):=by
     intro l
     induction l with
     | nil=>intro i p _ e;simp at e
     | cons q r ih =>
      intro i p X e;obtain⟨v,hv⟩:=DE.mp (X q (AZ ..));rw[CU,hv];dsimp only;cases i with
      | zero =>
       have:q=p:=by simpa using e
       subst this;simpa using hv.symm
      | succ i=>simpa using ih i p (λq hq=>X q (AQ _ hq)) (by simpa using e)
    rw[G,gen O i p V D,P];rfl
   .have:=F.length_eq;rw[DW]at this;lia
  .have Y:i=0:=by lia
   have h1:es.size=1:=by lia
   obtain⟨j,Z⟩:∃j,t.place = #[j]:=Array.size_eq_one_iff.mp ((Vk S).trans h1);obtain⟨x,R⟩:∃x,es = #[x]:=Array.size_eq_one_iff.mp h1;have hs0:=G Y;subst hs0;have hx0:es[0]?=some x:=by rw[R];rfl
   refine Au (r:=some (x.2,j+1)) L S m B (λU A' E' q=>?_) (λy nx c D P f=>?_) (λe=>nomatch e)
   .unfold setNext;refine AB (CH S.ho S.hd S.ft ?_);dsimp only;refine AB (Q9 ?_);rw[g,AS (by decide)];show wpAny _ _ (if(!t.plain&&decide (es.size>1))=true then _ else _) _ _ _;rw[AS (by rw[h1];simp)];show wpAny _ _ (do (if(!t.led&&!es.isEmpty)=true then unsupported "set:maker-not-led" else pure ());_) _ _ _;rw[S.led,g,AS (by simp)];refine AB (AE ?_);rw[Z,zCd,hx0];exact AE q
   .cases D;refine I x.2 c s.toks (by rw[n,Y,R];rfl) ⟨S.at ((f.2 a (Ne.symm m)).trans S.ho),_,P,.inr (.inr ⟨g,W,n,j+1,rfl,λe=>by lia,λ_=>⟨j,Z,rfl⟩⟩)⟩ (d c f)
 done:=λs Q E ⟨S,first,B,N⟩ I=>by
  have d:∀c,Heap.ExtBut it s.heap c->∀b H,b∉[it]->s.heap.get? b=some H->c.get? b=some H:=λc f b H M e=>f b H (by simpa using M) e;rcases N with⟨g,rfl,n⟩ | ⟨g,O,rfl,n,F,G⟩ | ⟨g,W,n,sl,rfl,G,z6⟩
  .have J:=Av (w.params.setOrder a ep) es;have C:(pickOrder (w.params.setOrder a ep) es).size=es.size:=by rw[<-AX,J.length_eq,AX]
   refine Au (r:=none) L S m B (λU A' E' q=>?_) (λy nx c D=>nomatch D) (λ_ c f=>I c s.toks (d c f));unfold setNext setWalk;refine AB (CH S.ho S.hd S.ft ?_);dsimp only;refine AB (Q9 ?_);rw[g,AY rfl,AS (by simp)];refine AB (AB (CH S.ho S.hd S.ft ?_));dsimp only;refine AB (Q9 ?_);rw[g,AY rfl];refine AB (GD (AE (AE ?_)));show U (((pickOrder (w.params.setOrder a ep) es)[es.size]?).map λe=>(e.2,0)) s;rw[FS (by rw[C];exact Nat.le_refl _)];exact q
  .have X:=F.length_eq;rw[DW]at X;refine Mz L S B n (λp x c D P e3 f=>?_) (λp hp=>CY.mp (F.mem_iff.mp hp)) (λ_ c f=>I c s.toks (d c f));have:=(AR.mp D).1;lia
  .refine Au (r:=none) L S m B (λU A' E' q=>?_) (λy nx c D=>nomatch D) (λ_ c f=>I c s.toks (d c f));unfold setNext;refine AB (CH S.ho S.hd S.ft ?_);dsimp only;refine AB (Q9 ?_);rw[g,AS (by decide)];show wpAny _ _ (if(!t.plain&&decide (es.size>1))=true then _ else _) _ _ _;rw[AS (by simp;intro _;lia)];show wpAny _ _ (do (if(!t.led&&!es.isEmpty)=true then unsupported "set:maker-not-led" else pure ());_) _ _ _;rw[S.led,g,AS (by simp)];refine AB (AE ?_);have K:es[SetTable.below t.place sl]?=none:=by
    by_cases Y:es.size=0
    .exact FS (by rw[Y];exact BR _)
    .obtain⟨j,Z,rfl⟩:=z6 (by lia);rw[Z,zCe];exact FS (by lia)
   rw[K];exact AE q
 self:=λi s Q E ⟨S,first,B,N⟩ h=>by
  have hT:s.TypeIs (.ref it) "set_iterator":=⟨_,B,rfl⟩;refine wpAny_pyIter_slot hT Ab (DM Ab hT Fm ?_ (Hx _));show wpAny _ _ (ret (.ref it)) _ _ s;exact AE ⟨_,rfl, "set_iterator",_,hT,JN.lookup,h⟩
theorem Vi{Q:A1->A5->Prop}(S:TH w s.heap a o es ep t)
  (h:∀(it T:A2) (c:A0 A1) (h':HX) (d:Drawn),it≠a->it≠T->(T=a\/s.heap.objs.size<=T)->s.heap.objs.size<=it->(∀b g,s.heap.get? b=some g->h'.get? b=some g)->c.Perm (es.toList.map (·.2))->SSt w a it T o es ep t c 0 h'->(∀b∈[it,a,T],b<h'.objs.size) ->
   (∀I:HZ,I.handled=none->Walks prog w I it [it,a,T] [it] es.size (λi v=>c[i]?=some v) (SSt w a it T o es ep t c))->Q (.ref it) { s with heap:=h',drawn:=d }):wpAny (model prog w) A (pyIter (.ref a)) Q E s:=by
 have M:s.TypeIs (.ref a) "set":=⟨_,S.ho,S.ex.1⟩;have G:=AK S.ho;refine wpAny_pyIter_slot M F.slot_set_iter (DM F.slot_set_iter M Hv ?_ (F.args_set_iter_1 _));unfold Builtin.«frozenset.__iter__» Builtin.Frozenset.slot0 Builtin.Frozenset.sizeOf;refine AB (AB (EA (a:=(Value.ref a,[])) rfl ?_));dsimp only;refine EA (a:=a) rfl ?_;refine AB (AB (wpAny_setEntries_of S.ho S.hd S.ft (AE ?_)));have m:∀(first:A1) (T:A2) (c:A0 A1) (f:HX) (d:Drawn),(∀b g,s.heap.get? b=some g->f.get? b=some g)->s.heap.objs.size<=f.objs.size->c.Perm (es.toList.map (·.2))->T<f.objs.size->(T=a\/s.heap.objs.size<=T) ->
   (∀q:HX,(∀b g,f.get? b=some g->q.get? b=some g)->zGi w a T es ep t c 0 q first) ->
   wpAny (model prog w) A.in1 (do let e <-setEpoch a;let x <-newFields "set_iterator" [first,rawInt 0,.ref a,rawInt (es.size:Nat),rawInt (e:Nat)];ret x) (λr N=>∃v,r=Fin.done (Flow.ret v)/\∃O r,N.TypeIs v O/\typeLookup (Value.type O) (Str.ofString "__next__")=pure (some r)/\Q v N) E { s with heap:=f,drawn:=d }:=by
  intro first T c f d k n l z J P
  refine AB (wpAny_setEpoch_of (s:={ s with heap:=f,drawn:=d }) (k a o S.ho) S.hd S.ft ?_);refine AB (CD ?_);have H:(f.push (TL first 0 es.size ep a)).get? f.objs.size=some (TL first 0 es.size ep a):=BG _ rfl;have B:∀b g,f.get? b=some g->(f.push (TL first 0 es.size ep a)).get? b=some g:=λb g e=>AD _ e;have C:f.objs.size≠a:=λe=>absurd (BI G n) (by rw[<-e];exact CM _);have D:f.objs.size≠T:=λe=>absurd z (by rw[<-e];exact CM _);refine AE ⟨.ref f.objs.size,rfl, "set_iterator",_,⟨_,H,rfl⟩,JN.lookup,?_⟩;refine h f.objs.size T c (f.push (TL first 0 es.size ep a)) d C D J n (λb g e=>B b g (k b g e)) l ⟨S.at (B a o (k a o S.ho)),first,H,P _ B⟩ (λb u=>?_) λI R=>Qj R C D;rw[CZ];simp only[A_,AL,or_false]at u;rcases u with rfl | rfl | rfl
  .exact FG _
  .exact EN (BI G n)
  .exact EN z
 unfold setDrawn;refine AB (AB (CH S.ho S.hd S.ft ?_));dsimp only;refine AB (Q9 (AE ?_));cases u:w.params.followText "set-order" with
 | true =>
  show wpAny _ _ (if(!true &&(!t.plain&&decide (es.size>1)))=true then _ else _) _ _ _;rw[EI,EV,AS (by decide)];refine AB (AE ?_);exact m _ a _ s.heap s.drawn (λ_ _ e=>e) (Nat.le_refl _) ((Av _ es).map _) G (.inl rfl) λq _=>.inl ⟨u,rfl,rfl⟩
 | false =>
  show wpAny _ _ (if(!false &&(!t.plain&&decide (es.size>1)))=true then _ else _) _ _ _;by_cases j:(!t.plain&&decide (es.size>1))=true
  .rw[GY,Bool.true_and,AY j];refine AB (Pg es.size (List.range es.size) s _ (DW ..) λy d l=>AB ?_);unfold newTuple;refine CD ?_ ?_
   .have H:(s.heap.push (UY y)).get? s.heap.objs.size=some (UY y):=BG _ rfl;refine m _ s.heap.objs.size (y.filterMap λp=>es[p]?.map (·.2)) (s.heap.push (UY y)) d (λb g e=>AD _ e) (by rw[CZ];exact CQ _) ?_ (by rw[CZ];exact FG _) (.inr (Nat.le_refl _)) λq B=>.inr (.inl ⟨u,y,rfl,B _ _ H,l,rfl⟩);refine(l.filterMap _).trans (List.Perm.of_eq ?_);have:=filterMap_getElem?_range es;rw[<-this,List.map_filterMap]
   .have f:=l.length_eq;have q:=S.few;rw[DW]at f;show(List.map _ y).toArray.size<=sizeLine;rw[BD,AA,sizeLine_eq];lia
  .rw[GY,Bool.true_and,AS j];refine AB (AE ?_);have K:es.size<=1:=by
    by_cases l:t.plain=true
    .have:=S.pln l;lia
    .have L:t.plain=false:=by simpa using l
     rw[L]at j;simp at j;lia
   exact m _ a _ s.heap s.drawn (λ_ _ e=>e) (Nat.le_refl _) (.refl _) G (.inl rfl) λq _=>.inr (.inr ⟨u,K,rfl,0,rfl,λ_=>rfl,λe=>absurd e (by decide)⟩)
end
section
variable{prog:Cv}{w:HS}{A:HZ}{E:A1->A5->Prop}{s:A5}{a:A2}{o:Obj}{es:HQ (Int×A1)}{ep:Nat}{t:IG}
theorem Us{a:A0 A1}{b:HQ A1}(h:ItemsOf (λi v=>a[i]?=some v) b a.length):b.toList=a:=by
 refine FD λi=>?_;rw[BN];by_cases c:i<b.size
 .have e:b[i]?=some b[i]:=CK.mpr ⟨c,rfl⟩;rw[e,h.2 i _ e]
 .rw[FS (by lia),FY (by have:=h.1;lia)]
theorem RB{Q:A0 A1->A5->Prop}(O:A.handled=none)(S:TH w s.heap a o es ep t)
  (U:∀f q,(∀b c,s.heap.get? b=some c->f.heap.get? b=some c)->f.gens=s.gens->f.os=s.os->s.heap.objs.size<f.heap.objs.size->q.Perm (es.toList.map (·.2))->Q q f):wpAny (model prog w) A (collect (.ref a)) Q E s:=by
 have V:=AK S.ho;unfold collect;refine AB (wpAny_runValue (DI F.entry_proto_collect ?_));rw[Around.under_plainId F.plain_proto_collect _];show wpAny _ A.in1 (newList [] >>= λl=>again (.builtin "list.__iadd__" ⟨[l,.ref a],[]⟩)) _ _ s;refine AB (CD ?_);refine AE ⟨plainId_quiet F.plain_list_iadd _,DI F.entry_list_iadd ?_⟩;rw[Around.under_plainId F.plain_list_iadd _];show wpAny _ A.in1 (Builtin.List.listExtendWith (.ref s.heap.objs.size) (.ref a) (.ref s.heap.objs.size)) _ _ _;unfold Builtin.List.listExtendWith;have h:s.heap.objs.size≠a:=λe=>absurd V (by rw[<-e];exact CM _);generalize J:s.heap.push { cls:=.type "list",data:=.seq ([]:A0 A1).toArray }=H;have G:∀b c,s.heap.get? b=some c->H.get? b=some c:=λb c e=>by rw[<-J];exact AD _ e
 have i:H.objs.size=s.heap.objs.size+1:=by rw[<-J,CZ]
 have X:H.get? s.heap.objs.size=some { cls:=.type "list",data:=.seq ([]:A0 A1).toArray }:=by rw[<-J];exact BG _ rfl
 have Y:Shared.TypeIs { s with heap:=H } (.ref a) "set":=⟨o,G a o S.ho,S.ex.1⟩;refine AB (GB Y ?_);have Z:Builtin.List.listSameRef (.ref s.heap.objs.size) (.ref a)=false:=by simp[Builtin.List.listSameRef,h]
 have h2:(Value.type "set" == Value.type "list")=false:=by decide
 have h3:(Value.type "set" == Value.type "tuple")=false:=by decide
 simp only[Z,h2,h3,Bool.or_false,BE,CN];refine AB (Vi (s:={ s with heap:=H }) (S.at (G a o S.ho)) λI T j r d hia hiT K u k P st hlt W=>?_);have m:Shared.TypeIs { s with heap:=r,drawn:=d } (.ref a) "set":=⟨o,k a o (G a o S.ho),S.ex.1⟩;refine AB (BW ?_);unfold Builtin.List.listLengthHint;refine AB (wpAny_specialOf m zFw ?_);wp_delta;refine AB (wpAny_isInstance m (b:=true) (by rw[isSubtype_type];kernel_rfl) ?_);show wpAny _ A.in1 (typeOf (Value.ref a) >>= _) _ _ _;refine AB (GB m ?_);refine AE ?_;rw[AY (by decide)];refine AB (DT ?_);have v:r.get? s.heap.objs.size=some { cls:=.type "list",data:=.seq ([]:A0 A1).toArray }:=k _ _ X;refine AB ?_;show wpAny _ A.in1 (updateSeq s.heap.objs.size (·.push .none) >>= λ_=>updateSeq s.heap.objs.size (·.pop)) _ _ _;refine AB (GP v rfl ?_);have x:=CC (Obj.mapSeq (·.push Value.none)) v rfl;refine GP x rfl ?_;have L:=CC (Obj.mapSeq (·.pop)) x rfl;have y:∀b c,b≠s.heap.objs.size->r.get? b=some c->((r.update s.heap.objs.size (Obj.mapSeq (·.push Value.none))).update s.heap.objs.size (Obj.mapSeq (·.pop))).get? b=some c :=
  λb c p e=>(BL _ _ (Ne.symm p)).trans ((BL _ _ (Ne.symm p)).trans e)
 have B:s.heap.objs.size∉[I,a,T]:=by
  have e1:s.heap.objs.size≠I:=λe=>absurd u (by
   show ¬H.objs.size<=I;rw[i,<-e];exact Nat.not_succ_le_self _)
  have e2:s.heap.objs.size≠T:=λe=>by
   rcases K with z | z
   .exact h (e.trans z)
   .exact absurd z (by
     show ¬H.objs.size<=T;rw[i,<-e];exact Nat.not_succ_le_self _)
  simp only[A_,AL,or_false,not_or];exact⟨e1,h,e2⟩
 have M:es.size=j.length:=by
  have:=P.length_eq;rw[AA,AX]at this;exact this.symm
 have R:=S.few;refine AE ⟨plainId_quiet F.plain_extend_loop _,codeAny_extend_loopS (W A.in1 O).toS (by rw[sizeLine_eq];lia) _ B _ es.size 0 _ _ _ rfl (BR _)
  ((W A.in1 O).frame 0 r _ st λb p c e=>y b c (λz=>B (z▸p)) e) L (ItemsOf.nil _) λf C c' N D g=>?_⟩
 show wpAny _ A (load s.heap.objs.size >>= _) _ _ f;refine AB (wpAny_load D ?_);rw[M]at g;refine AE (U f C.toList (λb c e=>N.heap b c (λp=>?_) (y b c (λz=>?_) (k b c (G b c e)))) N.gens N.os (AK D) (by rw[Us g];exact P))
 .have n:=AK e;rcases A_.mp p with z | z
  .exact absurd n (by rw[z];exact CM _)
  .rw[AC.mp z]at n;have:H.objs.size<=I:=u;rw[i]at this;exact absurd (BI n (DU this)) (CM _)
 .exact absurd (AK e) (by rw[z];exact CM _)
end
end ST
namespace ST
open PySem L2
def zEk(t:IG)(n:Nat):(t.orStandIn n).led=t.led:=by
 unfold SetTable.orStandIn;split<;>rfl
def zAp(t:IG)(a:HQ (Int×A1))(h:Int)(x:A1):(layNew t a h x).2.1.led=t.led:=by
 unfold layNew;split
 .rename_i b c e;show((t.put b).1.orStandIn _).led=_;rw[zEk];rfl
 .rfl
def Nm{t t':IG}{b:HQ Int}{n:Nat}{a:HQ Nat}(h:t.relaid b n=some (t',a)):t'.led=t.led/\t'.plain=t.plain:=by
 unfold SetTable.relaid SetTable.laid at h;cases e:SetTable.layClean (SetTable.sizeAbove n-1) b with
 | none=>rw[e]at h;cases h
 | some c =>
  rw[e]at h;cases h;exact⟨rfl,rfl⟩
def Rn(t:IG)(a:HQ (Int×A1))(n:Nat)(b:t.plain=false):(relayAll t a n).2.1.led=t.led/\(relayAll t a n).2.1.plain=false:=by
 unfold relayAll;split
 .rename_i g c e;obtain⟨d,f⟩:=Nm e;dsimp only;split
  .exact⟨d,f.trans b⟩
  .exact⟨rfl,rfl⟩
 .exact⟨rfl,rfl⟩
def zHx:A1->Str
 | .str x _=>x
 | _=>Str.empty
section
variable{prog:Cv}{w:HS}{A:HZ}{E:A1->A5->Prop}{s:A5}{a:A2}
structure ND(w:HS)(es:HQ (Int×A1))(ss:A0 Str):Prop where
 el:∀e∈es.toList,∃x tk,e =(hashStr w x,Value.str x tk)
 pm:(es.toList.map λe=>zHx e.2).Perm ss
 nd:ss.Nodup
def WS(w:HS)(h:HX)(a:A2)(ss:A0 Str):Prop:=∃o b c t,TH w h a o b c t/\ND w b ss
theorem ND.elems{a:HQ (Int×A1)}{ss:A0 Str}(h:ND w a ss):ElemsOf (D0 prog w) a.toList:=λe b=>by
 obtain⟨x,c,rfl⟩:=h.el e b;exact⟨⟨.inr x,X6 x c,rfl⟩,rfl⟩
theorem ND.mem{d:HQ (Int×A1)}{ss:A0 Str}(h:ND w d ss)(x:Str):x∈ss↔∃e∈d.toList,(D0 prog w).is (.inr x) e.2=true:=by
 rw[<-h.pm.mem_iff];constructor
 .intro g;obtain⟨e,a,rfl⟩:=AI.mp g;obtain⟨y,b,rfl⟩:=h.el e a;exact⟨_,a,X6 y b⟩
 .rintro⟨e,a,j⟩;obtain⟨y,b,rfl⟩:=h.el e a;have:y=x:=by
   rcases F8 (show Fc (.inr x) (.str y b)=true from j)with⟨i,t,f,c⟩ | ⟨z,t,f,c⟩
   .cases c
   .cases f;cases c;rfl
  subst this;exact AI.mpr ⟨_,a,rfl⟩
theorem ND.int{a:HQ (Int×A1)}{ss:A0 Str}(h:ND w a ss)(i:Int):¬∃e∈a.toList,(D0 prog w).is (.inl i) e.2=true:=by
 rintro⟨e,d,f⟩;obtain⟨y,g,rfl⟩:=h.el e d;rcases F8 (show Fc (.inl i) (.str y g)=true from f)with⟨i,t,b,c⟩ | ⟨z,t,b,c⟩
 .cases c
 .cases b
theorem ND.len{a:HQ (Int×A1)}{ss:A0 Str}(h:ND w a ss):a.size=ss.length:=by
 have:=h.pm.length_eq;rw[AA,AX]at this;exact this
def inS(ss:A0 Str):IL->Bool
 | .inl _=>false
 | .inr x=>decide (x∈ss)
theorem WS.setOf{h:HX}{ss:A0 Str}(S:WS w h a ss):h.SetOf (D0 prog w) a (inS ss) ss.length:=by
 obtain⟨o,b,c,t,S,T⟩:=S;refine⟨o,b,c,t,S.ho,S.ex,S.hd,T.elems,λk=>?_,S.few,S.ft,T.len⟩;cases k with
 | inl i=>exact⟨λz=>Bool.noConfusion (show false=true from z),λz=>absurd z (T.int i)⟩
 | inr x =>
  show decide (x∈ss)=true↔_;rw[decide_eq_true_eq];exact T.mem x
theorem R_{ss:A0 Str}{x:Str}{m:Tok}{Q:Bool->A5->Prop}(S:WS w s.heap a ss)(hl:ss.length+1<4096)
  (h:∀h' b,Heap.SameBut a s.heap h'->WS w h' a (if x∈ss then ss else ss ++ [x])->Q b { s with heap:=h' }) :
  wpAny (model prog w) A (setAddHashed a (.str x m) (hashStr w x)) Q E s:=by
 obtain⟨o,n,ep,t,S,T⟩:=id S;have C:(D0 prog w).is (.inr x) (.str x m)=true:=X6 x m;have hsz:=T.len;unfold setAddHashed setAddHashedIn;refine BW (AB (CH S.ho S.hd S.ft ?_));dsimp only;rw[byScan_of (knd:=D0 prog w) rfl S.few T.elems,AY rfl];unfold setAddByScan;refine AB (AB (DT ?_));refine AB (wpAny_setScan_of C S.ho S.hd S.ft T.elems ?_);cases W:List.findIdx? (λe=>(D0 prog w).is (.inr x) e.2) n.toList with
 | some j =>
  dsimp only;obtain⟨hj,M,_⟩:=List.findIdx?_eq_some_iff_getElem.mp W;have p:x∈ss:=(T.mem (prog:=prog) x).mpr ⟨n.toList[j],GE hj,M⟩;refine AE (AE ?_);have:=h s.heap false (Heap.SameBut.refl a s.heap) (by rw[AY p];exact⟨o,n,ep,t,S,T⟩);exact this
 | none =>
  dsimp only;have p:¬x∈ss:=λp=>by
   obtain⟨e,N,K⟩:=(T.mem (prog:=prog) x).mp p;have:=List.findIdx?_eq_none_iff.mp W e N;rw[K]at this;exact Bool.noConfusion this
  have D:∀(b:Bool) {O:A5} {P:Unit->A5->Prop},P () O->wpAny (model prog w) A (match b with | true=>rule "set.scan.the-table-gave-way" | false=>pure ()) P E O :=
   λb O P X=>by cases b<;>first | exact AE X | exact DT X
  have d:=layNew_perm t n (hashStr w x) (.str x m);have g:=layNew_fits t n (hashStr w x) (.str x m);have k:=zAp t n (hashStr w x) (.str x m);show wpAny _ _ (match layNew t n (hashStr w x) (.str x m)with | (n,t,f,F)=>_) _ _ _;generalize layNew t n (hashStr w x) (.str x m)=L at d g k⊢;obtain⟨c,t1,f,F⟩:=L;dsimp only at d g k⊢;rw[DA]at d;have q:∀u:HQ (Int×A1),u.toList.Perm c.toList->ND w u (ss ++ [x]):=λu G=>by
   refine⟨λe N=>?_,?_,?_⟩
   .rcases AH.mp (d.mem_iff.mp (G.mem_iff.mp N))with z | z
    .exact T.el e z
    .exact⟨x,m,AC.mp z⟩
   .refine((G.trans d).map _).trans ?_;rw[AF];exact T.pm.append (.refl _)
   .rw[BU];refine⟨T.nd,by simp,λy hy z hz=>?_⟩;rw[AC.mp hz];rintro rfl;exact p hy
  have l:c.size=ss.length+1:=by
   have:=(q c (.refl _)).len;rw[AW]at this;exact this
  refine AB (D _ ?_);have H:∀i:IG,i.led=t.led->i.plain=false->i.fits c.size=true->wpAny (model prog w) A (do
    storeSet a c i
    if(!f&&i.tooFull)=true then do
      (match(relayAll i c (SetTable.grown c.size)).2.2 with | true=>rule "set.scan.the-table-gave-way" | false=>pure ())
      storeSet a (relayAll i c (SetTable.grown c.size)).1 (relayAll i c (SetTable.grown c.size)).2.1
      pure (some true)
     else pure (some true)) (λr s'=>wpAny (model prog w) A (match r with | some v=>pure v | none=>setAddHashedIn a (.str x m) (hashStr w x) 99999) Q E s') E s:=by
   intro i Y Z f2;refine AB (G_ S.ho S.hd ?_ (by rw[l,sizeLine_eq];lia));have B:=Fj S.ho S.hd c i;have I:=DZ s.heap a (Obj.putSet c i);split
   .have K:=relayAll_perm i c (SetTable.grown c.size);have hf:=relayAll_fits i c (SetTable.grown c.size);obtain⟨R,U⟩:=Rn i c (SetTable.grown c.size) Z;have J:(relayAll i c (SetTable.grown c.size)).1.size=c.size:=by rw[<-AX,K.length_eq,AX]
    refine AB (D _ ?_);refine AB (G_ B rfl ?_ (by rw[J,l,sizeLine_eq];lia));refine AE (AE (h _ true (I.trans (DZ _ a _)) ?_));rw[AS p];exact⟨_,_,_,_,⟨Fj B rfl _ _,S.ex,rfl,hf,R.trans (Y.trans S.led),(λz=>by rw[U]at z;cases z),by rw[J,l];lia⟩,q _ K⟩
   .refine AE (AE (h _ true I ?_));rw[AS p];exact⟨_,c,_,i,⟨B,S.ex,rfl,f2,Y.trans S.led,(λz=>by rw[Z]at z;cases z),by rw[l];lia⟩,q _ (.refl _)⟩
  cases V:t1.plain with
  | true =>
   rw[AY rfl,hashByValue_scannable 8 (x:=Value.str x m) rfl];refine AB (AE ?_);exact H { t1 with plain:=false } k rfl (SetTable.fits_plain_off g)
  | false =>
   rw[AS (by decide)];refine AB (AE ?_);exact H t1 k V g
end
end ST
namespace L2
open PySem PySem.Spec PyProof.Rows
def Y8(w:HS)(a:A2)(ss:A0 Str):HO:=.ext λh=>ST.WS w h a ss
section
variable{X:Cx}{pins:A0 (A2×Obj)}{σ:St}{H:Hp}{s:A5}{a:A2}{ss:A0 Str}
theorem Sb{P:Cv}{w:HS}{H:Hp}{h:HX}(z:ST.WS w h a ss):IM P w H h a (Y8 w a ss) :=
 ⟨z,let⟨o,_,_,_,S,_⟩:=z;⟨o,S.ho⟩,λd e ⟨o,b,c,t,S,r⟩ k=>⟨o,b,c,t,S.at (k o S.ho),r⟩⟩
theorem Inv.setw(I:Inv X pins σ H s)(e:H a=some (Y8 X.w a ss)):ST.WS X.w s.heap a ss:=by
 obtain⟨z,_⟩:=(show IM X.prog X.w H s.heap a (Y8 X.w a ss)from I.hok a _ e);exact z
def Nl(l:A0 Str)(x:Str):A0 Str:=if x∈l then l else l ++ [x]
def zEb(w:HS):V->A0 V->Hp->VK->Prop:=λx b H Q=>∃a l k,x = .ref a/\b = [.str k]/\H a=some (Y8 w a l)/\l.length+1<4096/\Q .non (HU H a (Y8 w a (Nl l k)))
theorem WS.typeIs{ss:A0 Str}(z:ST.WS X.w s.heap a ss):s.TypeIs (.ref a) "set":=let⟨o,_,_,_,S,_⟩:=z;⟨o,S.ho,S.ex.1⟩
theorem zAv:RT X "set.add" (zEb X.w):=by
 intro pins s σ H x n v p Q I g i h;obtain⟨a,l,k,rfl,rfl,d,j,q⟩:=h;cases g;obtain⟨u,rfl,⟨r,rfl⟩⟩:=i.one;have z:=I.setw d;refine DM F.slot_set_add (WS.typeIs z) F.entry_set_add ?_ (F.args_set_add_2 _ _);unfold Builtin.«set.add» Builtin.Frozenset.oneOther;simp only[List.isEmpty_nil,bind_assoc];unfold Builtin.Frozenset.addrOf setAdd;refine AB (AE ?_)
 try dsimp only
 refine AB (AE ?_)
 try dsimp only
 refine AB ?_;refine BW ?_;refine AB (wpAny_pyHash_str ?_);refine ST.R_ (s:={ s with toks:=s.toks+1 }) z j λt b c f=>?_;show wpAny _ _ (ret Value.none) _ _ _;refine AE ⟨_,rfl,.non,_,I.write (x:=a) (e:=a) (t':=s.toks+1) (by rw[d];exact True.intro) (.inl rfl) (λb q m e=>(c.2 b m).trans e) (let⟨o,_,_,_,S,_⟩:=f;⟨o,S.ho⟩) (Sb f),rfl,q⟩
def zGr(w:HS)(neg:Bool):R2:=λx y H Q=>∃a l k,y = .ref a/\x = .str k/\H a=some (Y8 w a l)/\Q (.bl (if neg then !decide (k∈l)else decide (k∈l))) H
theorem Ei:LK X (compareOp .NotIn) (zGr X.w true):=by
 intro pins s σ H x y v u Q I b c h;obtain⟨a,l,k,rfl,rfl,d,q⟩:=h;cases c;obtain⟨e,rfl⟩:=b;exact wpAny_notInSet_of (knd:=D0 X.prog X.w) (k:=.inr k) (X6 k e) rfl (I.setw d).setOf ⟨.bl (!decide (k∈l)),H,I.tok _,rfl,q⟩
end
def Inv.drawn{X:Cx}{a:A0 (A2×Obj)}{σ:St}{H:Hp}{s:A5}(I:Inv X a σ H s)(d:Drawn):Inv X a σ H { s with drawn:=d } :=
 ⟨I.ok,I.os,I.bare,I.base,I.loc,I.cell,I.free,I.freeC,I.pin,I.hok,I.len⟩
section
variable{X:Cx}
theorem Hf(Z:X.calm=true):J2 X (.builtin "sorted") (λxs H Q=>∃(p:A2) (ss:A0 Str),xs = [.ref p]/\H p=some (Y8 X.w p ss)/\∀(l:A2) (f:A0 Str),H l=none->f.Perm ss->f.Pairwise QL->Q (.ref l) (HU H l (.lst (f.map V.str)))):=by
 intro P s σ H xs m Q I r h;obtain⟨p,ss,rfl,hq,q⟩:=h;obtain⟨u,rfl,ru⟩:=U6 r;cases ru;obtain⟨o,es,ep,t,S,T⟩:=I.setw hq;refine TS.NF (ST.RB (show X.A.in1.handled=none from I.ok.hd Z) S λD d k1 g1 R E g=>?_);have U:∀v∈d,∃x i,v=Value.str x i:=λv n=>by
  obtain⟨e,F,rfl⟩:=AI.mp (g.mem_iff.mp n);obtain⟨x,i,rfl⟩:=T.el e F;exact⟨x,i,rfl⟩
 have z:StrsAre d (d.map strOf):=by
  have:∀l:A0 A1,(∀v∈l,∃x i,v=Value.str x i)->StrsAre l (l.map strOf):=by
   intro l
   induction l with
   | nil=>exact λ_=>.nil
   | cons v r G =>
    intro h;obtain⟨x,i,rfl⟩:=h v (AZ ..);exact .cons _ _ (G λu B=>h u (AQ _ B))
  exact this d U
 have W:d.length=es.size:=by rw[g.length_eq,AA,AX]
 have Y:=S.few;have J:(d.map strOf).Perm ss:=by
  refine(g.map strOf).trans ?_;rw[AN];refine List.Perm.trans (List.Perm.of_eq ?_) T.pm;refine List.map_congr_left λe F=>?_;obtain⟨x,i,rfl⟩:=T.el e F;rfl
 refine⟨R,by rw[sizeLine_eq];lia,strKind,oneType',λs2 _=>TS.QM z,λc h' e ho k hg=>?_⟩;obtain⟨K,hs⟩:=ho;have L:∀v∈c.toList,∃x t,v = .str x t:=λv n=>U v (K.mem_iff.mp n);have n:IC ((c.toList.map strOf).map V.str) c.toList:=by
  have:∀m:A0 A1,(∀v∈m,∃x t,v = .str x t)->IC ((m.map strOf).map V.str) m:=by
   intro m
   induction m with
   | nil=>exact λ_=>.nil
   | cons v r G =>
    intro h;obtain⟨x,t,rfl⟩:=h v (AZ ..);exact .cons ⟨t,rfl⟩ (G λu B=>h u (AQ _ B))
  exact this _ L
 have j:(c.toList.map strOf).Perm ss:=(K.map strOf).trans J;have M:(c.toList.map strOf).Pairwise QL:=by
  rw[EM];refine(List.Pairwise.and_mem.mp hs).imp fun{u v} ⟨B,N,q⟩=>?_;obtain⟨x,t,rfl⟩:=L u B;obtain⟨y,t',rfl⟩:=L v N;have q':decide (y.cps.toList<x.cps.toList)=false:=q;exact of_decide_eq_false q'
 have k0:∀b o,s.heap.get? b=some o->h'.get? b=some o:=λb o eb=>k b o (k1 b o eb);have C:s.heap.objs.size<=D.heap.objs.size:=DB E;have hn:H D.heap.objs.size=none:=I.hok.fresh C;obtain⟨O,g',d',t',o'⟩:=D;have eo:o'=s.os:=R;have eg:g'=s.gens:=g1;subst eo;subst eg;refine⟨.ref O.objs.size,HU H O.objs.size (.lst ((c.toList.map strOf).map V.str)),?_,rfl,q _ _ hn j M⟩;exact(I.laid (a:=O.objs.size) (o:=.lst ((c.toList.map strOf).map V.str)) (t':=t') k0 C ⟨by rw[AA,AA,K.length_eq,sizeLine_eq];lia,c.toList,e,n,by simpa using hg⟩).drawn d'
end
def Pa(P:Cv)(w:HS)(a:A2)(b:A0 (A0 IL×A2)):HO:=.ext λh=>ST.NJ (D0 P w) h a b
def Ld(H:Hp)(a:A0 (A0 IL×A2)):Prop:=∀q∈a,H q.2=some (.tup (q.1.map kV))
section
variable{X:Cx}{pins:A0 (A2×Obj)}{σ:St}{H:Hp}{s:A5}{a:A2}{ks:A0 (A0 IL×A2)}
theorem My(P:Cv)(w:HS):ST.Flat (D0 P w):=λv ⟨x,h⟩=>(D0 P w).byValue x v h
theorem Wf(P:Cv)(w:HS):ST.TU (D0 P w):=λv ⟨x,h⟩=>by
 rcases F8 (show Fc x v=true from h)with⟨i,t,_,rfl⟩ | ⟨y,t,_,rfl⟩<;>rfl
theorem Xe{P:Cv}{w:HS}{H:Hp}{h:HX}(z:ST.NJ (D0 P w) h a ks):IM P w H h a (Pa P w a ks) :=
 ⟨z,let⟨o,_,_,_,e,_⟩:=z;⟨o,e⟩,λd f ⟨o,b,c,t,e,r⟩ k=>⟨o,b,c,t,k o e,r⟩⟩
theorem Inv.sett(I:Inv X pins σ H s)(e:H a=some (Pa X.prog X.w a ks)):ST.NJ (D0 X.prog X.w) s.heap a ks:=by
 obtain⟨z,_⟩:=(show IM X.prog X.w H s.heap a (Pa X.prog X.w a ks)from I.hok a _ e);exact z
theorem Nz:J2 X (.type "set") (λxs H Q=>xs = []/\∀p,H p=none->Q (.ref p) (HU H p (Pa X.prog X.w p []))):=by
 intro pins s σ H xs c Q I r h;obtain⟨rfl,q⟩:=h;cases r;refine call_set_0 λa=>⟨.ref s.heap.objs.size,_,I.laid (t':=s.toks) (λb o e=>AD _ e) (Nat.le_refl _) (Xe ?_),rfl,q _ (I.hok.fresh (Nat.le_refl _))⟩;exact⟨_,#[],0,_,BG _ rfl,⟨rfl,rfl,rfl⟩,rfl,.refl _,⟨rfl,rfl,.inl rfl,by show 0*5<7*3;decide⟩⟩
def zGw(P:Cv)(w:HS):R2:=λx y H Q=>∃a p ks k,y = .ref a/\x = .ref p/\H a=some (Pa P w a ks)/\H p=some (.tup (k.map kV))/\Ld H ks/\(∀q∈ks,q.1≠k)/\Q (.bl false) H
theorem Ol(b:X.A.units+1<cLine):LK X (compareOp .In) (zGw X.prog X.w):=by
 intro pins s σ H x y v u Q I c d h;obtain⟨a,p,ks,k,rfl,rfl,e,f,g,i,q⟩:=h;cases d;cases c;exact ST.TQ (neg:=false) b (My _ _) (I.sett e) (λz j=>j8 I.hok (g z j)) (j8 I.hok f) i ⟨.bl false,H,I.tok _,rfl,q⟩
def zBm(P:Cv)(w:HS):V->A0 V->Hp->VK->Prop:=λx b H Q=>∃a p ks k,x = .ref a/\b = [.ref p]/\H a=some (Pa P w a ks)/\H p=some (.tup (k.map kV))/\Ld H ks/\(∀q∈ks,q.1≠k)/\ks.length+1<=300/\Q .non (HU H a (Pa P w a (ks ++ [(k,p)])))
theorem Yo(d:X.A.units+1<cLine):RT X "set.add" (zBm X.prog X.w):=by
 intro pins s σ H x B v C Q I f g h;obtain⟨a,p,ks,k,rfl,rfl,c,i,j,l,m,q⟩:=h;cases f;obtain⟨u,rfl,n⟩:=g.one;cases n;refine ST.SV d (My _ _) (Wf _ _) (I.sett c) (λz r=>j8 I.hok (j z r)) (j8 I.hok i) l m λD t z=>?_;exact⟨.non,_,I.write (x:=a) (e:=a) (by rw[c];exact True.intro) (.inl rfl) (λb q y e=>(t.2 b y).trans e) (let⟨o,_,_,_,e,_⟩:=z;⟨o,e⟩) (Xe z),rfl,q⟩
end
section
variable{X:Cx}
theorem Ro:J2 X (.builtin "isinstance") (λxs H Q=>∃x n t b,xs = [x,.ty n]/\MP X.K H x t/\PySem.W.kitOne X.K t (.type n)=some b/\Q (.bl b) H):=by
 intro a s σ H xs g Q I r h;obtain⟨x,n,t,b,rfl,c,d,q⟩:=h;obtain⟨u,v,rfl,e,f⟩:=r.two;cases f;exact Pu I e c d λi=>⟨.bl b,H,I.tok _,rfl,q⟩
end
mutual
def Rp(K:PySem.W.Frag)(H:Hp):PyData->V->Prop
 | .none,v=>v = .non
 | .bool b,v=>v = .bl b
 | .int i,v=>v = .int i
 | .str x,v=>v = .str x
 | .list d,v=>∃a c,v = .ref a/\HY K H a c/\PY K H d c
 | .tuple d,v=>∃a c,v = .ref a/\JC K H a c/\PY K H d c
 | .dict _,_=>False
def PY(K:PySem.W.Frag)(H:Hp):A0 PyData->A0 V->Prop
 | [],a=>a = []
 | d::b,a=>∃v r,a=v::r/\Rp K H d v/\PY K H b r
end
section
variable{X:Cx}{pins:A0 (A2×Obj)}{σ:St}{H:Hp}{s:A5}
mutual
theorem Inv.reads(I:Inv X pins σ H s):∀(d:PyData) (v:V) (u:A1),Rp X.K H d v->RelV v u->∃as,Reads s.heap u d as
 | .none,v,u,h,r=>by
  cases(show v = .non by simpa [Rp] using h);cases r;exact⟨_,.none⟩
 | .bool b,v,u,h,r=>by
  cases(show v = .bl b by simpa [Rp] using h);cases r;exact⟨_,.bool b⟩
 | .int i,v,u,h,r=>by
  cases(show v = .int i by simpa [Rp] using h);obtain⟨t,rfl⟩:=r;exact⟨_,.int i t⟩
 | .str x,v,u,h,r=>by
  cases(show v = .str x by simpa [Rp] using h);obtain⟨t,rfl⟩:=r;exact⟨_,.str x t⟩
 | .list j,v,u,h,r=>by
  obtain⟨a,c,e,k,l⟩:=(show ∃a c,v=V.ref a/\HY X.K H a c/\PY X.K H j c by simpa [Rp] using h);subst e;cases r;obtain⟨f,m,⟨o,n,e,p,q,g⟩,_⟩:=I.list k;obtain⟨as,z⟩:=I.readsAll j c f l m;exact⟨_,.list e p g (by simpa using z)⟩
 | .tuple j,v,u,h,r=>by
  obtain⟨a,c,e,k,l⟩:=(show ∃a c,v=V.ref a/\JC X.K H a c/\PY X.K H j c by simpa [Rp] using h);subst e;cases r;obtain⟨f,m,⟨o,e,p,n,g⟩,_⟩:=I.tuple k;obtain⟨as,z⟩:=I.readsAll j c f l m;exact⟨_,.tuple e p g (by simpa using z)⟩
 | .dict _,v,u,h,r=>by simp[Rp]at h
theorem Inv.readsAll(I:Inv X pins σ H s):∀(a:A0 PyData) (vs:A0 V) (us:A0 A1),PY X.K H a vs->IC vs us->∃as,ReadsAll s.heap us a as
 | [],vs,us,h,r=>by
  cases(show vs = [] by simpa [PY] using h);cases r;exact⟨_,.nil⟩
 | d::a,vs,us,h,r=>by
  obtain⟨v,b,e,c,f⟩:=(show ∃v r,vs=v::r/\Rp X.K H d v/\PY X.K H a r by simpa [PY] using h);subst e;cases r with
  | cons g i =>
   obtain⟨as,z⟩:=I.reads d v _ c g;obtain⟨k,j⟩:=I.readsAll a b _ f i;exact⟨_,.cons z j⟩
end
def Pl(d:PyData):Prop:=d.canLay0=true/\d.depth<=50
def UX(K:PySem.W.Frag):R2:=λx y H Q=>∃d e,Rp K H d x/\Rp K H e y/\Pl d/\Pl e/\Q (.bl (!PyData.eqv d e)) H
def zBz(m:X.A.units+64<cLine):LK X (compareOp .NotEq) (UX X.K):=by
 intro a s σ H x y v u Q I f g h;obtain⟨d,e,i,j,b,c,q⟩:=h;obtain⟨n,k⟩:=I.reads d x v i f;obtain⟨o,l⟩:=I.reads e y u j g;exact PySem.SeqAt.compareNe_reads k l b.1 c.1 (by have:=b.2;have:=c.2;lia) ⟨.bl (!PyData.eqv d e),H,I,rfl,q⟩
def UP(K:PySem.W.Frag)(neg:Bool):R2:=λx y H Q=>∃d a,Rp K H d x/\(Rp K H (.list a) y\/Rp K H (.tuple a) y)/\Pl d/\PyData.canLayAll0 a=true/\Q (.bl (if neg then !(a.any λz=>PyData.eqv z d)else a.any λz=>PyData.eqv z d)) H
def zDs(n:X.A.units+64<cLine):LK X (compareOp .In) (UP X.K false):=by
 intro f s σ H x y v u Q I k g h;obtain⟨d,b,l,h2,c,i,q⟩:=h;obtain⟨o,j⟩:=I.reads d x v l k;have a:X.A.units+1+min (PyData.depthAll b) d.depth<cLine:=by have:=c.2;lia
 rcases h2 with h2 | h2
 .obtain⟨m,e⟩:=I.reads (.list b) y u h2 g;exact PySem.SeqAt.in_list_reads e j i c.1 a ⟨.bl _,H,I,rfl,q⟩
 .obtain⟨m,e⟩:=I.reads (.tuple b) y u h2 g;exact PySem.SeqAt.in_tuple_reads e j i c.1 a ⟨.bl _,H,I,rfl,q⟩
def Tk(n:X.A.units+64<cLine):LK X (compareOp .NotIn) (UP X.K true):=by
 intro f s σ H x y v u Q I k g h;obtain⟨d,b,l,h2,c,i,q⟩:=h;obtain⟨o,j⟩:=I.reads d x v l k;have a:X.A.units+1+min (PyData.depthAll b) d.depth<cLine:=by have:=c.2;lia
 rcases h2 with h2 | h2
 .obtain⟨m,e⟩:=I.reads (.list b) y u h2 g;exact PySem.SeqAt.notIn_list_reads e j i c.1 a ⟨.bl _,H,I,rfl,q⟩
 .obtain⟨m,e⟩:=I.reads (.tuple b) y u h2 g;exact PySem.SeqAt.notIn_tuple_reads e j i c.1 a ⟨.bl _,H,I,rfl,q⟩
end
section
variable{X:Cx}
def Lq:V->A0 V->Hp->VK->Prop:=λx b H Q=>∃z y a,x = .str z/\b = [.str y]/\(decide (z.length<y.length)||decide (Builtin.Str.strKind z<Builtin.Str.strKind y))=false/\(y.length == 0)=false /\
 (Builtin.Str.occurrences z y 0 z.length (z.length+1)).isEmpty=false/\z.length<=4000/\Builtin.Str.partsBetween z (Builtin.Str.occurrences z y 0 z.length (z.length+1)) y.length=a/\a.length<=4000/\∀l,H l=none->Q (.ref l) (HU H l (.lst (a.map V.str)))
theorem Hh:∀(ps:A0 Str) (a:Nat),IC (ps.map V.str) (strsFrom a ps)
 | [],_=>.nil
 | _::r,a=>.cons ⟨a,rfl⟩ (Hh r (a+1))
theorem Fr:RT X "str.split" Lq:=by
 intro a s σ H x k v l Q I c d h;obtain⟨z,y,m,rfl,rfl,e,f,g,n,rfl,o,q⟩:=h;obtain⟨t,rfl⟩:=c;obtain⟨u,rfl,⟨i,rfl⟩⟩:=d.one;have j:z.length<=sizeLine:=by rw[sizeLine_eq];lia
 have b:(Builtin.Str.partsBetween z (Builtin.Str.occurrences z y 0 z.length (z.length+1)) y.length).length<=sizeLine:=by rw[sizeLine_eq];lia
 refine call_meets F.slot_str_split (typeIs_str _ _ _) F.entry_str_split (F.args_str_split_2 _ _) (PySem.meets_str_split_sep z y t i e f g j b) ?_;exact⟨.ref s.heap.objs.size,_,I.lnew (Hh _ _) (by rw[AA];exact b),rfl,q _ I.fresh⟩
end
end L2
namespace L2
open PySem PySem.Spec PyProof.Rows
set_option genInjectivity false in
structure Fn(K:PySem.W.Frag)(mg:Str->A6 A1)(x:Str)(st:IE)(ps:A0 Str) where
 f:A2
 fd:IJ
 F:N_ K x x st f fd
 b:Binds K fd ps []
 m:mg x=some (.ref f)
set_option genInjectivity false in
structure Mt(K:PySem.W.Frag)(C:A2)(m qual:Str)(st:IE)(ps:A0 Str) where
 f:A2
 fd:IJ
 F:N_ K m qual st f fd
 b:Binds K fd ps []
 m:RU K C m f
section
variable{X:Cx}
theorem C8{x:Str}{st:IE}{ps:A0 Str}{k:Nat}{sp:Sp}{e:H_}{a:A0 H_}{t:TA}{p pos:Pos}(D:Fn X.K X.mg x st ps)(G:II X.prog X.w X.K X.mg X.base JG k D.f D.fd ps sp)(g:JH k X.A)(h:PA X (e::a) t)
  (i:Gl X x:=by rfl) (c:(x ==("__debug__":Str))=false:=by decide) (j:starEach (e::a) X.env =(false,eval e X.env)::starEach a X.env:=by rfl) (d:(backTo pos (starEach a X.env)).any (·.1)=false:=by rfl) :
  PE X (.Call (.Name x p) (e::a) [] pos) (Yg sp [] E0 t):=zAm G g i D.m D.F.kp D.b .nil Hc h c j d
def Pj(P:Cv)(w:HS)(x:V)(H:Hp):Prop:=∃p,x = .ref p/\((∃l,H p=some (Oz P w p l))\/(∃l,H p=some (Y8 w p l))\/∃a,H p=some (Pa P w p a))
theorem zCr{c:A0 (A2×Obj)}{σ:St}{H:Hp}{s:A5}{x:V}{v:A1}(I:Inv X c σ H s)(r:RelV x v)(ty:Pj X.prog X.w x H):s.TypeIs v "set"/\∀a,v = .ref a->∃d,s.heap.get? a=some d/\d.dict=none:=by
 obtain⟨p,rfl,h⟩:=ty;cases r;have z:∃o,s.heap.get? p=some o/\o.ExactSet:=by
  rcases h with⟨l,h⟩ | ⟨l,h⟩ | ⟨l,h⟩
  .obtain⟨o,_,_,_,e,b,_⟩:=I.set h;exact⟨o,e,b⟩
  .obtain⟨o,_,_,_,S,_⟩:=I.setw h;exact⟨o,S.ho,S.ex⟩
  .obtain⟨o,_,_,_,e,b,_⟩:=I.sett h;exact⟨o,e,b⟩
 obtain⟨o,e,b⟩:=z;refine⟨⟨o,e,b.1⟩,λa f=>?_⟩;cases f;exact⟨o,e,b.2.1⟩
def zGg(P:Cv)(w:HS)(r:V->A0 V->Hp->VK->Prop)(b:TE)(t:TA):TE:=λσ H Q=>b σ H λx a=>Pj P w x a/\t σ a λc d=>r x c d Q
theorem Yv{o e:H_}{i:TE}{t:TA}{c a:Pos}{r:V->A0 V->Hp->VK->Prop}(m:RT X "set.add" r)(n:PE X o i)(p:PA X [e] t)
  (d:attributeBase o "add" X.env (eval o X.env)=eval o X.env:=by rfl)
  (g:((backTo a (starEach [e] X.env)).all (λx=>!x.1) &&(backToKw a (keywordEach [] X.env)).all (λx=>x.1.isSome)
   && decide ([e].length +([]:A0 Keyword).length +(if([]:A0 Keyword).isEmpty then 0 else 1)<30))=true:=by rfl)
  (f:(c.endLine == a.line)=true:=by rfl) (q:starEach [e] X.env = [(false,eval e X.env)]:=by rfl) :
  PE X (.Call (.Attribute o "add" c) [e] [] a) (zGg X.prog X.w r i t):=by
 intro b s σ H Q I h;refine wpAny_Call_method_late d g f rfl (IZ (n b s σ H _ I h) λv u ⟨x,y,j,k,ty,z⟩=>?_);obtain⟨A,B⟩:=zCr j k ty;refine⟨"set", "set.add",F.plainAttrs_set,F.slot_set_add,F.type_set_add,A,B,?_⟩;have l:=p a b u σ y _ j z;rw[q]at l⊢;refine Calls.callWith_builtin rfl (Calls.evalArgs_plain ?_);exact IZ l λC D ⟨E,G,J,K,L⟩=>m b D σ G x E v C Q J k K L
theorem Zq{x:Str}{i:Int}{pos:Pos}(h:∃t,X.mg x=some (.int i t))(a:Gl X x:=by rfl)(b:(x ==("__debug__":Str))=false:=by decide):PE X (.Name x pos) (tC (.int i)):=by
 obtain⟨t,e⟩:=h;exact Jj a e ⟨t,rfl⟩ b
theorem zFs{x y:Str}{pos:Pos}(h:∃t,X.mg x=some (.str y t))(a:Gl X x:=by rfl)(b:(x ==("__debug__":Str))=false:=by decide):PE X (.Name x pos) (tC (.str y)):=by
 obtain⟨t,e⟩:=h;exact Jj a e ⟨t,rfl⟩ b
theorem Em{x:Str}{n:String}{pos:Pos}(a:X.mg x=none)(b:bootBuiltins x=some (.type n))(c:Gl X x:=by rfl)(d:x≠ "__name__":=by decide)(e:(x ==("__debug__":Str))=false:=by decide):PE X (.Name x pos) (tC (.ty n)) :=
 Zi c a b rfl d e
theorem G0{x:Str}{id:String}{r:A0 V->Hp->VK->Prop}{e:H_}{a:A0 H_}{t:TA}{p pos:Pos}(d:J2 X (.builtin id) r)(f:X.mg x=none)(g:bootBuiltins x=some (.builtin id))(h:PA X (e::a) t)(i:Gl X x:=by rfl)(j:x≠ "__name__":=by decide)(b:(x ==("__debug__":Str))=false:=by decide)
  (k:starEach (e::a) X.env =(false,eval e X.env)::starEach a X.env:=by rfl) (c:(backTo pos (starEach a X.env)).any (·.1)=false:=by rfl):PE X (.Call (.Name x p) (e::a) [] pos) (VE r t):=Wm d i f g h j b k c
theorem V4{x:Str}{T:String}{r:A0 V->Hp->VK->Prop}{e:H_}{a:A0 H_}{t:TA}{p pos:Pos}(d:J2 X (.type T) r)(f:X.mg x=none)(g:bootBuiltins x=some (.type T))(h:PA X (e::a) t)(i:Gl X x:=by rfl)(j:x≠ "__name__":=by decide)(b:(x ==("__debug__":Str))=false:=by decide)
  (k:starEach (e::a) X.env =(false,eval e X.env)::starEach a X.env:=by rfl) (c:(backTo pos (starEach a X.env)).any (·.1)=false:=by rfl):PE X (.Call (.Name x p) (e::a) [] pos) (VE r t):=Qx d i f g h j b k c
theorem E9{a:IT}{cl:A0 (Str×A2)}{N':A0 Str}{cap:A0 (A6 Nat)}(c:OA X a cl N' cap)(e:RJ X cl)(d:closureFor a X.env=pure cl:=by rfl)(kind:a.kind = .function:=by rfl)(b:∀y∈a.names,y.2≠ .cell:=by decide +kernel)
  (f:∀y∈a.names,y.2 = .local->a.names.lookup y.1=some .local:=by decide +kernel) (g:((relabel a X.env).names.all λy=>!(y.2 == .cell||y.2 == .free)||(cl.lookup y.1).isSome)=true:=by rfl):LU X a cl N' cap:=⟨kind,b,f,d,e,g,c⟩
theorem JQ{a:IT}{cl:A0 (Str×A2)}{N':A0 Str}{b:A0 (A2×Obj)}{c:A0 A2}{d:A5}{e:Hp}{x:Str}{pos:Pos}(i:Nat)(f:N'.Nodup:=by decide +kernel)(hi:N'[i]?=some x:=by rfl)(g:Loc (KJ X a cl N' b c d e).env.scope x:=by exact Or.inl rfl)
  (h:(KJ X a cl N' b c d e).env.scope.names.lookup x=some .local:=by rfl):PG (KJ X a cl N' b c d e) (.Name x pos) (P9 i):=E4 (X:=KJ X a cl N' b c d e) f hi g (.inr h)
end
def Q5:bootBuiltins "len" = some (.builtin "len"):=by decide +kernel
def Ij:bootBuiltins "enumerate" = some (.type "enumerate"):=by decide +kernel
def zCo:bootBuiltins "min" = some (.builtin "min"):=by decide +kernel
def Xx:bootBuiltins "max" = some (.builtin "max"):=by decide +kernel
def Xd:bootBuiltins "abs" = some (.builtin "abs"):=by decide +kernel
def J0:bootBuiltins "sorted" = some (.builtin "sorted"):=by decide +kernel
def Ts:bootBuiltins "int" = some (.type "int"):=by decide +kernel
def Xg:bootBuiltins "str" = some (.type "str"):=by decide +kernel
def Yi:bootBuiltins "bool" = some (.type "bool"):=by decide +kernel
def X4:bootBuiltins "list" = some (.type "list"):=by decide +kernel
def Dv:bootBuiltins "tuple" = some (.type "tuple"):=by decide +kernel
def Cu:bootBuiltins "set" = some (.type "set"):=by decide +kernel
def F4:bootBuiltins "isinstance" = some (.builtin "isinstance"):=by decide +kernel
def Hi:bootBuiltins "all" = some (.builtin "all"):=by decide +kernel
def KF(a:A2)(b H:Hp):Prop:=∀o,b a=some o->H a=some o
def Sm(D:A0 A2)(H H':Hp):Prop:=∀b o,H b=some o->b∉D->H' b=some o
def CW.at{b H:Hp}(h:CW b H)(a:A2):KF a b H:=λo e=>h a o e
def CW.new{H:Hp}{p:A2}{o:HO}(h:H p=none):CW H (HU H p o):=λb u e=>by rw[B8 (B3 e h)];exact e
def CW.upd{a H:Hp}{p:A2}{o:HO}(s:CW a H)(h:a p=none):CW a (HU H p o):=λb u e=>by rw[B8 (B3 e h)];exact s b u e
def CW.sm{D:A0 A2}{H H':Hp}(h:CW H H'):Sm D H H':=λb o e _=>h b o e
def Sm.refl(D:A0 A2)(H:Hp):Sm D H H:=λ_ _ e _=>e
def Sm.trans{D:A0 A2}{H d e:Hp}(a:Sm D H d)(b:Sm D d e):Sm D H e:=λc o h n=>b c o (a c o h n) n
def Sm.new{D:A0 A2}{H c:Hp}{p:A2}{o:HO}(a:Sm D H c)(h:c p=none):Sm D H (L2.HU c p o):=λb u e n=>by
 have:=a b u e n;rw[B8 (B3 this h)];exact this
def Sm.upd{D:A0 A2}{H c:Hp}{p:A2}{o:HO}(a:Sm D H c)(h:p∈D):Sm D H (L2.HU c p o):=λb u e n=>by
 rw[B8 (show b≠p from λz=>n (by rw[z];exact h))];exact a b u e n
def Sm.updN{D:A0 A2}{H c:Hp}{p:A2}{o:HO}(a:Sm D H c)(h:H p=none):Sm D H (L2.HU c p o):=λb u e n=>by rw[B8 (B3 e h)];exact a b u e n
def KF.seqL{K:PySem.W.Frag}{H H':Hp}{a:A2}{xs:A0 V}(e:KF a H H')(h:HY K H a xs):HY K H' a xs:=by
 rcases h with(h | ⟨o,h⟩) | h
 .exact .inl (.inl (e _ h))
 .exact .inl (.inr ⟨o,e _ h⟩)
 .exact .inr h
def KF.seqT{K:PySem.W.Frag}{H H':Hp}{a:A2}{xs:A0 V}(e:KF a H H')(h:JC K H a xs):JC K H' a xs:=by
 rcases h with(h | ⟨o,h⟩) | h
 .exact .inl (.inl (e _ h))
 .exact .inl (.inr ⟨o,e _ h⟩)
 .exact .inr h
def VL(K:PySem.W.Frag)(H:Hp)(a:A2)(xs:A0 V):Prop:=HY K H a xs\/JC K H a xs
def KF.seq{K:PySem.W.Frag}{H H':Hp}{a:A2}{xs:A0 V}(e:KF a H H')(h:VL K H a xs):VL K H' a xs:=h.imp e.seqL e.seqT
structure NE(J:It)(xs:A0 V)(a:A2)(H0:Hp):Prop where
 go:∀H i,KF a H0 H->i<xs.length->J.go i H
 stop:∀H,KF a H0 H->J.stop xs.length H
 yld:∀H i x H',KF a H0 H->i<xs.length->J.yld i H x H'->H'=H/\xs[i]?=some x
def KI{K:PySem.W.Frag}{b:Hp}{a:A2}{xs:A0 V}(h:HY K b a xs):NE (SM K a) xs a b :=
 ⟨λH i k c=>⟨xs,xs[i],k.seqL h,AU c⟩,λH k=>⟨xs,k.seqL h,Nat.le_refl _⟩,λH i x d k c ⟨e,y⟩=>⟨e,y xs (k.seqL h)⟩⟩
def Vb{J:It}{n:Nat}{g:TG}{f:TS}{D:Ends}{σ:St}{H:Hp}(Pv:Nat->St->Hp->Prop)(j:Pv 0 σ H)(b:∀i σ H,i<n->Pv i σ H->J.go i H)(c:∀σ H,Pv n σ H->J.stop n H)
  (k:∀i σ H x H',i<n->Pv i σ H->J.yld i H x H'->g x σ H' λσ2 d=>f { D with nx:=Pv (i+1),ct:=Pv (i+1),bk:=D.nx } σ2 d) (l:∀σ H,Pv n σ H->D.nx σ H) :
  ∃W:Nat->Nat->St->Hp->Prop,(∃m,W 0 m σ H)/\∀i m σ H,W i m σ H ->
   (J.stop i H/\D.nx σ H)\/(J.go i H/\∃N:St->Hp->Prop,(∀σ' H',N σ' H'->∃h,h < m/\W (i+1) h σ' H')/\∀x H',J.yld i H x H'->g x σ H' λσ2 d=>f { D with nx:=N,ct:=N,bk:=D.nx } σ2 d):=by
 refine⟨λi m σ H=>m=n-i/\i<=n/\Pv i σ H,⟨n,by simp,BR _,j⟩,?_⟩;rintro i m σ H ⟨rfl,q,p⟩;by_cases a:i<n
 .exact .inr ⟨b i σ H a p,Pv (i+1),λσ' H' o=>⟨n-(i+1),by lia,rfl,a,o⟩,λx H' y=>k i σ H x H' a p y⟩
 .have e:i=n:=by lia
  subst e;exact .inl ⟨c σ H p,l σ H p⟩
def zCz{J:It}{xs:A0 V}{a:A2}{f:Hp}(as:NE J xs a f){g:TG}{h:TS}{D:Ends}{σ:St}{H:Hp}(Pv:Nat->St->Hp->Prop)(k:Pv 0 σ H)(c:∀i σ H,i<=xs.length->Pv i σ H->KF a f H)
  (l:∀i σ H x,xs[i]?=some x->Pv i σ H->g x σ H λσ2 d=>h { D with nx:=Pv (i+1),ct:=Pv (i+1),bk:=D.nx } σ2 d) (o:∀σ H,Pv xs.length σ H->D.nx σ H) :
  ∃W:Nat->Nat->St->Hp->Prop,(∃m,W 0 m σ H)/\∀i m σ H,W i m σ H ->
   (J.stop i H/\D.nx σ H)\/(J.go i H/\∃N:St->Hp->Prop,(∀σ' H',N σ' H'->∃j,j < m/\W (i+1) j σ' H')/\∀x H',J.yld i H x H'->g x σ H' λσ2 d=>h { D with nx:=N,ct:=N,bk:=D.nx } σ2 d) :=
 Vb (n:=xs.length) Pv k (λi σ H b p=>as.go H i (c i σ H (DB b) p) b) (λσ H p=>as.stop H (c _ σ H (Nat.le_refl _) p)) (λi σ H x H' b p y=>by
  obtain⟨rfl,e⟩:=as.yld H i x H' (c i σ H (DB b) p) b y;exact l i σ _ x e p) o
def Na{J:It}{n:Nat}{g:TG}{f:TT}{h:SW}{σ:St}{H:Hp}{Q:St->Hp->Prop}(Pv:Nat->St->Hp->Prop)(k:Pv 0 σ H)(c:∀i σ H,i<n->Pv i σ H->J.go i H)(d:∀σ H,Pv n σ H->J.stop n H)
  (l:∀i σ H x H' (N:St->Hp->Prop),i<n->Pv i σ H->J.yld i H x H'->(∀σ' H',Pv (i+1) σ' H'->N σ' H')->g x σ H' λσ2 o=>f σ2 o λb j=>if b=true then h σ2 j N else N σ2 j)
  (q:∀σ H,Pv n σ H->Q σ H):Aa g f h J σ H Q:=by
 refine⟨λi m σ H=>m=n-i/\i<=n/\Pv i σ H,⟨n,by simp,BR _,k⟩,?_⟩;rintro i m σ H ⟨rfl,s,p⟩;by_cases a:i<n
 .exact .inr ⟨c i σ H a p,λx H' y=>l i σ H x H' _ a p y λσ3 t r=>⟨n-(i+1),by lia,rfl,a,r⟩⟩
 .have e:i=n:=by lia
  subst e;exact .inl ⟨d σ H p,q σ H p⟩
def J6{J:It}{xs:A0 V}{a:A2}{f:Hp}(as:NE J xs a f){g:TG}{h:TT}{j:SW}{σ:St}{H:Hp}{Q:St->Hp->Prop}(Pv:Nat->St->Hp->Prop)(l:Pv 0 σ H)(d:∀i σ H,i<=xs.length->Pv i σ H->KF a f H)
  (m:∀i σ H x (N:St->Hp->Prop),xs[i]?=some x->Pv i σ H->(∀σ' H',Pv (i+1) σ' H'->N σ' H')->g x σ H λσ2 o=>h σ2 o λb k=>if b=true then j σ2 k N else N σ2 k)
  (q:∀σ H,Pv xs.length σ H->Q σ H):Aa g h j J σ H Q :=
 Na (n:=xs.length) Pv l (λi σ H c p=>as.go H i (d i σ H (DB c) p) c) (λσ H p=>as.stop H (d _ σ H (Nat.le_refl _) p)) (λi σ H x H' N c p y r=>by
  obtain⟨rfl,e⟩:=as.yld H i x H' (d i σ H (DB c) p) c y;exact m i σ _ x N e p r) q
def S3{a:SW}{N:St->Hp->Prop}{σ:St}{H:Hp}{i:Nat}{x:V}(h:a (σ.set i (some x)) H N):P9 i x σ H λσ2 d=>V7 σ2 d λb c=>if b=true then a σ2 c N else N σ2 c:=by
 show if true=true then a (σ.set i (some x)) H N else N (σ.set i (some x)) H
 rw[AY rfl];exact h
section
variable{X:Cx}(K:PySem.W.Frag)(P:Cv)(w:HS){tg:H_}
theorem JX{l:H_}{a:TE}(b:PE X l a)(c:X.K=K:=by rfl):PI X tg l (zBj K a):=by subst c;exact Ys b
theorem piE{b:A0 H_}{kk:Nat}{d:Pos}{a:H_}{c:TA}{p pos:Pos}(e:X.mg "enumerate" = none)(f:PA X [a] c)(g:Gl X "enumerate":=by rfl)(h:starEach [a] X.env = [(false,eval a X.env)]:=by rfl)(i:X.K=K:=by rfl) :
  PI X (.Tuple b kk d) (.Call (.Name "enumerate" p) [a] [] pos) (zDo K c):=by subst i;exact Yl g e Ij f h
theorem Yq{a:H_}{b:TA}{p pos:Pos}(c:X.mg "range" = none)(d:PA X [a] b)(e:Gl X "range":=by rfl)(f:starEach [a] X.env = [(false,eval a X.env)]:=by rfl):PI X tg (.Call (.Name "range" p) [a] [] pos) (zCv b):=Ss e c d f
theorem Q_{a:A0 H_}{k:Nat}{t:UD}{n:Nat}{pos:Pos}(h:VN X a t)(c:X.calm=true:=by rfl)(d:(assignEach a X.env).length=n:=by rfl)(b:(assignEach a X.env).findIdx? (·.1)=none:=by rfl)(e:X.K=K:=by rfl):PG X (.Tuple a k pos) (zGl K n t):=by subst e;exact zDm c h d b
theorem PQ{e:H_}{a:TE}{f:Str}{pos:Pos}(b:PE X e a)(c:attributeBase e f X.env (eval e X.env)=eval e X.env:=by rfl)(d:X.K=K:=by rfl):PE X (.Attribute e f pos) (zGx K a f):=by subst d;exact zCq b c
theorem TZ{o a:H_}{c d:TE}{f:Str}{pos b:Pos}(e:PE X o c)(g:PE X a d)(h:swapsWith a (some (.Attribute o f b)) pos.line X.env=pure false:=by rfl)(i:X.K=K:=by rfl):PS X (.Assign [.Attribute o f b] a pos) (zFg K c d f):=by subst i;exact zDb e g h
theorem U2(b:X.K=K:=by rfl):J2 X (.builtin "len") (λxs H Q=>∃p a,xs = [.ref p]/\(HY K H p a\/JC K H p a)/\Q (.int a.length) H):=by subst b;exact Fv
theorem a7(b:X.K=K:=by rfl):J2 X (.type "list") (λxs H Q=>∃p a,xs = [.ref p]/\(HY K H p a\/JC K H p a)/\∀l,H l=none->Q (.ref l) (HU H l (.lst a))):=by subst b;exact Gw
theorem Hj(a:X.calm=true:=by rfl)(b:X.K=K:=by rfl):J2 X (.builtin "all") (λxs H Q=>∃(p:A2) (bs:A0 Bool),xs = [.ref p]/\HY K H p (bs.map V.bl)/\Q (.bl (bs.all id)) H):=by subst b;exact Wq a
theorem O7(b:X.K=K:=by rfl):J2 X (.builtin "sorted") (λxs H Q=>∃(p:A2) (ss:A0 Str),xs = [.ref p]/\HY K H p (ss.map V.str)/\∀(l:A2) (a:A0 Str),H l=none->a.Perm ss->a.Pairwise QL->Q (.ref l) (HU H l (.lst (a.map V.str)))):=by subst b;exact Hg
theorem Ml(b:X.K=K:=by rfl):J2 X (.builtin "sorted") (λxs H Q=>∃(p:A2) (ps:A0 IU),xs = [.ref p]/\HY K H p (ps.map λq=>V.ref q.1)/\(∀q∈ps,I9 H q)/\∀(l:A2) (a:A0 IU),H l=none->a.Perm ps->a.Pairwise US->Q (.ref l) (HU H l (.lst (a.map λq=>V.ref q.1)))):=by subst b;exact Hz
theorem Er(b:X.calm=true:=by rfl)(hw:X.w=w:=by rfl):J2 X (.builtin "sorted") (λxs H Q=>∃(p:A2) (ss:A0 Str),xs = [.ref p]/\H p=some (Y8 w p ss)/\∀(l:A2) (a:A0 Str),H l=none->a.Perm ss->a.Pairwise QL->Q (.ref l) (HU H l (.lst (a.map V.str)))):=by subst hw;exact Hf b
theorem p9(a:X.K=K:=by rfl):J2 X (.builtin "isinstance") (λxs H Q=>∃x n t b,xs = [x,.ty n]/\MP K H x t/\PySem.W.kitOne K t (.type n)=some b/\Q (.bl b) H):=by subst a;exact Ro
theorem Yp(a:X.prog=P:=by rfl)(hw:X.w=w:=by rfl):J2 X (.type "set") (λxs H Q=>xs = []/\∀p,H p=none->Q (.ref p) (HU H p (Oz P w p []))):=by subst a;subst hw;exact Rs
theorem Vz(a:X.prog=P:=by rfl)(hw:X.w=w:=by rfl):J2 X (.type "set") (λxs H Q=>xs = []/\∀p,H p=none->Q (.ref p) (HU H p (Pa P w p []))):=by subst a;subst hw;exact Nz
theorem zFu(a:X.A.units+64<cLine)(b:X.K=K:=by rfl):LK X (compareOp .In) (UP K false):=by subst b;exact zDs a
theorem Wn(a:X.A.units+64<cLine)(b:X.K=K:=by rfl):LK X (compareOp .NotIn) (UP K true):=by subst b;exact Tk a
theorem Vf(a:X.A.units+64<cLine)(b:X.K=K:=by rfl):LK X (compareOp .NotEq) (UX K):=by subst b;exact zBz a
theorem U9(a:X.K=K:=by rfl):LK X (compareOp .In) (UQ K false):=by subst a;exact Tw
theorem S2(a:X.K=K:=by rfl):LK X (compareOp .NotIn) (UQ K true):=by subst a;exact Gr
theorem zFc(a:X.prog=P:=by rfl)(hw:X.w=w:=by rfl):LK X (compareOp .In) (zGo P w false):=by subst a;subst hw;exact Qs
theorem zFh(a:X.A.units+1<cLine)(b:X.prog=P:=by rfl)(hw:X.w=w:=by rfl):LK X (compareOp .In) (zGw P w):=by subst b;subst hw;exact Ol a
theorem zDw(a:X.prog=P:=by rfl)(hw:X.w=w:=by rfl):RT X "set.add" (zBi P w):=by subst a;subst hw;exact zCp
theorem zCg(a:X.A.units+1<cLine)(b:X.prog=P:=by rfl)(hw:X.w=w:=by rfl):RT X "set.add" (zBm P w):=by subst b;subst hw;exact Yo a
theorem Qq{o e:H_}{g:TE}{t:TA}{b a:Pos}{r:V->A0 V->Hp->VK->Prop}(h:RT X "set.add" r)(i:PE X o g)(j:PA X [e] t)
  (c:attributeBase o "add" X.env (eval o X.env)=eval o X.env:=by rfl)
  (f:((backTo a (starEach [e] X.env)).all (λx=>!x.1) &&(backToKw a (keywordEach [] X.env)).all (λx=>x.1.isSome)
   && decide ([e].length +([]:A0 Keyword).length +(if([]:A0 Keyword).isEmpty then 0 else 1)<30))=true:=by rfl)
  (d:(b.endLine == a.line)=true:=by rfl) (k:starEach [e] X.env = [(false,eval e X.env)]:=by rfl) (l:X.prog=P:=by rfl) (hw:X.w=w:=by rfl) :
  PE X (.Call (.Attribute o "add" b) [e] [] a) (zGg P w r g t):=by subst l;subst hw;exact Yv h i j c f d k
theorem KL(a:X.K=K:=by rfl):VP X (zGh K):=by subst a;exact Yn
theorem LM(a:X.K=K:=by rfl):VP X (zGf K):=by subst a;exact zBs
theorem slL(a:X.K=K:=by rfl):VM X (zGd K):=by subst a;exact Yt
theorem ptV{a:H_}{c:TE}(d:PE X a c)(e:∀b,isTrue a X.env b =(do let v <-b;standAt a.pos;holding [v] (truthy v)):=by intro _;rfl)(f:X.K=K:=by rfl):PT X a (λσ H Q=>c σ H λx H'=>∃k,zEs K x H' k/\Q k H'):=by subst f;exact Wv d e
theorem Ln{T id:String}{name:Str}{o e:H_}{d:A0 H_}{k:TE}{t:TA}{c a:Pos}{r:V->A0 V->Hp->VK->Prop}(l:PlainAttrs T)(h:Slot T name id)(j:typeOf (.builtin id)=pure (.type "method_descriptor"))(m:RT X id r)(n:PE X o k)(p:PA X (e::d) t)
  (f:attributeBase o name X.env (eval o X.env)=eval o X.env:=by rfl)
  (i:((backTo a (starEach (e::d) X.env)).all (λx=>!x.1) &&(backToKw a (keywordEach [] X.env)).all (λx=>x.1.isSome)
   && decide ((e::d).length +([]:A0 Keyword).length +(if([]:A0 Keyword).isEmpty then 0 else 1)<30))=true:=by rfl)
  (g:(c.endLine == a.line)=true:=by rfl) (q:starEach (e::d) X.env =(false,eval e X.env)::starEach d X.env:=by rfl) (b:(backTo a (starEach d X.env)).any (·.1)=false:=by rfl) (s:X.K=K:=by rfl) :
  PE X (.Call (.Attribute o name c) (e::d) [] a) (tBM K T r k t):=by subst s;exact zEx l h j m n p f i g q b
theorem zEq{T id:String}{name:Str}{o:H_}{g:TE}{a b:Pos}{r:V->A0 V->Hp->VK->Prop}(h:PlainAttrs T)(e:Slot T name id)(f:typeOf (.builtin id)=pure (.type "method_descriptor"))(i:RT X id r)(j:PE X o g)
  (c:attributeBase o name X.env (eval o X.env)=eval o X.env:=by rfl) (d:(a.endLine == b.line)=true:=by rfl) (k:X.K=K:=by rfl):PE X (.Call (.Attribute o name a) [] [] b) (zGp K T r g):=by subst k;exact zDr h e f i j c d
end
section
variable{X:Cx}
theorem Nk{f:A0 (A2×Obj)}{σ:St}{H:Hp}{s:A5}{A:HZ}{E:A1->A5->Prop}{Q:A1->A5->Prop}{b:Bool}{x:V}{u t:A1}{l:A2}{its:A0 A1}(I:Inv X f σ H s)(g:RelV x u)(ty:MP X.K H x t)(i:IsTup s.heap l its.toArray)(e:PySem.W.kitAny X.K t its=some b)(m:(∃y,x = .str y)\/(∃a xs,x = .ref a/\(H a=some (.lst xs)\/H a=some (.tup xs))))(h:∀r,Q (.bool b) { s with toks:=r }) :
  wpAny (model X.prog X.w) A (call (.builtin "isinstance") [u,.ref l]) Q E s:=by
 obtain⟨⟨G,J,v,B⟩,j,C,n,D⟩:=i;cases C;cases D;rcases m with⟨y,rfl⟩ | ⟨a,xs,rfl,ea | ea⟩
 .cases ty;obtain⟨t,q⟩:=(show ∃t,u=Value.str y t from g);cases q;exact PySem.W.kia_tup PySem.W.kitx_str I.kIn True.intro j e (λz=>nomatch z) h
 .cases(show u=Value.ref a from g);have d:t = .type "list":=by cases ty with
   | lst=>rfl
   | frz=>rfl
   | tup c=>rw[ea]at c;cases c
   | dK c=>rw[ea]at c;cases c
   | dT c=>rw[ea]at c;cases c
   | ins c=>rw[ea]at c;cases c
  subst d;obtain⟨_,_,n,_,k⟩:=(show IM X.prog X.w H s.heap a (.lst xs)from I.hok a _ ea);exact PySem.W.kia_tup PySem.W.kitx_list I.kIn ⟨_,k,rfl⟩ j e (λz=>nomatch z) h
 .cases(show u=Value.ref a from g);have d:t = .type "tuple":=by cases ty with
   | tup=>rfl
   | frz c=>rw[ea]at c;cases c
   | lst c=>rw[ea]at c;cases c
   | dK c=>rw[ea]at c;cases c
   | dT c=>rw[ea]at c;cases c
   | ins c=>rw[ea]at c;cases c
  subst d;obtain⟨_,_,_,p⟩:=(show IM X.prog X.w H s.heap a (.tup xs)from I.hok a _ ea);obtain⟨o,k,F,_⟩:=p;exact PySem.W.kia_tup PySem.W.kitx_tuple I.kIn ⟨o,k,F⟩ j e (λz=>nomatch z) h
def Zr(K:PySem.W.Frag):A0 V->Hp->VK->Prop:=λc H Q=>∃(x:V) (p:A2) (d:A0 String) (t:A1) (b:Bool),c = [x,.ref p]/\H p=some (.tup (d.map V.ty))/\MP K H x t/\((∃y,x = .str y)\/(∃a c,x = .ref a/\(H a=some (.lst c)\/H a=some (.tup c))))/\PySem.W.kitAny K t (d.map Value.type)=some b/\Q (.bl b) H
theorem Jq:∀{ns:A0 String} {us:A0 A1},IC (ns.map V.ty) us->us=ns.map Value.type
 | [],_,.nil=>rfl
 | _::_,_,.cons r t=>by rw[BP,Jq t];cases r;rfl
theorem Ov:J2 X (.builtin "isinstance") (Zr X.K):=by
 intro c s σ H l m Q I r h;obtain⟨x,p,n,t,b,rfl,e,f,g,i,q⟩:=h;obtain⟨u,v,rfl,j,a⟩:=r.two;cases a;obtain⟨k,a,d,o⟩:=I.tuple (JC.of e);rw[Jq a]at d;exact Nk I j f d i g λw=>⟨.bl b,H,I.tok _,rfl,q⟩
variable(K:PySem.W.Frag)
theorem Va(a:X.K=K:=by rfl):J2 X (.builtin "isinstance") (Zr K):=by subst a;exact Ov
end
section
variable{X:Cx}{tg iter elt:H_}{ifs:A0 H_}{scope:IT}{cl:A0 (Str×A2)}{N':A0 Str}{cap:A0 (A6 Nat)}{wi:TI}{pos:Pos}
theorem Gj{e:H_}{gs:A0 Comprehension}{newAcc:Sem A1}{p2:Pos}{use:A6 (A1->Sem Unit)}{Qv:A1->A5->Prop}(q:clausesOf e =⟨tg,iter,ifs,0⟩::gs)(o:A2->HO)(hs:∀x,foldedSetIterable iter X.env x=pure x)(S:LU X scope cl N' cap)(hc:X.calm=true)(hi:PI X tg iter wi)
  {lp:A2->It->St->Hp->(St->Hp->Prop)->Prop}
  (r:∀(a:A0 (A2×Obj)) (s:A5) (σ:St) (H:Hp) (Q:A1->A5->Prop) (E:A1->A5->Prop),Inv X a σ H s->(∀g,Inv X a σ (HU H s.heap.objs.size (o s.heap.objs.size)) g->(∀b f,s.heap.get? b=some f->g.heap.get? b=some f)->Q (.ref s.heap.objs.size) g)->wpAny (model X.prog X.w) X.A newAcc Q E s)
  (L:∀(a:A0 (A2×Obj)) (M:A0 A2) (s3:A5) (N:Hp) (D l:A2) (fp:A0 A2) (t:Nat->HX->Prop) (J:It) (σ:St) (s:A5) (H:Hp) (Q:St->Hp->Prop) (R:Result->A5->Prop),
   PX X.prog X.w X.K tg J fp l t->Inv (KJ X scope cl N' a M s3 N) [] σ H s->t 0 s.heap->(∀b∈fp,Ar (KJ X scope cl N' a M s3 N) [] H b)->lp D J σ H Q ->
   (∀g σ' H',Inv (KJ X scope cl N' a M s3 N) [] σ' H' g->Q σ' H'->R (.ok .next) g) ->
   codeAny (model X.prog X.w) X.A (.compLoop e 0 (.ref l) (.ref D) (compEnvC scope cl s3.heap.objs.size X.env)) R s)
  (O:∀l D i,X.A.under (.compStart e 0 (.ref l) (.ref D) i)=X.A) (u:∀l D i,(model X.prog X.w).den (.compStart e 0 (.ref l) (.ref D) i) =(compStart e 0 (.ref l) (.ref D) i).onRaise (λx=>do noteFrame x i;standAt theWindowsPlace))
  {a:A0 (A2×Obj)} {s:A5} {σ:St} {H:Hp} {Q:V->Hp->Prop} (I:Inv X a σ H s) (h:Fo wi o cap lp σ H Q)
  (B:∀(D:A2) (fp:A0 A2) (k:Hp) (s3 g:A5) (σ':St) (H':Hp),Inv X a σ k s3->(∀b∈fp,Ar X a k b)->Inv (KJ X scope cl N' a fp s3 k) [] σ' H' g->Q (.ref D) H'->compPost (model X.prog X.w) X.A X.xe use Qv (.ref D) s3.heap.objs.size (.ok .next) g) :
  wpAny (model X.prog X.w) X.A (comprehension e scope X.env p2 newAcc false (eval iter X.env) use) Qv X.xe s:=by
 refine GJ q hs S.clos S.kind S.loc (IZ (hi a s σ H _ I h) λv s1 C=>IZ C λitv j h2=>?_);obtain⟨l,fp,t,J,k,P,I2,T,F,f2,R2⟩:=h2;subst P;refine r a j σ k _ _ I2 λs3 U k3=>?_;have hD:k j.heap.objs.size=none:=I2.hok.fresh (Nat.le_refl _);have n:∀b∈fp,Ar X a (HU k j.heap.objs.size (o j.heap.objs.size)) b/\∃f,s3.heap.get? b=some f:=λb m=>by
  obtain⟨f,e,_⟩:=T.obj _ _ F b m;obtain⟨W,fr⟩:=f2 b m;exact⟨⟨by rw[B8 (BC (AK e))];exact W,fr⟩,f,k3 b f e⟩
 refine wpAny_newFunctionEnv S.nocell (by intro y hy;simp at hy) (λC Y Z=>?_) S.kind;have hk:∀b f,s3.heap.get? b=some f->C.get? b=some f:=λb f e=>(Z.2 b (BC (AK e))).trans (AD _ e);have I4:Inv (KJ X scope cl N' a fp s3 (HU k j.heap.objs.size (o j.heap.objs.size))) [] (Oh cap σ) (HU k j.heap.objs.size (o j.heap.objs.size)) { s3 with heap:=C,toks:=s3.toks +([]:A0 (Str×A1)).length } :=
  U.block S hc n Y hk
 have G:t 0 C:=T.keep 0 _ _ F λb m f e=>hk b f (k3 b f e);refine X9 (X:=KJ X scope cl N' a fp s3 (HU k j.heap.objs.size (o j.heap.objs.size))) (gs:=⟨tg,iter,ifs,0⟩::gs) (e:=e) (d:=0) (tg:=tg) (iter:=iter) (ifs:=ifs) (O _ _ _) (u _ _ _) q rfl T G ?_;refine L a fp s3 _ j.heap.objs.size l fp t J (Oh cap σ) _ _ _ _ T I4 G (λb m=>?_) (R2 _ hD) λg σ' H' I' q'=>?_
 .obtain⟨⟨W,f1,f2',f3,f4,f5⟩,f,eo⟩:=n b m;refine⟨W,BC (AK eo),λhf=>?_,.inl m,λx c e=>f4 x c (S.cin.get e),λp hp=>f5 p (by simpa [KJ] using hp)⟩;rcases A_.mp (U.stkSub b hf)with z | z
  .exact f1 z
  .exact f2' z
 .exact B _ fp _ s3 g σ' H' U (λb m=>(n b m).1) I' q'
theorem U8{i:Nat}{x:Str}{o j:Pos}{g:TG}{V:TT}{W:TE}(hN:X.N.Nodup)(hi:X.N[i]?=some x)(hx:Loc X.env.scope x)(S:LU X scope cl N' cap)(p:X.calm=true)(hI:PI X tg iter wi)
  (t:∀(d:A0 (A2×Obj)) (y:A0 A2) (l:A5) (A:Hp),PG (KJ X scope cl N' d y l A) tg g/\SX (KJ X scope cl N' d y l A) ifs V/\PE (KJ X scope cl N' d y l A) elt W)
  (hs:∀x,foldedSetIterable iter X.env x=pure x:=by intro _;rfl)
  (F:swapsWith (.ListComp elt [⟨tg,iter,ifs,0⟩] scope j) (some (.Name x o)) pos.line X.env=pure true:=by rfl)
  (G:X.fn x=true\/X.env.scope.names.lookup x=some .local:=by first | exact .inl rfl | exact .inr rfl | assumption) :
  PS X (.Assign [.Name x o] (.ListComp elt [⟨tg,iter,ifs,0⟩] scope j) pos) (UO (Fo wi (λ_=>.lst []) cap λD J σ H Q=>Aa g V (X3 D W) J σ H Q) (P9 i)):=by
 intro d s σ H D I h;rw[exec_Assign];refine AB (DP (AB (EA F (HI rfl (AB (AB ?_))))));refine Gj (newAcc:=newList []) (p2:=firstIterPos [⟨tg,iter,ifs,0⟩] j) rfl (λ_=>.lst []) hs S p hI (λd s σ H Q E I h=>?_) (λd y l A D it fp tn J σ s H Q R T I st G h hR=>?_) (λ_ _ _=>rfl) (λ_ _ _=>rfl) I h λE fp H2 l s' σ' H' Y K L q=>?_
 .refine HP ?_;exact h _ (I.lnew (t':=s.toks) (its:=[]) .nil (BR _)) λb f e=>AD _ e
 .obtain⟨b1,b2,b3⟩:=t d y l A;exact Q6 (X:=KJ X scope cl N' d y l A) rfl rfl p rfl (Dp elt tg iter ifs scope j _ _ _) b1 b2 (Fg rfl b3) T I st G h hR
 .have IX:Inv X d σ H' s':=Y.unblock K L ⟨rfl,λ_ _=>rfl⟩;have w:Ar X d H' l.heap.objs.size:=Y.fpOk (Nat.le_refl _) L.free;obtain⟨m,hn,_⟩:=L.loc;show wpAny _ _ (assign (.Name x o) X.env (.ref E)) _ _ _;refine GW (n8 (v:=.ref E) IX hN hi hx rfl (λC M ⟨a,O,ha⟩=>?_) G);have nC:l.heap.objs.size≠a:=by
   rcases ha with rfl | ha
   .exact w.2.1
   .exact(w.2.2.2.2.1 _ _ ha).symm
  refine⟨m,?_,λh' B=>AE (AE ?_)⟩
  .obtain⟨f,P,U,e1,r⟩:=hn;exact⟨f,P,U,(O.2 _ nC).trans e1,r⟩
  refine⟨_,H',?_,q⟩;have k:∀b f,b∉[l.heap.objs.size]->C.heap.get? b=some f->h'.get? b=some f:=λb f t e=>(B.2 b λz=>t (AC.mpr z)).trans e;refine M.step (h':=h') (H':=H') (t':=C.toks) (g':=C.gens) (d':=C.drawn) (ch:=[l.heap.objs.size]) (λb t=>by rw[AC.mp t];exact⟨w.2.2.2.1,w.2.1,w.2.2.2.2⟩) (λb f _ _ p e _=>k b f p e) (λb f _ _ p e _=>⟨f.slots,k b f p e⟩) (λ_ _ _ _ n=>n)
   (λb f p e=>⟨f,k b f p e⟩) (λ_ _ e=>e) (λ_ _ _ e=>e) (λb ps e=>⟨#[],by rw[e];simp⟩) (λm hm=>?_) (λb u Z=>?_) M.bare
  .obtain⟨f,P,U,ho,r⟩:=hm;exact⟨f,P,U,k _ f (λt=>w.2.1 (AC.mp t).symm) ho,r⟩
  .have nf:∀b u,H' b=some u->b∉[l.heap.objs.size]:=λb u e t=>by rw[AC.mp t,w.1]at e;cases e
   refine(M.hok b u Z).stay (λc v p q=>k c v ?_ q) (λ_ q=>q) λ_ _ q=>q;rcases p with z | z
   .rw[z];exact nf b u Z
   .exact nf c _ z
end
structure UE(K:PySem.W.Frag)(C:A2):Prop where
 ha:PySem.W.findIn K (.ref C) "__class__" = some (some (.builtin "object.__class__"))
 hn:PySem.W.specialIn K (.builtin "object.__class__") "__get__" = some (some (.builtin "getset_descriptor.__get__"))
 htk:PySem.W.takesIn K (.builtin "object.__class__")=some true
 hm:PySem.W.mroIn K C (.type "object")=some true
 one:PySem.W.kitOne K (.ref C) (.ref C)=some true
def NX(K:PySem.W.Frag)(a:A2):PySem.W.kitOne K (.ref a) (.ref a)=some true:=AY (beq_self_eq_true _)
section
variable{X:Cx}
theorem Be{x:Str}{C:A2}{pos:Pos}(h:X.mg x=some (.ref C))(a:Gl X x:=by rfl)(b:(x ==("__debug__":Str))=false:=by decide):PE X (.Name x pos) (tC (.ref C)):=Jj a h rfl b
end
def P1(l xs:A0 Str):A0 Str:=xs.foldl Nl l
def Wo(l:A0 Str)(x:Str):(Nl l x).length<=l.length+1:=by
 unfold Nl;split
 .lia
 .rw[AW];exact Nat.le_refl _
def zEj{w:HS}{h h':HX}{a:A2}{ss:A0 Str}(z:ST.WS w h a ss)(k:∀o,h.get? a=some o->h'.get? a=some o):ST.WS w h' a ss:=by
 obtain⟨o,b,c,t,S,r⟩:=z;exact⟨o,b,c,t,S.at (k o S.ho),r⟩
section
variable{prog:Cv}{w:HS}{A:HZ}{R:Result->A5->Prop}{I:A2}{fp wr:A0 A2}{G:HQ GenState->HQ GenState->Prop}{n:Nat}{P:Nat->A1->Prop}{St:Nat->A5->Prop}
theorem Tu(W:WalksS prog w A.in1 I fp wr G n P St)(S:A2)(d:S∉fp)(xs:A0 Str)(E:xs.length=n)(f:∀i v,P i v->∃x t,xs[i]?=some x/\v = .str x t) :
  ∀(k i:Nat) (s:A5) (ss:A0 Str),n-i=k->i<=n->St i s->ST.WS w s.heap S ss->ss.length+k<4096 ->
   (∀s',Moved (S::wr) G s s'->ST.WS w s'.heap S (P1 ss (xs.drop i))->R (.ok (.ret .none)) s') ->
   codeAny (model prog w) A (.builtin "set.update.loop" ⟨[.ref S,.ref I],[]⟩) R s:=by
 have g:S∉wr:=λh=>d (W.sub _ h);have a:∀b∈wr,b∈S::wr:=λb j=>AQ _ j;intro k
 induction k with
 | zero =>
  intro i s ss H J c y _ z;have B:i=n:=by lia
  subst B;refine DI F.entry_set_update_loop ?_;rw[Around.under_plainId F.plain_set_update_loop _];refine AB (W.done s _ _ c λs' l=>?_);have q:=z s' (l.mono a);rw[<-E,List.drop_length]at q;exact AE (q (zEj y λo=>l.heap S o g))
 | succ k K =>
  intro i s ss H J c y T z;refine DI F.entry_set_update_loop ?_;rw[Around.under_plainId F.plain_set_update_loop _];refine AB (W.item i s _ _ (by lia) c λv s' L m l=>?_);obtain⟨x,t,M,rfl⟩:=f i v L;show wpAny _ A.in1 (holding [Value.str x t] (setAdd S (.str x t)) >>= _) _ _ s';refine AB (BW ?_);unfold setAdd;refine BW (AB (wpAny_pyHash_str ?_));refine ST.R_ (s:={ s' with toks:=s'.toks+1 }) (zEj y λo=>l.heap S o g) (by lia) λU b p N=>?_;refine AE ⟨plainId_quiet F.plain_set_update_loop _,K (i+1) _ (Nl ss x) (by lia) (by lia) (W.frame _ s' _ _ m (CQ _) λb j o e=>?_) N (by have:=Wo ss x;lia) λC r u=>?_⟩
  .rw[p.2 b (λh:b=S=>d (by rw[<-h];exact j))];exact e
  .refine z C (Moved.trans W.gtrans ((l.mono a).then_heap (CQ _) λb o j e=>?_) r) ?_
   .rw[p.2 b (λh:b=S=>j (by rw[h];exact AZ))];exact e
   .have O:xs.drop i=x::xs.drop (i+1):=by
     obtain⟨D,Q⟩:=AR.mp M;rw[<-Q];exact EB D
    rw[O];exact u
end
section
variable{prog:Cv}{w:HS}{A:HZ}{E:A1->A5->Prop}{s:A5}
abbrev KW(w:HS):Obj:={ cls:=.type "set",dict:=none,data:=.set #[] 0 (.fresh 0 0 (!(w.params.followText "set-order"))) }
theorem Uz{h:HX}{a:A2}(e:h.get? a=some (KW w)):ST.WS w h a [] :=
 ⟨_,#[],0,_,⟨e,⟨rfl,rfl,rfl⟩,rfl,by rfl,rfl,λ_=>rfl,by decide⟩,⟨λe b=>by simp at b,by simp,C_⟩⟩
theorem Vn(a:A1){Q₁:A1->A5->Prop}(h:Q₁ (.ref s.heap.objs.size) { s with heap:=s.heap.push (KW w) }) :
  codeAny (model prog w) A (.call (.builtin "set.__new__") ⟨[.type "set",a],[]⟩) (wants Q₁ E) s:=by
 refine codeAny_of_tree ?_;show wpAny _ A.in1 (do checkBuiltinCall "set.__new__" ⟨[.type "set",a],[]⟩;again (.builtin "set.__new__" ⟨[.type "set",a],[]⟩)) _ _ s;refine AB (EA (F.newCall_set_1 a) (AE ⟨plainId_quiet F.plain_set_new _,DI F.entry_set_new ?_⟩));rw[Around.under_plainId F.plain_set_new _];unfold Builtin.«set.__new__» Builtin.Frozenset.newClass;have b:=sub_set_self;obtain⟨c,g,d,e,os⟩:=s;dsimp only;wp_walk;refine GD (AE ?_);dsimp only;simp only[newObj];refine AB (wpAny_alloc (AE ?_));exact AE h
set_option maxHeartbeats 3200000 in
theorem Y4{l:A2}{g G:Obj}{nm:String}{xs:A0 Str}{n:Nat}{P:Nat->A1->Prop}{St:A2->Nat->HX->Prop}{Q:A1->A5->Prop}(hh:A.handled=none)(j:s.heap.get? l=some g)(k:g.cls = .type nm)
  (hs1:isSubtype (.type nm) (.type "set")=pure false) (hs2:isSubtype (.type nm) (.type "frozenset")=pure false) (hne:(Value.type nm == Value.type "dict")=false)
  (H:∀{A:HZ} {E:A1->A5->Prop} {Q:A1->A5->Prop} (s1:A5),s1.heap.get? l=some g->Q (.ref s1.heap.objs.size) { s1 with heap:=s1.heap.push G }->wpAny (model prog w) A (pyIter (.ref l)) Q E s1)
  (hW:∀(A:HZ) (I:A2),A.handled=none->l≠I->Walks prog w A I [I,l] [I] n P (St I)) (J:∀(h:HX) (I:A2),h.get? I=some G->h.get? l=some g->St I 0 h) (m:G.isFreed=false)
  (hn:xs.length=n) (p:∀i v,P i v->∃x t,xs[i]?=some x/\v = .str x t) (z:n<4096)
  (h:∀(h':HX) (B:Nat),ST.WS w h' s.heap.objs.size (P1 [] xs)->(∀b o,s.heap.get? b=some o->h'.get? b=some o)->Q (.ref s.heap.objs.size) { s with heap:=h',toks:=B }) :
  wpAny (model prog w) A (call (.type "set") [.ref l]) Q E s:=by
 obtain⟨c,tl,Z⟩:=F.called_set.mro;have K:=F.called_set.made;have hsub:=F.called_set.sub;refine FR (codeAny_of_tree ?_);show wpAny _ _ (callAny (.type "set") _) _ _ _;refine AE ⟨Code.quiet_builtin _ (by decide +kernel),DI F.entry_type_call ?_⟩;rw[Around.under_plain (weight_type_call_type "set" [.ref l] []) rfl];have h1:=F.called_set.notType;have h2:=F.called_set.canCreate;have hct:=F.typeCall_set_1 (.ref l)
 repeat (any_goals (first | assumption | wp_step))
 refine FE (Vn (.ref l) (E:=E) (Q₁:=λq s₁=>q = .ref s.heap.objs.size/\s₁ ={ s with heap:=s.heap.push (KW w) }) ⟨rfl,rfl⟩) λr s₁ d=>?_;cases r with
 | error e=>exact d
 | ok L =>
  cases L with
  | ret q =>
   obtain⟨rfl,rfl⟩:=d;have hS:(s.heap.push (KW w)).get? s.heap.objs.size=some (KW w):=BG _ rfl;have hT:Shared.TypeIs { s with heap:=s.heap.push (KW w) } (.ref s.heap.objs.size) "set":=⟨_,hS,rfl⟩;have hli:=F.called_set.init.lookup;have hbi:=F.called_set.init.bind (.ref s.heap.objs.size)
   repeat (any_goals (first | assumption | wp_step))
   refine FE (GA (R:=wants (λr s₂=>r = .none/\∃h' B,s₂ ={ s with heap:=h',toks:=B }/\ST.WS w h' s.heap.objs.size (P1 [] xs) /\
     (∀b o,s.heap.get? b=some o->h'.get? b=some o)) E) F.called_set.init.plain F.entry_set_init (check_set_init_1 hT ?_)) λr₂ s₂ d₂=>?_
   .have a:(s.heap.push (KW w)).get? l=some g:=AD _ j;obtain⟨ocls,M,N,C⟩:=g;simp only at k;subst k;unfold Builtin.«set.__init__» noKeywords Builtin.Frozenset.updateFrom;generalize O:pyIter=PI;wp_walk;subst O;refine H _ a ?_;refine AB (wpAny_runValue ?_);have u:l<s.heap.objs.size:=AK j;have S:A.in1.in1.in1.handled=none:=by simp[hh]
    have y:l≠(s.heap.push (KW w)).objs.size:=by
     rw[CZ];exact BC (EN u)
    have T:s.heap.objs.size∉[(s.heap.push (KW w)).objs.size,l]:=by
     rw[CZ];simp only[A_,AL,or_false,not_or];exact⟨BC (FG _),FQ u⟩
    refine Tu ((hW _ _ S y).toS) s.heap.objs.size T xs hn p (n-0) 0 _ [] rfl (BR _) (J _ _ (BG _ m) (AD _ a)) (Uz (AD _ hS)) (by simpa using z) λs' D f=>?_;obtain⟨h',g',d',U,V⟩:=s';have eg:g'=s.gens:=D.gens;have ed:d'=s.drawn:=D.drawn;have eo:V=s.os:=D.os;subst eg;subst ed;subst eo;show wpAny _ _ _ _ _ _;refine AE ?_;show wpAny _ _ (ret Value.none) _ _ _;refine AE ⟨rfl,h',U,rfl,f,λb o e=>?_⟩;have z:=AK e;have W:b≠s.heap.objs.size:=BC z;have X:b≠(s.heap.push (KW w)).objs.size:=by
     rw[CZ];exact BC (EN z)
    exact D.heap b o (by simp only[A_,AL,or_false,not_or];exact⟨W,X⟩) (AD _ (AD _ e))
   .cases r₂ with
    | error e=>exact d₂
    | ok L₂ =>
     cases L₂ with
     | ret r =>
      obtain⟨rfl,h',B,rfl,f,Y⟩:=d₂
      repeat (any_goals (first | assumption | wp_step))
      exact h _ _ f Y
     | _=>exact d₂.elim
  | _=>exact d.elim
end
def i9:isSubtype (.type "tuple") (.type "set")=pure false:=by rw[isSubtype_type];kernel_rfl
def Q2:isSubtype (.type "tuple") (.type "frozenset")=pure false:=by rw[isSubtype_type];kernel_rfl
def Hl:∀{xs l:A0 Str},xs.Nodup->(∀x∈xs,x∉l)->P1 l xs=l++xs
 | [],l,_,_=>(CB l).symm
 | x::xs,l,c,a=>by
  obtain⟨d,f⟩:=B_.mp c;show P1 (Nl l x) xs=_;have e:Nl l x=l ++ [x]:=AS (a x (AZ ..));rw[e,Hl f λy b hm=>?_,BF]
  .rfl
  .rcases AH.mp hm with hm | hm
   .exact a y (AQ _ b) hm
   .exact d (AC.mp hm▸b)
def Fb{ss:A0 Str}{its:A0 A1}(r:IC (ss.map V.str) its)(i:Nat)(v:A1)(e:its.toArray[i]?=some v):∃x t,ss[i]?=some x/\v = .str x t:=by
 rw[EZ]at e;cases h:ss[i]? with
 | none =>
  have:=r.none_of (i:=i) (by rw[AG,h];rfl);rw[this]at e;cases e
 | some x =>
  obtain⟨u,a,t,b⟩:=r.get (i:=i) (x:=.str x) (by rw[AG,h];rfl);rw[a]at e;cases e;exact⟨x,t,rfl,b⟩
section
variable{X:Cx}
theorem Kv(K:PySem.W.Frag)(w:HS)(E:X.calm=true:=by rfl)(J:X.K=K:=by rfl)(hw:X.w=w:=by rfl):J2 X (.type "set") (λxs H Q=>∃(p:A2) (ss:A0 Str),xs = [.ref p]/\(HY K H p (ss.map V.str)\/JC K H p (ss.map V.str))/\ss.Nodup/\ss.length<4096/\∀l,H l=none->Q (.ref l) (HU H l (Y8 w l ss))):=by
 subst J;subst hw;intro g s σ H xs R Q I r h;obtain⟨p,ss,rfl,hq,L,G,q⟩:=h;obtain⟨u,rfl,M⟩:=U6 r;cases M;have N:P1 [] ss=ss:=Hl L λ_ _ h=>nomatch h
 have i:∀(t:HX) (v:Nat),ST.WS X.w t s.heap.objs.size (P1 [] ss)->(∀b o,s.heap.get? b=some o->t.get? b=some o)->EP X g σ Q (.ref s.heap.objs.size) { s with heap:=t,toks:=v }:=λt v z k=>by
  rw[N]at z;exact⟨.ref s.heap.objs.size,_,I.laid (t':=v) k (Nat.le_refl _) (Sb z),rfl,q _ (I.hok.fresh (Nat.le_refl _))⟩
 rcases hq with hq | hq
 .obtain⟨d,j,x,O⟩:=I.list hq;have a:=j.length;rw[AA]at a;obtain⟨o,y,c,n,m⟩:=x.isList;exact Y4 (I.ok.hd E) y c F.sub_list_set F.sub_list_frozenset (by decide) (λP e q=>EO ⟨_,e,c,n,m⟩ q) (λA I B f=>Walks.list B I p f d.toArray) (λh I C D=>⟨⟨_,C,rfl,rfl⟩,⟨_,D,c,n,m⟩⟩) rfl (by simp[a]) (Fb j) (by simpa [<-a] using G) i
 .obtain⟨d,j,x,O⟩:=I.tuple hq;have a:=j.length;rw[AA]at a;obtain⟨o,y,c,n,m⟩:=x;exact Y4 (I.ok.hd E) y c i9 Q2 (by decide) (λP e q=>wpAny_pyIter_tuple ⟨_,e,c,n,m⟩ q) (λA I B f=>Walks.tuple B I p f d.toArray) (λh I C D=>⟨⟨_,C,rfl,rfl⟩,⟨_,D,c,n,m⟩⟩) rfl (by simp[a]) (Fb j) (by simpa [<-a] using G) i
theorem zEf(w:HS)(hw:X.w=w:=by rfl):RT X "set.add" (zEb w):=by subst hw;exact zAv
end
section
variable{X:Cx}{tg iter elt:H_}{ifs:A0 H_}{scope:IT}{cl:A0 (Str×A2)}{N':A0 Str}{cap:A0 (A6 Nat)}{wi:TI}{pos:Pos}
theorem Mf{i:Nat}{x:Str}{p j:Pos}{g:TG}{W:TT}{a b:H_}{Y Z:TE}(hN:X.N.Nodup)(hi:X.N[i]?=some x)(hx:Loc X.env.scope x)(S:LU X scope cl N' cap)(t:X.calm=true)(hI:PI X tg iter wi)
  (w:∀(d:A0 (A2×Obj)) (y:A0 A2) (l:A5) (A:Hp),PG (KJ X scope cl N' d y l A) tg g/\SX (KJ X scope cl N' d y l A) ifs W/\PE (KJ X scope cl N' d y l A) a Y/\PE (KJ X scope cl N' d y l A) b Z)
  (hs:∀x,foldedSetIterable iter X.env x=pure x:=by intro _;rfl)
  (G:swapsWith (.DictComp a b [⟨tg,iter,ifs,0⟩] scope j) (some (.Name x p)) pos.line X.env=pure true:=by rfl)
  (K:X.fn x=true\/X.env.scope.names.lookup x=some .local:=by first | exact .inl rfl | exact .inr rfl | assumption) :
  PS X (.Assign [.Name x p] (.DictComp a b [⟨tg,iter,ifs,0⟩] scope j) pos) (UO (Fo wi (λ_=>.dK []) cap λD J σ H Q=>Aa g W (Ix D Y Z) J σ H Q) (P9 i)):=by
 intro d s σ H D I h;rw[exec_Assign];refine AB (DP (AB (EA G (HI rfl (AB (AB ?_))))));refine Gj (newAcc:=newDict) (p2:=firstIterPos [⟨tg,iter,ifs,0⟩] j) rfl (λ_=>.dK []) hs S t hI (λd s σ H Q E I h=>?_) (λd y l A D it fp tn J σ s H Q R T I st K h hR=>?_) (λ_ _ _=>rfl) (λ_ _ _=>rfl) I h λE fp H2 l s' σ' H' I3 L M q=>?_
 .refine CD ?_;exact h _ (I.laid (a:=s.heap.objs.size) (o:=.dK []) (t':=s.toks) (λ_ _ q=>AD _ q) (Nat.le_refl _) (At s.heap I.big)) λb f e=>AD _ e
 .obtain⟨b1,b2,b3,b4⟩:=w d y l A;exact Q6 (X:=KJ X scope cl N' d y l A) rfl rfl t rfl (p8 a b tg iter ifs scope j _ _ _) b1 b2 (Fa rfl b3 b4) T I st K h hR
 .have IX:Inv X d σ H' s':=I3.unblock L M ⟨rfl,λ_ _=>rfl⟩;have B:Ar X d H' l.heap.objs.size:=I3.fpOk (Nat.le_refl _) M.free;obtain⟨m,hn,_⟩:=M.loc;show wpAny _ _ (assign (.Name x p) X.env (.ref E)) _ _ _;refine GW (n8 (v:=.ref E) IX hN hi hx rfl (λF O ⟨a,P,ha⟩=>?_) K);have nC:l.heap.objs.size≠a:=by
   rcases ha with rfl | ha
   .exact B.2.1
   .exact(B.2.2.2.2.1 _ _ ha).symm
  refine⟨m,?_,λh' C=>AE (AE ?_)⟩
  .obtain⟨f,U,V,e1,r⟩:=hn;exact⟨f,U,V,(P.2 _ nC).trans e1,r⟩
  refine⟨_,H',?_,q⟩;have k:∀b f,b∉[l.heap.objs.size]->F.heap.get? b=some f->h'.get? b=some f:=λb f w e=>(C.2 b λz=>w (AC.mpr z)).trans e;refine O.step (h':=h') (H':=H') (t':=F.toks) (g':=F.gens) (d':=F.drawn) (ch:=[l.heap.objs.size]) (λb w=>by rw[AC.mp w];exact⟨B.2.2.2.1,B.2.1,B.2.2.2.2⟩) (λb f _ _ t e _=>k b f t e) (λb f _ _ t e _=>⟨f.slots,k b f t e⟩) (λ_ _ _ _ n=>n)
   (λb f t e=>⟨f,k b f t e⟩) (λ_ _ e=>e) (λ_ _ _ e=>e) (λb ps e=>⟨#[],by rw[e];simp⟩) (λm hm=>?_) (λb u eb=>?_) O.bare
  .obtain⟨f,U,V,ho,r⟩:=hm;exact⟨f,U,V,k _ f (λw=>B.2.1 (AC.mp w).symm) ho,r⟩
  .have nf:∀b u,H' b=some u->b∉[l.heap.objs.size]:=λb u e w=>by rw[AC.mp w,B.1]at e;cases e
   refine(O.hok b u eb).stay (λc v t q=>k c v ?_ q) (λ_ q=>q) λ_ _ q=>q;rcases t with z | z
   .rw[z];exact nf b u eb
   .exact nf c _ z
end
section
variable{X:Cx}
theorem Ut(E:X.calm=true):J2 X (.builtin "any") (λxs H Q=>∃(p:A2) (bs:A0 Bool),xs = [.ref p]/\HY X.K H p (bs.map V.bl)/\Q (.bl (bs.any id)) H):=by
 intro B s σ H xs M Q I r h;obtain⟨p,bs,rfl,F,q⟩:=h;obtain⟨u,rfl,t⟩:=U6 r;cases t;obtain⟨a,w,x,N⟩:=I.list F;refine call_any_walk (EO x.isList ?_);have y:p≠s.heap.objs.size:=by
  obtain⟨o,n,e,_⟩:=x;exact BC (AK e)
 refine⟨s.heap.objs.size,_,_,_,_,_,λi=>bs.getD i false,rfl,Walks.list (A:=X.A.in1) (show X.A.in1.handled=none from I.ok.hd E) _ p y a.toArray,⟨⟨_,BG _ rfl,rfl,rfl⟩,?_⟩,λi v O P R G J=>?_,λS T k=>?_⟩
 .obtain⟨o,n,e,c,d,L⟩:=x;exact⟨o,AD _ e,c,n,L⟩
 .have f:(bs.map V.bl)[i]?=some (V.bl (bs.getD i false))/\RelV (V.bl (bs.getD i false)) v:=by
   have g:a[i]?=some v:=by simpa using G
   have j:i<a.length:=(AR.mp g).1;have m:=w.length;rw[AA]at m;have e:(bs.map V.bl)[i]?=some (V.bl (bs.getD i false)):=by
    rw[AG,AU (by lia)];simp[DH,AU (show i<bs.length by lia)]
   obtain⟨u,C,t⟩:=w.get e;rw[g]at C;cases C;exact⟨e,t⟩
  cases f.2;exact CL J
 .have m:=w.length;rw[AA]at m;have e:(List.range a.toArray.size).any (λi=>bs.getD i false)=bs.any id:=by
   rw[BD,<-m,D_,FK,FK];constructor
   .rintro⟨i,j,z⟩;have l:=CY.mp j;refine⟨bs[i],GE l,?_⟩;simpa [DH,AU l] using z
   .rintro⟨b,f,z⟩;obtain⟨i,j,rfl⟩:=FB.mp f;refine⟨i,CY.mpr j,?_⟩;simpa [DH,AU j] using z
  rw[e];exact⟨.bl (bs.any id),H,I.kept λb o D=>k b o (by
   intro f;have:b=s.heap.objs.size:=by simpa using f
   exact absurd (AK D) (by rw[this];exact CM _)) (AD _ D),rfl,q⟩
theorem zCw:bootBuiltins "any" = some (.builtin "any"):=by decide +kernel
variable(K:PySem.W.Frag)
theorem zCk(a:X.calm=true:=by rfl)(b:X.K=K:=by rfl):J2 X (.builtin "any") (λxs H Q=>∃(p:A2) (bs:A0 Bool),xs = [.ref p]/\HY K H p (bs.map V.bl)/\Q (.bl (bs.any id)) H):=by subst b;exact Ut a
end
def K6(b more:A0 (IL×V)):A0 (IL×V):=more.foldl (λa c=>i7 a c.1 c.2) b
def KV.mrg:∀{more:A0 (IL×V)} {b:A0 (IL×A1)} {a:A0 (IL×V)} {vs:A0 (IL×A1)},KV a vs->KV more b->KV (K6 a more) (merged vs b)
 | [],[],_,_,r,_=>r
 | [],_::_,_,_,_,c=>by cases c
 | _::_,[],_,_,_,c=>by cases c
 | (k,y)::m,(d,u)::n,a,vs,r,c=>by
  cases c with
  | cons h t =>
   obtain⟨e,f⟩:=h;have e:k=d:=e;subst e;show KV (K6 (i7 a k y) m) (merged (stored vs k u) n);exact KV.mrg (r.put k f) t
def K7(b more:A0 (IL×V)):(K6 b more).length<=b.length+more.length:=by
 induction more generalizing b with
 | nil=>exact Nat.le_refl _
 | cons a r c =>
  have d:=c (i7 b a.1 a.2);have e:=Q7 b a.1 a.2;show(K6 (i7 b a.1 a.2) r).length<=b.length +(r.length+1);lia
section
variable{X:Cx}
theorem zAd:J2 X (.type "dict") (λxs H Q=>∃p a,xs = [.ref p]/\H p=some (.dK a)/\∀l,H l=none->Q (.ref l) (HU H l (.dK a))):=by
 intro e s σ H xs n Q I r h;obtain⟨p,a,rfl,g,q⟩:=h;obtain⟨u,rfl,i⟩:=U6 r;cases i;obtain⟨z,j,t,c,k⟩:=Sq I.hok g;refine kt_call_dict j k (by rw[<-c.length];exact z) λv d m=>?_;refine⟨.ref s.heap.objs.size,HU H s.heap.objs.size (.dK a),I.laid (t':=s.toks) (λb o f=>?_) (Nat.le_refl _) (Gf z (beq_eq_false_iff_ne.mpr (FQ I.big)) c d),rfl,q _ I.fresh⟩;rw[m.2 b (BC (AK f))];exact AD _ f
theorem zFv{b:A0 (A2×Obj)}{σ:St}{H:Hp}{s:A5}{a o:A2}{d more:A0 (IL×V)}{A:HZ}{E:A1->A5->Prop}{Q:A1->A5->Prop}(I:Inv X b σ H s)(j:H a=some (.dK d))(p:H o=some (.dK more))(r:a≠o)(k:d.length+more.length<=sizeLine)
  (h:∀l,Inv X b σ (HU H a (.dK (K6 d more))) l->Q .none l):wpAny (model X.prog X.w) A (call (.builtin "dict.update") [.ref a,.ref o]) Q E s:=by
 obtain⟨z,t,u,e,m⟩:=Sq I.hok j;obtain⟨C,f,g,c,i⟩:=Sq I.hok p;refine call_meetsIn PySem.F.slot_dict_update m.typeIs PySem.F.entry_dict_update (PySem.F.args_dict_update_2 _ _) (meets_dict_update (D0 X.prog X.w) a o r f) ⟨u,g,m,i,by rw[<-e.length,<-c.length];exact k,λv n _ x=>?_⟩;have y:∃q,v.get? a=some q:=let⟨q,_,_,B,_⟩:=n;⟨q,B⟩;exact h _ (Pk I (t':=s.toks) (by rw[j];exact True.intro) x y (Gf (Nat.le_trans (K7 ..) k) t (e.mrg c) n))
def zFm(f ty:TE):TE:=λσ H Q=>f σ H λx e=>∃a,x = .ref a/\VQ e a/\ty σ e λy d=>∃o c b,y = .ref o/\d a=some (.dK c)/\d o=some (.dK b)/\a≠o/\c.length+b.length<=sizeLine/\Q .non (HU d a (.dK (K6 c b)))
theorem Rw{o e:H_}{b c:Pos}{g ty:TE}(k:PE X o g)(l:PE X e ty)(m:M1 X o "update" b e c):PE X (.Call (.Attribute o "update" b) [e] [] c) (zFm g ty):=by
 intro f s σ H Q I h;refine GX m.base m.few m.line PySem.F.plainAttrs_dict PySem.F.slot_dict_update PySem.F.type_dict_update (IZ (k f s σ H _ I h) λu n ⟨x,p,i,q,a,r,d,t⟩=>?_);subst r;obtain rfl:u=Value.ref a:=q;obtain⟨v,w,_⟩:=Mg i d;refine⟨v,w,?_⟩;rw[m.trees];refine Calls.callWith_builtin rfl (Calls.evalArgs_plain (Calls.spliced_cons (IZ (l f n σ p _ i t) λz O ⟨y,P,A,B,C,D,j,E,G,J,K,L,M⟩=>Calls.spliced_nil ?_)));subst E;obtain rfl:z=Value.ref C:=B;exact zFv A G J K L λR N=>⟨.non,_,N,rfl,M⟩
theorem Bq:bootBuiltins "dict" = some (.type "dict"):=by decide +kernel
end
def Mj:entryFor table "dict.update.loop" = some Builtin.«dict.update.loop»:=entryFor_of_tree (by kernel_rfl)
def j9:plainId "dict.update.loop" = true:=by decide +kernel
section
variable{prog:Cv}{w:HS}{A:HZ}{E:A1->A5->Prop}{s:A5}
theorem o8{a:A2}{xs:HQ A1}{k:Nat}{l:HQ (A6 A1)}{name:Str}{Q:A6 A1->A5->Prop}
  (m:s.heap.get? a=some { cls:=.type "list",dict:=none,data:=.seq xs k,slots:=l }) (c:typeLookup (.type "list") name=pure none) (f:(["__module__", "__name__", "__qualname__", "__doc__", "__annotations__"]:A0 Str).contains name=false) (q:A.handled=none)
  (h:∀h' n,(∀b o,s.heap.get? b=some o->h'.get? b=some o)->Q none { s with heap:=h',toks:=n }) (hsz:name.length+100<=sizeLine) :
  wpAny (model prog w) A (getAttr? (.ref a) name) Q E s:=by
 obtain⟨r,g,d,n,os⟩:=s;have p:∀i,(⟨r,g,d,i,os⟩:A5).TypeIs (.ref a) "list":=λ_=>⟨_,m,rfl⟩;have t:=sub_AttributeError;have u:=F.slot_list_getattribute.lookup;have v:=F.slot_list_getattribute.bind (.ref a);have x:=am_list_getattr_none;unfold getAttr? getAttrBy? getAttrBy
 repeat (any_goals (first | assumption | exact p _ | ((with_reducible show wpAny _ _ (call (Value.builtin "list.__getattribute__") _ _) _ _ _);refine call_meets F.slot_list_getattribute (p _) am_entry_list_getattribute (F.args_list_getattribute_2 _ _) (meets_getattribute_miss_list a xs k l name _ c f hsz) ⟨m,q,λh' i e j=>?_⟩) | wp_step))
 obtain⟨y,z,B⟩:=j.there;show wpAny _ _ (getattributeRaised _ _ _ _ _ _ _) _ _ _;unfold getattributeRaised
 repeat (any_goals (first | assumption | wp_step))
 exact h _ _ j.keeps
end
section
variable{prog:Cv}{w:HS}{A:HZ}{R:Result->A5->Prop}{I:A2}{fp wr:A0 A2}{G:HQ GenState->HQ GenState->Prop}{n:Nat}{P:Nat->A1->Prop}{St:Nat->A5->Prop}{K:Type}[DecidableEq K]{knd:KeyKind prog w K}
theorem Ik(W:WalksS prog w A.in1 I fp wr G n P St)(D:A2)(x:D∉fp)(h0:HX)(more:A0 (K×A1))(hn:more.length=n)
  (y:∀i v,P i v->∃t o k d u m,v = .ref t/\t∉D::wr/\h0.get? t=some o/\o.cls = .type "tuple"/\o.data = .seq #[d,u] m/\more[i]?=some (k,u)/\knd.is k d=true) :
  ∀(k i:Nat) (s:A5) (a:A0 (K×A1)) (N:Tok),n-i=k->i<=n->St i s->(∀b o,b∉D::wr->h0.get? b=some o->s.heap.get? b=some o)->s.heap.DictOf knd D a->a.length+k<=sizeLine ->
   (∀g,Moved (D::wr) G s g->g.heap.DictOf knd D (merged a (more.drop i))->R (.ok (.ret .none)) g) ->
   codeAny (model prog w) A (.builtin "dict.update.loop" ⟨[.ref D,.ref I,.int (i:Int) N,.none],[]⟩) R s:=by
 have B:D∉wr:=λh=>x (W.sub _ h);have c:∀b∈wr,b∈D::wr:=λb f=>AQ _ f;have C:∀{h O:HX} {a:A0 (K×A1)},h.DictOf knd D a->(∀o,h.get? D=some o->O.get? D=some o)->O.DictOf knd D a:=λ⟨o,es,ep,ho,r⟩ k=>⟨o,es,ep,k o ho,r⟩;intro k
 induction k with
 | zero =>
  intro i s a N hk hi j Q S _ U;have V:i=n:=by lia
  subst V;refine DI Mj ?_;rw[Around.under_plainId j9 _];refine AB (W.done s _ _ j λg l=>?_);have q:=U g (l.mono c);rw[<-hn,List.drop_length]at q;show wpAny _ _ (Builtin.Dict.addKeywords D [] >>= _) _ _ _;exact AB (AE (AE (q (C S λo=>l.heap D o B))))
 | succ k ih =>
  intro i s a N hk hi j Q S hz U;refine DI Mj ?_;rw[Around.under_plainId j9 _];refine AB (W.item i s _ _ (by lia) j λv g hP E l=>?_);obtain⟨t,o,kk,d,u,m,rfl,F,ht,hc,X,hx,H⟩:=y i v hP;have J:g.heap.get? t=some o:=l.heap t o (λz=>F (c _ z)) (Q t o F ht);refine AB (BW (AB (FJ ?_)));unfold Builtin.Dict.pairItems;refine AB (GB (T := "tuple") ⟨o,J,hc⟩ ?_);rw[AY (by decide)];refine AB (FI J X (AE ?_));show wpAny _ _ (holding [d,u] (dictSet D d u)) _ _ _;refine BW (wpAny_dictSet_pairs H (C S λo=>l.heap D o B) (λO d' p=>?_) (by lia));refine AE ⟨plainId_quiet j9 _,ih (i+1) _ (stored a kk u) _ (by lia) (by lia) (W.frame _ g _ _ E (CQ _) λb f o e=>?_) (λb o f e=>?_) d' (by
   have:=stored_length_le a kk u;lia) λY L M=>?_⟩
  .rw[p.2 b (λh:b=D=>x (by rw[<-h];exact f))];exact e
  .rw[p.2 b (λh:b=D=>f (by rw[h];exact AZ))];exact l.heap b o (λz=>f (c _ z)) (Q b o f e)
  .refine U Y (Moved.trans W.gtrans ((l.mono c).then_heap (CQ _) λb o f e=>?_) L) ?_
   .rw[p.2 b (λh:b=D=>f (by rw[h];exact AZ))];exact e
   .have X:more.drop i =(kk,u)::more.drop (i+1):=by
     obtain⟨Z,ex⟩:=AR.mp hx;rw[<-ex];exact EB Z
    rw[X];exact M
end
section
variable{X:Cx}
theorem y4:∀{as:A0 A2} {its:A0 A1},IC (as.map V.ref) its->its=as.map Value.ref
 | [],_,.nil=>rfl
 | _::_,_,.cons r t=>by rw[BP,y4 t];cases r;rfl
theorem Kn{b:A0 (A2×Obj)}{σ:St}{H:Hp}{s:A5}(I:Inv X b σ H s):∀ps:A0 (A2×IL×V),(∀q∈ps,H q.1=some (.tup [kV q.2.1,q.2.2]))->∃more:A0 (IL×A1),KV (ps.map λq=>q.2) more /\
  ∀(i:Nat) (q:A2×IL×V),ps[i]?=some q->∃(o:Obj) (a u:A1) (m:Nat),s.heap.get? q.1=some o/\o.cls = .type "tuple"/\o.data = .seq #[a,u] m/\more[i]?=some (q.2.1,u)/\(D0 X.prog X.w).is q.2.1 a=true
 | [],_=>⟨[],.nil,λi q h=>by simp at h⟩
 | p::ps,h=>by
  obtain⟨more,r,d⟩:=Kn I ps λq c=>h q (AQ _ c);obtain⟨_,e,f,o,g,j,n,k⟩:=(show IM X.prog X.w H s.heap p.1 (.tup [kV p.2.1,p.2.2])from I.hok _ _ (h p (AZ ..)));obtain⟨a,u,rfl,l,t⟩:=f.two;refine⟨(p.2.1,u)::more,.cons ⟨rfl,t⟩ r,λi q c=>?_⟩;cases i with
  | zero=>cases c;exact⟨o,a,u,n,g,j,by simpa using k,rfl,Ey l⟩
  | succ i=>exact d i q c
theorem Ve(hc:X.calm=true):J2 X (.type "dict") (λxs H Q=>∃(p:A2) (ps:A0 (A2×IL×V)),xs = [.ref p]/\H p=some (.lst (ps.map λq=>V.ref q.1))/\(∀q∈ps,H q.1=some (.tup [kV q.2.1,q.2.2]))/\ps.length<=1000/\∀l,H l=none->Q (.ref l) (HU H l (.dK (K6 [] (ps.map λq=>q.2))))):=by
 intro R s σ H xs us Q I r h;obtain⟨p,ps,rfl,hp,ht,hl,q⟩:=h;obtain⟨u,rfl,ru⟩:=U6 r;cases ru;obtain⟨a,G,rv,g,hz⟩:=I.lst hp;have S:a =(ps.map λq=>q.1).map Value.ref:=y4 (by rw[AN];exact rv);obtain⟨j,U,hm⟩:=Kn I ps ht;have lm:j.length=ps.length:=by rw[<-U.length,AA]
 have W:a.toArray.size=ps.length:=by rw[S];simp
 have t:p<s.heap.objs.size:=AK g;refine callType_codes (Q₁:=λx s₁=>x = .ref s.heap.objs.size/\s₁ ={ s with heap:=s.heap.push { cls:=.type "dict",data:=.dict #[] } }) PySem.F.kt_called_dict (PySem.F.kt_typeCall_dict_1 _) PySem.F.entry_dict_init (kt_code_dict_new _ ⟨rfl,rfl⟩) ?_;rintro x s₁ ⟨rfl,rfl⟩;have c:(s.heap.push { cls:=.type "dict",data:=.dict #[] }).DictOf (D0 X.prog X.w) s.heap.objs.size []:=Heap.DictOf.new s.heap;have k:(s.heap.push { cls:=.type "dict",data:=.dict #[] }).get? p=some { cls:=.type "list",data:=.seq a.toArray G }:=AD _ g;refine⟨c.typeIs,PySem.F.args_dict_init_2 _ _,?_⟩;unfold Builtin.«dict.__init__»;refine AB ?_;unfold Builtin.Dict.selfAndRest;refine AB (wpAny_notOrdered_dict c.typeIs ?_);show wpAny _ _ (pure (s.heap.objs.size,[Value.ref p])) _ _ _;refine AE ?_;show wpAny _ _ (Builtin.Dict.updateFrom "dict.__init__" s.heap.objs.size (.ref p) [] .none) _ _ _;unfold Builtin.Dict.updateFrom;refine AB (GB (T := "list") ⟨_,k,rfl⟩ ?_);rw[AY (by decide)];have Y:X.A.in1.in1.handled=none:=I.ok.hd hc;refine AB (o8 k (am_miss_of_fast (by decide +kernel)) (by decide +kernel) Y (λn tk1 J=>?_) (by decide +kernel));refine HI rfl ?_;have y:n.DictOf (D0 X.prog X.w) s.heap.objs.size []:=let⟨o,K,L,g,r⟩:=c;⟨o,K,L,J _ _ g,r⟩;have B:=J _ _ k;have d:s.heap.objs.size<n.objs.size:=let⟨_,_,_,g,_⟩:=y;AK g;have C:p≠n.objs.size:=BC (Nat.lt_trans t d);refine AB (DT (AB (EO (l:=p) (items:=a.toArray) ⟨_,B,rfl,G,rfl⟩ (AE ⟨plainId_quiet j9 _,?_⟩))));have Z:∀b o,s.heap.get? b=some o->n.get? b=some o:=λb o e=>J b o (AD _ e);refine Ik (A:=X.A.in1) (knd:=D0 X.prog X.w) ((Walks.list (A:=X.A.in1.in1) Y n.objs.size p C a.toArray).toS) s.heap.objs.size ?_ n j (lm.trans W.symm) (λi v E=>?_) _ 0 _ [] _ rfl (BR _) ⟨⟨_,BG _ rfl,rfl,rfl⟩,⟨_,AD _ B,rfl,G,rfl⟩⟩ (λb o _ e=>AD _ e) (let⟨o,K,L,g,r⟩:=y;⟨o,K,L,AD _ g,r⟩) ?_ λs' f M=>?_
 .simp only[A_,AL,or_false,not_or];exact⟨BC d,FQ t⟩
 .have E:a.toArray[i]?=some v:=E;rw[EZ,S,AN,AG]at E;obtain⟨z,N,rfl⟩:=AV.mp E;obtain⟨o,O,u,m,e1,e2,e3,e4,e5⟩:=hm i z N;have D:=AK e1;refine⟨z.1,o,z.2.1,O,u,m,rfl,?_,Z _ _ e1,e2,e3,e4,e5⟩;simp only[A_,AL,or_false,not_or];exact⟨BC D,BC (Nat.lt_trans D d)⟩
 .rw[W,sizeLine_eq];simp;lia
 .obtain⟨h',g',d',tk',P⟩:=s';have eg:g'=s.gens:=f.gens;have ed:d'=s.drawn:=f.drawn;have eo:P=s.os:=f.os;subst eg;subst ed;subst eo;refine⟨rfl,.ref s.heap.objs.size,HU H s.heap.objs.size (.dK (K6 [] (ps.map λq=>q.2))),I.laid (λb o eb=>?_) (Nat.le_refl _) (Gf ?_ (beq_eq_false_iff_ne.mpr (FQ I.big)) (KV.mrg .nil U) M),rfl,q _ I.fresh⟩
  .have D:=AK eb;refine f.heap b o ?_ (AD _ (Z b o eb));simp only[A_,AL,or_false,not_or];exact⟨BC D,BC (Nat.lt_trans D d)⟩
  .have:=K7 [] (ps.map λq=>q.2);rw[AA]at this;rw[sizeLine_eq];simp at this;lia
end
section
variable{X:Cx}{pos:Pos}
variable(K:PySem.W.Frag)
theorem An(a:X.calm=true:=by rfl):J2 X (.type "dict") (λxs H Q=>∃(p:A2) (ps:A0 (A2×IL×V)),xs = [.ref p]/\H p=some (.lst (ps.map λq=>V.ref q.1))/\(∀q∈ps,H q.1=some (.tup [kV q.2.1,q.2.2]))/\ps.length<=1000/\∀l,H l=none->Q (.ref l) (HU H l (.dK (K6 [] (ps.map λq=>q.2))))):=Ve a
end
section
variable{X:Cx}
theorem zCl{n:A0 (A2×Obj)}{σ:St}{H:Hp}{s:A5}{a p:A2}{c:A0 (IL×V)}{ps:A0 (A2×IL×V)}{A:HZ}{E:A1->A5->Prop}{Q:A1->A5->Prop}(I:Inv X n σ H s)(hh:A.handled=none)(P:H a=some (.dK c))(hp:H p=some (.lst (ps.map λq=>V.ref q.1)))(ht:∀q∈ps,H q.1=some (.tup [kV q.2.1,q.2.2]))(hl:c.length+ps.length<=sizeLine)
  (h:∀g,Inv X n σ (HU H a (.dK (K6 c (ps.map λq=>q.2)))) g->Q .none g):wpAny (model X.prog X.w) A (call (.builtin "dict.update") [.ref a,.ref p]) Q E s:=by
 obtain⟨z,hd,W,C,Y⟩:=Sq I.hok P;obtain⟨d,nn,rv,j,hz⟩:=I.lst hp;have ei:d =(ps.map λq=>q.1).map Value.ref:=y4 (by rw[AN];exact rv);obtain⟨t,rm,hm⟩:=Kn I ps ht;have lm:t.length=ps.length:=by rw[<-rm.length,AA]
 have li:d.toArray.size=ps.length:=by rw[ei];simp
 have lv:W.length=c.length:=C.length.symm;have pa:p≠a:=J8 hp P (by intro z;cases z);refine call_meetsIn PySem.F.slot_dict_update Y.typeIs PySem.F.entry_dict_update (PySem.F.args_dict_update_2 _ _) (S:=λA R s=>wpAny (model X.prog X.w) A.in1 (Builtin.«dict.update» ⟨[.ref a,.ref p],[]⟩) (λZ g=>match Z with | .done f=>R (.ok f) g | .again c'=>c'.quiet=true/\codeAny (model X.prog X.w) A c' R g) (λe g=>R (.error e) g) s) (λA R s h=>h) ?_;unfold Builtin.«dict.update»;refine AB ?_;unfold Builtin.Dict.selfAndRest;refine AB (wpAny_notOrdered_dict Y.typeIs ?_);show wpAny _ _ (pure (a,[Value.ref p])) _ _ _;refine AE ?_;show wpAny _ _ (Builtin.Dict.updateFrom "dict.update" a (.ref p) [] .none) _ _ _;unfold Builtin.Dict.updateFrom;refine AB (GB (T := "list") ⟨_,j,rfl⟩ ?_);rw[AY (by decide)];have D:A.in1.handled=none:=hh;refine AB (o8 j (am_miss_of_fast (by decide +kernel)) (by decide +kernel) D (λG tk1 B=>?_) (by decide +kernel));refine HI rfl ?_;have J:G.DictOf (D0 X.prog X.w) a W:=let⟨o,es,ep,j,r⟩:=Y;⟨o,es,ep,B _ _ j,r⟩;have y:=B _ _ j;have K:p≠G.objs.size:=BC (AK y);have L:a≠G.objs.size:=let⟨_,_,_,j,_⟩:=J;BC (AK j);refine AB (DT (AB (EO (l:=p) (items:=d.toArray) ⟨_,y,rfl,nn,rfl⟩ (AE ⟨plainId_quiet j9 _,?_⟩))));refine Ik (A:=A) (knd:=D0 X.prog X.w) ((Walks.list (A:=A.in1) D G.objs.size p K d.toArray).toS) a ?_ G t (lm.trans li.symm) (λi v U=>?_) _ 0 _ W _ rfl (BR _) ⟨⟨_,BG _ rfl,rfl,rfl⟩,⟨_,AD _ y,rfl,nn,rfl⟩⟩ (λb o _ e=>AD _ e) (let⟨o,es,ep,j,r⟩:=J;⟨o,es,ep,AD _ j,r⟩) ?_ λg k M=>?_
 .simp only[A_,AL,or_false,not_or];exact⟨L,pa.symm⟩
 .have U:d.toArray[i]?=some v:=U;rw[EZ,ei,AN,AG]at U;obtain⟨z,N,rfl⟩:=AV.mp U;obtain⟨o,key,u,m,e1,e2,e3,e4,e5⟩:=hm i z N;have za:z.1≠a:=J8 (ht z (AM N)) P (by intro z;cases z);refine⟨z.1,o,z.2.1,key,u,m,rfl,?_,B _ _ e1,e2,e3,e4,e5⟩;simp only[A_,AL,or_false,not_or];exact⟨za,BC (AK (B _ _ e1))⟩
 .rw[li,lv];lia
 .obtain⟨h',g',d',tk',os'⟩:=g;have eg:g'=s.gens:=k.gens;have ed:d'=s.drawn:=k.drawn;have eo:os'=s.os:=k.os;subst eg;subst ed;subst eo;have he:∃q,h'.get? a=some q:=let⟨q,_,_,hq,_⟩:=M;⟨q,hq⟩;have O:(K6 c (ps.map λq=>q.2)).length<=sizeLine:=by
   have:=K7 c (ps.map λq=>q.2);rw[AA]at this;lia
  refine h _ (I.write (x:=a) (e:=a) (by rw[P];exact True.intro) (.inl rfl) (λb q hb z=>?_) he (Gf O hd (C.mrg rm) M));refine k.heap b q ?_ (AD _ (B b q z));simp only[A_,AL,or_false,not_or];exact⟨hb,BC (AK (B b q z))⟩
def zEm(f ty:TE):TE:=λσ H Q=>f σ H λx e=>∃a,x = .ref a/\VQ e a/\ty σ e λy c=>∃(p:A2) (b:A0 (IL×V)) (d:A0 (A2×IL×V)),y = .ref p/\c a=some (.dK b)/\c p=some (.lst (d.map λq=>V.ref q.1))/\(∀q∈d,c q.1=some (.tup [kV q.2.1,q.2.2]))/\b.length+d.length<=sizeLine/\Q .non (HU c a (.dK (K6 b (d.map λq=>q.2))))
theorem Mb{o e:H_}{b c:Pos}{g ty:TE}(k:PE X o g)(l:PE X e ty)(m:M1 X o "update" b e c)(n:X.calm=true:=by rfl):PE X (.Call (.Attribute o "update" b) [e] [] c) (zEm g ty):=by
 intro f s σ H Q I h;refine GX m.base m.few m.line PySem.F.plainAttrs_dict PySem.F.slot_dict_update PySem.F.type_dict_update (IZ (k f s σ H _ I h) λu q ⟨x,r,i,t,a,v,d,w⟩=>?_);subst v;obtain rfl:u=Value.ref a:=t;obtain⟨z,A,_⟩:=Mg i d;refine⟨z,A,?_⟩;rw[m.trees];refine Calls.callWith_builtin rfl (Calls.evalArgs_plain (Calls.spliced_cons (IZ (l f q σ r _ i w) λB O ⟨y,P,j,C,p,D,R,E,G,J,K,L,M⟩=>Calls.spliced_nil ?_)));subst E;obtain rfl:B=Value.ref p:=C;exact zCl j (j.ok.hd n) G J K L λS N=>⟨.non,_,N,rfl,M⟩
end
section
variable{X:Cx}(K:PySem.W.Frag)
theorem slT(a:X.K=K:=by rfl):VM X (zFi K):=by subst a;exact zCx
end
def XO(x C:A2)(d:A6 A2):HO:=.ext λh=>∃o a,h.get? x=some o/\o.cls = .ref C/\o.dict=d/\o.data = .fields a
def XO.ok{P:Cv}{w:HS}{H:Hp}{h:HX}{x C:A2}{d:A6 A2}{o:Obj}{vs:HQ A1}(e:h.get? x=some o)(a:o.cls = .ref C)(b:o.dict=d)(c:o.data = .fields vs):IM P w H h x (XO x C d) :=
 ⟨⟨o,vs,e,a,b,c⟩,⟨o,e⟩,λf g ⟨o,vs,e,r⟩ k=>⟨o,vs,k o e,r⟩⟩
def Fl(H:Hp)(n:Nat)(x:A2)(h:HX):Prop :=
 ∃o a,h.get? x=some o/\o.data = .fields a/\1<a.size/\(a[1]?=some .none\/∃T b c,a[1]?=some (.ref T)/\T≠x/\n<=T/\H T=none/\h.get? T=some b/\b.data = .fields c/\3<c.size)
structure RX(P:Cv)(w:HS)(base:HX)(fs:A0 NL)(env:NL)(outer:A0 NL)(H0:Hp)(s0:A5)(x C:A2)(d:A6 A2)(H:Hp)(s:A5):Prop where
 os:s.os=s0.os
 bare:AllBare s.gens
 un:Un (MW fs) [] H0 H s0.heap s.heap
 hok:L0 P w H s.heap
 bsz:base.objs.size<=s0.heap.objs.size
 bs:∀b o,base.get? b=some o->s.heap.get? b=some o/\H b=none
 funs:s.heap.FunFrames base (env::outer)
 frf:∀b∈MW (env::outer),H b=none
 loc:∃L,env.frame=some L
 old:∀b o,s0.heap.get? b=some o->b∉MW fs->b∉MW (env::outer)
 sub:∀b∈MW fs,b∈MW (env::outer)
 hx:H x=some (XO x C d)
 nx:s0.heap.objs.size<=x
 fl:Fl H s0.heap.objs.size x s.heap
section
variable{P:Cv}{w:HS}{base:HX}{env:NL}{fs outer:A0 NL}{H0 H:Hp}{s0 s:A5}{x C:A2}{d:A6 A2}{h':HX}
theorem RX.chg(r:RX P w base fs env outer H0 s0 x C d H s){TT:A0 A2}(tt:∀T∈TT,H T=none/\s0.heap.objs.size<=T/\∃o ts,s.heap.get? T=some o/\o.data = .fields ts)
  (a:∀b o,b≠x->b∉TT->b∉MW (env::outer)->s.heap.get? b=some o->h'.get? b=some o)
  (f:∀b o,b∈MW (env::outer)->s.heap.get? b=some o->∃B,h'.get? b=some { o with slots:=B })
  (N:∀T∈TT,∃o,h'.get? T=some o) (D:∀o,s.heap.get? x=some o->∃vs,h'.get? x=some { o with data:=.fields vs }) (O:Fl H s0.heap.objs.size x h') :
  RX P w base fs env outer H0 s0 x C d H { s with heap:=h' }:=by
 obtain⟨Q,V,L,E,F,G⟩:∃o vs,s.heap.get? x=some o/\o.cls = .ref C/\o.dict=d/\o.data = .fields vs:=(r.hok x _ r.hx).1;obtain⟨R,l⟩:=D Q L;have S:∀b,b∈MW (env::outer)->b≠x:=λb g z=>by
  have:=r.frf b g;rw[z,r.hx]at this;cases this
 have U:∀b,b∈MW (env::outer)->b∉TT:=λb g z=>by
  obtain⟨_,o,I,i⟩:=r.funs.mem g;obtain⟨_,_,m,ts,h,j⟩:=tt b z;rw[I]at h;cases h;exact i ts j
 have p:∀b o,s0.heap.get? b=some o->b≠x/\b∉TT:=λb o e=>⟨λz=>absurd (AK e) (by rw[z];exact Nat.not_lt.mpr r.nx),λz=>absurd (AK e) (Nat.not_lt.mpr (tt b z).2.1)⟩;have k:∀b o,s.heap.get? b=some o->∃m,h'.get? b=some m:=λb o e=>by
  by_cases t:b=x
  .rw[t];exact⟨_,l⟩
  by_cases v:b∈TT
  .exact N b v
  by_cases y:b∈MW (env::outer)
  .obtain⟨B,q⟩:=f b o y e;exact⟨_,q⟩
  .exact⟨_,a b o t v y e⟩
 have UG:∀b u,H b=some u->b≠x->∀o,s.heap.get? b=some o->h'.get? b=some o:=λb u e c o I =>
  a b o c (λz=>by rw[(tt b z).1]at e;cases e) (λz=>by rw[r.frf b z]at e;cases e) I
 refine⟨r.os,r.bare,⟨λb o e n g A=>?_,λb o e n g A=>?_,r.un.free,λb o e A=>?_,r.un.tups,r.un.frzs,r.un.tbls⟩,λb u e=>?_,r.bsz,λb o e=>?_,?_,r.frf,r.loc,r.old,r.sub,r.hx,r.nx,O⟩
 .exact a b o (p b o e).1 (p b o e).2 (r.old b o e g) (r.un.keep b o e n g A)
 .obtain⟨B,q⟩:=r.un.slot b o e n g A;obtain⟨J,K⟩:=f b _ (r.sub b g) q;exact⟨J,K⟩
 .obtain⟨m,q⟩:=r.un.there b o e A;exact k b m q
 .by_cases c:b=x
  .subst c;rw[r.hx]at e;cases e;exact XO.ok l E F rfl
  .refine(r.hok b u e).stay (λM o g q=>?_) (λ_ q=>q) λ_ _ q=>q;rcases g with z | z
   .subst z;exact UG M u e c o q
   .refine UG M _ z (λK=>?_) o q;rw[K,r.hx]at z;cases z
 .refine⟨a b o (λz=>?_) (λz=>?_) (λz=>?_) (r.bs b o e).1,(r.bs b o e).2⟩
  .have:=(r.bs b o e).2;rw[z,r.hx]at this;cases this
  .exact absurd (AK e) (Nat.not_lt.mpr (Nat.le_trans r.bsz (tt b z).2.1))
  .have:=(r.funs.mem z).1;rw[e]at this;cases this
 .refine r.funs.of_keeps λb o e i=>?_;by_cases t:b=x
  .subst t;rw[L]at e;cases e;exact absurd G (i _)
  by_cases v:b∈TT
  .obtain⟨_,_,m,ts,h,j⟩:=tt b v;rw[e]at h;cases h;exact absurd j (i _)
  by_cases y:b∈MW (env::outer)
  .obtain⟨B,q⟩:=f b o y e;exact⟨_,q,rfl⟩
  .exact⟨o,a b o t v y e,rfl⟩
def Tb(H:Hp)(n:Nat)(x:A2)(h:HX):Prop :=
 ∃o a T b c,h.get? x=some o/\o.data = .fields a/\a[1]?=some (.ref T)/\T≠x/\n<=T/\H T=none/\h.get? T=some b/\b.data = .fields c/\3<c.size
theorem Tb.fl{H:Hp}{n:Nat}{x:A2}{h:HX}(t:Tb H n x h):Fl H n x h:=by
 obtain⟨o,b,T,c,d,e,f,a,r⟩:=t;exact⟨o,b,e,f,(CK.mp a).1,.inr ⟨T,c,d,a,r⟩⟩
theorem zHc{o:Obj}{vs:HQ A1}(f:HQ A1->HQ A1)(e:o.data = .fields vs):Obj.mapFields f o ={ o with data:=.fields (f vs) }:=by
 obtain⟨a,b,c,d⟩:=o;have e:c = .fields vs:=e;subst e;rfl
section
variable{M:Model}{A:HZ}{E:A1->A5->Prop}{Q:Unit->A5->Prop}
theorem RX.entry(r:RX P w base fs env outer H0 s0 x C d H s)(p:A.frames=some (env::outer)){L:A2}(D:env.frame=some L){e:A1}{f:Bool}
  (h:∀h',RX P w base fs env outer H0 s0 x C d H { s with heap:=h' }->Tb H s0.heap.objs.size x h'->Q () { s with heap:=h' }) :
  wpAny M A (do let a <-frameOf env;let pl <-entryPlaceOf L f;let b <-EntryCells.newEntry e a .none (rawInt L) .none pl;setField (.ref x) 1 b) Q E s:=by
 obtain⟨o,K,c,t,g,_⟩:=id r.fl;have i:∀b,b∈MW (env::outer)->b≠x:=λb j z=>by
  have:=r.frf b j;rw[z,r.hx]at this;cases this
 refine AB (wpAny_frameOf_fun p r.funs D λh₁ m₁=>?_);refine AB (wpAny_entryPlaceOf λpl u=>?_);unfold EntryCells.newEntry newFields;refine AB (CD ?_ (u.sizeOk5 _ _ _ _ _));have c₁:h₁.get? x=some o:=(m₁.2.1 x λF=>i x F rfl).trans c;have k:3 <([e,Value.ref L,.none,rawInt L,.none] ++(if pl.isEmpty then List.replicate 6 Value.none else pl)).toArray.size:=by
  simp only[BD,AW,BK,GM];lia
 generalize ([e,Value.ref L,.none,rawInt L,.none] ++(if pl.isEmpty then List.replicate 6 Value.none else pl)).toArray=n at k;have c₂:=AD (h:=h₁) { cls:=.type "traceback",dict:=none,data:=.fields n } c₁;have l:h₁.objs.size≠x:=FQ (AK c₁);have G₃:=(BL (h₁.push { cls:=.type "traceback",dict:=none,data:=.fields n }) (Obj.mapFields (·.setIfInBounds 1 (Value.ref h₁.objs.size))) (Ne.symm l)).trans (BG h₁ rfl);have c₃:=CC (Obj.mapFields (·.setIfInBounds 1 (Value.ref h₁.objs.size))) c₂ (Obj.isFreed_of_fields (Obj.data_mapFields t _));rw[zHc _ t]at c₃;have B:Tb H s0.heap.objs.size x ((h₁.push { cls:=.type "traceback",dict:=none,data:=.fields n }).update x (Obj.mapFields (·.setIfInBounds 1 (Value.ref h₁.objs.size)))) :=
  ⟨_,_,h₁.objs.size,_,n,c₃,rfl,by simp[g],l,Nat.le_trans r.nx (DB (AK c₁)),r.hok.fresh (by rw[m₁.1];exact Nat.le_refl _),G₃,rfl,k⟩
 refine EX c₂ t g (h _ (r.chg (TT:=[]) (λ_ z=>nomatch z) (λb v j _ y q=>?_) (λb v j q=>?_) (λ_ z=>nomatch z) (λv q=>?_) B.fl) B)
 .rw[BL _ _ (Ne.symm j)];exact AD _ ((m₁.2.1 b y).trans q)
 .obtain⟨I,J⟩:=m₁.2.2 b v q;refine⟨I,?_⟩;rw[BL _ _ (Ne.symm (i b j))];exact AD _ J
 .rw[c]at q;cases q;exact⟨_,c₃⟩
theorem RX.setT(r:RX P w base fs env outer H0 s0 x C d H s){o k:Obj}{vs ts:HQ A1}{T:A2}{v:A1}(l:s.heap.get? x=some o)(m:o.data = .fields vs)(h1:vs[1]?=some (.ref T))(n:T≠x)(p:s0.heap.objs.size<=T)(t:H T=none)(e:s.heap.get? T=some k)(a:k.data = .fields ts)(u:3<ts.size)
  (h:∀h',RX P w base fs env outer H0 s0 x C d H { s with heap:=h' }->Tb H s0.heap.objs.size x h'->Q () { s with heap:=h' }):wpAny M A (setField (.ref T) 3 v) Q E s:=by
 have c:=(BL s.heap (Obj.mapFields (·.setIfInBounds 3 v)) n).trans l;have f:=CC (Obj.mapFields (·.setIfInBounds 3 v)) e (Obj.isFreed_of_fields (Obj.data_mapFields a _));have y:Tb H s0.heap.objs.size x (s.heap.update T (Obj.mapFields (·.setIfInBounds 3 v))):=⟨o,vs,T,_,_,c,m,h1,n,p,t,f,Obj.data_mapFields a _,by simpa using u⟩;refine EX e a u (h _ (r.chg (TT:=[T]) (λb z=>?_) (λb g B i _ q=>?_) (λb g B q=>?_) (λb z=>?_) (λg q=>?_) y.fl) y)
 .rw[AC.mp z];exact⟨t,p,_,_,e,a⟩
 .rw[BL _ _ (λz=>i (by rw[z];exact AC.mpr rfl))];exact q
 .refine⟨g.slots,?_⟩;rw[BL _ _ (λz=>by
   obtain⟨_,F,D,j⟩:=r.funs.mem B;rw[<-z,e]at D;cases D;exact j _ a)]
  exact q
 .rw[AC.mp z];exact⟨_,f⟩
 .rw[l]at q;cases q;exact⟨vs,by rw[c,<-m]⟩
theorem RX.note(r:RX P w base fs env outer H0 s0 x C d H s)(b:A.frames=some (env::outer))
  (h:∀h',RX P w base fs env outer H0 s0 x C d H { s with heap:=h' }->Tb H s0.heap.objs.size x h'->Q () { s with heap:=h' }):wpAny M A (noteFrame (.ref x) env) Q E s:=by
 obtain⟨L,j⟩:=r.loc;obtain⟨o,p,g,i,q,c⟩:=id r.fl;unfold noteFrame;simp only[j];rcases c with f | ⟨T,t,u,f,l,m,n,e,a,k⟩
 .refine AB (FM g i f ?_);rw[AS (by decide)];exact r.entry b j h
 .refine AB (FM g i f ?_);rw[AY (show(Value.ref T != Value.none)=true from by simp)];refine AB (FM e a (Array.getElem?_eq_getElem k) ?_);split
  .exact AE (h s.heap r ⟨o,p,T,t,u,g,i,f,l,m,n,e,a,k⟩)
  .refine AB (r.setT g i f l m n e a k λh' v _=>?_);exact v.entry b j h
theorem RX.flight(r:RX P w base fs env outer H0 s0 x C d H s){fr:A6 A2}
  (h:∀h',RX P w base fs env outer H0 s0 x C d H { s with heap:=h' }->(Tb H s0.heap.objs.size x s.heap->Tb H s0.heap.objs.size x h')->Q () { s with heap:=h' }):wpAny M A (setFlight (.ref x) fr) Q E s:=by
 obtain⟨o,q,b,f,i,c⟩:=id r.fl;unfold setFlight;rcases c with a | ⟨T,t,u,a,j,k,l,e,g,m⟩
 .refine AB (FM b f a ?_);rw[AS (by decide)];exact AE (h s.heap r id)
 .refine AB (FM b f a ?_);rw[AY (show(Value.ref T != Value.none)=true from by simp)];exact r.setT b f a j k l e g m λh' n p=>h h' n λ_=>p
theorem RX.leave(r:RX P w base fs env outer H0 s0 x C d H s)(a:A.frames=some (env::outer))
  (h:∀h',RX P w base fs env outer H0 s0 x C d H { s with heap:=h' }->Tb H s0.heap.objs.size x h'->Q () { s with heap:=h' }):wpAny M A (leaving env (.ref x)) Q E s:=by
 unfold leaving;exact AB (r.note a λh' b c=>b.flight λe f g=>h e f (g c))
end
end
def UF(P:Cv)(w:HS):TK:=λa H s E e b =>
 ∃x C d c,e = .ref x/\b.os=s.os/\AllBare b.gens/\Un (MW a) [] H c s.heap b.heap/\L0 P w c b.heap/\c x=some (XO x C d)/\s.heap.objs.size<=x/\Tb c s.heap.objs.size x b.heap/\E (.ref C) d c
def XE(X:Cx)(E:XK):A1->A5->Prop:=λe b=>∃x C d a,e = .ref x/\RX X.prog X.w X.base X.outer X.env X.outer X.H₀ X.s₀ x C d a b/\E (.ref C) d a
section
variable{prog:Cv}{w:HS}{A:HZ}{E:A1->A5->Prop}{h:HX}{g:HQ GenState}{d:Drawn}{t:Nat}{os:OsState}
variable{nm q:Str}{C N:A2}{bs bm bmB:A0 A1}{hdct:Bool}{sn:A0 Str}{sub:A0 A1}{ab:Bool}{col:A6 Bool}{dd:A6 A2}{k0 k1 k2 k3 k5:A6 A1}{B newId initId:String}
abbrev UA(C t:A2):Obj:={ cls:=.ref C,data:=.fields #[.ref t,.none,.none,.none,.bool false,.none] }
abbrev KY(h:HX)(C:A2)(a:A0 A1):HX:=(h.push { cls:=.type "tuple",data:=.seq a.toArray }).push (UA C h.objs.size)
end
def XN(x C:A2)(d:A6 A2):HO:=.ext λh=>∃a b,h.get? x=some ⟨.ref C,d,.fields a,b⟩/\a[1]?=some .none
def XN.ok{P:Cv}{w:HS}{H:Hp}{h:HX}{x C:A2}{d:A6 A2}{vs:HQ A1}{a:HQ (A6 A1)}(e:h.get? x=some ⟨.ref C,d,.fields vs,a⟩)(h1:vs[1]?=some .none):IM P w H h x (XN x C d) :=
 ⟨⟨vs,a,e,h1⟩,⟨_,e⟩,λh1 b ⟨vs,a,e,r⟩ k=>⟨vs,a,k _ e,r⟩⟩
section
variable{M:Model}{A:HZ}{E:A1->A5->Prop}{env:NL}
variable{nm q:Str}{C N:A2}{bs bm:A0 A1}{hdct:Bool}{sn:A0 Str}{sub:A0 A1}{ab:Bool}{col:A6 Bool}{dd:A6 A2}{k0 k1 k2 k3 k5:A6 A1}{newId:String}
theorem Qr{s:A5}{x:Sem A1}{Q:Flow->A5->Prop}(a:bm.contains (.type "BaseException")=true)(k:A.handled=none)
  (h:wpAny M A x (λv s₁=>∃e b vs f,v = .ref e/\s₁.heap.get? C=some (excClassObj nm q C N bs bm hdct sn sub ab col dd k0 k1 k2 k3 k5 newId) /\
   s₁.heap.get? e=some ⟨.ref C,b,.fields vs,f⟩/\vs[1]?=some .none/\E (.ref e) s₁) E s) :
  wpAny M A (raiseStmt env (some x) none) Q E s:=by
 have c:(Value.ref C::bm).contains (.type "BaseException")=true:=by rw[List.contains_cons,a,Bool.or_true]
 unfold raiseStmt;refine AB (CA h (λv s₁ h₁=>?_) λ_ _ x=>x);obtain⟨e,b,vs,f,rfl,i,j,l,m⟩:=h₁;obtain⟨n,g,d,o,os⟩:=s₁
 repeat (first | with_reducible refine DX j ?_ | with_reducible refine DX i ?_ | (with_reducible refine GH i ?_;rw[c]) | with_reducible refine FM j rfl l ?_ | wp_step)
 exact wpAny_raiseNew_none k m
end
structure XC(K:PySem.W.Frag)(C:A2)(bm:A0 A1):Prop where
 obj:∃nm q N bs hdct sn sub ab col dd k0 k1 k2 k3 k5,K.lookup C=some (excClassObj nm q C N bs bm hdct sn sub ab col dd k0 k1 k2 k3 k5 "ValueError.__new__")
 tail:PySem.W.tailIn K [.type "ValueError",.type "Exception",.type "BaseException",.type "object"] bm=true
 kp:PySem.W.keepIn K (.ref C)=true
 sa:PySem.W.findIn K (.ref C) "__setattr__" = some (some (.builtin "object.__setattr__"))
 hd:PySem.W.hasDictIn K C=true
def XC.base{K:PySem.W.Frag}{C:A2}{bm:A0 A1}(c:XC K C bm){h:HX}(X:K.In h):bm.contains (.type "BaseException")=true:=(PySem.W.tail_of_in X c.tail).hasType rfl
structure BX(X:Cx)(E:XK):Prop where
 xe:X.xe=XE X E
 st:X.stack=X.env::X.outer
 fr:X.env.frame=some X.env.locals
 ex:X.ex = []
 calm:X.calm=true
section
variable{X:Cx}{pins:A0 (A2×Obj)}{σ:St}{H:Hp}{s:A5}{x C:A2}{E:XK}
theorem Inv.rx{d:A6 A2}(I:Inv X pins σ H s)(b:BX X E)(f:H x=some (XO x C d))(nx:X.s₀.heap.objs.size<=x)(g:Fl H X.s₀.heap.objs.size x s.heap):RX X.prog X.w X.base X.outer X.env X.outer X.H₀ X.s₀ x C d H s:=by
 refine⟨I.os,I.bare,by have:=I.base;rw[b.ex]at this;exact this,I.hok,I.ok.bsz,I.bs,by have:=I.stack;rw[b.st]at this;exact this,by have:=I.stkFree;rw[b.st]at this;exact this,⟨_,b.fr⟩,λc o e a z=>?_,λc a=>?_,f,nx,g⟩
 .unfold MW at z a;rw[CU,b.fr]at z;rcases A_.mp z with q | q
  .exact absurd (AK e) (by rw[q];exact Nat.not_lt.mpr I.ok.above)
  .exact a q
 .unfold MW at a⊢;rw[CU,b.fr];exact AQ _ a
end
section
variable{X:Cx}{C f:A2}{fd:IJ}{ps:A0 Str}{sp:Sp}{E:XK}{bm:A0 A1}{k:Nat}{n:Str}{p pos cpos:Pos}{e:H_}{es:A0 H_}{t:TA}
theorem BX.made{a:A0 (A2×Obj)}{σ:St}{H:Hp}{s:A5}{x:A2}{d:A6 A2}(b:BX X E)(I:Inv X a σ H s)(h:H x=some (XN x C d))(nx:X.s₀.heap.objs.size<=x)(q:E (.ref C) d (HU H x (XO x C d))) :
  ∃vs c,s.heap.get? x=some ⟨.ref C,d,.fields vs,c⟩/\vs[1]?=some .none/\X.xe (.ref x) s:=by
 obtain⟨vs,c,f,g⟩:∃vs c,s.heap.get? x=some ⟨.ref C,d,.fields vs,c⟩/\vs[1]?=some .none:=(I.hok x _ h).1;refine⟨vs,c,f,g,?_⟩;have i:Inv X a σ (HU H x (XO x C d)) s:=I.write (x:=x) (e:=x) (h':=s.heap) (t':=s.toks) (by rw[h];exact True.intro) (.inl rfl) (λ_ _ _ z=>z) ⟨_,f⟩ (XO.ok f rfl rfl rfl);rw[b.xe];exact⟨x,C,d,_,rfl,i.rx b A9 nx ⟨_,vs,f,rfl,(CK.mp g).1,.inl g⟩,q⟩
end
section
variable{P:Cv}{w:HS}{K:PySem.W.Frag}{mg:Str->A6 A1}{base:HX}
abbrev VI(P:Cv)(w:HS)(K:PySem.W.Frag)(mg:Str->A6 A1)(base:HX)(N:A0 Str)(c:Str)(a:IT)(f:A2)(d:A1)(A:HZ)(b:A0 NL)(s:A5)(H:Hp)(E:XK):Cx :=
 (Tq (UF P w) P w K mg base N c a f d A b s H E).wish (XE (Tq (UF P w) P w K mg base N c a f d A b s H E) E)
theorem VI.bx{N:A0 Str}{c:Str}{a:IT}{f:A2}{d:A1}{A:HZ}{b:A0 NL}{s:A5}{H:Hp}{E:XK}:BX (VI P w K mg base N c a f d A b s H E) E:=⟨rfl,rfl,rfl,rfl,rfl⟩
theorem P7.wishI{X:Cx}{E:A1->A5->Prop}{st:A0 IE}{t:TS}(k:X.A.frames=some X.stack->∀e s,E e s->X.xe e s)(h:P7 (X.wish E) st t):P7 X st t:=λa s σ H D I b =>
 CA (h a s σ H D (I.wish _) b) (λ_ _ q=>q.unwish) (k I.ok.frames)
theorem N_.okE{x b:Str}{st:IE}{f:A2}{n:IJ}{N ps:A0 Str}{k:Nat}{sp:Sp}(F:N_ K x b st f n)(S:HW N ps (B6 st))(j:∀vs H Q E,sp vs H Q E->vs.length=ps.length)
  (g:∀(c:A1) (A:HZ) (a:A0 NL) (s:A5) (H:Hp) (vs:A0 V) (Q:VK) (E:XK),JH k (A.deeper (envOfC b (B6 st) s.heap.objs.size f c))->sp vs H Q E ->
   ∃t,P7 (VI P w K mg base N b (B6 st) f c A a s H E) (K2 st) t/\t { nx:=λ_ H'=>Q .non H',rt:=Q } (t9 N vs) H):II P w K mg base (UF P w) (k+1) f n ps sp:=by
 obtain⟨B,D,kV,o,G,I,c,J,p,rfl,lk,l⟩:=F.ex;refine Yu lk l S j λA a s H vs Q E u m=>?_;obtain⟨t,h,q⟩:=g c A a s H vs Q E u m;refine⟨t,h.wishI λv e L z=>?_,q⟩;obtain⟨x,C,d,H',rfl,r,q⟩:=z;exact RX.leave r v λM i y=>⟨x,C,d,H',rfl,i.os,i.bare,i.un,i.hok,i.hx,i.nx,y,q⟩
end
def PEx(X:Cx)(e:H_)(t:XK->TE):Prop:=∀(a:A0 (A2×Obj)) (s:A5) (σ:St) (H:Hp) (Q:VK) (E:XK),Inv X a σ H s->t E σ H Q ->
 wpAny (model X.prog X.w) X.A (eval e X.env) (EP X a σ Q) (λd f=>∃b c,Inv X a σ c b/\UF X.prog X.w X.stack c b E d f) s
section
variable{X:Cx}{pins:A0 (A2×Obj)}{σ:St}{H:Hp}{s:A5}
theorem j4{M:Model}{A:HZ}{E:A1->A5->Prop}{i:Nat}{x:Str}{pos:Pos}{Q:Unit->A5->Prop}(I:Inv X pins σ H s)(O:X.N.Nodup)(hi:X.N[i]?=some x)(f:X.env.scope.names.lookup x=some .local)
  (h:∀F,Inv X pins (σ.set i none) H F->Q () F):wpAny M A (do bindName X.env x .none;unbindBehindTheSuite X.env x pos) Q E s:=by
 obtain⟨m,G,P⟩:=id I.loc;have t:(X.env.scope.kind == .class||(X.env.scope.kind == .module&&X.env.locals != X.env.globals))=false:=by rw[I.ok.kind];rfl
 have u:=I.cne;refine wpAny_nameGoes_keeps f G t λR v B g=>?_;obtain⟨oL,_,_,S,_⟩:=id G;have C:∀b o,X.s₀.heap.get? b=some o->b≠X.env.locals:=λb o e=>BC (BI (AK e) I.ok.above);have a:L0 X.prog X.w H R:=λb T e=>by
  refine(I.hok b T e).stay (λc J hc q=>(g.2 c ?_).trans q) (λ_ q=>q) λ_ _ q=>q;rintro rfl;rcases hc with rfl | hc
  .rw[I.free]at e;cases e
  .rw[I.free]at hc;cases hc
 refine h _ ⟨I.ok,I.os,I.bare,⟨λb o e n D f=>?_,λb o e n D f=>?_,I.base.free,λb o e f=>?_,I.base.tups,I.base.frzs,I.base.tbls⟩,⟨_,B,λj y U l r V=>?_⟩,λy c e=>?_,I.free,I.freeC,λp W=>?_,a,by simpa using I.len⟩
 .exact(g.2 b (C b o e)).trans (I.base.keep b o e n D f)
 .obtain⟨Y,l⟩:=I.base.slot b o e n D f;exact⟨Y,(g.2 b (C b o e)).trans l⟩
 .obtain⟨Z,l⟩:=I.base.there b o e f;exact⟨Z,(g.2 b (C b o e)).trans l⟩
 .have K:j≠i:=λz=>by
   rw[z,List.getElem?_set]at r;split at r
   .split at r<;>cases r
   .rename_i q;exact q rfl
  rw[List.getElem?_set_ne (Ne.symm K)]at r;obtain⟨u',r',q⟩:=P j y U l r V;refine⟨u',r',?_⟩;rcases q with⟨k,e⟩ | ⟨k,c,e,z⟩
  .refine .inl ⟨k,?_⟩;have:y≠x:=λe=>K (Fp O l (e▸hi));simp[this,e]
  .exact .inr ⟨k,c,e,z.sameBut g (u y c e)⟩
 .obtain⟨J,z⟩:=I.cell y c e;exact⟨J,z.sameBut g (u y c e)⟩
 .obtain⟨e,n,L,nf,d⟩:=I.pin p W;exact⟨(g.2 p.1 L).trans e,n,L,nf,d⟩
end
section
variable{M:Model}{A:HZ}{E:A1->A5->Prop}{h:HX}{g:HQ GenState}{dn:Drawn}{tk:Nat}{os:OsState}
variable{nm q nm' q':Str}{C N S N':A2}{bs bm bs' bm':A0 A1}{hdct hdct':Bool}{sn sn':A0 Str}{sub sub':A0 A1}{ab ab':Bool}{col col':A6 Bool}{dd dd':A6 A2}{k0 k1 k2 k3 k5 j0 j1 j2 j3 j5:A6 A1}{newId newId':String}
theorem zHl{e:A2}{c:Obj}{Q:Bool->A5->Prop}(d:h.get? C=some (excClassObj nm q C N bs bm hdct sn sub ab col dd k0 k1 k2 k3 k5 newId))(i:h.get? S=some (excClassObj nm' q' S N' bs' bm' hdct' sn' sub' ab' col' dd' j0 j1 j2 j3 j5 newId'))(j:h.get? e=some c)(a:c.cls = .ref C)
  (k:bm'.contains (.type "BaseException")=true) (l:(Value.ref C::bm).contains (.ref S)=true) (m:Q true ⟨h,g,dn,tk,os⟩):wpAny M A (excMatches (.ref e) (.ref S)) Q E ⟨h,g,dn,tk,os⟩:=by
 have b:(Value.ref S::bm').contains (.type "BaseException")=true:=by rw[List.contains_cons,k,Bool.or_true]
 have f:=tc_notTuple;unfold excMatches
 repeat (first | (with_reducible refine DX j ?_;rw[a]) | with_reducible refine DX i ?_ | with_reducible refine DX d ?_ | (with_reducible refine GH i ?_;rw[b]) | (with_reducible refine GH d ?_;rw[l]) | wp_step)
 exact m
end
abbrev Xm(X:Cx)(a:A1):Cx:={ X with A:=X.A.mark (some a),calm:=false }
section
variable{X:Cx}{pins:A0 (A2×Obj)}{σ:St}{H:Hp}{s:A5}{ev:A1}
theorem Inv.mark(I:Inv X pins σ H s)(ev:A1):Inv (Xm X ev) pins σ H s :=
 ⟨⟨I.ok.mod,I.ok.kind,I.ok.glob,I.ok.blt,I.ok.above,I.ok.inj,I.ok.has,I.ok.cab,λz=>absurd z (by simp),I.ok.frames,I.ok.stk,I.ok.exf,I.ok.bs,I.ok.bsz,I.ok.noex,I.ok.exfs,I.ok.funs,I.ok.frf⟩,I.os,I.bare,I.base,I.loc,I.cell,I.free,I.freeC,I.pin,I.hok,I.len⟩
theorem Inv.unmark(a:X.Ok)(I:Inv (Xm X ev) pins σ H s):Inv X pins σ H s:=⟨a,I.os,I.bare,I.base,I.loc,I.cell,I.free,I.freeC,I.pin,I.hok,I.len⟩
end
def Dh(i:Nat)(D:Ends):Ends:={ nx:=λσ H=>D.nx (σ.set i none) H,rt:=D.rt,bk:=λσ H=>D.bk (σ.set i none) H,ct:=λσ H=>D.ct (σ.set i none) H }
structure XG(K:PySem.W.Frag)(C:A2):Prop where
 ga:PySem.W.findIn K (.ref C) "__getattribute__" = some (some (.builtin "BaseException.__getattribute__"))
 gn:PySem.W.findIn K (.ref C) "__getattr__" = some none
 mb:PySem.W.mroIn K C (.type "BaseException")=some true
 hd:PySem.W.hasDictIn K C=true
section
variable{prog:Cv}{w:HS}{A:HZ}{E:A1->A5->Prop}{s:A5}{K:PySem.W.Frag}{x C:A2}{ox:Obj}{od:A6 Obj}{name:Str}
theorem Qn{M:Model}{a:A1}{Q:Unit->A5->Prop}(X:K.In s.heap)(I:PySem.W.InstAt s.heap x ox C od)(c:XG K C)(j:Q () s):wpAny M A (checkBuiltinCall "BaseException.__getattribute__" ⟨[.ref x,a],[]⟩) Q E s:=by
 have e:builtinKind "BaseException.__getattribute__" = some .slot:=by decide +kernel
 have b:splitId "BaseException.__getattribute__" = some ("BaseException", "__getattribute__"):=by decide +kernel
 have k:=PySem.F.args_bexc_ga (.ref x) a;have f:=I.type (M:=M);have i:=PySem.W.looks_mroIn (M:=M) X c.mb;obtain⟨h,g,d,t,os⟩:=s;simp only[checkBuiltinCall,e,b];refine AB ?_;unfold isInstance;refine AB (f.at (i.at ?_))
 repeat (any_goals (first | assumption | wp_step))
theorem Qu{b:Tok}{R:Result->A5->Prop}(X:K.In s.heap)(I:PySem.W.InstAt s.heap x ox C od)(c:XG K C)
  (h:wpAny (model prog w) A.in1 (Builtin.«object.__getattribute__» ⟨[.ref x,.str name b],[]⟩) (λfin a=>match fin with | .done f=>R (.ok f) a | .again d=>d.quiet=true/\codeAny (model prog w) A d R a) (λe a=>R (.error e) a) s) :
  codeAny (model prog w) A (.call (.builtin "BaseException.__getattribute__") ⟨[.ref x,.str name b],[]⟩) R s :=
 GA PySem.F.attrBase_ValueError.ga.plain PySem.F.entry_bexc_ga (Qn X I c h)
theorem Zm{i:Tok}{fill a:Bool}{Q:A1->A5->Prop}(X:K.In s.heap)(I:PySem.W.InstAt s.heap x ox C od)(c:XG K C)
  (h:codeAny (model prog w) A (.call (.builtin "BaseException.__getattribute__") ⟨[.ref x,.str name i],[]⟩) (λr j=>match r with | .ok (.ret v)=>wpAny (model prog w) A (handedOut v) Q E j | _=>False) s) :
  wpAny (model prog w) A (getAttrBy (.ref x) (.str name i) fill a) Q E s:=by
 have k:=I.type (M:=model prog w);have l:=PySem.W.looks_findIn (M:=model prog w) X c.ga;have L2:=PySem.W.looks_findIn (M:=model prog w) X c.gn;have m:=PySem.F.attrBase_ValueError.ga.bind (.ref x);have b:(a&&onTheHeap (Value.builtin "BaseException.__getattribute__"))=false:=by cases a<;>rfl
 obtain⟨n,g,d,t,os⟩:=s;unfold getAttrBy;refine BW (AB (k.at (AB (l.at ?_))));show wpAny _ _ (getAttrByItsOwn _ _ _ _ _ _) _ _ _;unfold getAttrByItsOwn;refine AB ?_;unfold hookBefore;rw[AY (show onTheHeap (Value.ref C)=true from rfl)];refine L2.at ?_;unfold callGetattribute;rw[b,AS (by decide)];unfold boundAndCalled;refine AB (HN (BW ?_));rw[m];refine AB (AE ?_);refine FR (FE h λr j z=>?_);cases r with
 | error e=>exact False.elim z
 | ok f =>
  cases f with
  | ret v=>exact z
  | next=>exact False.elim z
  | brk=>exact False.elim z
  | cont=>exact False.elim z
end
def Lw:∀{cs:A0 A2} {us:A0 A1},IC (cs.map V.ref) us->us=cs.map Value.ref
 | [],_,.nil=>rfl
 | _::_,_,.cons r t=>by rw[BP,Lw t];cases r;rfl
def NM{K:PySem.W.Frag}{nm q:Str}{C N:A2}{bs bm:A0 A1}{hdct:Bool}{sn:A0 Str}{sub:A0 A1}{ab:Bool}{col:A6 Bool}{dd:A6 A2}{k0 k1 k2 k3 k5:A6 A1}
  (l:K.lookup C=some (excClassObj nm q C N bs bm hdct sn sub ab col dd k0 k1 k2 k3 k5 "ValueError.__new__")) (t:PySem.W.tailIn K [.type "ValueError",.type "Exception",.type "BaseException",.type "object"] bm=true) (k:PySem.W.keepIn K (.ref C)=true)
  (s:PySem.W.findIn K (.ref C) "__setattr__" = some (some (.builtin "object.__setattr__"))) (d:PySem.W.hasDictIn K C=true):XC K C bm:=⟨⟨_,_,_,_,_,_,_,_,_,_,_,_,_,_,_,l⟩,t,k,s,d⟩
section
variable{X:Cx}{E:XK}
theorem Ec:bootBuiltins "ValueError" = some (.type "ValueError"):=by decide +kernel
end
section
variable{prog:Cv}{w:HS}{A:HZ}{E:A1->A5->Prop}{h:HX}{g:HQ GenState}{d:Drawn}{t:Nat}{os:OsState}
variable{nm q:Str}{C N:A2}{bs bm bmB:A0 A1}{hdct:Bool}{sn:A0 Str}{sub:A0 A1}{ab:Bool}{col:A6 Bool}{dd:A6 A2}{k0 k1 k2 k3 k5:A6 A1}{B newId initId:String}
theorem Qb{K:PySem.W.Frag}{a:A0 A1}{Q:Fin->A5->Prop}(F:ExcBaseFacts B newId initId bmB)(T:OwnTail h bmB bm)(X:K.In h)
  (f:h.get? C=some (excClassObj nm q C N bs bm hdct sn sub ab col dd k0 k1 k2 k3 k5 newId)) (hi:PySem.W.findIn K (.ref C) "__init__" = some (some (.builtin initId)))
  (i:a.length<=sizeLine) (r:∀h',(∀b o,h.get? b=some o->h'.get? b=some o)->(∃tt,h'.get? (h.objs.size+1)=some { cls:=.ref C,data:=.fields #[.ref tt,.none,.none,.none,.bool false,.none] })->Q (.done (.ret (.ref (h.objs.size+1)))) ⟨h',g,d,t,os⟩) :
  wpAny (model prog w) A (Builtin.«type.__call__» ⟨.ref C::a,[]⟩) Q E ⟨h,g,d,t,os⟩:=by
 have m:∀b o,h.get? b=some o->(KY h C a).get? b=some o:=λb o e=>AD _ (AD _ e);have f₁:(KY h C a).get? C=some (excClassObj nm q C N bs bm hdct sn sub ab col dd k0 k1 k2 k3 k5 newId):=m _ _ f;have c:(KY h C a).get? (h.objs.size+1)=some (UA C h.objs.size):=by unfold KY;heap_get
 have n:(Value.ref C::bm).contains (.ref C)=true:=by simp
 have X₁:K.In (KY h C a):=X.keeps m;have T₁:=T.keeps m
 repeat (first | with_reducible refine DX f ?_ | with_reducible refine wpAny_madeBy_exc f ?_ | wp_step)
 refine codeAny_call_builtin_code (Code.quiet_builtin _ F.quiet) (wpAny_check_new_subT F T f (codeAny_exc_new_subT F T f ?_ i));show wpAny _ _ _ _ _ ⟨KY h C a,g,d,t,os⟩;have p:∀j,(∀b o,(KY h C a).get? b=some o->b≠h.objs.size+1->j.get? b=some o)->(∃tt,j.get? (h.objs.size+1)=some { cls:=.ref C,data:=.fields #[.ref tt,.none,.none,.none,.bool false,.none] }) ->
   Q (.done (.ret (.ref (h.objs.size+1)))) ⟨j,g,d,t,os⟩:=λj k u=>r j (λb o e=>k b o (m b o e) (λz=>by rw[z]at e;exact absurd (AK e) (Nat.not_lt.mpr (CQ _)))) u
 have l:(KY h C a).objs.size=h.objs.size+2:=by unfold KY;simp only[CZ]
 generalize KY h C a=v at f₁ c X₁ T₁ p l⊢;unfold isInstance
 repeat (first | with_reducible refine DX c ?_ | (with_reducible refine GH f₁ ?_;rw[n]) | wp_step)
 show wpAny _ _ (typeLookup (.ref C) _) _ _ _;refine PySem.W.Looks.here (s:=⟨v,g,d,t,os⟩) (PySem.W.looks_findIn X₁ hi) ?_;refine BW (AB (EA (F.init.bind _) ?_));refine AB (FR (GA F.init.plain F.initEntry (wpAny_check_init_subT F T₁ f₁ c rfl ?_)));wp_walk;refine p _ (λb o e x=>?_) ⟨h.objs.size+2,?_⟩
 .rw[BL _ _ (Ne.symm x)];exact AD _ e
 .rw[CC _ (AD _ c) rfl,l];rfl
theorem Sa{K:PySem.W.Frag}{a:A0 A1}{Q:A1->A5->Prop}(F:ExcBaseFacts B newId initId bmB)(T:OwnTail h bmB bm)(X:K.In h)
  (e:h.get? C=some (excClassObj nm q C N bs bm hdct sn sub ab col dd k0 k1 k2 k3 k5 newId)) (hi:PySem.W.findIn K (.ref C) "__init__" = some (some (.builtin initId)))
  (c:a.length<=sizeLine) (f:∀h',(∀b o,h.get? b=some o->h'.get? b=some o)->(∃tt,h'.get? (h.objs.size+1)=some { cls:=.ref C,data:=.fields #[.ref tt,.none,.none,.none,.bool false,.none] })->Q (.ref (h.objs.size+1)) ⟨h',g,d,t,os⟩) :
  wpAny (model prog w) A (call (.ref C) a) Q E ⟨h,g,d,t,os⟩:=by
 have i:=tc_lookup;have j:=tc_bind (.ref C);have k:(⟨h,g,d,t,os⟩:A5).TypeIs (.ref C) "type":=⟨_,e,rfl⟩;refine FR (codeAny_of_tree ?_);show wpAny _ _ (callAny (.ref C) _) _ _ _
 repeat (any_goals (first | assumption | with_reducible refine DX e ?_ | wp_step))
 refine⟨rfl,?_⟩;exact codeAny_call_builtin_at (Code.quiet_builtin _ (by decide +kernel)) entry_typeCall (wpAny_check_type_call_sub e (Qb F T X e hi c f))
end
def Xy(K:PySem.W.Frag)(C:A2):Prop:=PySem.W.findIn K (.ref C) "__init__" = some (some (.builtin "ValueError.__init__"))
section
variable{X:Cx}{pins:A0 (A2×Obj)}{σ:St}{H:Hp}{s:A5}{C:A2}{bm:A0 A1}{E:A1->A5->Prop}
theorem Ux{us:A0 A1}{Q:A1->A5->Prop}(c:XC X.K C bm)(f:Xy X.K C)(I:Inv X pins σ H s)(b:us.length<=sizeLine)(h:∀x d,H x=none->X.s₀.heap.objs.size<=x->Inv X pins σ (HU H x (XN x C none)) d->Q (.ref x) d) :
  wpAny (model X.prog X.w) X.A (call (.ref C) us) Q E s:=by
 obtain⟨n,q,N,o,e,p,sub,r,i,t,u,v,y,z,B,a⟩:=c.obj;have j:=I.sz;obtain⟨D,g,G,k,os⟩:=s;refine Sa PySem.F.excBase_ValueError (PySem.W.tail_of_in I.kIn c.tail) I.kIn (I.kIn _ _ a) f b λJ l ⟨tt,m⟩=>?_;exact h _ _ (I.hok.fresh (CQ _)) (Nat.le_trans j (CQ _)) (I.laid (t':=k) l (CQ _) (XN.ok m rfl))
end
def zAr(C:A2)(E:XK)(t:TA):TS:=λ_ σ H=>t σ H λb a=>b.length<=sizeLine/\∀x,a x=none->E (.ref C) none (HU a x (XO x C none))
section
variable{X:Cx}{C f:A2}{fd:IJ}{ps:A0 Str}{sp:Sp}{E:XK}{bm:A0 A1}{k:Nat}{n:Str}{p pos cpos:Pos}{e:H_}{es:A0 H_}{t:TA}
theorem Ua(b:BX X E)(c:XC X.K C bm)(m:Xy X.K C)(o:Gl X n)(u:X.mg n=some (.ref C))(w:PA X (e::es) t)
  (g:(n ==("__debug__":Str))=false:=by decide) (y:starEach (e::es) X.env =(false,eval e X.env)::starEach es X.env:=by rfl) (i:(backTo cpos (starEach es X.env)).any (·.1)=false:=by rfl) :
  PS X (.Raise (some (.Call (.Name n p) (e::es) [] cpos)) none pos) (zAr C E t):=by
 intro a s σ H D I h;obtain⟨nm,q,N,bs,hdct,sn,sub,ab,col,dd,k0,k1,k2,k3,k5,f⟩:=c.obj;have B:X.A.handled=none:=I.ok.hd b.calm;rw[arm_exec_Raise];refine AB (DP (Qr (C:=C) (nm:=nm) (q:=q) (N:=N) (bs:=bs) (bm:=bm) (hdct:=hdct) (sn:=sn) (sub:=sub) (ab:=ab) (col:=col) (dd:=dd) (k0:=k0) (k1:=k1) (k2:=k2) (k3:=k3) (k5:=k5) (newId := "ValueError.__new__") (c.base I.kIn) B (AB (CA ?_ (λv s₃ h₃=>AB (DP (AE h₃))) λ_ _ x=>x))));refine DC (u0 I o u ?_ g);refine PySem.W.callWith_K (h₀:=X.base) I.ok.mod.kin c.kp (IZ (w cpos a s σ H _ I h) λus P ⟨Q,R,k,r,F,q⟩=>⟨k.kIn,?_⟩) y i;refine Ux (us:=us) c m k (by rw[<-r.length];exact F) λx S G J l=>?_;obtain⟨j,L,M,O,z⟩:=b.made (d:=none) l A9 J (by rw[zAl];exact q x G);exact⟨_,none,j,L,rfl,l.kIn _ _ f,M,O,z⟩
end
section
variable{prog:Cv}{w:HS}{A:HZ}{E:A1->A5->Prop}{s:A5}{K:PySem.W.Frag}{x C:A2}{ox:Obj}{od:A6 Obj}
theorem Je{Q:A6 A1->A5->Prop}(X:K.In s.heap)(I:PySem.W.InstAt s.heap x ox C od)(c:XG K C)(i:UE K C)(h:Q (some (.ref C)) { s with toks:=s.toks+1 }):wpAny (model prog w) A (getAttr? (.ref x) "__class__") Q E s:=by
 have a:PySem.W.findObj K C od "__class__" = some (.bind (.builtin "getset_descriptor.__get__") (.builtin "object.__class__")):=by
  obtain⟨j,b,_⟩:=PySem.W.any_some c.hd;unfold PySem.W.findObj;rw[b,Option.bind_some,i.ha,Option.bind_some];simp[i.hn,i.htk]
 unfold getAttr? getAttrBy?;refine AB (wpAny_mkText (AB (HN (Zm (s:={ s with toks:=s.toks+1 }) X I c (Qu (s:={ s with toks:=s.toks+1 }) X I c ?_)))));have e:=I.type (M:=model prog w);have f:=PySem.W.looks_find (M:=model prog w) X I a;obtain⟨k,g,d,t,os⟩:=s;refine AB (AE (AB (AE (AB (e.at (AB (f.at ?_)))))));dsimp only;unfold Builtin.ObjectAttr.bindTo;dsimp only;refine AB (BW (FR (PySem.W.class_get X I i.hm ?_)));exact AE (PySem.W.handed_on rfl (AE h))
end
def Gd{K:PySem.W.Frag}{x C:A2}(c:XG K C)(i:UE K C):PySem.W.KitX K (.ref x) (.ref C) (λh=>∃l m,PySem.W.InstAt h x l C m) where
 ty:=λ_ _ _ ⟨_,_,I⟩=>I.type
 it:=λ_ _ X _=>by
  obtain⟨b,a,_⟩:=PySem.W.any_some c.hd;unfold PySem.W.clsIn at a;split at a
  .rename_i o p d f g;intro t u v w k q;unfold isType loadHead;exact AB (wpAny_loadPart (k _ _ (X _ _ g)) (AE q))
  .cases a
 ne:=λh r y s n A X j=>by
  obtain⟨b,a,_⟩:=PySem.W.any_some c.hd;refine DG.mpr λq=>?_;have e:C=r:=Value.ref.inj (beq_iff_eq.mp q);subst e;unfold PySem.W.clsIn at a;split at a
  .rename_i o p d f g;have z:=(X _ _ g).symm.trans j;cases z
  .cases a
 ca:=λX ⟨_,_,I⟩ k=>Je X I c i k
section
variable{X:Cx}{pins:A0 (A2×Obj)}{σ:St}{H:Hp}{s:A5}{x C:A2}
theorem Ky(I:Inv X pins σ H s)(e:H x=some (XO x C none)):∃b c,PySem.W.InstAt s.heap x b C c:=by
 obtain⟨o,a,d,f,g,h⟩:∃o a,s.heap.get? x=some o/\o.cls = .ref C/\o.dict=none/\o.data = .fields a:=(I.hok x _ e).1;exact⟨o,none,⟨d,f,by unfold PySem.W.notCls;rw[h],by rw[g];trivial⟩⟩
end
def zDe(K:PySem.W.Frag)(a:V->A6 A1):A0 V->Hp->VK->Prop:=λd H Q=>∃x C y c b,d = [.ref x,y]/\a y=some c/\H x=some (XO x C none)/\XG K C/\UE K C/\PySem.W.kitOne K (.ref C) c=some b/\Q (.bl b) H
def Ii{X:Cx}(K:PySem.W.Frag)(j:X.K=K:=by rfl):J2 X (.builtin "isinstance") (zDe K λy=>match y with | .ref a=>some (.ref a) | .ty n=>some (.type n) | _=>none):=by
 subst j;intro e s σ H w A Q I r h;obtain⟨x,C,y,c,b,rfl,d,k,g,i,l,q⟩:=h;obtain⟨u,v,rfl,m,f⟩:=r.two;cases(show u=Value.ref x from m);have o:v=c:=by
  cases y with
  | ref a=>cases d;exact f
  | ty n=>cases d;cases f;rfl
  | _=>cases d
 subst o;obtain⟨p,t,J⟩:=Ky I k;exact PySem.W.kia_one (Gd g i) I.kIn ⟨p,t,J⟩ l (λz=>nomatch z) λB=>⟨.bl b,H,I.tok _,rfl,q⟩
def Nw{X:Cx}(K:PySem.W.Frag)(e:X.K=K:=by rfl):J2 X (.builtin "isinstance") (λxs H Q=>∃(x C:A2) (p:A2) (cs:A0 A2) (b:Bool),xs = [.ref x,.ref p]/\H p=some (.tup (cs.map V.ref))/\H x=some (XO x C none)/\XG K C/\UE K C/\PySem.W.kitAny K (.ref C) (cs.map Value.ref)=some b/\Q (.bl b) H):=by
 subst e;intro c s σ H xs F Q I r h;obtain⟨x,C,p,cs,b,rfl,f,j,g,i,k,q⟩:=h;obtain⟨u,v,rfl,l,a⟩:=r.two;cases(show u=Value.ref x from l);cases(show v=Value.ref p from a);obtain⟨m,a,d,G⟩:=I.tuple (JC.of f);rw[Lw a]at d;obtain⟨⟨L,o,t,w⟩,y,A,n,B⟩:=d;cases A;cases B;obtain⟨D,E,J⟩:=Ky I j;exact PySem.W.kia_tup (Gd g i) I.kIn ⟨D,E,J⟩ y k (λz=>nomatch z) λM=>⟨.bl b,H,I.tok _,rfl,q⟩
def PSx(X:Cx)(st:A0 IE)(t:XK->TS):Prop:=∀(a:A0 (A2×Obj)) (s:A5) (σ:St) (H:Hp) (D:Ends) (E:XK),Inv X a σ H s->t E D σ H ->
 wpAny (model X.prog X.w) X.A (execs st X.env) (SP X a D) (λd e=>∃b c,Inv X a σ c b/\UF X.prog X.w X.stack c b E d e) s
def zEv(K:PySem.W.Frag)(S:A2)(i:Nat)(t:XK->TS)(c:TS):TS:=λD σ H =>
 t (λe d a=>∃C b,e = .ref C/\XC K C b/\(Value.ref C::b).contains (.ref S)=true/\∀x,a x=some (XO x C d)->c (Dh i D) (σ.set i (some (.ref x))) a) D σ H
def Ze{X:Cx}{S:A2}{T:A0 A1}{i:Nat}{n c:Str}{cp hp pos:Pos}{b₀:IE}{P j:A0 IE}{t:XK->TS}{th:TS}(U:∀e s,¬X.xe e s)(st:X.stack=X.env::X.outer)(fr:X.env.frame=some X.env.locals)(E:X.N.Nodup)(hi:X.N[i]?=some n)(a:X.env.scope.names.lookup n=some .local)
  (hg:Gl X c) (hm:X.mg c=some (.ref S)) (cS:XC X.K S T) (he:PSx X P t) (hh:∀ev,P7 (Xm X ev) (b₀::j) th) (V:(c ==("__debug__":Str))=false:=by decide) :
  PS X (.Try P [.ExceptHandler (some (.Name c cp)) (some n) (b₀::j) hp] [] [] pos) (zEv X.K S i t th):=by
 intro g s σ H D I h;refine wpAny_Try_except ?_;refine CA (he g s σ H _ _ I h) (λfl s1 z=>?_) λev s' z=>?_
 .cases fl with
  | next=>exact FU z
  | brk=>exact z
  | cont=>exact z
  | ret u=>exact z
 obtain⟨s1,H1,F,x,C,d,G,rfl,os,k,un,J,hx,nx,P,C',bm,ec,cC,L,q⟩:=z;cases ec;have W:Inv X g σ G s':=F.call' os un J k (λb z=>absurd z (by simp));have r:RX X.prog X.w X.base X.stack X.env X.outer H1 s1 x C d G s':=⟨os,k,un,J,Nat.le_trans F.ok.bsz F.sz,W.bs,by have:=W.stack;rw[st]at this;exact this,by have:=W.stkFree;rw[st]at this;exact this,⟨_,fr⟩,λb o _ M=>by rw[st]at M;exact M,λb M=>by rw[st]at M;exact M,hx,nx,P.fl⟩;have Y:X.A.frames=some (X.env::X.outer):=by rw[I.ok.frames,st]
 refine r.note Y λh' r' t'=>r'.flight λh2 l _=>?_;have Q:Inv X g σ G { s' with heap:=h2 }:=F.call' l.os l.un l.hok l.bare (λb z=>absurd z (by simp));refine wpAny_handleBy_cons (codeAny_handlers_test ?_) (by intro q;cases q);refine u0 (Q.mark (.ref x)) hg hm ?_ V;obtain⟨nm,q1,N,bs,hdct,sn,sub,ab,col,dd,k0,k1,k2,k3,k5,O⟩:=cC.obj;obtain⟨nm',q1',N',bs',Z,sn',sub',ab',col',dd',j0,j1,j2,j3,j5,m⟩:=cS.obj;obtain⟨ox,vx,ex,hcx,_⟩:∃o vs,h2.get? x=some o/\o.cls = .ref C/\o.dict=d/\o.data = .fields vs:=(l.hok x _ l.hx).1;refine zHl (Q.kIn _ _ O) (Q.kIn _ _ m) ex hcx (cS.base Q.kIn) L ?_;refine codeAny_handlers_suite_as (l.flight λh4 R _=>?_);have I4:Inv X g σ G { s' with heap:=h4 }:=F.call' R.os R.un R.hok R.bare (λb z=>absurd z (by simp));refine i6 I4 E hi (.inl a) (v:=.ref x) rfl (λs5 I5=>?_) (.inr a);refine CA (hh (.ref x) g s5 _ G (Dh i D) (I5.mark _) (q x hx)) (λf s6 z=>?_) λ_ _ z=>(U _ _ z).elim;cases f with
 | next =>
  obtain⟨σ',H6,p,y⟩:=z;exact j4 (p.unmark I.ok) E hi a λs7 B=>⟨_,_,B,y⟩
 | brk =>
  obtain⟨σ',H6,p,y⟩:=z;exact j4 (p.unmark I.ok) E hi a λs7 B=>⟨_,_,B,y⟩
 | cont =>
  obtain⟨σ',H6,p,y⟩:=z;exact j4 (p.unmark I.ok) E hi a λs7 B=>⟨_,_,B,y⟩
 | ret u =>
  obtain⟨v,σ',H6,p,r6,y⟩:=z;exact j4 (p.unmark I.ok) E hi a λs7 B=>⟨v,_,_,B,r6,y⟩
section
variable{X:Cx}
theorem Uo(K:PySem.W.Frag)(w:HS)(E:X.calm=true:=by rfl)(J:X.K=K:=by rfl)(hw:X.w=w:=by rfl):J2 X (.type "set") (λxs H Q=>∃(p:A2) (ss:A0 Str),xs = [.ref p]/\(HY K H p (ss.map V.str)\/JC K H p (ss.map V.str))/\ss.length<4096/\∀l,H l=none->Q (.ref l) (HU H l (Y8 w l (P1 [] ss)))):=by
 subst J;subst hw;intro g s σ H xs O Q I r h;obtain⟨p,ss,rfl,hq,G,q⟩:=h;obtain⟨u,rfl,L⟩:=U6 r;cases L;have i:∀(t:HX) (v:Nat),ST.WS X.w t s.heap.objs.size (P1 [] ss)->(∀b o,s.heap.get? b=some o->t.get? b=some o)->EP X g σ Q (.ref s.heap.objs.size) { s with heap:=t,toks:=v }:=λt v z k=>by
  exact⟨.ref s.heap.objs.size,_,I.laid (t':=v) k (Nat.le_refl _) (Sb z),rfl,q _ (I.hok.fresh (Nat.le_refl _))⟩
 rcases hq with hq | hq
 .obtain⟨d,j,x,M⟩:=I.list hq;have a:=j.length;rw[AA]at a;obtain⟨o,y,c,n,m⟩:=x.isList;exact Y4 (I.ok.hd E) y c F.sub_list_set F.sub_list_frozenset (by decide) (λN e q=>EO ⟨_,e,c,n,m⟩ q) (λA I B f=>Walks.list B I p f d.toArray) (λh I C D=>⟨⟨_,C,rfl,rfl⟩,⟨_,D,c,n,m⟩⟩) rfl (by simp[a]) (Fb j) (by simpa [<-a] using G) i
 .obtain⟨d,j,x,M⟩:=I.tuple hq;have a:=j.length;rw[AA]at a;obtain⟨o,y,c,n,m⟩:=x;exact Y4 (I.ok.hd E) y c i9 Q2 (by decide) (λN e q=>wpAny_pyIter_tuple ⟨_,e,c,n,m⟩ q) (λA I B f=>Walks.tuple B I p f d.toArray) (λh I C D=>⟨⟨_,C,rfl,rfl⟩,⟨_,D,c,n,m⟩⟩) rfl (by simp[a]) (Fb j) (by simpa [<-a] using G) i
end
def own(a:IT)(cl:A0 (Str×A2))(n:Nat):A0 (Str×A2):=cellsFrom (n+1) a.names cl
def P8:∀(names:A0 (Str×JF)) (n:Nat) (a:A0 (Str×A2)),cellsFrom n names a=cellsFrom n names []++a
 | [],_,_=>rfl
 | (y,k)::r,n,a=>by
  unfold cellsFrom;split
  .rw[P8 r (n+1) ((y,n)::a),P8 r (n+1) [(y,n)],BF];rfl
  .exact P8 r n a
def Df{α:Type}(x:Str):∀(l m:A0 (Str×α)),(l++m).lookup x =(l.lookup x).or (m.lookup x)
 | [],m=>rfl
 | (y,c)::r,m=>by
  rw[List.cons_append,FH,FH];cases x == y with
  | true=>rfl
  | false=>exact Df x r m
def Z9{a:IT}{cl:A0 (Str×A2)}{n:Nat}{x:Str}{c:A2}(h:(own a cl n).lookup x=some c):(cellsFrom (n+1) a.names []).lookup x=some c\/((cellsFrom (n+1) a.names []).lookup x=none/\cl.lookup x=some c):=by
 unfold own at h;rw[P8,Df]at h;cases e:(cellsFrom (n+1) a.names []).lookup x with
 | some d=>rw[e]at h;exact .inl h
 | none=>rw[e]at h;exact .inr ⟨rfl,h⟩
def QN(X:Cx)(a:IT)(cl:A0 (Str×A2))(N':A0 Str)(b:A0 (A2×Obj))(ex:A0 A2)(c:A5)(d:Hp):Cx where
 prog:=X.prog
 w:=X.w
 K:=X.K
 mg:=X.mg
 base:=X.base
 A:=X.A
 N:=N'
 s₀:=c
 H₀:=d
 env:=compEnvC a (own a cl c.heap.objs.size) c.heap.objs.size X.env
 outer:=X.stack
 stack:=X.stack
 ex:=ex
 fn:=λx=>a.names.lookup x == some .cell
 calm:=X.calm
 pn:=X.pn++b
 xe:=λ_ _=>False
structure QU(X:Cx)(scope:IT)(cl:A0 (Str×A2))(N':A0 Str)(cap:A0 (A6 Nat)):Prop where
 kind:scope.kind = .function
 loc:∀y∈scope.names,y.2 = .local->scope.names.lookup y.1=some .local
 clos:closureFor scope X.env=pure cl
 cin:RJ X cl
 has:∀n,((relabel scope X.env).names.all λy=>!(y.2 == .cell||y.2 == .free)||((own scope cl n).lookup y.1).isSome)=true
 caps:∀n,OA X scope (own scope cl n) N' cap
section
variable{X:Cx}{scope:IT}{cl:A0 (Str×A2)}{N':A0 Str}{cap:A0 (A6 Nat)}{pins:A0 (A2×Obj)}{σ:St}{H3:Hp}{s3:A5}{ex:A0 A2}
theorem Inv.blockD(I:Inv X pins σ H3 s3)(S:QU X scope cl N' cap)(hc:X.calm=true)(w:∀b∈ex,Ar X pins H3 b/\∃o,s3.heap.get? b=some o){h1:HX}{Y:Nat}
  (J:h1.Ns s3.heap.objs.size (λ_=>none)) (B:∀b o,s3.heap.get? b=some o->h1.get? b=some o) (R:CellsOk h1 (s3.heap.objs.size+1) (cellsFrom (s3.heap.objs.size+1) scope.names [])) :
  Inv (QN X scope cl N' pins ex s3 H3) [] (Oh cap σ) H3 { s3 with heap:=h1,toks:=Y }:=by
 have C:∀b o,s3.heap.get? b=some o->b≠s3.heap.objs.size:=λb o e=>BC (AK e);have D:∀x c,cl.lookup x=some c->∃v,s3.heap.IsCell c v:=λx c e=>I.cell x c (S.cin.get e);have f:∀{x c},(cellsFrom (s3.heap.objs.size+1) scope.names []).lookup x=some c->h1.IsCell c none/\s3.heap.objs.size+1<=c:=λe=>R.empty _ _ (PySem.mem_of_lookup e);have A:H3 s3.heap.objs.size=none:=I.hok.fresh (Nat.le_refl _);have E:∀x c,cl.lookup x=some c->c<s3.heap.objs.size:=λx c e=>let⟨_,h⟩:=D x c e;h.lt;refine⟨⟨I.ok.mod,?_,I.ok.glob,I.ok.blt,Nat.le_refl _,λx y c K s=>?_,λx Z=>?_,λx c h e=>?_,I.ok.hd,I.ok.frames,.inl rfl,λb F=>?_,I.bs,Nat.le_trans I.ok.bsz I.sz,λb o e F=>?_,λb F=>?_,I.stack,I.stkFree⟩,
  rfl,I.bare,Un.kept B,⟨_,J,λi x v K s e3=>?_⟩,λx c e=>?_,A,λx c e=>?_,λp hp=>?_,I.hok.kept B,?_⟩
 .exact S.kind
 .rcases Z9 K with a | ⟨_,a⟩<;>rcases Z9 s with b | ⟨_,b⟩
  .exact name_of_addr R.apart (PySem.mem_of_lookup a) (PySem.mem_of_lookup b)
  .exact absurd (BI (E _ _ b) (DU (f a).2)) (CM _)
  .exact absurd (BI (E _ _ a) (DU (f b).2)) (CM _)
  .exact I.ok.inj x y c (S.cin.get a) (S.cin.get b)
 .have q:∀k,(relabel scope X.env).names.lookup x=some k->(!(k == .cell||k == .free)||((own scope cl s3.heap.objs.size).lookup x).isSome)=true:=λk e=>t0 (p:=λ_=>true) (q:=λa k=>!(k == .cell||k == .free)||((own scope cl s3.heap.objs.size).lookup a).isSome) (S.has _) e;have L:(relabel scope X.env).names.lookup x=some .cell\/(relabel scope X.env).names.lookup x=some .free:=Z;have:((own scope cl s3.heap.objs.size).lookup x).isSome=true:=by
   rcases L with e | e
   .exact q _ e
   .exact q _ e
  exact DE.mp this
 .have h:scope.names.lookup x=some .cell:=beq_iff_eq.mp h;have q:=PySem.W.cellsFrom_some scope.names (s3.heap.objs.size+1) [] (.inl h);rcases Z9 e with a | ⟨a,_⟩
  .exact DU (f a).2
  .rw[a]at q;cases q
 .obtain⟨⟨_,_,_,_,f4,_⟩,o,e⟩:=w b F;refine⟨C b o e,λx c G=>?_⟩;rcases Z9 G with a | ⟨_,a⟩
  .exact FQ (BI (AK e) (DU (f a).2))
  .exact f4 x c (S.cin.get a)
 .obtain⟨⟨f0,T,U,f3,_⟩,_⟩:=w b F;rcases f3 with f3 | f3
  .exact I.ok.noex b o e f3
  .have:=(I.ok.bs b o e).1;exact absurd (BI (AK this) f3) (CM _)
 .intro M;obtain⟨⟨_,T,U,_⟩,_⟩:=w b F;rcases A_.mp (I.stkSub b M)with z | z
  .exact T z
  .exact U z
 .unfold Oh at s;rw[AG]at s;cases G:cap[i]? with
  | none=>rw[G]at s;cases s
  | some o =>
   rw[G]at s;cases o with
   | none=>cases s
   | some j =>
    have g:(σ[j]?).join=some v:=CJ s;obtain⟨c1,V,c3,c4⟩:=(S.caps s3.heap.objs.size).get K G;have H:σ[j]?=some (some v):=by
     cases H:σ[j]? with
     | none=>rw[H]at g;cases g
     | some z=>rw[H]at g;cases z with
      | none=>cases g
      | some z=>cases g;rfl
    obtain⟨m,hn,hl⟩:=I.loc;obtain⟨u,r,l⟩:=hl j x v c1 H (.inr (.inl V));refine⟨u,r,?_⟩;rcases l with⟨k,_⟩ | ⟨_,c,N,t⟩
    .have:X.env.scope.names.lookup x=some .local:=k;rw[V]at this;cases this
    .exact .inr ⟨.inl c3,c,c4.trans N,let⟨o,O,P⟩:=t;⟨o,B _ _ O,P⟩⟩
 .rcases Z9 e with a | ⟨_,a⟩
  .exact⟨_,(f a).1⟩
  .obtain⟨v,o,O,P⟩:=D x c a;exact⟨v,o,B _ _ O,P⟩
 .rcases Z9 e with a | ⟨_,a⟩
  .exact I.hok.fresh (DU (f a).2)
  .exact I.freeC x c (S.cin.get a)
 .have Q:p∈X.pn++pins:=by simpa [QN] using hp
  obtain⟨e,n,ne,nf,d⟩:=I.pin p Q;refine⟨B _ _ e,n,C _ _ e,λM=>?_,d⟩;rcases A_.mp (I.stkSub p.1 M)with z | z
  .exact ne z
  .exact nf z
 .unfold Oh;rw[AA];exact(S.caps 0).len
theorem Inv.unblockD{σ':St}{H':Hp}{s':A5}{h':HX}(I:Inv X pins σ H3 s3)(g:∀b∈ex,Ar X pins H3 b)(J:Inv (QN X scope cl N' pins ex s3 H3) [] σ' H' s')(f:Heap.SameBut s3.heap.objs.size s'.heap h') :
  Inv X pins σ H' { s' with heap:=h' }:=by
 have d:H' s3.heap.objs.size=none:=J.free;refine I.call' (ch:=ex) J.os ⟨λb o e n h a=>?_,λb o e n h a=>?_,λb o e n a=>?_,λb o e a=>?_,J.base.tups,J.base.frzs,J.base.tbls⟩ (λb j e=>?_) J.bare λb i=>?_
 .exact(f.2 b (BC (AK e))).trans (J.base.keep b o e n h a)
 .obtain⟨k,q⟩:=J.base.slot b o e n h a;exact⟨k,(f.2 b (BC (AK e))).trans q⟩
 .exact J.base.free b o e n a
 .obtain⟨l,q⟩:=J.base.there b o e a;exact⟨l,(f.2 b (BC (AK e))).trans q⟩
 .refine(J.hok b j e).stay (λc u m q=>(f.2 c ?_).trans q) (λ_ q=>q) λ_ _ q=>q;rintro rfl;rcases m with z | z
  .rw[<-z,d]at e;cases e
  .rw[d]at z;cases z
 .obtain⟨_,p,_,r,s,t⟩:=g b i;exact⟨r,p,s,t⟩
end
def Nv{M:Model}{A:HZ}{E:A1->A5->Prop}{s:A5}{a:IT}{c:A2}{cl:A0 (Str×A2)}{d:Str}{e:NL}{Q:NL->A5->Prop}
  (i:∀b,Q (newEnv a s.heap.objs.size c (own a cl s.heap.objs.size) d none .none (some e) b) { s with heap:=pushCells (s.heap.push { cls:=.type "dict",data:=.dict #[] }) a.names }) :
  wpAny M A (newFunctionEnv a c cl [] d none .none (some e)) Q E s:=by
 simp only[newFunctionEnv,Option.isSome_some,EG];refine AB (wpAny_alloc ?_);refine AB (wpAny_layCells _ (λname f g=>by cases h:f == NameKind.cell<;>simp[h]) _ _ _ _ ?_);rw[show({ s with heap:=s.heap.push { cls:=.type "dict",data:=.dict #[] } }:A5).heap.objs.size=s.heap.objs.size+1 from CZ ..];rw[List.forIn_nil];exact AB (AE (AE (i 0)))
section
variable{X:Cx}{tg iter:H_}{ifs:A0 H_}{g:TG}{tc:TT}{em:SW}{scope:IT}{cl:A0 (Str×A2)}{N':A0 Str}{cap:A0 (A6 Nat)}{pos:Pos}{wi:TI}
theorem zFz(a:∀n,OA X scope (own scope cl n) N' cap)(c:RJ X cl)(b:closureFor scope X.env=pure cl:=by rfl)(kind:scope.kind = .function:=by rfl)
  (d:∀y∈scope.names,y.2 = .local->scope.names.lookup y.1=some .local:=by decide +kernel) (e:∀n,((relabel scope X.env).names.all λy=>!(y.2 == .cell||y.2 == .free)||((own scope cl n).lookup y.1).isSome)=true:=by intro _;rfl):QU X scope cl N' cap:=⟨kind,d,b,c,e,a⟩
theorem pgD{a:A0 (A2×Obj)}{b:A0 A2}{c:A5}{d:Hp}{x:Str}{pos:Pos}(i:Nat)(e:N'.Nodup:=by decide +kernel)(hi:N'[i]?=some x:=by rfl)(f:Loc (QN X scope cl N' a b c d).env.scope x:=by first | exact Or.inl rfl | exact Or.inr rfl)
  (g:(QN X scope cl N' a b c d).fn x=true\/(QN X scope cl N' a b c d).env.scope.names.lookup x=some .local:=by first | exact Or.inr rfl | exact Or.inl rfl):PG (QN X scope cl N' a b c d) (.Name x pos) (P9 i):=E4 (X:=QN X scope cl N' a b c d) e hi f g
end
def Wp:A0 Str->A0 A1->Bool
 | [],[]=>true
 | x::a,.str y _::b=>x == y&&Wp a b
 | _,_=>false
def Pz:∀{xs:A0 Str} {us:A0 A1},Wp xs us=true->IC (xs.map V.str) us
 | [],[],_=>.nil
 | x::xs,.str y t::us,h=>by
  obtain⟨a,b⟩:=(CF _ _).mp (show(x == y&&Wp xs us)=true from h);have e:x=y:=beq_iff_eq.mp a;exact .cons ⟨t,by rw[e]⟩ (Pz b)
def TX(K:PySem.W.Frag)(a:A2)(xs:A0 Str):Prop:=∃(o:Obj) (b:HQ A1) (n:Nat),K.lookup a=some o/\o.cls = .type "tuple"/\o.data = .seq b n/\b.size<=sizeLine/\IC (xs.map V.str) b.toList
def TX.sq{K:PySem.W.Frag}{H:Hp}{a:A2}{xs:A0 Str}(h:TX K a xs):JC K H a (xs.map V.str):=.inr h
def Mq:∀{xs:A0 V} {us:A0 A1},IC xs us->us.length=xs.length
 | _,_,.nil=>rfl
 | _,_,.cons _ t=>by rw[BK,BK,Mq t]
def TR{K:PySem.W.Frag}{a:A2}{xs:A0 Str}{o:Obj}(l:K.lookup a=some o)(e:∃its n d b,o =⟨.type "tuple",d,.seq its n,b⟩/\(decide (xs.length<=100)&&Wp xs its.toList)=true):TX K a xs:=by
 obtain⟨its,n,d,b,rfl,h⟩:=e;obtain⟨f,g⟩:=(CF _ _).mp h;have v:=Pz g;refine⟨_,its,n,l,rfl,rfl,?_,v⟩;have c:=Mq v;rw[AA,AX]at c;have:=BH f;rw[sizeLine_eq,c];lia
def zDk(i:Nat)(f:A2)(sp:Sp)(E:XK)(t:TA):TE:=λσ H Q=>σ[i]?=some (some (.ref f))/\Yg sp [] E t σ H Q
section
variable{X:Cx}{i:Nat}{x:Str}{e:H_}{pos pos':Pos}
theorem Zo{t:XK->TE}(b:X.N.Nodup)(hi:X.N[i]?=some x)(c:Loc X.env.scope x)(d:PEx X e t)(f:swapsWith e (some (.Name x pos')) pos.line X.env=pure false:=by rfl)(g:X.fn x=true\/X.env.scope.names.lookup x=some .local:=by first | exact .inl rfl | exact .inr rfl | assumption) :
  PSx X [.Assign [.Name x pos'] e pos] (λE=>UO (t E) (P9 i)):=by
 intro a s σ H D E I h;refine wpAny_execs_cons (wpAny_Assign_Name (CA (d a s σ H _ E I h) (λv o ⟨y,j,k,l,m⟩=>?_) λ_ _ z=>z) f);exact i6 k b hi c l (λp n=>FU ⟨_,j,n,m⟩) g
end
def p0{a b:A2}{n:Nat}(h1:a<n)(h2:n<=b):b≠a:=λz=>by subst z;exact absurd h2 (Nat.not_le_of_lt h1)
section
variable{fs ex:A0 A2}{H:Hp}{h h':HX}{a:A2}
theorem L0.table{P:Cv}{w:HS}{ps qs:HQ A1}(f:L0 P w H h)(g:H a=some (.tbl ps))(k:∀b u,b≠a->h.get? b=some u->h'.get? b=some u)(i:h'.get? a=some { cls:=.none,data:=.fields qs }):L0 P w (HU H a (.tbl qs)) h':=λb u q=>by
 by_cases d:b=a
 .subst d;rw[A9]at q;cases q;exact i
 .rw[B8 d]at q;have n:∀c o,H c=some o->o≠ .tbl ps->c≠a:=λc o e j z=>by rw[z,g]at e;cases e;exact j rfl
  refine(f b u q).stay (λc v hc r=>k c v ?_ r) (λc r=>by rw[B8 (n c _ r (by intro z;cases z))];exact r) λc l r=>by rw[B8 (n c _ r (by intro z;cases z))];exact r
  rcases hc with rfl | hc
  .exact d
  .exact n c _ hc (by intro z;cases z)
end
section
variable{P:Cv}{w:HS}{fs ex:A0 A2}{H H':Hp}{h h':HX}{a:A2}{o:HO}
theorem Un.more{p:A2}{ps more:HQ A1}(c:H p=some (.tbl ps))(d:H' p=some (.tbl (ps++more)))(a:∀b o,H b=some o->b≠p->H' b=some o)(f:∀b,b<h.objs.size->H b=none->H' b=none)
  (k:∀b u,b≠p->h.get? b=some u->h'.get? b=some u) (i:∃u,h'.get? p=some u):Un fs ex H H' h h':=by
 have g:∀b,H b=none->b≠p:=λb n e=>by rw[e,c]at n;cases n
 refine⟨λb u q n _ _=>k b u (g b n) q,λb u q n _ _=>⟨u.slots,k b u (g b n) q⟩,λb u q n _=>f b (AK q) n,λb u q _=>?_,λb j q=>a b _ q λe=>?_,λb o u q=>a b _ q λe=>?_,λb l q=>?_⟩
 .by_cases e:b=p
  .subst e;exact i
  .exact⟨u,k b u e q⟩
 .rw[e,c]at q;cases q
 .rw[e,c]at q;cases q
 .by_cases e:b=p
  .subst e;rw[c]at q;cases q;exact⟨more,d⟩
  .exact⟨#[],by rw[a b _ q e];simp⟩
theorem L0.track(x:L0 P w H h)(f:H a=none)(d:IM P w (HU H a o) h a o):L0 P w (HU H a o) h:=λb u e=>by
 by_cases g:b=a
 .subst g;rw[A9]at e;cases e;exact d
 .rw[B8 g]at e;exact(x b u e).stay (λc v _ q=>q) (λc q=>by rw[B8 (B3 q f)];exact q) λc i q=>by rw[B8 (B3 q f)];exact q
end
def LL(c:A2)(q:Str):HO:=.ext λh=>h.CodeRec (.ref c) q
def OD(f c:A2)(q:Str)(ps:Arguments)(b:H_)(a:IT)(cl:A0 (Str×A2)):HO:=.ext λh=>∃d e,h.get? f=some (PySem.W.kla_obj "<lambda>" q ps b a cl d c e)
def LL.ok{P:Cv}{w:HS}{H:Hp}{h:HX}{c:A2}{q:Str}(r:h.CodeRec (.ref c) q):IM P w H h c (LL c q):=by
 have g:=r;obtain⟨i,o,b,t,e,a,d,f⟩:=r;cases e;refine⟨g,⟨o,a⟩,λl m j k=>?_⟩;obtain⟨i,o,b,t,e,a,d,f⟩:=j;cases e;exact⟨c,o,b,t,rfl,k o a,d,f⟩
def OD.ok{P:Cv}{w:HS}{H:Hp}{h:HX}{f c:A2}{q:Str}{ps:Arguments}{b:H_}{d:IT}{cl:A0 (Str×A2)}{a ct:A1}(r:h.get? f=some (PySem.W.kla_obj "<lambda>" q ps b d cl a c ct)):IM P w H h f (OD f c q ps b d cl) :=
 ⟨⟨a,ct,r⟩,⟨_,r⟩,λg i ⟨a,ct,e⟩ k=>⟨a,ct,k _ e⟩⟩
def O5(cells:A0 (Str×A2)):A0 (Str×JF)->A0 (Str×A2)->A0 (Str×A2)
 | [],a=>a
 | (n,k)::r,a=>O5 cells r (if(k == NameKind.free)=true then(n,(cells.lookup n).getD 0)::a else a)
def o7{b:IT}{a:NL}(h:∀x∈b.names,x.2 = .free->(a.cells.lookup x.1).isSome=true):closureFor b a=pure (O5 a.cells b.names []):=by
 have g:∀(l:A0 (Str×JF)) (f:A0 (Str×A2)),(∀x∈l,x.2 = .free->(a.cells.lookup x.1).isSome=true) ->
   (forIn (m:=Sem) l f λx i=>match x with
    | (name,j)=>if(j == NameKind.free)=true then do
      let d <-cellOf a name
      pure (ForInStep.yield ((name,d)::i))
     else pure (ForInStep.yield i))=pure (O5 a.cells l f):=by
  intro l
  induction l with
  | nil=>intro f _;rfl
  | cons x r s =>
   obtain⟨n,k⟩:=x;intro f o;rw[List.forIn_cons];by_cases e:(k == NameKind.free)=true
   .have u:k = .free:=eq_of_beq e;obtain⟨c,t⟩:=DE.mp (o (n,k) (AZ ..) u);have p:cellOf a n=pure c:=by
     unfold cellOf;rw[show List.lookup n a.cells=some c from t]
    simp only[e,EG,p,pure_bind];rw[s _ λy q=>o y (AQ _ q)];show _=pure (O5 a.cells r (if(k == NameKind.free)=true then(n,(a.cells.lookup n).getD 0)::f else f));rw[AY e,show List.lookup n a.cells=some c from t];rfl
   .simp only[e,BE,CN,pure_bind];rw[s _ λy q=>o y (AQ _ q)];show _=pure (O5 a.cells r (if(k == NameKind.free)=true then(n,(a.cells.lookup n).getD 0)::f else f));rw[AS e]
 unfold closureFor;simp only[g b.names [] h,pure_bind]
def Bs{pos q:Pos}{c:A1}:∀(l:A0 A1),TriplesOk l->¬(pos.line=q.line/\pos.col=q.col)->codeAmong q (l ++ [rawInt pos.line,rawInt pos.col,c])=codeAmong q l
 | [],_,n=>by
  show(if((pos.line:Int) ==(q.line:Int) &&(pos.col:Int) ==(q.col:Int))=true then some c else none)=none;rw[AS];intro z;rw[CF,beq_iff_eq,beq_iff_eq]at z;exact n ⟨by lia,by lia⟩
 | .int a _ :: .int b _::x::r,h,n=>by
  show(if(a ==(q.line:Int)&&b ==(q.col:Int))=true then some x else codeAmong q (r ++ [rawInt pos.line,rawInt pos.col,c]))=if(a ==(q.line:Int)&&b ==(q.col:Int))=true then some x else codeAmong q r
  rw[Bs r h n]
def Ae(H:Hp)(P:A2)(ls:A0 (Pos×Str)):Prop:=∃a,H P=some (.tbl a)/\TriplesOk a.toList/\∀l∈ls,codeAmong l.1 a.toList=none\/∃c,codeAmong l.1 a.toList=some (.ref c)/\H c=some (LL c l.2)
structure TabAt(K:PySem.W.Frag)(mg:Str->A6 A1)(c P:A2):Prop where
 hd:∀h:HX,K.In h->PySem.W.CodeHd h c P
 ne:mainGlobals≠P
def zHw(P:A2)(ls:A0 (Pos×Str))(cl:A0 (Str×A2))(q:Str)(ps:Arguments)(b:H_)(e:IT):TE:=λ_ H Q=>Ae H P ls/\∀f c d,H f=none->Ae d P ls->d c=some (LL c q)->d f=some (OD f c q ps b e cl)->f≠P->(∀a o,H a=some o->a≠P->d a=some o)->Q (.ref f) d
section
variable{X:Cx}
theorem Qp{args:Arguments}{f:H_}{a:IT}{pos:Pos}{c P:A2}{ls:A0 (Pos×Str)}(T:TabAt X.K X.mg c P)(U:X.base.BuiltinsAt X.mg P)(V:X.env.code = .ref c)(hd1:args.defaults = [])(hd2:args.kw_defaults = [])
  (r:∀x∈a.names,x.2 = .free->X.env.scope.names.lookup x.1=some .cell) (hl:(pos,X.env.qual ++ "<lambda>")∈ls) (hu:∀l∈ls,∀l'∈ls,l.1.line=l'.1.line->l.1.col=l'.1.col->l=l') :
  PE X (.Lambda args f a pos) (zHw P ls (O5 X.env.cells a.names []) (X.env.qual ++ "<lambda>") args f a):=by
 intro pins s σ H Q I h;obtain⟨⟨A,C,D,B⟩,q⟩:=h;have E:defaultsOf args X.env =([],[]):=by
  cases args;cases hd1;cases hd2;rfl
 rw[arm_eval_Lambda,E];refine AB (AE (AB (BW (AE ?_))));have v:s.heap.get? P=some (PySem.W.tabObj A):=I.hok P _ C;have r:∀x∈a.names,x.2 = .free->(X.env.cells.lookup x.1).isSome=true:=λx hx e=>by
  obtain⟨c,V⟩:=I.ok.has x.1 (.inl (r x hx e));rw[V];rfl
 have F:s.heap.Ns mainGlobals X.mg:=I.mod.glob.keeps I.bk;have U:s.heap.BuiltinsAt X.mg P:=let⟨bm,o,h1,Y,h3,h4,h5,h6⟩:=U;⟨bm,o,h1,Y,h3,h4,I.bk _ _ h5,h6⟩;rcases B _ hl with e | ⟨d,e,hc'⟩
 .refine PySem.W.kla_makeFunction (o7 r) I.ok.glob F V (T.hd _ I.kIn) v D e T.ne U λd m g tk xb le Z cr eP=>?_;have w:P<s.heap.objs.size:=AK v;have G:d≠P:=p0 w le;have p:g.objs.size≠P:=p0 w (Nat.le_trans le (DB Z));have J:g.objs.size≠d:=p0 Z (Nat.le_refl _);have L:H d=none:=I.hok.fresh le;have j:H g.objs.size=none:=I.hok.fresh (Nat.le_trans le (DB Z));have eO:(g.push (PySem.W.kla_obj "<lambda>" (X.env.qual ++ "<lambda>") args f a (O5 X.env.cells a.names []) ((X.mg "__name__").getD .none) d m)).get? g.objs.size=some (PySem.W.kla_obj "<lambda>" (X.env.qual ++ "<lambda>") args f a (O5 X.env.cells a.names []) ((X.mg "__name__").getD .none) d m):=BG _ rfl;have kk:∀b u,g.get? b=some u->(g.push (PySem.W.kla_obj "<lambda>" (X.env.qual ++ "<lambda>") args f a (O5 X.env.cells a.names []) ((X.mg "__name__").getD .none) d m)).get? b=some u:=λb u e=>AD _ e;generalize g.push (PySem.W.kla_obj "<lambda>" (X.env.qual ++ "<lambda>") args f a (O5 X.env.cells a.names []) ((X.mg "__name__").getD .none) d m)=Y at eO kk⊢;have k:∀b u,b≠P->s.heap.get? b=some u->Y.get? b=some u:=λb u n e=>kk b u (xb b u n e);have cr2:Y.CodeRec (.ref d) (X.env.qual ++ "<lambda>"):=by
   obtain⟨c1,o,vs,t,e1,ho,hd,hv⟩:=cr;exact⟨c1,o,vs,t,e1,kk _ _ ho,hd,hv⟩
  have M:=kk _ _ eP;have u1:HU H P (.tbl (A ++ #[rawInt pos.line,rawInt pos.col,.ref d])) d=none:=by rw[B8 G];exact L
  have u2:HU (HU H P (.tbl (A ++ #[rawInt pos.line,rawInt pos.col,.ref d]))) d (LL d (X.env.qual ++ "<lambda>")) g.objs.size=none:=by rw[B8 J,B8 p];exact j
  have N:=((I.hok.table C k M).track u1 (LL.ok cr2)).track u2 (OD.ok eO);have O:HU (HU (HU H P (.tbl (A ++ #[rawInt pos.line,rawInt pos.col,.ref d]))) d (LL d (X.env.qual ++ "<lambda>"))) g.objs.size (OD g.objs.size d (X.env.qual ++ "<lambda>") args f a (O5 X.env.cells a.names [])) P=some (.tbl (A ++ #[rawInt pos.line,rawInt pos.col,.ref d])):=by rw[B8 p.symm,B8 G.symm,A9]
  have R:HU (HU (HU H P (.tbl (A ++ #[rawInt pos.line,rawInt pos.col,.ref d]))) d (LL d (X.env.qual ++ "<lambda>"))) g.objs.size (OD g.objs.size d (X.env.qual ++ "<lambda>") args f a (O5 X.env.cells a.names [])) d=some (LL d (X.env.qual ++ "<lambda>")):=by rw[B8 J.symm,A9]
  have i:∀b o,H b=some o->b≠P->HU (HU (HU H P (.tbl (A ++ #[rawInt pos.line,rawInt pos.col,.ref d]))) d (LL d (X.env.qual ++ "<lambda>"))) g.objs.size (OD g.objs.size d (X.env.qual ++ "<lambda>") args f a (O5 X.env.cells a.names [])) b=some o:=λb o e n=>by
   rw[B8 (B3 e j),B8 (B3 e L),B8 n];exact e
  refine⟨.ref g.objs.size,_,I.un (Un.more C O i (λb lb n=>?_) k ⟨_,M⟩) N,rfl,q _ d _ j ⟨_,O,?_,λl ml=>?_⟩ R A9 p i⟩
  .rw[B8 (p0 lb (Nat.le_trans le (DB Z))).symm,B8 (p0 lb le).symm,B8 (by intro z;rw[z,C]at n;cases n)];exact n
  .rw[BT];exact TriplesOk_snoc _ _ _ _ D
  .rw[BT];by_cases el:l =(pos,X.env.qual ++ "<lambda>")
   .subst el;exact .inr ⟨d,codeAmong_snoc _ D e,R⟩
   .have ne:¬(pos.line=l.1.line/\pos.col=l.1.col):=λz=>el (hu l ml _ hl z.1.symm z.2.symm);rw[show(#[rawInt pos.line,rawInt pos.col,Value.ref d]:HQ A1).toList = [rawInt pos.line,rawInt pos.col,Value.ref d]from rfl,Bs _ D ne];rcases B l ml with z | ⟨cc,z,S⟩
    .exact .inl z
    .exact .inr ⟨cc,z,i _ _ S λy=>by rw[y,C]at S;cases S⟩
 .refine PySem.W.kla_makeFunctionHit (o7 r) I.ok.glob F V (T.hd _ I.kIn) v D e U λm g tk k le=>?_;have w:P<s.heap.objs.size:=AK v;have p:g.objs.size≠P:=p0 w le;have j:H g.objs.size=none:=I.hok.fresh le;have i:∀b o,H b=some o->HU H g.objs.size (OD g.objs.size d (X.env.qual ++ "<lambda>") args f a (O5 X.env.cells a.names [])) b=some o:=λb o e=>by rw[B8 (B3 e j)];exact e
  refine⟨.ref g.objs.size,_,I.laid (t':=tk) (λb u e=>AD _ (k b u e)) le (OD.ok (BG _ rfl)),rfl,q _ d _ j ⟨A,i _ _ C,D,λl ml=>?_⟩ (i _ _ hc') A9 p λb o e _=>i b o e⟩;rcases B l ml with z | ⟨cc,z,S⟩
  .exact .inl z
  .exact .inr ⟨cc,z,i _ _ S⟩
structure OX(X:Cx)(base':HX)(σ:St):Prop where
 val:∀(i:Nat) (x:Str) (v:V) (c:A2),X.N[i]?=some x->σ[i]?=some (some v)->X.env.scope.names.lookup x=some .cell->X.env.cells.lookup x=some c->∃u,RelV v u/\base'.IsCell c (some u)
 inj:∀x y c,X.env.cells.lookup x=some c->X.env.cells.lookup y=some c->x=y
 has:∀x,X.env.scope.names.lookup x=some .cell->∃c,X.env.cells.lookup x=some c
def Ck(X:Cx)(h:HX):HX:=Uk h λb=>open Classical in if(X.base.get? b).isSome=true\/∃x,X.fn x=true/\X.env.cells.lookup x=some b then none else some (.own 0)
theorem Gg{h:HX}{b:A2}{o:Obj}(e:h.get? b=some o)(p:(X.base.get? b).isSome=true\/∃x,X.fn x=true/\X.env.cells.lookup x=some b):(Ck X h).get? b=some o:=As e (by rw[AY p])
theorem Nc{h:HX}{b:A2}{o:Obj}(e:(Ck X h).get? b=some o):h.get? b=some o/\((X.base.get? b).isSome=true\/∃x,X.fn x=true/\X.env.cells.lookup x=some b):=by
 obtain⟨c,a⟩:=Ps e;refine⟨c,Classical.byContradiction λz=>?_⟩;rw[AS z]at a;cases a
variable{pins:A0 (A2×Obj)}{σ:St}{H:Hp}{s:A5}
theorem Inv.wbs(I:Inv X pins σ H s){b:A2}{o:Obj}(e:X.base.get? b=some o):(Ck X s.heap).get? b=some o:=Gg (I.bk b o e) (.inl (by rw[e];rfl))
theorem Inv.wmod(I:Inv X pins σ H s):Mod X.K X.mg (Ck X s.heap):=by
 obtain⟨c,a,⟨g,h,d⟩,f⟩:=I.ok.mod;exact⟨c.keeps λb o e=>I.wbs e,a.keeps λb o e=>I.wbs e,⟨g,h.keeps λb o e=>I.wbs e,d⟩,f.keeps λb o e=>I.wbs e⟩
theorem Inv.cell_nofs(I:Inv X pins σ H s){x:Str}{c:A2}(a:X.fn x=true)(e:X.env.cells.lookup x=some c):c∉MW X.stack:=λz=>by
 rcases A_.mp (I.stkSub c z)with y | y
 .exact I.cne x c e y
 .obtain⟨_,o,b,_⟩:=I.ok.funs.mem y;exact absurd (AK b) (Nat.not_lt_of_le (I.ok.cab x c a e))
theorem Inv.wfuns(I:Inv X pins σ H s):s.heap.FunFrames (Ck X s.heap) X.stack:=by
 have a:∀l:A0 NL,(∀b∈MW l,b∈MW X.stack)->s.heap.FunFrames X.base l->s.heap.FunFrames (Ck X s.heap) l:=by
  intro l
  induction l with
  | nil=>intro _ _;trivial
  | cons e r f =>
   intro d g;obtain⟨i,⟨L,o,c,j,k,m⟩,n⟩:=g;have p:L∈MW X.stack:=d L (by unfold MW;rw[CU,c];exact AZ);refine⟨i,⟨L,o,c,?_,k,m⟩,f (λb t=>d b (by unfold MW;rw[CU,c];exact AQ _ t)) n⟩;cases q:(Ck X s.heap).get? L with
   | none=>rfl
   | some u =>
    rcases(Nc q).2 with z | ⟨x,z,y⟩
    .rw[j]at z;cases z
    .exact absurd p (I.cell_nofs z y)
 exact a X.stack (λ_ h=>h) I.stack
theorem Inv.wenv(I:Inv X pins σ H s):QT X.prog X.w X.K X.mg (Ck X s.heap) X.A X.stack s H:=by
 refine⟨I.ok.frames,I.wmod,λb o e=>?_,Nat.le_of_eq (Hk _ _),I.wfuns,I.stkFree,I.hok,I.bare⟩;obtain⟨a,c⟩:=Nc e;refine⟨a,?_⟩;rcases c with z | ⟨x,_,y⟩
 .obtain⟨u,d⟩:=DE.mp z;exact(I.bs b u d).2
 .exact I.freeC x b y
theorem Inv.wcells(I:Inv X pins σ H s)(e:∀x,X.fn x=true):OX X (Ck X s.heap) σ:=by
 refine⟨λi x v c f g a b=>?_,I.ok.inj,λx h=>I.ok.has x (.inl h)⟩;obtain⟨m,_,h⟩:=I.loc;obtain⟨u,r,l⟩:=h i x v f g (.inr (.inl a));refine⟨u,r,?_⟩;rcases l with⟨z,_⟩ | ⟨_,n,d,o,j,k⟩
 .rw[show X.env.kindOf x=some .cell from a]at z;cases z
 .rw[b]at d;cases d;exact⟨o,Gg j (.inr ⟨x,e x,b⟩),k⟩
end
def zCb(X:Cx)(k:Nat)(f:A2)(c:IJ)(ps:A0 Str)(t:TA):TE:=λσ H Q=>t σ H λd e=>∀a:HX,OX X a σ->X.K.In a->∃b:Sp,II X.prog X.w X.K X.mg a JG k f c ps b/\b d e Q E0
section
variable{X:Cx}{k:Nat}{x:Str}{st:IE}{ps:A0 Str}{e:H_}{es:A0 H_}{t:TA}{p pos:Pos}
theorem Me(v:∀x,X.fn x=true)(D:Fn X.K X.mg x st ps)(w:JH k X.A)(y:PA X (e::es) t)(z:Gl X x:=by rfl)(j:(x ==("__debug__":Str))=false:=by decide)
  (B:starEach (e::es) X.env =(false,eval e X.env)::starEach es X.env:=by rfl) (l:(backTo pos (starEach es X.env)).any (·.1)=false:=by rfl) :
  PE X (.Call (.Name x p) (e::es) [] pos) (zCb X k D.f D.fd ps t):=by
 intro c s σ H Q I h;refine DC (u0 I z D.m ?_ j);refine PySem.W.callWith_K (h₀:=X.base) I.ok.mod.kin D.F.kp (IZ (y pos c s σ H _ I h) λi n ⟨C,E,a,r,q⟩=>⟨a.kIn,?_⟩) B l;obtain⟨L,F,d⟩:=q (Ck X n.heap) (a.wcells v) a.wmod.kin;have G:i.length=ps.length:=by rw[<-r.length];exact F.len _ _ _ _ d
 have o:=D.b n i a.kIn (by rw[CB];exact G);rw[CB]at o;refine FR (FE (F.run X.A X.stack n E ⟨i,[]⟩ i C Q E0 w a.wenv o r d) λr M g=>?_);cases r with
 | error e=>exact g.elim
 | ok J =>
  cases J with
  | ret u=>exact a.after g
  | next=>exact False.elim g
  | brk=>exact False.elim g
  | cont=>exact False.elim g
end
structure PZ(N ps fr:A0 Str)(sc:IT):Prop where
 kind:sc.kind = .function
 co:sc.isCoroutine=false
 gen:sc.isGenerator=false
 eq:N=ps++fr
 nd:N.Nodup
 par:∀x∈ps,sc.names.lookup x=some .local
 fre:∀x∈fr,sc.names.lookup x=some .free
 nocell:∀y∈sc.names,y.2≠ .cell
 has:∀y∈sc.names,y.2 = .free->y.1∈fr
def Ty(P:Cv)(w:HS)(K:PySem.W.Frag)(mg:Str->A6 A1)(base:HX)(N:A0 Str)(b:Str)(a:IT)(f:A2)(c:A1)(cl:A0 (Str×A2))(A:HZ)(outer:A0 NL)(s:A5)(H:Hp):Cx where
 prog:=P
 w:=w
 K:=K
 mg:=mg
 base:=base
 A:=A.deeper (PySem.W.envX b a s.heap.objs.size f c cl)
 N:=N
 s₀:=s
 H₀:=H
 env:=PySem.W.envX b a s.heap.objs.size f c cl
 outer:=outer
 stack:=PySem.W.envX b a s.heap.objs.size f c cl::outer
 ex:=[]
 calm:=true
 fn:=λ_=>false
 pn:=[]
 xe:=λ_ _=>False
def Dq{us:A0 A1}:∀{ps:A0 Str} {us:A0 A1} {i:Nat} {x:Str} {u:A1},ps.Nodup->ps[i]?=some x->us[i]?=some u->(ps.zip us).reverse.lookup x=some u
 | [],_,_,_,_,_,h,_=>by simp at h
 | _::_,[],_,_,_,_,_,h=>by simp at h
 | p::ps,w::us,0,x,u,c,a,b=>by
  simp at a b;subst a b;rw[List.zip_cons_cons,List.reverse_cons,List.lookup_append];have:(ps.zip us).reverse.lookup p=none:=by
   rw[List.lookup_eq_none_iff];intro q d;have:=(GN (List.mem_reverse.mp d)).1;simp;intro e;exact(B_.mp c).1 (e▸this)
  rw[this];simp
 | p::ps,w::us,i+1,x,u,c,a,b=>by
  rw[List.zip_cons_cons,List.reverse_cons,List.lookup_append,Dq (us:=us) (B_.mp c).2 (by simpa using a) (by simpa using b)];rfl
section
variable{P:Cv}{w:HS}{K:PySem.W.Frag}{mg:Str->A6 A1}{base:HX}{N ps fr:A0 Str}{qual:Str}{scope:IT}{f c:A2}{cl:A0 (Str×A2)}{A:HZ}{outer:A0 NL}{s:A5}{H:Hp}
structure SE(base:HX)(cl:A0 (Str×A2))(fr:A0 Str)(gs:A0 V):Prop where
 len:gs.length=fr.length
 val:∀(i:Nat) (x:Str) (v:V),fr[i]?=some x->gs[i]?=some v->∃c u,cl.lookup x=some c/\RelV v u/\base.IsCell c (some u)
 only:∀x c,cl.lookup x=some c->x∈fr
 inj:∀x y c,cl.lookup x=some c->cl.lookup y=some c->x=y
theorem Zp{us:A0 A1}{vs gs:A0 V}{h':HX}{J:Nat}(S:PZ N ps fr scope)(C:SE base cl fr gs)(g:A.handled=none)(a:QT P w K mg base A outer s H)(G:vs.length=ps.length)(r:IC vs us)
  (ns:h'.Ns s.heap.objs.size λx=>(ps.zip us).reverse.lookup x) (k:∀b o,s.heap.get? b=some o->h'.get? b=some o) :
  Inv (Ty P w K mg base N qual scope f (.ref c) cl A outer s H) [] (vs.map some++gs.map some) H { s with heap:=h',toks:=J }:=by
 have j:∀x d,cl.lookup x=some d->∃u o,base.get? d=some o/\o.data = .cell (some u):=λx d e=>by
  obtain⟨i,q⟩:=List.mem_iff_getElem?.mp (C.only x d e);have t:i<gs.length:=by rw[C.len];exact(AR.mp q).1
  obtain⟨I,u,B,_,o,m,g⟩:=C.val i x gs[i] q (AU t);rw[e]at B;cases B;exact⟨u,o,m,g⟩
 have n:∀b:A2,b∉(Ty P w K mg base N qual scope f (.ref c) cl A outer s H).ex:=λb z=>absurd (show b∈([]:A0 A2)from z) (by simp);refine⟨⟨a.mod,S.kind,rfl,rfl,Nat.le_refl _,C.inj,λy hy=>?_,λy d z _=>?_,λ_=>g,Around.frames_deeper a.frames,.inr ⟨rfl,rfl⟩,λb z=>absurd z (n b),a.bs,a.bsz,λb _ _=>n b,λb z=>absurd z (n b),a.funs,a.frf⟩,
  rfl,a.bare,Un.kept k,⟨_,ns,λi y v l D T=>?_⟩,λy d h=>?_,a.hok.fresh (Nat.le_refl _),λy d h=>?_,λp L=>absurd (show p∈([]:A0 (A2×Obj))from L) (by simp),a.hok.kept k,?_⟩
 .have hy:scope.names.lookup y=some .cell\/scope.names.lookup y=some .free:=hy;rcases hy with hy | hy
  .exact absurd rfl (S.nocell _ (PySem.mem_of_lookup hy))
  .obtain⟨i,q⟩:=List.mem_iff_getElem?.mp (S.has _ (PySem.mem_of_lookup hy) rfl);have t:i<gs.length:=by rw[C.len];exact(AR.mp q).1
   obtain⟨I,_,B,_⟩:=C.val i y gs[i] q (AU t);exact⟨I,B⟩
 .cases(show false=true from z)
 .have l:(ps++fr)[i]?=some y:=by rw[<-S.eq];exact l
  have M:(ps++fr).Nodup:=by rw[<-S.eq];exact S.nd
  by_cases t:i<vs.length
  .rw[ED (by rw[AA];exact t),AG]at D;rw[ED (by lia)]at l;obtain⟨O,E,e⟩:=AV.mp D;cases e;obtain⟨u,Q,F⟩:=r.get E;exact⟨u,F,.inl ⟨S.par y (AM l),Dq (us:=us) (BU.mp M).1 l Q⟩⟩
  .rw[DV (by rw[AA];lia),AG,AA]at D;rw[DV (by lia)]at l;obtain⟨O,E,e⟩:=AV.mp D;cases e;rw[G]at E;obtain⟨d,u,R,F,o,m,g⟩:=C.val _ y v l E;exact⟨u,F,.inr ⟨.inr (S.fre y (AM l)),d,R,o,k _ _ (a.bs _ _ m).1,g⟩⟩
 .obtain⟨u,o,m,g⟩:=j y d h;exact⟨_,o,k _ _ (a.bs _ _ m).1,g⟩
 .obtain⟨u,o,m,g⟩:=j y d h;exact(a.bs _ _ m).2
 .show _=N.length;rw[S.eq,AW,AA,AA,AW,G,C.len]
theorem zDx{args:Arguments}{a:H_}{k:Nat}{gs:A0 V}{sp:Sp}{L ct:A1}(S:PZ N ps fr scope)(C:SE base cl fr gs)(i:∀vs H Q E,sp vs H Q E->vs.length=ps.length)
  (l:∀vs H Q E,sp vs H Q E->H f=some (OD f c qual args a scope cl)/\H c=some (LL c qual))
  (d:∀(A:HZ) (outer:A0 NL) (s:A5) (H:Hp) (vs:A0 V) (Q:VK) (E:XK),JH k (A.deeper (PySem.W.envX qual scope s.heap.objs.size f (.ref c) cl))->sp vs H Q E ->
   ∃t,PE (Ty P w K mg base N qual scope f (.ref c) cl A outer s H) a t/\t (vs.map some++gs.map some) H Q) :
  II P w K mg base JG (k+1) f (PySem.W.kla_fn "<lambda>" qual args a scope cl L (.ref c) ct) ps sp:=by
 refine⟨i,λA outer s H g m vs Q E p j M r h=>?_⟩;have O:=i _ _ _ _ h;obtain⟨R,T⟩:=l _ _ _ _ h;obtain⟨⟨q,x,U⟩,_⟩:=(show IM P w H s.heap f (OD f c qual args a scope cl)from j.hok f _ R);obtain⟨X,_⟩:=(show IM P w H s.heap c (LL c qual)from j.hok c _ T);have z:s.heap.NoLimit:=j.mod.nolimit.keeps λb o e=>(j.bs b o e).1;have Y:∀y∈ps.zip m,scope.names.lookup y.1=some .local:=λ⟨n,v⟩ Z=>S.par n (GN Z).1;have B:BindsTo s (PySem.W.kla_fn "<lambda>" qual args a scope cl q (.ref c) x) g (ps.zip m):=M;refine PySem.W.kla_callFunE p.depth U rfl S.co S.gen rfl X (B _ _ _ _ ?_);refine wpAny_newFunctionEnv S.nocell Y (λF ns sb=>?_) S.kind;have G:∀b o,s.heap.get? b=some o->F.get? b=some o:=λb o e=>by
  rw[sb.2 b (BC (AK e))];exact AD _ e
 refine⟨z.keeps G,PySem.W.kla_codeExpr ?_⟩;obtain⟨t,ht,hq⟩:=d A outer s H vs Q E (p.deeper _) h;have I:Inv (Ty P w K mg base N qual scope f (.ref c) cl A outer s H) [] (vs.map some++gs.map some) H { s with heap:=F,toks:=s.toks +(ps.zip m).length }:=Zp S C p.hd j O r ns G;refine CA (ht [] _ _ H Q I hq) (λu s' D=>?_) λe s' D=>D.elim;obtain⟨v,H',J,rv,qv⟩:=D;exact⟨v,H',J.os,J.bare,J.base,J.hok,rv,qv⟩
theorem Ma{cells:A0 (Str×A2)}:∀{names:A0 (Str×JF)} {cs:A0 (Str×A2)} {x:Str} {c:A2},(O5 cells names cs).lookup x=some c->((x,NameKind.free)∈names/\c =(cells.lookup x).getD 0)\/cs.lookup x=some c
 | [],_,_,_,h=>.inr h
 | (n,k)::r,cs,x,c,h=>by
  rcases Ma (names:=r) h with⟨z,e⟩ | z
  .exact .inl ⟨AQ _ z,e⟩
  .by_cases f:(k == NameKind.free)=true
   .rw[AY f]at z;by_cases e:x=n
    .subst e;rw[List.lookup_cons_self]at z;cases z;exact .inl ⟨by rw[eq_of_beq f];exact AZ ..,rfl⟩
    .rw[FH,show(x == n)=false from by simpa using e]at z;exact .inr z
   .rw[AS f]at z;exact .inr z
theorem Md{cells:A0 (Str×A2)}{x:Str}:∀{names:A0 (Str×JF)} {cs:A0 (Str×A2)},(x,NameKind.free)∈names\/(∃c,cs.lookup x=some c)->∃c,(O5 cells names cs).lookup x=some c
 | [],_,h=>h.resolve_left (by simp)
 | (n,k)::r,cs,h=>by
  refine Md (names:=r) ?_;by_cases e:x=n
  .by_cases f:(k == NameKind.free)=true
   .subst e;exact .inr ⟨_,by rw[AY f,List.lookup_cons_self]⟩
   .rw[AS f];rcases h with z | z
    .rcases A_.mp z with y | y
     .cases y;exact absurd rfl f
     .exact .inl y
    .exact .inr z
  .rcases h with z | ⟨c,z⟩
   .rcases A_.mp z with y | y
    .cases y;exact absurd rfl e
    .exact .inl y
   .refine .inr ⟨c,?_⟩;by_cases f:(k == NameKind.free)=true
    .rw[AY f,FH,show(x == n)=false from by simpa using e];exact z
    .rw[AS f];exact z
theorem OX.clos{X:Cx}{a:HX}{σ:St}{fr:A0 Str}{gs:A0 V}{names:A0 (Str×JF)}(h:OX X a σ)(n:∀y∈names,y.2=NameKind.free->y.1∈fr)(o:∀x∈fr,(x,NameKind.free)∈names)(g:∀x∈fr,X.env.scope.names.lookup x=some .cell)(f:gs.length=fr.length)
  (p:∀(i:Nat) (x:Str) (v:V),fr[i]?=some x->gs[i]?=some v->∃j:Nat,X.N[j]?=some x/\σ[j]?=some (some v)):SE a (O5 X.env.cells names []) fr gs:=by
 have b:∀{x c},(O5 X.env.cells names []).lookup x=some c->x∈fr/\X.env.cells.lookup x=some c:=fun{x c} e=>by
  rcases Ma e with⟨z,y⟩ | z
  .have m:=n _ z rfl;obtain⟨d,k⟩:=h.has x (g x m);rw[k]at y;rw[k,y];exact⟨m,rfl⟩
  .cases z
 refine⟨f,λi x v l q=>?_,λx c e=>(b e).1,λx y c s t=>h.inj x y c (b s).2 (b t).2⟩;have m:=AM l;obtain⟨c,e⟩:=Md (cells:=X.env.cells) (cs:=[]) (.inl (o x m));obtain⟨j,w,A⟩:=p i x v l q;obtain⟨u,r,B⟩:=h.val j x v c w A (g x m) (b e).2;exact⟨c,u,e,r,B⟩
end
def J_(base:HX)(H:Hp)(f:A2):Prop:=PySem.W.FnAt f base\/∃φ,H f=some (.ext φ)/\∀h,φ h->PySem.W.FnAt f h
def J_.lam{base:HX}{H:Hp}{f c:A2}{q:Str}{ps:Arguments}{b:H_}{a:IT}{cl:A0 (Str×A2)}(h:H f=some (OD f c q ps b a cl)):J_ base H f:=.inr ⟨_,h,λh ⟨_,_,e⟩=>⟨_,_,_,_,e⟩⟩
def J_.def{K:PySem.W.Frag}{base:HX}{H:Hp}{x a:Str}{st:IE}{f:A2}{b:IJ}(F:N_ K x a st f b)(k:K.In base):J_ base H f:=by
 obtain⟨g,h,kV,c,i,j,d,l,e,rfl,lk,_⟩:=F.ex;exact .inl ⟨_,_,_,_,k _ _ lk⟩
def J_.same{base:HX}{H H':Hp}{f:A2}(h:J_ base H f)(s:CW H H'):J_ base H' f:=h.imp id λ⟨φ,e,p⟩=>⟨φ,s _ _ e,p⟩
def zDc(base:HX)(i:Nat)(f:A2)(sp:Sp)(t:TA):TE:=λσ H Q=>σ[i]?=some (some (.ref f))/\J_ base H f/\t σ H λb a=>J_ base a f/\sp b a Q E0
section
variable{X:Cx}{k:Nat}{f:A2}{fd:IJ}{ps:A0 Str}{sp:Sp}{x:Str}{e:H_}{es:A0 H_}{t:TA}{p pos:Pos}
theorem Inv.fnAt{a:A0 (A2×Obj)}{σ:St}{H:Hp}{s:A5}(I:Inv X a σ H s)(h:J_ X.base H f):PySem.W.FnAt f s.heap:=by
 rcases h with⟨b,c,fd,d,e⟩ | ⟨φ,e,q⟩
 .exact⟨b,c,fd,d,I.bk _ _ e⟩
 .exact q _ (show IM X.prog X.w H s.heap f (.ext φ)from I.hok f _ e).1
theorem Vg{i:Nat}(F:II X.prog X.w X.K X.mg X.base JG k f fd ps sp)(m:JH k X.A)(n:Binds X.K fd ps [])
  (o:PA X (e::es) t) (y:X.N[i]?=some x:=by rfl) (z:UT X.env.scope x:=by first | exact Or.inl rfl | exact Or.inr (Or.inl rfl) | exact Or.inr (Or.inr rfl)) (b:(x ==("__debug__":Str))=false:=by decide) (c:(x ==("__classdict__":Str))=false:=by decide)
  (B:starEach (e::es) X.env =(false,eval e X.env)::starEach es X.env:=by rfl) (d:(backTo pos (starEach es X.env)).any (·.1)=false:=by rfl) :
  PE X (.Call (.Name x p) (e::es) [] pos) (zDc X.base i f sp t):=by
 intro a s σ H Q I h;obtain⟨C,D,h⟩:=h;refine DC (IZ (Qc (i:=i) (pos:=p) y z b c a s σ H (λv E=>v = .ref f/\E=H) I ⟨_,C,rfl,rfl⟩) λu G ⟨v,J,j,L,M,O⟩=>?_);subst M O;cases L;refine PySem.W.callWith_F (j.fnAt D) (IZ (o pos a G σ J _ j h) λP R ⟨S,T,l,r,g,q⟩=>⟨l.fnAt g,?_⟩) B d;exact Mc F m n .nil Hc l r (by rw[CB];exact q)
end
def N_.okC{P:Cv}{w:HS}{K:PySem.W.Frag}{l:Str->A6 A1}{base:HX}{x b:Str}{st:IE}{f:A2}{e:IJ}{N ps:A0 Str}{k:Nat}{sp:Sp}(F:N_ K x b st f e)(S:HW N ps (B6 st))(g:∀vs H Q E,sp vs H Q E->vs.length=ps.length)
  (d:∀(c:A1) (A:HZ) (a:A0 NL) (s:A5) (H:Hp) (vs:A0 V) (Q:VK) (E:XK),e.code=c->JH k (A.deeper (envOfC b (B6 st) s.heap.objs.size f c))->sp vs H Q E ->
   ∃t,P7 (Tq JG P w K l base N b (B6 st) f c A a s H E).nox (K2 st) t/\t { nx:=λ_ H'=>Q .non H',rt:=Q } (t9 N vs) H):II P w K l base JG (k+1) f e ps sp:=by
 obtain⟨p,r,kV,m,u,v,c,y,n,rfl,lk,i⟩:=F.ex;refine Yu lk i S g λA a s H vs Q E o j=>?_;obtain⟨t,h,q⟩:=d c A a s H vs Q E rfl o j;exact⟨t,h.nox,q⟩
def Tm{P:Cv}{w:HS}{K:PySem.W.Frag}{i O:Str->A6 A1}{k:Nat}{fa a:A2}{fd:IJ}{x:Str}{sp:Sp}{s₁:A5}{vs:A0 A1}{ns:A0 Int}{ts:A0 A2}
  (f:∀p∈ts,s₁.heap.get? p=some (PySem.W.tabObj #[])) (Q:∀p∈ts,isCodeTable s₁.heap p) (R:∀p∈ts,s₁.heap.BuiltinsAt i p) (y:∀p∈ts,K.lookup p=none)
  (KX:K.In s₁.heap) (A:s₁.heap.Ns mainGlobals i) (S:s₁.heap.Ns builtinsNs O) (T:∀x:Str,x≠ "__name__"->O x=bootBuiltins x) (B:s₁.heap.NoLimit) (hg:s₁.gens = #[])
  (n:s₁.heap.get? a=some { cls:=.type "list",data:=.seq vs.toArray }) (hi:IntsAre vs ns) (hl:ns.length<=sizeLine) (hr:JH k callerA)
  (F:∀base:HX,K.In base->base.Ns mainGlobals i->(∀p∈ts,base.BuiltinsAt i p)->II P w K i base JG k fa fd [x] sp) (l:∀(s:A5) (u:A1),BindsTo s fd ⟨[u],[]⟩ [(x,u)])
  (U:∀H:Hp,(∀p∈ts,H p=some (.tbl #[]))->HY K H a (ns.map V.int)->sp [.ref a] H (λv _=>v = .bl true) λ_ _ _=>False) :
  codeAny (model P w) callerA (.call (.ref fa) ⟨[.ref a],[]⟩) (λr C=>r = .ok (.ret (.bool true))/\OldK s₁.heap C.heap/\C.os=s₁.os/\AllBare C.gens) s₁:=by
 have rv:=Fu hi;have X:a∉ts:=λz=>by
  have:=f a z;rw[n]at this;cases this
 obtain⟨H,hT,hS,Y,ok,hK⟩:∃H:Hp,(∀p∈ts,H p=some (.tbl #[]))/\HY K H a (ns.map V.int)/\(∀b o,H b=some o->(b∈ts/\o = .tbl #[])\/(b=a/\∃Z xs,o = .frz Z (.lst xs)))/\L0 P w H s₁.heap/\∀b,H b≠none->K.lookup b=none:=by
  cases hk:K.lookup a with
  | some o =>
   have e:=KX a o hk;rw[n]at e;cases e;refine⟨λb=>if b∈ts then some (.tbl #[])else none,λp t=>AY t,.inr ⟨_,vs.toArray,_,hk,rfl,rfl,rfl,by rw[BD,hi.length];exact hl,by simpa using rv⟩,λb o e=>?_,λb o e=>?_,λb e=>?_⟩
   .dsimp only at e;by_cases c:b∈ts
    .rw[AY c]at e;cases e;exact .inl ⟨c,rfl⟩
    .rw[AS c]at e;cases e
   .dsimp only at e;by_cases c:b∈ts
    .rw[AY c]at e;cases e;exact f b c
    .rw[AS c]at e;cases e
   .by_cases c:b∈ts
    .exact y b c
    .exact absurd (AS c) e
  | none =>
   refine⟨λb=>if b=a then some (.frz { cls:=.type "list",data:=.seq vs.toArray } (.lst (ns.map V.int)))else if b∈ts then some (.tbl #[])else none,λp t=>?_,.inl (.inr ⟨{ cls:=.type "list",data:=.seq vs.toArray },AY rfl⟩),λb o e=>?_,λb o e=>?_,λb e=>?_⟩
   .show(if p=a then _ else if p∈ts then _ else _)=_;have np:p≠a:=λz=>X (z▸t);rw[AS np,AY t]
   .dsimp only at e;by_cases d:b=a
    .rw[AY d]at e;cases e;exact .inr ⟨d,_,_,rfl⟩
    .rw[AS d]at e;by_cases c:b∈ts
     .rw[AY c]at e;cases e;exact .inl ⟨c,rfl⟩
     .rw[AS c]at e;cases e
   .dsimp only at e;by_cases d:b=a
    .rw[AY d]at e;cases e;subst d;exact⟨n,by rw[AA];exact hl,vs,_,rv,n⟩
    .rw[AS d]at e;by_cases c:b∈ts
     .rw[AY c]at e;cases e;exact f b c
     .rw[AS c]at e;cases e
   .by_cases d:b=a
    .rw[d];exact hk
    .by_cases c:b∈ts
     .exact y b c
     .exact absurd ((AS d).trans (AS c)) e
 have nod:∀{b:A2} {o:Obj} {J:HQ DictEntry} {L:Nat},s₁.heap.get? b=some o->o.data = .dict J L->H b=none:=fun{b o J L} e d=>by
  cases q:H b with
  | none=>rfl
  | some u =>
   rcases Y b u q with⟨z,_⟩ | ⟨z,_⟩
   .rw[f b z]at e;cases e;cases d
   .rw[z,n]at e;cases e;cases d
 have g:∀{b:A2} {m:Str->A6 A1},s₁.heap.Ns b m->(Uk s₁.heap H).Ns b m:=fun{b m} ⟨o,J,L,e,d,r⟩=>⟨o,J,L,As e (nod e d),d,r⟩;have hBb:∀p∈ts,(Uk s₁.heap H).BuiltinsAt i p:=λp t=>by
  obtain⟨M,o,h1,h2,h3,h4,D,h6,h7,h8⟩:=R p t;refine⟨M,o,h1,h2,h3,h4,As D ?_,h6,h7,h8⟩;cases q:H M with
  | none=>rfl
  | some u =>
   rcases Y M u q with⟨z,_⟩ | ⟨z,_⟩
   .rw[f M z]at D;cases D;cases h8
   .rw[z,n]at D;cases D;cases h8
 have E:K.In (Uk s₁.heap H):=λb o e=>As (KX b o e) (by
  cases q:H b with
  | none=>rfl
  | some u=>rw[hK b (by rw[q];simp)]at e;cases e)
 have hM:Mod K i (Uk s₁.heap H):=⟨E,g A,⟨O,g S,T⟩,let⟨mc,h1,h2⟩:=B;⟨mc,g h1,h2⟩⟩;have e0:QT P w K i (Uk s₁.heap H) callerA [] s₁ H:=⟨rfl,hM,λb o e=>Ps e,Nat.le_of_eq (Hk _ _),trivial,λb S=>absurd (show b∈([]:A0 A2)from S) (by simp),ok,.of_eq hg⟩;refine FE ((F _ E (g A) hBb).run callerA [] s₁ H ⟨[.ref a],[]⟩ [.ref a] [.ref a] _ _ hr e0 (l s₁ (.ref a)) (.cons rfl .nil) (U H hT hS)) λr C h=>?_;cases r with
 | error e=>exact h.elim
 | ok fl =>
  cases fl with
  | next=>exact False.elim h
  | brk=>exact False.elim h
  | cont=>exact False.elim h
  | ret u =>
   obtain⟨v,H',os,G,N,I,r',q⟩:=h;have q':v = .bl true:=q;subst q';obtain rfl:u=Value.bool true:=r';refine⟨rfl,⟨λb o e=>?_,λb o e=>N.there b o e (by simp)⟩,os,G⟩;cases q:H b with
   | none=>exact .inl (N.keep b o e q (λz=>absurd (show b∈([]:A0 A2)from z) (by simp)) (by simp))
   | some u =>
    rcases Y b u q with⟨z,rfl⟩ | ⟨_,Z,xs,rfl⟩
    .obtain⟨j,em⟩:=N.tbls b _ q;have e2:C.heap.get? b=some { cls:=.none,data:=.fields (#[]++j) }:=I b _ em;rw[f b z]at e;cases e;exact .inr (.inl ⟨Q b z,rfl,#[],j,rfl,e2⟩)
    .obtain⟨e1,_⟩:=ok b _ q;obtain⟨e2,_⟩:=I b _ (N.frzs b Z _ q);rw[e]at e1;cases e1;exact .inl e2
def SO{l:PySem.W.OpenLaw}{n k:Nat}{q:Cv}{i:A0 Str}{P:(Str->A6 A1)->HX->Prop}{y:HS->HX->Prop}{d:DefRec}{K:Params->PySem.W.Frag}{sp:HS->Sp}{x:Str}{ts:A0 A2}
  (Q:l.most=some n) (A:n<=sizeLine) (B:d.params.defaults = []) (R:JH k callerA) (S:∀(w:HS) (h:HX),y w h->(K w.params).In h) (m:∀(w:HS) (h:HX),y w h->∀p∈ts,h.get? p=some (PySem.W.tabObj #[]))
  (F:∀(w:HS) (c:Str->A6 A1) (t:A2) (h:HX),(K w.params).In h->h.Ns mainGlobals c->c d.name=some (.ref t) ->
   (∀p∈ts,isCodeTable h p)/\(∀p∈ts,(K w.params).lookup p=none)/\∃C:IJ,(∀(s:A5) (u:A1),BindsTo s C ⟨[u],[]⟩ [(x,u)]) /\
    ∀base:HX,(K w.params).In base->base.Ns mainGlobals c->(∀p∈ts,base.BuiltinsAt c p)->II l.prog w (K w.params) c base JG k t C [x] (sp w))
  (D:∀(w:HS) (H:Hp) (a:A2) (ns:A0 Int),ns.length<=n->(∀p∈ts,H p=some (.tbl #[]))->HY (K w.params) H a (ns.map V.int)->sp w [.ref a] H (λv _=>v = .bl true) λ_ _ _=>False) :
  PySem.W.WalkO q i P y l.row.toRowW d [] (λf vs=>PySem.call f vs):=by
 refine Att.RC Q B λw s₀ s₁ c mb t o pm cd U a vs ns G Y ho hd X E r j e Z=>?_;have M:=S w _ Y;obtain⟨h1,h2,C,hb,hF⟩:=F w c t _ M G.T.g E;have I:∀p∈ts,s₁.heap.BuiltinsAt c p:=λp hp=>by
  obtain⟨bm,o,b1,b2,J,b4,b5,L⟩:=G.T.bmain;refine⟨bm,o,b1,b2,λz=>?_,λz=>?_,J,b4,b5,L⟩
  .obtain⟨o',es,ep,N,O,_⟩:=G.T.g;rw[<-z,J]at N;cases N;rw[L]at O;cases O
  .have:=m w _ Y p hp;rw[<-z,J]at this;cases this;cases L
 exact Tm (m w _ Y) h1 I h2 M G.T.g G.T.b G.T.builtins G.T.nolimit Z r j (Nat.le_trans e A) R hF hb λH hO hS=>D w H a ns e hO hS
section
variable{X:Cx}
theorem Yc(w:HS)(hw:X.w=w:=by rfl):J2 X (.builtin "len") (λxs H Q=>∃(a:A2) (ss:A0 Str),xs = [V.ref a]/\H a=some (Y8 w a ss)/\Q (.int ss.length) H):=by
 subst hw;intro b s σ H xs g Q I r h;obtain⟨a,ss,rfl,c,q⟩:=h;obtain⟨u,rfl,d⟩:=U6 r;cases d;obtain⟨o,e,i,t,S,T⟩:=I.setw c;have f:e.size=ss.length:=by
  have:=T.pm.length_eq;rw[AA]at this;rw[<-AX];exact this
 refine call_len_set S.ho S.ex S.hd S.ft (by have:=S.few;lia) ?_;exact⟨.int ss.length,H,I.tok _,⟨_,by rw[f]⟩,q⟩
end
section
variable{prog:Cv}{w:HS}{A:HZ}{s:A5}{I:A2}{fp wr:A0 A2}{n:Nat}{P:Nat->A1->Prop}{St:Nat->HX->Prop}{R:Result->A5->Prop}
theorem Yy{a b:Int}{t u:Tok}{Q:A1->A5->Prop}{E:A1->A5->Prop}(h:Q (.bool (decide (a>b))) s):wpAny (model prog w) A (richCompare .Gt (.int a t) (.int b u)) Q E s :=
 CmpOf.ints_gt (P:=λi v=>∃t,v = .int (if i=0 then a else b) t) (λi=>if i=0 then a else b) (λ_ _ h=>h) 0 1 _ _ s Q E ⟨t,rfl⟩ ⟨u,rfl⟩ h
theorem Pw(W:Walks prog w A.in1 I fp wr n P St)(num:Nat->Int)(T:∀i v,P i v->∃t,v = .int (num i) t)(S:A2)(D:S∉fp)(U:A0 (Str×A1)) :
  ∀(k j:Nat) (s:A5) (m:Int) (t:Tok) (c:Nat),n-j=k->j<=n->St j s.heap->s.heap.get? S=some { cls:=.type "list",dict:=none,data:=.seq #[.int m t,.int m t] c,slots:=#[] } ->
  (∀l t' h' L,m<=l->(l=m\/∃i,j<=i/\i<n/\l=num i)->(∀i,j<=i->i<n->num i<=l)->(∀b o,b≠S->b∉wr->s.heap.get? b=some o->h'.get? b=some o)->R (.ok (.ret (.int l t'))) { s with heap:=h',toks:=L }) ->
  codeAny (model prog w) A (.builtin "max.loop" ⟨[.ref I,.none,.ref S],U⟩) R s:=by
 have E:S∉wr:=λh=>D (W.sub _ h);have d:(toString "max" ++ toString ".loop":String) = "max.loop":=by decide
 have p:∀{j:Nat} {h:HX} {g:Obj->Obj},St j h->St j (h.update S g):=λst=>W.frame _ _ _ st λb J o e=>(BL _ _ (λh:S=b=>D (by rw[h];exact J))).trans e;intro k
 induction k with
 | zero =>
  intro j s m t c V X u G K;have e:j=n:=by lia
  subst e;refine DI F.entry_max_loop ?_;rw[Around.under_plainId F.plain_max_loop _];show wpAny _ A.in1 (seqItems? (.ref S) >>= _) _ _ s;refine AB (FI G rfl ?_);show wpAny _ A.in1 (tryCatch (pyNext (.ref I)) _ >>= _) _ _ s;refine AB (FJ (W.done s _ _ u λh' L B=>?_));have f:=B S _ E G;show wpAny _ A.in1 (updateSeq S (λ_=>#[]) >>= _) _ _ _;refine AB (GP f rfl (AB (wpAny_letGo (AE ?_))));exact K m t _ _ (Int.le_refl _) (.inl rfl) (λi H a=>absurd H (by lia)) λb o C x e=>(BL _ _ (Ne.symm C)).trans (B b o x e)
 | succ k O =>
  intro j s m t c V X u G K;have q:j<n:=by lia
  refine DI F.entry_max_loop ?_;rw[Around.under_plainId F.plain_max_loop _];show wpAny _ A.in1 (seqItems? (.ref S) >>= _) _ _ s;refine AB (FI G rfl ?_);show wpAny _ A.in1 (tryCatch (pyNext (.ref I)) _ >>= _) _ _ s;refine AB (FJ (W.item j s _ _ q u λv h' L Y r B=>?_));have f:=B S _ E G;obtain⟨Q,rfl⟩:=T j v Y;show wpAny _ A.in1 (tryCatch (holding [_,_] (richCompare .Gt (.int (num j) Q) (.int m t) >>= _)) _ >>= _) _ _ _;refine AB (FJ (BW (AB (Yy ?_))));refine AB (BW (CL ?_));refine AB (wpAny_letGo (AE ?_));by_cases J:num j>m
  .rw[AJ J];simp only[EG];refine AB (GP f rfl (AB (wpAny_letGo ?_)));rw[d];refine AE ⟨plainId_quiet F.plain_max_loop _,O (j+1) _ (num j) Q _ (by lia) q (p r) (CC _ f rfl) λl t' a y le M N z=>?_⟩;refine K l t' a y (by lia) (.inr ?_) (λi H a=>?_) λb o C x e=>z b o C x ((BL _ _ (Ne.symm C)).trans (B b o x e))
   .rcases M with rfl | ⟨i,H,a,e⟩
    .exact⟨j,Nat.le_refl _,q,rfl⟩
    .exact⟨i,by lia,a,e⟩
   .by_cases e:i=j
    .rw[e];exact le
    .exact N i (by lia) a
  .rw[BB J];simp only[BE,CN];refine AB (wpAny_letGo ?_);rw[d];refine AE ⟨plainId_quiet F.plain_max_loop _,O (j+1) _ m t c (by lia) q r f λl t' a y le M N z=>?_⟩;refine K l t' a y le (M.imp id λ⟨i,H,a,e⟩=>⟨i,by lia,a,e⟩) (λi H a=>?_) λb o C x e=>z b o C x (B b o x e);by_cases e:i=j
   .rw[e];lia
   .exact N i (by lia) a
theorem Nx(W:Walks prog w A.in1 I fp wr n P St)(num:Nat->Int)(B:∀i v,P i v->∃t,v = .int (num i) t)(S:A2)(a:S∉fp){d:Int}{C:Tok}{c:Nat}(g:St 0 s.heap)(D:s.heap.get? S=some { cls:=.type "list",dict:=none,data:=.seq #[] c,slots:=#[] })
  (G:n=0->∀h' j,(∀b o,b≠S->b∉wr->s.heap.get? b=some o->h'.get? b=some o)->R (.ok (.ret (.int d C))) { s with heap:=h',toks:=j })
  (H:∀m t h' j,(∃i,i<n/\m=num i)->(∀i,i<n->num i<=m)->(∀b o,b≠S->b∉wr->s.heap.get? b=some o->h'.get? b=some o)->R (.ok (.ret (.int m t))) { s with heap:=h',toks:=j }) :
  codeAny (model prog w) A (.builtin "max.loop" ⟨[.ref I,.none,.ref S],[("default",.int d C)]⟩) R s:=by
 have r:S∉wr:=λh=>a (W.sub _ h);have f:(toString "max" ++ toString ".loop":String) = "max.loop":=by decide
 refine DI F.entry_max_loop ?_;rw[Around.under_plainId F.plain_max_loop _];show wpAny _ A.in1 (seqItems? (.ref S) >>= _) _ _ s;refine AB (FI D rfl ?_);show wpAny _ A.in1 (tryCatch (pyNext (.ref I)) _ >>= _) _ _ s;by_cases J:n=0
 .subst J;refine AB (FJ (W.done s _ _ g λh' j p=>?_));refine AB (DT (AE ?_));exact G rfl _ _ λb o _ q e=>p b o q e
 .refine AB (FJ (W.item 0 s _ _ (by lia) g λv h' j K k p=>?_));have l:=p S _ r D;obtain⟨u,rfl⟩:=B 0 v K;show wpAny _ A.in1 (updateSeq S (λ_=>#[.int (num 0) u,.int (num 0) u]) >>= _) _ _ _;refine AB (GP l rfl ?_);rw[f];refine AE ⟨plainId_quiet F.plain_max_loop _,Pw W num B S a _ _ 1 _ (num 0) u _ rfl (by lia) (W.frame _ _ _ k λb L o e=>(BL _ _ (λh:S=b=>a (by rw[h];exact L))).trans e) (CC _ l rfl) λm t x y le M N z=>?_⟩;refine H m t x y ?_ (λi O=>?_) λb o E q e=>z b o E q ((BL _ _ (Ne.symm E)).trans (p b o q e))
  .rcases M with rfl | ⟨i,Q,x,e⟩
   .exact⟨0,by lia,rfl⟩
   .exact⟨i,x,e⟩
  .by_cases e:i=0
   .rw[e];exact le
   .exact N i (by lia) O
theorem Qo(a d:A1):argsOk "max" ⟨[a],[("default",d)]⟩:=by unfold argsOk;kernel_rfl
theorem Gu{id:String}{b:Builtin}{args:A0 A1}{d:A0 (Str×A1)}{Q E:A1->A5->Prop}(k:builtinKind id=none)(l:plainId id=true)(m:entryFor table id=some b)(n:argsOk id ⟨args,d⟩)
  (i:wpAny (model prog w) A.in1 (b ⟨args,d⟩) (λfin a=>match fin with
   | .done f=>(match(Except.ok f:Result)with | .ok (.ret v)=>Q v a | .ok _=>False | .error e=>E e a)
   | .again j=>j.quiet=true/\codeAny (model prog w) A j (λr a=>match r with | .ok (.ret v)=>Q v a | .ok _=>False | .error e=>E e a) a) E s) :
  wpAny (model prog w) A (call (.builtin id) args d) Q E s:=by
 refine FR (GA l m ?_);simp only[checkBuiltinCall,k];cases c:Manifest.signature? id with
 | none=>exact AE i
 | some g =>
  have h:Bind.checkArgs id g ⟨args,d⟩=pure ():=by simpa only[argsOk,c] using n
  simp only[h];exact AE i
theorem Pt{Q E:A1->A5->Prop}{l:A2}{xs:HQ (Int×Tok)}{d:Int}{f:Tok}(r:A.handled=none)(u:s.heap.IsList l (intItems xs))
  (v:xs.size=0->∀h' a,(∀b o,s.heap.get? b=some o->h'.get? b=some o)->Q (.int d f) { s with heap:=h',toks:=a })
  (h:∀m t h' a,(∃i,i<xs.size/\m=numAt xs i)->(∀i,i<xs.size->numAt xs i<=m)->(∀b o,s.heap.get? b=some o->h'.get? b=some o)->Q (.int m t) { s with heap:=h',toks:=a }) :
  wpAny (model prog w) A (call (.builtin "max") [.ref l] [("default",.int d f)]) Q E s:=by
 have c:(toString "max" ++ toString ".loop":String) = "max.loop":=by decide
 refine Gu F.kind_max F.plain_max F.entry_max (Qo _ _) ?_;show wpAny _ A.in1 (Builtin.Builtins.bindParams "max" ["key", "default"] 0 ⟨[],[("default",.int d f)]⟩ >>= _) _ _ s;refine AB (EA (show Builtin.Builtins.bindParams "max" ["key", "default"] 0 ⟨[],[("default",.int d f)]⟩=pure [none,some (.int d f)]from rfl) ?_);refine AB (AE ?_);refine AB (iter_intList u λs₂ e st k n=>?_);subst e;refine AB (CD ?_);rw[c];have W:=Walks.list (prog:=prog) (w:=w) (A:=A.in1) r s.heap.objs.size l n (intItems xs);refine AE ⟨plainId_quiet F.plain_max_loop _,?_⟩;have p:(intItems xs).size=xs.size:=by simp[intItems]
 have kk:∀{h':HX},(∀b o,b≠(s.heap.push { cls:=.type "list_iterator",data:=.fields #[.ref l,.int 0 0] }).objs.size->b∉[s.heap.objs.size]->((s.heap.push { cls:=.type "list_iterator",data:=.fields #[.ref l,.int 0 0] }).push { cls:=.type "list",data:=.seq ([]:A0 A1).toArray }).get? b=some o->h'.get? b=some o)->∀b o,s.heap.get? b=some o->h'.get? b=some o:=λg b o e=>by
  have j:=AK e;refine g b o (λy=>?_) (λy=>?_) (AD _ (AD _ e))
  .rw[y,CZ]at j;exact absurd j (Nat.not_lt.mpr (CQ _))
  .rw[AC.mp y]at j;exact CM _ j
 refine Nx W (numAt xs) (λ_ _=>intItems_at) _ (λx=>CM _ (k _ x)) (W.frame 0 _ _ st λb _ o e=>AD _ e) (BG _ rfl) (λe h' a g=>v (by rw[<-p];exact e) h' a (kk g)) λm t h' a ⟨i,q,e⟩ z g=>h m t h' a ⟨i,by rw[<-p];exact q,e⟩ (λi q=>z i (by rw[p];exact q)) (kk g)
end
def zGb(K:PySem.W.Frag)(e:TA)(f:TE):TE:=λσ H Q=>e σ H λg h=>f σ h λd c=>∃(p:A2) (b:A0 Int) (k:Int),g = [.ref p]/\d = .int k/\HY K c p (b.map V.int)/\(b = []->Q (.int k) c)/\∀m∈b,(∀a∈b,a<=m)->Q (.int m) c
def zAx{X:Cx}(K:PySem.W.Frag){e o:H_}{q:TA}{r:TE}{p d pos:Pos}(D:X.mg "max" = none)(g:PA X [e] q)(E:PE X o r)(F:X.K=K:=by rfl)(G:X.calm=true:=by rfl)(J:Gl X "max":=by rfl)
  (v:starEach [e] X.env = [(false,eval e X.env)]:=by rfl):PE X (.Call (.Name "max" p) [e] [⟨some "default",o,d⟩] pos) (zGb K q r):=by
 subst F;intro b s σ H Q I h;refine DC (Bp I J D Xx ?_ (by decide) (by decide));refine callWith_kw (IZ (g pos b s σ H _ I h) λus L ⟨vs,M,N,O,P⟩=>kws_cons (IZ (E b L σ M _ N P) λR S ⟨dv,w,l,T,p,x,k,U,c,V,Y,Z⟩=>kws_nil ?_)) (by rw[v];rfl) (by rw[v];rfl);subst U c;obtain⟨u,rfl,ru⟩:=U6 O;cases ru;obtain⟨n,rfl⟩:=(show ∃t,R=Value.int k t from T);obtain⟨f,rv,pl,hz⟩:=l.list V;have y:=Cz rv;obtain⟨xs,B⟩:=y.allInts.items;have en:numsOf f=x:=y.numsOf;have c:numsOf (intItems xs).toList=numsOf f:=by rw[<-B]
 rw[nums_intItems,en]at c;have ln:xs.size=x.length:=by rw[<-c,AA,AX]
 show wpAny _ X.A (call (.builtin "max") [.ref p] [("default",.int k n)]) _ _ S;refine Pt (xs:=xs) (l.ok.hd G) (by rw[<-B];exact pl.isList) (λz h' tk d=>⟨.int k,w,l.kept d,⟨_,rfl⟩,Y (EQ.mp (by lia))⟩) λm t h' tk ⟨i,li,e⟩ al d=>⟨.int m,w,l.kept d,⟨_,rfl⟩,Z m ?_ λa g=>?_⟩
 .rw[e,numAt_eq,c];exact getD_mem (by lia)
 .rw[<-c]at g;obtain⟨j,C,rfl⟩:=mem_getD g;rw[AA,AX]at C;rw[<-numAt_eq];exact al j C
def Zn{X:Cx}(K:PySem.W.Frag)(i:X.K=K:=by rfl)(k:X.calm=true:=by rfl):J2 X (.builtin "max") (λxs H Q=>∃(p:A2) (ns:A0 Int),xs = [.ref p]/\HY K H p (ns.map V.int)/\ns≠[]/\∀m∈ns,(∀a∈ns,a<=m)->Q (.int m) H):=by
 subst i;intro d s σ H xs D Q I r h;obtain⟨p,ns,rfl,l,n,q⟩:=h;obtain⟨u,rfl,o⟩:=U6 r;cases o;obtain⟨b,w,x,E⟩:=I.list l;have e:=Cz w;obtain⟨xs,f⟩:=e.allInts.items;have y:numsOf b=ns:=e.numsOf;have c:numsOf (intItems xs).toList=numsOf b:=by rw[<-f]
 rw[nums_intItems,y]at c;have F:xs.size=ns.length:=by rw[<-c,AA,AX]
 have G:0<ns.length:=List.length_pos_iff.mpr n;refine max_intList (xs:=xs) (I.ok.hd k) (by rw[<-f];exact x.isList) (by lia) λv J L z A=>?_;obtain⟨t,rfl⟩:=intItems_at z;obtain⟨M,B⟩:=argBest_gt (numAt xs) (xs.size-1);refine⟨.int _,H,I.kept A,⟨_,rfl⟩,q _ ?_ λa g=>?_⟩
 .rw[numAt_eq,c];exact getD_mem (by lia)
 .rw[<-c]at g;obtain⟨j,C,rfl⟩:=mem_getD g;rw[AA,AX]at C;rw[<-numAt_eq];exact B j (by lia)
section
variable{X:Cx}{k:Nat}{f:A2}{fd:IJ}{ps:A0 Str}{sp:Sp}{x:Str}{p pos:Pos}{e:H_}{es:A0 H_}{t:TA}
theorem Ui{i:Nat}(b:∀e s,¬X.xe e s)(F:II X.prog X.w X.K X.mg X.base (UF X.prog X.w) k f fd ps sp)(D:JH k X.A)(G:PySem.W.keepIn X.K (.ref f)=true)(J:Binds X.K fd ps [])
  (L:PA X (e::es) t) (M:X.N[i]?=some x:=by rfl) (O:UT X.env.scope x:=by first | exact Or.inl rfl | exact Or.inr (Or.inl rfl) | exact Or.inr (Or.inr rfl)) (j:(x ==("__debug__":Str))=false:=by decide) (l:(x ==("__classdict__":Str))=false:=by decide)
  (P:starEach (e::es) X.env =(false,eval e X.env)::starEach es X.env:=by rfl) (m:(backTo pos (starEach es X.env)).any (·.1)=false:=by rfl) :
  PEx X (.Call (.Name x p) (e::es) [] pos) (λE=>zDk i f sp E t):=by
 intro a s σ H Q E I h;obtain⟨R,h⟩:=h;refine DC (CA (Qc (i:=i) (pos:=p) M O j l a s σ H (λv S=>v = .ref f/\S=H) I ⟨_,R,rfl,rfl⟩) (λu T ⟨v,U,y,V,Y,Z⟩=>?_) λ_ _ z=>(b _ _ z).elim);subst Y Z;cases V;refine PySem.W.callWith_K (h₀:=X.base) y.ok.mod.kin G (CA (L pos a T σ U _ y h) (λg B ⟨n,o,c,r,q⟩=>⟨c.kIn,?_⟩) λ_ _ z=>(b _ _ z).elim) P m;have q:sp n o Q E:=by
  have:sp (n ++ []) o Q E:=q
  rwa [CB]at this
 have hl:g.length=ps.length:=by rw[<-r.length];exact F.len _ _ _ _ q
 have C:=J B g c.kIn (by rw[CB];exact hl);rw[CB]at C;refine FR (FE (F.run X.A X.stack B o ⟨g,[]⟩ g n Q E D c.env0 C r q) λr s' d=>?_);cases r with
 | error e=>exact⟨_,_,c,d⟩
 | ok fl =>
  cases fl with
  | ret u=>exact c.after d
  | next=>exact False.elim d
  | brk=>exact False.elim d
  | cont=>exact False.elim d
end
section
variable{X:Cx}{tg iter elt:H_}{ifs:A0 H_}{scope:IT}{cl:A0 (Str×A2)}{N':A0 Str}{cap:A0 (A6 Nat)}{wi:TI}{pos:Pos}
theorem Oa{e:H_}{gs:A0 Comprehension}{newAcc:Sem A1}{p2:Pos}{use:A6 (A1->Sem Unit)}{Qv:A1->A5->Prop}(r:clausesOf e =⟨tg,iter,ifs,0⟩::gs)(o:A2->HO)(hs:∀x,foldedSetIterable iter X.env x=pure x)(S:QU X scope cl N' cap)(hc:X.calm=true)(hi:PI X tg iter wi)
  {lp:A2->It->St->Hp->(St->Hp->Prop)->Prop}
  (t:∀(f:A0 (A2×Obj)) (s:A5) (σ:St) (H:Hp) (Q:A1->A5->Prop) (E:A1->A5->Prop),Inv X f σ H s->(∀i,Inv X f σ (HU H s.heap.objs.size (o s.heap.objs.size)) i->(∀b g,s.heap.get? b=some g->i.heap.get? b=some g)->Q (.ref s.heap.objs.size) i)->wpAny (model X.prog X.w) X.A newAcc Q E s)
  (N:∀(f:A0 (A2×Obj)) (O:A0 A2) (s3:A5) (P:Hp) (D m:A2) (fp:A0 A2) (u:Nat->HX->Prop) (J:It) (σ:St) (s:A5) (H:Hp) (Q:St->Hp->Prop) (R:Result->A5->Prop),
   PX X.prog X.w X.K tg J fp m u->Inv (QN X scope cl N' f O s3 P) [] σ H s->u 0 s.heap->(∀b∈fp,Ar (QN X scope cl N' f O s3 P) [] H b)->lp D J σ H Q ->
   (∀i σ' H',Inv (QN X scope cl N' f O s3 P) [] σ' H' i->Q σ' H'->R (.ok .next) i) ->
   codeAny (model X.prog X.w) X.A (.compLoop e 0 (.ref m) (.ref D) (compEnvC scope (own scope cl s3.heap.objs.size) s3.heap.objs.size X.env)) R s)
  (U:∀m D j,X.A.under (.compStart e 0 (.ref m) (.ref D) j)=X.A) (y:∀m D j,(model X.prog X.w).den (.compStart e 0 (.ref m) (.ref D) j) =(compStart e 0 (.ref m) (.ref D) j).onRaise (λx=>do noteFrame x j;standAt theWindowsPlace))
  {f:A0 (A2×Obj)} {s:A5} {σ:St} {H:Hp} {Q:V->Hp->Prop} (I:Inv X f σ H s) (h:Fo wi o cap lp σ H Q)
  (B:∀(D:A2) (fp:A0 A2) (l:Hp) (s3 i:A5) (σ':St) (H':Hp),Inv X f σ l s3->(∀b∈fp,Ar X f l b)->Inv (QN X scope cl N' f fp s3 l) [] σ' H' i->Q (.ref D) H'->compPost (model X.prog X.w) X.A X.xe use Qv (.ref D) s3.heap.objs.size (.ok .next) i) :
  wpAny (model X.prog X.w) X.A (comprehension e scope X.env p2 newAcc false (eval iter X.env) use) Qv X.xe s:=by
 refine GJ r hs S.clos S.kind S.loc (IZ (hi f s σ H _ I h) λv s1 L=>IZ L λitv k h2=>?_);obtain⟨m,fp,u,J,l,W,I2,T,C,f2,R2⟩:=h2;subst W;refine t f k σ l _ _ I2 λs3 Y k3=>?_;have hD:l k.heap.objs.size=none:=I2.hok.fresh (Nat.le_refl _);have q:∀b∈fp,Ar X f (HU l k.heap.objs.size (o k.heap.objs.size)) b/\∃g,s3.heap.get? b=some g:=λb n=>by
  obtain⟨g,e,_⟩:=T.obj _ _ C b n;obtain⟨Z,fr⟩:=f2 b n;exact⟨⟨by rw[B8 (BC (AK e))];exact Z,fr⟩,g,k3 b g e⟩
 refine Nv λbb=>?_;have hk:∀b g,s3.heap.get? b=some g->(pushCells (s3.heap.push { cls:=.type "dict",data:=.dict #[] }) scope.names).get? b=some g:=λb g e=>pushCells_keeps _ _ b g (AD _ e);have F:(pushCells (s3.heap.push { cls:=.type "dict",data:=.dict #[] }) scope.names).Ns s3.heap.objs.size (λ_=>none):=(Heap.Ns.new s3.heap (.type "dict")).keeps (pushCells_keeps _ _);have M:=cellsFrom_ok scope.names (s3.heap.push { cls:=.type "dict",data:=.dict #[] }) (s3.heap.objs.size+1) [] ⟨λ_ _ hm=>(nomatch hm),List.Pairwise.nil⟩ (by rw[CZ];exact Nat.le_refl _);rw[CZ]at M;generalize pushCells (s3.heap.push { cls:=.type "dict",data:=.dict #[] }) scope.names=L at hk F M⊢;have I4:Inv (QN X scope cl N' f fp s3 (HU l k.heap.objs.size (o k.heap.objs.size))) [] (Oh cap σ) (HU l k.heap.objs.size (o k.heap.objs.size)) { s3 with heap:=L,toks:=s3.toks } :=
  Y.blockD S hc q F hk M
 have G:u 0 L:=T.keep 0 _ _ C λb n g e=>hk b g (k3 b g e);refine X9 (X:=QN X scope cl N' f fp s3 (HU l k.heap.objs.size (o k.heap.objs.size))) (gs:=⟨tg,iter,ifs,0⟩::gs) (e:=e) (d:=0) (tg:=tg) (iter:=iter) (ifs:=ifs) (U _ _ _) (y _ _ _) r rfl T G ?_;refine N f fp s3 _ k.heap.objs.size m fp u J (Oh cap σ) _ _ _ _ T I4 G (λb n=>?_) (R2 _ hD) λi σ' H' I' q'=>?_
 .obtain⟨⟨Z,f1,f2',f3,f4,f5⟩,g,eo⟩:=q b n;refine⟨Z,BC (AK eo),λhf=>?_,.inl n,λx c e=>?_,λp hp=>f5 p (by simpa [QN] using hp)⟩
  .rcases A_.mp (Y.stkSub b hf)with z | z
   .exact f1 z
   .exact f2' z
  .rcases Z9 e with a | ⟨_,a⟩
   .exact FQ (BI (AK eo) (DU (M.empty _ _ (PySem.mem_of_lookup a)).2))
   .exact f4 x c (S.cin.get a)
 .exact B _ fp _ s3 i σ' H' Y (λb n=>(q b n).1) I' q'
theorem Sy{i:Nat}{x:Str}{p j:Pos}{g:TG}{W:TT}{a b:H_}{Y Z:TE}(hN:X.N.Nodup)(hi:X.N[i]?=some x)(hx:Loc X.env.scope x)(S:QU X scope cl N' cap)(t:X.calm=true)(hI:PI X tg iter wi)
  (w:∀(d:A0 (A2×Obj)) (y:A0 A2) (l:A5) (A:Hp),PG (QN X scope cl N' d y l A) tg g/\SX (QN X scope cl N' d y l A) ifs W/\PE (QN X scope cl N' d y l A) a Y/\PE (QN X scope cl N' d y l A) b Z)
  (hs:∀x,foldedSetIterable iter X.env x=pure x:=by intro _;rfl)
  (G:swapsWith (.DictComp a b [⟨tg,iter,ifs,0⟩] scope j) (some (.Name x p)) pos.line X.env=pure true:=by rfl)
  (K:X.fn x=true\/X.env.scope.names.lookup x=some .local:=by first | exact .inl rfl | exact .inr rfl | assumption) :
  PS X (.Assign [.Name x p] (.DictComp a b [⟨tg,iter,ifs,0⟩] scope j) pos) (UO (Fo wi (λ_=>.dK []) cap λD J σ H Q=>Aa g W (Ix D Y Z) J σ H Q) (P9 i)):=by
 intro d s σ H D I h;rw[exec_Assign];refine AB (DP (AB (EA G (HI rfl (AB (AB ?_))))));refine Oa (newAcc:=newDict) (p2:=firstIterPos [⟨tg,iter,ifs,0⟩] j) rfl (λ_=>.dK []) hs S t hI (λd s σ H Q E I h=>?_) (λd y l A D it fp tn J σ s H Q R T I st K h hR=>?_) (λ_ _ _=>rfl) (λ_ _ _=>rfl) I h λE fp H2 l s' σ' H' I3 L M q=>?_
 .refine CD ?_;exact h _ (I.laid (a:=s.heap.objs.size) (o:=.dK []) (t':=s.toks) (λ_ _ q=>AD _ q) (Nat.le_refl _) (At s.heap I.big)) λb f e=>AD _ e
 .obtain⟨b1,b2,b3,b4⟩:=w d y l A;exact Q6 (X:=QN X scope cl N' d y l A) rfl rfl t rfl (p8 a b tg iter ifs scope j _ _ _) b1 b2 (Fa rfl b3 b4) T I st K h hR
 .have IX:Inv X d σ H' s':=I3.unblockD L M ⟨rfl,λ_ _=>rfl⟩;have B:Ar X d H' l.heap.objs.size:=I3.fpOk (Nat.le_refl _) M.free;obtain⟨m,hn,_⟩:=M.loc;show wpAny _ _ (assign (.Name x p) X.env (.ref E)) _ _ _;refine GW (n8 (v:=.ref E) IX hN hi hx rfl (λF O ⟨a,P,ha⟩=>?_) K);have nC:l.heap.objs.size≠a:=by
   rcases ha with rfl | ha
   .exact B.2.1
   .exact(B.2.2.2.2.1 _ _ ha).symm
  refine⟨m,?_,λh' C=>AE (AE ?_)⟩
  .obtain⟨f,U,V,e1,r⟩:=hn;exact⟨f,U,V,(P.2 _ nC).trans e1,r⟩
  refine⟨_,H',?_,q⟩;have k:∀b f,b∉[l.heap.objs.size]->F.heap.get? b=some f->h'.get? b=some f:=λb f w e=>(C.2 b λz=>w (AC.mpr z)).trans e;refine O.step (h':=h') (H':=H') (t':=F.toks) (g':=F.gens) (d':=F.drawn) (ch:=[l.heap.objs.size]) (λb w=>by rw[AC.mp w];exact⟨B.2.2.2.1,B.2.1,B.2.2.2.2⟩) (λb f _ _ t e _=>k b f t e) (λb f _ _ t e _=>⟨f.slots,k b f t e⟩) (λ_ _ _ _ n=>n)
   (λb f t e=>⟨f,k b f t e⟩) (λ_ _ e=>e) (λ_ _ _ e=>e) (λb ps e=>⟨#[],by rw[e];simp⟩) (λm hm=>?_) (λb u eb=>?_) O.bare
  .obtain⟨f,U,V,ho,r⟩:=hm;exact⟨f,U,V,k _ f (λw=>B.2.1 (AC.mp w).symm) ho,r⟩
  .have nf:∀b u,H' b=some u->b∉[l.heap.objs.size]:=λb u e w=>by rw[AC.mp w,B.1]at e;cases e
   refine(O.hok b u eb).stay (λc v t q=>k c v ?_ q) (λ_ q=>q) λ_ _ q=>q;rcases t with z | z
   .rw[z];exact nf b u eb
   .exact nf c _ z
end
def Jz(d tg iter e a:H_)(ifs b:A0 H_)(c:IT)(pos:Pos)(h f:A1)(g:NL) :
  compTurn (.ListComp d [⟨tg,iter,ifs,0⟩,⟨e,a,b,0⟩] c pos) 1 h f g=Do (.ListComp d [⟨tg,iter,ifs,0⟩,⟨e,a,b,0⟩] c pos) 1 a e b (emL d f g) h f g:=rfl
def Ka(d tg iter e a:H_)(ifs c:A0 H_)(b:IT)(pos:Pos)(h f:A1)(g:NL) :
  compTurn (.ListComp d [⟨tg,iter,ifs,0⟩,⟨e,a,c,0⟩] b pos) 0 h f g=Do (.ListComp d [⟨tg,iter,ifs,0⟩,⟨e,a,c,0⟩] b pos) 0 iter tg ifs
   (emN (.ListComp d [⟨tg,iter,ifs,0⟩,⟨e,a,c,0⟩] b pos) a 1 f g) h f g:=rfl
section
variable{X:Cx}{tg iter elt tg2 iter2:H_}{g g2:TG}{tc tc2:TT}{te:TE}{ifs ifs2:A0 H_}{scope:IT}{cl:A0 (Str×A2)}{N':A0 Str}{cap:A0 (A6 Nat)}{pos:Pos}{wi wi2:TI}
theorem Zz{D:A2}(i:X.calm=true)(a:X.xe=λ_ _=>False)(hi:PI X tg2 iter2 wi2)(j:PG X tg2 g2)(l:SX X ifs2 tc2)(m:PE X elt te)(n:∀x,foldedSetIterable iter2 X.env x=pure x) :
  PEm X (emN (.ListComp elt [⟨tg,iter,ifs,0⟩,⟨tg2,iter2,ifs2,0⟩] scope pos) iter2 1 (.ref D) X.env) (zGs wi2 λJ σ H Q=>Aa g2 tc2 (X3 D te) J σ H Q):=by
 intro b s σ H Q k F E I h o;unfold emN;have g:=hi b s σ H _ I h;rw[a]at g;refine AB (CA g (λv C p=>?_) λ_ _ z=>z.elim);refine AB (DP (AB (EA (n v) (AB (BW (CA p (λq G r=>?_) λ_ _ z=>z.elim))))));obtain⟨K,L,M,J,N,f,t,T,c,u,R2⟩:=r;subst f;refine AB (wpAny_runOwn ?_);refine X9 (X:=X) (e:=.ListComp elt [⟨tg,iter,ifs,0⟩,⟨tg2,iter2,ifs2,0⟩] scope pos) (d:=1) (tg:=tg2) (iter:=iter2) (ifs:=ifs2) rfl rfl (gs:=[⟨tg,iter,ifs,0⟩,⟨tg2,iter2,ifs2,0⟩]) rfl rfl T c ?_;exact Q6 (X:=X) rfl rfl i a (Jz elt tg iter tg2 iter2 ifs ifs2 scope pos _ _ _) j l (Fg a m) T t c u R2 λw σ' y A B=>o w σ' y A B
theorem zCs(S:LU X scope cl N' cap)(i:X.calm=true)(hi:PI X tg iter wi)
  (l:∀(a:A0 (A2×Obj)) (c:A0 A2) (d:A5) (f:Hp),PG (KJ X scope cl N' a c d f) tg g/\SX (KJ X scope cl N' a c d f) ifs tc/\PI (KJ X scope cl N' a c d f) tg2 iter2 wi2 /\
   PG (KJ X scope cl N' a c d f) tg2 g2/\SX (KJ X scope cl N' a c d f) ifs2 tc2/\PE (KJ X scope cl N' a c d f) elt te)
  (m:∀x,foldedSetIterable iter X.env x=pure x:=by intro _;rfl) (j:∀k x,foldedSetIterable iter2 k x=pure x:=by intro _ _;rfl) :
  PE X (.ListComp elt [⟨tg,iter,ifs,0⟩,⟨tg2,iter2,ifs2,0⟩] scope pos) (Fo wi (λ_=>.lst []) cap λD J σ H Q=>Aa g tc (zGs wi2 λJ σ H Q=>Aa g2 tc2 (X3 D te) J σ H Q) J σ H Q):=by
 refine Ew (newAcc:=newList []) (p2:=firstIterPos [⟨tg,iter,ifs,0⟩,⟨tg2,iter2,ifs2,0⟩] pos) rfl (λ_=>.lst []) m S i hi (λa s σ H Q E I h=>?_) (λa c d f D w y z J σ s H Q R T I st n h o=>?_) (λ_ _ _=>rfl) (λ_ _ _=>rfl) (λE Q s h=>h)
 .refine HP ?_;exact h _ (I.lnew (t':=s.toks) (its:=[]) .nil (BR _)) λb A e=>AD _ e
 .obtain⟨p,q,r,t,u,v⟩:=l a c d f;exact Q6 (X:=KJ X scope cl N' a c d f) rfl rfl i rfl (Ka elt tg iter tg2 iter2 ifs ifs2 scope pos _ _ _) p q (Zz (X:=KJ X scope cl N' a c d f) i rfl r t u v (j _)) T I st n h o
end
section
variable{P:Cv}{w:HS}{K:PySem.W.Frag}{mg:Str->A6 A1}{base:HX}
theorem N_.o1{x a:Str}{st:IE}{f:A2}{g:IJ}{N ps:A0 Str}{k:Nat}{sp:Sp}(F:N_ K x a st f g)(S:HW N ps (B6 st))
  (b:∀(d:A1) (A:HZ) (c:A0 NL) (s:A5) (H:Hp) (vs:A0 V) (Q:VK) (E:XK),JH k (A.deeper (envOfC a (B6 st) s.heap.objs.size f d))->sp vs H Q E ->
   ∃t,P7 (Tq JG P w K mg base N a (B6 st) f d A c s H E).nox (K2 st) t/\t { nx:=λ_ H'=>Q .non H',rt:=Q } (t9 N vs) H) (e:∀vs H Q E,sp vs H Q E->vs.length=ps.length:=by intro _ _ _ _ h;repeat first | (obtain⟨h,_⟩:=h;subst h;rfl) | (obtain⟨_,h⟩:=h)):II P w K mg base JG (k+1) f g ps sp:=F.ok S e b
theorem N_.oE{x a:Str}{st:IE}{f:A2}{g:IJ}{N ps:A0 Str}{k:Nat}{sp:Sp}(F:N_ K x a st f g)(S:HW N ps (B6 st))
  (b:∀(d:A1) (A:HZ) (c:A0 NL) (s:A5) (H:Hp) (vs:A0 V) (Q:VK) (E:XK),JH k (A.deeper (envOfC a (B6 st) s.heap.objs.size f d))->sp vs H Q E ->
   ∃t,P7 (VI P w K mg base N a (B6 st) f d A c s H E) (K2 st) t/\t { nx:=λ_ H'=>Q .non H',rt:=Q } (t9 N vs) H) (e:∀vs H Q E,sp vs H Q E->vs.length=ps.length:=by intro _ _ _ _ h;repeat first | (obtain⟨h,_⟩:=h;subst h;rfl) | (obtain⟨_,h⟩:=h)):II P w K mg base (UF P w) (k+1) f g ps sp:=F.okE S e b
end
def N_.oC{P:Cv}{w:HS}{K:PySem.W.Frag}{i:Str->A6 A1}{base:HX}{x a:Str}{st:IE}{f:A2}{e:IJ}{N ps:A0 Str}{k:Nat}{sp:Sp}(F:N_ K x a st f e)(S:HW N ps (B6 st))
  (b:∀(c:A1) (A:HZ) (d:A0 NL) (s:A5) (H:Hp) (vs:A0 V) (Q:VK) (E:XK),e.code=c->JH k (A.deeper (envOfC a (B6 st) s.heap.objs.size f c))->sp vs H Q E ->
   ∃t,P7 (Tq JG P w K i base N a (B6 st) f c A d s H E).nox (K2 st) t/\t { nx:=λ_ H'=>Q .non H',rt:=Q } (t9 N vs) H) (g:∀vs H Q E,sp vs H Q E->vs.length=ps.length:=by intro _ _ _ _ h;repeat first | (obtain⟨h,_⟩:=h;subst h;rfl) | (obtain⟨_,h⟩:=h)):II P w K i base JG (k+1) f e ps sp:=F.okC S g b
end L2
namespace Sw
open PySem L2
def JU(i:Nat):IE:=PySem.Challenge.pw_strikeweave_k60_words_of_a_weave.main.body.getD i (.Pass ⟨0,0,0,0⟩)
abbrev OQ:IE:=JU 12
abbrev OS:IE:=JU 13
abbrev OP:IE:=JU 14
abbrev QX:IE:=JU 16
abbrev LX:IE:=JU 17
abbrev OJ:IE:=JU 18
abbrev O_:IE:=JU 19
abbrev QK:IE:=JU 20
abbrev QY:IE:=JU 21
abbrev QI:IE:=JU 26
abbrev NB:IE:=JU 27
abbrev LY:IE:=JU 28
abbrev OO:IE:=JU 29
abbrev QF:IE:=JU 30
abbrev NU:IE:=JU 35
abbrev OT:IE:=JU 36
abbrev PF:IE:=JU 37
abbrev NA:IE:=JU 38
abbrev MG:IE:=JU 39
abbrev MF:IE:=JU 40
abbrev NT:IE:=JU 41
abbrev PM:IE:=JU 42
abbrev QH:IE:=JU 43
abbrev MJ:IE:=JU 44
abbrev PD:IE:=JU 47
abbrev KP:IE:=JU 48
abbrev QW:IE:=JU 49
abbrev OI:IE:=JU 50
abbrev OH:IE:=JU 51
abbrev PN:IE:=JU 52
abbrev QJ:IE:=JU 53
abbrev QZ:IE:=JU 54
abbrev RV:IE:=JU 55
abbrev MB:IE:=JU 56
abbrev LJ:IE:=JU 57
abbrev QE:IE:=JU 58
abbrev QG:IE:=JU 60
abbrev PK:IE:=JU 61
abbrev PH:IE:=JU 62
abbrev LH:IE:=JU 63
abbrev NQ:IE:=JU 64
abbrev ME:IE:=JU 65
abbrev OL:IE:=JU 66
abbrev K_:IE:=JU 67
abbrev MD:IE:=JU 68
abbrev PJ:IE:=JU 69
abbrev NS:IE:=JU 70
abbrev PL:IE:=JU 71
abbrev OK:IE:=JU 72
abbrev MC:IE:=JU 73
abbrev NP:IE:=JU 74
abbrev M_:IE:=JU 75
abbrev NR:IE:=JU 76
abbrev OM:IE:=JU 77
abbrev ON:IE:=JU 78
abbrev NH:IE:=S7 (JU 3) 0
abbrev MN:IE:=S7 (JU 4) 0
abbrev MV:IE:=S7 (JU 5) 0
abbrev MM:IE:=S7 (JU 25) 0
abbrev Lz:IE:=S7 (JU 25) 1
abbrev NV:IE:=S7 (JU 25) 2
abbrev MK:IE:=S7 (JU 25) 3
abbrev QP:IE:=S7 (JU 25) 4
abbrev Le:IE:=S7 (JU 25) 5
abbrev IS:IE:=S7 (JU 34) 0
def Ku:Str:=("Weave.__init__":Str) ++ ".<locals>." ++ "<lambda>"
def Z7:A0 (Pos×Str):=[(⟨133,39,133,90⟩,Ku),(⟨135,39,135,98⟩,Ku),(⟨136,35,136,85⟩,Ku)]
set_option genInjectivity false in
structure Tx(K:PySem.W.Frag)(mg:Str->A6 A1) where
 a1:Fn K mg "is_number" OQ ["thing"]
 aO:Fn K mg "is_listed" OS ["thing"]
 au:Fn K mg "is_row_of" OP ["thing", "many"]
 bg:Fn K mg "rounds" QX ["web"]
 aA:Fn K mg "rounds_beside" LX ["web", "known"]
 aP:Fn K mg "one_round" OJ ["web", "words", "number"]
 aE:Fn K mg "wordless" O_ ["web", "words"]
 bj:Fn K mg "all_out" QK ["web", "words", "name"]
 bq:Fn K mg "one_in" QY ["web", "words", "name"]
 a8:Fn K mg "is_name" QI ["thing"]
 aR:Fn K mg "check_names" NB ["names"]
 aB:Fn K mg "check_strikes" LY ["names", "strikes"]
 a2:Fn K mg "is_strike" OO ["names", "thing"]
 bk:Fn K mg "reached" QF ["steps", "some"]
 aq:Fn K mg "check_part" NU ["part", "rows", "fits"]
 a3:Fn K mg "begins_of" OT ["rows"]
 af:Fn K mg "names_of" PF ["rows"]
 an:Fn K mg "fits_people" NA ["ahead", "row"]
 aF:Fn K mg "fits_sayings" MG ["people", "ahead", "row"]
 aG:Fn K mg "fits_strikes" MF ["sayings", "goals", "ahead", "row"]
 aU:Fn K mg "fits_backs" NT ["sayings", "ahead", "row"]
 aH:Fn K mg "is_fresh" PM ["taken", "thing"]
 bl:Fn K mg "is_rank" QH ["thing"]
 aI:Fn K mg "are_speakers" MJ ["names", "thing"]
 aV:Fn K mg "strength" PD ["weave", "name"]
 ao:Fn K mg "saying_strength" KP ["weave", "saying"]
 aJ:Fn K mg "row_of" QW ["rows", "name"]
 aQ:Fn K mg "saying_of" OI ["weave", "name"]
 a4:Fn K mg "strike_of" OH ["weave", "name"]
 bb:Fn K mg "counting" PN ["weave"]
 bm:Fn K mg "backers" QJ ["weave", "name"]
 br:Fn K mg "hit_by" QZ ["weave", "name"]
 bo:Fn K mg "woven" RV ["weave"]
 aK:Fn K mg "woven_struck" MB ["weave", "names", "name"]
 ax:Fn K mg "is_strike_from" LJ ["weave", "name", "hit"]
 al:Fn K mg "word_of" QE ["weave", "name"]
 a9:Fn K mg "_law_mix" QG ["_law_cell", "_law_k"]
 bc:Fn K mg "_law_left" PK ["_law_script", "_law_k"]
 ac:Fn K mg "_law_pick" PH ["_law_left_here", "_law_many"]
 ay:Fn K mg "_law_many_names" LH ["_law_left_here", "_law_many"]
 aW:Fn K mg "_law_people" NQ ["_law_left_here", "_law_many"]
 aL:Fn K mg "_law_speakers" ME ["_law_left_here", "_law_people_here"]
 a5:Fn K mg "_law_sizes" OL ["_law_left_here", "_law_most"]
 az:Fn K mg "_law_weave_rows" K_ ["_law_left_here", "_law_most"]
 aw:Fn K mg "_law_strength" MD ["_law_rows", "_law_name"]
 bd:Fn K mg "_law_live" PJ ["_law_rows"]
 aX:Fn K mg "_law_behind" NS ["_law_rows", "_law_name"]
 be:Fn K mg "_law_hits" PL ["_law_rows", "_law_goal"]
 a6:Fn K mg "_law_woven" OK ["_law_rows"]
 aM:Fn K mg "_law_strikers" MC ["_law_names", "_law_strikes"]
 aY:Fn K mg "_law_rounds" NP ["_law_names", "_law_strikes"]
 aS:Fn K mg "_law_all_out" M_ ["_law_some", "_law_words"]
 aZ:Fn K mg "_law_has_in" NR ["_law_some", "_law_words"]
 a7:Fn K mg "_law_asked" OM ["_law_ask", "_law_weave", "_law_name"]
 ab:A2
 am:SN K ab
 cj:mg "Web" = some (.ref ab)
 aC:JE K ab "names"
 bs:JE K ab "strikes"
 av:JE K ab "strikers_by_name"
 a0:JE K ab "struck_by_name"
 bR:A2
 bM:IJ
 bS:N_ K "__init__" "Web.__init__" MM bR bM
 bT:Binds K bM ["self", "names", "strikes"] []
 ck:Mk K ab bR
 ar:Mt K ab "all_names" "Web.all_names" Lz ["self"]
 cn:Mt K ab "all_strikes" "Web.all_strikes" NV ["self"]
 ak:Mt K ab "strikers" "Web.strikers" MK ["self", "name"]
 co:Mt K ab "struck" "Web.struck" QP ["self", "name"]
 as:Mt K ab "check_has" "Web.check_has" Le ["self", "name"]
 aa:A2
 ad:SN K aa
 ce:mg "Weave" = some (.ref aa)
 bn:JE K aa "people"
 ai:JE K aa "sayings"
 aj:JE K aa "strikes"
 bt:JE K aa "backs"
 bI:A2
 bD:IJ
 bJ:N_ K "__init__" "Weave.__init__" IS bI bD
 bK:Binds K bD ["self", "people", "sayings", "strikes", "backs"] []
 cf:Mk K aa bI
 cp:A2
 ae:A2
 bf:TabAt K mg cp ae
 bw:bD.code = .ref cp
 cq:A2
 cr:A0 A1
 bU:XC K cq cr
 bV:mg "StrikeError" = some (.ref cq)
 bE:A2
 cs:A0 A1
 ct:XC K bE cs
 b7:mg "BadName" = some (.ref bE)
 bz:A2
 cu:A0 A1
 cv:XC K bz cu
 bY:mg "BadStrike" = some (.ref bz)
 bB:A2
 cw:A0 A1
 cx:XC K bB cw
 b2:mg "BadWeave" = some (.ref bB)
 bN:A2
 cy:A0 A1
 cz:XC K bN cy
 b9:mg "BadRow" = some (.ref bN)
 aT:A2
 ca:A0 A1
 bF:XC K aT ca
 bG:mg "NoName" = some (.ref aT)
 bC:A2
 cA:A0 A1
 cB:XC K bC cA
 b3:mg "NoStrike" = some (.ref bC)
 bO:A2
 cC:A0 A1
 cD:XC K bO cC
 cb:mg "NoMove" = some (.ref bO)
 bH:A2
 cE:A0 A1
 cF:XC K bH cE
 b8:mg "TooMany" = some (.ref bH)
 cG:XG K bE
 cH:UE K bE
 cI:(Value.ref bE::cs).contains (.ref cq)=true
 cJ:PySem.W.kitAny K (.ref bE) [.ref bE,.ref bz,.ref bB,.ref bN,.ref bC,.ref bO,.ref bH]=some true
 cK:PySem.W.kitOne K (.ref bE) (.ref aT)=some false
 cL:PySem.W.kitOne K (.ref bE) (.type "ValueError")=some true
 cM:JE K bE "place"
 cN:A2
 cO:IJ
 cP:N_ K "__init__" "BadName.__init__" NH cN cO
 cQ:Binds K cO ["self", "place"] []
 cR:RU K bE "__init__" cN
 cS:XG K bz
 cT:UE K bz
 cU:(Value.ref bz::cu).contains (.ref cq)=true
 cV:PySem.W.kitAny K (.ref bz) [.ref bE,.ref bz,.ref bB,.ref bN,.ref bC,.ref bO,.ref bH]=some true
 cW:PySem.W.kitOne K (.ref bz) (.ref aT)=some false
 cX:PySem.W.kitOne K (.ref bz) (.type "ValueError")=some true
 cY:JE K bz "place"
 cZ:A2
 c0:IJ
 c1:N_ K "__init__" "BadStrike.__init__" MN cZ c0
 c2:Binds K c0 ["self", "place"] []
 c3:RU K bz "__init__" cZ
 c4:XG K bB
 c5:UE K bB
 c6:(Value.ref bB::cw).contains (.ref cq)=true
 c7:PySem.W.kitAny K (.ref bB) [.ref bE,.ref bz,.ref bB,.ref bN,.ref bC,.ref bO,.ref bH]=some true
 c8:PySem.W.kitOne K (.ref bB) (.ref aT)=some false
 c9:PySem.W.kitOne K (.ref bB) (.type "ValueError")=some true
 da:JE K bB "part"
 db:JE K bB "place"
 dc:A2
 dd:IJ
 de:N_ K "__init__" "BadWeave.__init__" MV dc dd
 df:Binds K dd ["self", "part", "place"] []
 dg:RU K bB "__init__" dc
 bu:XG K aT
 bv:UE K aT
 bA:(Value.ref aT::ca).contains (.ref cq)=true
 bZ:PySem.W.kitAny K (.ref aT) [.ref bE,.ref bz,.ref bB,.ref bN,.ref bC,.ref bO,.ref bH]=some false
 b0:PySem.W.kitOne K (.ref aT) (.ref aT)=some true
 b1:PySem.W.kitOne K (.ref aT) (.type "ValueError")=some true
 cc:PySem.W.findIn K (.ref aT) "__init__" = some (some (.builtin "ValueError.__init__"))
 cd:∃t,mg "LETTERS" = some (.str "abcdefghijklmnopqrstuvwxyz" t)
 bW:∃t,mg "LONGEST_NAME" = some (.int 8 t)
 dh:A2
 cg:mg "KINDS" = some (.ref dh)
 ch:TX K dh ["fact", "claim"]
 bP:∃t,mg "GREATEST_RANK" = some (.int 9 t)
 bQ:∃t,mg "FACT_STRENGTH" = some (.int 10 t)
 ap:mg "len" = none
 aD:mg "range" = none
 ba:mg "enumerate" = none
 cl:mg "min" = none
 b4:mg "max" = none
 b5:mg "abs" = none
 ag:mg "sorted" = none
 bL:mg "int" = none
 b6:mg "str" = none
 ci:mg "bool" = none
 aN:mg "list" = none
 bx:mg "tuple" = none
 bh:mg "dict" = none
 bi:mg "set" = none
 ah:mg "isinstance" = none
 bp:mg "all" = none
 cm:mg "any" = none
 bX:mg "ValueError" = none
end Sw
namespace L2
open PySem
def KA{N ps:A0 Str}{a:IT}(h1:a.kind = .function:=by rfl)(h2:a.isCoroutine=false:=by rfl)(b:a.isGenerator=false:=by rfl)(c:N.Nodup:=by decide +kernel)(d:N.take ps.length=ps:=by rfl)(e:∀x∈ps,a.names.lookup x=some .local\/a.names.lookup x=some .cell:=by decide +kernel)(f:∀y∈a.names,y.2≠ .free:=by decide +kernel):HW N ps a:=⟨h1,h2,b,c,d,e,f⟩
def Rm{j k:Nat}{A:HZ}(h:JH k A)(e:j<=k:=by decide):JH j A:=h.mono e
def V0{J:It}{xs:A0 V}{a:A2}{d:Hp}(as:NE J xs a d){g:TG}{e:TS}{D:Ends}{σ:St}{H:Hp}(Pv:Nat->St->Hp->Prop)(h:Pv 0 σ H)(j:∀i σ H,i<=xs.length->Pv i σ H->KF a d H)
  (k:∀i σ H x,xs[i]?=some x->Pv i σ H->∀b:Ends,(∀σ' H',Pv (i+1) σ' H'->b.nx σ' H')->b.rt=D.rt->g x σ H λσ2 c=>e b σ2 c) (l:∀σ H,Pv xs.length σ H->D.nx σ H) :
  ∃W:Nat->Nat->St->Hp->Prop,(∃m,W 0 m σ H)/\∀i m σ H,W i m σ H ->
   (J.stop i H/\D.nx σ H)\/(J.go i H/\∃N:St->Hp->Prop,(∀σ' H',N σ' H'->∃f,f < m/\W (i+1) f σ' H')/\∀x H',J.yld i H x H'->g x σ H' λσ2 c=>e { D with nx:=N,ct:=N,bk:=D.nx } σ2 c) :=
 zCz as Pv h j (λi σ H x n o=>k i σ H x n o _ (λ_ _ z=>z) rfl) l
def U4{lo:Int}{n:Nat}{g:TG}{c:TS}{D:Ends}{σ:St}{H:Hp}(Pv:Nat->St->Hp->Prop)(e:Pv 0 σ H)
  (f:∀i σ H,i<n->Pv i σ H->∀a:Ends,(∀σ' H',Pv (i+1) σ' H'->a.nx σ' H')->a.rt=D.rt->g (.int (lo+i)) σ H λσ2 b=>c a σ2 b) (h:∀σ H,Pv n σ H->D.nx σ H) :
  ∃W:Nat->Nat->St->Hp->Prop,(∃m,W 0 m σ H)/\∀i m σ H,W i m σ H ->
   ((TW lo n).stop i H/\D.nx σ H)\/((TW lo n).go i H/\∃N:St->Hp->Prop,(∀σ' H',N σ' H'->∃d,d < m/\W (i+1) d σ' H')/\∀x H',(TW lo n).yld i H x H'->g x σ H' λσ2 b=>c { D with nx:=N,ct:=N,bk:=D.nx } σ2 b) :=
 Sk Pv e (λi σ H j k=>f i σ H j k _ (λ_ _ z=>z) rfl) h
def A7{α:Type}{A C:α->Prop}{a:α}(e:A a)(h:C a):∃v,A v/\C v:=⟨a,e,h⟩
def Y5{α0 α1 α2:Type}{d e f g h i:α0->α1->α2->Prop}{a:α0}{b:α1}{c:α2}(j:d a b c)(h1:e a b c)(h2:f a b c)(k:g a b c)(l:h a b c)(m:i a b c):∃a b c,d a b c/\e a b c/\f a b c/\g a b c/\h a b c/\i a b c:=⟨a,b,c,j,h1,h2,k,l,m⟩
def zFp{α0 α1 α2 α3 α4 α5:Type}{g h i j k l m n:α0->α1->α2->α3->α4->α5->Prop}{a:α0}{b:α1}{c:α2}{d:α3}{e:α4}{f:α5}(o:g a b c d e f)(h1:h a b c d e f)(h2:i a b c d e f)(p:j a b c d e f)(q:k a b c d e f)(r:l a b c d e f)(s:m a b c d e f)(t:n a b c d e f):∃a b c d e f,g a b c d e f/\h a b c d e f/\i a b c d e f/\j a b c d e f/\k a b c d e f/\l a b c d e f/\m a b c d e f/\n a b c d e f:=⟨a,b,c,d,e,f,o,h1,h2,p,q,r,s,t⟩
def C1{α0 α1:Type}{c d e:α0->α1->Prop}{a:α0}{b:α1}(f:c a b)(h1:d a b)(h2:e a b):∃a b,c a b/\d a b/\e a b:=⟨a,b,f,h1,h2⟩
def B5{t u:TS}{D:Ends}{σ:St}{H:Hp}(h:∀N:St->Hp->Prop,(∀σ' H',u D σ' H'->N σ' H')->t { D with nx:=N } σ H):UV t u D σ H:=h _ λ_ _ z=>z
def Ya{i:Nat}{v:V}{t u:TS}{D:Ends}{σ:St}{H:Hp}(h:∀N:St->Hp->Prop,(∀σ' H',u D σ' H'->N σ' H')->t { D with nx:=N } (σ.set i (some v)) H):P9 i v σ H (λσ2 a=>UV t u D σ2 a):=h _ λ_ _ z=>z
end L2
namespace Sw
open PySem L2
section
variable{P:Cv}{w:HS}{K:PySem.W.Frag}{mg:Str->A6 A1}{base:HX}
def Za(c:Nat):Bool:=decide (97<=c)&&decide (c<=122)
def K3(x:Str):Bool:=decide (1<=x.length)&&decide (x.length<=8)&&x.cps.toList.all Za
theorem Kj:("abcdefghijklmnopqrstuvwxyz":Str).cps.toList=List.range' 97 26:=by decide +kernel
theorem zAc(c:Nat):decide (c∈("abcdefghijklmnopqrstuvwxyz":Str).cps.toList)=Za c:=by
 rw[Kj];unfold Za;by_cases a:97<=c
 .by_cases b:c<=122
  .rw[AJ (List.mem_range'_1.mpr (by lia)),AJ a,AJ b];rfl
  .rw[BB (λz=>by have:=List.mem_range'_1.mp z;lia),BB b,Bool.and_false]
 .rw[BB (λz=>by have:=List.mem_range'_1.mp z;lia),BB a,EV]
theorem Oy:HW ["thing"] ["thing"] (B6 QI):=KA
def Ot:Sp:=λb H Q _=>∃x,b = [.str x]/\x.length<=1000/\∀a,CW H a->Q (.bl (K3 x)) a
theorem Di(T:Tx K mg):II P w K mg base JG 1 T.a8.f T.a8.fd ["thing"] Ot:=by
 refine T.a8.F.o1 Oy λr A b s H B Q E C h=>?_
 .obtain⟨x,rfl,G,k⟩:=h;refine⟨_,(B2 (K5 (PW.pt (Az (Q8 (K1 (G0 (p9 K) T.ah F4 (A8 (pv 0) (A8 (Em T.b6 Xg) B0))))) (Y7 (Q8 (Vh Ur Ur B4 (G0 Hb T.ap Q5 (A8 (pv 0) B0)) (Zq T.bW)))))) (B7 (C3 Cn)) E6)
   (B7 (C3 (G0 (Hj K) T.bp Hi (A8 (J1 (N':=["letter"]) (cap:=[none]) (cl:=[]) (E9 trivial trivial) rfl (zEd (pv 0)) (λ_ _ _ _=>by exact⟨(JQ 0),D8,(I0 Sh (pv 0) (zFs T.cd) rfl)⟩)) B0))))),?_⟩
  have d:x.length<=sizeLine:=by rw[sizeLine_eq];lia
  have m:x.cps.size=x.length:=rfl;refine A7 rfl ⟨.str x, "str",_,true,rfl,.str x,rfl,A7 rfl ?_⟩;refine X0 ?_;refine A7 rfl ⟨x,rfl,d,C1 rfl rfl (A7 rfl ?_)⟩;refine g7 (λa=>?_) (λa=>?_)
  .have a:(1:Int)<=(x.length:Int):=BH a;refine C1 rfl rfl (A7 rfl ?_);by_cases o:(x.length:Int)<=8
   .rw[AJ o];refine X0 ?_;refine A7 rfl ⟨x,rfl,λD p=>?_⟩;refine Na (n:=x.cps.size) (λi σ g=>(∃v,σ = [v])/\CW H g/\g D=some (.lst ((x.cps.toList.take i).map λc=>V.bl (Za c)))) ⟨⟨_,rfl⟩,CW.new p,A9⟩ (λi _ _ q _=>q) (λ_ _ _=>rfl) ?_ ?_
    .rintro i σ t v g N q ⟨⟨I,rfl⟩,j,l⟩ ⟨rfl,c,u,rfl⟩ y;refine S3 ?_;refine A7 rfl (C1 rfl rfl ⟨_,l,?_,?_⟩)
     .rw[AA,AO,sizeLine_eq];lia
     .rw[PySem.StrLaws.found_one,zAc];refine y _ _ ⟨⟨_,rfl⟩,j.upd p,?_⟩;rw[A9];have:x.cps.toList[i]?=some c:=by rw[BN];exact u
      rw[List.take_add_one,this,AF];rfl
    .rintro σ t ⟨_,j,l⟩;refine⟨D,x.cps.toList.map Za,rfl,HY.of ?_,?_⟩
     .rw[l,<-AX,BM,AN];rfl
     .have e:(x.cps.toList.map Za).all id=K3 x:=by
       unfold K3;rw[AJ (show 1<=x.length by lia),AJ (show x.length<=8 by lia),List.all_map];rfl
      rw[e];exact k _ j
   .rw[BB o];refine g9 ?_;have e:K3 x=false:=by
     unfold K3;rw[BB (show ¬x.length<=8 by lia),Bool.and_false,EV]
    have:=k H (CW.refl H);rw[e]at this;exact this
  .have a:¬(1:Int)<=(x.length:Int):=λz=>a (AJ z);refine A7 rfl ?_;refine g9 ?_;have e:K3 x=false:=by
    unfold K3;rw[BB (show ¬1<=x.length by lia),EV,EV]
   have:=k H (CW.refl H);rw[e]at this;exact this
theorem C7{α:Type}{l:A0 α}{i:Nat}{x:α}(h:l[i]?=some x):l.take (i+1)=l.take i ++ [x]:=by
 rw[List.take_add_one,h];rfl
theorem J4{α:Type}{l:A0 α}{i:Nat}{x:α}(a:l.Nodup)(h:l[i]?=some x):x∉l.take i:=by
 intro b;obtain⟨j,c,e⟩:=List.getElem_of_mem b;have d:j<i:=by rw[AO]at c;lia
 rw[List.getElem_take]at e;obtain⟨g,f⟩:=AR.mp h;have:=(List.getElem_inj a).mp (e.trans f.symm);lia
theorem KC:HW ["names", "seen", "place", "name"] ["names"] (B6 NB):=KA
def Q1(ss:A0 Str):Prop:=(∀x∈ss,K3 x=true)/\ss.Nodup/\ss.length<=100
def Cq(K:PySem.W.Frag):Sp:=λc H Q _=>∃(p:A2) (a:A0 Str),c = [.ref p]/\HY K H p (a.map V.str)/\Q1 a/\∀b,CW H b->Q .non b
theorem Gh{x:Str}(h:K3 x=true):1<=x.length/\x.length<=8:=by
 unfold K3 at h;rw[CF,CF]at h;exact⟨BH h.1.1,BH h.1.2⟩
theorem Co(T:Tx K mg):II P w K mg base JG 2 T.aR.f T.aR.fd ["names"] (Cq K):=by
 refine T.aR.F.o1 KC λU A C s H Z Q E J h=>?_
 .obtain⟨a,b,rfl,r,⟨V,W,hL⟩,k⟩:=h;have hu:=U0 J;refine⟨_,(B2 (C2 (i:=1) KC.nd rfl (.inl rfl) (De (Yp P w) (by rfl) T.bi Cu))
   (B7 (P0 PassesOwn.never rfl (piE K T.ba (A8 (pv 0) B0)) (Q_ K (n:=2) (C6 (E4 (i:=2) KC.nd rfl (.inl rfl)) (C6 (E4 (i:=3) KC.nd rfl (.inl rfl)) J9)))
   (B2 (K5 (PW.pt (Az (Q8 (K1 (C8 T.a8 (Di T) (Rm J) (A8 (pv 3) B0)))) (Y7 (C9 (zFc P w) (pv 3) (pv 1) rfl)))) (B7 U7) E6)
   (B7 (G9 (Qq P w (zDw P w) (pv 1) (A8 (pv 3) B0)))))))),?_⟩
  refine⟨rfl,λp L=>?_⟩;have M:CW H (HU H p (Oz P w p [])):=CW.new L;refine A7 rfl ⟨a,A7 rfl ⟨(M.at a).seqL r,Vb (n:=b.length) (λi σ g=>∃l m,σ = [some (.ref a),some (.ref p),l,m]/\CW H g/\g p=some (Oz P w p ((b.take i).map Sum.inr))) ⟨_,_,rfl,M,A9⟩ ?_ ?_ ?_ ?_⟩⟩
  .rintro i σ g u ⟨l,m,rfl,c,o⟩;exact⟨_,_,(c.at a).seqL r,by rw[AG,AU u];rfl⟩
  .rintro σ g ⟨l,m,rfl,c,o⟩;exact⟨_,(c.at a).seqL r,by rw[AA]⟩
  .rintro i σ g v H' u ⟨l,m,rfl,c,o⟩ ⟨t,x,rfl,N,rfl,B⟩;have B:=B _ ((c.at a).seqL r);have j:b[i]?=some b[i]:=AU u;rw[AG,j]at B;cases B;have X:b[i]∈b:=GE u;have q:=V _ X;have O:=Gh q;have D:p≠t:=B3 o N;refine⟨t,A7 rfl ⟨JC.of A9,rfl,_,A7 rfl (C1 rfl rfl ?_)⟩⟩;refine A7 rfl ⟨b[i],rfl,by lia,λR S=>⟨_,rfl,?_⟩⟩;rw[q];refine X0 ?_;have G:CW H R:=(c.trans (CW.new N)).trans S;have I:R p=some (Oz P w p ((b.take i).map Sum.inr)):=S _ _ (by rw[B8 D];exact o);have d:¬(Sum.inr b[i]:IL)∈(b.take i).map Sum.inr:=λz=>by
    obtain⟨y,Y,e⟩:=AI.mp z;cases e;exact J4 W j Y
   refine A7 rfl (A7 rfl ⟨p,_,Sum.inr b[i],rfl,rfl,I,A7 rfl ?_⟩);rw[AS (by decide),BB d];refine X0 ?_;refine A7 rfl ⟨⟨p,rfl,.inl ⟨_,I⟩⟩,A7 rfl ⟨p,_,Sum.inr b[i],rfl,rfl,I,?_,?_⟩⟩
   .rw[AA,AO];lia
   .refine⟨_,A7 rfl ⟨G.upd L,?_⟩⟩;rw[A9];unfold zEo;rw[AS d,C7 j,AF];rfl
  .rintro σ g ⟨l,m,rfl,c,o⟩;exact k g c
end
def Ga(ss:A0 Str):(ss.map V.str).all Ff=true:=by
 rw[DN];intro v a;obtain⟨x,_,rfl⟩:=AI.mp a;rfl
def Ry(x:Str)(ss:A0 Str):inV (.str x) (ss.map V.str)=decide (x∈ss):=by
 unfold inV;rw[List.any_map]
 induction ss with
 | nil=>rfl
 | cons y r a =>
  rw[FX,a];show((y == x)||decide (x∈r))=decide (x∈y::r);by_cases e:x=y
  .subst e;simp
  .have:(y == x)=false:=by simpa using λz=>e z.symm
   rw[this,Bool.false_or];by_cases h:x∈r
   .rw[AJ h,AJ (AQ _ h)]
   .rw[BB h,BB (λz=>(A_.mp z).elim e h)]
def J3{K:PySem.W.Frag}{H:Hp}{p:A2}{x:Str}{ss:A0 Str}{Q:VK}(h:VL K H p (ss.map V.str))(q:Q (.bl (decide (x∈ss))) H):UQ K false (.str x) (.ref p) H Q :=
 ⟨p,_,rfl,h,rfl,Ga ss,by rw[AS (by decide),Ry];exact q⟩
def K8{K:PySem.W.Frag}{H:Hp}{p:A2}{x:Str}{ss:A0 Str}{Q:VK}(h:VL K H p (ss.map V.str))(q:Q (.bl (!decide (x∈ss))) H):UQ K true (.str x) (.ref p) H Q :=
 ⟨p,_,rfl,h,rfl,Ga ss,by rw[AY rfl,Ry];exact q⟩
section
variable{P:Cv}{w:HS}{K:PySem.W.Frag}{mg:Str->A6 A1}{base:HX}
theorem Fw:HW ["names", "thing"] ["names", "thing"] (B6 OO):=KA
def Gp(K:PySem.W.Frag):Sp:=λb H Q _=>∃(p:A2) (a:A0 Str) (t:A2) (x y:Str),b = [.ref p,.ref t]/\HY K H p (a.map V.str)/\H t=some (.tup [.str x,.str y])/\x∈a/\y∈a/\Q (.bl true) H
theorem Io(T:Tx K mg):II P w K mg base JG 1 T.a2.f T.a2.fd ["names", "thing"] (Gp K):=by
 refine T.a2.F.o1 Fw λe A c s H j Q E l h=>?_
 .obtain⟨p,m,t,x,y,rfl,d,b,g,i,k⟩:=h;refine⟨_,(B2 (K5 (PW.pt (Az (Q8 (K1 (G0 (p9 K) T.ah F4 (A8 (pv 1) (A8 (Em T.bx Dv) B0))))) (Y7 (C9 Rk (G0 (U2 K) T.ap Q5 (A8 (pv 1) B0)) B4 (F6 _))))) (B7 (C3 Cn)) E6)
   (B7 (C3 (R8 (I0 (U9 K) (D6 (LM K) (pv 1) B4 (λ_ _=>rfl)) (pv 0) rfl) (V3 (I0 (U9 K) (D6 (LM K) (pv 1) B4 (λ_ _=>rfl)) (pv 0) rfl)))))),?_⟩
  refine A7 rfl ⟨_, "tuple",_,true,rfl,.tup b,rfl,A7 rfl ?_⟩;refine X0 ?_;refine A7 rfl (C1 (a:=t) rfl (.inr (JC.of b)) ⟨rfl,A7 rfl ?_⟩);refine X0 ?_;refine A7 rfl ⟨t,_,C1 rfl rfl ⟨JC.of b,rfl,A7 rfl (J3 (.inl d) ⟨_,rfl,?_⟩)⟩⟩;rw[AJ g];refine g9 ?_;refine A7 rfl ⟨t,_,C1 rfl rfl ⟨JC.of b,rfl,A7 rfl (J3 (.inl d) ?_)⟩⟩;rw[AJ i];exact k
structure OC(ss:A0 Str)(ps:A0 IU):Prop where
 nm:∀q∈ps,q.2.1∈ss/\q.2.2∈ss
 nd:(ps.map λq=>q.2).Nodup
 len:ps.length<=300
def P2(ps:A0 IU):A0 V:=ps.map λq=>V.ref q.1
def Jl(ps:A0 IU):A0 (A0 IL×A2):=ps.map λq=>([.inr q.2.1,.inr q.2.2],q.1)
theorem Vm{H:Hp}{ps:A0 IU}(h:∀q∈ps,I9 H q):Ld H (Jl ps):=λk a=>by
 obtain⟨q,b,rfl⟩:=AI.mp a;exact h q b
theorem K9{H H':Hp}{ps:A0 IU}(s:CW H H')(h:∀q∈ps,I9 H q):∀q∈ps,I9 H' q:=λq a=>s _ _ (h q a)
theorem JP:HW ["names", "strikes", "seen", "place", "strike"] ["names", "strikes"] (B6 LY):=KA
def Af(K:PySem.W.Frag):Sp:=λe H Q _=>∃(p:A2) (c:A0 Str) (a:A2) (b:A0 IU),e = [.ref p,.ref a]/\HY K H p (c.map V.str)/\HY K H a (P2 b)/\(∀q∈b,I9 H q)/\OC c b/\∀d,CW H d->Q .non d
theorem Ah(T:Tx K mg):II P w K mg base JG 2 T.aB.f T.aB.fd ["names", "strikes"] (Af K):=by
 refine T.aB.F.o1 JP λX A D s H vs Q E N h=>?_
 .obtain⟨n,Y,a,b,rfl,Z,y,O,⟨hN,hD,hL⟩,k⟩:=h;have R:=U0 N;refine⟨_,(B2 (C2 (i:=2) JP.nd rfl (.inl rfl) (De (Vz P w) (by rfl) T.bi Cu))
   (B7 (P0 PassesOwn.never rfl (piE K T.ba (A8 (pv 1) B0)) (Q_ K (n:=2) (C6 (E4 (i:=3) JP.nd rfl (.inl rfl)) (C6 (E4 (i:=4) JP.nd rfl (.inl rfl)) J9)))
   (B2 (K5 (PW.pt (Az (Q8 (K1 (C8 T.a2 (Io T) (Rm N) (A8 (pv 0) (A8 (pv 4) B0))))) (Y7 (C9 (zFh P w R) (pv 4) (pv 2) rfl)))) (B7 U7) E6)
   (B7 (G9 (Qq P w (zCg P w R) (pv 2) (A8 (pv 4) B0)))))))),?_⟩
  refine⟨rfl,λp S=>?_⟩;have U:CW H (HU H p (Pa P w p [])):=CW.new S;refine A7 rfl ⟨a,A7 rfl ⟨(U.at a).seqL y,Vb (n:=b.length) (λi σ c=>∃l v4,σ = [some (.ref n),some (.ref a),some (.ref p),l,v4]/\CW H c/\c p=some (Pa P w p (Jl (b.take i)))) ⟨_,_,rfl,U,A9⟩ ?_ ?_ ?_ ?_⟩⟩
  .rintro i σ c B ⟨G,l,rfl,d,m⟩;exact⟨_,_,(d.at a).seqL y,by unfold P2;rw[AG,AU B];rfl⟩
  .rintro σ c ⟨G,l,rfl,d,m⟩;exact⟨_,(d.at a).seqL y,by unfold P2;rw[AA]⟩
  .rintro i σ c v H' B ⟨G,l,rfl,d,m⟩ ⟨t,x,rfl,V,rfl,o⟩;have o:=o _ ((d.at a).seqL y);have g:b[i]?=some b[i]:=AU B;unfold P2 at o;rw[AG,g]at o;cases o;have W:b[i]∈b:=GE B;obtain⟨I,J⟩:=hN _ W;have L:p≠t:=B3 m V;have C:CW H (HU c t (.tup [.int i,.ref b[i].1])):=d.trans (CW.new V);have j:=C _ _ (O _ W);refine⟨t,A7 rfl ⟨JC.of A9,rfl,_,A7 rfl (C1 rfl rfl ?_)⟩⟩;refine A7 rfl (A7 rfl ⟨n,Y,b[i].1,b[i].2.1,b[i].2.2,rfl,(C.at n).seqL Z,j,I,J,A7 rfl ?_⟩);refine X0 ?_;have M:(HU c t (.tup [.int i,.ref b[i].1])) p=some (Pa P w p (Jl (b.take i))):=by rw[B8 L];exact m
   have r:Ld (HU c t (.tup [.int i,.ref b[i].1])) (Jl (b.take i)):=Vm (K9 C λq j=>O q (BQ j));have u:∀q∈Jl (b.take i),q.1≠[.inr b[i].2.1,.inr b[i].2.2]:=λq j e=>by
    obtain⟨z,hz,rfl⟩:=AI.mp j;have e':z.2=b[i].2:=by
     obtain⟨z1,z2,z3⟩:=z;simp only[List.cons.injEq,Sum.inr.injEq,and_true]at e;exact Prod.ext e.1 e.2
    have h1:(b.map λq=>q.2)[i]?=some b[i].2:=by rw[AG,g];rfl
    refine J4 hD h1 ?_;rw[<-EK,<-e'];exact AI.mpr ⟨z,hz,rfl⟩
   refine A7 rfl (A7 rfl ⟨p,b[i].1,_,[.inr b[i].2.1,.inr b[i].2.2],rfl,rfl,M,j,r,u,A7 rfl ?_⟩);refine X0 ?_;refine A7 rfl ⟨⟨p,rfl,.inr (.inr ⟨_,M⟩)⟩,A7 rfl ⟨p,b[i].1,_,[.inr b[i].2.1,.inr b[i].2.2],rfl,rfl,M,j,r,u,?_,?_⟩⟩
   .unfold Jl;rw[AA,AO];lia
   .refine⟨_,A7 rfl ⟨C.upd S,?_⟩⟩;rw[A9,C7 g];unfold Jl;rw[AF];rfl
  .rintro σ c ⟨G,l,rfl,d,m⟩;exact k c d
end
def la(a:A0 (IL×V))(n:Str):A2:=match U1 a (.inr n)with | some (.ref l)=>l | _=>0
def Cg(a:A0 (IL×V))(n m:Str)(v:V):U1 (i7 a (Sum.inr n:IL) v) (.inr m)=if m=n then some v else U1 a (.inr m):=by
 rw[Ee];by_cases e:m=n
 .rw[AY e,AY (by rw[e])]
 .rw[AS e,AS (λz=>e (Sum.inr.inj z))]
def X8(a:A0 (IL×V))(n m:Str)(p:A2):la (i7 a (.inr n) (.ref p)) m=if m=n then p else la a m:=by
 unfold la;rw[Cg];by_cases e:m=n
 .rw[AY e,AY e]
 .rw[AS e,AS e]
structure DOk(H0:Hp)(kvs:A0 (IL×V))(ns:A0 Str):Prop where
 val:∀n∈ns,U1 kvs (.inr n)=some (.ref (la kvs n))
 inj:∀n∈ns,∀m∈ns,la kvs n=la kvs m->n=m
 fr:∀n∈ns,H0 (la kvs n)=none
def Xn{K:PySem.W.Frag}{J:It}{a:A2}{ns:A0 Str}{H:Hp}{σ:St}{Q:St->Hp->Prop}(as:NE J (ns.map V.str) a H)(hσ:∃v,σ = [v])(I:ns.Nodup)(L:ns.length<=1000){D:A2}(A:H D=none)
  (q:∀σ b H',CW H H'->H' D=some (.dK b)->DOk H b ns->(∀n∈ns,H' (la b n)=some (.lst []))->(∀n∈ns,la b n≠D)->Q σ H') :
  Aa (P9 0) V7 (Ix D (Jw 0) (zGk Ul)) J σ (HU H D (.dK [])) Q:=by
 obtain⟨v,rfl⟩:=hσ;refine J6 as (λi σ f=>(∃v,σ = [v])/\∃b,CW H f/\f D=some (.dK b)/\b.length<=i/\DOk H b (ns.take i)/\(∀n∈ns.take i,f (la b n)=some (.lst []))/\∀n∈ns.take i,la b n≠D)
  ⟨⟨v,rfl⟩,[],CW.new A,A9,BR _,⟨λn h=>by simp at h,λn h=>by simp at h,λn h=>by simp at h⟩,λn h=>by simp at h,λn h=>by simp at h⟩ (λi σ f _ ⟨_,b,l,_⟩=>l.at a) ?_ ?_
 .rintro i σ f x N s ⟨⟨v,rfl⟩,b,l,w,C,t,o,y⟩ E;rw[AG]at s;have F:i<ns.length:=by
   rcases Nat.lt_or_ge i ns.length with z | z
   .exact z
   .rw[FY z]at s;cases s
  have u:ns[i]?=some ns[i]:=AU F;rw[u]at s;cases s;refine S3 ?_;refine A7 rfl ⟨BR _,λp r=>?_⟩;have g:D≠p:=B3 w r;refine⟨b,.inr ns[i],by rw[B8 g];exact w,rfl,by rw[sizeLine_eq];lia,E _ _ ⟨⟨_,rfl⟩,i7 b (.inr ns[i]) (.ref p),?_,A9,?_,⟨?_,?_,?_⟩,?_,?_⟩⟩
  .exact(l.trans (CW.new r)).upd A
  .have:=Q7 b (Sum.inr ns[i]:IL) (.ref p);lia
  all_goals rw[C7 u]
  .intro n c;rw[Cg,X8];by_cases e:n=ns[i]
   .rw[AY e,AY e]
   .rw[AS e,AS e];rcases AH.mp c with z | z
    .exact t.val n z
    .exact absurd (AC.mp z) e
  .intro n c m B;rw[X8,X8];have d:∀k∈ns.take i ++ [ns[i]],k≠ns[i]->k∈ns.take i:=λk G e=>(AH.mp G).elim id λz=>absurd (AC.mp z) e;by_cases e:n=ns[i]
   .by_cases j:m=ns[i]
    .exact λ_=>e.trans j.symm
    .rw[AY e,AS j];intro z;have:=o m (d m B j);rw[<-z,r]at this;cases this
   .by_cases j:m=ns[i]
    .rw[AS e,AY j];intro z;have:=o n (d n c e);rw[z,r]at this;cases this
    .rw[AS e,AS j];exact t.inj n (d n c e) m (d m B j)
  .intro n c;rw[X8];by_cases e:n=ns[i]
   .rw[AY e];exact l.free r
   .rw[AS e];rcases AH.mp c with z | z
    .exact t.fr n z
    .exact absurd (AC.mp z) e
  .intro n c;rw[X8];by_cases e:n=ns[i]
   .rw[AY e,B8 g.symm,A9]
   .rw[AS e];rcases AH.mp c with z | z
    .rw[B8 (y n z),B8 (B3 (o n z) r)];exact o n z
    .exact absurd (AC.mp z) e
  .intro n c;rw[X8];by_cases e:n=ns[i]
   .rw[AY e];exact g.symm
   .rw[AS e];rcases AH.mp c with z | z
    .exact y n z
    .exact absurd (AC.mp z) e
 .rintro σ f ⟨_,b,l,w,C,t,o,y⟩;rw[AA]at *;rw[BM]at *;exact q σ b f l w t o y
def C0(qs:A0 IU)(n:Str):A0 Str:=(qs.filter λq=>decide (q.2.2=n)).map λq=>q.2.1
def S4(qs:A0 IU)(n:Str):A0 Str:=(qs.filter λq=>decide (q.2.1=n)).map λq=>q.2.2
def W0(qs:A0 IU)(q:IU)(n:Str):C0 (qs ++ [q]) n=C0 qs n ++(if q.2.2=n then [q.2.1]else []):=by
 unfold C0;rw[EY,AF];by_cases e:q.2.2=n
 .rw[AY e,EF,AY (AJ e)];rfl
 .rw[AS e,EF,AS (by simp[e])];rfl
def Ev(qs:A0 IU)(q:IU)(n:Str):S4 (qs ++ [q]) n=S4 qs n ++(if q.2.1=n then [q.2.2]else []):=by
 unfold S4;rw[EY,AF];by_cases e:q.2.1=n
 .rw[AY e,EF,AY (AJ e)];rfl
 .rw[AS e,EF,AS (by simp[e])];rfl
def wf(a b c d:A2):A0 (Str×V):=[("names",.ref a),("strikes",.ref b),("strikers_by_name",.ref c),("struck_by_name",.ref d)]
structure VJ(ns:A0 Str)(qs:A0 IU):Prop where
 nd:ns.Nodup
 len:ns.length<=100
 srt:ns.Pairwise QL
 mem:∀q∈qs,q.2.1∈ns/\q.2.2∈ns
 ndq:(qs.map λq=>q.2).Nodup
 lenq:qs.length<=300
 srq:qs.Pairwise US
structure KQ(C:A2)(H:Hp)(x:A2)(ns:A0 Str)(qs:A0 IU):Prop where
 ok:VJ ns qs
 ex:∃dx a b c d kc kd,H x=some (.ins C dx (wf a b c d))/\H a=some (.lst (ns.map V.str))/\H b=some (.lst (P2 qs))/\(∀q∈qs,I9 H q)/\H c=some (.dK kc)/\H d=some (.dK kd) /\
  (∀n∈ns,∃l,U1 kc (.inr n)=some (.ref l)/\H l=some (.lst ((C0 qs n).map V.str)))/\∀n∈ns,∃l,U1 kd (.inr n)=some (.ref l)/\H l=some (.lst ((S4 qs n).map V.str))
section
variable{P:Cv}{w:HS}{K:PySem.W.Frag}{mg:Str->A6 A1}{base:HX}
theorem KG:HW ["self", "names", "strikes", "one", "other"] ["self", "names", "strikes"] (B6 MM):=KA
def Jf(K:PySem.W.Frag)(C:A2):Sp:=λg H Q _=>∃(x h n:A2) (b:A0 Str) (a:A2) (c:A0 IU),g = [.ref x,.ref n,.ref a]/\H x=some (.ins C h [])/\H n=some (.lst (b.map V.str))/\Q1 b /\
 H a=some (.lst (P2 c))/\(∀q∈c,I9 H q)/\OC b c/\∀d e f,d.Perm b->d.Pairwise QL->e.Perm c->e.Pairwise US->Sm [x] H f->KQ C f x d e->Q .non f
theorem Kl(T:Tx K mg):II P w K mg base JG 3 T.bR T.bM ["self", "names", "strikes"] (Jf K T.ab):=by
 refine T.bS.o1 KG λcdv A outer s H vs Q E hr h=>?_
 .obtain⟨x,g,n,ss,a,ps,rfl,hx,hS,hN,hP,hI,hO,k⟩:=h;have hu:=U0 hr;refine⟨_,(B2 (G9 (C8 T.aR (Co T) (Rm hr) (A8 (pv 1) B0)))
   (B2 (G9 (C8 T.aB (Ah T) (Rm hr) (A8 (pv 1) (A8 (pv 2) B0))))
   (B2 (TZ K (pv 0) (G0 (O7 K) T.ag J0 (A8 (pv 1) B0)))
   (B2 (TZ K (pv 0) (G0 (Ml K) T.ag J0 (A8 (pv 2) B0)))
   (B2 (TZ K (pv 0) (Vv (N':=["name"]) (cap:=[none]) (cl:=[]) (E9 trivial trivial) rfl (JX K (PQ K (pv 0))) (λ_ _ _ _=>by exact⟨(JQ 0),D8,(pv 0),(F7 B0)⟩)))
   (B2 (TZ K (pv 0) (Vv (N':=["name"]) (cap:=[none]) (cl:=[]) (E9 trivial trivial) rfl (JX K (PQ K (pv 0))) (λ_ _ _ _=>by exact⟨(JQ 0),D8,(pv 0),(F7 B0)⟩)))
   (B7 (P0 PassesOwn.never rfl (JX K (PQ K (pv 0))) (Q_ K (n:=2) (C6 (E4 (i:=3) KG.nd rfl (.inl rfl)) (C6 (E4 (i:=4) KG.nd rfl (.inl rfl)) J9)))
   (B2 (G9 (Ln K PySem.F.plainAttrs_list PySem.F.slot_list_append PySem.F.type_list_append M0 (X1 hu (PQ K (pv 0)) (pv 4) (λ_ _=>rfl)) (A8 (pv 3) B0)))
   (B7 (G9 (Ln K PySem.F.plainAttrs_list PySem.F.slot_list_append PySem.F.type_list_append M0 (X1 hu (PQ K (pv 0)) (pv 3) (λ_ _=>rfl)) (A8 (pv 4) B0))))))))))))),?_⟩
  obtain⟨hN1,hN2,hN3⟩:=id hN;obtain⟨hO1,hO2,hO3⟩:=id hO;refine B5 λZ1 hZ1=>?_;refine A7 rfl ⟨n,ss,rfl,HY.of hS,hN,λH1 s1=>?_⟩;refine hZ1 _ _ (B5 λZ2 hZ2=>?_);refine A7 rfl (A7 rfl ⟨n,ss,a,ps,rfl,HY.of (s1 _ _ hS),HY.of (s1 _ _ hP),K9 s1 hI,hO,λH2 s2=>?_⟩);refine hZ2 _ _ (B5 λZ3 hZ3=>?_);have s12:=s1.trans s2;refine A7 rfl ⟨n,ss,rfl,HY.of (s12 _ _ hS),λj p hl1 p1 w1=>?_⟩;have M:x≠j:=B3 (s12 _ _ hx) hl1;refine A7 rfl ⟨x,T.ab,g,[],rfl,by rw[B8 M];exact s12 _ _ hx,T.am,T.aC,by decide,?_⟩;have hxa:a≠x:=J8 hP hx (by intro z;cases z);have k3:Sm [x] H (HU (HU H2 j (.lst (p.map V.str))) x (.ins T.ab g (P3 "names" (.ref j) []))):=(Sm.new s12.sm hl1).upd (by simp);have e3:(HU (HU H2 j (.lst (p.map V.str))) x (.ins T.ab g (P3 "names" (.ref j) []))) j=some (.lst (p.map V.str)):=by rw[B8 M.symm,A9]
  generalize hH3:HU (HU H2 j (.lst (p.map V.str))) x (.ins T.ab g (P3 "names" (.ref j) []))=H3 at k3 e3⊢;refine hZ3 _ _ (B5 λZ4 hZ4=>?_);have x3:H3 x=some (.ins T.ab g [("names",.ref j)]):=by rw[<-hH3,A9];rfl
  have r:∀{b:A2},b≠x->b∉[x]:=λh z=>h (AC.mp z);have U:∀q∈ps,I9 H3 q:=λq D=>k3 _ _ (hI q D) (r (J8 (hI q D) hx (by intro z;cases z)));refine A7 rfl ⟨a,ps,rfl,HY.of (k3 _ _ hP (r hxa)),U,λt y hl2 p2 w2=>?_⟩;have N:x≠t:=B3 x3 hl2;refine A7 rfl ⟨x,T.ab,g,[("names",.ref j)],rfl,by rw[B8 N];exact x3,T.am,T.bs,by simp,?_⟩;have k4:Sm [x] H3 (HU (HU H3 t (.lst (P2 y))) x (.ins T.ab g (P3 "strikes" (.ref t) [("names",.ref j)]))):=(Sm.new (Sm.refl _ _) hl2).upd (by simp);have e4:(HU (HU H3 t (.lst (P2 y))) x (.ins T.ab g (P3 "strikes" (.ref t) [("names",.ref j)]))) t=some (.lst (P2 y)):=by rw[B8 N.symm,A9]
  have R:(HU (HU H3 t (.lst (P2 y))) x (.ins T.ab g (P3 "strikes" (.ref t) [("names",.ref j)]))) x=some (.ins T.ab g [("names",.ref j),("strikes",.ref t)]):=by rw[A9];rfl
  refine hZ4 _ _ ?_;show UV _ _ _ _ (HU (HU H3 t (.lst (P2 y))) x (.ins T.ab g (P3 "strikes" (.ref t) [("names",.ref j)])));generalize HU (HU H3 t (.lst (P2 y))) x (.ins T.ab g (P3 "strikes" (.ref t) [("names",.ref j)]))=H4 at k4 e4 R⊢;have f4:H4 j=some (.lst (p.map V.str)):=k4 _ _ e3 (r M.symm);have u:∀q∈y,I9 H4 q:=λq D=>k4 _ _ (U q (p2.mem_iff.mp D)) (r (J8 (U q (p2.mem_iff.mp D)) x3 (by intro z;cases z)));have ndn:p.Nodup:=p1.nodup_iff.mpr hN2;have lnn:p.length<=1000:=by rw[p1.length_eq];lia
  refine B5 λZ5 hZ5=>?_;refine A7 rfl ⟨x,T.ab,g,_,A7 rfl ⟨R,T.am,T.aC,rfl,j,rfl,⟨_,HY.of f4⟩,λc hc=>Xn (K:=K) (KI (HY.of f4)) ⟨_,rfl⟩ ndn lnn hc λ_ I H5 s5 e5 D5 c5 n5=>?_⟩⟩;have x5:=s5 _ _ R;refine A7 rfl ⟨x,T.ab,g,A7 rfl ⟨x5,T.am,T.av,by simp,?_⟩⟩;have k6:Sm [x] H5 (HU H5 x (.ins T.ab g (P3 "strikers_by_name" (.ref c) [("names",.ref j),("strikes",.ref t)]))):=(Sm.refl _ _).upd (by simp);have x6:(HU H5 x (.ins T.ab g (P3 "strikers_by_name" (.ref c) [("names",.ref j),("strikes",.ref t)]))) x=some (.ins T.ab g [("names",.ref j),("strikes",.ref t),("strikers_by_name",.ref c)]):=by rw[A9];rfl
  generalize HU H5 x (.ins T.ab g (P3 "strikers_by_name" (.ref c) [("names",.ref j),("strikes",.ref t)]))=H6 at k6 x6⊢;refine hZ5 _ _ (B5 λZ6 hZ6=>?_);have W:∀{b:A2} {o:HO},H4 b=some o->b≠x->H6 b=some o:=λe B=>k6 _ _ (s5 _ _ e) (r B);have f6:=W f4 M.symm;have g6:=W e4 N.symm;have c6:H6 c=some (.dK I):=k6 _ _ e5 (r (B3 R hc).symm);have cl6:∀n∈p,H6 (la I n)=some (.lst []):=λn f=>k6 _ _ (c5 n f) (r (B3 R (D5.fr n f)).symm);refine A7 rfl ⟨x,T.ab,g,_,A7 rfl ⟨x6,T.am,T.aC,rfl,j,rfl,⟨_,HY.of f6⟩,λd hd=>Xn (K:=K) (KI (HY.of f6)) ⟨_,rfl⟩ ndn lnn hd λ_ L H7 s7 e7 D7 c7 n7=>?_⟩⟩;have x7:=s7 _ _ x6;refine A7 rfl ⟨x,T.ab,g,A7 rfl ⟨x7,T.am,T.a0,by simp,?_⟩⟩;have k8:Sm [x] H7 (HU H7 x (.ins T.ab g (P3 "struck_by_name" (.ref d) [("names",.ref j),("strikes",.ref t),("strikers_by_name",.ref c)]))):=(Sm.refl _ _).upd (by simp);have x8:(HU H7 x (.ins T.ab g (P3 "struck_by_name" (.ref d) [("names",.ref j),("strikes",.ref t),("strikers_by_name",.ref c)]))) x=some (.ins T.ab g (wf j t c d)):=by rw[A9];rfl
  generalize HU H7 x (.ins T.ab g (P3 "struck_by_name" (.ref d) [("names",.ref j),("strikes",.ref t),("strikers_by_name",.ref c)]))=H8 at k8 x8⊢;refine hZ6 _ _ ?_;have O:∀{b:A2} {o:HO},H6 b=some o->b≠x->H8 b=some o:=λe B=>k8 _ _ (s7 _ _ e) (r B);have f8:=O f6 M.symm;have g8:=O g6 N.symm;have c8:=O c6 (B3 R hc).symm;have d8:H8 d=some (.dK L):=k8 _ _ e7 (r (B3 x6 hd).symm);have cl8:∀n∈p,H8 (la I n)=some (.lst []):=λn f=>O (cl6 n f) (B3 R (D5.fr n f)).symm;have dl8:∀n∈p,H8 (la L n)=some (.lst []):=λn f=>k8 _ _ (c7 n f) (r (B3 x6 (D7.fr n f)).symm);have pin8:∀q∈y,I9 H8 q:=λq D=>O (W (u q D) (J8 (u q D) R (by intro z;cases z))) (J8 (u q D) R (by intro z;cases z));have dif:∀n∈p,∀m∈p,la I n≠la L m:=λn f m G=>B3 (cl6 n f) (D7.fr m G);have C:∀{b:A2} {o:HO},H4 b=some o->b≠x->(∀n∈p,b≠la I n)/\∀n∈p,b≠la L n:=λe B=>⟨λn f=>B3 e (D5.fr n f),λn f=>B3 (W e B) (D7.fr n f)⟩;have kall:Sm [x] H H8:=λb o e B=>by
   have hb':b≠x:=λz=>B (by simp[z]);exact O (W (k4 _ _ (k3 _ _ e B) B) hb') hb'
  have odif:∀{b:A2} {o:HO},H b=some o->b≠x->(∀n∈p,b≠la I n)/\∀n∈p,b≠la L n:=λe B=>C (k4 _ _ (k3 _ _ e (r B)) (r B)) B;have X:(∀n∈p,x≠la I n)/\∀n∈p,x≠la L n:=⟨λn f=>B3 R (D5.fr n f),λn f=>B3 x6 (D7.fr n f)⟩;have cdif:(∀n∈p,c≠la I n)/\∀n∈p,c≠la L n:=⟨λn f=>(n5 n f).symm,λn f=>B3 c6 (D7.fr n f)⟩;have Y:(∀n∈p,d≠la I n)/\∀n∈p,d≠la L n:=⟨λn f=>(B3 (cl6 n f) hd).symm,λn f=>(n7 n f).symm⟩;refine⟨_,rfl,x,T.ab,g,_,_,rfl,x8,T.am,T.bs,rfl,t,rfl,⟨_,HY.of g8⟩,V0 (KI (HY.of g8)) (λi σ S=>(∃v3 v4,σ = [some (.ref x),some (.ref n),some (.ref a),v3,v4]) /\
   (∀b o,H8 b=some o->((∀n∈p,b≠la I n)/\∀n∈p,b≠la L n)->S b=some o)/\(∀n∈p,S (la I n)=some (.lst ((C0 (y.take i) n).map V.str)))/\∀n∈p,S (la L n)=some (.lst ((S4 (y.take i) n).map V.str)))
   ⟨⟨_,_,rfl⟩,λb o e _=>e,cl8,dl8⟩ ?_ ?_ ?_⟩
  .rintro i σ S _ ⟨_,J,_⟩ o e;exact J _ _ e (C e4 N.symm)
  .rintro i σ S v hv ⟨⟨v3,v4,rfl⟩,J,h2,h3⟩ D1 hD1 _;unfold P2 at hv;rw[AG]at hv;cases D:y[i]? with
   | none=>rw[D]at hv;cases hv
   | some q =>
    rw[D]at hv;cases hv;have G:q∈y:=AM D;have hq9:I9 S q:=J _ _ (pin8 q G) (C (u q G) (J8 (u q G) R (by intro z;cases z)));obtain⟨m1,Z⟩:=hO1 q (p2.mem_iff.mp G);have m1:q.2.1∈p:=p1.mem_iff.mpr m1;have Z:q.2.2∈p:=p1.mem_iff.mpr Z;have hlen:∀l:A0 IU,l.length<=300->∀n,(C0 l n).length<=300/\(S4 l n).length<=300:=λl hl n=>by
     unfold C0 S4;rw[AA,AA];exact⟨Nat.le_trans (BO ..) hl,Nat.le_trans (BO ..) hl⟩
    have hl300:(y.take i).length<=300:=by
     rw[AO];have:=p2.length_eq;lia
    have x9:S x=some (.ins T.ab g (wf j t c d)):=J _ _ x8 X;refine⟨q.1,A7 rfl ⟨JC.of hq9,rfl,_,A7 rfl (C1 rfl rfl ?_)⟩⟩;refine A7 rfl ⟨x,T.ab,g,_,A7 rfl ⟨x9,T.am,T.av,rfl,A7 rfl ⟨c,.ref (la I q.2.2),rfl,by rw[<-D5.val _ Z];exact KD.k (k:=Sum.inr q.2.2) (J _ _ c8 cdif),.inl ⟨rfl,_,HY.of (h2 _ Z)⟩,A7 rfl ⟨_,C1 rfl rfl ⟨h2 _ Z,?_,?_⟩⟩⟩⟩⟩
    .rw[AA,sizeLine_eq];have:=(hlen _ hl300 q.2.2).1;lia
    have x10:(HU S (la I q.2.2) (.lst ((C0 (y.take i) q.2.2).map V.str ++ [.str q.2.1]))) x=some (.ins T.ab g (wf j t c d)):=by rw[B8 (X.1 _ Z)];exact x9
    have d10:(HU S (la I q.2.2) (.lst ((C0 (y.take i) q.2.2).map V.str ++ [.str q.2.1]))) d=some (.dK L):=by rw[B8 (Y.1 _ Z)];exact J _ _ d8 Y
    have l10:(HU S (la I q.2.2) (.lst ((C0 (y.take i) q.2.2).map V.str ++ [.str q.2.1]))) (la L q.2.1)=some (.lst ((S4 (y.take i) q.2.1).map V.str)):=by rw[B8 (dif _ Z _ m1).symm];exact h3 _ m1
    refine A7 rfl ⟨x,T.ab,g,_,A7 rfl ⟨x10,T.am,T.a0,rfl,A7 rfl ⟨d,.ref (la L q.2.1),rfl,by rw[<-D7.val _ m1];exact KD.k (k:=Sum.inr q.2.1) d10,.inl ⟨rfl,_,HY.of l10⟩,A7 rfl ⟨_,C1 rfl rfl ⟨l10,?_,?_⟩⟩⟩⟩⟩
    .rw[AA,sizeLine_eq];have:=(hlen _ hl300 q.2.1).2;lia
    refine hD1 _ _ ⟨⟨_,_,rfl⟩,λb o e B=>?_,λm G=>?_,λm G=>?_⟩
    .rw[B8 (B.2 _ m1),B8 (B.1 _ Z)];exact J b o e B
    .rw[B8 (dif m G _ m1),C7 D,W0];by_cases e:q.2.2=m
     .rw[<-e,A9,AY rfl,AF];rfl
     .rw[AS e,CB,B8 (λz=>e (D5.inj _ G _ Z z).symm)];exact h2 m G
    .rw[C7 D,Ev];by_cases e:q.2.1=m
     .rw[<-e,A9,AY rfl,AF];rfl
     .rw[AS e,CB,B8 (λz=>e (D7.inj _ G _ m1 z).symm),B8 (dif _ Z _ G).symm];exact h3 m G
  .rintro σ S ⟨_,J,h2,h3⟩;have hlq:(P2 y).length=y.length:=by unfold P2;rw[AA]
   rw[hlq,BM]at h2 h3;refine k p y S p1 w1 p2 w2 (λb o e B=>?_) ⟨⟨ndn,by rw[p1.length_eq];exact hN3,w1,λq D=>⟨p1.mem_iff.mpr (hO1 q (p2.mem_iff.mp D)).1,p1.mem_iff.mpr (hO1 q (p2.mem_iff.mp D)).2⟩,(p2.map _).nodup_iff.mpr hO2,by rw[p2.length_eq];exact hO3,w2⟩,g,j,t,c,d,I,L,J _ _ x8 X,J _ _ f8 (C f4 M.symm),J _ _ g8 (C e4 N.symm),λq G=>J _ _ (pin8 q G) (C (u q G) (J8 (u q G) R (by intro z;cases z))),J _ _ c8 cdif,J _ _ d8 Y,λn f=>⟨_,D5.val n f,h2 n f⟩,λn f=>⟨_,D7.val n f,h3 n f⟩⟩;have hb':b≠x:=λz=>B (by simp[z]);exact J _ _ (kall b o e B) (odif e hb')
end
def KQ.same{C:A2}{H H':Hp}{x:A2}{ns:A0 Str}{qs:A0 IU}(h:KQ C H x ns qs)(s:CW H H'):KQ C H' x ns qs:=by
 obtain⟨g,i,a,b,c,d,j,k,m,o,p,q,r,t,u,w⟩:=h;exact⟨g,i,a,b,c,d,j,k,s _ _ m,s _ _ o,s _ _ p,K9 s q,s _ _ r,s _ _ t,λn f=>let⟨l,v,e⟩:=u n f;⟨l,v,s _ _ e⟩,λn f=>let⟨l,v,e⟩:=w n f;⟨l,v,s _ _ e⟩⟩
section
variable{P:Cv}{w:HS}{K:PySem.W.Frag}{mg:Str->A6 A1}{base:HX}
theorem Al:HW ["self"] ["self"] (B6 Lz):=KA
def Gq(C:A2):Sp:=λb H Q _=>∃(x:A2) (a:A0 Str) (c:A0 IU),b = [.ref x]/\KQ C H x a c/\∀l,H l=none->Q (.ref l) (HU H l (.lst (a.map V.str)))
theorem Am(T:Tx K mg):II P w K mg base JG 1 T.ar.f T.ar.fd ["self"] (Gq T.ab):=by
 refine T.ar.F.o1 Al λg A e s H m Q E n h=>?_
 .obtain⟨x,o,p,rfl,⟨q,i,a,b,c,d,r,t,j,l,u,v,y,z,B,C⟩,k⟩:=h;refine⟨_,(B7 (C3 (V4 (a7 K) T.aN X4 (A8 (PQ K (pv 0)) B0)))),?_⟩;exact⟨_,rfl,x,T.ab,i,_,_,rfl,j,T.am,T.aC,rfl,a,_,rfl,.inl (HY.of l),k⟩
theorem Aj:HW ["self", "name"] ["self", "name"] (B6 Le):=KA
def Gn(C:A2):Sp:=λb H Q _=>∃(x:A2) (n:Str) (a:A0 Str) (c:A0 IU),b = [.ref x,.str n]/\KQ C H x a c/\n∈a/\Q .non H
theorem Ad(T:Tx K mg):II P w K mg base JG 1 T.as.f T.as.fd ["self", "name"] (Gn T.ab):=by
 refine T.as.F.o1 Aj λg A e s H o Q E p h=>?_
 .obtain⟨x,n,q,r,rfl,⟨t,i,a,b,c,d,u,v,j,l,y,z,B,C,D,G⟩,m,k⟩:=h;refine⟨_,(B7 (K5 (C9 (S2 K) (pv 1) (PQ K (pv 0)) rfl) (B7 U7) E6)),?_⟩;refine A7 rfl (A7 rfl ⟨x,T.ab,i,_,A7 rfl ⟨j,T.am,T.aC,rfl,K8 (.inl (HY.of l)) ⟨_,rfl,?_⟩⟩⟩);rw[AJ m];exact X0 k
theorem Bv:HW ["self", "name"] ["self", "name"] (B6 MK):=KA
def Kb(C:A2):Sp:=λc H Q _=>∃(x:A2) (n:Str) (a:A0 Str) (b:A0 IU),c = [.ref x,.str n]/\KQ C H x a b/\n∈a/\∀l,H l=none->Q (.ref l) (HU H l (.lst ((C0 b n).map V.str)))
theorem X7(T:Tx K mg):II P w K mg base JG 2 T.ak.f T.ak.fd ["self", "name"] (Kb T.ab):=by
 refine T.ak.F.o1 Bv λr A g s H C Q E i h=>?_
 .obtain⟨x,n,t,u,rfl,j,o,k⟩:=h;have y:=U0 i;obtain⟨D,p,a,b,c,d,G,I,q,J,L,M,z,N,B,O⟩:=id j;refine⟨_,(B2 (G9 (Kq (pv 0) T.am T.as.m (Ad T) (Rm i) T.as.b .nil Hc (A8 (pv 1) B0)))
   (B7 (C3 (V4 (a7 K) T.aN X4 (A8 (X1 y (PQ K (pv 0)) (pv 1) (λ_ _=>rfl)) B0))))),?_⟩
  refine A7 rfl ⟨x,p,A7 rfl ⟨q,rfl,A7 rfl ⟨x,n,t,u,rfl,j,o,?_⟩⟩⟩;obtain⟨l,v,e⟩:=B n o;exact⟨_,rfl,x,T.ab,p,_,_,rfl,q,T.am,T.av,rfl,_,rfl,c,_,rfl,by rw[<-v];exact KD.k (k:=Sum.inr n) z,l,_,rfl,.inl (HY.of e),k⟩
end
def Bw{α:Type}{J:It}{b:A0 α}{r:α->V}(f:α->V){a D:A2}{H:Hp}(as:NE J (b.map r) a H){j:TT}{k:TE}{c:St}{l:A6 V}{Q:St->Hp->Prop}(p:α->Bool)(z:b.length<=5000)(m:H D=none)
  (A:∀y∈b,∀G,CW H G->∀M:Bool->Hp->Prop,(∀e,CW G e->M (p y) e)->j (some (r y)::c) G M) (B:∀y∈b,∀G,CW H G->∀M:VK,(∀e,CW G e->M (f y) e)->k (some (r y)::c) G M)
  (q:∀σ G,CW H G->G D=some (.lst ((b.filter p).map f))->Q σ G):Aa (P9 0) j (X3 D k) J (l::c) (HU H D (.lst [])) Q:=by
 refine J6 as (λi σ G=>(∃v,σ=v::c)/\CW H G/\G D=some (.lst (((b.take i).filter p).map f))) ⟨⟨_,rfl⟩,CW.new m,A9⟩ (λi σ G _ h=>h.2.1.at a) ?_ ?_
 .rintro i σ G v N n ⟨⟨l,rfl⟩,d,g⟩ o;rw[AG]at n;obtain⟨y,s,rfl⟩:=AV.mp n;have t:=AM s;refine A y t G d _ λe u=>?_;have g:=u _ _ g;have d:=d.trans u;have w:(b.take (i+1)).filter p =(b.take i).filter p++if p y=true then [y]else []:=by
   rw[C7 s,EY,EF,List.filter_nil]
  have C:=BO p (b.take i);rw[AO]at C;refine g7 (λc=>B y t e d _ λE x=>⟨_,x _ _ g,by rw[AA,sizeLine_eq];lia,o _ _ ⟨⟨_,rfl⟩,(d.trans x).upd m,?_⟩⟩) (λc=>o _ _ ⟨⟨_,rfl⟩,d,?_⟩)
  .rw[A9,w,AY c,AF];rfl
  .rw[w,AS c,CB];exact g
 .rintro σ G ⟨_,d,g⟩;rw[AA,BM]at g;exact q σ G d g
def Uv{α:Type}{J:It}{d:A0 α}{r:α->V}(f:α->V){a D:A2}{H:Hp}(as:NE J (d.map r) a H){h:TT}{i:TE}{c:St}{k:A6 V}{Q:St->Hp->Prop}(p:α->Bool)(g:d.length<=5000)(l:H D=none)
  (m:∀y∈d,∀G,CW H G->∀M:Bool->Hp->Prop,(∀j,CW G j->M (p y) j)->h (some (r y)::c) G M) (n:∀y∈d,∀G,CW H G->∀M:VK,M (f y) G->i (some (r y)::c) G M)
  (q:∀σ G,CW H G->G D=some (.lst ((d.filter p).map f))->Q σ G):Aa (P9 0) h (X3 D i) J (k::c) (HU H D (.lst [])) Q :=
 Bw f as p g l m (λy t G s M u=>n y t G s M (u G λb o e=>e)) q
def tyB(b:Bool):A1:=.type (bif b then "list" else "tuple")
def zGc{K:PySem.W.Frag}:∀b,PySem.W.kitAny K (tyB b) (["list", "tuple"].map Value.type)=some true
 | true=>rfl
 | false=>rfl
def LT(b:Bool)(xs:A0 V):HO:=bif b then .lst xs else .tup xs
def zEu{K:PySem.W.Frag}{H:Hp}{l:A2}{xs:A0 V}:∀{b:Bool},H l=some (LT b xs)->MP K H (.ref l) (tyB b)
 | true,h=>.lst h
 | false,h=>.tup h
def zFj{H:Hp}{l:A2}{xs:A0 V}:∀{b:Bool},H l=some (LT b xs)->H l=some (.lst xs)\/H l=some (.tup xs)
 | true,h=>.inl h
 | false,h=>.inr h
def zEr(K:PySem.W.Frag):A0 V->Hp->VK->Prop:=λa H Q=>Zr K a H Q\/∃(x:V) (p:A2) (c:A0 String) (b:Bool) (T:String),a = [x,.ref p]/\H p=some (.tup (c.map V.ty))/\((x = .non/\T = "NoneType")\/∃i,x = .int i/\T = "int")/\PySem.W.kitAny K (.type T) (c.map Value.type)=some b/\Q (.bl b) H
def Vc{X:Cx}(K:PySem.W.Frag)(j:X.K=K:=by rfl):J2 X (.builtin "isinstance") (zEr K):=by
 subst j;intro a s σ H k l Q I r h;rcases h with h | ⟨x,p,D,b,T,rfl,m,o,d,q⟩
 .exact Va X.K rfl a s σ H k l Q I r h
 obtain⟨u,v,rfl,e,c⟩:=r.two;cases c;obtain⟨w,c,⟨⟨E,F,y,A⟩,f,B,n,g⟩,G⟩:=I.tuple (JC.of m);rw[Jq c]at g;cases B;cases g;rcases o with⟨rfl,rfl⟩ | ⟨i,rfl,rfl⟩
 .cases e;exact PySem.W.kia_tup PySem.W.kitx_none I.kIn True.intro f d (λz=>nomatch z) λC=>⟨.bl b,H,I.tok _,rfl,q⟩
 .obtain⟨t,rfl⟩:=(show ∃t,u=Value.int i t from e);exact PySem.W.kia_tup PySem.W.kitx_int I.kIn True.intro f d (λz=>nomatch z) λC=>⟨.bl b,H,I.tok _,rfl,q⟩
abbrev RW:Type:=A2×Str×A0 V
def Zc(H:Hp)(q:RW):Prop:=H q.1=some (.tup (.str q.2.1::q.2.2))
structure IQ(H:Hp)(l:A2)(rs:A0 RW):Prop where
 at_:H l=some (.lst (rs.map λq=>V.ref q.1))
 row:∀q∈rs,Zc H q
def IQ.same{H H':Hp}{l:A2}{a:A0 RW}(h:IQ H l a)(s:CW H H'):IQ H' l a:=⟨s _ _ h.at_,λq b=>s _ _ (h.row q b)⟩
def y8(a:A0 RW):A0 Str:=a.map λq=>q.2.1
section
variable{P:Cv}{w:HS}{K:PySem.W.Frag}{mg:Str->A6 A1}{base:HX}
theorem Fz:HW ["thing"] ["thing"] (B6 OQ):=KA
def Rx:Sp:=λa H Q _=>∃i:Int,a = [.int i]/\Q (.bl true) H
theorem Ia(T:Tx K mg):II P w K mg base JG 1 T.a1.f T.a1.fd ["thing"] Rx:=by
 refine T.a1.F.o1 Fz λb A a s H c Q E d h=>?_
 .obtain⟨i,rfl,q⟩:=h;refine⟨_,(B7 (C3 (R8 (G0 (p9 K) T.ah F4 (A8 (pv 0) (A8 (Em T.bL Ts) B0))) (V3 (zDz (G0 (p9 K) T.ah F4 (A8 (pv 0) (A8 (Em T.ci Yi) B0)))))))),?_⟩;refine A7 rfl ⟨.int i, "int",_,true,rfl,.int i,rfl,A7 rfl (g9 ?_)⟩;exact A7 rfl ⟨.int i, "bool",_,false,rfl,.int i,rfl,A7 rfl q⟩
theorem Ht:HW ["thing"] ["thing"] (B6 OS):=KA
def Sf:Sp:=λd H Q _=>∃(a:A2) (b:Bool) (e:A0 V),d = [.ref a]/\H a=some (LT b e)/\∀c,CW H c->Q (.bl true) c
theorem y9(T:Tx K mg):II P w K mg base JG 1 T.aO.f T.aO.fd ["thing"] Sf:=by
 refine T.aO.F.o1 Ht λg A c s H k Q E l h=>?_
 .obtain⟨a,b,m,rfl,i,q⟩:=h;refine⟨_,(B7 (C3 (G0 (Vc K) T.ah F4 (A8 (pv 0) (A8 (J7 (A8 (Em T.aN X4) (A8 (Em T.bx Dv) B0))) B0))))),?_⟩;refine A7 rfl ⟨by show 2<=sizeLine;decide,λt j=>?_⟩;have d:=CW.new (o:=.tup [.ty "list",.ty "tuple"]) j;have e:=d _ _ i;exact .inl ⟨.ref a,t,["list", "tuple"],_,true,rfl,A9,zEu e,.inr ⟨a,_,rfl,zFj e⟩,zGc b,q _ d⟩
theorem Ib:HW ["thing", "many"] ["thing", "many"] (B6 OP):=KA
def Qy:Sp:=λb H Q _=>∃(p:A2) (a:A0 V) (n:Int),b = [.ref p,.int n]/\H p=some (.tup a)/\(a.length:Int)=n/\Q (.bl true) H
theorem S5(T:Tx K mg):II P w K mg base JG 1 T.au.f T.au.fd ["thing", "many"] Qy:=by
 refine T.au.F.o1 Ib λd A b s H g Q E i h=>?_
 .obtain⟨p,j,n,rfl,c,e,q⟩:=h;refine⟨_,(B7 (C3 (R8 (G0 (p9 K) T.ah F4 (A8 (pv 0) (A8 (Em T.bx Dv) B0))) (V3 (I0 i0 (G0 (U2 K) T.ap Q5 (A8 (pv 0) B0)) (pv 1) (F6 _)))))),?_⟩;refine A7 rfl ⟨.ref p, "tuple",_,true,rfl,.tup c,rfl,A7 rfl (g9 ?_)⟩;refine A7 rfl (C1 (a:=p) rfl (.inr (JC.of c)) (A7 rfl ⟨rfl,?_⟩));rw[e,AJ rfl];exact q
theorem Jr:HW ["rows"] ["rows"] (B6 PF):=KA
def Ca:Sp:=λc H Q _=>∃(l:A2) (a:A0 RW),c = [.ref l]/\IQ H l a/\a.length<=1000/\∀m b,CW H b->H m=none->b m=some (.lst ((y8 a).map V.str))->Q (.ref m) b
theorem E8(T:Tx K mg):II P w K mg base JG 1 T.af.f T.af.fd ["rows"] Ca:=by
 refine T.af.F.o1 Jr λm A c s H t Q E u h=>?_
 .obtain⟨l,v,rfl,d,n,q⟩:=h;refine⟨_,(B7 (C3 (J1 (N':=["row"]) (cap:=[none]) (cl:=[]) (E9 trivial trivial) rfl (JX K (pv 0)) (λ_ _ _ _=>by exact⟨(JQ 0),D8,(D6 (LM K) (pv 0) B4 (λ_ _=>rfl))⟩)))),?_⟩;refine A7 rfl ⟨l,rfl,⟨_,HY.of d.at_⟩,λD i=>?_⟩;refine Bw (r:=λq:RW=>V.ref q.1) (λq=>V.str q.2.1) (KI (HY.of d.at_)) (λ_=>true) (by lia) i (λy k G a M g=>g G λb o e=>e) (λy k G a M g=>?_) λσ' G a p=>?_
  .exact A7 rfl ⟨y.1,_,C1 rfl rfl ⟨JC.of (a _ _ (d.row y k)),B9 (j:=0) rfl,g G λb o e=>e⟩⟩
  .refine q D G a i ?_;rw[p,CV.mpr λ_ _=>rfl];unfold y8;rw[AN];rfl
theorem Ha:HW ["rows"] ["rows"] (B6 OT):=KA
theorem Hn(T:Tx K mg):II P w K mg base JG 2 T.a3.f T.a3.fd ["rows"] Ca:=by
 refine T.a3.F.o1 Ha λt A g s H B Q E u h=>?_
 .obtain⟨l,C,rfl,d,v,q⟩:=h;refine⟨_,(B7 (C3 (J1 (N':=["row"]) (cap:=[none]) (cl:=[]) (E9 trivial trivial) rfl (JX K (pv 0)) (λ_ _ _ _=>by exact⟨(JQ 0),(J5 (PW.pt (Ds (K1 (C8 T.aO (y9 T) (Rm u) (A8 (pv 0) B0))) (w9 (C9 zCi (G0 (U2 K) T.ap Q5 (A8 (pv 0) B0)) B4 (F6 _)))))),(D6 (LM K) (pv 0) B4 (λ_ _=>rfl))⟩)))),?_⟩;refine A7 rfl ⟨l,rfl,⟨_,HY.of d.at_⟩,λD m=>?_⟩;refine Bw (r:=λq:RW=>V.ref q.1) (λq=>V.str q.2.1) (KI (HY.of d.at_)) (λ_=>true) (by lia) m (λy i G c M k=>?_) (λy i G c M k=>?_) λσ' G c x=>?_
  .have n:=c _ _ (d.row y i);refine A7 rfl ⟨y.1,false,_,rfl,n,λz p=>⟨_,rfl,g9 ?_⟩⟩;refine A7 rfl (C1 (a:=y.1) rfl (.inr (JC.of (p _ _ n))) (C1 rfl rfl (A7 rfl ?_)));rw[AJ (by rw[BK];lia)];exact k z p
  .exact A7 rfl ⟨y.1,_,C1 rfl rfl ⟨JC.of (c _ _ (d.row y i)),B9 (j:=0) rfl,k G λb o e=>e⟩⟩
  .refine q D G c m ?_;rw[x,CV.mpr λ_ _=>rfl];unfold y8;rw[AN];rfl
theorem Ke:HW ["taken", "thing"] ["taken", "thing"] (B6 PM):=KA
def Uq(K:PySem.W.Frag):Sp:=λc H Q _=>∃(l:A2) (a:A0 Str) (x:Str),c = [.ref l,.str x]/\HY K H l (a.map V.str)/\K3 x=true/\x∉a/\∀b,CW H b->Q (.bl true) b
theorem Z8(T:Tx K mg):II P w K mg base JG 2 T.aH.f T.aH.fd ["taken", "thing"] (Uq K):=by
 refine T.aH.F.o1 Ke λd A a s H k Q E e h=>?_
 .obtain⟨l,m,x,rfl,g,b,i,q⟩:=h;refine⟨_,(B7 (C3 (R8 (C8 T.a8 (Di T) (Rm e) (A8 (pv 1) B0)) (V3 (I0 (S2 K) (pv 1) (pv 0) rfl))))),?_⟩;have n:=Gh b;refine A7 rfl ⟨x,rfl,by lia,λj c=>⟨_,rfl,?_⟩⟩;rw[b];refine g9 (A7 rfl (A7 rfl (K8 (.inl ((c.at l).seqL g)) ?_)));rw[BB i];exact q j c
theorem No:HW ["thing"] ["thing"] (B6 QH):=KA
def zAq:Sp:=λa H Q _=>∃i:Int,a = [.int i]/\0<=i/\i<=9/\Q (.bl true) H
theorem Ni(T:Tx K mg):II P w K mg base JG 2 T.bl.f T.bl.fd ["thing"] zAq:=by
 refine T.bl.F.o1 No λb A a s H g Q E c h=>?_
 .obtain⟨i,rfl,d,e,q⟩:=h;refine⟨_,(B7 (C3 (R8 (C8 T.a1 (Ia T) (Rm c) (A8 (pv 0) B0)) (V3 (Vo Ur Ur B4 (pv 0) (Zq T.bP)))))),?_⟩;refine A7 rfl ⟨i,rfl,_,rfl,g9 ?_⟩;refine A7 rfl (C1 rfl rfl (A7 rfl ?_));rw[AJ d];refine g9 (C1 rfl rfl ?_);show Q (.bl (decide (i<=9))) H;rw[AJ e];exact q
theorem Bu:HW ["names", "thing"] ["names", "thing"] (B6 MJ):=KA
def Kh(K:PySem.W.Frag):Sp:=λd H Q _=>∃(l m:A2) (b a:A0 Str),d = [.ref l,.ref m]/\H l=some (.lst (b.map V.str))/\H m=some (.lst (a.map V.str))/\(∀x∈a,x∈b)/\a.Nodup/\a.length<=100/\∀c,CW H c->Q (.bl true) c
theorem Bh(T:Tx K mg):II P w K mg base JG 2 T.aI.f T.aI.fd ["names", "thing"] (Kh K):=by
 refine T.aI.F.o1 Bu λv A g s H W Q E B h=>?_
 .obtain⟨l,m,i,c,rfl,C,r,sub,I,J,q⟩:=h;refine⟨_,(B7 (C3 (R8 (C8 T.aO (y9 T) (Rm B) (A8 (pv 1) B0)) (R8 (G0 (Hj K) T.bp Hi (A8 (J1 (N':=["one", "names"]) (cap:=[none,some 0]) (cl:=[("names",_)]) (E9 ⟨⟨rfl,rfl,rfl,rfl⟩,trivial⟩ ⟨rfl,trivial⟩) rfl (JX K (pv 1)) (λ_ _ _ _=>by exact⟨(JQ 0),D8,(I0 (U9 K) (pv 0) (pv 1) rfl)⟩)) B0)) (V3 (I0 i0 (G0 (Yc w) T.ap Q5 (A8 (V4 (Kv K w) T.bi Cu (A8 (pv 1) B0)) B0)) (G0 (U2 K) T.ap Q5 (A8 (pv 1) B0)) (F6 _))))))),?_⟩;refine A7 rfl ⟨m,true,_,rfl,r,λX j=>⟨_,rfl,g9 ?_⟩⟩;have L:=j _ _ C;have k:=j _ _ r;refine A7 rfl ⟨m,rfl,⟨_,HY.of k⟩,λD N=>?_⟩;refine Bw (λx=>V.bl (decide (x∈i))) (KI (HY.of k)) (λ_=>true) (by lia) N (λy O G d M n=>n G λb o e=>e) (λy O G d M n=>A7 rfl (A7 rfl (J3 (.inl (HY.of (d _ _ L))) (n G λb o e=>e)))) λσ' G d p=>?_;have p:G D=some (.lst ((c.map λx=>decide (x∈i)).map V.bl)):=by
   rw[p,CV.mpr λ_ _=>rfl,AN];rfl
  have R:((c.map λx=>decide (x∈i)).all id)=true:=by
   rw[List.all_map,DN];exact λx S=>AJ (sub x S)
  refine⟨D,_,rfl,HY.of p,_,rfl,?_⟩;rw[R];refine g9 ?_;have t:=d _ _ k;refine A7 rfl ⟨m,c,rfl,.inl (HY.of t),I,by lia,λz U=>?_⟩;have u:=CW.new (o:=Y8 w z c) U;refine⟨z,c,rfl,A9,A7 rfl (C1 (a:=m) rfl (.inl (HY.of (u _ _ t))) ⟨rfl,?_⟩)⟩;rw[AA,AJ rfl];exact q _ ((j.trans d).trans u)
theorem Cl:HW ["ahead", "row"] ["ahead", "row"] (B6 NA):=KA
def Kw:Sp:=λc H Q _=>∃(l p:A2) (a:A0 RW) (n:Str) (r:Int),c = [.ref l,.ref p]/\IQ H l a/\a.length<=1000/\H p=some (.tup [.str n,.int r])/\K3 n=true/\n∉y8 a/\0<=r/\r<=9/\∀b,CW H b->Q (.bl true) b
theorem Ct(T:Tx K mg):II P w K mg base JG 3 T.an.f T.an.fd ["ahead", "row"] Kw:=by
 refine T.an.F.o1 Cl λi A b s H B Q E a h=>?_
 .obtain⟨l,p,k,n,r,rfl,o,c,d,t,u,v,x,q⟩:=h;refine⟨_,(B7 (C3 (R8 (C8 T.au (S5 T) (Rm a) (A8 (pv 1) (A8 B4 B0))) (R8 (C8 T.aH (Z8 T) (Rm a) (A8 (C8 T.af (E8 T) (Rm a) (A8 (pv 0) B0)) (A8 (D6 (LM K) (pv 1) B4 (λ_ _=>rfl)) B0))) (V3 (C8 T.bl (Ni T) (Rm a) (A8 (D6 (LM K) (pv 1) B4 (λ_ _=>rfl)) B0))))))),?_⟩;refine A7 rfl ⟨p,_,_,rfl,d,rfl,_,rfl,g9 ?_⟩;refine A7 rfl ⟨l,k,rfl,o,c,λm C e D y=>?_⟩;refine A7 rfl ⟨p,_,C1 rfl rfl ⟨JC.of (e _ _ d),B9 (j:=0) rfl,?_⟩⟩;refine⟨m,_,n,rfl,HY.of y,t,u,λz g=>⟨_,rfl,g9 ?_⟩⟩;refine A7 rfl ⟨p,_,C1 rfl rfl ⟨JC.of (g _ _ (e _ _ d)),B9 (j:=1) rfl,?_⟩⟩;exact⟨r,rfl,v,x,q z (e.trans g)⟩
theorem Bj:HW ["people", "ahead", "row"] ["people", "ahead", "row"] (B6 MG):=KA
def Mi:Sp:=λg H Q _=>∃(a l p m:A2) (c d:A0 RW) (n e:Str) (b:A0 Str),g = [.ref a,.ref l,.ref p]/\IQ H a c/\c.length<=1000/\IQ H l d/\d.length<=1000/\H p=some (.tup [.str n,.str e,.ref m])/\H m=some (.lst (b.map V.str))/\K3 n=true/\n∉y8 d/\(e = "fact"\/e = "claim")/\(∀x∈b,x∈y8 c)/\b.Nodup/\b.length<=100/\∀f,CW H f->Q (.bl true) f
theorem Ax(T:Tx K mg):II P w K mg base JG 3 T.aF.f T.aF.fd ["people", "ahead", "row"] Mi:=by
 refine T.aF.F.o1 Bj λr A g s H W Q E b h=>?_
 .obtain⟨a,l,p,m,t,u,n,v,ss,rfl,x,y,z,B,e,C,D,G,I,sub,J,L,q⟩:=h;refine⟨_,(B2 (K5 (PW.pt (Az (Q8 (K1 (C8 T.au (S5 T) (Rm b) (A8 (pv 2) (A8 B4 B0))))) (Y7 (Q8 (K1 (C8 T.aH (Z8 T) (Rm b) (A8 (C8 T.af (E8 T) (Rm b) (A8 (pv 1) B0)) (A8 (D6 (LM K) (pv 2) B4 (λ_ _=>rfl)) B0)))))))) (B7 (C3 Cn)) E6)
   (B7 (C3 (R8 (I0 (U9 K) (D6 (LM K) (pv 2) B4 (λ_ _=>rfl)) (Be T.cg) rfl) (V3 (C8 T.aI (Bh T) (Rm b) (A8 (C8 T.af (E8 T) (Rm b) (A8 (pv 0) B0)) (A8 (D6 (LM K) (pv 2) B4 (λ_ _=>rfl)) B0)))))))),?_⟩
  refine A7 rfl ⟨p,_,_,rfl,e,rfl,_,rfl,X0 ?_⟩;refine A7 rfl ⟨l,u,rfl,z,B,λM X o N O=>?_⟩;refine A7 rfl ⟨p,_,C1 rfl rfl ⟨JC.of (o _ _ e),B9 (j:=0) rfl,?_⟩⟩;refine⟨M,_,n,rfl,HY.of O,D,G,λY c=>⟨_,rfl,X0 ?_⟩⟩;have c:=o.trans c;refine A7 rfl ⟨p,_,C1 rfl rfl ⟨JC.of (c _ _ e),B9 (j:=1) rfl,?_⟩⟩;have i:decide (v∈(["fact", "claim"]:A0 Str))=true:=AJ (by rcases I with rfl | rfl<;>decide);dsimp only[tC];refine J3 (ss:=["fact", "claim"]) (.inr T.ch.sq) ?_;rw[i];refine⟨_,rfl,g9 ?_⟩;refine A7 rfl ⟨a,t,rfl,x.same c,y,λR Z d S k=>?_⟩;have d:=c.trans d;refine A7 rfl ⟨p,_,C1 rfl rfl ⟨JC.of (d _ _ e),B9 (j:=2) rfl,?_⟩⟩;exact⟨R,m,_,ss,rfl,k,d _ _ C,sub,J,L,λU V=>q U (d.trans V)⟩
theorem LW:HW ["sayings", "goals", "ahead", "row", "said"] ["sayings", "goals", "ahead", "row"] (B6 MF):=KA
def Kz:Sp:=λf H Q _=>∃(a g l p:A2) (b c:A0 RW) (d:A0 Str) (n o t:Str),f = [.ref a,.ref g,.ref l,.ref p]/\IQ H a b/\b.length<=1000/\H g=some (.lst (d.map V.str))/\IQ H l c/\c.length<=1000/\H p=some (.tup [.str n,.str o,.str t])/\K3 n=true/\n∉y8 b/\n∉y8 c/\o∈y8 b/\(t∈y8 b\/t∈d)/\∀e,CW H e->Q (.bl true) e
theorem Cb(T:Tx K mg):II P w K mg base JG 3 T.aG.f T.aG.fd ["sayings", "goals", "ahead", "row"] Kz:=by
 refine T.aG.F.o1 LW λO A v s H vs Q E r h=>?_
 .obtain⟨a,g,l,p,e,k,gs,n,o,t,rfl,R,S,U,W,X,m,Y,x,y,Z,ht,q⟩:=h;refine⟨_,(B2 (C2 (i:=4) LW.nd rfl (.inl rfl) (C8 T.af (E8 T) (Rm r) (A8 (pv 0) B0)))
   (B2 (K5 (PW.pt (Az (Q8 (K1 (C8 T.au (S5 T) (Rm r) (A8 (pv 3) (A8 B4 B0))))) (Y7 (Q8 (K1 (C8 T.aH (Z8 T) (Rm r) (A8 (F9 K4 (pv 4) (C8 T.af (E8 T) (Rm r) (A8 (pv 2) B0))) (A8 (D6 (LM K) (pv 3) B4 (λ_ _=>rfl)) B0)))))))) (B7 (C3 Cn)) E6)
   (B7 (C3 (R8 (I0 (U9 K) (D6 (LM K) (pv 3) B4 (λ_ _=>rfl)) (pv 4) rfl) (V3 (zEw (I0 (U9 K) (D6 (LM K) (pv 3) B4 (λ_ _=>rfl)) (pv 4) rfl) (V3 (I0 (U9 K) (D6 (LM K) (pv 3) B4 (λ_ _=>rfl)) (pv 1) rfl))))))))),?_⟩
  refine B5 λN1 B=>?_;refine A7 rfl ⟨a,e,rfl,R,S,λm1 H1 C hm1 b=>?_⟩;refine B _ _ (B5 λN2 D=>?_);refine A7 rfl ⟨p,_,_,rfl,C _ _ m,rfl,_,rfl,X0 ?_⟩;refine A7 rfl (A7 rfl ⟨l,k,rfl,W.same C,X,λm2 H2 u hm2 G=>?_⟩);have b:=u _ _ b;have u:=C.trans u;have I:(y8 e).length=e.length:=by unfold y8;rw[AA]
  have J:(y8 k).length=k.length:=by unfold y8;rw[AA]
  refine⟨m1,m2,_,_,rfl,rfl,b,G,by rw[AA,AA,I,J,sizeLine_eq];lia,λm3 L=>?_⟩;have M:=CW.new (o:=.lst ((y8 e).map V.str ++(y8 k).map V.str)) L;have N:=u.trans M;refine A7 rfl ⟨p,_,C1 rfl rfl ⟨JC.of (N _ _ m),B9 (j:=0) rfl,?_⟩⟩;refine⟨m3,y8 e++y8 k,n,rfl,HY.of (by rw[A9,AF]),Y,λz=>(AH.mp z).elim x y,λH4 d=>⟨_,rfl,X0 ?_⟩⟩;have b:=d _ _ (M _ _ b);have d:=N.trans d;refine D _ _ ?_;refine A7 rfl ⟨p,_,C1 rfl rfl ⟨JC.of (d _ _ m),B9 (j:=1) rfl,A7 rfl (J3 (.inl (HY.of b)) ?_)⟩⟩;rw[AJ Z];refine⟨_,rfl,g9 ?_⟩;refine A7 rfl ⟨p,_,C1 rfl rfl ⟨JC.of (d _ _ m),B9 (j:=2) rfl,A7 rfl (J3 (.inl (HY.of b)) ⟨_,rfl,g7 (λc=>q _ d) (λc=>?_)⟩)⟩⟩;refine A7 rfl ⟨p,_,C1 rfl rfl ⟨JC.of (d _ _ m),B9 (j:=2) rfl,A7 rfl (J3 (.inl (HY.of (d _ _ U))) ?_)⟩⟩;rw[AJ (ht.resolve_left λz=>c (AJ z))];exact q _ d
end
def pd(k:Str×Str):PyData:=.tuple [.str k.1,.str k.2]
def O8{x:Str}(h:K3 x=true):PySem.PyData.strOk x=true:=by
 unfold K3 at h;rw[CF]at h;unfold PySem.PyData.strOk;rw[<-Array.all_toList,DN];intro c a;have:=(DN.mp h.2) c a;unfold Za at this;rw[CF]at this;have:=BH this.2;exact AJ (by lia)
def Bx{K:PySem.W.Frag}{H:Hp}{t:A2}{k:Str×Str}(h:H t=some (.tup [.str k.1,.str k.2])):Rp K H (pd k) (.ref t):=by
 unfold pd;simp only[Rp,PY];exact⟨t,_,rfl,JC.of h,_,_,rfl,rfl,_,_,rfl,rfl,rfl⟩
def Ig{K:PySem.W.Frag}{H:Hp}:∀{ps:A0 IU},(∀q∈ps,I9 H q)->PY K H (ps.map λq=>pd q.2) (P2 ps)
 | [],_=>by simp[PY,P2]
 | q::r,h=>by
  show PY K H (pd q.2::r.map λq=>pd q.2) (V.ref q.1::P2 r);simp only[PY];exact⟨_,_,rfl,Bx (h q (AZ ..)),Ig λz a=>h z (AQ _ a)⟩
def Mm{K:PySem.W.Frag}{H:Hp}{l:A2}{ps:A0 IU}(a:H l=some (.lst (P2 ps)))(h:∀q∈ps,I9 H q):Rp K H (.list (ps.map λq=>pd q.2)) (.ref l):=by
 simp only[Rp];exact⟨l,_,rfl,HY.of a,Ig h⟩
def zBu(a b:Str×Str):PyData.eqv (pd a) (pd b)=decide (a=b):=by
 unfold pd;rw[PyData.eqv,PyData.eqvAll,PyData.eqvAll,PyData.eqvAll,PyData.eqv,PyData.eqv];by_cases c:a.1=b.1
 .by_cases d:a.2=b.2
  .rw[AJ (Prod.ext c d),c,d];simp
  .rw[BB λz=>d (congrArg Prod.snd z)];simp[d]
 .rw[BB λz=>c (congrArg Prod.fst z)];simp[c]
def Bd(k:Str×Str):∀ps:A0 IU,((ps.map λq=>pd q.2).any λz=>PyData.eqv z (pd k))=decide (k∈ps.map λq=>q.2)
 | []=>rfl
 | q::r=>by
  rw[BP,FX,Bd k r,zBu,BP];by_cases e:q.2=k
  .rw[AJ e,Bool.true_or,AJ (show k∈q.2::_ from by rw[<-e];exact AZ ..)]
  .rw[BB e,Bool.false_or];by_cases h:k∈r.map λq=>q.2
   .rw[AJ h,AJ (AQ _ h)]
   .rw[BB h,BB λz=>(A_.mp z).elim (λz=>e z.symm) h]
def Tj{k:Str×Str}(h1:PySem.PyData.strOk k.1=true)(h2:PySem.PyData.strOk k.2=true):(pd k).canLay0=true:=by
 unfold pd;simp[PyData.canLay0,PyData.canLayAll0,h1,h2]
def Jb:∀{ps:A0 IU},(∀q∈ps,PySem.PyData.strOk q.2.1=true/\PySem.PyData.strOk q.2.2=true)->PyData.canLayAll0 (ps.map λq=>pd q.2)=true
 | [],_=>rfl
 | q::r,h=>by
  rw[BP,PyData.canLayAll0,Tj (h q (AZ ..)).1 (h q (AZ ..)).2,Jb λz a=>h z (AQ _ a)];rfl
def Nr{K:PySem.W.Frag}{H:Hp}{t l:A2}{k:Str×Str}{ps:A0 IU}{Q:VK}(b:H t=some (.tup [.str k.1,.str k.2]))(c:H l=some (.lst (P2 ps)))(d:∀q∈ps,I9 H q)
  (a:PySem.PyData.strOk k.1=true/\PySem.PyData.strOk k.2=true) (e:∀q∈ps,PySem.PyData.strOk q.2.1=true/\PySem.PyData.strOk q.2.2=true) (q:Q (.bl (!decide (k∈ps.map λq=>q.2))) H):UP K true (.ref t) (.ref l) H Q :=
 ⟨pd k,_,Bx b,.inl (Mm c d),⟨Tj a.1 a.2,by simp[pd,PyData.depth,PyData.depthAll]⟩,Jb e,by rw[AY rfl,Bd];exact q⟩
section
variable{P:Cv}{w:HS}{K:PySem.W.Frag}{mg:Str->A6 A1}{base:HX}
theorem Yr{H:Hp}{t l:A2}{k:Str×Str}{ps:A0 IU}{Q:VK}(b:H t=some (.tup [.str k.1,.str k.2]))(c:H l=some (.lst (P2 ps)))(d:∀q∈ps,I9 H q)
  (a:PySem.PyData.strOk k.1=true/\PySem.PyData.strOk k.2=true) (e:∀q∈ps,PySem.PyData.strOk q.2.1=true/\PySem.PyData.strOk q.2.2=true) (q:Q (.bl (decide (k∈ps.map λq=>q.2))) H):UP K false (.ref t) (.ref l) H Q :=
 ⟨pd k,_,Bx b,.inl (Mm c d),⟨Tj a.1 a.2,by simp[pd,PyData.depth,PyData.depthAll]⟩,Jb e,by rw[AS (by decide),Bd];exact q⟩
theorem MZ:HW ["sayings", "ahead", "row", "said"] ["sayings", "ahead", "row"] (B6 NT):=KA
def Li:Sp:=λe H Q _=>∃(a l p:A2) (b:A0 RW) (c:A0 IU) (o t:Str),e = [.ref a,.ref l,.ref p]/\IQ H a b/\b.length<=1000/\H l=some (.lst (P2 c))/\(∀q∈c,I9 H q)/\(∀q∈c,K3 q.2.1=true/\K3 q.2.2=true)/\H p=some (.tup [.str o,.str t])/\K3 o=true/\K3 t=true/\(o,t)∉(c.map λq=>q.2)/\o∈y8 b/\t∈y8 b/\o≠t/\∀d,CW H d->Q (.bl true) d
theorem Eu(T:Tx K mg):II P w K mg base JG 3 T.aU.f T.aU.fd ["sayings", "ahead", "row"] Li:=by
 refine T.aU.F.o1 MZ λx A g s H W Q E m h=>?_
 .obtain⟨a,l,p,y,X,o,t,rfl,B,C,D,G,u,I,J,L,M,N,O,R,q⟩:=h;refine⟨_,(B2 (C2 (i:=3) MZ.nd rfl (.inl rfl) (C8 T.af (E8 T) (Rm m) (A8 (pv 0) B0)))
   (B2 (K5 (PW.pt (Az (Q8 (K1 (C8 T.au (S5 T) (Rm m) (A8 (pv 2) (A8 B4 B0))))) (Y7 (C9 (zFu K m.units) (pv 2) (pv 1) rfl)))) (B7 (C3 Cn)) E6)
   (B7 (C3 (R8 (I0 (U9 K) (D6 (LM K) (pv 2) B4 (λ_ _=>rfl)) (pv 3) rfl) (R8 (I0 (U9 K) (D6 (LM K) (pv 2) B4 (λ_ _=>rfl)) (pv 3) rfl) (V3 (I0 Rk (D6 (LM K) (pv 2) B4 (λ_ _=>rfl)) (D6 (LM K) (pv 2) B4 (λ_ _=>rfl)) (F6 _))))))))),?_⟩
  refine B5 λY n=>?_;refine A7 rfl ⟨a,y,rfl,B,C,λZ S d U c=>?_⟩;refine n _ _ (B5 λN2 r=>?_);have b:=d _ _ I;refine A7 rfl ⟨p,_,_,rfl,b,rfl,_,rfl,X0 ?_⟩;refine A7 rfl (A7 rfl (Yr (k:=(o,t)) b (d _ _ D) (K9 d G) ⟨O8 J,O8 L⟩ (λq v=>⟨O8 (u q v).1,O8 (u q v).2⟩) ?_));rw[BB M];refine⟨_,rfl,X0 ?_⟩;refine r _ _ ?_;refine A7 rfl ⟨p,_,C1 rfl rfl ⟨JC.of b,B9 (j:=0) rfl,A7 rfl (J3 (.inl (HY.of c)) ?_)⟩⟩;rw[AJ N];refine⟨_,rfl,g9 ?_⟩;refine A7 rfl ⟨p,_,C1 rfl rfl ⟨JC.of b,B9 (j:=1) rfl,A7 rfl (J3 (.inl (HY.of c)) ?_)⟩⟩;rw[AJ O];refine⟨_,rfl,g9 ?_⟩;refine A7 rfl ⟨p,_,C1 rfl rfl ⟨JC.of b,B9 (j:=0) rfl,A7 rfl ⟨p,_,C1 rfl rfl ⟨JC.of b,B9 (j:=1) rfl,rfl,?_⟩⟩⟩⟩;have e:(!decide (V.str o=V.str t))=true:=by rw[BB λz=>R (V.str.inj z)];rfl
  rw[e];exact q S d
theorem zBt(xs:A0 V)(i:Nat)(h:i<=xs.length):Ao xs none (some (i:Int))=xs.take i:=by
 unfold Ao;rw[HT.PP,HT.QQ,DR,Nat.sub_zero,ER h]
def Bi(base:HX)(f:A2)(sp:Sp):Sp:=λg H Q _=>∃(x:Str) (a:A2) (b:A0 A2),g = [.str x,.ref a,.ref f]/\H a=some (.lst (b.map V.ref))/\b.length<=1000/\J_ base H f /\
 (∀(i:Nat) (q:A2),b[i]?=some q->∀(G:Hp) (l:A2) (c:VK),CW H G->G l=some (.lst ((b.take i).map V.ref))->(∀d,CW G d->c (.bl true) d)->sp [.ref l,.ref q] G c E0)/\∀e,CW H e->Q .non e
theorem KR:HW ["part", "rows", "fits", "place", "row"] ["part", "rows", "fits"] (B6 NU):=KA
theorem P5(T:Tx K mg){f:A2}{L:IJ}{k:Nat}{sp:Sp}(g:II P w K mg base JG k f L ["ahead", "row"] sp)(c:Binds K L ["ahead", "row"] []):II P w K mg base JG (k+1) T.aq.f T.aq.fd ["part", "rows", "fits"] (Bi base f sp):=by
 refine T.aq.F.o1 KR λO A G s H Z Q E R h=>?_
 .obtain⟨x,a,d,rfl,p,S,M,r,q⟩:=h;refine⟨_,(B7 (P0 PassesOwn.never rfl (piE K T.ba (A8 (pv 1) B0)) (Q_ K (n:=2) (C6 (E4 (i:=3) KR.nd rfl (.inl rfl)) (C6 (E4 (i:=4) KR.nd rfl (.inl rfl)) J9)))
   (B7 (K5 (Q8 (K1 (Vg (i:=2) g (R.mono (Nat.le_refl _)) c (A8 (o0 (slL K) (pv 1) Ba (Bc (pv 3))) (A8 (pv 4) B0))))) (B7 U7) E6)))),?_⟩
  refine A7 rfl ⟨a,A7 rfl ⟨HY.of p,Vb (n:=d.length) (λi σ j=>∃u z,σ = [some (.str x),some (.ref a),some (.ref f),u,z]/\CW H j) ⟨_,_,rfl,λb o e=>e⟩ ?_ ?_ ?_ ?_⟩⟩
  .rintro i σ j I ⟨u,z,rfl,m⟩;exact⟨_,_,HY.of (m _ _ p),by rw[AG,AU I];rfl⟩
  .rintro σ j ⟨u,z,rfl,m⟩;exact⟨_,HY.of (m _ _ p),by rw[AA]⟩
  .rintro i σ j v H' I ⟨u,z,rfl,m⟩ ⟨t,y,rfl,U,rfl,C⟩;have C:=C _ (HY.of (m _ _ p));have B:d[i]?=some d[i]:=AU I;rw[AG,B]at C;cases C;have J:=m.trans (CW.new (o:=.tup [.int (i:Int),.ref d[i]]) U);refine⟨t,_,rfl,JC.of A9,rfl,_,_,rfl,_,_,rfl,rfl,?_⟩;refine⟨rfl,M.same J,?_⟩;refine A7 rfl (A7 rfl ⟨_,rfl,a,_,rfl,HY.of (J _ _ p),λl W=>?_⟩);have D:=J.trans (CW.new (o:=.lst (Ao (d.map V.ref) none (some (i:Int)))) W);have N:(HU (HU j t (.tup [.int (i:Int),.ref d[i]])) l (.lst (Ao (d.map V.ref) none (some (i:Int))))) l=some (.lst ((d.take i).map V.ref)):=by rw[A9,zBt _ _ (by rw[AA];lia),EK]
   generalize HU (HU j t (.tup [.int (i:Int),.ref d[i]])) l (.lst (Ao (d.map V.ref) none (some (i:Int))))=X at D N⊢;refine A7 rfl ⟨M.same D,r i _ B X l _ D N λG' Y=>⟨_,rfl,X0 ?_⟩⟩;exact⟨_,_,rfl,D.trans Y⟩
  .rintro σ j ⟨u,z,rfl,m⟩;exact q j m
end
abbrev JJ:Type:=A2×Str×Int
abbrev JK:Type:=A2×Str×Str×A2×A0 Str
abbrev JD:Type:=A2×Str×Str×Str
def rP(q:JJ):RW:=(q.1,q.2.1,[.int q.2.2])
def rS(q:JK):RW:=(q.1,q.2.1,[.str q.2.2.1,.ref q.2.2.2.1])
def rT(q:JD):RW:=(q.1,q.2.1,[.str q.2.2.1,.str q.2.2.2])
structure JR(H:Hp)(a b c d:A2)(pe:A0 JJ)(sa:A0 JK)(st:A0 JD)(ba:A0 IU):Prop where
 hp:IQ H a (pe.map rP)
 hs:IQ H b (sa.map rS)
 sp:∀q∈sa,H q.2.2.2.1=some (.lst (q.2.2.2.2.map V.str))
 ht:IQ H c (st.map rT)
 hb:H d=some (.lst (P2 ba))
 pb:∀q∈ba,I9 H q
def JR.same{H H':Hp}{a b c d:A2}{e:A0 JJ}{f:A0 JK}{st:A0 JD}{g:A0 IU}(h:JR H a b c d e f st g)(s:CW H H'):JR H' a b c d e f st g :=
 ⟨h.hp.same s,h.hs.same s,λq i=>s _ _ (h.sp q i),h.ht.same s,s _ _ h.hb,K9 s h.pb⟩
def JR.keep{H H':Hp}{a b c d p:A2}{ls:A0 (Pos×Str)}{i:A0 JJ}{j:A0 JK}{st:A0 JD}{l:A0 IU}(h:JR H a b c d i j st l)(t:Ae H p ls)(k:∀z o,H z=some o->z≠p->H' z=some o):JR H' a b c d i j st l:=by
 obtain⟨m,e,_⟩:=t;have kk:∀{z:A2} {o:HO},H z=some o->o≠ .tbl m->H' z=some o:=λg n=>k _ _ g λy=>by rw[y,e]at g;cases g;exact n rfl
 exact⟨⟨kk h.hp.at_ (by intro z;cases z),λq f=>kk (h.hp.row q f) (by intro z;cases z)⟩,⟨kk h.hs.at_ (by intro z;cases z),λq f=>kk (h.hs.row q f) (by intro z;cases z)⟩,λq f=>kk (h.sp q f) (by intro z;cases z),⟨kk h.ht.at_ (by intro z;cases z),λq f=>kk (h.ht.row q f) (by intro z;cases z)⟩,kk h.hb (by intro z;cases z),λq f=>kk (h.pb q f) (by intro z;cases z)⟩
def JR.keepX{H H':Hp}{a b c d x C g:A2}{i:A0 (Str×V)}{j:A0 JJ}{l:A0 JK}{st:A0 JD}{m:A0 IU}(h:JR H a b c d j l st m)(p:H x=some (.ins C g i))(k:Sm [x] H H'):JR H' a b c d j l st m:=by
 have kk:∀{z:A2} {o:HO},H z=some o->o≠ .ins C g i->H' z=some o:=λf n=>k _ _ f λy=>by rw[AC.mp y,p]at f;cases f;exact n rfl
 exact⟨⟨kk h.hp.at_ (by intro z;cases z),λq e=>kk (h.hp.row q e) (by intro z;cases z)⟩,⟨kk h.hs.at_ (by intro z;cases z),λq e=>kk (h.hs.row q e) (by intro z;cases z)⟩,λq e=>kk (h.sp q e) (by intro z;cases z),⟨kk h.ht.at_ (by intro z;cases z),λq e=>kk (h.ht.row q e) (by intro z;cases z)⟩,kk h.hb (by intro z;cases z),λq e=>kk (h.pb q e) (by intro z;cases z)⟩
def Ap{H H':Hp}{p x C b:A2}{d:A0 (Str×V)}{ls:A0 (Pos×Str)}(h:Ae H p ls)(f:H x=some (.ins C b d))(k:Sm [x] H H'):Ae H' p ls:=by
 have kk:∀{z:A2} {o:HO},H z=some o->o≠ .ins C b d->H' z=some o:=λa n=>k _ _ a λy=>by rw[AC.mp y,f]at a;cases a;exact n rfl
 obtain⟨g,e,t,q⟩:=h;exact⟨g,kk e (by intro z;cases z),t,λl i=>(q l i).imp id λ⟨c,e,j⟩=>⟨c,e,kk j (by intro z;cases z)⟩⟩
def nP(a:A0 JJ):A0 Str:=a.map λq=>q.2.1
def nS(a:A0 JK):A0 Str:=a.map λq=>q.2.1
def nT(st:A0 JD):A0 Str:=st.map λq=>q.2.1
structure PV(pe:A0 JJ)(sa:A0 JK)(st:A0 JD)(ba:A0 IU):Prop where
 len:pe.length<=30/\sa.length<=30/\st.length<=30/\ba.length<=30
 pn:(nP pe).Nodup
 pm:∀q∈pe,K3 q.2.1=true/\0<=q.2.2/\q.2.2<=9
 sn:(nS sa++nT st).Nodup
 nm:∀x∈nS sa++nT st,K3 x=true
 kd:∀q∈sa,q.2.2.1 = "fact"\/q.2.2.1 = "claim"
 sk:∀q∈sa,(∀x∈q.2.2.2.2,x∈nP pe)/\q.2.2.2.2.Nodup/\q.2.2.2.2.length<=100
 tg:∀q∈st,q.2.2.1∈nS sa/\(q.2.2.2∈nS sa\/q.2.2.2∈nT st)
 bn:(ba.map λq=>q.2).Nodup
 bk:∀q∈ba,q.2.1∈nS sa/\q.2.2∈nS sa/\q.2.1≠q.2.2
def zDp(a:A0 JJ):y8 (a.map rP)=nP a:=by unfold y8 nP;rw[AN];rfl
def Cc(a:A0 JK):y8 (a.map rS)=nS a:=by unfold y8 nS;rw[AN];rfl
def Wr(st:A0 JD):y8 (st.map rT)=nT st:=by unfold y8 nT;rw[AN];rfl
def Ce{α:Type}{r:α->RW}{xs:A0 α}{i:Nat}{H G:Hp}{l:A2}(h:∀q∈xs.map r,Zc H q)(s:CW H G)(a:G l=some (.lst (((xs.map λx=>(r x).1).take i).map V.ref))):IQ G l ((xs.take i).map r):=by
 refine⟨?_,λq b=>s _ _ (h q ?_)⟩
 .rw[a,<-EK,AN,AN];rfl
 .obtain⟨x,c,rfl⟩:=AI.mp b;exact AI.mpr ⟨x,BQ c,rfl⟩
def Iy{α:Type}{r:α->RW}{xs:A0 α}:((xs.map r).map λq=>V.ref q.1) =(xs.map λx=>(r x).1).map V.ref:=by rw[AN,AN];rfl
def wfW(a b c d:A2):A0 (Str×V):=[("people",.ref a),("sayings",.ref b),("strikes",.ref c),("backs",.ref d)]
def IV(C:A2)(H:Hp)(x:A2)(e:A0 JJ)(f:A0 JK)(st:A0 JD)(g:A0 IU):Prop:=∃h a b c d,H x=some (.ins C h (wfW a b c d))/\JR H a b c d e f st g
def IV.same{C:A2}{H H':Hp}{x:A2}{f:A0 JJ}{g:A0 JK}{st:A0 JD}{i:A0 IU}(h:IV C H x f g st i)(s:CW H H'):IV C H' x f g st i:=let⟨j,a,b,c,d,e,w⟩:=h;⟨j,a,b,c,d,s _ _ e,w.same s⟩
def PU(C:A2)(e H:Hp)(x:A2)(g:A0 JJ)(f:A0 JK)(st:A0 JD)(h:A0 IU):Prop:=∃i a b c d,H x=some (.ins C i (wfW a b c d))/\JR H a b c d g f st h/\e a=none/\e b=none/\e c=none/\e d=none/\∀q∈f,e q.2.2.2.1=none
def PU.at_{C:A2}{j H:Hp}{x:A2}{f:A0 JJ}{g:A0 JK}{st:A0 JD}{i:A0 IU}(h:PU C j H x f g st i):IV C H x f g st i:=let⟨k,a,b,c,d,e,w,_⟩:=h;⟨k,a,b,c,d,e,w⟩
def MT{L:A0 A2}{H H':Hp}{z:A2}(k:Sm L H H')(n:z∉L)(h:H' z=none):H z=none:=by
 cases y:H z with
 | none=>rfl
 | some o=>rw[k z o y n]at h;cases h
def K0{H H':Hp}{p:A2}{ls:A0 (Pos×Str)}(h:Ae H p ls)(s:CW H H'):Ae H' p ls:=let⟨a,e,t,q⟩:=h;⟨a,s _ _ e,t,λl b=>(q l b).imp id λ⟨c,e,d⟩=>⟨c,e,s _ _ d⟩⟩
def dS(q:JK):Str×Str×A0 Str:=(q.2.1,q.2.2.1,q.2.2.2.2)
section
variable{P:Cv}{w:HS}{K:PySem.W.Frag}{mg:Str->A6 A1}{base:HX}
def Mo(f c:A2)(q:Str)(b:Arguments)(d:H_)(a:IT)(cl:A0 (Str×A2))(g:V->V->Hp->VK->Prop):Sp:=λe H Q _=>∃u v,e = [u,v]/\H f=some (OD f c q b d a cl)/\H c=some (LL c q)/\g u v H Q
theorem Eg{f c:A2}{q:Str}{i:Arguments}{e:H_}{b:IT}{cl:A0 (Str×A2)}{fr:A0 Str}{gs:A0 V}{k:Nat}{g:V->V->Hp->VK->Prop}(S:PZ ("ahead" :: "row" :: fr) ["ahead", "row"] fr b)(C:SE base cl fr gs)
  (d:∀(A:HZ) (a:A0 NL) (s:A5) (H:Hp) (u v:V) (Q:VK),JH k (A.deeper (PySem.W.envX q b s.heap.objs.size f (.ref c) cl))->g u v H Q ->
   ∃t,PE (Ty P w K mg base ("ahead" :: "row" :: fr) q b f (.ref c) cl A a s H) e t/\t (some u::some v::gs.map some) H Q) :
  II P w K mg base JG (k+1) f (PySem.W.kla_fn "<lambda>" q i e b cl .none (.ref c) .none) ["ahead", "row"] (Mo f c q i e b cl g):=by
 refine zDx S C (λj H Q E h=>?_) (λj H Q E h=>?_) λA a s H j Q E l h=>?_
 .obtain⟨u,v,rfl,_⟩:=h;rfl
 .obtain⟨u,v,rfl,m,n,_⟩:=h;exact⟨m,n⟩
 .obtain⟨u,v,rfl,_,_,h⟩:=h;exact d A a s H u v Q l h
theorem KO:HW ["self", "people", "sayings", "strikes", "backs", "goals"] ["self", "people", "sayings", "strikes", "backs"] (B6 IS):=KA
def Fi(C g:A2):Sp:=λk H Q _=>∃(x l a b c d:A2) (h:A0 JJ) (i:A0 JK) (st:A0 JD) (j:A0 IU),k = [.ref x,.ref a,.ref b,.ref c,.ref d]/\H x=some (.ins C l [])/\JR H a b c d h i st j/\PV h i st j/\Ae H g Z7 /\
 ∀(e:A0 JK) f,Sm [x,g] H f->Ae f g Z7->e.map dS=i.map dS->PU C H f x h e st j->Q .non f
set_option maxHeartbeats 8000000 in
theorem Dx(T:Tx K mg)(hB:base.BuiltinsAt mg T.ae):II P w K mg base JG 6 T.bI T.bD ["self", "people", "sayings", "strikes", "backs"] (Fi T.aa T.ae):=by
 refine T.bJ.oC KO λcdv A outer s H vs Q E hcd hr h=>?_
 .obtain⟨x,B,a,b,c,d,pe,sa,st,ba,rfl,hx,hW,ok,hT,q⟩:=h;have hu:=U0 hr;refine⟨_,(B2 (G9 (Me (k:=5) (λ_=>rfl) T.aq (Rm hr) (A8 E3 (A8 (pv 1) (A8 (Be T.an.m) B0)))))
   (B2 (G9 (Me (k:=5) (λ_=>rfl) T.aq (Rm hr) (A8 E3 (A8 (pv 2) (A8 (Qp (ls:=Z7) T.bf hB (hcd.symm.trans T.bw) rfl rfl (by show ∀x:Str×JF,x∈_->x.2=NameKind.free->(B6 IS).names.lookup x.1=some NameKind.cell;decide +kernel) (by first | exact .head _ | exact .tail _ (.head _) | exact .tail _ (.tail _ (.head _))) (by decide +kernel)) B0)))))
   (B2 (C2 (i:=5) KO.nd rfl (.inr rfl) (C8 T.a3 (Hn T) (Rm hr) (A8 (pv 3) B0)))
   (B2 (G9 (Me (k:=5) (λ_=>rfl) T.aq (Rm hr) (A8 E3 (A8 (pv 3) (A8 (Qp (ls:=Z7) T.bf hB (hcd.symm.trans T.bw) rfl rfl (by show ∀x:Str×JF,x∈_->x.2=NameKind.free->(B6 IS).names.lookup x.1=some NameKind.cell;decide +kernel) (by first | exact .head _ | exact .tail _ (.head _) | exact .tail _ (.tail _ (.head _))) (by decide +kernel)) B0)))))
   (B2 (G9 (Me (k:=5) (λ_=>rfl) T.aq (Rm hr) (A8 E3 (A8 (pv 4) (A8 (Qp (ls:=Z7) T.bf hB (hcd.symm.trans T.bw) rfl rfl (by show ∀x:Str×JF,x∈_->x.2=NameKind.free->(B6 IS).names.lookup x.1=some NameKind.cell;decide +kernel) (by first | exact .head _ | exact .tail _ (.head _) | exact .tail _ (.tail _ (.head _))) (by decide +kernel)) B0)))))
   (B2 (TZ K (pv 0) (V4 (a7 K) T.aN X4 (A8 (pv 1) B0)))
   (B2 (TZ K (pv 0) (J1 (N':=["name", "kind", "speakers"]) (cap:=[none,none,none]) (cl:=[]) (E9 trivial trivial) rfl (JX K (pv 2)) (λ_ _ _ _=>by exact⟨(Q_ K (n:=3) (C6 (JQ 0) (C6 (JQ 1) (C6 (JQ 2) J9)))),D8,(J7 (A8 (pv 0) (A8 (pv 1) (A8 (V4 (a7 K) T.aN X4 (A8 (pv 2) B0)) B0))))⟩)))
   (B2 (TZ K (pv 0) (V4 (a7 K) T.aN X4 (A8 (pv 3) B0)))
   (B7 (TZ K (pv 0) (V4 (a7 K) T.aN X4 (A8 (pv 4) B0)))))))))))),?_⟩
  obtain⟨lp,lsa,lst,lba⟩:=ok.len;refine B5 λN1 hN1=>?_;have hWp:=hW.hp.at_;rw[Iy]at hWp;refine A7 rfl λC J kin=>⟨Bi C T.an.f Kw,(P5 T (Ct T) T.an.b).mono (by decide), "people",a,_,rfl,hWp,by rw[AA];lia,J_.def T.an.F kin,λi z Y G l Q' g el hQ=>?_,λH1 s1=>?_⟩
  .rw[AG]at Y;obtain⟨p,hp,rfl⟩:=AV.mp Y;have Z:=AM hp;obtain⟨p1,p2,p3⟩:=ok.pm p Z;refine⟨l,p.1,_,p.2.1,p.2.2,rfl,Ce hW.hp.row g el,by rw[AA,AO];lia,g _ _ (hW.hp.row (rP p) (AI.mpr ⟨p,Z,rfl⟩)),p1,λy=>?_,p2,p3,hQ⟩;rw[zDp]at y;unfold nP at y;rw[EK]at y;exact J4 ok.pn (by unfold nP;rw[AG,hp];rfl) y
  refine hN1 _ _ (B5 λN2 hN2=>?_);have W1:=hW.same s1;have T1:=K0 hT s1;refine A7 rfl ⟨T1,λf cc H2 hf T2 hc2 hf2 nfp k2=>?_⟩;have W2:JR H2 a b c d pe sa st ba:=W1.keep T1 k2;have hWs:=W2.hs.at_;rw[Iy]at hWs;refine λC J kin=>⟨Bi C f (Mo f cc _ _ _ _ _ λu v H Q=>Mi [.ref a,u,v] H Q E0),?F, "sayings",b,_,rfl,hWs,by rw[AA];lia,J_.lam hf2,λi z Y G l Q' g el hQ=>⟨_,_,rfl,g _ _ hf2,g _ _ hc2,?_⟩,λH3 s3=>?_⟩
  case F =>
   refine P5 (k:=4) T (Eg (fr:=["people"]) (gs:=[.ref a]) ⟨rfl,rfl,rfl,rfl,by decide +kernel,by decide +kernel,by decide +kernel,by decide +kernel,by decide +kernel⟩ (J.clos (by decide +kernel) (by decide +kernel) (by show ∀x∈_,(B6 IS).names.lookup x=some NameKind.cell;decide +kernel) rfl λi x v S h2=>?_) λA outer s H u v Q hr h=>⟨_,C8 T.aF (Ax T) (Rm hr) (A8 (pv 2) (A8 (pv 0) (A8 (pv 1) B0))),A7 rfl (A7 rfl (A7 rfl h))⟩) (Binds.all λus hl=>by match us,hl with | [_,_],_=>rfl)
   match i,S,h2 with
   | 0,S,h2=>cases S;cases h2;exact⟨1,rfl,rfl⟩
   | n+1,S,_=>cases S
  .rw[AG]at Y;obtain⟨p,hp,rfl⟩:=AV.mp Y;have Z:=AM hp;obtain⟨sk1,sk2,sk3⟩:=ok.sk p Z;have hp':(nS sa)[i]?=some p.2.1:=by unfold nS;rw[AG,hp];rfl
   refine⟨a,l,p.1,p.2.2.2.1,_,_,p.2.1,p.2.2.1,p.2.2.2.2,rfl,W2.hp.same g,by rw[AA];lia,Ce W2.hs.row g el,by rw[AA,AO];lia,g _ _ (W2.hs.row (rS p) (AI.mpr ⟨p,Z,rfl⟩)),g _ _ (W2.sp p Z),ok.nm _ (BS _ (AM hp')),λy=>?_,ok.kd p Z,λy hy=>by rw[zDp];exact sk1 y hy,sk2,sk3,hQ⟩;rw[Cc]at y;unfold nS at y;rw[EK]at y;exact J4 (BU.mp ok.sn).1 hp' y
  refine hN2 _ _ (B5 λN3 hN3=>?_);have W3:=W2.same s3;have T3:=K0 T2 s3;have k3:∀z o,H z=some o->z≠T.ae->H3 z=some o:=λz o e n=>s3 _ _ (k2 z o (s1 _ _ e) n);clear hc2 hf2 W2 W1 T1 T2 k2 s1 s3 hWs hWp;refine A7 rfl ⟨c,_,rfl,W3.ht,by rw[AA];lia,λgg H4 s4 hgg egg=>?_⟩;rw[Wr]at egg;refine hN3 _ _ (B5 λN4 hN4=>?_);have W4:=W3.same s4;have T4:=K0 T3 s4;refine A7 rfl ⟨T4,λf2 cc2 H5 hf T5 hc5 hf5 nfp k5=>?_⟩;have W5:JR H5 a b c d pe sa st ba:=W4.keep T4 k5;have egg:H5 gg=some (.lst ((nT st).map V.str)):=k5 _ _ egg λy=>by
   obtain⟨ps,e,_⟩:=T4;rw[y,e]at egg;cases egg
  have hWt:=W5.ht.at_;rw[Iy]at hWt;refine λC J kin=>⟨Bi C f2 (Mo f2 cc2 _ _ _ _ _ λu v H Q=>Kz [.ref b,.ref gg,u,v] H Q E0),?F2, "strikes",c,_,rfl,hWt,by rw[AA];lia,J_.lam hf5,λi z Y G l Q' g el hQ=>⟨_,_,rfl,g _ _ hf5,g _ _ hc5,?_⟩,λH6 s6=>?_⟩
  case F2 =>
   refine P5 (k:=4) T (Eg (fr:=["sayings", "goals"]) (gs:=[.ref b,.ref gg]) ⟨rfl,rfl,rfl,rfl,by decide +kernel,by decide +kernel,by decide +kernel,by decide +kernel,by decide +kernel⟩ (J.clos (by decide +kernel) (by decide +kernel) (by show ∀x∈_,(B6 IS).names.lookup x=some NameKind.cell;decide +kernel) rfl λi x v S h2=>?_) λA outer s H u v Q hr h=>⟨_,C8 T.aG (Cb T) (Rm hr) (A8 (pv 2) (A8 (pv 3) (A8 (pv 0) (A8 (pv 1) B0)))),A7 rfl (A7 rfl (A7 rfl (A7 rfl h)))⟩) (Binds.all λus hl=>by match us,hl with | [_,_],_=>rfl)
   match i,S,h2 with
   | 0,S,h2=>cases S;cases h2;exact⟨2,rfl,rfl⟩
   | 1,S,h2=>cases S;cases h2;exact⟨5,rfl,rfl⟩
   | n+2,S,_=>cases S
  .rw[AG]at Y;obtain⟨p,hp,rfl⟩:=AV.mp Y;have Z:=AM hp;obtain⟨t1,t2⟩:=ok.tg p Z;have hp':(nT st)[i]?=some p.2.1:=by unfold nT;rw[AG,hp];rfl
   have mt:=AM hp';obtain⟨_,ndt,dis⟩:=BU.mp ok.sn;refine⟨b,gg,l,p.1,_,_,nT st,p.2.1,p.2.2.1,p.2.2.2,rfl,W5.hs.same g,by rw[AA];lia,g _ _ egg,Ce W5.ht.row g el,by rw[AA,AO];lia,g _ _ (W5.ht.row (rT p) (AI.mpr ⟨p,Z,rfl⟩)),ok.nm _ (BJ _ mt),λy=>?_,λy=>?_,by rw[Cc];exact t1,by rw[Cc];exact t2,hQ⟩
   .rw[Cc]at y;exact dis _ y _ mt rfl
   .rw[Wr]at y;unfold nT at y;rw[EK]at y;exact J4 ndt hp' y
  refine hN4 _ _ (B5 λN5 hN5=>?_);have W6:=W5.same s6;have T6:=K0 T5 s6;have k6:∀z o,H z=some o->z≠T.ae->H6 z=some o:=λz o e n=>s6 _ _ (k5 z o (s4 _ _ (k3 z o e n)) n);clear hc5 hf5 W5 W4 T4 T5 k5 s4 s6 hWt W3 T3 k3 egg;refine A7 rfl ⟨T6,λf3 cc3 H7 hf T7 hc7 hf7 nfp k7=>?_⟩;have W7:JR H7 a b c d pe sa st ba:=W6.keep T6 k7;refine λC J kin=>⟨Bi C f3 (Mo f3 cc3 _ _ _ _ _ λu v H Q=>Li [.ref b,u,v] H Q E0),?F3, "backs",d,ba.map λq=>q.1,rfl,by rw[W7.hb];unfold P2;rw[AN];rfl,by rw[AA];lia,J_.lam hf7,λi z Y G l Q' g el hQ=>⟨_,_,rfl,g _ _ hf7,g _ _ hc7,?_⟩,λH8 s8=>?_⟩
  case F3 =>
   refine P5 (k:=4) T (Eg (fr:=["sayings"]) (gs:=[.ref b]) ⟨rfl,rfl,rfl,rfl,by decide +kernel,by decide +kernel,by decide +kernel,by decide +kernel,by decide +kernel⟩ (J.clos (by decide +kernel) (by decide +kernel) (by show ∀x∈_,(B6 IS).names.lookup x=some NameKind.cell;decide +kernel) rfl λi x v S h2=>?_) λA outer s H u v Q hr h=>⟨_,C8 T.aU (Eu T) (Rm hr) (A8 (pv 2) (A8 (pv 0) (A8 (pv 1) B0))),A7 rfl (A7 rfl (A7 rfl h))⟩) (Binds.all λus hl=>by match us,hl with | [_,_],_=>rfl)
   match i,S,h2 with
   | 0,S,h2=>cases S;cases h2;exact⟨2,rfl,rfl⟩
   | n+1,S,_=>cases S
  .rw[AG]at Y;obtain⟨p,hp,rfl⟩:=AV.mp Y;have Z:=AM hp;obtain⟨b1,b2,b3⟩:=ok.bk p Z;have nmb:∀x∈nS sa,K3 x=true:=λx hx=>ok.nm x (BS _ hx);have tk:∀q∈ba.take i,q∈ba:=λq j=>BQ j;refine⟨b,l,p.1,_,ba.take i,p.2.1,p.2.2,rfl,W7.hs.same g,by rw[AA];lia,by rw[el,<-EK,AN];rfl,λq j=>g _ _ (W7.pb q (tk q j)),λq j=>⟨nmb _ (ok.bk q (tk q j)).1,nmb _ (ok.bk q (tk q j)).2.1⟩,g _ _ (W7.pb p Z),nmb _ b1,nmb _ b2,λy=>?_,by rw[Cc];exact b1,by rw[Cc];exact b2,b3,hQ⟩;rw[EK]at y;exact J4 ok.bn (by rw[AG,hp];rfl) y
  refine hN5 _ _ (B5 λN6 hN6=>?_);have W8:=W7.same s8;have T8:=K0 T7 s8;have k8:∀z o,H z=some o->z≠T.ae->H8 z=some o:=λz o e n=>s8 _ _ (k7 z o (k6 z o e n) n);clear hc7 hf7 W7 W6 T6 T7 k7 s8 k6;have xp:x≠T.ae:=λy=>by
   obtain⟨ps,e,_⟩:=hT;rw[<-y,hx]at e;cases e
  have x8:=k8 _ _ hx xp;have new8:∀{z:A2},H8 z=none->H z=none:=fun{z} h=>by
   cases y:H z with
   | none=>rfl
   | some o =>
    have ne:z≠T.ae:=λe=>by
     obtain⟨ps,e8,_⟩:=T8;rw[e,e8]at h;cases h
    rw[k8 z o y ne]at h;cases h
  refine A7 rfl ⟨a,_,rfl,.inl (HY.of W8.hp.at_),λr hl1=>?_⟩;have nx1:x≠r:=B3 x8 hl1;refine A7 rfl ⟨x,T.aa,B,[],rfl,by rw[B8 nx1];exact x8,T.ad,T.bn,by decide,?_⟩;have nin:∀{b:A2},b≠x->b∉[x]:=λh z=>h (AC.mp z);have k9:Sm [x] H8 (HU (HU H8 r (.lst ((pe.map rP).map λq=>V.ref q.1))) x (.ins T.aa B (P3 "people" (.ref r) []))):=(Sm.new (Sm.refl _ _) hl1).upd (by simp);have e9:(HU (HU H8 r (.lst ((pe.map rP).map λq=>V.ref q.1))) x (.ins T.aa B (P3 "people" (.ref r) []))) r=some (.lst ((pe.map rP).map λq=>V.ref q.1)):=by rw[B8 nx1.symm,A9]
  have x9:(HU (HU H8 r (.lst ((pe.map rP).map λq=>V.ref q.1))) x (.ins T.aa B (P3 "people" (.ref r) []))) x=some (.ins T.aa B [("people",.ref r)]):=by rw[A9];rfl
  refine hN6 _ _ ?_;show UV _ _ _ _ (HU (HU H8 r (.lst ((pe.map rP).map λq=>V.ref q.1))) x (.ins T.aa B (P3 "people" (.ref r) [])));generalize HU (HU H8 r (.lst ((pe.map rP).map λq=>V.ref q.1))) x (.ins T.aa B (P3 "people" (.ref r) []))=H9 at k9 e9 x9⊢;have W9:=W8.keepX x8 k9;have T9:=Ap T8 x8 k9;refine B5 λN7 hN7=>?_;refine A7 rfl ⟨b,rfl,⟨_,HY.of W9.hs.at_⟩,λD hD=>?_⟩;refine J6 (KI (K:=K) (HY.of W9.hs.at_)) (λi σ G=>(∃v0 v1 v2,σ = [v0,v1,v2])/\CW H9 G/\∃L:A0 JK,IQ G D (L.map rS)/\(∀q∈L,q.2.2.2.1≠D/\G q.2.2.2.1=some (.lst (q.2.2.2.2.map V.str))/\H9 q.2.2.2.1=none)/\L.map dS =(sa.take i).map dS)
   ⟨⟨_,_,_,rfl⟩,CW.new hD,[],⟨A9,λq h=>absurd h AL⟩,λq h=>absurd h AL,rfl⟩ (λi σ G _ ⟨_,s1,_⟩=>s1.at b) ?_ ?_
  .rintro i σ G v N hv ⟨⟨v0,v1,v2,rfl⟩,g,L,RG,U,dG⟩ hN;rw[AN,AG]at hv;obtain⟨p,hp,rfl⟩:=AV.mp hv;have Z:=AM hp;have li:=(AR.mp hp).1;have lsa':=congrArg List.length dG;rw[AA,AA,AO]at lsa';have ep:=g _ _ (W9.hs.row (rS p) (AI.mpr ⟨p,Z,rfl⟩));have es:=g _ _ (W9.sp p Z);refine⟨p.1,A7 rfl ⟨JC.of ep,rfl,_,A7 rfl ⟨_,A7 rfl (C1 rfl rfl ?_)⟩⟩⟩;dsimp only[V7];refine g9 ?_;refine A7 rfl (A7 rfl (A7 rfl ⟨p.2.2.2.1,_,rfl,.inl (HY.of es),λl hl=>⟨by show 3<=sizeLine;decide,λt ht=>?_⟩⟩));have ul:=CW.new (o:=.lst (p.2.2.2.2.map V.str)) hl;have nlD:l≠D:=(B3 RG.at_ hl).symm;have ntD:t≠D:=(B3 (ul _ _ RG.at_) ht).symm;have ntl:l≠t:=B3 A9 ht;have el:(HU (HU G l (.lst (p.2.2.2.2.map V.str))) t (.tup [.str (rS p).2.1,.str p.2.2.1,.ref l])) l=some (.lst (p.2.2.2.2.map V.str)):=by rw[B8 ntl,A9]
   have et:(HU (HU G l (.lst (p.2.2.2.2.map V.str))) t (.tup [.str (rS p).2.1,.str p.2.2.1,.ref l])) t=some (.tup [.str (rS p).2.1,.str p.2.2.1,.ref l]):=A9;have ut:=ul.trans (CW.new (o:=.tup [.str (rS p).2.1,.str p.2.2.1,.ref l]) ht);generalize HU (HU G l (.lst (p.2.2.2.2.map V.str))) t (.tup [.str (rS p).2.1,.str p.2.2.1,.ref l])=G2 at el et ut⊢;have RG2:=RG.same ut;refine⟨_,RG2.at_,by rw[AA,AA,sizeLine_eq];lia,hN _ _ ⟨⟨_,_,_,rfl⟩,(g.trans ut).upd hD,L ++ [(t,p.2.1,p.2.2.1,l,p.2.2.2.2)],⟨by rw[A9,AF,AF];rfl,λz Y=>?_⟩,λz Y=>?_,by rw[AF,dG,C7 hp,AF];rfl⟩⟩
   .rw[AF]at Y;rcases AH.mp Y with y | y
    .exact(B8 (J8 (RG2.row z y) RG2.at_ (by intro z;cases z))).trans (RG2.row z y)
    .rw[AC.mp y];exact(B8 ntD).trans et
   .rcases AH.mp Y with y | y
    .exact⟨(U z y).1,(B8 (U z y).1).trans (ut _ _ (U z y).2.1),(U z y).2.2⟩
    .rw[AC.mp y];exact⟨nlD,(B8 nlD).trans el,MT g.sm AL hl⟩
  .rintro σ G ⟨_,g,L,RG,U,dG⟩;rw[AA,AA,BM]at dG;have x10:=g _ _ x9;refine A7 rfl ⟨x,T.aa,B,_,rfl,x10,T.ad,T.ai,by simp,?_⟩;have k11:Sm [x] G (HU G x (.ins T.aa B (P3 "sayings" (.ref D) [("people",.ref r)]))):=(Sm.refl _ _).upd (by simp);have X:(HU G x (.ins T.aa B (P3 "sayings" (.ref D) [("people",.ref r)]))) x=some (.ins T.aa B [("people",.ref r),("sayings",.ref D)]):=by rw[A9];rfl
   have W11:=(W9.same g).keepX x10 k11;have T11:=Ap (K0 T9 g) x10 k11;have O:∀{z:A2} {o:HO},G z=some o->z≠x->(HU G x (.ins T.aa B (P3 "sayings" (.ref D) [("people",.ref r)]))) z=some o:=λe n=>(B8 n).trans e;have I:∀{z:A2} {xs:A0 V},G z=some (.lst xs)->z≠x:=λe=>J8 e x10 (by intro z;cases z);have NW:∀{z:A2} {xs:A0 V},G z=some (.tup xs)->z≠x:=λe=>J8 e x10 (by intro z;cases z);have p11:=O (g _ _ e9) (I (g _ _ e9));have R11:IQ (HU G x (.ins T.aa B (P3 "sayings" (.ref D) [("people",.ref r)]))) D (L.map rS):=⟨O RG.at_ (I RG.at_),λq j=>O (RG.row q j) (NW (RG.row q j))⟩;have S11:∀q∈L,(HU G x (.ins T.aa B (P3 "sayings" (.ref D) [("people",.ref r)]))) q.2.2.2.1=some (.lst (q.2.2.2.2.map V.str)):=λq j=>O (U q j).2.1 (I (U q j).2.1);have m11:Sm [x] H8 (HU G x (.ins T.aa B (P3 "sayings" (.ref D) [("people",.ref r)]))):=(k9.trans g.sm).trans k11;refine hN7 _ _ ?_;generalize HU G x (.ins T.aa B (P3 "sayings" (.ref D) [("people",.ref r)]))=W at X W11 T11 p11 R11 S11 m11⊢;have n9:∀{z:A2},H9 z=none->H z=none:=fun{z} h=>new8 (MT k9 (λy=>by rw[AC.mp y,x9]at h;cases h) h);have nD:=n9 hD;have nS':∀q∈L,H q.2.2.2.1=none:=λq j=>n9 (U q j).2.2;clear O I NW k11 W9 T9 RG U x10 g hD k9 e9 n9;refine B5 λN8 hN8=>?_;refine A7 rfl ⟨c,_,rfl,.inl (HY.of W11.ht.at_),λR hl2=>?_⟩;have nx2:x≠R:=B3 X hl2;have nl2:=new8 (MT m11 (λy=>nx2 (AC.mp y).symm) hl2);refine A7 rfl ⟨x,T.aa,B,_,rfl,by rw[B8 nx2];exact X,T.ad,T.aj,by simp,?_⟩;have k12:Sm [x] W (HU (HU W R (.lst ((st.map rT).map λq=>V.ref q.1))) x (.ins T.aa B (P3 "strikes" (.ref R) [("people",.ref r),("sayings",.ref D)]))):=(Sm.new (Sm.refl _ _) hl2).upd (by simp);have e12:(HU (HU W R (.lst ((st.map rT).map λq=>V.ref q.1))) x (.ins T.aa B (P3 "strikes" (.ref R) [("people",.ref r),("sayings",.ref D)]))) R=some (.lst ((st.map rT).map λq=>V.ref q.1)):=by rw[B8 nx2.symm,A9]
   have x12:(HU (HU W R (.lst ((st.map rT).map λq=>V.ref q.1))) x (.ins T.aa B (P3 "strikes" (.ref R) [("people",.ref r),("sayings",.ref D)]))) x=some (.ins T.aa B [("people",.ref r),("sayings",.ref D),("strikes",.ref R)]):=by rw[A9];rfl
   refine hN8 _ _ ?_;show zFg _ _ _ _ _ _ (HU (HU W R (.lst ((st.map rT).map λq=>V.ref q.1))) x (.ins T.aa B (P3 "strikes" (.ref R) [("people",.ref r),("sayings",.ref D)])));generalize HU (HU W R (.lst ((st.map rT).map λq=>V.ref q.1))) x (.ins T.aa B (P3 "strikes" (.ref R) [("people",.ref r),("sayings",.ref D)]))=M at k12 e12 x12⊢;have W12:=W11.keepX X k12;have T12:=Ap T11 X k12;have O:∀{z:A2} {o:HO},W z=some o->z≠x->M z=some o:=λe n=>k12 _ _ e (nin n);have I:∀{z:A2} {xs:A0 V},W z=some (.lst xs)->z≠x:=λe=>J8 e X (by intro z;cases z);have NW:∀{z:A2} {xs:A0 V},W z=some (.tup xs)->z≠x:=λe=>J8 e X (by intro z;cases z);have p12:=O p11 (I p11);have R12:IQ M D (L.map rS):=⟨O R11.at_ (I R11.at_),λq j=>O (R11.row q j) (NW (R11.row q j))⟩;have S12:∀q∈L,M q.2.2.2.1=some (.lst (q.2.2.2.2.map V.str)):=λq j=>O (S11 q j) (I (S11 q j));have m12:=m11.trans k12;clear O I NW p11 R11 S11 W11 T11 k12 m11 X;refine A7 rfl ⟨d,_,rfl,.inl (HY.of W12.hb),λl3 hl3=>?_⟩;have nx3:x≠l3:=B3 x12 hl3;have nl3:=new8 (MT m12 (λy=>nx3 (AC.mp y).symm) hl3);refine A7 rfl ⟨x,T.aa,B,_,rfl,by rw[B8 nx3];exact x12,T.ad,T.bt,by simp,?_⟩;have k13:Sm [x] M (HU (HU M l3 (.lst (P2 ba))) x (.ins T.aa B (P3 "backs" (.ref l3) [("people",.ref r),("sayings",.ref D),("strikes",.ref R)]))):=(Sm.new (Sm.refl _ _) hl3).upd (by simp);have e13:(HU (HU M l3 (.lst (P2 ba))) x (.ins T.aa B (P3 "backs" (.ref l3) [("people",.ref r),("sayings",.ref D),("strikes",.ref R)]))) l3=some (.lst (P2 ba)):=by rw[B8 nx3.symm,A9]
   have x13:(HU (HU M l3 (.lst (P2 ba))) x (.ins T.aa B (P3 "backs" (.ref l3) [("people",.ref r),("sayings",.ref D),("strikes",.ref R)]))) x=some (.ins T.aa B (wfW r D R l3)):=by rw[A9];rfl
   show Q .non (HU (HU M l3 (.lst (P2 ba))) x (.ins T.aa B (P3 "backs" (.ref l3) [("people",.ref r),("sayings",.ref D),("strikes",.ref R)])));generalize HU (HU M l3 (.lst (P2 ba))) x (.ins T.aa B (P3 "backs" (.ref l3) [("people",.ref r),("sayings",.ref D),("strikes",.ref R)]))=H13 at k13 e13 x13⊢;have O:∀{z:A2} {o:HO},M z=some o->z≠x->H13 z=some o:=λe n=>k13 _ _ e (nin n);have I:∀{z:A2} {xs:A0 V},M z=some (.lst xs)->z≠x:=λe=>J8 e x12 (by intro z;cases z);have NW:∀{z:A2} {xs:A0 V},M z=some (.tup xs)->z≠x:=λe=>J8 e x12 (by intro z;cases z);refine q L H13 (λz o e n=>?_) (Ap T12 x12 k13) dG ⟨B,r,D,R,l3,x13,⟨⟨O p12 (I p12),λq j=>O (W12.hp.row q j) (NW (W12.hp.row q j))⟩,⟨O R12.at_ (I R12.at_),λq j=>O (R12.row q j) (NW (R12.row q j))⟩,λq j=>O (S12 q j) (I (S12 q j)),⟨O e12 (I e12),λq j=>O (W12.ht.row q j) (NW (W12.ht.row q j))⟩,e13,λq j=>O (W12.pb q j) (NW (W12.pb q j))⟩,new8 hl1,nD,nl2,nl3,nS'⟩;have nz:z≠x/\z≠T.ae:=by simpa using n
   exact O (m12 _ _ (k8 z o e nz.2) (nin nz.1)) nz.1
end
def Wk(a:A0 RW)(n:Str):V:=match a.find? λq=>decide (q.2.1=n)with | some q=>.ref q.1 | none=>.non
def Yd{α:Type}{p:α->Bool}{xs:A0 α}{i:Nat}{y:α}(h:xs[i]?=some y)(b:∀q∈xs.take i,p q=false)(e:p y=true):xs.find? p=some y:=by
 induction xs generalizing i with
 | nil=>cases h
 | cons a r c =>
  cases i with
  | zero=>cases h;rw[List.find?_cons_of_pos e]
  | succ i =>
   rw[List.take_succ_cons]at b;have d:=b a (AZ ..);rw[List.find?_cons_of_neg (by rw[d];exact BA)];exact c h λq f=>b q (AQ _ f)
def Fs(a:A0 JK)(n:Str):A6 JK:=a.find? λq=>decide (q.2.1=n)
def O9(st:A0 JD)(n:Str):A6 JD:=st.find? λq=>decide (q.2.1=n)
def zBb(a:A0 JK)(n:Str):Wk (a.map rS) n=match Fs a n with | some q=>.ref q.1 | none=>.non:=by
 unfold Wk Fs;rw[List.find?_map];have e:((λq:RW=>decide (q.2.1=n))∘rS)=λq:JK=>decide (q.2.1=n):=rfl;rw[e];cases a.find? λq:JK=>decide (q.2.1=n)<;>rfl
def zAo(st:A0 JD)(n:Str):Wk (st.map rT) n=match O9 st n with | some q=>.ref q.1 | none=>.non:=by
 unfold Wk O9;rw[List.find?_map];have e:((λq:RW=>decide (q.2.1=n))∘rT)=λq:JD=>decide (q.2.1=n):=rfl;rw[e];cases st.find? λq:JD=>decide (q.2.1=n)<;>rfl
def Jt{α:Type}{J:It}{d:A0 α}{r:α->V}(f:α->V)(p:α->Bool){a D:A2}{H:Hp}(as:NE J (d.map r) a H){g:TG}{n:TT}{o:TE}{σ0:St}{Q:St->Hp->Prop}(S:St->Prop)(B:S σ0)(C:d.length<=5000)(s:H D=none)
  (E:∀y∈d,∀σ G,S σ->CW H G->∀(M:St->VK) (N:St->Hp->Prop),(∀σ' e,S σ'->CW G e->p y=true->M σ' (f y) e)->(∀σ' e,S σ'->CW G e->p y=false->N σ' e)->g (r y) σ G λσ2 F=>n σ2 F λb t=>if b=true then o σ2 t (M σ2)else N σ2 t)
  (q:∀σ G,CW H G->G D=some (.lst ((d.filter p).map f))->Q σ G):Aa g n (X3 D o) J σ0 (HU H D (.lst [])) Q:=by
 refine J6 as (λi σ G=>S σ/\CW H G/\G D=some (.lst (((d.take i).filter p).map f))) ⟨B,CW.new s,A9⟩ (λi σ G _ h=>h.2.1.at a) ?_ ?_
 .rintro i σ G v N u ⟨I,k,l⟩ w;rw[AG]at u;obtain⟨y,x,rfl⟩:=AV.mp u;have K:=AM x;have z:(d.take (i+1)).filter p =(d.take i).filter p++if p y=true then [y]else []:=by
   rw[C7 x,EY,EF,List.filter_nil]
  have L:=BO p (d.take i);rw[AO]at L;refine E y K σ G I k (λσ2 v A=>∃d,A D=some (HO.lst d)/\d.length<sizeLine/\N σ2 (HU A D (HO.lst (d ++ [v])))) N (λσ' e j m c=>⟨_,m _ _ l,?_,w _ _ ⟨j,(k.trans m).upd s,?_⟩⟩) λσ' e j m c=>w _ _ ⟨j,k.trans m,?_⟩
  .rw[AA,sizeLine_eq];lia
  .rw[A9,z,AY c,AF];rfl
  .rw[z,AS (by rw[c];exact BA),CB];exact m _ _ l
 .rintro σ G ⟨_,k,l⟩;rw[AA,BM]at l;exact q σ G k l
def Q4{α:Type}{f:α->Str}{xs:A0 α}{n:Str}(h:n∈xs.map f):∃y,xs.find? (λq=>decide (f q=n))=some y/\y∈xs/\f y=n:=by
 cases e:xs.find? λq=>decide (f q=n)with
 | some y=>exact⟨y,rfl,CG e,BH (List.find?_some (p:=λq=>decide (f q=n)) e)⟩
 | none =>
  obtain⟨y,a,b⟩:=AI.mp h;exact absurd (AJ b) (GR.mp e y a)
section
variable{P:Cv}{w:HS}{K:PySem.W.Frag}{mg:Str->A6 A1}{base:HX}
theorem QC:HW ["rows", "name", "row"] ["rows", "name"] (B6 QW):=KA
def Wb:Sp:=λb H Q _=>∃(l:A2) (a:A0 RW) (n:Str),b = [.ref l,.str n]/\IQ H l a/\a.length<=1000/\Q (Wk a n) H
theorem X2(T:Tx K mg):II P w K mg base JG 1 T.aJ.f T.aJ.fd ["rows", "name"] Wb:=by
 refine T.aJ.F.o1 QC λu A b s H D Q E I h=>?_
 .obtain⟨l,c,n,rfl,d,x,q⟩:=h;refine⟨_,(B2 (P0 PassesOwn.never rfl (JX K (pv 0)) (E4 (i:=2) QC.nd rfl (.inl rfl))
   (B7 (K5 (C9 i0 (D6 (LM K) (pv 2) B4 (λ_ _=>rfl)) (pv 1) (F6 _)) (B7 (C3 (pv 2))) E6)))
   (B7 (C3 m8))),?_⟩
  refine B5 λJ g=>?_;refine A7 rfl ⟨l,rfl,⟨_,HY.of d.at_⟩,V0 (KI (HY.of d.at_)) (λi σ G=>(∃v,σ = [some (.ref l),some (.str n),v])/\G=H/\∀q∈c.take i,decide (q.2.1=n)=false) ?_ ?_ ?_ ?_⟩
  .exact⟨⟨_,rfl⟩,rfl,λq h=>absurd h AL⟩
  .rintro i σ G _ ⟨_,rfl,_⟩ o e;exact e
  .rintro i σ G v t ⟨⟨B,rfl⟩,rfl,a⟩ L k m;rw[AG]at t;obtain⟨y,p,rfl⟩:=AV.mp t;have C:=AM p;refine A7 rfl ⟨y.1,_,C1 rfl rfl ⟨JC.of (d.row y C),B9 (j:=0) rfl,A7 rfl ⟨rfl,_,rfl,g7 (λh=>?_) (λh=>?_)⟩⟩⟩
   .have e:y.2.1=n:=by simpa using h
    refine A7 rfl ?_;rw[m];have r:Wk c n = .ref y.1:=by
     unfold Wk;rw[Yd p a (AJ e)]
    rw[r]at q;exact q
   .have e:decide (y.2.1=n)=false:=by simpa using h
    refine k _ _ ⟨⟨_,rfl⟩,rfl,λz hz=>?_⟩;rw[C7 p]at hz;rcases AH.mp hz with hz | hz
    .exact a z hz
    .rw[AC.mp hz];exact e
  .rintro σ G ⟨⟨B,rfl⟩,rfl,a⟩;rw[AA,BM]at a;refine g _ _ ?_;have r:Wk c n = .non:=by
    unfold Wk;rw[GR.mpr λz hz=>by rw[a z hz];exact BA]
   rw[r]at q;exact q
theorem NO:HW ["weave", "name", "saying"] ["weave", "name"] (B6 OI):=KA
def Vr(C:A2):Sp:=λb H Q _=>∃(x:A2) (c:A0 JJ) (a:A0 JK) (st:A0 JD) (d:A0 IU) (n:Str) (y:JK),b = [.ref x,.str n]/\IV C H x c a st d/\a.length<=30/\Fs a n=some y/\Q (.ref y.1) H
theorem z7(T:Tx K mg):II P w K mg base JG 2 T.aQ.f T.aQ.fd ["weave", "name"] (Vr T.aa):=by
 refine T.aQ.F.o1 NO λk A e s H r Q E l h=>?_
 .obtain⟨x,t,u,st,v,n,y,rfl,⟨B,a,b,c,d,m,W⟩,o,p,q⟩:=h;refine⟨_,(B2 (C2 (i:=2) NO.nd rfl (.inl rfl) (C8 T.aJ (X2 T) (Rm l) (A8 (PQ K (pv 0)) (A8 (pv 1) B0))))
   (B2 (K5 (C9 Pf (pv 2) m8 (F6 _)) (B7 U7) E6)
   (B7 (C3 (pv 2))))),?_⟩
  refine B5 λC g=>?_;refine A7 rfl ⟨x,_,_,_,_,rfl,m,T.ad,T.ai,rfl,A7 rfl ⟨b,_,n,rfl,W.hs,by rw[AA];lia,?_⟩⟩;rw[zBb,p];refine g _ _ (B5 λD j=>?_);exact A7 rfl ⟨rfl,false,congrArg V.bl (BB λz=>by cases z),X0 (j _ _ (A7 rfl q))⟩
end
def mx(ns:A0 Int):Int:=ns.foldr max 0
def zBr:∀ns:A0 Int,0<=mx ns
 | []=>Int.le_refl 0
 | a::r=>Int.le_trans (zBr r) (Int.le_max_right _ _)
def Zy:∀{ns:A0 Int} {a:Int},a∈ns->a<=mx ns
 | b::r,a,h=>by
  rcases A_.mp h with rfl | h
  .exact Int.le_max_left _ _
  .exact Int.le_trans (Zy h) (Int.le_max_right _ _)
def Rl:∀ns:A0 Int,mx ns=0\/mx ns∈ns
 | []=>.inl rfl
 | a::r=>by
  by_cases h:a<=mx r
  .have e:mx (a::r)=mx r:=Int.max_eq_right h;rw[e];exact(Rl r).imp id (AQ _)
  .have e:mx (a::r)=a:=Int.max_eq_left (show mx r<=a by lia);rw[e];exact .inr (AZ ..)
def zFe{ns:A0 Int}{m:Int}(h1:m∈ns)(h2:∀a∈ns,a<=m)(b:∀a∈ns,0<=a):mx ns=m:=by
 have l:=Zy h1;have z:=b m h1;rcases Rl ns with e | e
 .lia
 .have:=h2 _ e;lia
def SU(a:A0 JJ)(ss:A0 Str):Int:=mx ((a.filter λq=>decide (q.2.1∈ss)).map λq=>q.2.2)
def Od(a:A0 JJ)(k:Str)(ss:A0 Str):Int:=if k = "fact" then SU a ss+10 else SU a ss
def d9(a:A0 JJ)(b:A0 JK)(st:A0 JD)(n:Str):A6 Int:=(Fs b (match O9 st n with | some q=>q.2.2.1 | none=>n)).map λq=>Od a q.2.2.1 q.2.2.2.2
section
variable{P:Cv}{w:HS}{K:PySem.W.Frag}{mg:Str->A6 A1}{base:HX}
theorem I7:HW ["weave", "saying", "name", "kind", "speakers", "greatest"] ["weave", "saying"] (B6 KP):=KA
def Rc(C:A2):Sp:=λd H Q _=>∃(x t l:A2) (a:A0 JJ) (e:A0 JK) (st:A0 JD) (f:A0 IU) (n k:Str) (b:A0 Str),d = [.ref x,.ref t]/\IV C H x a e st f/\a.length<=30/\H t=some (.tup [.str n,.str k,.ref l])/\H l=some (.lst (b.map V.str))/\(∀q∈a,0<=q.2.2)/\∀c,CW H c->Q (.int (Od a k b)) c
set_option maxHeartbeats 2000000 in
theorem R0(T:Tx K mg):II P w K mg base JG 1 T.ao.f T.ao.fd ["weave", "saying"] (Rc T.aa):=by
 refine T.ao.F.o1 I7 λY A r s H vs Q E hr h=>?_
 .obtain⟨x,t,l,u,sa,st,ba,n,k,o,rfl,⟨dx,a,b,c,d,Z,W⟩,l30,et,el,nn,q⟩:=h;refine⟨_,(B2 (Ip (pv 1) (Q_ K (n:=3) (C6 (E4 (i:=2) I7.nd rfl (.inl rfl)) (C6 (E4 (i:=3) I7.nd rfl (.inl rfl)) (C6 (E4 (i:=4) I7.nd rfl (.inr rfl)) J9)))))
   (B2 (C2 (i:=5) I7.nd rfl (.inl rfl) (zAx K T.b4 (A8 (J1 (N':=["person", "rank", "speakers"]) (cap:=[none,none,some 4]) (cl:=[("speakers",_)]) (E9 ⟨⟨rfl,rfl,rfl,rfl⟩,trivial⟩ ⟨rfl,trivial⟩) rfl (JX K (PQ K (pv 0))) (λ_ _ _ _=>by exact⟨(Q_ K (n:=2) (C6 (JQ 0) (C6 (JQ 1) J9))),(J5 (C9 (U9 K) (pv 0) (pv 2) rfl)),(pv 1)⟩)) B0) B4))
   (B7 (C3 (Mu (C9 i0 (pv 3) E3 (F6 _)) (F9 V2 (pv 5) (Zq T.bQ)) (pv 5)))))),?_⟩
  refine B5 λN1 v=>?_;refine A7 rfl ⟨t,A7 rfl ⟨JC.of et,rfl,_,A7 rfl ⟨_,A7 rfl (C1 rfl rfl ?_)⟩⟩⟩;refine v _ _ (B5 λN2 B=>?_);refine A7 rfl ⟨x,_,_,_,_,rfl,Z,T.ad,T.bn,rfl,a,rfl,⟨_,HY.of W.hp.at_⟩,λD hD=>?_⟩;have g:=KI (K:=K) (HY.of W.hp.at_);rw[AN]at g;refine Jt (λq:JJ=>V.int q.2.2) (λq:JJ=>decide (q.2.1∈o)) g (λσ=>∃L O,σ = [L,O,some (.ref l)]) ⟨_,_,rfl⟩ (by lia) hD ?_ λσ p R e1=>?_
  .rintro y C σ G ⟨L,O,rfl⟩ S M N hM hN;have ey:=S _ _ (W.hp.row (rP y) (AI.mpr ⟨y,C,rfl⟩));refine⟨y.1,A7 rfl ⟨JC.of ey,rfl,_,A7 rfl (C1 rfl rfl ?_)⟩⟩;refine A7 rfl (A7 rfl (J3 (x:=y.2.1) (.inl (HY.of (S _ _ el))) ⟨_,rfl,g7 (λh=>A7 rfl (hM _ _ ⟨_,_,rfl⟩ (λ_ _ z=>z) h)) (λh=>hN _ _ ⟨_,_,rfl⟩ (λ_ _ z=>z) (DG.mpr h))⟩))
  have I:p D=some (.lst (((u.filter λq=>decide (q.2.1∈o)).map λq=>q.2.2).map V.int)):=by rw[e1,AN];rfl
  have j:∀m,m=SU u o->N2 [some (.ref x),some (.ref t),some (.str n),some (.str k),some (.ref l),some (.int m)] p:=λm em=>by
   refine B _ _ ?_;have U:∀b:Bool,(b=true↔k = "fact")->Od u k o=if b=true then m+10 else m:=λb X=>by
    unfold Od;rw[<-em];by_cases h:k = "fact"
    .rw[AY h,AY (X.mpr h)]
    .rw[AS h,AS λz=>h (X.mp z)]
   refine A7 rfl ⟨rfl,_,rfl,g7 (λh=>?_) (λh=>?_)⟩
   .have e:k = "fact":=by simpa using h
    have:=q p R;rw[U true ⟨λ_=>e,λ_=>rfl⟩,AY rfl]at this;exact A7 rfl (C1 rfl rfl this)
   .have e:¬k = "fact":=by simpa using h
    have:=q p R;rw[U false ⟨λz=>(BA z).elim,λz=>(e z).elim⟩,AS BA]at this;exact A7 rfl this
  refine⟨D,_,0,rfl,rfl,HY.of I,λe=>j 0 ?_,λm hm J=>j m ?_⟩
  .unfold SU;rw[e];rfl
  .refine(zFe hm J λz hz=>?_).symm;obtain⟨y,C,rfl⟩:=AI.mp hz;exact nn y (BV.mp C).1
theorem OE:HW ["weave", "name", "strike"] ["weave", "name"] (B6 PD):=KA
def Tc(C:A2):Sp:=λd H Q _=>∃(x:A2) (a:A0 JJ) (b:A0 JK) (st:A0 JD) (e:A0 IU) (n:Str) (v:Int),d = [.ref x,.str n]/\IV C H x a b st e/\(a.length<=30/\b.length<=30/\st.length<=30)/\(∀q∈a,0<=q.2.2)/\d9 a b st n=some v/\∀c,CW H c->Q (.int v) c
set_option maxHeartbeats 2000000 in
theorem Bf(T:Tx K mg):II P w K mg base JG 3 T.aV.f T.aV.fd ["weave", "name"] (Tc T.aa):=by
 refine T.aV.F.o1 OE λL A B s H U Q E m h=>?_
 .obtain⟨x,t,k,st,C,n,v,rfl,u,⟨M,N,X⟩,O,o,q⟩:=h;obtain⟨R,a,b,c,d,D,W⟩:=u;have u:IV T.aa H x t k st C:=⟨R,a,b,c,d,D,W⟩;refine⟨_,(B2 (C2 (i:=2) OE.nd rfl (.inl rfl) (C8 T.aJ (X2 T) (Rm m) (A8 (PQ K (pv 0)) (A8 (pv 1) B0))))
   (B2 (K5 (C9 Pr (pv 2) m8 (F6 _)) (B7 (C3 (C8 T.ao (R0 T) (Rm m) (A8 (pv 0) (A8 (C8 T.aJ (X2 T) (Rm m) (A8 (PQ K (pv 0)) (A8 (D6 (LM K) (pv 2) B4 (λ_ _=>rfl)) B0))) B0))))) E6)
   (B7 (C3 (C8 T.ao (R0 T) (Rm m) (A8 (pv 0) (A8 (C8 T.aQ (z7 T) (Rm m) (A8 (pv 0) (A8 (pv 1) B0))) B0))))))),?_⟩
  refine B5 λY G=>?_;refine A7 rfl ⟨x,_,_,_,_,rfl,D,T.ad,T.aj,rfl,A7 rfl ⟨c,_,n,rfl,W.ht,by rw[AA];lia,?_⟩⟩;rw[zAo];have p:∀y:JK,y∈k->v=Od t y.2.2.1 y.2.2.2.2->Rc T.aa [.ref x,.ref y.1] H Q E0:=λy l e =>
   ⟨x,y.1,y.2.2.2.1,t,k,st,C,y.2.1,y.2.2.1,y.2.2.2.2,rfl,u,M,W.hs.row (rS y) (AI.mpr ⟨y,l,rfl⟩),W.sp y l,O,by rw[<-e];exact q⟩
  unfold d9 at o;refine G _ _ (B5 λZ I=>?_);cases J:O9 st n with
  | some z =>
   rw[J]at o;obtain⟨y,r,g⟩:=AV.mp o;have S:z∈st:=CG J;have l:y∈k:=CG r;refine A7 rfl ⟨rfl,true,congrArg (λb=>V.bl !b) (BB λz=>by cases z),g9 ?_⟩;refine A7 rfl (A7 rfl ⟨x,_,_,_,_,rfl,D,T.ad,T.ai,rfl,A7 rfl ⟨z.1,_,C1 rfl rfl ⟨JC.of (W.ht.row (rT z) (AI.mpr ⟨z,S,rfl⟩)),B9 (j:=1) rfl,b,_,z.2.2.1,rfl,W.hs,by rw[AA];lia,?_⟩⟩⟩);rw[zBb,r];exact p y l g.symm
  | none =>
   rw[J]at o;obtain⟨y,r,g⟩:=AV.mp o;have l:y∈k:=CG r;refine A7 rfl ⟨rfl,false,congrArg (λb=>V.bl !b) (AJ rfl),X0 (I _ _ ?_)⟩;exact A7 rfl (A7 rfl (A7 rfl ⟨x,t,k,st,C,n,y,rfl,u,N,r,p y l g.symm⟩))
theorem Jo:HW ["weave"] ["weave"] (B6 PN):=KA
def OV(a:A0 JJ)(b:A0 JK)(st:A0 JD):A0 JD:=st.filter λq=>decide ((d9 a b st q.2.1).getD 0 ≥ (d9 a b st q.2.2.2).getD 0)
def Jh(C:A2):Sp:=λf H Q _=>∃(x:A2) (a:A0 JJ) (b:A0 JK) (st:A0 JD) (e:A0 IU),f = [.ref x]/\IV C H x a b st e/\PV a b st e/\∀(l:A2) (c:A0 Str) d,CW H d->H l=none->d l=some (.lst (c.map V.str))->c.Perm (nT (OV a b st))->c.Pairwise QL->Q (.ref l) d
theorem PV.strong{b:A0 JJ}{a:A0 JK}{st:A0 JD}{c:A0 IU}(h:PV b a st c){n:Str}(d:n∈nS a\/n∈nT st):∃v,d9 b a st n=some v:=by
 unfold d9;have say:∀m,m∈nS a->∃v,(Fs a m).map (λq=>Od b q.2.2.1 q.2.2.2.2)=some v:=λm g=>by
  obtain⟨y,e,_⟩:=Q4 (f:=λq:JK=>q.2.1) g;exact⟨_,by unfold Fs;rw[e];rfl⟩
 cases e:O9 st n with
 | some z=>exact say _ (h.tg z (CG e)).1
 | none =>
  refine say n (d.resolve_right λm=>?_);obtain⟨y,i,_⟩:=Q4 (f:=λq:JD=>q.2.1) m;unfold O9 at e;rw[i]at e;cases e
set_option maxHeartbeats 2000000 in
theorem Ki(T:Tx K mg):II P w K mg base JG 4 T.bb.f T.bb.fd ["weave"] (Jh T.aa):=by
 refine T.bb.F.o1 Jo λcdv A m s H vs Q E z h=>?_
 .obtain⟨x,e,g,st,o,rfl,k,i,q⟩:=h;refine⟨_,(B7 (C3 (G0 (O7 K) T.ag J0 (A8 (J1 (N':=["name", "one", "goal", "weave"]) (cap:=[none,none,none,some 0]) (cl:=[("weave",_)]) (E9 ⟨⟨rfl,rfl,rfl,rfl⟩,trivial⟩ ⟨rfl,trivial⟩) rfl (JX K (PQ K (pv 0))) (λ_ _ _ _=>by exact⟨(Q_ K (n:=3) (C6 (JQ 0) (C6 (JQ 1) (C6 (JQ 2) J9)))),(J5 (C9 zAa (C8 T.aV (Bf T) (Rm z) (A8 (pv 3) (A8 (pv 0) B0))) (C8 T.aV (Bf T) (Rm z) (A8 (pv 3) (A8 (pv 2) B0))) (F6 _))),(pv 0)⟩)) B0)))),?_⟩;obtain⟨dx,a,b,c,d,B,W⟩:=k;have k:IV T.aa H x e g st o:=⟨dx,a,b,c,d,B,W⟩;obtain⟨C,I,J,l4⟩:=i.len;refine A7 rfl ⟨x,_,_,_,_,rfl,B,T.ad,T.aj,rfl,c,rfl,⟨_,HY.of W.ht.at_⟩,λD hD=>?_⟩;have j:=KI (K:=K) (HY.of W.ht.at_);rw[AN]at j;refine Jt (λq:JD=>V.str q.2.1) (λq:JD=>decide ((d9 e g st q.2.1).getD 0 ≥ (d9 e g st q.2.2.2).getD 0)) j (λσ=>∃L O R,σ = [L,O,R,some (.ref x)]) ⟨_,_,_,rfl⟩ (by lia) hD ?_ λσ H1 S e1=>?_
  .rintro y p σ G ⟨L,O,R,rfl⟩ r M N U X;have ey:=r _ _ (W.ht.row (rT y) (AI.mpr ⟨y,p,rfl⟩));obtain⟨v,Y⟩:=i.strong (n:=y.2.1) (.inr (AI.mpr ⟨y,p,rfl⟩));obtain⟨u,Z⟩:=i.strong (n:=y.2.2.2) (i.tg y p).2;have nn:∀q∈e,0<=q.2.2:=λq hq=>(i.pm q hq).2.1;refine⟨y.1,A7 rfl ⟨JC.of ey,rfl,_,A7 rfl ⟨_,A7 rfl (C1 rfl rfl ?_)⟩⟩⟩;refine A7 rfl (A7 rfl ⟨x,e,g,st,o,y.2.1,v,rfl,k.same r,⟨C,I,J⟩,nn,Y,λG1 t=>?_⟩);refine A7 rfl (A7 rfl ⟨x,e,g,st,o,y.2.2.2,u,rfl,(k.same r).same t,⟨C,I,J⟩,nn,Z,λG2 t2=>?_⟩);rw[Y,Z]at U X;exact C1 rfl rfl ⟨_,rfl,g7 (λh=>A7 rfl (U _ _ ⟨_,_,_,rfl⟩ (t.trans t2) h)) (λh=>X _ _ ⟨_,_,_,rfl⟩ (t.trans t2) (DG.mpr h))⟩
  refine⟨D,nT (OV e g st),rfl,HY.of (by rw[e1];unfold nT OV;rw[AN];rfl),λl ms hl pm sr=>?_⟩;exact q l ms _ (S.trans (CW.new hl)) (MT S.sm AL hl) A9 pm sr
end
def QV(nx:Str->A0 Str)(ss:A0 Str)(x:Str):Prop:=∀S:Str->Prop,(∀y∈ss,S y)->(∀y z,S y->z∈nx y->S z)->S x
def QV.of{nx:Str->A0 Str}{ss:A0 Str}{x:Str}(h:x∈ss):QV nx ss x:=λ_ a _=>a x h
def QV.step{nx:Str->A0 Str}{ss:A0 Str}{y z:Str}(h:QV nx ss y)(b:z∈nx y):QV nx ss z:=λS c a=>a y z (h S c a) b
def U3:∀{l m:A0 Str},l.Nodup->(∀x∈l,x∈m)->l.length<=m.length
 | [],_,_,_=>BR _
 | x::l,m,c,h=>by
  obtain⟨d,e⟩:=B_.mp c;have a:=h x (AZ ..);have f:=U3 (m:=m.erase x) e λy b=>(List.mem_erase_of_ne (λz:y=x=>d (z▸b))).mpr (h y (AQ _ b));rw[List.length_erase_of_mem a]at f;have:=List.length_pos_of_mem a;rw[BK];lia
structure RI(nx:Str->A0 Str)(ns ss se wa:A0 Str)(ex:Str->Prop):Prop where
 nd:se.Nodup
 ndw:wa.Nodup
 sub:∀x∈se,x∈ns
 rch:∀x∈se,QV nx ss x
 beg:∀x∈ss,x∈se
 wai:∀x∈wa,x∈se
 cl:∀x∈se,x∈wa\/ex x\/∀y∈nx x,y∈se
abbrev VG:Str->Prop:=λ_=>False
section
variable{nx:Str->A0 Str}{ns ss se wa:A0 Str}{ex:Str->Prop}
theorem Tt{l:A0 Str}{x:Str}(d:l.Nodup)(f:x∉l):(l ++ [x]).Nodup :=
 BU.mpr ⟨d,B_.mpr ⟨AL,C_⟩,λa g b c e=>f (by rw[AC]at c;exact c▸e▸g)⟩
theorem RI.init(a:ss.Nodup)(sub:∀x∈ss,x∈ns):RI nx ns ss ss ss VG:=⟨a,a,sub,λ_ h=>.of h,λ_ h=>h,λ_ h=>h,λ_ h=>.inl h⟩
theorem RI.add(h:RI nx ns ss se wa ex){x:Str}(b:x∉se)(c:x∈ns)(d:QV nx ss x):RI nx ns ss (se ++ [x]) (wa ++ [x]) ex where
 nd:=Tt h.nd b
 ndw:=Tt h.ndw λz=>b (h.wai x z)
 sub:=λy a=>(AH.mp a).elim (h.sub y) λz=>AC.mp z▸c
 rch:=λy a=>(AH.mp a).elim (h.rch y) λz=>AC.mp z▸d
 beg:=λy a=>BS _ (h.beg y a)
 wai:=λy a=>(AH.mp a).elim (λz=>BS _ (h.wai y z)) λz=>BJ _ z
 cl:=λy a=>(AH.mp a).elim (λz=>(h.cl y z).elim (λq=>.inl (BS _ q)) λq=>.inr (q.elim .inl λq=>.inr λv e=>BS _ (q v e))) λz=>.inl (BJ _ z)
theorem RI.pop(h:RI nx ns ss se wa VG){a:A0 Str}{x:Str}(c:a.Nodup)(h1:∀y∈wa,y∈a\/y=x)(h2:∀y∈a,y∈wa):RI nx ns ss se a (λy=>y=x) :=
 ⟨h.nd,c,h.sub,h.rch,h.beg,λy b=>h.wai y (h2 y b),λy b=>(h.cl y b).elim (λq=>(h1 y q).elim .inl λz=>.inr (.inl z)) λq=>q.elim (λz=>z.elim) λz=>.inr (.inr z)⟩
theorem RI.done{x:Str}(h:RI nx ns ss se wa (λy=>y=x))(a:∀y∈nx x,y∈se):RI nx ns ss se wa VG :=
 ⟨h.nd,h.ndw,h.sub,h.rch,h.beg,h.wai,λy b=>(h.cl y b).elim .inl λq=>.inr (.inr (q.elim (λz=>z▸a) id))⟩
theorem RI.fin(h:RI nx ns ss se [] VG)(x:Str):x∈se↔QV nx ss x :=
 ⟨h.rch x,λr=>r (·∈se) h.beg λy z a b=>(h.cl y a).elim (λq=>absurd q AL) λq=>q.elim (λz=>z.elim) λq=>q z b⟩
theorem RI.len(h:RI nx ns ss se wa ex):se.length<=ns.length:=U3 h.nd h.sub
theorem RI.lenw(h:RI nx ns ss se wa ex):wa.length<=ns.length:=U3 h.ndw λx a=>h.sub x (h.wai x a)
end
def Vw{n e w m:Nat}(h:e+1<=n)(a:2 *(n-e)+w<m):2 *(n-(e+1)) +(w+1)<m:=by
 have b:n-(e+1)+1=n-e:=Nat.succ_pred_eq_of_pos (GU h);rw[<-b]at a;lia
def MU(H:Hp)(a:A0 (IL×V))(ns:A0 Str)(nx:Str->A0 Str):Prop:=∀n∈ns,∃l,U1 a (.inr n)=some (.ref l)/\H l=some (.lst ((nx n).map V.str))
def zHo(H:Hp)(ns ss:A0 Str)(nx:Str->A0 Str)(Q:VK):Prop:=∀(l:A2) (a:A0 Str) (b:Hp),CW H b->H l=none->b l=some (.lst (a.map V.str))->a.Nodup->a.Pairwise QL->(∀x,x∈a↔QV nx ss x)->(∀x∈a,x∈ns)->Q (.ref l) b
def Nh(K:PySem.W.Frag):Sp:=λg H Q _=>∃(d a:A2) (c:A0 (IL×V)) (b e:A0 Str) (f:Str->A0 Str),g = [.ref d,.ref a]/\H d=some (.dK c)/\MU H c b f/\(∀n∈b,∀y∈f n,y∈b)/\b.length<=100/\(∀y∈e,y∈b)/\e.Nodup/\VL K H a (e.map V.str)/\zHo H b e f Q
section
variable{P:Cv}{w:HS}{K:PySem.W.Frag}{mg:Str->A6 A1}{base:HX}
theorem zBg{H:Hp}{p:A2}{x:Str}{a:A0 Str}{Q:VK}(e:H p=some (Y8 w p a))(q:Q (.bl (!decide (x∈a))) H):zGr w true (.str x) (.ref p) H Q:=⟨p,a,x,rfl,rfl,e,q⟩
theorem KH:HW ["steps", "some", "seen", "waiting", "here", "name"] ["steps", "some"] (B6 QF):=KA
set_option maxHeartbeats 1000000 in
theorem Ox(T:Tx K mg):II P w K mg base JG 1 T.bk.f T.bk.fd ["steps", "some"] (Nh K):=by
 refine T.bk.F.o1 KH λcdv A outer s H vs Q E hr h=>?_
 .obtain⟨d,a,kvs,L,g,M,rfl,hd,hv,hc,hl,B,C,hS,k⟩:=h;have hu:=U0 hr;refine⟨_,(B2 (C2 (i:=2) KH.nd rfl (.inl rfl) (V4 (Kv K w) T.bi Cu (A8 (pv 1) B0)))
   (B2 (C2 (i:=3) KH.nd rfl (.inl rfl) (V4 (a7 K) T.aN X4 (A8 (pv 1) B0)))
   (B2 (Aq PassesOwn.never (ptV K (pv 3)) (B2 (C2 (i:=4) KH.nd rfl (.inl rfl) (zEq K PySem.F.plainAttrs_list PySem.F.slot_list_pop PySem.F.type_list_pop zBy (pv 3)))
   (B7 (P0 PassesOwn.never rfl (JX K (X1 hu (pv 0) (pv 4) (λ_ _=>rfl))) (E4 (i:=5) KH.nd rfl (.inl rfl))
   (B7 (K5 (C9 Ei (pv 5) (pv 2) rfl) (B2 (G9 (Qq P w (zEf w) (pv 2) (A8 (pv 5) B0)))
   (B7 (G9 (Ln K PySem.F.plainAttrs_list PySem.F.slot_list_append PySem.F.type_list_append M0 (pv 3) (A8 (pv 5) B0))))) E6))))))
   (B7 (C3 (G0 (Er w) T.ag J0 (A8 (pv 2) B0))))))),?_⟩
  have hls:=U3 C B;refine B5 λZ1 hZ1=>?_;refine A7 rfl ⟨a,g,rfl,hS,C,by lia,λp hp=>?_⟩;have u1:=CW.new (o:=Y8 w p g) hp;have f1:(HU H p (Y8 w p g)) p=some (Y8 w p g):=A9;generalize HU H p (Y8 w p g)=H1 at u1 f1⊢;refine hZ1 _ _ (B5 λZ2 hZ2=>?_);refine A7 rfl ⟨a,_,rfl,(u1.at a).seq hS,λq hq=>?_⟩;have u2:=CW.new (o:=.lst (g.map V.str)) hq;have f2:(HU H1 q (.lst (g.map V.str))) q=some (.lst (g.map V.str)):=A9;generalize HU H1 q (.lst (g.map V.str))=H2 at u2 f2⊢;have D:p≠q:=B3 f1 hq;have S:=u1.free hq;refine hZ2 _ _ (B5 λZ3 hZ3=>?_);refine⟨λm σ G=>∃v4 N r U,σ = [some (.ref d),some (.ref a),some (.ref p),some (.ref q),v4,N]/\m=2 *(L.length-r.length)+U.length/\CW H G/\G p=some (Y8 w p r)/\G q=some (.lst (U.map V.str))/\RI M L g r U VG,
   ⟨_,none,none,g,g,rfl,rfl,u1.trans u2,u2 _ _ f1,f2,.init C B⟩,?_⟩
  rintro m σ G ⟨v4,N,r,U,rfl,rfl,s3,e3,g3,I⟩;refine A7 rfl ⟨_,.inl ⟨_,HY.of g3,rfl⟩,?_⟩;rcases List.eq_nil_or_concat U with rfl | ⟨e,x,rfl⟩
  .refine X0 (hZ3 _ _ ?_);refine A7 rfl ⟨p,r,rfl,e3,λl ts hl pm so=>?_⟩;have u4:=CW.new (o:=.lst (ts.map V.str)) hl;exact k l ts _ (s3.trans u4) (s3.free hl) A9 (pm.nodup_iff.mpr I.nd) so (λy=>pm.mem_iff.trans (I.fin y)) λy t=>I.sub y (pm.mem_iff.mp t)
  .rw[List.concat_eq_append]at *;rw[AY (by simp)];refine⟨_,λ_ _ z=>z,B5 λN1 hN1=>?_⟩;have R4:RI M L g r e (λy=>y=x):=I.pop (BU.mp I.ndw).1 (λy t=>(AH.mp t).imp id AC.mp) λy t=>BS _ t;have hx:x∈r:=I.wai x (BJ _ (AC.mpr rfl));refine A7 rfl ⟨.inl ⟨rfl,_,HY.of g3⟩,q,_,.str x,rfl,rfl,g3,by simp,?_⟩;have ed:((e ++ [x]).map V.str).dropLast=e.map V.str:=by simp
   rw[ed];have s4:=s3.upd (o:=.lst (e.map V.str)) S;have g4:(HU G q (.lst (e.map V.str))) q=some (.lst (e.map V.str)):=A9;have e4:(HU G q (.lst (e.map V.str))) p=some (Y8 w p r):=(B8 D).trans e3;generalize HU G q (.lst (e.map V.str))=H4 at s4 g4 e4⊢;refine hN1 _ _ ?_;obtain⟨l,vl,el⟩:=hv x (I.sub x hx);refine A7 rfl (A7 rfl ⟨d,.ref l,rfl,by rw[<-vl];exact KD.k (k:=Sum.inr x) (s4 _ _ hd),l,rfl,⟨_,HY.of (s4 _ _ el)⟩,?_⟩);refine V0 (KI (K:=K) (HY.of el)) (λi σ u=>∃N b c,σ = [some (.ref d),some (.ref a),some (.ref p),some (.ref q),some (.str x),N]/\2 *(L.length-b.length)+c.length<2 *(L.length-r.length) +(e ++ [x]).length/\CW H u/\u p=some (Y8 w p b)/\u q=some (.lst (c.map V.str))/\RI M L g b c (λy=>y=x)/\x∈b/\∀y∈(M x).take i,y∈b)
    ⟨_,r,e,rfl,by rw[AW];exact FG _,s4,e4,g4,R4,hx,λy t=>absurd t AL⟩ ?_ ?_ ?_
   .rintro i σ u _ ⟨_,_,_,_,_,O,_⟩;exact O.at l
   .rintro i σ u v W ⟨N,b,c,rfl,hm,O,R,g5,J,j,t5⟩ D1 X _;rw[AG]at W;obtain⟨y,t,rfl⟩:=AV.mp W;have Y:y∈M x:=AM t;have ht:∀{n:A0 Str},(∀z∈b,z∈n)->y∈n->∀z∈(M x).take (i+1),z∈n:=λh1 h2 z hz=>by
     rw[C7 t]at hz;exact(AH.mp hz).elim (λq=>h1 z (t5 z q)) λq=>AC.mp q▸h2
    refine A7 rfl (A7 rfl (zBg R ⟨_,rfl,g7 (λh=>?_) λh=>?_⟩))
    .have Z:y∉b:=λz=>by rw[AJ z]at h;cases h
     have en:Nl b y=b ++ [y]:=AS Z;have R6:=J.add Z (hc x (J.sub x j) y Y) ((J.rch x j).step Y);have l6:=R6.len;have lw:=J.lenw;refine B5 λO1 hO1=>?_;refine A7 rfl ⟨⟨p,rfl,.inr (.inl ⟨_,R⟩)⟩,A7 rfl ⟨p,b,y,rfl,rfl,R,by rw[AW,EE]at l6;lia,?_⟩⟩;rw[en];have s6:=O.upd (o:=Y8 w p (b ++ [y])) hp;have e6:(HU u p (Y8 w p (b ++ [y]))) p=some (Y8 w p (b ++ [y])):=A9;have g6:(HU u p (Y8 w p (b ++ [y]))) q=some (.lst (c.map V.str)):=(B8 D.symm).trans g5;generalize HU u p (Y8 w p (b ++ [y]))=H6 at s6 e6 g6⊢;refine hO1 _ _ ?_;refine A7 rfl ⟨.inl ⟨rfl,_,HY.of g6⟩,A7 rfl ⟨q,_,_,rfl,rfl,g6,by rw[AA,sizeLine_eq];lia,X _ _ ⟨_,b ++ [y],c ++ [y],rfl,?_,s6.upd S,(B8 D).trans e6,?_,R6,BS _ j,ht (λz hz=>BS _ hz) (BJ _ (AC.mpr rfl))⟩⟩⟩
     .rw[AW,EE]at l6⊢;rw[AW,EE];exact Vw l6 hm
     .rw[A9,AF];rfl
    .have hys:y∈b:=by
      by_cases z:y∈b
      .exact z
      .rw[BB z]at h;exact absurd rfl h
     exact X _ _ ⟨_,b,c,rfl,hm,O,R,g5,J,j,ht (λ_ z=>z) hys⟩
   .rintro σ u ⟨N,b,c,rfl,hm,O,R,g5,J,j,t5⟩;rw[AA,BM]at t5;exact⟨_,hm,_,_,b,c,rfl,rfl,O,R,g5,J.done t5⟩
end
def Uu{J:It}{a:A2}{ns:A0 Str}{H:Hp}{Q:St->Hp->Prop}{w:TE}{nx:Str->A0 Str}{o:A6 V}(as:NE J (ns.map V.str) a H)(M:ns.length<=1000){D:A2}(y:H D=none)
  (F:∀n∈ns,∀c,CW H c->∀A:VK,(∀l f,CW c f->c l=none->f l=some (.lst ((nx n).map V.str))->A (.ref l) f)->w [some (.str n),o] c A)
  (q:∀σ b H',CW H H'->H' D=some (.dK b)->MU H' b ns nx->Q σ H') :
  Aa (P9 0) V7 (Ix D (Jw 0) w) J [none,o] (HU H D (.dK [])) Q:=by
 refine J6 as (λi σ c=>(∃v,σ = [v,o])/\∃b,CW H c/\c D=some (.dK b)/\b.length<=i/\∀n∈ns.take i,∃l,l≠D/\U1 b (.inr n)=some (.ref l)/\c l=some (.lst ((nx n).map V.str)))
  ⟨⟨_,rfl⟩,[],CW.new y,A9,BR _,λn h=>absurd h AL⟩ (λi σ c _ ⟨_,b,d,_⟩=>d.at a) ?_ ?_
 .rintro i σ c x N B ⟨⟨v,rfl⟩,b,d,g,G,j⟩ I;rw[AG]at B;obtain⟨m,r,rfl⟩:=AV.mp B;have O:i<ns.length:=(AR.mp r).1;refine S3 ?_;refine A7 rfl (F m (AM r) c d _ λp f s K L=>?_);refine⟨b,.inr m,s _ _ g,rfl,by rw[sizeLine_eq];lia,I _ _ ⟨⟨_,rfl⟩,i7 b (.inr m) (.ref p),(d.trans s).upd y,A9,?_,λn k=>?_⟩⟩
  .have:=Q7 b (Sum.inr m:IL) (.ref p);lia
  .rw[Cg];by_cases e:n=m
   .rw[AY e,e];have C:p≠D:=(B3 g K).symm;exact⟨p,C,rfl,(B8 C).trans L⟩
   .rw[AS e];rw[C7 r]at k;obtain⟨l,E,t,u⟩:=j n ((AH.mp k).elim id λz=>absurd (AC.mp z) e);exact⟨l,E,t,(B8 E).trans (s _ _ u)⟩
 .rintro σ c ⟨_,b,d,g,G,j⟩;rw[AA,BM]at j;exact q σ b c d g λn k=>let⟨l,_,t,u⟩:=j n k;⟨l,t,u⟩
def z9(a:A0 IU)(n:Str):A0 Str:=(a.filter λq=>decide (q.2.2=n)).map λq=>q.2.1
structure SZ(ba:A0 IU)(n:Str)(ms:A0 Str):Prop where
 nd:ms.Nodup
 so:ms.Pairwise QL
 mem:∀x,x∈ms↔(QV (z9 ba) [n] x/\x≠n)
structure SD(sa:A0 JK)(ba:A0 IU)(g:Str)(ms:A0 Str):Prop where
 nd:ms.Nodup
 so:ms.Pairwise QL
 mem:∀x,x∈ms↔(if g∈nS sa then QV (z9 ba) [g] x else x=g)
def Mr{c:A0 JJ}{a:A0 JK}{st:A0 JD}{b:A0 IU}(d:PV c a st b)(n:Str):∀y∈z9 b n,y∈nS a:=λy e=>by
 obtain⟨q,f,rfl⟩:=AI.mp e;exact(d.bk q (BV.mp f).1).1
def Pn{c:A0 JJ}{a:A0 JK}{st:A0 JD}{b:A0 IU}(d:PV c a st b){n x:Str}(e:n∈nS a)(h:QV (z9 b) [n] x):x∈nS a :=
 h (·∈nS a) (λy f=>by rw[AC.mp f];exact e) λy z _ g=>Mr d y z g
def Vq{c:A0 IU}(h:(c.map λq=>q.2).Nodup)(n:Str):(z9 c n).Nodup:=by
 unfold z9;have d:((c.filter λq=>decide (q.2.2=n)).map λq=>q.2).Nodup:=h.sublist (List.Sublist.map _ ES);have f:∀q∈c.filter (λq=>decide (q.2.2=n)),q.2.2=n:=λq b=>BH (BV.mp b).2;generalize c.filter (λq=>decide (q.2.2=n))=l at d f
 induction l with
 | nil=>exact C_
 | cons a r g =>
  rw[BP,B_]at d⊢;refine⟨λz=>d.1 ?_,g d.2 λq b=>f q (AQ _ b)⟩;obtain⟨q,b,e⟩:=AI.mp z;exact AI.mpr ⟨q,b,Prod.ext e ((f q (AQ _ b)).trans (f a (AZ ..)).symm)⟩
section
variable{P:Cv}{w:HS}{K:PySem.W.Frag}{mg:Str->A6 A1}{base:HX}
theorem NN:HW ["weave", "name", "strike"] ["weave", "name"] (B6 OH):=KA
def Kk(C:A2):Sp:=λa H Q _=>∃(x:A2) (b:A0 JJ) (c:A0 JK) (st:A0 JD) (d:A0 IU) (n:Str) (y:JD),a = [.ref x,.str n]/\IV C H x b c st d/\st.length<=30/\O9 st n=some y/\Q (.ref y.1) H
theorem Ge(T:Tx K mg):II P w K mg base JG 2 T.a4.f T.a4.fd ["weave", "name"] (Kk T.aa):=by
 refine T.a4.F.o1 NN λk A e s H r Q E l h=>?_
 .obtain⟨x,t,u,st,v,n,y,rfl,⟨B,a,b,c,d,m,W⟩,o,p,q⟩:=h;refine⟨_,(B2 (C2 (i:=2) NN.nd rfl (.inl rfl) (C8 T.aJ (X2 T) (Rm l) (A8 (PQ K (pv 0)) (A8 (pv 1) B0))))
   (B2 (K5 (C9 Pf (pv 2) m8 (F6 _)) (B7 U7) E6)
   (B7 (C3 (pv 2))))),?_⟩
  refine B5 λC g=>?_;refine A7 rfl ⟨x,_,_,_,_,rfl,m,T.ad,T.aj,rfl,A7 rfl ⟨c,_,n,rfl,W.ht,by rw[AA];lia,?_⟩⟩;rw[zAo,p];refine g _ _ (B5 λD j=>?_);exact A7 rfl ⟨rfl,false,congrArg V.bl (BB λz=>by cases z),X0 (j _ _ (A7 rfl q))⟩
theorem NG:HW ["weave", "name", "known", "steps"] ["weave", "name"] (B6 QJ):=KA
def Om(C:A2):Sp:=λf H Q _=>∃(x:A2) (d:A0 JJ) (a:A0 JK) (st:A0 JD) (b:A0 IU) (n:Str),f = [.ref x,.str n]/\IV C H x d a st b/\PV d a st b/\n∈nS a/\∀(l:A2) (e:A0 Str) c,CW H c->H l=none->c l=some (.lst (e.map V.str))->SZ b n e->Q (.ref l) c
set_option maxHeartbeats 2000000 in
theorem Ny(T:Tx K mg):II P w K mg base JG 3 T.bm.f T.bm.fd ["weave", "name"] (Om T.aa):=by
 refine T.bm.F.o1 NG λcdv A J s H vs Q E C h=>?_
 .obtain⟨x,pe,I,st,L,n,rfl,O,ok,hn,q⟩:=h;have hu:=U0 C;refine⟨_,(B2 (C2 (i:=2) NG.nd rfl (.inr rfl) (D6 (LM K) (C8 T.aQ (z7 T) (Rm C) (A8 (pv 0) (A8 (pv 1) B0))) B4 (λ_ _=>rfl)))
   (B2 (Sy (i:=3) (N':=["said", "weave"]) (cap:=[none,some 0]) (cl:=[("weave",_)]) NG.nd rfl (.inl rfl) (zFz (λ_=>⟨⟨rfl,rfl,rfl,rfl⟩,trivial⟩) ⟨rfl,trivial⟩) rfl (JX K (C8 T.af (E8 T) (Rm C) (A8 (PQ K (pv 0)) B0))) (λ_ _ _ _=>by exact⟨(pgD 0),D8,(pv 0),(J1 (N':=["one", "other", "said"]) (cap:=[none,none,some 0]) (cl:=[("said",_)]) (E9 ⟨⟨rfl,rfl,rfl,rfl⟩,trivial⟩ ⟨rfl,trivial⟩) rfl (JX K (PQ K (pv 1))) (λ_ _ _ _=>by exact⟨(Q_ K (n:=2) (C6 (JQ 0) (C6 (JQ 1) J9))),(J5 (C9 i0 (pv 1) (pv 2) (F6 _))),(pv 0)⟩))⟩))
   (B7 (C3 (J1 (N':=["one", "known"]) (cap:=[none,some 2]) (cl:=[("known",_)]) (E9 ⟨⟨rfl,rfl,rfl,rfl⟩,trivial⟩ ⟨rfl,trivial⟩) rfl (JX K (C8 T.bk (Ox T) (Rm C) (A8 (pv 3) (A8 (F7 (A8 (pv 2) B0)) B0)))) (λ_ _ _ _=>by exact⟨(JQ 0),(J5 (C9 Rk (pv 0) (pv 1) (F6 _))),(pv 0)⟩)))))),?_⟩
  obtain⟨dx,a,b,c,d,R,W⟩:=O;have O:IV T.aa H x pe I st L:=⟨dx,a,b,c,d,R,W⟩;obtain⟨l1,l2,l3,l4⟩:=ok.len;obtain⟨y,ey,S,en⟩:=Q4 (f:=λq:JK=>q.2.1) hn;refine B5 λN1 U=>?_;refine A7 rfl (A7 rfl ⟨x,pe,I,st,L,n,y,rfl,O,l2,ey,y.1,_,C1 rfl rfl ⟨JC.of (W.hs.row (rS y) (AI.mpr ⟨y,S,rfl⟩)),B9 (j:=0) rfl,U _ _ (B5 λN2 X=>?_)⟩⟩);have Y:(rS y).2.1=n:=en;rw[Y];refine A7 rfl ⟨x,_,_,_,_,rfl,R,T.ad,T.ai,rfl,b,_,rfl,W.hs,by rw[AA];lia,λm H1 Z hm e1=>?_⟩;rw[Cc]at e1;refine⟨m,rfl,⟨_,HY.of e1⟩,λD hD=>?_⟩;have lns:(nS I).length<=30:=by unfold nS;rw[AA];exact l2
  refine Uu (nx:=z9 L) (KI (K:=K) (HY.of e1)) (by lia) hD (λz hz H2 s2 Q' hQ=>?_) λσ kvs H3 s3 e3 st3=>?_
  .have W2:=(W.same Z).same s2;refine A7 rfl ⟨x,_,_,_,_,rfl,s2 _ _ (Z _ _ R),T.ad,T.bt,rfl,d,rfl,⟨_,HY.of W2.hb⟩,λD2 g=>?_⟩;refine Jt (λq:IU=>V.str q.2.1) (λq:IU=>decide (q.2.2=z)) (KI (K:=K) (HY.of W2.hb)) (λσ=>∃v0 v1,σ = [v0,v1,some (.str z)]) ⟨_,_,rfl⟩ (by lia) g ?_ λσ H4 s4 e4=>?_
   .rintro y k σ G ⟨v0,v1,rfl⟩ p M N t hN;refine⟨y.1,A7 rfl ⟨JC.of (p _ _ (W2.pb y k)),rfl,_,A7 rfl (C1 rfl rfl ?_)⟩⟩;refine A7 rfl (A7 rfl ⟨rfl,_,rfl,g7 (λh=>A7 rfl (t _ _ ⟨_,_,rfl⟩ (λ_ _ z=>z) (AJ ?_))) (λh=>hN _ _ ⟨_,_,rfl⟩ (λ_ _ z=>z) (BB λe=>h ?_))⟩)
    .exact V.str.inj (BH h)
    .exact AJ (by rw[e])
   .exact hQ D2 _ s4 g (by rw[e4];unfold z9;rw[AN];rfl)
  .have u:=Z.trans s3;refine X _ _ ?_;refine A7 rfl (A7 rfl ⟨by show 1<=sizeLine;decide,λo ho=>?_⟩);have v:=CW.new (o:=.lst [.str n]) ho;have eo:(HU H3 o (.lst [.str n])) o=some (.lst (([n]:A0 Str).map V.str)):=A9;generalize HU H3 o (.lst [.str n])=H4 at v eo⊢;refine⟨D,o,kvs,nS I,[n],_,rfl,v _ _ e3,λz hz=>let⟨l,h1,h2⟩:=st3 z hz;⟨l,h1,v _ _ h2⟩,λz _ y k=>Mr ok z y k,by lia,λy k=>by rw[AC.mp k];exact hn,B_.mpr ⟨AL,C_⟩,.inl (HY.of eo),λl ts H5 s5 hl e5 B so5 m5 sb5=>?_⟩;refine⟨l,rfl,⟨_,HY.of e5⟩,λD2 g=>?_⟩;refine Uv (r:=V.str) V.str (KI (K:=K) (HY.of e5)) (λy=>!decide (y=n)) (by have:=U3 B sb5;lia) g (λy S G p M t=>?_) (λy S G p M t=>A7 rfl t) λσ' G p eG=>?_
   .refine A7 rfl (A7 rfl ⟨rfl,_,rfl,?_⟩);have e:decide (V.str y=V.str n)=decide (y=n):=by
     by_cases h:y=n
     .rw[h,AJ rfl,AJ rfl]
     .rw[BB h,BB λz=>h (V.str.inj z)]
    have:=t G λb o e=>e;rw[<-e]at this;exact this
   .refine q D2 (ts.filter λy=>!decide (y=n)) G (((u.trans v).trans s5).trans p) (((u.trans v).trans s5).free g) eG ⟨B.sublist ES,so5.sublist ES,λx=>?_⟩;rw[BV,m5];refine and_congr_right λ_=>?_;by_cases h:x=n
    .rw[AJ h];exact⟨λz=>(BA z).elim,λz=>absurd h z⟩
    .rw[BB h];exact⟨λ_=>h,λ_=>rfl⟩
theorem QD:HW ["weave", "name", "goal"] ["weave", "name"] (B6 QZ):=KA
def zDi(C:A2):Sp:=λf H Q _=>∃(x:A2) (d:A0 JJ) (a:A0 JK) (st:A0 JD) (b:A0 IU) (n:Str) (y:JD),f = [.ref x,.str n]/\IV C H x d a st b/\PV d a st b/\O9 st n=some y/\∀(l:A2) (e:A0 Str) c,CW H c->H l=none->c l=some (.lst (e.map V.str))->SD a b y.2.2.2 e->Q (.ref l) c
set_option maxHeartbeats 2000000 in
theorem Tz(T:Tx K mg):II P w K mg base JG 4 T.br.f T.br.fd ["weave", "name"] (zDi T.aa):=by
 refine T.br.F.o1 QD λcdv A D s H vs Q E G h=>?_
 .obtain⟨x,I,g,st,J,n,y,rfl,t,L,S,q⟩:=h;refine⟨_,(B2 (C2 (i:=2) QD.nd rfl (.inl rfl) (D6 (LM K) (C8 T.a4 (Ge T) (Rm G) (A8 (pv 0) (A8 (pv 1) B0))) B4 (λ_ _=>rfl)))
   (B2 (K5 (C9 (U9 K) (pv 2) (C8 T.af (E8 T) (Rm G) (A8 (PQ K (pv 0)) B0)) rfl) (B7 (C3 (G0 (O7 K) T.ag J0 (A8 (F9 K4 (C8 T.bm (Ny T) (Rm G) (A8 (pv 0) (A8 (pv 2) B0))) (F7 (A8 (pv 2) B0))) B0)))) E6)
   (B7 (C3 (F7 (A8 (pv 2) B0)))))),?_⟩
  obtain⟨dx,a,b,c,d,U,W⟩:=t;have t:IV T.aa H x I g st J:=⟨dx,a,b,c,d,U,W⟩;obtain⟨l1,l2,l3,l4⟩:=L.len;have my:y∈st:=CG S;refine B5 λN1 M=>?_;refine A7 rfl (A7 rfl ⟨x,I,g,st,J,n,y,rfl,t,l3,S,y.1,_,C1 rfl rfl ⟨JC.of (W.ht.row (rT y) (AI.mpr ⟨y,my,rfl⟩)),B9 (j:=2) rfl,M _ _ (B5 λN2 N=>?_)⟩⟩);refine A7 rfl (A7 rfl ⟨x,_,_,_,_,rfl,U,T.ad,T.ai,rfl,b,_,rfl,W.hs,by rw[AA];lia,λm H1 u hm X=>?_⟩);rw[Cc]at X;refine J3 (.inl (HY.of X)) ⟨_,rfl,g7 (λh=>?_) (λh=>?_)⟩
  .have k:y.2.2.2∈nS g:=BH h;refine A7 rfl (A7 rfl ⟨x,I,g,st,J,y.2.2.2,rfl,t.same u,L,k,λl v H2 s2 hl e2 B=>?_⟩);have lm:v.length<=30:=by
    have:=U3 B.nd λz hz=>Pn L k ((B.mem z).mp hz).1;unfold nS at this;rw[AA]at this;lia
   refine A7 rfl ⟨by show 1<=sizeLine;decide,λo C=>?_⟩;have Y:=CW.new (o:=.lst [.str y.2.2.2]) C;refine⟨l,o,_,_,rfl,rfl,Y _ _ e2,A9,by rw[AA,sizeLine_eq];show _+1<=_;lia,λp hp=>?_⟩;have up:=CW.new (o:=.lst (v.map V.str ++ [.str y.2.2.2])) hp;refine⟨p,v ++ [y.2.2.2],rfl,HY.of (by rw[A9,AF];rfl),λl' O r Z so=>?_⟩;have s5:=(((u.trans s2).trans Y).trans up);have R:y.2.2.2∉v:=λz=>((B.mem _).mp z).2 rfl;refine q l' O _ (s5.trans (CW.new r)) (s5.free r) A9 ⟨Z.nodup_iff.mpr (Tt B.nd R),so,λz=>?_⟩;rw[Z.mem_iff,AY k,AH,B.mem,AC];refine⟨λh=>h.elim (λh=>h.1) λh=>h▸ .of (AC.mpr rfl),λh=>?_⟩;by_cases e:z=y.2.2.2
   .exact .inr e
   .exact .inl ⟨h,e⟩
  .have k:y.2.2.2∉nS g:=λz=>h (AJ z);refine N _ _ (A7 rfl ⟨by show 1<=sizeLine;decide,λo C=>?_⟩);refine q o [y.2.2.2] _ (u.trans (CW.new C)) (u.free C) A9 ⟨B_.mpr ⟨AL,C_⟩,GS _ _,λz=>?_⟩;rw[AS k,AC]
end
def O4{α:Type}{f:α->Str}:∀{xs:A0 α},(xs.map f).Nodup->∀{a b:α},a∈xs->b∈xs->f a=f b->a=b
 | x::r,h,a,b,d,c,e=>by
  rw[BP,B_]at h;rcases A_.mp d with h1 | h1
  .rcases A_.mp c with h2 | h2
   .rw[h1,h2]
   .exact absurd (AI.mpr ⟨b,h2,by rw[<-e,h1]⟩) h.1
  .rcases A_.mp c with h2 | h2
   .exact absurd (AI.mpr ⟨a,h1,by rw[e,h2]⟩) h.1
   .exact O4 h.2 h1 h2 e
abbrev Hit(a:A0 JK)(b:A0 IU)(g x:Str):Prop:=if g∈nS a then QV (z9 b) [g] x else x=g
def Re(st:A0 JD)(a:A0 Str)(n:Str):Bool:=match O9 st n with | some y=>decide (y.2.2.1∈a) | none=>false
def Ue{st:A0 JD}(j:(nT st).Nodup){c:A0 Str}{n:Str}:Re st c n=true↔∃z∈st,z.2.1=n/\z.2.2.1∈c:=by
 unfold Re;cases e:O9 st n with
 | none =>
  refine⟨λh=>(BA h).elim,λ⟨z,a,b,_⟩=>?_⟩;exact absurd (AJ b) (GR.mp e z a)
 | some y =>
  have d:y∈st:=CG e;have g:y.2.1=n:=BH (List.find?_some (p:=λq:JD=>decide (q.2.1=n)) e);refine⟨λh=>⟨y,d,g,BH h⟩,λ⟨z,a,b,i⟩=>?_⟩;have:z=y:=O4 (f:=λq:JD=>q.2.1) j a d (b.trans g.symm);rw[this]at i;exact AJ i
def Xq(b:A0 JK)(st:A0 JD)(c:A0 IU)(ns:A0 Str)(a o:Str):Prop:=∃y,O9 st a=some y/\o∈ns/\(Hit b c y.2.2.2 o\/∃z∈st,z.2.1=o/\Hit b c y.2.2.2 z.2.2.1)
def Ak(b:A0 JJ)(a:A0 JK)(st:A0 JD):A0 Str:=nS a++nT (OV b a st)
def Um(b:A0 JJ)(a:A0 JK)(st:A0 JD)(c:A0 IU)(k:Str×Str):Prop:=k.1∈nT (OV b a st)/\Xq a st c (Ak b a st) k.1 k.2
def o9(a:A0 JJ)(b:A0 JK)(st:A0 JD):(nT (OV a b st)).Sublist (nT st):=List.Sublist.map _ ES
def Qd{b:A0 JJ}{a:A0 JK}{st:A0 JD}{d:A0 IU}(c:PV b a st d):Q1 (Ak b a st):=by
 have s:(Ak b a st).Sublist (nS a++nT st):=List.Sublist.append_left (o9 b a st) _;refine⟨λx e=>c.nm x (s.subset e),c.sn.sublist s,Nat.le_trans s.length_le ?_⟩;obtain⟨f,g,h,i⟩:=c.len;unfold nS nT;rw[AW,AA,AA];lia
section
variable{P:Cv}{w:HS}{K:PySem.W.Frag}{mg:Str->A6 A1}{base:HX}
theorem KN:HW ["weave", "name", "hit", "strike"] ["weave", "name", "hit"] (B6 LJ):=KA
def Zh(C:A2):Sp:=λb H Q _=>∃(x h:A2) (c:A0 JJ) (d:A0 JK) (st:A0 JD) (e:A0 IU) (n:Str) (a:A0 Str),b = [.ref x,.str n,.ref h]/\IV C H x c d st e/\st.length<=30/\H h=some (.lst (a.map V.str))/\Q (.bl (Re st a n)) H
theorem r8(T:Tx K mg):II P w K mg base JG 2 T.ax.f T.ax.fd ["weave", "name", "hit"] (Zh T.aa):=by
 refine T.ax.F.o1 KN λl A e s H u Q E m h=>?_
 .obtain⟨x,h,v,B,st,C,n,D,rfl,⟨G,a,b,c,d,o,W⟩,p,r,q⟩:=h;refine⟨_,(B2 (C2 (i:=3) KN.nd rfl (.inl rfl) (C8 T.aJ (X2 T) (Rm m) (A8 (PQ K (pv 0)) (A8 (pv 1) B0))))
   (B7 (C3 (R8 (I0 Pr (pv 3) m8 (F6 _)) (V3 (I0 (U9 K) (D6 (LM K) (pv 3) B4 (λ_ _=>rfl)) (pv 2) rfl)))))),?_⟩
  refine B5 λI g=>?_;refine A7 rfl ⟨x,_,_,_,_,rfl,o,T.ad,T.aj,rfl,A7 rfl ⟨c,_,n,rfl,W.ht,by rw[AA];lia,?_⟩⟩;rw[zAo];refine g _ _ ?_;unfold Re at q;cases k:O9 st n with
  | some y =>
   rw[k]at q;have t:y∈st:=CG k;refine A7 rfl ⟨rfl,true,congrArg (λb=>V.bl !b) (BB λz=>by cases z),g9 ?_⟩;exact A7 rfl ⟨y.1,_,C1 rfl rfl ⟨JC.of (W.ht.row (rT y) (AI.mpr ⟨y,t,rfl⟩)),B9 (j:=1) rfl,A7 rfl (J3 (.inl (HY.of r)) q)⟩⟩
  | none =>
   rw[k]at q;exact A7 rfl ⟨rfl,false,congrArg (λb=>V.bl !b) (AJ rfl),X0 q⟩
theorem LV:HW ["weave", "names", "name", "hit"] ["weave", "names", "name"] (B6 MB):=KA
def Nt(C:A2):Sp:=λg H Q _=>∃(x m:A2) (f:A0 JJ) (b:A0 JK) (st:A0 JD) (c:A0 IU) (n:Str) (y:JD) (a:A0 Str),g = [.ref x,.ref m,.str n]/\IV C H x f b st c/\PV f b st c/\O9 st n=some y/\H m=some (.lst (a.map V.str))/\a.length<=100 /\
 ∀(l:A2) (d:A0 Str) e,CW H e->H l=none->e l=some (.lst (d.map V.str))->d.Sublist a->(∀o,o∈d↔Xq b st c a n o)->Q (.ref l) e
set_option maxHeartbeats 2000000 in
theorem Bk(T:Tx K mg):II P w K mg base JG 5 T.aK.f T.aK.fd ["weave", "names", "name"] (Nt T.aa):=by
 refine T.aK.F.o1 LV λX A p s H vs Q E J h=>?_
 .obtain⟨x,m,L,N,st,O,n,y,ns,rfl,R,t,u,S,Y,q⟩:=h;refine⟨_,(B2 (C2 (i:=3) LV.nd rfl (.inr rfl) (C8 T.br (Tz T) (Rm J) (A8 (pv 0) (A8 (pv 2) B0))))
   (B7 (C3 (J1 (N':=["other", "hit", "weave"]) (cap:=[none,some 3,some 0]) (cl:=[("weave",_),("hit",_)]) (E9 ⟨⟨rfl,rfl,rfl,rfl⟩,⟨⟨rfl,rfl,rfl,rfl⟩,trivial⟩⟩ ⟨rfl,⟨rfl,trivial⟩⟩) rfl (JX K (pv 1)) (λ_ _ _ _=>by exact⟨(JQ 0),(J5 (PW.pt (Az (C9 (U9 K) (pv 0) (pv 1) rfl) (Y7 (K1 (C8 T.ax (r8 T) (Rm J) (A8 (pv 2) (A8 (pv 0) (A8 (pv 1) B0))))))))),(pv 0)⟩))))),?_⟩
  obtain⟨l1,l2,Z,l4⟩:=t.len;refine B5 λN1 v=>?_;refine A7 rfl (A7 rfl ⟨x,L,N,st,O,n,y,rfl,R,t,u,λh g H1 j hh U l=>?_⟩);refine v _ _ ?_;refine A7 rfl ⟨m,rfl,⟨_,HY.of (j _ _ S)⟩,λD W=>?_⟩;refine Uv (r:=V.str) V.str (KI (K:=K) (HY.of (j _ _ S))) (λo=>decide (o∈g)||Re st g o) (by lia) W (λo mo G d M B=>?_) (λo mo G d M B=>A7 rfl B) λσ' G d eG=>?_
  .have c:=B G λb o e=>e;refine A7 rfl (A7 rfl (J3 (.inl (HY.of (d _ _ U))) ⟨_,rfl,g7 (λa=>?_) (λa=>?_)⟩))
   .have a:decide (o∈g)=true:=a;rw[a,Bool.true_or]at c;exact c
   .have a:decide (o∈g)=false:=DG.mpr a;rw[a,Bool.false_or]at c;exact A7 rfl (A7 rfl (A7 rfl ⟨x,h,L,N,st,O,o,g,rfl,(R.same j).same d,Z,d _ _ U,_,rfl,c⟩))
  .refine q D _ G (j.trans d) (j.free W) eG ES λo=>?_;rw[BV,Bool.or_eq_true,decide_eq_true_eq,Ue (BU.mp t.sn).2.1];refine⟨λ⟨a,C⟩=>⟨y,u,a,C.imp (l.mem o).mp λ⟨z,I,e,h⟩=>⟨z,I,e,(l.mem _).mp h⟩⟩,λ⟨y',k,a,C⟩=>?_⟩;rw[u]at k;cases k;exact⟨a,C.imp (l.mem o).mpr λ⟨z,I,e,h⟩=>⟨z,I,e,(l.mem _).mpr h⟩⟩
theorem OY:HW ["weave", "counted", "names"] ["weave"] (B6 RV):=KA
def We(C h:A2):Sp:=λi H Q _=>∃(x:A2) (b:A0 JJ) (a:A0 JK) (st:A0 JD) (c:A0 IU),i = [.ref x]/\IV C H x b a st c/\PV b a st c/\a.length<=12/\st.length<=12 /\
 ∀(d:A2) (f:A0 Str) (g:A0 IU) e,CW H e->H d=none->KQ h e d f g->f.Perm (Ak b a st)->(∀k,k∈(g.map λq=>q.2)↔Um b a st c k)->Q (.ref d) e
set_option maxHeartbeats 4000000 in
theorem Lu(T:Tx K mg):II P w K mg base JG 6 T.bo.f T.bo.fd ["weave"] (We T.aa T.ab):=by
 refine T.bo.F.o1 OY λcdv A outer s H vs Q E hr h=>?_
 .obtain⟨x,J,g,st,ba,rfl,hW,ok,s12,t12,q⟩:=h;have hu:=U0 hr;refine⟨_,(B2 (C2 (i:=1) OY.nd rfl (.inl rfl) (C8 T.bb (Ki T) (Rm hr) (A8 (pv 0) B0)))
   (B2 (C2 (i:=2) OY.nd rfl (.inr rfl) (F9 K4 (C8 T.af (E8 T) (Rm hr) (A8 (PQ K (pv 0)) B0)) (pv 1)))
   (B7 (C3 (Qt T.ck (Kl T) (Rm hr) rfl T.cj T.bT .nil Hc (A8 (pv 2) (A8 (zCs (N':=["name", "other", "weave", "names"]) (cap:=[none,none,some 0,some 2]) (cl:=[("weave",_),("names",_)]) (E9 ⟨⟨rfl,rfl,rfl,rfl⟩,⟨⟨rfl,rfl,rfl,rfl⟩,trivial⟩⟩ ⟨rfl,⟨rfl,trivial⟩⟩) rfl (JX K (pv 1)) (λ_ _ _ _=>by exact⟨(JQ 0),D8,(JX K (C8 T.aK (Bk T) (Rm hr) (A8 (pv 2) (A8 (pv 3) (A8 (pv 0) B0))))),(JQ 1),D8,(J7 (A8 (pv 0) (A8 (pv 1) B0)))⟩)) B0))))))),?_⟩
  obtain⟨dx,a,b,c,d,I,W⟩:=hW;have hW:IV T.aa H x J g st ba:=⟨dx,a,b,c,d,I,W⟩;refine B5 λN1 hN1=>?_;refine A7 rfl ⟨x,J,g,st,ba,rfl,hW,ok,λcl p H1 s1 hcl e1 B so1=>?_⟩;refine hN1 _ _ (B5 λN2 L=>?_);refine A7 rfl ⟨x,_,_,_,_,rfl,s1 _ _ I,T.ad,T.ai,rfl,b,_,rfl,(W.same s1).hs,by rw[AA];lia,λm H2 M hm e2=>?_⟩;rw[Cc]at e2;have lS:(nS g).length=g.length:=by unfold nS;rw[AA]
  have lC:p.length<=st.length:=by
   rw[B.length_eq];have:=(o9 J g st).length_le;unfold nT at this⊢;rw[AA,AA]at this;rw[AA];exact this
  refine A7 rfl ⟨m,cl,_,_,rfl,rfl,e2,M _ _ e1,by rw[AA,AA,sizeLine_eq];lia,λR hnm=>?_⟩;have s3:=(s1.trans M).trans (CW.new (o:=.lst ((nS g).map V.str++p.map V.str)) hnm);have e3:(HU H2 R (.lst ((nS g).map V.str++p.map V.str))) R=some (.lst ((nS g++p).map V.str)):=by rw[A9,AF]
  have f3:=(CW.new (o:=.lst ((nS g).map V.str++p.map V.str)) hnm) _ _ (M _ _ e1);generalize HU H2 R (.lst ((nS g).map V.str++p.map V.str))=H3 at s3 e3 f3⊢;refine L _ _ ?_;have nN:Q1 (nS g++p):=by
   have k:=Qd ok;have Y:(nS g++p).Perm (Ak J g st):=B.append_left _;exact⟨λy hy=>k.1 y (Y.mem_iff.mp hy),Y.nodup_iff.mpr k.2.1,by rw[Y.length_eq];exact k.2.2⟩
  have lN:(nS g++p).length<=24:=by rw[AW];lia
  refine A7 rfl (A7 rfl ⟨cl,rfl,⟨_,HY.of f3⟩,λD hD=>?_⟩);refine J6 (KI (K:=K) (HY.of f3)) (λi σ G=>(∃v0 Z,σ = [v0,Z,some (.ref x),some (.ref R)])/\CW H3 G/\∃r:A0 IU,G D=some (.lst (P2 r))/\(∀q∈r,I9 G q)/\(r.map λq=>q.2).Nodup/\(∀k,k∈(r.map λq=>q.2)↔k.1∈p.take i/\Xq g st ba (nS g++p) k.1 k.2)/\r.length<=24*i) ⟨⟨_,_,rfl⟩,CW.new hD,[],A9,λq h=>absurd h AL,C_,λk=>⟨λh=>absurd h AL,λh=>absurd h.1 AL⟩,BR _⟩ (λi σ G _ h=>h.2.1.at cl) ?_ ?_
  .rintro i σ G v N I ⟨⟨v0,Z,rfl⟩,S,r,eG,pG,nd,u,len⟩ hN;rw[AG]at I;obtain⟨n,hn,rfl⟩:=AV.mp I;have hi:=(AR.mp hn).1;have mn:n∈nT st:=(o9 J g st).subset (B.mem_iff.mp (AM hn));obtain⟨y,ey,my,ny⟩:=Q4 (f:=λq:JD=>q.2.1) mn;have ncs:n∉p.take i:=J4 ((BU.mp nN.2.1).2.1) hn;refine S3 ?_;refine A7 rfl (A7 rfl (A7 rfl ⟨x,R,J,g,st,ba,n,y,nS g++p,rfl,(hW.same s3).same S,ok,ey,S _ _ e3,by lia,λl ms G2 M hl el sub mm=>⟨l,rfl,⟨_,HY.of el⟩,?_⟩⟩));have lms:=sub.length_le;have hlD:l≠D:=(B3 eG hl).symm;refine J6 (KI (K:=K) (HY.of el)) (λj σ F=>(∃Z,σ = [some (.str n),Z,some (.ref x),some (.ref R)])/\CW H3 F/\F l=some (.lst (ms.map V.str))/\∃C:A0 IU,F D=some (.lst (P2 (r++C)))/\(∀q∈r++C,I9 F q)/\(C.map λq=>q.2) =(ms.take j).map λo=>(n,o)) ⟨⟨_,rfl⟩,S.trans M,el,[],by rw[CB];exact M _ _ eG,by rw[CB];exact K9 M pG,rfl⟩ ?_ ?_ ?_
   .rintro j σ F _ ⟨_,_,f,_⟩ o e;rw[el]at e;cases e;exact f
   .rintro j σ F v N2 I ⟨⟨Z,rfl⟩,sF,fl,C,eF,pF,U⟩ L;rw[AG]at I;obtain⟨o,ho,rfl⟩:=AV.mp I;refine S3 (A7 rfl (A7 rfl ⟨by show 2<=sizeLine;decide,λt ht=>?_⟩));have ut:=CW.new (o:=.tup [.str n,.str o]) ht;have ntD:t≠D:=(B3 eF ht).symm;have lrs:C.length<=24:=by
     have:=congrArg List.length U;rw[AA,AA,AO]at this;lia
    refine⟨_,ut _ _ eF,by unfold P2;rw[AA,AW,sizeLine_eq];lia,L _ _ ⟨⟨_,rfl⟩,(sF.trans ut).upd hD,by rw[B8 hlD];exact ut _ _ fl,C ++ [(t,n,o)],by rw[A9];unfold P2;rw[<-BF,AF (l₁:=r++C)];rfl,λz hz=>?_,by rw[AF,U,C7 ho,AF];rfl⟩⟩;rw[<-BF]at hz;rcases AH.mp hz with h | h
    .exact(B8 (J8 (ut _ _ (pF z h)) (ut _ _ eF) (by intro z;cases z))).trans (ut _ _ (pF z h))
    .rw[AC.mp h];exact(B8 ntD).trans A9
   .rintro σ F ⟨⟨Z,rfl⟩,sF,fl,C,eF,pF,U⟩;rw[AA,BM]at U;have lrs:C.length=ms.length:=by
     have:=congrArg List.length U
     rwa [AA,AA]at this
    refine hN _ _ ⟨⟨_,_,rfl⟩,sF,r++C,eF,pF,?_,λk=>?_,by rw[AW];lia⟩
    .rw[AF,U];refine BU.mpr ⟨nd,?_,λa ha b hb e=>?_⟩
     .exact EM.mpr ((nN.2.1.sublist sub).imp λh z=>h (congrArg Prod.snd z))
     .obtain⟨o,_,rfl⟩:=AI.mp hb;rw[e]at ha;exact ncs ((u _).mp ha).1
    .rw[AF,AH,u,U,C7 hn,AH,AC,AI];constructor
     .rintro(⟨h1,h2⟩ | ⟨o,ho,rfl⟩)
      .exact⟨.inl h1,h2⟩
      .exact⟨.inr rfl,(mm o).mp ho⟩
     .rintro⟨h1 | h1,h2⟩
      .exact .inl ⟨h1,h2⟩
      .obtain⟨k1,k2⟩:=k;have h1:k1=n:=h1;subst h1;exact .inr ⟨k2,(mm k2).mpr h2,rfl⟩
  .rintro σ G ⟨_,S,r,eG,pG,nd,u,len⟩;rw[AA,BM]at u;rw[AA]at len;intro xw X nx ndx nex;have s0:CW G (HU (HU G X (.own xw)) xw (.ins T.ab X [])):=λb o e=>by
    rw[B8 (B3 e nx),B8 (B3 e ndx)];exact e
   have O:OC (nS g++p) r:=⟨λz hz=>?_,nd,by lia⟩
   .have sG0:=S.trans s0;refine zFp (a:=xw) (b:=X) (c:=R) (d:=nS g++p) (e:=D) (f:=r) rfl A9 (sG0 _ _ e3) nN (s0 _ _ eG) (K9 s0 pG) O λns qs H7 pn srn pq srq k7 W7=>⟨rfl,?_⟩;have s7:CW G H7:=λb o e=>k7 b o (s0 b o e) (by simpa using B3 e nx);have Y:(nS g++p).Perm (Ak J g st):=B.append_left _;refine q xw ns qs H7 ((s3.trans S).trans s7) ((s3.trans S).free nx) W7 (pn.trans Y) λk=>?_;rw[(pq.map λq:IU=>q.2).mem_iff,u,B.mem_iff];unfold Um Xq;simp only[Y.mem_iff]
   .obtain⟨h1,y,ey,h2,h3⟩:=(u z.2).mp (AI.mpr ⟨z,hz,rfl⟩);exact⟨BJ _ h1,h2⟩
end
def six{d n:Nat}(h:d<n):seqIndex? (d:Int) n=some d:=by
 unfold seqIndex?;simp;lia
def JZ{α:Type}{l:A0 α}{i:Nat}{x:α}(h:l[i]?=some x):(x::l.eraseIdx i).Perm l:=ST.JZ h
def Gk{α β:Type}(f:α->β):∀(l:A0 α) (i:Nat),(l.map f).eraseIdx i =(l.eraseIdx i).map f
 | [],_=>rfl
 | _::_,0=>rfl
 | a::l,i+1=>by
  show f a ::(l.map f).eraseIdx i=f a ::(l.eraseIdx i).map f;rw[Gk f l i]
def SS{a b c:A0 Str}(d:(b++c).Perm a)(h1:∀x∈a,K3 x=true)(h2:a.Nodup)(f:a.length<=100):Q1 c:=by
 refine⟨λx e=>h1 x (d.mem_iff.mp (BJ _ e)),?_,?_⟩
 .exact(BU.mp (d.nodup_iff.mpr h2)).2.1
 .have:=d.length_eq;rw[AW]at this;lia
def Vd{c a b:A0 Str}{d:Nat}{x:Str}(e:(a++b).Perm c)(h:a[d]?=some x):(a.eraseIdx d ++(b ++ [x])).Perm c:=by
 refine List.Perm.trans ?_ e;rw[<-BF];refine CS.trans ?_;rw[<-BF];exact(JZ h).append_right b
def LR{p b:A2}{H H':Hp}{o:HO}(h:Sm [p] H H')(e:H b=some o)(n:b≠p):H' b=some o:=h b o e λz=>n (AC.mp z)
def V9{K:PySem.W.Frag}{a D:A2}{ts:A0 Str}{r:St}{k:TT}{H:Hp}{Q:St->Hp->Prop}(p:Str->Bool)(e:H a=some (.lst (ts.map V.str)))(w:ts.length<=1000)(l:H D=none)
  (x:∀y∈ts,∀j,CW H j->∀m:Bool->Hp->Prop,(∀f,CW j f->m (p y) f)->k (some (.str y)::r) j m) (h:∀σ f,CW H f->f D=some (.lst ((ts.filter p).map V.str))->Q σ f) (n:A6 V) :
  Aa (P9 0) k (X3 D (Jw 0)) (SM K a) (n::r) (HU H D (.lst [])) Q:=by
 refine J6 (KI (K:=K) (HY.of e)) (λi σ g=>(∃v,σ=v::r)/\CW H g/\g D=some (.lst (((ts.take i).filter p).map V.str)))
  ⟨⟨_,rfl⟩,CW.new l,A9⟩ (λi σ j _ ⟨_,z,_⟩=>z.at a) ?_ ?_
 .rintro i σ g v N o ⟨⟨n,rfl⟩,b,d⟩ q;rw[AG]at o;obtain⟨y,s,rfl⟩:=AV.mp o;refine x y (AM s) g b _ λA t=>?_;have d:=t _ _ d;have b:=b.trans t;have u:(ts.take (i+1)).filter p =(ts.take i).filter p++if p y=true then [y]else []:=by
   rw[C7 s,EY,EF,List.filter_nil]
  have B:(((ts.take i).filter p).map V.str).length<=1000:=by
   rw[AA];have:=BO p (ts.take i);rw[AO]at this;lia
  refine g7 (λc=>A7 rfl ⟨_,d,by rw[sizeLine_eq];lia,q _ _ ⟨⟨_,rfl⟩,b.upd l,?_⟩⟩) (λc=>q _ _ ⟨⟨_,rfl⟩,b,?_⟩)
  .rw[A9,u,AY c,AF];rfl
  .rw[u,AS c,CB];exact d
 .rintro σ g ⟨_,b,d⟩;rw[AA,BM]at d;exact h σ g b d
abbrev MS:Str := "in"
abbrev JS:Str := "out"
abbrev SQ:Str := "open"
def WD(a:A0 (IL×V))(f:Str->A6 Str):Prop:=∀n,U1 a (.inr n) =(f n).map V.str
def Rf(f:Str->A6 Str)(l:A0 Str)(w:Str)(n:Str):A6 Str:=if n∈l then some w else f n
def T0{f:Str->A6 Str}{l:A0 Str}{w n:Str}(h:n∈l):Rf f l w n=some w:=AY h
def O6{f:Str->A6 Str}{l:A0 Str}{w n:Str}(h:n∉l):Rf f l w n=f n:=AS h
def WD.mrg{w:Str}:∀{l:A0 Str} {b:A0 (IL×V)} {f:Str->A6 Str},WD b f->WD (K6 b (l.map λn=>(Sum.inr n,V.str w))) (Rf f l w)
 | [],_,_,h=>λn=>by rw[O6 AL];exact h n
 | a::l,b,f,h=>λn=>by
  have d:WD (i7 b (.inr a) (.str w)) (Rf f [a] w):=λm=>by
   rw[Cg];by_cases e:m=a
   .rw[AY e,T0 (AC.mpr e)];rfl
   .rw[AS e,O6 λz=>e (AC.mp z)];exact h m
  refine(WD.mrg (l:=l) d n).trans ?_;by_cases e:n∈l
  .rw[T0 e,T0 (AQ _ e)]
  .rw[O6 e];by_cases c:n=a
   .rw[T0 (AC.mpr c),T0 (c▸AZ ..)]
   .rw[O6 λz=>c (AC.mp z),O6 λz=>(A_.mp z).elim c e]
def C5(qs:A0 IU)(f:Str->A6 Str)(n:Str):Bool:=((C0 qs n).map λy=>decide (f y=some JS)).all id
def F5(qs:A0 IU)(f:Str->A6 Str)(n:Str):Bool:=((C0 qs n).map λy=>decide (f y=some MS)).any id
def w8{qs:A0 IU}{f:Str->A6 Str}{n:Str}:C5 qs f n=true↔∀y∈C0 qs n,f y=some JS:=by
 unfold C5;rw[List.all_map,DN];exact⟨λh y a=>BH (h y a),λh y a=>AJ (h y a)⟩
def By{qs:A0 IU}{f:Str->A6 Str}{n:Str}:F5 qs f n=true↔∃y∈C0 qs n,f y=some MS:=by
 unfold F5;rw[List.any_map,FK];exact⟨λ⟨y,a,h⟩=>⟨y,a,BH h⟩,λ⟨y,a,h⟩=>⟨y,a,AJ h⟩⟩
def Xt{K:PySem.W.Frag}{a D:A2}{ts:A0 Str}{r:St}{l:TE}{H:Hp}{Q:St->Hp->Prop}(g:Str->V)(e:H a=some (.lst (ts.map V.str)))(s:ts.length<=1000)(m:H D=none)
  (t:∀y∈ts,∀d,CW H d->∀n:VK,(∀b,CW d b->n (g y) b)->l (some (.str y)::r) d n) (h:∀σ b,CW H b->b D=some (.lst (ts.map g))->Q σ b) (o:A6 V) :
  Aa (P9 0) V7 (X3 D l) (SM K a) (o::r) (HU H D (.lst [])) Q:=by
 refine J6 (KI (K:=K) (HY.of e)) (λi σ c=>(∃v,σ=v::r)/\CW H c/\c D=some (.lst ((ts.take i).map g)))
  ⟨⟨_,rfl⟩,CW.new m,A9⟩ (λi σ d _ ⟨_,u,_⟩=>u.at a) ?_ ?_
 .rintro i σ c v N p ⟨⟨o,rfl⟩,f,j⟩ w;rw[AG]at p;obtain⟨y,k,rfl⟩:=AV.mp p;have x:=(AR.mp k).1;refine S3 (t y (AM k) c f _ λz q=>⟨_,q _ _ j,?_,w _ _ ⟨⟨_,rfl⟩,(f.trans q).upd m,?_⟩⟩)
  .rw[AA,AO,sizeLine_eq];lia
  .rw[A9,C7 k,AF];rfl
 .rintro σ c ⟨_,f,j⟩;rw[AA,BM]at j;exact h σ c f j
def Et{K:PySem.W.Frag}{a D:A2}{ts:A0 Str}{r:St}{f:TE}{H:Hp}{Q:St->Hp->Prop}(p:Str->Bool)(e:H a=some (.lst (ts.map V.str)))(c:ts.length<=1000)(j:H D=none)
  (k:∀y∈ts,∀d,CW H d->∀g:VK,(∀b,CW d b->g (.bl (p y)) b)->f (some (.str y)::r) d g) (h:∀σ b,CW H b->b D=some (.lst ((ts.map p).map V.bl))->Q σ b) (i:A6 V) :
  Aa (P9 0) V7 (X3 D f) (SM K a) (i::r) (HU H D (.lst [])) Q:=Xt (λy=>V.bl (p y)) e c j k (λσ b l m=>h σ b l (by rw[m,AN];rfl)) i
def Lv{K:PySem.W.Frag}{a D:A2}{ts:A0 Str}{w:Str}{H:Hp}{Q:St->Hp->Prop}(e:H a=some (.lst (ts.map V.str)))(o:ts.Nodup)(p:ts.length<=1000)(k:H D=none)
  (h:∀σ f,CW H f->f D=some (.dK (ts.map λn=>(Sum.inr n,V.str w)))->Q σ f) (l:A6 V) :
  Aa (P9 0) V7 (Ix D (Jw 0) (tC (.str w))) (SM K a) [l] (HU H D (.dK [])) Q:=by
 refine J6 (KI (K:=K) (HY.of e)) (λi σ b=>(∃v,σ = [v])/\CW H b/\b D=some (.dK ((ts.take i).map λn=>(Sum.inr n,V.str w))))
  ⟨⟨_,rfl⟩,CW.new k,A9⟩ (λi σ t _ ⟨_,q,_⟩=>q.at a) ?_ ?_
 .rintro i σ b v N m ⟨⟨l,rfl⟩,g,d⟩ r;rw[AG]at m;obtain⟨y,j,rfl⟩:=AV.mp m;have u:=(AR.mp j).1;refine S3 (A7 rfl ⟨_,.inr y,d,rfl,?_,r _ _ ⟨⟨_,rfl⟩,g.upd k,?_⟩⟩)
  .rw[AA,AO,sizeLine_eq];lia
  .rw[A9];unfold i7;rw[AS,C7 j,AF];rfl;rw[List.any_map,FK];rintro⟨z,s,c⟩;have c:(Sum.inr z:IL) = .inr y:=BH c;cases c;exact J4 o j s
 .rintro σ b ⟨_,g,d⟩;rw[AA,BM]at d;exact h σ b g d
abbrev Row:Type:=Str×Str×V
def RL(H:Hp)(l:A2)(a:A0 (A2×Row)):Prop:=H l=some (.lst (a.map λq=>V.ref q.1))/\∀q∈a,H q.1=some (.tup [.str q.2.1,.str q.2.2.1,q.2.2.2])
def RL.same{H H':Hp}{l:A2}{a:A0 (A2×Row)}(h:RL H l a)(s:CW H H'):RL H' l a:=⟨s _ _ h.1,λq b=>s _ _ (h.2 q b)⟩
def RL.app{H H':Hp}{a b c:A2}{d ts:A0 (A2×Row)}(h:RL H a d)(h':RL H b ts)(e:H' c=some (.lst ((d.map λq=>V.ref q.1)++ts.map λq=>V.ref q.1)))(k:∀q o,H q=some (.tup o)->H' q=some (.tup o)):RL H' c (d++ts) :=
 ⟨by rw[e,AF],λq f=>k _ _ ((AH.mp f).elim (h.2 q) (h'.2 q))⟩
def Te{K:PySem.W.Frag}{a D:A2}{ts:A0 Str}{B:TA}{r:St}{H:Hp}{Q:St->Hp->Prop}{C:TT}(p:Str->Bool)(g:Str->A0 V)(L:∀y,(g y).length<=3)(e:H a=some (.lst (ts.map V.str)))(M:ts.length<=1000)(E:H D=none)(O:∀y d (l:A0 V->Hp->Prop),l (g y) d->B (some (.str y)::r) d l)
  (s:∀y∈ts,∀d,CW H d->∀l:Bool->Hp->Prop,l (p y) d->C (some (.str y)::r) d l)
  (h:∀σ (b:A0 (A2×Str)) u,CW H u->u D=some (.lst (b.map λq=>V.ref q.1))->(∀q∈b,u q.1=some (.tup (g q.2)))->b.map (λq=>q.2)=ts.filter p->Q σ u) (F:A6 V) :
  Aa (P9 0) C (X3 D (UU B)) (SM K a) (F::r) (HU H D (.lst [])) Q:=by
 refine J6 (KI (K:=K) (HY.of e)) (λi σ f=>(∃v,σ=v::r)/\CW H f/\∃b:A0 (A2×Str),f D=some (.lst (b.map λq=>V.ref q.1))/\(∀q∈b,f q.1=some (.tup (g q.2)))/\b.map (λq=>q.2) =(ts.take i).filter p)
  ⟨⟨_,rfl⟩,CW.new E,[],A9,λq h=>absurd h AL,rfl⟩ (λi σ d _ ⟨_,P,_⟩=>P.at a) ?_ ?_
 .rintro i σ f v N G ⟨⟨F,rfl⟩,m,b,j,n,k⟩ I;rw[AG]at G;obtain⟨y,w,rfl⟩:=AV.mp G;have U:=(AR.mp w).1;have R:=congrArg List.length k;rw[AA]at R;have S:=BO p (ts.take i);rw[AO]at S;have J:(ts.take (i+1)).filter p =(ts.take i).filter p++if p y=true then [y]else []:=by
   rw[C7 w,EY,EF,List.filter_nil]
  refine s y (AM w) f m _ ?_;refine g7 (λc=>O _ _ _ ⟨Nat.le_trans (L y) (by show 3<=sizeLine;decide),λt s=>?_⟩) (λc=>I _ _ ⟨⟨_,rfl⟩,m,b,j,n,by rw[J,AS c,CB];exact k⟩);have x:=CW.new (o:=.tup (g y)) s;have A:t≠D:=(B3 j s).symm;refine⟨_,x _ _ j,by rw[AA,sizeLine_eq];lia,I _ _ ⟨⟨_,rfl⟩,(m.trans x).upd E,b ++ [(t,y)],by rw[A9,AF];rfl,λq T=>?_,by rw[J,AY c,AF,k];rfl⟩⟩;rcases AH.mp T with c | c
  .exact(B8 (J8 (n q c) j (by intro z;cases z))).trans (x _ _ (n q c))
  .rw[AC.mp c];exact(B8 A).trans A9
 .rintro σ f ⟨_,m,b,j,n,k⟩;rw[AA,BM]at k;exact h σ b f m j n k
def u9{K:PySem.W.Frag}{a D:A2}{ts:A0 Str}{w:Str}{v3:V}{j:TE}{r:St}{H:Hp}{Q:St->Hp->Prop}{k:TT}(p:Str->Bool)(e:H a=some (.lst (ts.map V.str)))(g:ts.length<=1000)(m:H D=none)(o:∀y b (c:VK),c v3 b->j (some (.str y)::r) b c)
  (s:∀y∈ts,∀b,CW H b->∀c:Bool->Hp->Prop,c (p y) b->k (some (.str y)::r) b c)
  (h:∀σ f d,CW H d->RL d D f->f.map (λq=>q.2) =(ts.filter p).map (λn=>(n,w,v3))->Q σ d) (l:A6 V) :
  Aa (P9 0) k (X3 D (UU (Bz (Jw 0) (Bz (tC (.str w)) (Bz j Ul))))) (SM K a) (l::r) (HU H D (.lst [])) Q :=
 Te p (λy=>[.str y,.str w,v3]) (λ_=>Nat.le_refl _) e g m (λy b c i=>⟨_,rfl,o _ _ _ i⟩) s (λσ f d t u v x=>h σ (f.map λq=>(q.1,q.2,w,v3)) d t ⟨by rw[u,AN];rfl,λq i=>let⟨z,A,e⟩:=AI.mp i;e▸v z A⟩ (by rw[<-x,AN,AN];rfl)) l
def Q0{l:A0 Str}:l.filter (λ_=>true)=l:=CV.mpr λ_ _=>rfl
section
variable{P:Cv}{w:HS}{K:PySem.W.Frag}{mg:Str->A6 A1}{base:HX}
def Kr(C:A2):Sp:=λe H Q _=>∃(x d:A2) (c:A0 Str) (g:A0 IU) (a:A0 (IL×V)) (f:Str->A6 Str),e = [.ref x,.ref d]/\KQ C H x c g/\H d=some (.dK a)/\WD a f/\∀l b,CW H b->H l=none->b l=some (.lst ((c.filter λn=>(f n).isNone).map V.str))->Q (.ref l) b
theorem Kt:HW ["web", "words"] ["web", "words"] (B6 O_):=KA
theorem b7(T:Tx K mg):II P w K mg base JG 2 T.aE.f T.aE.fd ["web", "words"] (Kr T.ab):=by
 refine T.aE.F.o1 Kt λz A j s H S Q E r h=>?_
 .obtain⟨x,d,a,B,C,f,rfl,t,G,I,k⟩:=h;have J:=U0 r;refine⟨_,(B7 (C3 (J1 (N':=["name", "words"]) (cap:=[none,some 1]) (cl:=[("words",_)]) (E9 ⟨⟨rfl,rfl,rfl,rfl⟩,trivial⟩ ⟨rfl,trivial⟩) rfl (JX K (Vj (pv 0) T.am T.ar.m (Am T) (Rm r) T.ar.b .nil Hc)) (λ_ _ _ _=>by exact⟨(JQ 0),(J5 (Lj (j7 J (pv 0) (pv 1)))),(pv 0)⟩)))),?_⟩;obtain⟨L,M,U,b,c,W,X,Y,N,_⟩:=id t;have Z:=L.len;refine A7 rfl ⟨x,M,A7 rfl ⟨N,rfl,x,a,B,rfl,t,λg l=>?_⟩⟩;have i:=CW.new (o:=.lst (a.map V.str)) l;have p:(HU H g (.lst (a.map V.str))) g=some (.lst (a.map V.str)):=A9;generalize HU H g (.lst (a.map V.str))=H2 at i p⊢;refine⟨g,rfl,⟨_,HY.of p⟩,λD u=>?_⟩;refine V9 (λn=>(f n).isNone) p (by lia) u (λy hy v q Q' O=>?_) (λσ v q R=>k D v (i.trans q) (i.free u) R) _;refine A7 rfl (A7 rfl ⟨d,_,rfl,KD.k (k:=Sum.inr y) (q _ _ (i _ _ G)),_,rfl,?_⟩);rw[I y];have e:(!((f y).map V.str).isSome) =(f y).isNone:=by cases f y<;>rfl
  rw[e];exact O _ λb o e=>e
def Oj(C:A2):Sp:=λg H Q _=>∃(x d:A2) (n:Str) (b:A0 Str) (c:A0 IU) (a:A0 (IL×V)) (f:Str->A6 Str),g = [.ref x,.ref d,.str n]/\KQ C H x b c/\n∈b/\H d=some (.dK a)/\WD a f/\∀e,CW H e->Q (.bl (C5 c f n)) e
def Th(C:A2):Sp:=λg H Q _=>∃(x d:A2) (n:Str) (b:A0 Str) (c:A0 IU) (a:A0 (IL×V)) (f:Str->A6 Str),g = [.ref x,.ref d,.str n]/\KQ C H x b c/\n∈b/\H d=some (.dK a)/\WD a f/\∀e,CW H e->Q (.bl (F5 c f n)) e
theorem Xp{H:Hp}{d:A2}{a:A0 (IL×V)}{f:Str->A6 Str}{y w:Str}{r:St}{Q:VK}(b:H d=some (.dK a))(g:WD a f)(h:Q (.bl (decide (f y=some w))) H):U_ rEq (Xu (Jw 1) (Jw 0)) (tC (.str w)) (some (.str y)::some (.ref d)::r) H Q:=by
 refine A7 rfl ⟨d,rfl,.inl ⟨a,.inl b⟩,A7 rfl ⟨_,KD.k (k:=Sum.inr y) b,?_⟩⟩;rw[g y];cases e:f y with
 | none=>rw[e]at h;exact⟨rfl,h⟩
 | some z =>
  rw[e]at h;refine⟨rfl,?_⟩;have i:decide (V.str z=V.str w)=decide (some z=some w):=decide_eq_decide.mpr ⟨λc=>by injection c with c;rw[c],λc=>by injection c with c;rw[c]⟩;show Q (.bl (decide (V.str z=V.str w))) H;rw[i];exact h
theorem Oo:HW ["web", "words", "name"] ["web", "words", "name"] (B6 QK):=KA
theorem Pp:HW ["web", "words", "name"] ["web", "words", "name"] (B6 QY):=KA
theorem Og(T:Tx K mg):II P w K mg base JG 3 T.bj.f T.bj.fd ["web", "words", "name"] (Oj T.ab):=by
 refine T.bj.F.o1 Oo λv A i s H U Q E r h=>?_
 .obtain⟨x,d,n,z,a,B,f,rfl,t,C,G,I,k⟩:=h;have J:=U0 r;refine⟨_,(B7 (C3 (G0 (Hj K) T.bp Hi (A8 (J1 (N':=["striker", "words"]) (cap:=[none,some 1]) (cl:=[("words",_)]) (E9 ⟨⟨rfl,rfl,rfl,rfl⟩,trivial⟩ ⟨rfl,trivial⟩) rfl (JX K (Kq (pv 0) T.am T.ak.m (X7 T) (Rm r) T.ak.b .nil Hc (A8 (pv 2) B0))) (λ_ _ _ _=>by exact⟨(JQ 0),D8,(I0 i0 (Mw J (pv 1) (pv 0) ⟨rfl,rfl,rfl,rfl⟩) E3 (F6 _))⟩)) B0)))),?_⟩;obtain⟨L,M,W,b,c,X,Y,Z,N,_⟩:=id t;have lq:=L.lenq;have ls:(C0 a n).length<=a.length:=by unfold C0;rw[AA];exact BO ..
  refine A7 rfl ⟨x,M,A7 rfl ⟨N,rfl,A7 rfl ⟨x,n,z,a,rfl,t,C,λg j=>?_⟩⟩⟩;have l:=CW.new (o:=.lst ((C0 a n).map V.str)) j;have p:(HU H g (.lst ((C0 a n).map V.str))) g=some (.lst ((C0 a n).map V.str)):=A9;generalize HU H g (.lst ((C0 a n).map V.str))=H2 at l p⊢;refine⟨g,rfl,⟨_,HY.of p⟩,λD O=>?_⟩;exact Et (λy=>decide (f y=some JS)) p (by lia) O (λy hy u q Q' R=>Xp (q _ _ (l _ _ G)) I (R _ λb o e=>e)) (λσ u q S=>⟨D,_,rfl,HY.of S,k u (l.trans q)⟩) _
theorem Rh(T:Tx K mg):II P w K mg base JG 3 T.bq.f T.bq.fd ["web", "words", "name"] (Th T.ab):=by
 refine T.bq.F.o1 Pp λv A i s H U Q E r h=>?_
 .obtain⟨x,d,n,z,a,B,f,rfl,t,C,G,I,k⟩:=h;have J:=U0 r;refine⟨_,(B7 (C3 (G0 (zCk K) T.cm zCw (A8 (J1 (N':=["striker", "words"]) (cap:=[none,some 1]) (cl:=[("words",_)]) (E9 ⟨⟨rfl,rfl,rfl,rfl⟩,trivial⟩ ⟨rfl,trivial⟩) rfl (JX K (Kq (pv 0) T.am T.ak.m (X7 T) (Rm r) T.ak.b .nil Hc (A8 (pv 2) B0))) (λ_ _ _ _=>by exact⟨(JQ 0),D8,(I0 i0 (Mw J (pv 1) (pv 0) ⟨rfl,rfl,rfl,rfl⟩) E3 (F6 _))⟩)) B0)))),?_⟩;obtain⟨L,M,W,b,c,X,Y,Z,N,_⟩:=id t;have lq:=L.lenq;have ls:(C0 a n).length<=a.length:=by unfold C0;rw[AA];exact BO ..
  refine A7 rfl ⟨x,M,A7 rfl ⟨N,rfl,A7 rfl ⟨x,n,z,a,rfl,t,C,λg j=>?_⟩⟩⟩;have l:=CW.new (o:=.lst ((C0 a n).map V.str)) j;have p:(HU H g (.lst ((C0 a n).map V.str))) g=some (.lst ((C0 a n).map V.str)):=A9;generalize HU H g (.lst ((C0 a n).map V.str))=H2 at l p⊢;refine⟨g,rfl,⟨_,HY.of p⟩,λD O=>?_⟩;exact Et (λy=>decide (f y=some MS)) p (by lia) O (λy hy u q Q' R=>Xp (q _ _ (l _ _ G)) I (R _ λb o e=>e)) (λσ u q S=>⟨D,_,rfl,HY.of S,k u (l.trans q)⟩) _
end
section
variable{ns l:A0 Str}{A O:(Str->A6 Str)->Str->Bool}{f:Str->A6 Str}{w n:Str}{num:Int}
def wl(ns:A0 Str)(f:Str->A6 Str):A0 Str:=ns.filter λn=>(f n).isNone
def D9(ns:A0 Str)(A:(Str->A6 Str)->Str->Bool)(f:Str->A6 Str):A0 Str:=(wl ns f).filter (A f)
def b9(ns:A0 Str)(A:(Str->A6 Str)->Str->Bool)(f:Str->A6 Str):Str->A6 Str:=Rf f (D9 ns A f) MS
def NW(ns:A0 Str)(A O:(Str->A6 Str)->Str->Bool)(f:Str->A6 Str):Str->A6 Str:=Rf (b9 ns A f) (D9 ns O (b9 ns A f)) JS
def S0(ns:A0 Str)(A O:(Str->A6 Str)->Str->Bool)(f:Str->A6 Str)(num:Int):A0 Row:=((D9 ns A f).map λn=>(n,MS,V.int num)) ++(D9 ns O (b9 ns A f)).map λn=>(n,JS,V.int num)
theorem KU:n∈wl ns f↔n∈ns/\f n=none:=by unfold wl;rw[BV,Option.isNone_iff_eq_none]
theorem X5(h:n∈D9 ns A f):n∈ns/\f n=none:=KU.mp (BV.mp h).1
theorem zBv(h:∀n∈l,n∈ns/\f n=none)(i:l.Nodup)(j:ns.Nodup):(wl ns (Rf f l w)).length+l.length<=(wl ns f).length:=by
 rw[<-AW];refine U3 (BU.mpr ⟨j.filter _,i,λa k b m e=>?_⟩) λx o=>?_
 .have:=(KU.mp k).2;rw[e,T0 m]at this;cases this
 .rcases AH.mp o with c | c
  .obtain⟨p,g⟩:=KU.mp c;refine KU.mpr ⟨p,?_⟩;by_cases d:x∈l
   .rw[T0 d]at g;cases g
   .rw[O6 d]at g;exact g
  .exact KU.mpr (h x c)
theorem Lk(a:ns.Nodup):(wl ns (Rf f (D9 ns A f) w)).length +(D9 ns A f).length<=(wl ns f).length:=zBv (λ_ h=>X5 h) ((a.filter _).filter _) a
theorem Tr(a:ns.Nodup):(wl ns (NW ns A O f)).length +(S0 ns A O f num).length<=(wl ns f).length:=by
 have b:(wl ns (b9 ns A f)).length+_<=_:=Lk (A:=A) (f:=f) (w:=MS) a;have c:(wl ns (NW ns A O f)).length+_<=_:=Lk (A:=O) (f:=b9 ns A f) (w:=JS) a;unfold S0;rw[AW,AA,AA];lia
theorem Mv(h:S0 ns A O f num = []):NW ns A O f=f:=by
 obtain⟨a,b⟩:=FT.mp h;have a:=FF.mp a;have b:=FF.mp b;have c:b9 ns A f=f:=by unfold b9;rw[a];exact funext λn=>O6 AL
 unfold NW;rw[b,c];exact funext λn=>O6 AL
inductive LS(ns:A0 Str)(A O:(Str->A6 Str)->Str->Bool):(Str->A6 Str)->Int->A0 Row->Prop
 | stop {f:Str->A6 Str} {num:Int}:S0 ns A O f num = []->LS ns A O f num ((wl ns f).map λn=>(n,SQ,V.non))
 | step {f:Str->A6 Str} {num:Int} {t:A0 Row}:S0 ns A O f num≠[]->LS ns A O (NW ns A O f) (num+1) t->LS ns A O f num (S0 ns A O f num++t)
theorem LS.one{r:A0 Row}(h:LS ns A O f num r):∀a,LS ns A O f num a->r=a:=by
 induction h with
 | stop b =>
  intro a c;cases c with
  | stop=>rfl
  | step d=>exact absurd b d
 | step b _ e =>
  intro a c;cases c with
  | stop d=>exact absurd d b
  | step _ g=>rw[e _ g]
def zFd(ns:A0 Str)(q:Row):Prop:=q.1∈ns/\PySem.PyData.strOk q.2.1=true/\(q.2.2 = .non\/∃i,q.2.2 = .int i)
theorem QO:PySem.PyData.strOk MS=true/\PySem.PyData.strOk JS=true/\PySem.PyData.strOk SQ=true:=⟨by decide +kernel,by decide +kernel,by decide +kernel⟩
theorem LS.ok{r:A0 Row}(h:LS ns A O f num r):∀q∈r,zFd ns q:=by
 induction h with
 | stop =>
  intro q b;obtain⟨n,a,rfl⟩:=AI.mp b;exact⟨(KU.mp a).1,QO.2.2,.inl rfl⟩
 | step _ _ d =>
  intro q b;rcases AH.mp b with c | c
  .rcases AH.mp c with c | c
   .obtain⟨n,a,rfl⟩:=AI.mp c;exact⟨(X5 a).1,QO.1,.inr ⟨_,rfl⟩⟩
   .obtain⟨n,a,rfl⟩:=AI.mp c;exact⟨(X5 a).1,QO.2.1,.inr ⟨_,rfl⟩⟩
  .exact d q c
def Up(H:Hp)(ns:A0 Str)(qs:A0 IU)(Q:VK):Prop:=∀l a b,CW H b->H l=none->RL b l a->LS ns (C5 qs) (F5 qs) (λ_=>none) 1 (a.map λq=>q.2)->a.length<=100->Q (.ref l) b
theorem LQ{qs:A0 IU}{n y:Str}:y∈C0 qs n↔(y,n)∈qs.map λq=>q.2:=by
 unfold C0;rw[AI,AI];constructor
 .rintro⟨q,a,rfl⟩;obtain⟨b,c⟩:=BV.mp a;exact⟨q,b,Prod.ext rfl (BH c)⟩
 .rintro⟨q,a,e⟩;exact⟨q,BV.mpr ⟨a,AJ (congrArg Prod.snd e)⟩,congrArg Prod.fst e⟩
end
def Vx{H H':Hp}{d b:A2}{o:HO}(k:Sm [d] H H')(e:H' d=some o)(h:H' b=none):H b=none:=by
 cases a:H b with
 | none=>rfl
 | some c =>
  have:=LR k a (B3 e h).symm;rw[h]at this;cases this
def CW.smd{a H H':Hp}{d:A2}(s:CW a H)(h:a d=none)(k:Sm [d] H H'):CW a H':=λb o e=>LR k (s b o e) (B3 e h)
section
variable{P:Cv}{w:HS}{K:PySem.W.Frag}{mg:Str->A6 A1}{base:HX}
def Gc(C:A2):Sp:=λj H Q _=>∃(g:Hp) (x d:A2) (num:Int) (h:A0 Str) (c:A0 IU) (b:A0 (IL×V)) (f:Str->A6 Str),j = [.ref x,.ref d,.int num]/\CW g H/\g d=none/\KQ C g x h c/\H d=some (.dK b)/\WD b f/\b.length<=1000 /\
 ∀l i a e,Sm [d] H e->H l=none->RL e l i->i.map (λq=>q.2)=S0 h (C5 c) (F5 c) f num->e d=some (.dK a)->WD a (NW h (C5 c) (F5 c) f)->a.length<=b.length+i.length->Q (.ref l) e
theorem LO:HW ["web", "words", "number", "ins", "outs"] ["web", "words", "number"] (B6 OJ):=KA
set_option maxHeartbeats 4000000 in
theorem Ac(T:Tx K mg):II P w K mg base JG 4 T.aP.f T.aP.fd ["web", "words", "number"] (Gc T.ab):=by
 refine T.aP.F.o1 LO λcdv A outer s H vs Q E hr h=>?_
 .obtain⟨H0,x,d,num,b,a,m,f,rfl,s0,hd0,hW,hd,hf,hk,k⟩:=h;refine⟨_,(B2 (U8 (i:=3) (N':=["name", "web", "words"]) (cap:=[none,some 0,some 1]) (cl:=[("words",_),("web",_)]) LO.nd rfl (.inl rfl) (E9 ⟨⟨rfl,rfl,rfl,rfl⟩,⟨⟨rfl,rfl,rfl,rfl⟩,trivial⟩⟩ ⟨rfl,⟨rfl,trivial⟩⟩) rfl (JX K (C8 T.aE (b7 T) (Rm hr) (A8 (pv 0) (A8 (pv 1) B0)))) (λ_ _ _ _=>by exact⟨(JQ 0),(J5 (K1 (C8 T.bj (Og T) (Rm hr) (A8 (pv 1) (A8 (pv 2) (A8 (pv 0) B0)))))),(pv 0)⟩))
   (B2 (G9 (Rw (pv 1) (Vv (N':=["name"]) (cap:=[none]) (cl:=[]) (E9 trivial trivial) rfl (JX K (pv 3)) (λ_ _ _ _=>by exact⟨(JQ 0),D8,(pv 0),E3⟩)) ⟨rfl,rfl,rfl,rfl⟩))
   (B2 (U8 (i:=4) (N':=["name", "web", "words"]) (cap:=[none,some 0,some 1]) (cl:=[("words",_),("web",_)]) LO.nd rfl (.inl rfl) (E9 ⟨⟨rfl,rfl,rfl,rfl⟩,⟨⟨rfl,rfl,rfl,rfl⟩,trivial⟩⟩ ⟨rfl,⟨rfl,trivial⟩⟩) rfl (JX K (C8 T.aE (b7 T) (Rm hr) (A8 (pv 0) (A8 (pv 1) B0)))) (λ_ _ _ _=>by exact⟨(JQ 0),(J5 (K1 (C8 T.bq (Rh T) (Rm hr) (A8 (pv 1) (A8 (pv 2) (A8 (pv 0) B0)))))),(pv 0)⟩))
   (B2 (G9 (Rw (pv 1) (Vv (N':=["name"]) (cap:=[none]) (cl:=[]) (E9 trivial trivial) rfl (JX K (pv 4)) (λ_ _ _ _=>by exact⟨(JQ 0),D8,(pv 0),E3⟩)) ⟨rfl,rfl,rfl,rfl⟩))
   (B7 (C3 (F9 K4 (J1 (N':=["name", "number"]) (cap:=[none,some 2]) (cl:=[("number",_)]) (E9 ⟨⟨rfl,rfl,rfl,rfl⟩,trivial⟩ ⟨rfl,trivial⟩) rfl (JX K (pv 3)) (λ_ _ _ _=>by exact⟨(JQ 0),D8,(J7 (A8 (pv 0) (A8 E3 (A8 (pv 1) B0))))⟩)) (J1 (N':=["name", "number"]) (cap:=[none,some 2]) (cl:=[("number",_)]) (E9 ⟨⟨rfl,rfl,rfl,rfl⟩,trivial⟩ ⟨rfl,trivial⟩) rfl (JX K (pv 4)) (λ_ _ _ _=>by exact⟨(JQ 0),D8,(J7 (A8 (pv 0) (A8 E3 (A8 (pv 1) B0))))⟩))))))))),?_⟩
  have ok:=hW.ok;have ln:=ok.len;have nn:=ok.nd;have p:∀g:Str->A6 Str,(wl b g).length<=100:=λg=>Nat.le_trans (BO ..) ln;have li:(D9 b (C5 a) f).length<=100:=Nat.le_trans (BO ..) (p _);have lo:(D9 b (F5 a) (b9 b (C5 a) f)).length<=100:=Nat.le_trans (BO ..) (p _);refine B5 λN1 hN1=>?_;refine A7 rfl (A7 rfl ⟨x,d,b,a,m,f,rfl,hW.same s0,hd,hf,λl1 H1 s1 hl1 e1=>?_⟩);refine⟨l1,rfl,⟨_,HY.of e1⟩,λO U=>?_⟩;refine V9 (C5 a f) e1 (Nat.le_trans (p f) (by decide)) U (λy W G u X hQ=>?_) (λσ H2 s2 v=>?_) _
  .refine A7 rfl (A7 rfl (A7 rfl ⟨x,d,y,b,a,m,f,rfl,(hW.same s0).same (s1.trans u),(KU.mp W).1,(s1.trans u) _ _ hd,hf,λG' B=>⟨_,rfl,hQ G' B⟩⟩))
  have v:H2 O=some (.lst ((D9 b (C5 a) f).map V.str)):=v;have C:=s1.trans s2;have r:=C _ _ hd;refine hN1 _ _ (B5 λN2 hN2=>?_);refine A7 rfl ⟨d,rfl,.inl ⟨_,.inl r⟩,A7 rfl ⟨O,rfl,⟨_,HY.of v⟩,λE1 D=>?_⟩⟩;refine Lv v ((nn.filter _).filter _) (Nat.le_trans li (by decide)) D (λσ H3 Y e3=>?_) _;have I:=Y _ _ r;have R:=hf.mrg (w:=MS) (l:=D9 b (C5 a) f);have m1:=K7 m ((D9 b (C5 a) f).map λn=>(Sum.inr n,V.str MS));rw[AA]at m1;refine⟨E1,m,_,rfl,I,e3,(B3 r D),by rw[AA,sizeLine_eq];lia,hN2 _ _ (B5 λN3 hN3=>?_)⟩;have n1:O≠d:=J8 (Y _ _ v) I (by intro z;cases z);have k4:Sm [d] H (HU H3 d (.dK (K6 m ((D9 b (C5 a) f).map λn=>(Sum.inr n,V.str MS))))):=(C.trans Y).sm.upd (by simp);have Z:(HU H3 d (.dK (K6 m ((D9 b (C5 a) f).map λn=>(Sum.inr n,V.str MS))))) d=some (.dK (K6 m ((D9 b (C5 a) f).map λn=>(Sum.inr n,V.str MS)))):=A9;have e4:(HU H3 d (.dK (K6 m ((D9 b (C5 a) f).map λn=>(Sum.inr n,V.str MS))))) O=some (.lst ((D9 b (C5 a) f).map V.str)):=(B8 n1).trans (Y _ _ v);generalize K6 m ((D9 b (C5 a) f).map λn=>(Sum.inr n,V.str MS))=j at R m1 k4 Z e4⊢;generalize HU H3 d (.dK j)=H4 at k4 Z e4⊢;have W4:=hW.same (CW.smd s0 hd0 k4);have R:WD j (b9 b (C5 a) f):=R;clear s1 s2 C Y e1 v e3 r I hl1 U D;refine A7 rfl (A7 rfl ⟨x,d,b,a,j,b9 b (C5 a) f,rfl,W4,Z,R,λl2 H5 s5 hl2 e5=>?_⟩);refine⟨l2,rfl,⟨_,HY.of e5⟩,λD2 hD2=>?_⟩;refine V9 (F5 a (b9 b (C5 a) f)) e5 (Nat.le_trans (p _) (by decide)) hD2 (λy W G u X hQ=>?_) (λσ H6 s6 S=>?_) _
  .refine A7 rfl (A7 rfl (A7 rfl ⟨x,d,y,b,a,j,b9 b (C5 a) f,rfl,W4.same (s5.trans u),(KU.mp W).1,(s5.trans u) _ _ Z,R,λG' B=>⟨_,rfl,hQ G' B⟩⟩))
  have S:H6 D2=some (.lst ((D9 b (F5 a) (b9 b (C5 a) f)).map V.str)):=S;have J:=s5.trans s6;have L:=J _ _ Z;refine hN3 _ _ (B5 λN4 hN4=>?_);refine A7 rfl ⟨d,rfl,.inl ⟨_,.inl L⟩,A7 rfl ⟨D2,rfl,⟨_,HY.of S⟩,λE2 hE2=>?_⟩⟩;refine Lv S ((nn.filter _).filter _) (Nat.le_trans lo (by decide)) hE2 (λσ H7 s7 e7=>?_) _;have hd7:=s7 _ _ L;have k2:=R.mrg (w:=JS) (l:=D9 b (F5 a) (b9 b (C5 a) f));have m2:=K7 j ((D9 b (F5 a) (b9 b (C5 a) f)).map λn=>(Sum.inr n,V.str JS));rw[AA]at m2;refine⟨E2,j,_,rfl,hd7,e7,(B3 L hE2),by rw[AA,sizeLine_eq];lia,hN4 _ _ ?_⟩;have n2:D2≠d:=J8 (s7 _ _ S) hd7 (by intro z;cases z);have k8:Sm [d] H (HU H7 d (.dK (K6 j ((D9 b (F5 a) (b9 b (C5 a) f)).map λn=>(Sum.inr n,V.str JS))))):=(k4.trans (J.trans s7).sm).upd (by simp);have d8:(HU H7 d (.dK (K6 j ((D9 b (F5 a) (b9 b (C5 a) f)).map λn=>(Sum.inr n,V.str JS))))) d=some (.dK (K6 j ((D9 b (F5 a) (b9 b (C5 a) f)).map λn=>(Sum.inr n,V.str JS)))):=A9;have a8:(HU H7 d (.dK (K6 j ((D9 b (F5 a) (b9 b (C5 a) f)).map λn=>(Sum.inr n,V.str JS))))) O=some (.lst ((D9 b (C5 a) f).map V.str)):=(B8 n1).trans (s7 _ _ (J _ _ e4));have b8:(HU H7 d (.dK (K6 j ((D9 b (F5 a) (b9 b (C5 a) f)).map λn=>(Sum.inr n,V.str JS))))) D2=some (.lst ((D9 b (F5 a) (b9 b (C5 a) f)).map V.str)):=(B8 n2).trans (s7 _ _ S);generalize K6 j ((D9 b (F5 a) (b9 b (C5 a) f)).map λn=>(Sum.inr n,V.str JS))=M at k2 m2 k8 d8 a8 b8⊢;generalize HU H7 d (.dK M)=H8 at k8 d8 a8 b8⊢;have k2:WD M (NW b (C5 a) (F5 a) f):=k2;refine A7 rfl ⟨O,rfl,⟨_,HY.of a8⟩,λR1 hR1=>?_⟩;refine u9 (v3:=.int num) (λ_=>true) a8 (Nat.le_trans li (by decide)) hR1 (λy G X N=>⟨_,rfl,N⟩) (λy W G u X N=>N) (λσ rs1 H9 s9 L9 q9=>?_) _;rw[Q0]at q9;refine A7 rfl ⟨D2,rfl,⟨_,HY.of (s9 _ _ b8)⟩,λR2 hR2=>?_⟩;refine u9 (v3:=.int num) (λ_=>true) (s9 _ _ b8) (Nat.le_trans lo (by decide)) hR2 (λy G X N=>⟨_,rfl,N⟩) (λy W G u X N=>N) (λσ rs2 HA sA LA qA=>?_) _;rw[Q0]at qA;have L9:=L9.same sA;have lr1:=congrArg List.length q9;have lr2:=congrArg List.length qA;rw[AA,AA]at lr1 lr2;refine⟨R1,R2,_,_,rfl,rfl,L9.1,LA.1,by rw[AA,AA,sizeLine_eq];lia,λc hc=>?_⟩;have uB:=CW.new (o:=.lst ((rs1.map λq=>V.ref q.1)++rs2.map λq=>V.ref q.1)) hc;have t:=s9.trans sA;refine k c (rs1++rs2) M _ (k8.trans (t.trans uB).sm) (Vx (k8.trans t.sm) (t _ _ d8) hc) (L9.app LA A9 λq o e=>uB _ _ e) ?_ (uB _ _ (t _ _ d8)) k2 (by rw[AW];lia);rw[AF,q9,qA];rfl
end
def RL.smd{H H':Hp}{l d:A2}{b:A0 (A2×Row)}{a:A0 (IL×V)}(h:RL H l b)(e:H d=some (.dK a))(k:Sm [d] H H'):RL H' l b :=
 ⟨LR k h.1 (J8 h.1 e (by intro z;cases z)),λq c=>LR k (h.2 q c) (J8 (h.2 q c) e (by intro z;cases z))⟩
section
variable{P:Cv}{w:HS}{K:PySem.W.Frag}{mg:Str->A6 A1}{base:HX}
def Td(C:A2):Sp:=λd H Q _=>∃(x a:A2) (b:A0 Str) (c:A0 IU),d = [.ref x,.ref a]/\KQ C H x b c/\H a=some (.dK [])/\Up H b c Q
theorem IW:HW ["web", "known", "words", "rows", "number", "fresh"] ["web", "known"] (B6 LX):=KA
set_option maxHeartbeats 4000000 in
theorem Ai(T:Tx K mg):II P w K mg base JG 5 T.aA.f T.aA.fd ["web", "known"] (Td T.ab):=by
 refine T.aA.F.o1 IW λcdv A outer s H vs Q E hr h=>?_
 .obtain⟨x,d0,ns,N,rfl,hW,hd0,k⟩:=h;refine⟨_,(B2 (C2 (i:=2) IW.nd rfl (.inl rfl) (V4 zAd T.bh Bq (A8 (pv 1) B0)))
   (B2 (C2 (i:=3) IW.nd rfl (.inl rfl) (F7 B0))
   (B2 (C2 (i:=4) IW.nd rfl (.inl rfl) B4)
   (B2 (C2 (i:=5) IW.nd rfl (.inl rfl) (C8 T.aP (Ac T) (Rm hr) (A8 (pv 0) (A8 (pv 2) (A8 (pv 4) B0)))))
   (B2 (Aq PassesOwn.never (ptV K (pv 5)) (B2 (G9 (Ln K PySem.F.plainAttrs_list PySem.F.slot_list_extend PySem.F.type_list_extend Go (pv 3) (A8 (pv 5) B0)))
   (B2 (zDh (i:=4) IW.nd rfl (Or.inl rfl) B4 zBq)
   (B7 (C2 (i:=5) IW.nd rfl (.inl rfl) (C8 T.aP (Ac T) (Rm hr) (A8 (pv 0) (A8 (pv 2) (A8 (pv 4) B0)))))))))
   (B7 (C3 (F9 K4 (pv 3) (J1 (N':=["name"]) (cap:=[none]) (cl:=[]) (E9 trivial trivial) rfl (JX K (C8 T.aE (b7 T) (Rm hr) (A8 (pv 0) (A8 (pv 2) B0)))) (λ_ _ _ _=>by exact⟨(JQ 0),D8,(J7 (A8 (pv 0) (A8 E3 (A8 m8 B0))))⟩)))))))))),?_⟩
  have ok:=hW.ok;have ln:=ok.len;have nn:=ok.nd;unfold Up at k;generalize hA:C5 N=A at k;generalize hO:F5 N=O at k;have R:∀g:Str->A6 Str,(wl ns g).length<=100:=λg=>Nat.le_trans (BO ..) ln;refine B5 λN1 hN1=>?_;refine A7 rfl ⟨d0,_,rfl,hd0,λd S=>?_⟩;have u1:=CW.new (o:=.dK []) S;have f1:(HU H d (.dK [])) d=some (.dK []):=A9;generalize HU H d (.dK [])=H1 at u1 f1⊢;refine hN1 _ _ (B5 λN2 hN2=>?_);refine⟨BR _,λr U=>?_⟩;have W:=CW.new (o:=.lst []) U;have f2:(HU H1 r (.lst [])) r=some (.lst []):=A9;generalize HU H1 r (.lst [])=H2 at W f2⊢;have hr':=u1.free U;refine hN2 _ _ (B5 λN3 hN3=>?_);refine hN3 _ _ (B5 λN4 hN4=>?_);refine A7 rfl (A7 rfl (A7 rfl ⟨H,x,d,1,ns,N,[],λ_=>none,rfl,u1.trans W,S,hW,W _ _ f1,λn=>rfl,BR _,λl B a H3 k3 hl L3 q3 e3 X RN=>?_⟩));rw[hA,hO]at q3 X;have L2:RL H2 r []:=⟨f2,λq h=>absurd h AL⟩;have lr:l≠r:=(B3 f2 hl).symm;have rw0:=Tr (ns:=ns) (A:=A) (O:=O) (f:=λ_=>none) (num:=1) nn;have lw0:=R λ_=>none;have lq:=congrArg List.length q3;rw[AA]at lq;rw[GM,EH]at RN;refine hN4 _ _ (B5 λN5 hN5=>?_);refine⟨λm σ v=>∃(num:Int) (l:A2) (a:A0 (IL×V)) (f:Str->A6 Str) (p B:A0 (A2×Row)),σ = [some (.ref x),some (.ref d0),some (.ref d),some (.ref r),some (.int num),some (.ref l)]/\CW H v/\v d=some (.dK a)/\WD a (NW ns A O f)/\RL v r p/\RL v l B/\l≠r /\
   B.map (λq=>q.2)=S0 ns A O f num/\(∀t,LS ns A O f num t->LS ns A O (λ_=>none) 1 ((p.map λq=>q.2)++t))/\m =(wl ns (NW ns A O f)).length+B.length/\a.length +(wl ns (NW ns A O f)).length<=100/\p.length+m<=100,⟨_,1,l,a,_,[],B,rfl,CW.smd (u1.trans W) S k3,e3,X,L2.smd (W _ _ f1) k3,L3,lr,q3,λt h=>h,rfl,by lia,by show 0+_<=_;lia⟩,?_⟩
  rintro m σ v ⟨num,l,a,f,p,B,rfl,s4,e4,C,u,Ll,nlr,I,W4,rfl,RM,ld4⟩;refine A7 rfl ⟨_,.inl ⟨_,HY.of Ll.1,rfl⟩,?_⟩;cases B with
  | nil =>
   refine X0 (hN5 _ _ ?_);have I:=I.symm;rw[Mv I]at C RM ld4;refine A7 rfl (A7 rfl (A7 rfl ⟨x,d,ns,N,a,f,rfl,hW.same s4,e4,C,λl1 H5 Y hl1 M=>⟨l1,rfl,⟨_,HY.of M⟩,λD hD=>?_⟩⟩));refine u9 (v3:=.non) (r:=[]) (λ_=>true) M (Nat.le_trans (R f) (by decide)) hD (λy G Q' hq=>hq) (λy hy G sg Q' hq=>hq) (λσ j H6 s6 L6 J=>?_) _;rw[Q0]at J;have Z:=Y.trans s6;have u:=u.same Z;have l2:=congrArg List.length J;rw[AA,AA]at l2;have l2:j.length =(wl ns f).length:=l2;have l0:([]:A0 (A2×Row)).length=0:=rfl;refine⟨r,D,_,_,rfl,rfl,u.1,L6.1,by rw[AA,AA,sizeLine_eq];lia,λc hc=>?_⟩;have u7:=CW.new (o:=.lst ((p.map λq=>V.ref q.1)++j.map λq=>V.ref q.1)) hc;have s46:=s4.trans Z;exact k c (p++j) _ (s46.trans u7) (s46.free hc) (u.app L6 A9 λq o e=>u7 _ _ e) (by rw[AF,J];exact W4 _ (.stop I)) (by rw[AW];lia)
  | cons L b =>
   refine g9 ⟨_,λ_ _ z=>z,B5 λM1 hM1=>?_⟩;refine A7 rfl ⟨.inl ⟨rfl,_,HY.of u.1⟩,A7 rfl ⟨r,l,_,_,rfl,rfl,u.1,Ll.1,by rw[AA,AA,sizeLine_eq];lia,hM1 _ _ (B5 λM2 hM2=>?_)⟩⟩;have Y:=s4.upd (o:=.lst ((p.map λq=>V.ref q.1) ++(L::b).map λq=>V.ref q.1)) hr';have nrd:r≠d:=J8 u.1 e4 (by intro z;cases z);have M:(HU v r (.lst ((p.map λq=>V.ref q.1) ++(L::b).map λq=>V.ref q.1))) d=some (.dK a):=(B8 nrd.symm).trans e4;have L5:RL (HU v r (.lst ((p.map λq=>V.ref q.1) ++(L::b).map λq=>V.ref q.1))) r (p++L::b):=u.app Ll A9 λq o e=>(B8 (J8 e u.1 (by intro z;cases z))).trans e;have ne:S0 ns A O f num≠[]:=λc=>by rw[c]at I;cases I
   generalize HU v r (.lst ((p.map λq=>V.ref q.1) ++(L::b).map λq=>V.ref q.1))=H5 at Y M L5⊢;have lc:(L::b).length=b.length+1:=rfl;refine A7 rfl ⟨_,_,rfl,rfl,hM2 _ _ ?_⟩;refine A7 rfl (A7 rfl (A7 rfl ⟨H,x,d,num+1,ns,N,a,_,rfl,Y,S,hW,M,C,by lia,λl' j kv2 H6 k6 hl6 L6 J e6 wd6 len6=>?_⟩));rw[hA,hO]at J wd6;have rwl:=Tr (ns:=ns) (A:=A) (O:=O) (f:=NW ns A O f) (num:=num+1) nn;have l6:=congrArg List.length J;rw[AA]at l6;refine⟨(wl ns (NW ns A O (NW ns A O f))).length+j.length,by lia,_,l',kv2,NW ns A O f,p++L::b,j,rfl,CW.smd Y S k6,e6,wd6,L5.smd M k6,L6,(B3 L5.1 hl6).symm,J,λt ht=>?_,rfl,by lia,by rw[AW];lia⟩;rw[AF,I,BF];exact W4 _ (.step ne ht)
def Tf(C:A2):Sp:=λc H Q _=>∃(x:A2) (a:A0 Str) (b:A0 IU),c = [.ref x]/\KQ C H x a b/\Up H a b Q
theorem Pe:HW ["web"] ["web"] (B6 QX):=KA
theorem Fy(T:Tx K mg):II P w K mg base JG 6 T.bg.f T.bg.fd ["web"] (Tf T.ab):=by
 refine T.bg.F.o1 Pe λc A a s H r Q E d h=>?_
 .obtain⟨x,e,g,rfl,i,k⟩:=h;refine⟨_,(B7 (C3 (C8 T.aA (Ai T) (Rm d) (A8 (pv 0) (A8 Mh B0))))),?_⟩;refine A7 rfl λD j=>?_;have b:=CW.new (o:=.dK []) j;exact⟨x,D,e,g,rfl,i.same b,A9,λl m n p q L R z=>k l m n (b.trans p) (b.free q) L R z⟩
end
def zEa{x y:Str}(h:x.cps.toList=y.cps.toList):x=y:=by
 cases x;cases y;exact congrArg Str.mk (Array.toList_inj.mp h)
def Wa{x y:Str}(h1:QL x y)(h2:QL y x):x=y:=zEa (List.le_antisymm (as:=x.cps.toList) (bs:=y.cps.toList) h1 h2)
def Y0{a b:A0 Str}(h1:a.Pairwise QL)(h2:b.Pairwise QL)(h:a.Perm b):a=b:=List.Perm.eq_of_pairwise (λ_ _ _ _=>Wa) h1 h2 h
def zBa{k:Str×Str}(h1:PySem.PyData.strOk k.1=true)(h2:PySem.PyData.strOk k.2=true):Pl (pd k):=by
 refine⟨?_,?_⟩
 .unfold pd;simp[PyData.canLay0,PyData.canLayAll0,h1,h2]
 .unfold pd;simp[PyData.depth,PyData.depthAll]
def zFl{b a:A0 JK}(d:a.map dS=b.map dS):nS a=nS b:=by
 have:=congrArg (List.map λq:Str×Str×A0 Str=>q.1) d;rw[AN,AN]at this;exact this
def SD.names{i:A0 JJ}{b:A0 JK}{st:A0 JD}{f:A0 IU}{g:Str}{c:A0 Str}(h:SD b f g c)(d:PV i b st f)(j:g∈nS b\/g∈nT st):(∀x∈c,K3 x=true)/\c.length<=30:=by
 by_cases e:g∈nS b
 .have sub:∀x∈c,x∈nS b:=λx a=>Pn d e (by have:=(h.mem x).mp a;rwa [AY e]at this);refine⟨λx a=>d.nm x (BS _ (sub x a)),Nat.le_trans (U3 h.nd sub) ?_⟩;unfold nS;rw[AA];exact d.len.2.1
 .have sub:∀x∈c,x∈[g]:=λx a=>by have:=(h.mem x).mp a;rw[AS e]at this;rw[this];exact AC.mpr rfl
  refine⟨λx a=>by rw[AC.mp (sub x a)];exact d.nm g (AH.mpr j),Nat.le_trans (U3 h.nd sub) (by rw[EE];decide)⟩
def LS.free{ns:A0 Str}{A O:(Str->A6 Str)->Str->Bool}{f:Str->A6 Str}{num:Int}{r:A0 Row}(h:LS ns A O f num r):∀q∈r,f q.1=none:=by
 induction h with
 | stop =>
  intro q g;obtain⟨n,b,rfl⟩:=AI.mp g;exact(KU.mp b).2
 | step _ _ i =>
  intro q g;have a:∀{f:Str->A6 Str} {l:A0 Str} {w n:Str},Rf f l w n=none->f n=none:=fun{f l w n} e=>by
   by_cases d:n∈l
   .rw[T0 d]at e;cases e
   .rwa [O6 d]at e
  rcases AH.mp g with c | c
  .rcases AH.mp c with c | c
   .obtain⟨n,b,rfl⟩:=AI.mp c;exact(X5 b).2
   .obtain⟨n,b,rfl⟩:=AI.mp c;exact a (X5 b).2
  .exact a (a (i q c))
def LS.in1{ns:A0 Str}{A O:(Str->A6 Str)->Str->Bool}{f:Str->A6 Str}{num:Int}{r:A0 Row}(h:LS ns A O f num r){n:Str}(a:n∈D9 ns A f):(∃q∈r,q.1=n)/\∀q∈r,q.1=n->q.2.1=MS:=by
 have b:b9 ns A f n=some MS:=T0 a;cases h with
 | stop g =>
  exfalso;have:=(FT.mp g).1;rw[FF.mp this]at a;cases a
 | step g j =>
  refine⟨⟨(n,MS,V.int num),BS _ (BS _ (AI.mpr ⟨n,a,rfl⟩)),rfl⟩,λq k e=>?_⟩;rcases AH.mp k with c | c
  .rcases AH.mp c with c | c
   .obtain⟨m,i,rfl⟩:=AI.mp c;rfl
   .obtain⟨m,i,rfl⟩:=AI.mp c;have z:=(X5 i).2;have e:m=n:=e;rw[e,b]at z;cases z
  .have z:=j.free q c;rw[e]at z;have:Rf (b9 ns A f) (D9 ns O (b9 ns A f)) JS n=none:=z;by_cases d:n∈D9 ns O (b9 ns A f)
   .rw[T0 d]at this;cases this
   .rw[O6 d,b]at this;cases this
def SF(a:A0 Row):A0 (IL×V):=a.map λq=>((Sum.inr q.1:IL),V.str q.2.1)
def Qf{k:IL}{v:V}:∀{l b:A0 (IL×V)},(∀p∈l,p.1=k->p.2=v)->(U1 b k=some v\/(U1 b k=none/\∃p∈l,p.1=k))->U1 (K6 b l) k=some v
 | [],b,_,h=>by
  rcases h with h | ⟨_,p,c,_⟩
  .exact h
  .cases c
 | a::r,b,d,g=>by
  show U1 (K6 (i7 b a.1 a.2) r) k=some v;refine Qf (λp c=>d p (AQ _ c)) ?_;rw[Ee];by_cases e:k=a.1
  .rw[AY e,d a (AZ ..) e.symm];exact .inl rfl
  .rw[AS e];rcases g with h | ⟨h,p,c,f⟩
   .exact .inl h
   .refine .inr ⟨h,p,(A_.mp c).resolve_left λz=>e (by rw[<-f,z]),f⟩
def Px{k:IL}:∀{l b:A0 (IL×V)},(∀p∈l,∃s,p.2=V.str s/\PySem.PyData.strOk s=true)->(∀v,U1 b k=some v->∃s,v = .str s/\PySem.PyData.strOk s=true)->∀v,U1 (K6 b l) k=some v->∃s,v = .str s/\PySem.PyData.strOk s=true
 | [],b,_,h=>h
 | a::r,b,d,f=>by
  show ∀v,U1 (K6 (i7 b a.1 a.2) r) k=some v->_;refine Px (λp g=>d p (AQ _ g)) λv c=>?_;rw[Ee]at c;by_cases e:k=a.1
  .rw[AY e]at c;cases c;exact d a (AZ ..)
  .rw[AS e]at c;exact f v c
def Tv:∀(l b:A0 (IL×V)),(K6 b l).length<=b.length+l.length
 | [],b=>Nat.le_refl _
 | a::r,b=>by
  show(K6 (i7 b a.1 a.2) r).length<=_;have c:=Tv r (i7 b a.1 a.2);have d:=Q7 b a.1 a.2;rw[BK];lia
def La(a:IL×V):∀(l c:A0 (IL×V)),K6 c (l ++ [a])=i7 (K6 c l) a.1 a.2
 | [],c=>rfl
 | b::r,c=>by
  show K6 (i7 c b.1 b.2) (r ++ [a])=_;rw[La a r];rfl
def Gb(a:A0 Row)(n:Str):V:=(U1 (K6 [] (SF a)) (Sum.inr n)).getD (.str "none")
def OW(d:A0 JJ)(e:A0 JK)(st:A0 JD)(f:A0 IU)(a:A0 Row):Prop:=∃(b:A0 Str) (c:A0 IU),b.Perm (Ak d e st)/\b.Pairwise QL/\(∀k,k∈(c.map λq=>q.2)↔Um d e st f k)/\LS b (C5 c) (F5 c) (λ_=>none) 1 a
def Wt{qs ps:A0 IU}(p:∀k,k∈(qs.map λq=>q.2)↔k∈(ps.map λq=>q.2)):C5 qs=C5 ps/\F5 qs=F5 ps:=by
 have m:∀{n y},y∈C0 qs n↔y∈C0 ps n:=by intro n y;rw[LQ,LQ];exact p _
 refine⟨funext λf=>funext λn=>D_.mpr ?_,funext λf=>funext λn=>D_.mpr ?_⟩
 .rw[w8,w8];exact⟨λh y a=>h y (m.mpr a),λh y a=>h y (m.mp a)⟩
 .rw[By,By];exact⟨λ⟨y,a,h⟩=>⟨y,m.mp a,h⟩,λ⟨y,a,h⟩=>⟨y,m.mpr a,h⟩⟩
section
variable{pe:A0 JJ}{sa:A0 JK}{st:A0 JD}{ba:A0 IU}{rows rows':A0 Row}
theorem OW.one(h:OW pe sa st ba rows)(h':OW pe sa st ba rows'):rows=rows':=by
 obtain⟨d,qs,f,g,i,c⟩:=h;obtain⟨a,b,j,l,m,n⟩:=h';have e:d=a:=Y0 g l (f.trans j.symm);subst e;obtain⟨o,p⟩:=Wt (qs:=qs) (ps:=b) λk=>(i k).trans (m k).symm;rw[o,p]at c;exact c.one _ n
theorem OW.str(h:OW pe sa st ba rows)(n:Str):∃s,Gb rows n = .str s/\PySem.PyData.strOk s=true:=by
 obtain⟨g,i,j,k,l,a⟩:=h;have b:∀p∈SF rows,∃s,p.2=V.str s/\PySem.PyData.strOk s=true:=λp c=>by
  obtain⟨q,d,rfl⟩:=AI.mp c;exact⟨q.2.1,rfl,(a.ok q d).2.1⟩
 unfold Gb;cases e:U1 (K6 [] (SF rows)) (Sum.inr n)with
 | none=>exact⟨"none",rfl,by decide +kernel⟩
 | some v=>exact Px b (λv f=>by cases f) v e
theorem OW.in_(h:OW pe sa st ba rows){n:Str}(b:n∈nS sa)(c:∀a,¬Um pe sa st ba (a,n)):Gb rows n = .str MS:=by
 obtain⟨d,f,g,u,i,j⟩:=h;have k:n∈D9 d (C5 f) λ_=>none:=by
  refine BV.mpr ⟨KU.mpr ⟨g.mem_iff.mpr (BS _ b),rfl⟩,?_⟩;rw[w8];intro y l;exact absurd ((i _).mp (LQ.mp l)) (c y)
 obtain⟨⟨q,m,e⟩,o⟩:=j.in1 k;have r:U1 (K6 [] (SF rows)) (Sum.inr n)=some (.str MS):=Qf (λp s e=>by
  obtain⟨z,t,rfl⟩:=AI.mp s;have e:z.1=n:=Sum.inr.inj e;show V.str z.2.1=_;rw[o z t e]) (.inr ⟨rfl,((Sum.inr q.1:IL),V.str q.2.1),AI.mpr ⟨q,m,rfl⟩,by rw[e]⟩)
 unfold Gb;rw[r];rfl
end
section
variable{P:Cv}{w:HS}{K:PySem.W.Frag}{mg:Str->A6 A1}{base:HX}
theorem LN:HW ["weave", "name", "words"] ["weave", "name"] (B6 QE):=KA
def Zj(C:A2):Sp:=λf H Q _=>∃(x:A2) (c:A0 JJ) (b:A0 JK) (st:A0 JD) (d:A0 IU) (n:Str),f = [.ref x,.str n]/\IV C H x c b st d/\PV c b st d/\b.length<=12/\st.length<=12/\(n∈nS b\/n∈nT st) /\
 ∀(a:A0 Row) e,CW H e->OW c b st d a->Q (Gb a n) e
set_option maxHeartbeats 4000000 in
theorem Cy(T:Tx K mg):II P w K mg base JG 7 T.al.f T.al.fd ["weave", "name"] (Zj T.aa):=by
 refine T.al.F.o1 LN λcdv A u s H vs Q E j h=>?_
 .obtain⟨x,B,e,st,C,n,rfl,I,ok,J,L,hn,q⟩:=h;have hu:=U0 j;refine⟨_,(B2 (K5 (C9 (S2 K) (pv 1) (F9 K4 (C8 T.af (E8 T) (Rm j) (A8 (PQ K (pv 0)) B0)) (C8 T.af (E8 T) (Rm j) (A8 (PQ K (pv 0)) B0))) rfl) (B7 U7) E6)
   (B2 (Mf (i:=2) (N':=["one", "word", "number"]) (cap:=[none,none,none]) (cl:=[]) LN.nd rfl (.inl rfl) (E9 trivial trivial) rfl (JX K (C8 T.bg (Fy T) (Rm j) (A8 (C8 T.bo (Lu T) (Rm j) (A8 (pv 0) B0)) B0))) (λ_ _ _ _=>by exact⟨(Q_ K (n:=3) (C6 (JQ 0) (C6 (JQ 1) (C6 (JQ 2) J9)))),D8,(pv 0),(pv 1)⟩))
   (B7 (C3 (Y1 hu (pv 2) (pv 1) E3 ⟨rfl,rfl,rfl,rfl⟩))))),?_⟩
  obtain⟨dx,a,b,c,d,g,W⟩:=I;have I:IV T.aa H x B e st C:=⟨dx,a,b,c,d,g,W⟩;refine B5 λN1 M=>?_;refine A7 rfl (A7 rfl ⟨x,_,_,_,_,rfl,g,T.ad,T.ai,rfl,b,_,rfl,W.hs,by rw[AA];lia,λm H1 O hm e1=>?_⟩);refine A7 rfl ⟨x,_,_,_,_,rfl,O _ _ g,T.ad,T.aj,rfl,c,_,rfl,(W.same O).ht,by rw[AA];lia,λm2 H2 s2 hm2 e2=>?_⟩;rw[Cc]at e1;rw[Wr]at e2;refine⟨m,m2,_,_,rfl,rfl,s2 _ _ e1,e2,by rw[AA,AA,sizeLine_eq];unfold nS nT;rw[AA,AA];lia,λk hk=>?_⟩;have R:=(O.trans s2).trans (CW.new (o:=.lst ((nS e).map V.str ++(nT st).map V.str)) hk);have e3:(HU H2 k (.lst ((nS e).map V.str ++(nT st).map V.str))) k=some (.lst ((nS e++nT st).map V.str)):=by rw[A9,AF]
  generalize HU H2 k (.lst ((nS e).map V.str ++(nT st).map V.str))=H3 at R e3⊢;refine K8 (.inl (HY.of e3)) ?_;rw[AJ (AH.mpr hn)];refine⟨_,rfl,X0 (M _ _ (B5 λN2 S=>?_))⟩;refine A7 rfl ⟨x,B,e,st,C,rfl,I.same R,ok,J,L,λxw ns qs H4 s4 hxw Ww pn mq=>?_⟩;refine⟨xw,ns,qs,rfl,Ww,λl p H5 s5 hl U q5 TM=>?_⟩;refine⟨l,rfl,⟨_,HY.of U.1⟩,λD hD=>?_⟩;have X:OW B e st C (p.map λq=>q.2):=⟨ns,qs,pn,Ww.ok.srt,mq,q5⟩;have Y:SF (p.map λq=>q.2)=p.map λq=>((Sum.inr q.2.1:IL),V.str q.2.2.1):=by unfold SF;rw[AN];rfl
  refine J6 (KI (K:=K) (HY.of U.1)) (λi σ G=>(∃v0 v1 v2,σ = [v0,v1,v2])/\CW H5 G/\G D=some (.dK (K6 [] ((p.take i).map λq=>((Sum.inr q.2.1:IL),V.str q.2.2.1))))) ⟨⟨_,_,_,rfl⟩,CW.new hD,A9⟩ (λi σ G _ h=>h.2.1.at l) ?_ ?_
  .rintro i σ G v N g ⟨⟨v0,v1,v2,rfl⟩,t,r⟩ hN;rw[AG]at g;obtain⟨y,Z,rfl⟩:=AV.mp g;have hi:=(AR.mp Z).1;have ey:=t _ _ (U.2 y (AM Z));refine⟨y.1,A7 rfl ⟨JC.of ey,rfl,_,A7 rfl ⟨_,A7 rfl (C1 rfl rfl ?_)⟩⟩⟩;dsimp only[V7];refine g9 (A7 rfl (A7 rfl ⟨_,.inr y.2.1,r,rfl,?_,hN _ _ ⟨⟨_,_,_,rfl⟩,t.upd hD,?_⟩⟩))
   .have:=Tv ((p.take i).map λq=>((Sum.inr q.2.1:IL),V.str q.2.2.1)) [];rw[AA,AO,GM]at this;rw[sizeLine_eq];lia
   .rw[A9,C7 Z,AF];exact congrArg (λz=>some (HO.dK z)) (La ((Sum.inr y.2.1:IL),V.str y.2.2.1) _ _).symm
  .rintro σ G ⟨_,t,r⟩;rw[AA,BM,<-Y]at r;refine S _ _ ?_;refine A7 rfl ⟨D,rfl,.inl ⟨_,.inl r⟩,A7 rfl ⟨_,KD.k (k:=Sum.inr n) r,?_⟩⟩;exact q _ G ((((R.trans s4).trans s5).trans t)) X
end
def zDf(C:A2)(H:Hp)(E:XK):Prop:=∀a x,CW H a->H x=none->a x=some (XO x C none)->E (.ref C) none a
section
variable{P:Cv}{w:HS}{K:PySem.W.Frag}{mg:Str->A6 A1}{base:HX}
def Rv(C B:A2):Sp:=λb H Q E=>∃(x:A2) (c:A0 JJ) (a:A0 JK) (st:A0 JD) (d:A0 IU) (n:Str),b = [.ref x,.str n]/\IV C H x c a st d/\(a.length<=30/\st.length<=30)/\n∉nS a++nT st/\zDf B H E
set_option maxHeartbeats 2000000 in
theorem Sn(T:Tx K mg):II P w K mg base (UF P w) 7 T.al.f T.al.fd ["weave", "name"] (Rv T.aa T.aT):=by
 refine T.al.F.oE LN λD A j s H O Q E e h=>?_
 .obtain⟨x,R,g,st,S,n,rfl,⟨U,a,b,c,d,q,W⟩,⟨X,Y⟩,G,k⟩:=h;have I:=U0 e;refine⟨_,(B2 (K5 (C9 (S2 K) (pv 1) (F9 K4 (C8 T.af (E8 T) (Rm e) (A8 (PQ K (pv 0)) B0)) (C8 T.af (E8 T) (Rm e) (A8 (PQ K (pv 0)) B0))) rfl) (B7 (Ua VI.bx T.bF T.cc rfl T.bG (A8 E3 B0))) E6)
   (B2 (Mf (i:=2) (N':=["one", "word", "number"]) (cap:=[none,none,none]) (cl:=[]) LN.nd rfl (.inl rfl) (E9 trivial trivial) rfl (JX K (C8 T.bg (Fy T) (Rm e) (A8 (C8 T.bo (Lu T) (Rm e) (A8 (pv 0) B0)) B0))) (λ_ _ _ _=>by exact⟨(Q_ K (n:=3) (C6 (JQ 0) (C6 (JQ 1) (C6 (JQ 2) J9)))),D8,(pv 0),(pv 1)⟩))
   (B7 (C3 (Y1 I (pv 2) (pv 1) E3 ⟨rfl,rfl,rfl,rfl⟩))))),?_⟩
  refine B5 λZ J=>?_;refine A7 rfl (A7 rfl ⟨x,_,_,_,_,rfl,q,T.ad,T.ai,rfl,b,_,rfl,W.hs,by rw[AA];lia,λm H1 l hm r=>?_⟩);refine A7 rfl ⟨x,_,_,_,_,rfl,l _ _ q,T.ad,T.aj,rfl,c,_,rfl,(W.same l).ht,by rw[AA];lia,λL t u M v=>?_⟩;rw[Cc]at r;rw[Wr]at v;refine⟨m,L,_,_,rfl,rfl,u _ _ r,v,by rw[AA,AA,sizeLine_eq];unfold nS nT;rw[AA,AA];lia,λz N=>?_⟩;have p:=(l.trans u).trans (CW.new (o:=.lst ((nS g).map V.str ++(nT st).map V.str)) N);have B:(HU t z (.lst ((nS g).map V.str ++(nT st).map V.str))) z=some (.lst ((nS g++nT st).map V.str)):=by rw[A9,AF]
  generalize HU t z (.lst ((nS g).map V.str ++(nT st).map V.str))=H3 at p B⊢;refine K8 (.inl (HY.of B)) ?_;rw[BB G];exact⟨_,rfl,g9 ⟨by show 1<=sizeLine;decide,λy C=>k _ y (p.trans (CW.new C)) (p.free C) A9⟩⟩
theorem JO:HW ["_law_ask", "_law_weave", "_law_name", "_law_caught", "_law_told", "error", "_law_others"] ["_law_ask", "_law_weave", "_law_name"] (B6 OM):=KA
def Vs(S C B:A2):Sp:=λc H Q _=>∃(x:A2) (d:A0 JJ) (a:A0 JK) (st:A0 JD) (e:A0 IU) (n:Str),c = [.ref S,.ref x,.str n]/\IV C H x d a st e/\(a.length<=30/\st.length<=30)/\n∉nS a++nT st /\
 ∀t b,CW H b->b t=some (.tup [.str "refused",.str "none such"])->Q (.ref t) b
set_option maxHeartbeats 2000000 in
theorem Hm(T:Tx K mg):II P w K mg base JG 8 T.a7.f T.a7.fd ["_law_ask", "_law_weave", "_law_name"] (Vs T.al.f T.aa T.aT):=by
 have d:=Sn (P:=P) (w:=w) (base:=base) T;have a:=T.al.F.kp;have c:=T.al.b;refine T.a7.F.o1 JO λD A g s H U Q E G h=>?_
 .obtain⟨x,I,J,st,L,n,rfl,M,N,B,q⟩:=h;refine⟨_,(B2 (C2 (i:=3) JO.nd rfl (.inl rfl) m8)
   (B2 (Ze (i:=5) (λ_ _ z=>z) rfl rfl JO.nd rfl rfl rfl T.bV T.bU (Zo (i:=4) JO.nd rfl (.inl rfl) (Ui (i:=0) (λ_ _ z=>z) d (Rm G) a c (A8 (pv 1) (A8 (pv 2) B0))))
   (λ_=>(B7 (C2 (i:=3) JO.nd rfl (.inl rfl) (pv 5)))))
   (B2 (K5 (C9 Pf (pv 3) m8 (F6 _)) (B7 (C3 (J7 (A8 E3 (A8 (pv 4) B0))))) E6)
   (@B2 _ _ _ _ _ (@C2 _ _ 6 _ _ _ _ JO.nd rfl (.inl rfl) (G0 (Nw K) T.ah F4 (A8 (pv 3) (A8 (J7 (A8 (Be T.b7) (A8 (Be T.bY) (A8 (Be T.b2) (A8 (Be T.b9) (A8 (Be T.b3) (A8 (Be T.cb) (A8 (Be T.b8) B0)))))))) B0))) (by rfl) (by first | exact .inl rfl | exact .inr rfl | assumption))
   (B2 (K5 (PW.pt (Az (Q8 (K1 (G0 (Ii K) T.ah F4 (A8 (pv 3) (A8 (Be T.bG) B0))))) (Az (Q8 (K1 (G0 (Ii K) T.ah F4 (A8 (pv 3) (A8 (Em T.bX Ec) B0))))) (Y7 (K1 (pv 6)))))) (B7 (C3 (J7 (A8 E3 (A8 E3 B0))))) E6)
   (B7 (C3 (J7 (A8 E3 (A8 E3 B0)))))))))),?_⟩
  refine B5 λW j=>?_;refine j _ _ (B5 λX k=>?_);refine⟨rfl,A7 rfl (A7 rfl ⟨x,I,J,st,L,n,rfl,M,N,B,λY y O Z B=>⟨T.aT,T.ca,rfl,T.bF,T.bA,λl m=>?_⟩⟩)⟩;refine A7 rfl (k _ _ (B5 λN3 r=>?_));refine A7 rfl ⟨rfl,false,congrArg V.bl (BB λz=>by cases z),X0 (r _ _ (B5 λN4 u=>?_))⟩;refine A7 rfl ⟨by show 7<=sizeLine;decide,λp R=>?_⟩;have C:=CW.new (o:=.tup ([T.bE,T.bz,T.bB,T.bN,T.bC,T.bO,T.bH].map V.ref)) R;have e:=C _ _ m;refine⟨l,T.aT,p,[T.bE,T.bz,T.bB,T.bN,T.bC,T.bO,T.bH],false,rfl,A9,e,T.bu,T.bv,T.bZ,?_⟩;refine u _ _ (B5 λN5 v=>?_);refine A7 rfl ⟨l,T.aT,_,_,true,rfl,rfl,e,T.bu,T.bv,T.b0,⟨_,rfl,X0 ?_⟩⟩;refine A7 rfl ⟨l,T.aT,_,_,true,rfl,rfl,e,T.bu,T.bv,T.b1,⟨_,rfl,X0 ?_⟩⟩;refine A7 rfl ⟨_,rfl,X0 (v _ _ ?_)⟩;exact⟨by show 2<=sizeLine;decide,λt S=>q t _ ((O.trans C).trans (CW.new S)) A9⟩
theorem OZ:HW ["_law_cell", "_law_k", "_law_m"] ["_law_cell", "_law_k"] (B6 QG):=KA
def zCa:Sp:=λb H Q _=>∃(a k:Int),b = [.int a,.int k]/\0<=k/\k<=2000000/\∀m:Int,0<=m->m<1999999973->Q (.int m) H
theorem Dd(T:Tx K mg):II P w K mg base JG 1 T.a9.f T.a9.fd ["_law_cell", "_law_k"] zCa:=by
 refine T.a9.F.o1 OZ λd A b s H e Q E g h=>?_
 .obtain⟨a,k,rfl,j,l,q⟩:=h;refine⟨_,(B2 (C2 (i:=2) OZ.nd rfl (.inl rfl) (F9 Gi (F9 Ch (F9 V2 (F9 V2 (F9 Gi (pv 0) B4) (F9 Ch (F9 Ch (pv 1) (pv 1)) B4)) B4) B4) B4))
   (B7 (C3 (F9 Gi (F9 Ch (pv 2) (pv 2)) B4)))),?_⟩
  refine A7 rfl (C1 rfl rfl ⟨(show(0:Int)<2147483629 by decide),A7 rfl (A7 rfl (C1 rfl rfl ⟨.inl ⟨by lia,by lia⟩,C1 rfl rfl ⟨.inr ⟨by decide,by decide⟩,C1 rfl rfl (C1 rfl rfl (C1 rfl rfl ⟨.inr ⟨by decide,by decide⟩,C1 rfl rfl ⟨(show(0:Int)<2147483647 by decide),?_⟩⟩))⟩⟩))⟩);generalize c:(a % 2147483629+k*k*7919+11)*48271 % 2147483647=m;have n:0<=m:=by rw[<-c];exact FW _ (by decide)
  have o:m<2147483647:=by rw[<-c];exact EW _ (by decide)
  exact⟨_,rfl,_,rfl,_,_,rfl,rfl,.inl ⟨by lia,by lia⟩,_,_,rfl,rfl,(show(0:Int)<1999999973 by decide),q _ (FW _ (by decide)) (EW _ (by decide))⟩
def IH(H:Hp)(p:A2)(c:Int):Prop:=∃a b:Int,H p=some (.lst [.int a,.int b,.int c])/\0<=c
theorem IH.isS{H:Hp}{p:A2}{c:Int}(h:IH H p c):(H p).isSome=true:=by
 obtain⟨_,_,e,_⟩:=h;rw[e];rfl
theorem IH.get{H:Hp}{p:A2}{c:Int}(h:IH H p c):H p=some ((H p).get h.isS):=(Option.some_get _).symm
theorem IH.cast{H:Hp}{p:A2}{c a:Int}(h:IH H p c)(e:c=a):IH H p a:=e▸h
theorem IH.upd{H:Hp}{p a:A2}{c:Int}{o:HO}(h:IH H p c)(n:p≠a):IH (L2.HU H a o) p c:=by
 obtain⟨x,y,e,z⟩:=h;exact⟨x,y,by rw[B8 n];exact e,z⟩
theorem IH.same{H H':Hp}{p:A2}{c:Int}(h:IH H p c)(s:CW H H'):IH H' p c:=by
 obtain⟨x,y,e,z⟩:=h;exact⟨x,y,s _ _ e,z⟩
theorem zGt(c:Bool):-(2^64) <(if c=true then(1:Int)else 0)/\(if c=true then(1:Int)else 0)<2^64:=by cases c<;>exact⟨by decide,by decide⟩
theorem OG:HW ["_law_script", "_law_k", "_law_cell"] ["_law_script", "_law_k"] (B6 PK):=KA
def zAk(K:PySem.W.Frag):Sp:=λb H Q _=>∃(p:A2) (c:A0 Int) (k:Nat),b = [.ref p,.int (k:Int)]/\HY K H p (c.map V.int)/\k<=1000/\∀l a,H l=none->CW H a->IH a l 0->Q (.ref l) a
theorem Jc(T:Tx K mg):II P w K mg base JG 1 T.bc.f T.bc.fd ["_law_script", "_law_k"] (zAk K):=by
 refine T.bc.F.o1 OG λo A g s H t Q E u h=>?_
 .obtain⟨p,d,k,rfl,n,v,q⟩:=h;refine⟨_,(B2 (C2 (i:=2) OG.nd rfl (.inl rfl) (Mu (C9 zBn (pv 1) (G0 (U2 K) T.ap Q5 (A8 (pv 0) B0)) (F6 _)) (D6 (KL K) (pv 0) (pv 1) (λ_ _=>rfl)) B4))
   (B7 (C3 (F7 (A8 (F9 Ch (G0 Lf T.b5 Xd (A8 (pv 2) B0)) (V4 Gs T.bL Ts (A8 (I0 zAa (G0 Lf T.b5 Xd (A8 (pv 2) B0)) (F9 zCn B4 B4) (F6 _)) B0))) (A8 (F9 V2 (pv 2) (F9 Ch B4 (pv 1))) (A8 B4 B0))))))),?_⟩
  refine A7 rfl (A7 rfl (C1 (a:=p) rfl (.inl n) (C1 rfl rfl (A7 rfl ?_))));have j:decide ((k:Int) <((d.map V.int).length:Int))=true->∃c:Int,TD (d.map V.int) (k:Int)=some (.int c):=λb=>by
   have b:(k:Int) <((d.map V.int).length:Int):=BH b;rw[AA]at b;have m:d[k]?=some (d[k]'(by lia)):=AU (by lia);exact⟨_,B9 (by rw[AG,m];rfl)⟩
  refine g7 (λb=>?_) (λb=>?_)
  .obtain⟨c,r⟩:=j b;refine A7 rfl (A7 rfl ⟨p,_,C1 rfl rfl ⟨n,r,?_⟩⟩)
   (repeat first | refine⟨_,rfl,?_⟩ | refine⟨_,_,rfl,rfl,?_⟩)
   refine⟨⟨by decide,by decide,by decide⟩,?_⟩
   (repeat first | refine⟨_,rfl,?_⟩ | refine⟨_,_,rfl,rfl,?_⟩)
   refine .inr ⟨_,rfl,?_⟩
   (repeat first | refine⟨_,rfl,?_⟩ | refine⟨_,_,rfl,rfl,?_⟩)
   refine⟨.inr ?_,?_⟩
   .exact zGt _
   (repeat first | refine⟨_,rfl,?_⟩ | refine⟨_,_,rfl,rfl,?_⟩)
   refine⟨.inl ⟨by decide,by decide⟩,?_⟩
   (repeat first | refine⟨_,rfl,?_⟩ | refine⟨_,_,rfl,rfl,?_⟩)
   exact⟨by show 3<=sizeLine;decide,λl e=>q l _ e (CW.new e) ⟨_,_,A9,by decide⟩⟩
  .skip;(repeat first | refine⟨_,rfl,?_⟩ | refine⟨_,_,rfl,rfl,?_⟩)
   refine⟨⟨by decide,by decide,by decide⟩,?_⟩
   (repeat first | refine⟨_,rfl,?_⟩ | refine⟨_,_,rfl,rfl,?_⟩)
   refine .inr ⟨_,rfl,?_⟩
   (repeat first | refine⟨_,rfl,?_⟩ | refine⟨_,_,rfl,rfl,?_⟩)
   refine⟨.inr ?_,?_⟩
   .exact zGt _
   (repeat first | refine⟨_,rfl,?_⟩ | refine⟨_,_,rfl,rfl,?_⟩)
   refine⟨.inl ⟨by decide,by decide⟩,?_⟩
   (repeat first | refine⟨_,rfl,?_⟩ | refine⟨_,_,rfl,rfl,?_⟩)
   exact⟨by show 3<=sizeLine;decide,λl e=>q l _ e (CW.new e) ⟨_,_,A9,by decide⟩⟩
theorem OF:HW ["_law_left_here", "_law_many", "_law_digit"] ["_law_left_here", "_law_many"] (B6 PH):=KA
def Zv:Sp:=λe H Q _=>∃(p:A2) (c a:Int),e = [.ref p,.int a]/\IH H p c/\c<=1000000/\0<a/\a<=1000000 /\
 ∀(d:Nat) b,(d:Int)<a->Sm [p] H b->IH b p (c+1)->Q (.int (d:Int)) b
theorem E5(T:Tx K mg):II P w K mg base JG 2 T.ac.f T.ac.fd ["_law_left_here", "_law_many"] Zv:=by
 refine T.ac.F.o1 OF λu A o s H x Q E r h=>?_
 .obtain⟨p,c,j,rfl,⟨a,b,e,y⟩,z,k,B,q⟩:=h;refine⟨_,(B2 (Ip (F9 V2 (D6 (KL K) (pv 0) B4 (λ_ _=>rfl)) B4) (Pm (pv 0) B4 Ej))
   (B2 (K5 (C9 zCi (D6 (KL K) (pv 0) B4 (λ_ _=>rfl)) B4 (F6 _)) (B2 (C2 (i:=2) OF.nd rfl (.inl rfl) (F9 Gi (D6 (KL K) (pv 0) B4 (λ_ _=>rfl)) (pv 1)))
   (B2 (Ip (F9 Sr (D6 (KL K) (pv 0) B4 (λ_ _=>rfl)) (pv 1)) (Pm (pv 0) B4 Ej))
   (B7 (C3 (pv 2))))) E6)
   (B7 (C3 (F9 Gi (F9 Sr (C8 T.a9 (Dd T) (Rm r) (A8 (C8 T.a9 (Dd T) (Rm r) (A8 (D6 (KL K) (pv 0) B4 (λ_ _=>rfl)) (A8 (D6 (KL K) (pv 0) B4 (λ_ _=>rfl)) B0))) (A8 (F9 V2 (D6 (KL K) (pv 0) B4 (λ_ _=>rfl)) B4) B0))) B4) (pv 1)))))),?_⟩
  have t:∀d:Int,0<=d->d<j->∀l m,Q (.int d) (HU (HU H p (.lst [.int a,.int b,.int (c+1)])) p (.lst [.int l,.int m,.int (c+1)]))/\Q (.int d) (HU H p (.lst [.int l,.int m,.int (c+1)])):=λd v g l m=>by
   obtain⟨n,rfl⟩:=Int.eq_ofNat_of_zero_le v;exact⟨q n _ g (((Sm.refl _ _).upd (by simp)).upd (by simp)) ⟨l,m,A9,by lia⟩,q n _ g ((Sm.refl _ _).upd (by simp)) ⟨l,m,A9,by lia⟩⟩
  refine A7 rfl ⟨p,_,C1 rfl rfl ⟨HY.of e,rfl,C1 rfl rfl (A7 rfl ⟨p,_,_,2,rfl,rfl,e,rfl,?_⟩)⟩⟩;refine A7 rfl ⟨p,_,C1 rfl rfl ⟨HY.of A9,rfl,C1 rfl rfl (A7 rfl ?_)⟩⟩;refine g7 (λg=>?_) (λg=>?_)
  .have g:(0:Int)<a:=BH g;refine A7 rfl ⟨p,_,C1 rfl rfl ⟨HY.of A9,rfl,A7 rfl (C1 rfl rfl ⟨k,?_⟩)⟩⟩;refine A7 rfl ⟨p,_,C1 rfl rfl ⟨HY.of A9,rfl,A7 rfl (C1 rfl rfl ⟨⟨k,by lia⟩,A7 rfl ⟨p,_,_,0,rfl,rfl,A9,rfl,?_⟩⟩)⟩⟩;exact⟨_,rfl,(t _ (FW _ (by lia)) (EW _ k) _ _).1⟩
  .refine A7 rfl ⟨p,_,C1 rfl rfl ⟨HY.of A9,rfl,A7 rfl ⟨p,_,C1 rfl rfl ⟨HY.of A9,rfl,_,A7 rfl ⟨by lia,by lia,λC D G=>?_⟩⟩⟩⟩⟩;refine A7 rfl ⟨p,_,C1 rfl rfl ⟨HY.of A9,rfl,C1 rfl rfl ⟨_,A7 rfl ⟨by lia,by lia,λI J L=>?_⟩⟩⟩⟩;refine C1 rfl rfl ⟨⟨by decide,by decide⟩,A7 rfl (C1 rfl rfl ⟨k,?_⟩)⟩;exact(t _ (FW _ (by lia)) (EW _ k) _ _).2
def OU:A0 Str:=["b", "aa", "zebra", "c", "quartzes", "ab", "m", "knows", "d", "mm", "likes", "z", "a", "ba", "abcdefgh", "y", "zz", "e", "x", "f", "g", "hh", "i", "jj", "k", "ll", "say", "strike", "fact", "back"]
abbrev QA:Str := "b aa zebra c quartzes ab m knows d mm likes z a ba abcdefgh y zz e x f"
abbrev QB:Str := "g hh i jj k ll say strike fact back"
abbrev SG:Str := "b aa zebra cy quartzes eve m knows"
def MO:A0 Str:=["b", "aa", "zebra", "c", "quartzes", "ab", "m", "knows", "d", "mm", "likes", "z", "a", "ba", "abcdefgh", "y", "zz", "e", "x", "f"]
def NC:A0 Str:=["g", "hh", "i", "jj", "k", "ll", "say", "strike", "fact", "back"]
def PR:A0 Str:=["b", "aa", "zebra", "cy", "quartzes", "eve", "m", "knows"]
theorem Ye:Builtin.Str.partsBetween QA (Builtin.Str.occurrences QA " " 0 QA.length (QA.length+1)) (" ":Str).length=MO:=by decide +kernel
theorem zAt:Builtin.Str.partsBetween QB (Builtin.Str.occurrences QB " " 0 QB.length (QB.length+1)) (" ":Str).length=NC:=by decide +kernel
theorem zBo:Builtin.Str.partsBetween SG (Builtin.Str.occurrences SG " " 0 SG.length (SG.length+1)) (" ":Str).length=PR:=by decide +kernel
theorem RD:(∀x∈OU,K3 x=true)/\OU.Nodup:=⟨by decide +kernel,by decide +kernel⟩
theorem zAj:Q1 PR:=⟨by decide +kernel,by decide +kernel,by decide⟩
theorem Zt:MO++NC=OU:=rfl
theorem zHd(Q:VK)(H:Hp)(h:∀l,H l=none->Q (.ref l) (HU H l (.lst (MO.map V.str)))):Lq (.str QA) [.str " "] H Q:=⟨QA, " ",MO,rfl,rfl,by decide +kernel,by decide +kernel,by decide +kernel,by decide +kernel,Ye,by decide +kernel,h⟩
theorem zHt(Q:VK)(H:Hp)(h:∀l,H l=none->Q (.ref l) (HU H l (.lst (NC.map V.str)))):Lq (.str QB) [.str " "] H Q:=⟨QB, " ",NC,rfl,rfl,by decide +kernel,by decide +kernel,by decide +kernel,by decide +kernel,zAt,by decide +kernel,h⟩
theorem sp8(Q:VK)(H:Hp)(h:∀l,H l=none->Q (.ref l) (HU H l (.lst (PR.map V.str)))):Lq (.str SG) [.str " "] H Q:=⟨SG, " ",PR,rfl,rfl,by decide +kernel,by decide +kernel,by decide +kernel,by decide +kernel,zBo,by decide +kernel,h⟩
theorem JB:HW ["_law_left_here", "_law_many", "_law_some", "_law_names", "_law_k"] ["_law_left_here", "_law_many"] (B6 LH):=KA
def Es:Sp:=λe H Q _=>∃(p:A2) (c:Int) (a:Nat),e = [.ref p,.int (a:Int)]/\IH H p c/\c<=900000/\a<=30 /\
 ∀l (b:A0 Str) d,H l=none->Sm [p] H d->d l=some (.lst (b.map V.str))->b.length=a->Q1 b->(∀x∈b,x∈OU)->IH d p (c+a)->Q (.ref l) d
set_option maxHeartbeats 2000000 in
theorem t8(T:Tx K mg):II P w K mg base JG 3 T.ay.f T.ay.fd ["_law_left_here", "_law_many"] Es:=by
 refine T.ay.F.o1 JB λcdv A S s H vs Q E hr h=>?_
 .obtain⟨p,c,z,rfl,hL,c1,m1,q⟩:=h;obtain⟨a0,b0,e0,c0⟩:=id hL;refine⟨_,(B2 (C2 (i:=2) JB.nd rfl (.inl rfl) (Ln K PySem.F.plainAttrs_str PySem.F.slot_str_split PySem.F.type_str_split Fr E3 (A8 E3 B0)))
   (B2 (C2 (i:=2) JB.nd rfl (.inl rfl) (F9 K4 (pv 2) (Ln K PySem.F.plainAttrs_str PySem.F.slot_str_split PySem.F.type_str_split Fr E3 (A8 E3 B0))))
   (B2 (C2 (i:=3) JB.nd rfl (.inl rfl) (F7 B0))
   (B2 (P0 PassesOwn.never rfl (Yq T.aD (A8 (pv 1) B0)) (E4 (i:=4) JB.nd rfl (.inl rfl))
   (B7 (G9 (Ln K PySem.F.plainAttrs_list PySem.F.slot_list_append PySem.F.type_list_append M0 (pv 3) (A8 (Ln K PySem.F.plainAttrs_list PySem.F.slot_list_pop PySem.F.type_list_pop Vu (pv 2) (A8 (C8 T.ac (E5 T) (Rm hr) (A8 (pv 0) (A8 (G0 (U2 K) T.ap Q5 (A8 (pv 2) B0)) B0))) B0)) B0)))))
   (B7 (C3 (pv 3))))))),?_⟩
  refine B5 λN1 U=>?_;refine⟨rfl,?_⟩;dsimp only[Bz,tC,Ul];refine zHd _ _ λn B=>?_;have J:=CW.new (o:=.lst (MO.map V.str)) B;have W:(HU H n (.lst (MO.map V.str))) n=some (.lst (MO.map V.str)):=A9;generalize HU H n (.lst (MO.map V.str))=j at J W⊢;refine U _ _ (B5 λN2 X=>?_);refine A7 rfl ⟨rfl,?_⟩;dsimp only[Bz,tC,Ul];refine zHt _ _ λv C=>?_;have L:=CW.new (o:=.lst (NC.map V.str)) C;refine⟨n,v,_,_,rfl,rfl,L _ _ W,A9,by rw[AA,AA];show 30<=sizeLine;decide,λa y=>?_⟩;have M:=(J.trans L).trans (CW.new (o:=.lst (MO.map V.str++NC.map V.str)) y);have k:(HU (HU j v (.lst (NC.map V.str))) a (.lst (MO.map V.str++NC.map V.str))) a=some (.lst (OU.map V.str)):=by rw[A9,<-Zt,AF]
  have Y:H a=none:=(J.trans L).free y;generalize HU (HU j v (.lst (NC.map V.str))) a (.lst (MO.map V.str++NC.map V.str))=H2 at M k⊢;clear J L W y B C;have y:=Y;have n:=RD.1;have v:=RD.2;have al:OU.length=30:=rfl;obtain⟨l,m⟩:∃l,l=OU:=⟨_,rfl⟩;rw[<-m]at k n v al;refine X _ _ ?_;refine⟨BR _,λb Z=>?_⟩;have r:H b=none:=M.free Z;have t:a≠b:=B3 k Z;have D:p≠a:=B3 e0 y;have u:p≠b:=B3 e0 r;refine A7 rfl (A7 rfl ⟨by lia,by lia,?_⟩);rw[DK];refine U4 (λi σ j=>(∃v4,σ = [some (.ref p),some (.int (z:Int)),some (.ref a),some (.ref b),v4])/\Sm [p] H j/\IH j p (c+i)/\∃e g:A0 Str,j a=some (.lst (e.map V.str))/\j b=some (.lst (g.map V.str))/\(e++g).Perm l/\g.length=i) ?_ ?_ ?_
  .refine⟨⟨_,rfl⟩,(M.trans (CW.new Z)).sm,((hL.cast (by lia)).same M).upd u,l,[],by rw[B8 t];exact k,by rw[A9];rfl,by rw[CB],rfl⟩
  .rintro i σ j hi ⟨⟨v4,rfl⟩,k1,L1,e,g,k,N,G,O⟩ D1 hD1 _;have hlen:e.length=30-i:=by
    have:=G.length_eq;rw[AW,O,al]at this;lia
   refine A7 rfl ⟨.inl ⟨rfl,_,HY.of N⟩,A7 rfl ⟨.inl ⟨rfl,_,HY.of k⟩,A7 rfl (A7 rfl (C1 (a:=a) rfl (.inl (HY.of k)) (Y5 (a:=p) (b:=c+i) rfl L1 (by lia) ?_ ?_ λd H2 hd k2 L2=>?_)))⟩⟩
   .rw[AA];lia
   .rw[AA];lia
   rw[AA]at hd;have I:d<e.length:=by lia
   have R:e[d]?=some e[d]:=AU I;have ea2:=LR k2 k D.symm;have eb2:=LR k2 N u.symm;refine⟨a,_,_,d,.str e[d],rfl,rfl,ea2,by lia,by lia,six (by rw[AA];exact I),by rw[AG,R];rfl,b,C1 rfl rfl ⟨by rw[B8 t.symm];exact eb2,?_,?_⟩⟩
   .rw[AA,sizeLine_eq];lia
   refine hD1 _ _ ⟨⟨_,rfl⟩,?_,?_,e.eraseIdx d,g ++ [e[d]],?_,?_,Vd G R,by rw[AW,O];rfl⟩
   .exact((k1.trans k2).updN y).updN r
   .exact((L2.cast (by lia)).upd D).upd u
   .rw[B8 t,A9,Gk]
   .rw[A9,AF];rfl
  .rintro σ j ⟨⟨v4,rfl⟩,k1,L1,e,g,k,N,G,O⟩;exact⟨_,rfl,q b g j r k1 N O (SS G n v (by lia)) (λx R=>by rw[<-m];exact G.mem_iff.mp (BJ _ R)) L1⟩
end
def Yz{d:Nat}(h:d<6):∃r:Int,TD [V.int 0,.int 1,.int 1,.int 2,.int 5,.int 9] (d:Int)=some (.int r)/\0<=r/\r<=9:=by
 match d,h with
 | 0,_=>exact⟨0,rfl,by decide,by decide⟩
 | 1,_=>exact⟨1,rfl,by decide,by decide⟩
 | 2,_=>exact⟨1,rfl,by decide,by decide⟩
 | 3,_=>exact⟨2,rfl,by decide,by decide⟩
 | 4,_=>exact⟨5,rfl,by decide,by decide⟩
 | 5,_=>exact⟨9,rfl,by decide,by decide⟩
def IH.neL{H:Hp}{p a:A2}{c:Int}{xs:A0 V}(h:IH H p c)(e:H a=some (.lst xs))(n:∀x y,xs≠[.int x,.int y,.int c]):a≠p:=λz=>by
 obtain⟨x,y,b,_⟩:=h;rw[z,b]at e;cases e;exact n x y rfl
def IH.neT{H:Hp}{p a:A2}{c:Int}{xs:A0 V}(h:IH H p c)(e:H a=some (.tup xs)):a≠p:=λz=>by
 obtain⟨x,y,b,_⟩:=h;rw[z,b]at e;cases e
def IH.neR{H:Hp}{p a:A2}{c:Int}{as:A0 A2}(h:IH H p c)(e:H a=some (.lst (as.map V.ref))):a≠p:=h.neL e λx y z=>by
 cases as with
 | nil=>cases z
 | cons b r=>cases z
def IH.ne{H:Hp}{p a:A2}{c:Int}{ss:A0 Str}(h:IH H p c)(e:H a=some (.lst (ss.map V.str))):a≠p:=h.neL e λx y z=>by
 cases ss with
 | nil=>cases z
 | cons b r=>cases z
def IQ.sm{H H':Hp}{l p:A2}{c:Int}{a:A0 RW}(h:IQ H l a)(L:IH H p c)(k:Sm [p] H H'):IQ H' l a:=by
 have e:(a.map λq=>V.ref q.1) =(a.map λq=>q.1).map V.ref:=by rw[AN];rfl
 refine⟨LR k h.at_ (L.neR (by rw[<-e];exact h.at_)),λq b=>LR k (h.row q b) (L.neT (h.row q b))⟩
def IQ.snoc{H:Hp}{l t:A2}{a:A0 RW}{n:Str}{xs:A0 V}(h:IQ H l a)(b:H t=some (.tup (.str n::xs))):IQ (HU H l (.lst ((a.map λq=>V.ref q.1) ++ [.ref t]))) l (a ++ [(t,n,xs)]):=by
 refine⟨by rw[A9,AF];rfl,λq c=>?_⟩;rcases AH.mp c with z | z
 .exact(B8 (J8 (h.row q z) h.at_ (by intro y;cases y))).trans (h.row q z)
 .rw[AC.mp z];exact(B8 (J8 b h.at_ (by intro y;cases y))).trans b
section
variable{P:Cv}{w:HS}{K:PySem.W.Frag}{mg:Str->A6 A1}{base:HX}
theorem MY:HW ["_law_left_here", "_law_many", "_law_some"] ["_law_left_here", "_law_many"] (B6 NQ):=KA
def So:Sp:=λf H Q _=>∃(p:A2) (c:Int) (a:Nat),f = [.ref p,.int (a:Int)]/\IH H p c/\c<=800000/\a<=8 /\
 ∀l (b:A0 JJ) e d,H l=none->Sm [p] H d->IQ d l (b.map rP)->b.length=a->(nP b).Nodup->(∀q∈b,K3 q.2.1=true/\0<=q.2.2/\q.2.2<=9)->e<=c+500->IH d p e->Q (.ref l) d
set_option maxHeartbeats 2000000 in
theorem Eh(T:Tx K mg):II P w K mg base JG 5 T.aW.f T.aW.fd ["_law_left_here", "_law_many"] So:=by
 refine T.aW.F.o1 MY λcdv A Y s H vs Q E hr h=>?_
 .obtain⟨p,c,e,rfl,hL,c1,m1,q⟩:=h;refine⟨_,(B2 (C2 (i:=2) MY.nd rfl (.inr rfl) (Ln K PySem.F.plainAttrs_str PySem.F.slot_str_split PySem.F.type_str_split Fr E3 (A8 E3 B0)))
   (@B7 _ _ _ (@C3 _ _ _ _ (J1 (N':=["_law_k", "_law_some", "_law_left_here"]) (cap:=[none,some 2,some 0]) (cl:=[("_law_some",_),("_law_left_here",_)]) (E9 ⟨⟨rfl,rfl,rfl,rfl⟩,⟨⟨rfl,rfl,rfl,rfl⟩,trivial⟩⟩ ⟨rfl,⟨rfl,trivial⟩⟩) rfl (Yq T.aD (A8 (pv 1) B0)) (λ_ _ _ _=>by exact⟨(JQ 0),D8,(@J7 _ _ _ _ _ (@A8 _ _ _ _ _ (D6 (KL K) (pv 1) (pv 0) (λ_ _=>rfl)) (@A8 _ _ _ _ _ (@D6 _ _ _ _ _ _ _ (KL K) (@F7 _ _ _ _ (@A8 _ _ _ _ _ B4 (@A8 _ _ _ _ _ B4 (@A8 _ _ _ _ _ B4 (@A8 _ _ _ _ _ B4 (@A8 _ _ _ _ _ B4 (@A8 _ _ _ _ _ B4 B0 (by rfl)) (by rfl)) (by rfl)) (by rfl)) (by rfl)) (by rfl))) (C8 T.ac (E5 T) (Rm hr) (A8 (pv 2) (A8 B4 B0))) (λ_ _=>rfl)) B0 (by rfl)) (by rfl)))⟩))))),?_⟩
  refine B5 λN1 Z=>?_;refine⟨rfl,?_⟩;dsimp only[Bz,tC,Ul];refine sp8 _ _ λl hl=>?_;have ua:=CW.new (o:=.lst (PR.map V.str)) hl;have k1:Sm [p] H (HU H l (.lst (PR.map V.str))):=ua.sm;have M:(HU H l (.lst (PR.map V.str))) l=some (.lst (PR.map V.str)):=A9;have O:=hL.same ua;have j:=zAj;have SJ:PR.length=8:=rfl;have hc1:c<=c+400:=by lia
  generalize HU H l (.lst (PR.map V.str))=H1 at k1 M O ua⊢;generalize PR=b at j SJ M hl⊢;obtain⟨c2,ec2⟩:∃c2,c2=c:=⟨_,rfl⟩;rw[<-ec2]at O;refine Z _ _ ?_;refine A7 rfl (A7 rfl ⟨by lia,by lia,λD hD=>?_⟩);rw[DK];have l8:b.length=8:=SJ;have k:p≠D:=B3 O.get hD;have G:l≠D:=B3 M hD;have m:H D=none:=by
   cases z:H D with
   | none=>rfl
   | some o =>
    have:=k1 D o z (by simpa using k.symm);rw[hD]at this;cases this
  refine Na (n:=e) (λi σ u=>(∃v,σ = [v,some (.ref l),some (.ref p)])/\Sm [p] H u/\u l=some (.lst (b.map V.str))/\(∃c',c'<=c2+i/\IH u p c')/\∃g:A0 JJ,IQ u D (g.map rP)/\nP g=b.take i/\∀q∈g,0<=q.2.2/\q.2.2<=9) ?_ (λi _ _ hi _=>hi) (λ_ _ _=>Nat.le_refl _) ?_ ?_
  .exact⟨⟨_,rfl⟩,k1.updN m,by rw[B8 G];exact M,⟨_,by lia,O.upd k⟩,[],⟨A9,λq h=>absurd h AL⟩,rfl,λq h=>absurd h AL⟩
  .rintro i σ u v H' N hi ⟨⟨v0,rfl⟩,k2,R,⟨c3,hc3,C⟩,g,R2,x,r2⟩ ⟨rfl,rfl⟩ hN;have li:i<b.length:=by lia
   have I:b[i]?=some b[i]:=AU li;have J:g.length=i:=by
    have:=congrArg List.length x;unfold nP at this;rw[AA,AO]at this;lia
   refine S3 ?_;rw[Int.zero_add];refine A7 rfl (A7 rfl ⟨l,_,C1 rfl rfl ⟨HY.of R,B9 (by rw[AG,I];rfl),?_⟩⟩);refine⟨by show 6<=sizeLine;decide,λt ht=>?_⟩;have B:=CW.new (o:=.lst [V.int 0,.int 1,.int 1,.int 2,.int 5,.int 9]) ht;refine A7 rfl (Y5 (a:=p) rfl (C.same B) (by lia) (by decide) (by decide) λd S hd U L4=>?_);obtain⟨r,hr1,hr0,hr9⟩:=Yz (d:=d) (by lia);have e3:S t=some (.lst [V.int 0,.int 1,.int 1,.int 2,.int 5,.int 9]):=LR U A9 (B3 C.get ht).symm;refine⟨t,_,C1 rfl rfl ⟨HY.of e3,hr1,by show 2<=sizeLine;decide,λL ht2=>?_⟩⟩;have R3:=(R2.same B).sm (C.same B) U;have W:=CW.new (o:=.tup [.str b[i],.int r]) ht2;have R4:=R3.same W;have e4:=LR (U.trans W.sm) (B _ _ R) ((C.same B).ne (B _ _ R));have L5:=L4.same W;have k4:Sm [p] H (HU S L (.tup [.str b[i],.int r])):=(k2.trans B.sm).trans (U.trans W.sm);have et:(HU S L (.tup [.str b[i],.int r])) L=some (.tup [.str b[i],.int r]):=A9;generalize HU S L (.tup [.str b[i],.int r])=H4 at R4 e4 L5 k4 et⊢;refine⟨_,R4.at_,by rw[AA,AA,sizeLine_eq];lia,hN _ _ ⟨⟨_,rfl⟩,k4.updN m,by rw[B8 G];exact e4,⟨_,by lia,L5.upd k⟩,g ++ [(L,b[i],r)],?_,?_,λz X=>?_⟩⟩
   .rw[AF];exact R4.snoc et
   .unfold nP at x⊢;rw[AF,x,C7 I];rfl
   .rcases AH.mp X with y | y
    .exact r2 z y
    .rw[AC.mp y];exact⟨hr0,hr9⟩
  .rintro σ u ⟨⟨v0,rfl⟩,k2,R,⟨c3,hc3,C⟩,g,R2,x,r2⟩;have J:g.length=e:=by
    have:=congrArg List.length x;unfold nP at this;rw[AA,AO]at this;lia
   refine q D g c3 u m k2 R2 J (by rw[x];exact j.2.1.sublist (DQ _ _)) (λz X=>⟨j.1 _ (BQ (i:=e) (by rw[<-x];exact AI.mpr ⟨z,X,rfl⟩)),r2 z X⟩) (by lia) C
end
def sd(ss:A0 Str):PyData:=.list (ss.map PyData.str)
def Lx{K:PySem.W.Frag}{H:Hp}:∀ss:A0 Str,PY K H (ss.map PyData.str) (ss.map V.str)
 | []=>by simp[PY]
 | x::r=>by
  simp only[BP,PY,Rp];exact⟨_,_,rfl,rfl,Lx r⟩
def Qm{K:PySem.W.Frag}{H:Hp}{l:A2}{ss:A0 Str}(h:HY K H l (ss.map V.str)):Rp K H (sd ss) (.ref l):=by
 unfold sd;simp only[Rp];exact⟨l,_,rfl,h,Lx ss⟩
def Dm:∀ss:A0 Str,PyData.depthAll (ss.map PyData.str)<=1
 | []=>by simp[PyData.depthAll]
 | x::r=>by
  have:=Dm r;simp only[BP,PyData.depthAll,PyData.depth];lia
def Mn:∀{ss:A0 Str},(∀x∈ss,PySem.PyData.strOk x=true)->PyData.canLayAll0 (ss.map PyData.str)=true
 | [],_=>rfl
 | x::r,h=>by
  rw[BP,PyData.canLayAll0,Mn λz a=>h z (AQ _ a)];simp[PyData.canLay0,h x (AZ ..)]
def Tp{ss:A0 Str}(h:∀x∈ss,K3 x=true):Pl (sd ss):=by
 refine⟨?_,?_⟩
 .unfold sd;rw[PyData.canLay0];exact Mn λx a=>O8 (h x a)
 .unfold sd;rw[PyData.depth];have:=Dm ss;lia
def Ym{K:PySem.W.Frag}{x y:V}{d:PyData}{H:Hp}{Q:VK}(h1:Rp K H d x)(h2:Rp K H d y)(p:Pl d)(q:Q (.bl false) H):UX K x y H Q :=
 ⟨d,d,h1,h2,p,p,by rw[PySem.SeqAt.eqv_refl d p.1];exact q⟩
def Sl:∀a:A0 PyData,PyData.eqv (.list a) (.list [])=a.isEmpty
 | []=>by rw[PyData.eqv,PyData.eqvAll];rfl
 | _::_=>by rw[PyData.eqv,PyData.eqvAll];rfl
def Db(ss:A0 Str):PyData.eqv (sd ss) (.list [])=ss.isEmpty:=by
 unfold sd;rw[Sl];cases ss<;>rfl
def Sd:Pl (.list []):=⟨by simp[PyData.canLay0,PyData.canLayAll0],by simp[PyData.depth,PyData.depthAll]⟩
def Sg{K:PySem.W.Frag}{H:Hp}{l:A2}(h:HY K H l []):Rp K H (.list []) (.ref l):=by
 simp only[Rp];exact⟨l,_,rfl,h,by simp[PY]⟩
def Ls{K:PySem.W.Frag}{H:Hp}{α:Type}{f:α->A2}{d:α->PyData}:∀{xs:A0 α},(∀x∈xs,Rp K H (d x) (.ref (f x)))->PY K H (xs.map d) (xs.map λx=>V.ref (f x))
 | [],_=>by simp[PY]
 | x::r,h=>by
  show PY K H (d x::r.map d) (V.ref (f x)::r.map λx=>V.ref (f x));simp only[PY];exact⟨_,_,rfl,h x (AZ ..),Ls λz a=>h z (AQ _ a)⟩
def zAb{K:PySem.W.Frag}{H:Hp}{α:Type}{f:α->A2}{d:α->PyData}{xs:A0 α}{l:A2}(e:H l=some (.lst (xs.map λx=>V.ref (f x))))(h:∀x∈xs,Rp K H (d x) (.ref (f x))):Rp K H (.list (xs.map d)) (.ref l):=by
 simp only[Rp];exact⟨l,_,rfl,HY.of e,Ls h⟩
def Pd{α:Type}{d:α->PyData}:∀{xs:A0 α},(∀x∈xs,(d x).canLay0=true)->PyData.canLayAll0 (xs.map d)=true
 | [],_=>rfl
 | x::r,h=>by
  rw[BP,PyData.canLayAll0,Pd λz a=>h z (AQ _ a),h x (AZ ..)];rfl
def Hy{α:Type}{d:α->PyData}{k:Nat}:∀{xs:A0 α},(∀x∈xs,(d x).depth<=k)->PyData.depthAll (xs.map d)<=k
 | [],_=>by simp[PyData.depthAll]
 | x::r,h=>by
  have b:=h x (AZ ..);have c:=Hy λz a=>h z (AQ _ a);rw[BP,PyData.depthAll];lia
def zBw{α:Type}{d:α->PyData}{xs:A0 α}(h:∀x∈xs,(d x).canLay0=true/\(d x).depth<=20):Pl (.list (xs.map d)):=by
 refine⟨?_,?_⟩
 .rw[PyData.canLay0];exact Pd λx a=>(h x a).1
 .rw[PyData.depth];have:=Hy λx a=>(h x a).2;lia
def T_(q:JJ):PyData:=.tuple [.str q.2.1,.int q.2.2]
def zFk{q:JJ}(h:K3 q.2.1=true):(T_ q).canLay0=true/\(T_ q).depth<=20:=by
 unfold T_;refine⟨?_,by simp[PyData.depth,PyData.depthAll]⟩;have e:(PyData.int q.2.2).canLay0=true:=rfl;simp[PyData.canLay0,PyData.canLayAll0,O8 h,e]
def zHz{K:PySem.W.Frag}{H:Hp}{q:JJ}(h:Zc H (rP q)):Rp K H (T_ q) (.ref q.1):=by
 unfold T_;simp only[Rp,PY];exact⟨q.1,_,rfl,JC.of h,_,_,rfl,rfl,_,_,rfl,rfl,rfl⟩
def zBf{K:PySem.W.Frag}{H:Hp}{l:A2}{a:A0 JJ}(h:IQ H l (a.map rP)):Rp K H (.list (a.map T_)) (.ref l):=by
 have e:=h.at_;rw[AN]at e;exact zAb (f:=λq:JJ=>q.1) e λq b=>zHz (h.row (rP q) (AI.mpr ⟨q,b,rfl⟩))
def Rt{K:PySem.W.Frag}{H:Hp}{l z:A2}{a:A0 JJ}{Q:VK}(h:IQ H l (a.map rP))(b:∀q∈a,K3 q.2.1=true)(c:H z=some (.lst []))(q:Q (.bl (!a.isEmpty)) H):UX K (.ref l) (.ref z) H Q:=by
 refine⟨.list (a.map T_),.list [],zBf h,Sg (HY.of c),zBw λq d=>zFk (b q d),Sd,?_⟩;rw[Sl];have e:(a.map T_).isEmpty=a.isEmpty:=by cases a<;>rfl
 rw[e];exact q
def Ms(xs:A0 V)(i:Nat)(h:i<=xs.length):Ao xs (some (i:Int)) none=xs.drop i:=by
 unfold Ao;rw[HT.PP,HT.QQ,ER h];exact CT (by rw[CI];exact Nat.le_refl _)
def Uy(xs:A0 V)(i:Nat):Ao xs none (some (i:Int))=xs.take i:=by
 unfold Ao;rw[HT.PP,HT.QQ,DR,Nat.sub_zero];by_cases h:i<=xs.length
 .rw[ER h]
 .rw[Nat.min_eq_right (by lia),BM,CT (by lia)]
section
variable{P:Cv}{w:HS}{K:PySem.W.Frag}{mg:Str->A6 A1}{base:HX}
theorem JW:HW ["_law_left_here", "_law_people_here", "_law_found", "_law_k", "_law_name"] ["_law_left_here", "_law_people_here"] (B6 ME):=KA
def Ph:Sp:=λg H Q _=>∃(p a:A2) (c:Int) (b:A0 JJ),g = [.ref p,.ref a]/\IH H p c/\c<=800000/\IQ H a (b.map rP)/\b.length<=8/\(nP b).Nodup/\(∀q∈b,K3 q.2.1=true/\0<=q.2.2/\q.2.2<=9) /\
 ∀l (d:A0 Str) f e,H l=none->Sm [p] H e->e l=some (.lst (d.map V.str))->(∀x∈d,x∈nP b)->d.Nodup->d.length<=8->f<=c+4->IH e p f->Q (.ref l) e
set_option maxHeartbeats 2000000 in
theorem Bg(T:Tx K mg):II P w K mg base JG 3 T.aL.f T.aL.fd ["_law_left_here", "_law_people_here"] Ph:=by
 refine T.aL.F.o1 JW λcdv A X s H vs Q E Y h=>?_
 .obtain⟨p,a,c,C,rfl,Z,c1,hR,len,nd,nmP,q⟩:=h;refine⟨_,(B2 (C2 (i:=2) JW.nd rfl (.inl rfl) (F7 B0))
   (B2 (P0 PassesOwn.never rfl (Yq T.aD (A8 (C8 T.ac (E5 T) (Rm Y) (A8 (pv 0) (A8 B4 B0))) B0)) (E4 (i:=3) JW.nd rfl (.inl rfl))
   (B7 (K5 (C9 (Vf K Y.units) (pv 1) (F7 B0) (F6 _)) (B2 (C2 (i:=4) JW.nd rfl (.inl rfl) (D6 (LM K) (D6 (KL K) (pv 1) (C8 T.ac (E5 T) (Rm Y) (A8 (pv 0) (A8 (G0 (U2 K) T.ap Q5 (A8 (pv 1) B0)) B0))) (λ_ _=>rfl)) B4 (λ_ _=>rfl)))
   (B7 (K5 (C9 (S2 K) (pv 4) (pv 2) rfl) (B7 (G9 (Ln K PySem.F.plainAttrs_list PySem.F.slot_list_append PySem.F.type_list_append M0 (pv 2) (A8 (pv 4) B0)))) E6))) E6)))
   (B7 (C3 (pv 2))))),?_⟩
  refine B5 λN1 hN1=>?_;refine⟨BR _,λD N=>?_⟩;have uD:=CW.new (o:=.lst []) N;have J:p≠D:=B3 Z.get N;refine hN1 _ _ (B5 λN2 hN2=>?_);refine A7 rfl (Y5 (a:=p) rfl (Z.same uD) (by lia) (by decide) (by decide) λd H2 hd O L2=>A7 rfl ⟨by lia,by lia,?_⟩);have e2:H2 D=some (.lst (([]:A0 Str).map V.str)):=LR O A9 J.symm;have O:Sm [p] H H2:=uD.sm.trans O;have d3:d<3:=by lia
  rw[DK];refine U4 (n:=d) (λi σ G=>(∃v3 v4,σ = [some (.ref p),some (.ref a),some (.ref D),v3,v4])/\Sm [p] H G/\(∃c',c'<=c+1+i/\IH G p c')/\∃g:A0 Str,G D=some (.lst (g.map V.str))/\(∀x∈g,x∈nP C)/\g.Nodup/\g.length<=i) ?_ ?_ ?_
  .exact⟨⟨_,_,rfl⟩,O,⟨_,by lia,L2⟩,[],e2,λx hx=>absurd hx AL,C_,BR _⟩
  .rintro i σ G hi ⟨⟨v3,v4,rfl⟩,R,⟨c3,hc3,LG⟩,g,eG,sub,k,lss⟩ D1 t _;have RG:=hR.sm Z R;refine A7 rfl ⟨BR _,λz hz=>?_⟩;have L:=CW.new (o:=.lst []) hz;have S:=RG.same L;have U:=L _ _ eG;have M:=LG.same L;have kz:=R.trans L.sm;have fz:(HU G z (.lst [])) z=some (.lst []):=A9;generalize HU G z (.lst [])=G1 at S U M kz fz L⊢;refine Rt S (λq hq=>(nmP q hq).1) fz ⟨_,rfl,g7 (λh=>?_) (λh=>?_)⟩
   .have l1:1<=C.length:=by
     cases C with
     | nil=>cases h
     | cons b r=>rw[BK];lia
    refine B5 λM1 hM1=>?_;refine A7 rfl (A7 rfl (A7 rfl ⟨a,_,rfl,.inl (HY.of S.at_),?_⟩));rw[AA,AA];refine Y5 (a:=p) rfl M (by lia) (by lia) (by lia) λd1 G2 hd1 I L3=>?_;have R3:=S.sm M I;have W:=LR I U (M.ne U);have I:=kz.trans I;have B:C[d1]?=some (C[d1]'(by lia)):=AU (by lia);have l:=AM B;generalize C[d1]'(by lia)=y at B l;refine⟨a,_,C1 rfl rfl ⟨HY.of R3.at_,B9 (by rw[AN,AG,B];rfl),y.1,_,C1 rfl rfl ⟨JC.of (R3.row (rP y) (AI.mpr ⟨y,l,rfl⟩)),B9 (j:=0) rfl,hM1 _ _ ?_⟩⟩⟩;refine A7 rfl (A7 rfl (K8 (.inl (HY.of W)) ⟨_,rfl,g7 (λh=>?_) (λh=>?_)⟩))
    .have nin:y.2.1∉g:=λm=>by
      have h:(!decide (y.2.1∈g))=true:=h;rw[AJ m]at h;cases h
     refine A7 rfl ⟨.inl ⟨rfl,_,HY.of W⟩,A7 rfl ⟨D,_,_,rfl,rfl,W,by rw[AA,sizeLine_eq];lia,t _ _ ⟨⟨_,_,rfl⟩,I.updN N,⟨_,by lia,L3.upd J⟩,g ++ [y.2.1],?_,λx hx=>?_,?_,?_⟩⟩⟩
     .rw[A9,AF];rfl
     .rcases AH.mp hx with m | m
      .exact sub x m
      .rw[AC.mp m];exact AI.mpr ⟨y,l,rfl⟩
     .exact BU.mpr ⟨k,B_.mpr ⟨AL,C_⟩,λu hu v hv e=>nin (by rw[AC]at hv;exact hv▸e▸hu)⟩
     .rw[AW,EE];lia
    .exact t _ _ ⟨⟨_,_,rfl⟩,I,⟨_,by lia,L3⟩,g,W,sub,k,by lia⟩
   .exact t _ _ ⟨⟨_,_,rfl⟩,kz,⟨_,by lia,M⟩,g,U,sub,k,by lia⟩
  .rintro σ G ⟨⟨v3,v4,rfl⟩,R,⟨c3,hc3,LG⟩,g,eG,sub,k,lss⟩;exact hN2 _ _ (A7 rfl (q D g c3 G N R eG sub k (by lia) (by lia) LG))
end
structure Sz(n0 n1 n2 n3:Nat):Prop where
 h0:n0<=8
 h1:n1<=12
 h2:n2<=12
 h3:n3<=12
 one:0<n3->0<n1
section
variable{P:Cv}{w:HS}{K:PySem.W.Frag}{mg:Str->A6 A1}{base:HX}
theorem LP:HW ["_law_left_here", "_law_most", "_law_way", "_law_some"] ["_law_left_here", "_law_most"] (B6 OL):=KA
def Wc:Sp:=λh H Q _=>∃(p:A2) (c:Int),h = [.ref p,.int 12]/\IH H p c/\c<=800000 /\
 ∀l (b d e f:Nat) g a,H l=none->Sm [p] H a->a l=some (.lst [.int (b:Int),.int (d:Int),.int (e:Int),.int (f:Int)])->Sz b d e f->g<=c+5->IH a p g->Q (.ref l) a
set_option maxHeartbeats 2000000 in
theorem Hd(T:Tx K mg):II P w K mg base JG 3 T.a5.f T.a5.fd ["_law_left_here", "_law_most"] Wc:=by
 refine T.a5.F.o1 LP λcdv A outer s H vs Q E hr h=>?_
 .obtain⟨p,c,rfl,hL,c1,q⟩:=h;refine⟨_,(B2 (C2 (i:=2) LP.nd rfl (.inl rfl) (C8 T.ac (E5 T) (Rm hr) (A8 (pv 0) (A8 B4 B0))))
   (B2 (K5 (C9 i0 (pv 2) B4 (F6 _)) (B7 (C3 (F9 K4 (F7 (A8 (F9 Qa B4 (C8 T.ac (E5 T) (Rm hr) (A8 (pv 0) (A8 B4 B0)))) B0)) (J1 (N':=["_law_k", "_law_most", "_law_left_here"]) (cap:=[none,some 1,some 0]) (cl:=[("_law_most",_),("_law_left_here",_)]) (E9 ⟨⟨rfl,rfl,rfl,rfl⟩,⟨⟨rfl,rfl,rfl,rfl⟩,trivial⟩⟩ ⟨rfl,⟨rfl,trivial⟩⟩) rfl (Yq T.aD (A8 B4 B0)) (λ_ _ _ _=>by exact⟨(JQ 0),D8,(F9 Qa (pv 1) (C8 T.ac (E5 T) (Rm hr) (A8 (pv 2) (A8 B4 B0))))⟩))))) E6)
   (B2 (K5 (C9 i0 (pv 2) B4 (F6 _)) (B7 (C3 (F7 (A8 (C8 T.ac (E5 T) (Rm hr) (A8 (pv 0) (A8 B4 B0))) (A8 (C8 T.ac (E5 T) (Rm hr) (A8 (pv 0) (A8 B4 B0))) (A8 (C8 T.ac (E5 T) (Rm hr) (A8 (pv 0) (A8 B4 B0))) (A8 B4 B0))))))) E6)
   (@B2 _ _ _ _ _ (@C2 _ _ 3 _ _ _ _ LP.nd rfl (.inl rfl) (@F7 _ _ _ _ (@A8 _ _ _ _ _ (F7 (A8 B4 (A8 B4 (A8 B4 (A8 B4 B0))))) (@A8 _ _ _ _ _ (F7 (A8 B4 (A8 B4 (A8 B4 (A8 B4 B0))))) (@A8 _ _ _ _ _ (F7 (A8 B4 (A8 B4 (A8 B4 (A8 B4 B0))))) (@A8 _ _ _ _ _ (F7 (A8 B4 (A8 B4 (A8 B4 (A8 B4 B0))))) (@A8 _ _ _ _ _ (F7 (A8 B4 (A8 B4 (A8 B4 (A8 B4 B0))))) (@A8 _ _ _ _ _ (F7 (A8 B4 (A8 B4 (A8 B4 (A8 B4 B0))))) B0 (by rfl)) (by rfl)) (by rfl)) (by rfl)) (by rfl)) (by rfl))) (by rfl) (by first | exact .inl rfl | exact .inr rfl | assumption))
   (B7 (C3 (D6 (KL K) (pv 3) (F9 Qa (pv 2) B4) (λ_ _=>rfl)))))))),?_⟩
  have g:∀{G:Hp} {l:A2},Sm [p] H G->(∃c,IH G p c)->G l=none->H l=none:=fun{G l} k ⟨c,L⟩ u=>by
   cases z:H l with
   | none=>rfl
   | some o =>
    have:=k l o z (by simpa using (B3 L.get u).symm);rw[u]at this;cases this
  refine B5 λN1 hN1=>?_;refine A7 rfl (Y5 (a:=p) rfl hL (by lia) (by decide) (by decide) λd H1 hd M O=>?_);refine hN1 _ _ (B5 λN2 hN2=>?_);refine A7 rfl ⟨rfl,A7 rfl (g7 (λc0=>?_) (λc0=>?_))⟩
  .refine A7 rfl (Y5 (a:=p) rfl O (by lia) (by decide) (by decide) λI H2 hd1 k2 L2=>C1 rfl rfl ⟨by show 1<=sizeLine;decide,λm B=>?_⟩);have e8:((8:Int)-(I:Int)) =((8-I:Nat):Int):=by lia
   dsimp only;rw[e8];have r:=CW.new (o:=.lst [.int ((8-I:Nat):Int)]) B;have f1:(HU H2 m (.lst [.int ((8-I:Nat):Int)])) m=some (.lst [.int ((8-I:Nat):Int)]):=A9;generalize HU H2 m (.lst [.int ((8-I:Nat):Int)])=H3 at r f1⊢;have L3:=L2.same r;have k3:=M.trans (k2.trans r.sm);refine A7 rfl ⟨by decide,by decide,λD hD=>?_⟩;have Z:p≠D:=B3 L3.get hD;have nlD:m≠D:=B3 f1 hD;have npl:m≠p:=(B3 L2.get B).symm;have hD0:=g k3 ⟨_,L3⟩ hD;refine Na (n:=3) (λi σ G=>(∃v,σ = [v,some (.int 12),some (.ref p)])/\Sm [p] H G/\IH G p (c+2+i)/\G m=some (.lst [.int ((8-I:Nat):Int)])/\∃ds:A0 Nat,G D=some (.lst (ds.map λn:Nat=>V.int (n:Int)))/\ds.length=i/\∀x∈ds,10<=x/\x<=12) ?_ (λi _ _ hi _=>hi) (λ_ _ _=>Nat.le_refl _) ?_ ?_
   .exact⟨⟨_,rfl⟩,k3.updN hD0,(L3.cast (by lia)).upd Z,by rw[B8 nlD];exact f1,[],A9,rfl,λx h=>absurd h AL⟩
   .rintro i σ G v G' N hi ⟨⟨v0,rfl⟩,kG,LG,fG,ds,eG,u,hx⟩ ⟨rfl,rfl⟩ hN;refine S3 ?_;refine A7 rfl (A7 rfl (Y5 (a:=p) rfl LG (by lia) (by decide) (by decide) λd3 G2 hd3 k4 L4=>C1 rfl rfl ?_));have e12:((12:Int)-(d3:Int)) =((12-d3:Nat):Int):=by lia
    have eD:=LR k4 eG Z.symm;refine⟨_,eD,by rw[AA,sizeLine_eq];lia,hN _ _ ⟨⟨_,rfl⟩,(kG.trans k4).updN hD0,(L4.cast (by lia)).upd Z,by rw[B8 nlD];exact LR k4 fG npl,ds ++ [12-d3],?_,by rw[AW,u];rfl,λx hm=>?_⟩⟩
    .rw[A9,AF];dsimp only;rw[e12];rfl
    .rcases AH.mp hm with y | y
     .exact hx x y
     .rw[AC.mp y];lia
   .rintro σ G ⟨⟨v0,rfl⟩,kG,LG,fG,ds,eG,u,hx⟩;refine⟨m,D,_,_,rfl,rfl,fG,eG,by rw[AA,u];show 1+3<=sizeLine;decide,λC t=>?_⟩
    match ds,u,hx with
    | [a,b,e],_,hx =>
     obtain⟨a1,a2⟩:=hx a (by simp);obtain⟨b1,b2⟩:=hx b (by simp);obtain⟨g1,g2⟩:=hx e (by simp);exact q C (8-I) a b e _ _ (g kG ⟨_,LG⟩ t) (kG.trans (CW.new t).sm) A9 ⟨by lia,a2,b2,g2,λ_=>by lia⟩ (by lia) (LG.same (CW.new t))
  refine hN2 _ _ (B5 λN3 hN3=>?_);refine A7 rfl ⟨rfl,A7 rfl (g7 (λc1=>?_) (λc1=>?_))⟩
  .refine A7 rfl (Y5 (a:=p) rfl O (by lia) (by decide) (by decide) λI H2 hd1 k2 L2=>?_);refine A7 rfl (Y5 (a:=p) rfl L2 (by lia) (by decide) (by decide) λd2 H3 hd2 k3 L3=>?_);refine A7 rfl (Y5 (a:=p) rfl L3 (by lia) (by decide) (by decide) λd3 H4 hd3 k4 L4=>?_);have k:=M.trans (k2.trans (k3.trans k4));refine⟨by show 4<=sizeLine;decide,λl u=>?_⟩;exact q l I d2 d3 0 _ _ (g k ⟨_,L4⟩ u) (k.trans (CW.new u).sm) A9 ⟨by lia,by lia,by lia,by lia,λh=>absurd h (by lia)⟩ (by lia) (L4.same (CW.new u))
  refine hN3 _ _ (B5 λN4 hN4=>?_);refine⟨by show 4<=sizeLine;decide,λm B=>?_⟩;have r:=CW.new (o:=.lst [V.int 3,.int 4,.int 4,.int 0]) B;have e1:(HU H1 m (.lst [V.int 3,.int 4,.int 4,.int 0])) m=some (.lst [V.int 3,.int 4,.int 4,.int 0]):=A9;generalize HU H1 m (.lst [V.int 3,.int 4,.int 4,.int 0])=G1 at r e1⊢;refine⟨by show 4<=sizeLine;decide,λC t=>?_⟩;have J:=CW.new (o:=.lst [V.int 3,.int 4,.int 5,.int 2]) t;have e2:(HU G1 C (.lst [V.int 3,.int 4,.int 5,.int 2])) C=some (.lst [V.int 3,.int 4,.int 5,.int 2]):=A9;generalize HU G1 C (.lst [V.int 3,.int 4,.int 5,.int 2])=G2 at J e2⊢;refine⟨by show 4<=sizeLine;decide,λR hl3=>?_⟩;have Y:=CW.new (o:=.lst [V.int 2,.int 3,.int 3,.int 2]) hl3;have e3:(HU G2 R (.lst [V.int 2,.int 3,.int 3,.int 2])) R=some (.lst [V.int 2,.int 3,.int 3,.int 2]):=A9;generalize HU G2 R (.lst [V.int 2,.int 3,.int 3,.int 2])=G3 at Y e3⊢;refine⟨by show 4<=sizeLine;decide,λS hl4=>?_⟩;have u4:=CW.new (o:=.lst [V.int 4,.int 5,.int 5,.int 3]) hl4;have e4:(HU G3 S (.lst [V.int 4,.int 5,.int 5,.int 3])) S=some (.lst [V.int 4,.int 5,.int 5,.int 3]):=A9;generalize HU G3 S (.lst [V.int 4,.int 5,.int 5,.int 3])=G4 at u4 e4⊢;refine⟨by show 4<=sizeLine;decide,λU hl5=>?_⟩;have u5:=CW.new (o:=.lst [V.int 3,.int 3,.int 5,.int 1]) hl5;have e5:(HU G4 U (.lst [V.int 3,.int 3,.int 5,.int 1])) U=some (.lst [V.int 3,.int 3,.int 5,.int 1]):=A9;generalize HU G4 U (.lst [V.int 3,.int 3,.int 5,.int 1])=G5 at u5 e5⊢;refine⟨by show 4<=sizeLine;decide,λW hl6=>?_⟩;have u6:=CW.new (o:=.lst [V.int 2,.int 4,.int 4,.int 2]) hl6;have e6:(HU G5 W (.lst [V.int 2,.int 4,.int 4,.int 2])) W=some (.lst [V.int 2,.int 4,.int 4,.int 2]):=A9;generalize HU G5 W (.lst [V.int 2,.int 4,.int 4,.int 2])=G6 at u6 e6⊢;refine⟨by show 6<=sizeLine;decide,λX hl7=>?_⟩;have u7:=CW.new (o:=.lst [V.ref m,.ref C,.ref R,.ref S,.ref U,.ref W]) hl7;have e7:(HU G6 X (.lst [V.ref m,.ref C,.ref R,.ref S,.ref U,.ref W])) X=some (.lst [V.ref m,.ref C,.ref R,.ref S,.ref U,.ref W]):=A9;generalize HU G6 X (.lst [V.ref m,.ref C,.ref R,.ref S,.ref U,.ref W])=G7 at u7 e7⊢;have v6:=u7;have v5:=u6.trans v6;have v4:=u5.trans v5;have v3:=u4.trans v4;have v2:=Y.trans v3;have v1:=J.trans v2;have v0:=r.trans v1;have k7:=M.trans v0.sm;have L7:=O.same v0;have n1:H m=none:=g M ⟨_,O⟩ B;have n2:H C=none:=g (M.trans r.sm) ⟨_,(O.same r)⟩ t;have n3:H R=none:=g (M.trans (r.trans J).sm) ⟨_,(O.same (r.trans J))⟩ hl3;have n4:H S=none:=g (M.trans ((r.trans J).trans Y).sm) ⟨_,(O.same ((r.trans J).trans Y))⟩ hl4;have n5:H U=none:=g (M.trans (((r.trans J).trans Y).trans u4).sm) ⟨_,(O.same (((r.trans J).trans Y).trans u4))⟩ hl5;have n6:H W=none:=g (M.trans ((((r.trans J).trans Y).trans u4).trans u5).sm) ⟨_,(O.same ((((r.trans J).trans Y).trans u4).trans u5))⟩ hl6;refine hN4 _ _ ?_;have hd2:2<=d:=by
   have a0:d≠0:=λz=>by subst z;exact absurd rfl (λy=>c0 (AJ y))
   have a1:d≠1:=λz=>by subst z;exact absurd rfl (λy=>c1 (AJ y))
   lia
  refine A7 rfl (A7 rfl (C1 rfl rfl ?_));obtain⟨i,rfl⟩:∃i,d=i+2:=⟨d-2,by lia⟩;have ei:(((i+2:Nat):Int)-2) =(i:Int):=by lia
  dsimp only;rw[ei]
  match i,hd with
  | 0,_=>exact⟨X,_,_,_,rfl,rfl,HY.of e7,B9 (j:=0) rfl,q m 3 4 4 0 _ _ n1 k7 (v1 _ _ e1) ⟨by decide,by decide,by decide,by decide,by decide⟩ (by lia) L7⟩
  | 1,_=>exact⟨X,_,_,_,rfl,rfl,HY.of e7,B9 (j:=1) rfl,q C 3 4 5 2 _ _ n2 k7 (v2 _ _ e2) ⟨by decide,by decide,by decide,by decide,by decide⟩ (by lia) L7⟩
  | 2,_=>exact⟨X,_,_,_,rfl,rfl,HY.of e7,B9 (j:=2) rfl,q R 2 3 3 2 _ _ n3 k7 (v3 _ _ e3) ⟨by decide,by decide,by decide,by decide,by decide⟩ (by lia) L7⟩
  | 3,_=>exact⟨X,_,_,_,rfl,rfl,HY.of e7,B9 (j:=3) rfl,q S 4 5 5 3 _ _ n4 k7 (v4 _ _ e4) ⟨by decide,by decide,by decide,by decide,by decide⟩ (by lia) L7⟩
  | 4,_=>exact⟨X,_,_,_,rfl,rfl,HY.of e7,B9 (j:=4) rfl,q U 3 3 5 1 _ _ n5 k7 (v5 _ _ e5) ⟨by decide,by decide,by decide,by decide,by decide⟩ (by lia) L7⟩
  | 5,_=>exact⟨X,_,_,_,rfl,rfl,HY.of e7,B9 (j:=5) rfl,q W 2 4 4 2 _ _ n6 k7 (v6 _ _ e6) ⟨by decide,by decide,by decide,by decide,by decide⟩ (by lia) L7⟩
  | n+6,hd=>exact absurd hd (by lia)
end
def Zx{d:Nat}(h:d<3):∃k:Str,TD [V.str "claim",.str "claim",.str "fact"] (d:Int)=some (.str k)/\(k = "fact"\/k = "claim"):=by
 match d,h with
 | 0,_=>exact⟨"claim",rfl,.inr rfl⟩
 | 1,_=>exact⟨"claim",rfl,.inr rfl⟩
 | 2,_=>exact⟨"fact",rfl,.inl rfl⟩
section
variable{P:Cv}{w:HS}{K:PySem.W.Frag}{mg:Str->A6 A1}{base:HX}
theorem IB:HW ["_law_left_here", "_law_most", "_law_many", "_law_people_here", "_law_names", "_law_said", "_law_sayings", "_law_strikes", "_law_name", "_law_goals", "_law_backs", "_law_k", "_law_pair"] ["_law_left_here", "_law_most"] (B6 K_):=KA
def Ws:Sp:=λk H Q _=>∃(p:A2) (c:Int),k = [.ref p,.int 12]/\IH H p c/\c<=700000 /\
 ∀r a b g d (h:A0 JJ) (f:A0 JK) (st:A0 JD) (i:A0 IU) j e,Sm [p] H e->e r=some (.lst [.ref a,.ref b,.ref g,.ref d])->JR e a b g d h f st i->PV h f st i->(∀x∈nS f++nT st,x∈OU)->f.length<=12->st.length<=12->IH e p j->j<=c+5000->Q (.ref r) e
set_option maxHeartbeats 8000000 in
theorem y6(T:Tx K mg):II P w K mg base JG 6 T.az.f T.az.fd ["_law_left_here", "_law_most"] Ws:=by
 refine T.az.F.o1 IB λcdv A outer s H vs Q E hr h=>?_
 .obtain⟨p,c,rfl,hL,c0,q⟩:=h;refine⟨_,(B2 (C2 (i:=2) IB.nd rfl (.inl rfl) (C8 T.a5 (Hd T) (Rm hr) (A8 (pv 0) (A8 (pv 1) B0))))
   (B2 (C2 (i:=3) IB.nd rfl (.inr rfl) (C8 T.aW (Eh T) (Rm hr) (A8 (pv 0) (A8 (D6 (KL K) (pv 2) B4 (λ_ _=>rfl)) B0))))
   (B2 (C2 (i:=4) IB.nd rfl (.inl rfl) (C8 T.ay (t8 T) (Rm hr) (A8 (pv 0) (A8 (F9 V2 (D6 (KL K) (pv 2) B4 (λ_ _=>rfl)) (D6 (KL K) (pv 2) B4 (λ_ _=>rfl))) B0))))
   (B2 (C2 (i:=5) IB.nd rfl (.inl rfl) (o0 (slL K) (pv 4) Ba (Bc (D6 (KL K) (pv 2) B4 (λ_ _=>rfl)))))
   (B2 (U8 (i:=6) (N':=["_law_name", "_law_left_here", "_law_people_here"]) (cap:=[none,some 0,some 3]) (cl:=[("_law_people_here",_),("_law_left_here",_)]) IB.nd rfl (.inl rfl) (E9 ⟨⟨rfl,rfl,rfl,rfl⟩,⟨⟨rfl,rfl,rfl,rfl⟩,trivial⟩⟩ ⟨rfl,⟨rfl,trivial⟩⟩) rfl (JX K (pv 5)) (λ_ _ _ _=>by exact⟨(JQ 0),D8,(J7 (A8 (pv 0) (A8 (D6 (KL K) (F7 (A8 E3 (A8 E3 (A8 E3 B0)))) (C8 T.ac (E5 T) (Rm hr) (A8 (pv 1) (A8 B4 B0))) (λ_ _=>rfl)) (A8 (C8 T.aL (Bg T) (Rm hr) (A8 (pv 1) (A8 (pv 2) B0))) B0))))⟩))
   (B2 (C2 (i:=7) IB.nd rfl (.inl rfl) (F7 B0))
   (B2 (P0 PassesOwn.never rfl (JX K (o0 (slL K) (pv 4) (Bc (D6 (KL K) (pv 2) B4 (λ_ _=>rfl))) Ba)) (E4 (i:=8) IB.nd rfl (.inl rfl))
   (B7 (K5 (C9 (Vf K hr.units) (pv 5) (F7 B0) (F6 _)) (B2 (C2 (i:=9) IB.nd rfl (.inl rfl) (D6 (KL K) (F7 (A8 (pv 5) (A8 (pv 5) (A8 (pv 4) B0)))) (C8 T.ac (E5 T) (Rm hr) (A8 (pv 0) (A8 B4 B0))) (λ_ _=>rfl)))
   (B7 (G9 (Ln K PySem.F.plainAttrs_list PySem.F.slot_list_append PySem.F.type_list_append M0 (pv 7) (A8 (J7 (A8 (pv 8) (A8 (D6 (KL K) (pv 5) (C8 T.ac (E5 T) (Rm hr) (A8 (pv 0) (A8 (G0 (U2 K) T.ap Q5 (A8 (pv 5) B0)) B0))) (λ_ _=>rfl)) (A8 (D6 (KL K) (pv 9) (C8 T.ac (E5 T) (Rm hr) (A8 (pv 0) (A8 (G0 (U2 K) T.ap Q5 (A8 (pv 9) B0)) B0))) (λ_ _=>rfl)) B0)))) B0))))) E6)))
   (B2 (C2 (i:=10) IB.nd rfl (.inl rfl) (F7 B0))
   (B2 (P0 PassesOwn.never rfl (Yq T.aD (A8 (D6 (KL K) (pv 2) B4 (λ_ _=>rfl)) B0)) (E4 (i:=11) IB.nd rfl (.inl rfl))
   (B2 (C2 (i:=12) IB.nd rfl (.inl rfl) (J7 (A8 (D6 (KL K) (pv 5) (C8 T.ac (E5 T) (Rm hr) (A8 (pv 0) (A8 (G0 (U2 K) T.ap Q5 (A8 (pv 5) B0)) B0))) (λ_ _=>rfl)) (A8 (D6 (KL K) (pv 5) (C8 T.ac (E5 T) (Rm hr) (A8 (pv 0) (A8 (G0 (U2 K) T.ap Q5 (A8 (pv 5) B0)) B0))) (λ_ _=>rfl)) B0))))
   (B7 (K5 (PW.pt (Ds (C9 Rk (D6 (LM K) (pv 12) B4 (λ_ _=>rfl)) (D6 (LM K) (pv 12) B4 (λ_ _=>rfl)) (F6 _)) (w9 (C9 (Wn K hr.units) (pv 12) (pv 10) rfl)))) (B7 (G9 (Ln K PySem.F.plainAttrs_list PySem.F.slot_list_append PySem.F.type_list_append M0 (pv 10) (A8 (pv 12) B0)))) E6))))
   (B7 (C3 (F7 (A8 (pv 3) (A8 (pv 6) (A8 (pv 7) (A8 (pv 10) B0)))))))))))))))),?_⟩
  refine B5 λN1 hN1=>?_;refine A7 rfl (A7 rfl ⟨p,c,rfl,hL,by lia,λm n0 g n2 n3 c1 H1 hm k1 e1 Z hc1 L1=>?_⟩);have nmp:m≠p:=L1.neL e1 λx y z=>by cases z
  refine hN1 _ _ (B5 λN2 hN2=>?_);refine A7 rfl (A7 rfl ⟨m,_,C1 rfl rfl ⟨HY.of e1,B9 (j:=0) rfl,?_⟩⟩);refine⟨p,c1,n0,rfl,L1,by lia,Z.h0,λa pe c2 H2 ha I R2 SH nd2 ok2 hc2 L2=>?_⟩;have e2:=LR I e1 nmp;refine hN2 _ _ (B5 λN3 hN3=>?_);refine A7 rfl (A7 rfl ⟨m,_,C1 rfl rfl ⟨HY.of e2,B9 (j:=1) rfl,A7 rfl ⟨m,_,C1 rfl rfl ⟨HY.of e2,B9 (j:=2) rfl,C1 rfl rfl ?_⟩⟩⟩⟩);have e12:((g:Int) +(n2:Int)) =((g+n2:Nat):Int):=by lia
  dsimp only;rw[e12];have z1:=Z.h1;have z2:=Z.h2;have z3:=Z.h3;refine⟨p,c2,g+n2,rfl,L2,by lia,by lia,λnm u H4 hnm k4 e4 RM N4' A4 L4=>?_⟩;have R4:=R2.sm L2 k4;have m4:=LR k4 e2 nmp;have k4:=(k1.trans I).trans k4;obtain⟨c4,hc4⟩:∃c4,c4=c2 +((g+n2:Nat):Int):=⟨_,rfl⟩;rw[<-hc4]at L4;clear k1 I e1 e2 R2 L1 L2;refine hN3 _ _ (B5 λN4 hN4=>?_);refine A7 rfl (A7 rfl ⟨m,_,C1 rfl rfl ⟨HY.of m4,B9 (j:=1) rfl,_,rfl,nm,_,rfl,HY.of e4,λC hsd=>?_⟩⟩);have us:=CW.new (o:=.lst (Ao (u.map V.str) none (some (g:Int)))) hsd;have e5:(HU H4 C (.lst (Ao (u.map V.str) none (some (g:Int))))) C=some (.lst ((u.take g).map V.str)):=by rw[A9,Uy,EK]
  generalize HU H4 C (.lst (Ao (u.map V.str) none (some (g:Int))))=H5 at us e5⊢;have R5:=R4.same us;have m5:=us _ _ m4;have f5:=us _ _ e4;have L5:=L4.same us;have k5:=k4.trans us.sm;clear R4 m4 e4 L4 k4 us hsd;have lts:u.length=g+n2:=by lia
  refine hN4 _ _ (B5 λN5 hN5=>?_);have l8:pe.length<=8:=by have:=Z.h0;lia
  have c5:c4<=c+1000:=by lia
  clear hc1 hc2 hc4;refine A7 rfl ⟨C,rfl,⟨_,HY.of e5⟩,λD hD=>?_⟩;have npD:p≠D:=B3 L5.get hD;refine J6 (KI (K:=K) (HY.of e5)) (λi σ G=>(∃v,σ = [v,some (.ref p),some (.ref a)])/\Sm [p] H5 G/\(∃c',c'<=c4+10*i/\IH G p c')/\∃sa:A0 JK,IQ G D (sa.map rS)/\(∀q∈sa,q.2.2.2.1≠D/\G q.2.2.2.1=some (.lst (q.2.2.2.2.map V.str))/\(q.2.2.1 = "fact"\/q.2.2.1 = "claim")/\(∀x∈q.2.2.2.2,x∈nP pe)/\q.2.2.2.2.Nodup/\q.2.2.2.2.length<=8)/\nS sa =(u.take g).take i)
   ⟨⟨_,rfl⟩,(Sm.refl _ _).updN hD,⟨_,by lia,L5.upd npD⟩,[],⟨A9,λq h=>absurd h AL⟩,λq h=>absurd h AL,rfl⟩ (λi σ G _ ⟨_,kG,_⟩ o e=>kG C o e (by simpa using L5.ne e5)) ?_ ?_
  .rintro i σ G v N Y ⟨⟨v0,rfl⟩,kG,⟨c6,hc6,LG⟩,sa,RG,O,nG⟩ hN;rw[AG]at Y;obtain⟨x,hy,rfl⟩:=AV.mp Y;have Y:=hy;have li:=(AR.mp Y).1;rw[AO]at li;have lsa:sa.length=i:=by
    have:=congrArg List.length nG;unfold nS at this;rw[AA,AO,AO]at this;lia
   refine S3 (A7 rfl ⟨by show 3<=sizeLine;decide,λt ht=>?_⟩);have ut:=CW.new (o:=.lst [V.str "claim",.str "claim",.str "fact"]) ht;refine A7 rfl (Y5 (a:=p) rfl (LG.same ut) (by lia) (by decide) (by decide) λdd G2 hd I L2=>?_);obtain⟨kd,hk1,hk2⟩:=Zx (d:=dd) (by lia);have et:G2 t=some (.lst [V.str "claim",.str "claim",.str "fact"]):=LR I A9 (B3 LG.get ht).symm;refine⟨t,_,C1 rfl rfl ⟨HY.of et,hk1,?_⟩⟩;have I:=ut.sm.trans I;have kG2:=kG.trans I;refine A7 rfl (A7 rfl ⟨p,a,_,pe,rfl,L2,by lia,R5.sm L5 kG2,l8,nd2,ok2,λl ss' c7 G3 hl k3 el sub nds lss hc7 L3=>⟨by show 3<=sizeLine;decide,λt2 ht2=>?_⟩⟩);have u4:=CW.new (o:=.tup [.str x,.str kd,.ref l]) ht2;have k4:Sm [p] G (HU G3 t2 (.tup [.str x,.str kd,.ref l])):=I.trans (k3.trans u4.sm);have R4:=RG.sm LG k4;have nlD:l≠D:=(B3 (RG.sm LG I).at_ hl).symm;have e4:=u4 _ _ el;have L4:=L3.same u4;have et2:(HU G3 t2 (.tup [.str x,.str kd,.ref l])) t2=some (.tup [.str x,.str kd,.ref l]):=A9;generalize HU G3 t2 (.tup [.str x,.str kd,.ref l])=G4 at k4 R4 e4 L4 et2⊢;refine⟨_,R4.at_,by rw[AA,AA,sizeLine_eq];lia,hN _ _ ⟨⟨_,rfl⟩,(kG.trans k4).updN hD,⟨_,by lia,L4.upd npD⟩,sa ++ [(t2,x,kd,l,ss')],?_,λz hz=>?_,?_⟩⟩
   .rw[AF];exact R4.snoc et2
   .rcases AH.mp hz with y | y
    .obtain⟨y1,y2,y3⟩:=O z y;exact⟨y1,(B8 y1).trans (LR k4 y2 (LG.ne y2)),y3⟩
    .rw[AC.mp y];exact⟨nlD,(B8 nlD).trans e4,hk2,sub,nds,lss⟩
   .unfold nS at nG⊢;rw[AF,nG,C7 Y];rfl
  .rintro σ G ⟨⟨v0,rfl⟩,kG,⟨c6,hc6,LG⟩,sa,RG,O,nG⟩;rw[AA,BM]at nG;have c6':c6<=c+1200:=by
    rw[AA,AO]at hc6;lia
   clear hc6;have m6:=LR kG m5 nmp;have R6:=R5.sm L5 kG;have f6:=LR kG f5 (L5.ne f5);have e6:=LR kG e5 (L5.ne e5);have k6:=k5.trans kG;clear m5 R5 f5 e5 kG k5;refine hN5 _ _ (B5 λN6 hN6=>?_);refine⟨BR _,λS hS=>?_⟩;have uS:=CW.new (o:=.lst []) hS;have eS:(HU G S (.lst [])) S=some (.lst []):=A9;have L7:=LG.same uS;have k7:Sm [p] G (HU G S (.lst [])):=uS.sm;have npS:p≠S:=B3 LG.get hS;generalize HU G S (.lst [])=H7 at eS L7 k7⊢;refine hN6 _ _ (B5 λN7 hN7=>?_);have m7:=LR k7 m6 nmp;have f7:=LR k7 f6 (LG.ne f6);refine A7 rfl (A7 rfl ⟨m,_,C1 rfl rfl ⟨HY.of m7,B9 (j:=1) rfl,_,rfl,nm,_,rfl,HY.of f7,λrs hrs=>?_⟩⟩);have ur:=CW.new (o:=.lst (Ao (u.map V.str) (some (g:Int)) none)) hrs;have e8:(HU H7 rs (.lst (Ao (u.map V.str) (some (g:Int)) none))) rs=some (.lst ((u.drop g).map V.str)):=by rw[A9,Ms _ _ (by rw[AA];lia),List.map_drop]
   have nrS:rs≠S:=(B3 eS hrs).symm;have nrp:rs≠p:=(B3 L7.get hrs).symm;have eS8:=ur _ _ eS;have L8:=L7.same ur;have k8:=k7.trans ur.sm;clear m7 f7 k7 L7 eS;generalize HU H7 rs (.lst (Ao (u.map V.str) (some (g:Int)) none))=H8 at e8 eS8 L8 k8⊢;refine⟨rs,rfl,⟨_,HY.of e8⟩,V0 (KI (HY.of e8)) (λi σ G'=>(∃v8 v9 v10 v11 J,σ = [some (.ref p),some (.int 12),some (.ref m),some (.ref a),some (.ref nm),some (.ref C),some (.ref D),some (.ref S),v8,v9,v10,v11,J])/\Sm [p] G G'/\G' rs=some (.lst ((u.drop g).map V.str))/\(∃c',c'<=c6+3*i/\IH G' p c')/\∃st:A0 JD,IQ G' S (st.map rT)/\nT st =(if u.take g = []then []else(u.drop g).take i)/\∀q∈st,q.2.2.1∈u.take g/\q.2.2.2∈u) ?_ ?_ ?_ ?_⟩
   .exact⟨⟨_,_,_,_,_,rfl⟩,k8,e8,⟨_,by lia,L8⟩,[],⟨eS8,λq h=>absurd h AL⟩,by split<;>rfl,λq h=>absurd h AL⟩
   .rintro i σ G' _ ⟨_,_,er,_⟩ o e;rw[e8]at e;cases e;exact er
   .rintro i σ G' y hy ⟨⟨v8,v9,v10,v11,J,rfl⟩,kG',er,⟨c9,hc9,L9⟩,st,RS,R,tS⟩ D1 hD1 _;rw[AG]at hy;obtain⟨x,Y,rfl⟩:=AV.mp hy;have li:=(AR.mp Y).1;rw[CI]at li;have f9:=LR kG' f6 (LG.ne f6);have e9:=LR kG' e6 (LG.ne e6);have R9:=RS.at_;refine A7 rfl ⟨BR _,λz hz=>?_⟩;have uz:=CW.new (o:=.lst []) hz;refine⟨Sw.sd (u.take g),.list [],Qm (HY.of (uz _ _ e9)),Sg (HY.of A9),Tp (λy hy=>N4'.1 y (BQ hy)),Sd,?_⟩;rw[Db];have LZ:=L9.same uz;have kZ:=kG'.trans uz.sm;have eZ:=uz _ _ e9;have fZ:=uz _ _ f9;have RZ:=RS.same uz;have rZ:=uz _ _ er;generalize HU G' z (.lst [])=GZ at LZ kZ eZ fZ RZ rZ uz⊢;refine⟨_,rfl,g7 (λh=>?_) (λh=>?_)⟩
    .have ne:u.take g≠[]:=λy=>by rw[y]at h;exact absurd h (by decide)
     have lt1:1<=(u.take g).length:=List.length_pos_iff.mpr ne;have lt2:(u.take g).length<=u.length:=by rw[AO];lia
     rw[AS ne]at R;have lst:st.length=i:=by
      have:=congrArg List.length R;unfold nT at this;rw[AA,AO,CI]at this;lia
     refine B5 λM1 hM1=>?_;refine A7 rfl (A7 rfl (A7 rfl ⟨by show 3<=sizeLine;decide,λt ht=>?_⟩));have ut:=CW.new (o:=.lst [V.ref C,.ref C,.ref nm]) ht;refine A7 rfl (Y5 (a:=p) rfl (LZ.same ut) (by lia) (by decide) (by decide) λdd G2 hdd I L2=>?_);have et:G2 t=some (.lst [V.ref C,.ref C,.ref nm]):=LR I A9 (B3 LZ.get ht).symm;have I:Sm [p] GZ G2:=ut.sm.trans I;have e2:=LR I eZ (LZ.ne eZ);have f2:=LR I fZ (LZ.ne fZ);obtain⟨gl,gs,ga,ge,gm,g1⟩:∃(gl:A2) (gs:A0 Str),TD [V.ref C,.ref C,.ref nm] (dd:Int)=some (.ref gl)/\G2 gl=some (.lst (gs.map V.str))/\(∀y∈gs,y∈u)/\1<=gs.length/\gs.length<=30:=by
      match dd,hdd with
      | 0,_=>exact⟨C,_,B9 (j:=0) rfl,e2,λy hy=>BQ hy,lt1,by lia⟩
      | 1,_=>exact⟨C,_,B9 (j:=1) rfl,e2,λy hy=>BQ hy,lt1,by lia⟩
      | 2,_=>exact⟨nm,_,B9 (j:=2) rfl,f2,λy hy=>hy,by lia,by lia⟩
      | n+3,hdd=>exact absurd hdd (by lia)
     refine⟨t,_,C1 rfl rfl ⟨HY.of et,ga,hM1 _ _ ?_⟩⟩;have R2:=RZ.sm LZ I;refine A7 rfl ⟨.inl ⟨rfl,_,HY.of R2.at_⟩,?_⟩;refine A7 rfl (A7 rfl (A7 rfl (A7 rfl ⟨C,_,rfl,.inl (HY.of e2),?_⟩)));rw[AA];refine Y5 (a:=p) rfl L2 (by lia) (by lia) (by lia) λd1 G3 hd1 k3 L3=>?_;have e3:=LR k3 e2 (L2.ne e2);have hi1:(u.take g)[d1]?=some ((u.take g)[d1]'(by lia)):=AU (by lia);refine⟨C,_,C1 rfl rfl ⟨HY.of e3,B9 (by rw[AG,hi1];rfl),?_⟩⟩;have g3:=LR k3 ge (L2.ne ge);refine A7 rfl (A7 rfl (A7 rfl ⟨gl,_,rfl,.inl (HY.of g3),?_⟩));rw[AA];refine Y5 (a:=p) rfl L3 (by lia) (by lia) (by lia) λd2 G4 hd2 k4 L4=>?_;have g4:=LR k4 g3 (L3.ne g3);have hi2:gs[d2]?=some (gs[d2]'(by lia)):=AU (by lia);refine⟨gl,_,C1 rfl rfl ⟨HY.of g4,B9 (by rw[AG,hi2];rfl),by show 3<=sizeLine;decide,λt2 ht2=>?_⟩⟩;have L:=AM hi1;have M:=gm _ (AM hi2);generalize (u.take g)[d1]'(by lia)=U at L ht2⊢;generalize gs[d2]'(by lia)=X at M ht2⊢;have u5:=CW.new (o:=.tup [.str x,.str U,.str X]) ht2;have k5:Sm [p] GZ (HU G4 t2 (.tup [.str x,.str U,.str X])):=I.trans (k3.trans (k4.trans u5.sm));have R5:=RZ.sm LZ k5;have r5:=LR k5 rZ nrp;have L5':=L4.same u5;have et2:(HU G4 t2 (.tup [.str x,.str U,.str X])) t2=some (.tup [.str x,.str U,.str X]):=A9;generalize HU G4 t2 (.tup [.str x,.str U,.str X])=G5 at k5 R5 r5 L5' et2⊢;refine⟨S,_,_,rfl,rfl,R5.at_,by rw[AA,AA,sizeLine_eq];lia,hD1 _ _ ⟨⟨_,_,_,_,_,rfl⟩,(kZ.trans k5).updN hS,by rw[B8 nrS];exact r5,⟨_,by lia,L5'.upd npS⟩,st ++ [(t2,x,U,X)],?_,?_,λz hz=>?_⟩⟩
     .rw[AF];exact R5.snoc et2
     .rw[AS ne];unfold nT at R⊢;rw[AF,R,C7 Y];rfl
     .rcases AH.mp hz with y | y
      .exact tS z y
      .rw[AC.mp y];exact⟨L,M⟩
    .have e0:u.take g = []:=by
      cases y:u.take g with
      | nil=>rfl
      | cons b r=>rw[y]at h;exact absurd rfl h
     rw[AY e0]at R;exact hD1 _ _ ⟨⟨_,_,_,_,_,rfl⟩,kZ,rZ,⟨_,by lia,LZ⟩,st,RZ,by rw[AY e0];exact R,tS⟩
   .rintro σ G' ⟨⟨v8,v9,v10,v11,J,rfl⟩,kG',er,⟨c9,hc9,L9⟩,st,RS,R,tS⟩;rw[AA,CI]at hc9;have nT':nT st=if u.take g = []then []else u.drop g:=by
     rw[R,AA,BM]
    refine hN7 _ _ (B5 λN8 hN8=>?_);refine⟨BR _,λB hB=>?_⟩;have uB:=CW.new (o:=.lst []) hB;have eB:(HU G' B (.lst [])) B=some (.lst []):=A9;have LB:=L9.same uB;have kB:Sm [p] G' (HU G' B (.lst [])):=uB.sm;have npB:p≠B:=B3 L9.get hB;generalize HU G' B (.lst [])=H9 at eB LB kB⊢;refine hN8 _ _ (B5 λN9 hN9=>?_);have m9:=LR (kG'.trans kB) m6 nmp;refine A7 rfl ⟨m,_,C1 rfl rfl ⟨HY.of m9,B9 (j:=3) rfl,A7 rfl ⟨by lia,by lia,?_⟩⟩⟩;rw[DK];refine U4 (λi σ F=>(∃v8 v9 v11 J,σ = [some (.ref p),some (.int 12),some (.ref m),some (.ref a),some (.ref nm),some (.ref C),some (.ref D),some (.ref S),v8,v9,some (.ref B),v11,J])/\Sm [p] G' F/\(∃c',c'<=c9+2*i/\IH F p c')/\∃ba:A0 IU,F B=some (.lst (P2 ba))/\(∀q∈ba,I9 F q)/\ba.length<=i/\(ba.map λq=>q.2).Nodup/\∀q∈ba,q.2.1∈u.take g/\q.2.2∈u.take g/\q.2.1≠q.2.2) ?_ ?_ ?_
    .exact⟨⟨_,_,_,_,rfl⟩,kB,⟨_,by lia,LB⟩,[],eB,λq h=>absurd h AL,Nat.le_refl _,C_,λq h=>absurd h AL⟩
    .rintro i σ F hi ⟨⟨v8,v9,v11,J,rfl⟩,kF,⟨cF,hcF,LF⟩,ba,eF,pF,lF,nF,tF⟩ D1 hD1 _;have n1p:=Z.one (by lia);have lt1:(u.take g).length=g:=by rw[AO];lia
     have kGF:=kG'.trans kF;have eq0:=LR kGF e6 (LG.ne e6);refine Ya λM1 hM1=>?_;refine A7 rfl (A7 rfl (A7 rfl ⟨C,_,rfl,.inl (HY.of eq0),?_⟩));rw[AA,lt1];refine Y5 (a:=p) rfl LF (by lia) (by lia) (by lia) λd1 F1 hd1 k1 L1=>?_;have e1:=LR k1 eq0 (LF.ne eq0);have hi1:(u.take g)[d1]?=some ((u.take g)[d1]'(by lia)):=AU (by lia);refine⟨C,_,C1 rfl rfl ⟨HY.of e1,B9 (by rw[AG,hi1];rfl),?_⟩⟩;refine A7 rfl (A7 rfl (A7 rfl ⟨C,_,rfl,.inl (HY.of e1),?_⟩));rw[AA];refine Y5 (a:=p) rfl L1 (by lia) (by lia) (by lia) λd2 F2 hd2 I L2=>?_;have e2:=LR I e1 (L1.ne e1);have hi2:(u.take g)[d2]?=some ((u.take g)[d2]'(by lia)):=AU (by lia);refine⟨C,_,C1 rfl rfl ⟨HY.of e2,B9 (by rw[AG,hi2];rfl),by show 2<=sizeLine;decide,λt ht=>?_⟩⟩;have L:=AM hi1;have M:=AM hi2;generalize (u.take g)[d1]'(by lia)=U at L ht⊢;generalize (u.take g)[d2]'(by lia)=X at M ht⊢;have u3:=CW.new (o:=.tup [.str U,.str X]) ht;have k3:Sm [p] F (HU F2 t (.tup [.str U,.str X])):=k1.trans (I.trans u3.sm);have L3:=L2.same u3;have et:(HU F2 t (.tup [.str U,.str X])) t=some (.tup [.str U,.str X]):=A9;have nBp:B≠p:=npB.symm;have eB3:=LR k3 eF nBp;have pB3:∀q∈ba,I9 (HU F2 t (.tup [.str U,.str X])) q:=λq hq=>LR k3 (pF q hq) (LF.neT (pF q hq));generalize HU F2 t (.tup [.str U,.str X])=F3 at k3 L3 et eB3 pB3⊢;have nmt:∀y∈u.take g,K3 y=true:=λy hy=>N4'.1 y (BQ hy);refine hM1 _ _ ?_;have no:∀(J:A6 V),D1.nx [some (.ref p),some (.int 12),some (.ref m),some (.ref a),some (.ref nm),some (.ref C),some (.ref D),some (.ref S),v8,v9,some (.ref B),some (.int (0 +(i:Int))),J] F3:=λJ=>hD1 _ _ ⟨⟨_,_,_,_,rfl⟩,kF.trans k3,⟨_,by lia,L3⟩,ba,eB3,pB3,by lia,nF,tF⟩;refine A7 rfl ⟨t,_,C1 rfl rfl ⟨JC.of et,B9 (j:=0) rfl,A7 rfl ⟨t,_,C1 rfl rfl ⟨JC.of et,B9 (j:=1) rfl,rfl,_,rfl,?_⟩⟩⟩⟩;refine g7 (λh=>?_) (λh=>no _);have ne12:U≠X:=λy=>by rw[y]at h;exact absurd h (by simp)
     refine A7 rfl (A7 rfl (Nr (k:=(U,X)) et eB3 pB3 ⟨O8 (nmt _ L),O8 (nmt _ M)⟩ (λq hq=>⟨O8 (nmt _ (tF q hq).1),O8 (nmt _ (tF q hq).2.1)⟩) ⟨_,rfl,g7 (λh2=>?_) (λh2=>no _)⟩));have nin:(U,X)∉ba.map λq=>q.2:=by simpa using h2
     have lrb:(P2 ba).length=ba.length:=by unfold P2;rw[AA]
     refine A7 rfl ⟨.inl ⟨rfl,_,HY.of eB3⟩,A7 rfl ⟨B,_,_,rfl,rfl,eB3,by rw[lrb,sizeLine_eq];lia,hD1 _ _ ⟨⟨_,_,_,_,rfl⟩,(kF.trans k3).updN hB,⟨_,by lia,L3.upd npB⟩,ba ++ [(t,U,X)],by rw[A9];unfold P2;rw[AF];rfl,λq hq=>?_,by rw[AW];show _+1<=_;lia,?_,λq hq=>?_⟩⟩⟩
     .rcases AH.mp hq with y | y
      .exact(B8 (J8 (pB3 q y) eB3 (by intro z;cases z))).trans (pB3 q y)
      .rw[AC.mp y];exact(B8 (J8 et eB3 (by intro z;cases z))).trans et
     .rw[AF];exact Sv nF nin
     .rcases AH.mp hq with y | y
      .exact tF q y
      .rw[AC.mp y];exact⟨L,M,ne12⟩
    .rintro σ F ⟨⟨v8,v9,v11,J,rfl⟩,kF,⟨cF,hcF,LF⟩,ba,eF,pF,lF,nF,tF⟩;refine hN9 _ _ ?_;refine A7 rfl (A7 rfl (A7 rfl (A7 rfl ⟨by show 4<=sizeLine;decide,λr hr=>?_⟩)));have kGF:=kG'.trans kF;have W:JR F a D S B pe sa st ba:=⟨R6.sm LG kGF,RG.sm LG kGF,λq hq=>LR kGF (O q hq).2.1 (LG.ne (O q hq).2.1),RS.sm L9 kF,eF,pF⟩;have ur:=CW.new (o:=.lst [.ref a,.ref D,.ref S,.ref B]) hr;have lsa:sa.length=g:=by
      have:=congrArg List.length nG;unfold nS at this;rw[AA,AO]at this;lia
     have lst:st.length<=n2:=by
      have:=congrArg List.length nT';unfold nT at this;rw[AA]at this;split at this
      .rw[this];exact BR _
      .rw[CI]at this;lia
     have sub:∀x∈nS sa++nT st,x∈u:=λx Y=>by
      rw[nG,nT']at Y;rcases AH.mp Y with y | y
      .exact BQ y
      .split at y
       .cases y
       .exact DL y
     refine q r a D S B pe sa st ba cF _ (k6.trans (kGF.trans ur.sm)) A9 (W.same ur) ⟨⟨by lia,by lia,by lia,by lia⟩,nd2,ok2,?_,λx Y=>N4'.1 x (sub x Y),λz hz=>(O z hz).2.2.1,λz hz=>⟨(O z hz).2.2.2.1,(O z hz).2.2.2.2.1,Nat.le_trans (O z hz).2.2.2.2.2 (by decide)⟩,λz hz=>?_,nF,λz hz=>by rw[nG];exact tF z hz⟩ (λx Y=>A4 x (sub x Y)) (by lia) (by lia) (LF.same ur) (by lia)
     .rw[nG,nT'];split
      .rename_i e0;rw[e0];exact C_
      .rw[BZ];exact N4'.2.1
     .obtain⟨z1,z2⟩:=tS z hz;rw[nG,nT'];refine⟨z1,?_⟩;have ne:u.take g≠[]:=λy=>by rw[y]at z1;cases z1
      rw[AS ne];rw[<-BZ g u]at z2;exact AH.mp z2
end
def zGa{α:Type}{J:It}{c:A0 α}{r:α->V}(f:α->V){a D:A2}{H:Hp}(as:NE J (c.map r) a H){g:TG}{l:TE}{σ0:St}{Q:St->Hp->Prop}(S:St->Prop)(u:S σ0)(w:c.length<=5000)(m:H D=none)
  (x:∀y∈c,∀σ G,S σ->CW H G->∀(M:St->VK) (N:St->Hp->Prop),(∀σ' j,S σ'->CW G j->M σ' (f y) j)->g (r y) σ G λσ2 z=>V7 σ2 z λb n=>if b=true then l σ2 n (M σ2)else N σ2 n)
  (q:∀σ G,CW H G->G D=some (.lst (c.map f))->Q σ G):Aa g V7 (X3 D l) J σ0 (HU H D (.lst [])) Q:=by
 refine J6 as (λi σ G=>S σ/\CW H G/\G D=some (.lst ((c.take i).map f))) ⟨u,CW.new m,A9⟩ (λi σ G _ h=>h.2.1.at a) ?_ ?_
 .rintro i σ G v N o ⟨A,d,e⟩ B;rw[AG]at o;obtain⟨y,p,rfl⟩:=AV.mp o;have C:=AM p;refine x y C σ G A d (λσ2 v s=>∃c,s D=some (HO.lst c)/\c.length<sizeLine/\N σ2 (HU s D (HO.lst (c ++ [v])))) N λσ' j k t=>⟨_,t _ _ e,?_,B _ _ ⟨k,(d.trans t).upd m,?_⟩⟩
  .rw[AA,AO,sizeLine_eq];lia
  .rw[A9,C7 p,AF];rfl
 .rintro σ G ⟨_,d,e⟩;rw[AA,BM]at e;exact q σ G d e
def Eo:∀{more b:A0 (IL×V)},((b++more).map λk=>k.1).Nodup->K6 b more=b++more
 | [],b,_=>by rw[CB];rfl
 | a::r,b,h=>by
  have e:i7 b a.1 a.2=b ++ [a]:=by
   unfold i7;rw[AS];intro z;obtain⟨k,c,d⟩:=FK.mp z;rw[AF]at h;exact(BU.mp h).2.2 _ (AI.mpr ⟨k,c,rfl⟩) _ (AI.mpr ⟨a,AZ ..,rfl⟩) (BH d)
  show K6 (i7 b a.1 a.2) r=_;rw[e,Eo (by rw[BF];exact h),BF];rfl
def Ie{α:Type}(f:α->Str)(g:α->V)(xs:A0 α)(n:Str):U1 (xs.map λq=>((Sum.inr (f q):IL),g q)) (Sum.inr n) =(xs.find? λq=>decide (f q=n)).map g:=by
 unfold U1;rw[List.find?_map];have e:((λa:IL×V=>decide (a.1=Sum.inr n))∘λq:α=>((Sum.inr (f q):IL),g q))=λq=>decide (f q=n):=by
  funext q;show decide ((Sum.inr (f q):IL)=Sum.inr n)=_;by_cases h:f q=n
  .rw[h,AJ rfl,AJ rfl]
  .rw[BB h,BB λz=>h (Sum.inr.inj z)]
 rw[e];cases xs.find? λq=>decide (f q=n)<;>rfl
def Cw{α:Type}{f:α->Str}{g:α->V}{xs:A0 α}(h:(xs.map f).Nodup):K6 [] (xs.map λq=>((Sum.inr (f q):IL),g q))=xs.map λq=>((Sum.inr (f q):IL),g q):=by
 rw[Eo]
 .rfl
 .rw[List.nil_append,AN];show(xs.map λq=>(Sum.inr (f q):IL)).Nodup;have e:(xs.map λq=>(Sum.inr (f q):IL)) =(xs.map f).map (Sum.inr:Str->IL):=by rw[AN];rfl
  rw[e];exact EM.mpr (h.imp λh z=>h (Sum.inr.inj z))
def Pb(a:A0 JJ)(s:Str):Int:=((a.find? λq=>decide (q.2.1=s)).map λq=>q.2.2).getD 0
def zAu{b:A0 JJ}{ss:A0 Str}(j:(nP b).Nodup)(sub:∀x∈ss,x∈nP b)(t:∀q∈b,0<=q.2.2){m:Int}(k:m∈(0:Int)::ss.map (Pb b))(g:∀a∈(0:Int)::ss.map (Pb b),a<=m):SU b ss=m:=by
 have i:∀q∈b,Pb b q.2.1=q.2.2:=λq c=>by
  obtain⟨y,e,l,o⟩:=Q4 (f:=λq:JJ=>q.2.1) (xs:=b) (n:=q.2.1) (AI.mpr ⟨q,c,rfl⟩);have:y=q:=O4 (f:=λq:JJ=>q.2.1) j l c o;unfold Pb;rw[e,this];rfl
 have u:=g 0 (AZ ..);have p:∀q∈b,q.2.1∈ss->q.2.2<=SU b ss:=λq c d=>Zy (AI.mpr ⟨q,BV.mpr ⟨c,AJ d⟩,rfl⟩);have r:0<=SU b ss:=zBr _;have v:m<=SU b ss:=by
  rcases A_.mp k with rfl | h
  .exact r
  .obtain⟨s,d,rfl⟩:=AI.mp h;obtain⟨q,c,rfl⟩:=AI.mp (sub s d);rw[i q c];exact p q c d
 have w:SU b ss<=m:=by
  rcases Rl ((b.filter λq=>decide (q.2.1∈ss)).map λq=>q.2.2)with e | e
  .have:SU b ss=0:=e;lia
  .obtain⟨q,c,e⟩:=AI.mp e;obtain⟨c,d⟩:=BV.mp c;have:=g (Pb b q.2.1) (AQ _ (AI.mpr ⟨q.2.1,BH d,rfl⟩));rw[i q c]at this;have e:q.2.2=SU b ss:=e;lia
 lia
section
variable{P:Cv}{w:HS}{K:PySem.W.Frag}{mg:Str->A6 A1}{base:HX}
theorem IR:HW ["_law_rows", "_law_name", "_law_ones", "_law_ranks", "_law_found", "_law_said", "_law_kind", "_law_speakers_here"] ["_law_rows", "_law_name"] (B6 MD):=KA
def Yk:Sp:=λi H Q _=>∃(r a b c d:A2) (e:A0 JJ) (f:A0 JK) (st:A0 JD) (g:A0 IU) (n:Str) (v:Int),i = [.ref r,.str n]/\H r=some (.lst [.ref a,.ref b,.ref c,.ref d])/\JR H a b c d e f st g/\PV e f st g/\d9 e f st n=some v/\∀h,CW H h->Q (.int v) h
set_option maxHeartbeats 4000000 in
theorem V5(T:Tx K mg):II P w K mg base JG 1 T.aw.f T.aw.fd ["_law_rows", "_law_name"] Yk:=by
 refine T.aw.F.o1 IR λcdv A outer s H vs Q E hr h=>?_
 .obtain⟨r,a,b,c,d,l,sa,st,ba,n,v,rfl,Y,W,J,Z,q⟩:=h;have hu:=U0 hr;refine⟨_,(B2 (C2 (i:=2) IR.nd rfl (.inl rfl) (V4 An T.bh Bq (A8 (J1 (N':=["_law_row"]) (cap:=[none]) (cl:=[]) (E9 trivial trivial) rfl (JX K (D6 (KL K) (pv 0) B4 (λ_ _=>rfl))) (λ_ _ _ _=>by exact⟨(JQ 0),D8,(J7 (A8 (D6 (LM K) (pv 0) B4 (λ_ _=>rfl)) (A8 (D6 (LM K) (pv 0) B4 (λ_ _=>rfl)) B0)))⟩)) B0)))
   (B2 (C2 (i:=1) IR.nd rfl (.inl rfl) (Y1 hu (pv 2) (pv 1) (pv 1) ⟨rfl,rfl,rfl,rfl⟩))
   (B2 (C2 (i:=3) IR.nd rfl (.inr rfl) (V4 An T.bh Bq (A8 (D6 (KL K) (pv 0) B4 (λ_ _=>rfl)) B0)))
   (B2 (C2 (i:=4) IR.nd rfl (.inl rfl) B4)
   (B2 (P0 PassesOwn.never rfl (JX K (D6 (KL K) (pv 0) B4 (λ_ _=>rfl))) (Q_ K (n:=3) (C6 (E4 (i:=5) IR.nd rfl (.inl rfl)) (C6 (E4 (i:=6) IR.nd rfl (.inl rfl)) (C6 (E4 (i:=7) IR.nd rfl (.inl rfl)) J9))))
   (B7 (K5 (C9 i0 (pv 5) (pv 1) (F6 _)) (B7 (C2 (i:=4) IR.nd rfl (.inl rfl) (F9 V2 (G0 (Zn K) T.b4 Xx (A8 (F9 K4 (F7 (A8 B4 B0)) (J1 (N':=["_law_speaker", "_law_ranks"]) (cap:=[none,some 3]) (cl:=[("_law_ranks",_)]) (E9 ⟨⟨rfl,rfl,rfl,rfl⟩,trivial⟩ ⟨rfl,trivial⟩) rfl (JX K (pv 7)) (λ_ _ _ _=>by exact⟨(JQ 0),D8,(X1 hu (pv 1) (pv 0) (λ_ _=>rfl))⟩))) B0)) (F9 Ch B4 (V4 Gs T.bL Ts (A8 (I0 i0 (pv 6) E3 (F6 _)) B0)))))) E6)))
   (B7 (C3 (pv 4)))))))),?_⟩
  obtain⟨l1,l2,l3,l4⟩:=J.len;refine B5 λN1 hN1=>?_;refine A7 rfl ⟨r,_,C1 rfl rfl ⟨HY.of Y,B9 (j:=2) rfl,c,rfl,⟨_,HY.of W.ht.at_⟩,λD hD=>?_⟩⟩;have as1:=KI (K:=K) (HY.of W.ht.at_);rw[AN]at as1;refine J6 as1 (λi σ G=>(∃v0,σ = [v0])/\CW H G/\∃u:A0 (A2×JD),G D=some (.lst (u.map λq=>V.ref q.1))/\(∀q∈u,G q.1=some (.tup [.str q.2.2.1,.str q.2.2.2.1]))/\(u.map λq=>q.2)=st.take i) ⟨⟨_,rfl⟩,CW.new hD,[],A9,λq h=>absurd h AL,rfl⟩ (λi σ G _ h=>h.2.1.at c) ?_ ?_
  .rintro i σ G v N hx ⟨⟨v0,rfl⟩,sG,u,eG,tG,U⟩ hN;rw[AG]at hx;obtain⟨y,B,rfl⟩:=AV.mp hx;have I:=AM B;have L:=sG _ _ (W.ht.row (rT y) (AI.mpr ⟨y,I,rfl⟩));have O:=congrArg List.length U;rw[AA,AO]at O;refine S3 ?_;refine A7 rfl ⟨y.1,_,C1 rfl rfl ⟨JC.of L,B9 (j:=0) rfl,A7 rfl ⟨y.1,_,C1 rfl rfl ⟨JC.of L,B9 (j:=1) rfl,by show 2<=sizeLine;decide,λt ht=>?_⟩⟩⟩⟩;have ut:=CW.new (o:=.tup [.str y.2.1,.str y.2.2.1]) ht;have ntD:t≠D:=(B3 eG ht).symm;refine⟨_,ut _ _ eG,by rw[AA,sizeLine_eq];lia,hN _ _ ⟨⟨_,rfl⟩,(sG.trans ut).upd hD,u ++ [(t,y)],by rw[A9,AF];rfl,λz R=>?_,by rw[AF,U,C7 B];rfl⟩⟩;rcases AH.mp R with z1 | z1
   .exact(B8 (J8 (tG z z1) eG (by intro z;cases z))).trans (ut _ _ (tG z z1))
   .rw[AC.mp z1];exact(B8 ntD).trans A9
  .rintro σ G ⟨_,sG,u,eG,tG,U⟩;rw[AA,BM]at U;have O:=congrArg List.length U;rw[AA]at O;refine⟨D,u.map λq=>(q.1,(Sum.inr q.2.2.1:IL),V.str q.2.2.2.1),rfl,by rw[AN];exact eG,λz R=>?_,by rw[AA];lia,λX ho1=>?_⟩
   .obtain⟨y,B,rfl⟩:=AI.mp R;exact tG y B
   have em:K6 [] ((u.map λq=>(q.1,(Sum.inr q.2.2.1:IL),V.str q.2.2.2.1)).map λq=>q.2)=st.map λq=>((Sum.inr q.2.1:IL),V.str q.2.2.1):=by
    rw[AN];have e:(u.map ((λq:A2×IL×V=>q.2)∘λq:A2×JD=>(q.1,(Sum.inr q.2.2.1:IL),V.str q.2.2.2.1)))=st.map λq:JD=>((Sum.inr q.2.1:IL),V.str q.2.2.1):=by rw[<-U,AN];rfl
    rw[e];exact Cw (f:=λq:JD=>q.2.1) (BU.mp J.sn).2.1
   rw[em];have u1:=CW.new (o:=.dK (st.map λq:JD=>((Sum.inr q.2.1:IL),V.str q.2.2.1))) ho1;have f1:(HU G X (.dK (st.map λq:JD=>((Sum.inr q.2.1:IL),V.str q.2.2.1)))) X=some (.dK (st.map λq:JD=>((Sum.inr q.2.1:IL),V.str q.2.2.1))):=A9;generalize HU G X (.dK (st.map λq:JD=>((Sum.inr q.2.1:IL),V.str q.2.2.1)))=G1 at u1 f1⊢;have s1:=sG.trans u1;refine hN1 _ _ (B5 λN2 hN2=>?_);obtain⟨m,hm⟩:∃m:Str,m=match O9 st n with | some q=>q.2.2.1 | none=>n:=⟨_,rfl⟩
   have eo:(U1 (st.map λq:JD=>((Sum.inr q.2.1:IL),V.str q.2.2.1)) (Sum.inr n)).getD (.str n) = .str m:=by
    rw[Ie (λq:JD=>q.2.1) (λq=>V.str q.2.2.1),hm];unfold O9;cases st.find? λq=>decide (q.2.1=n)<;>rfl
   have ev':(Fs sa m).map (λq=>Od l q.2.2.1 q.2.2.2.2)=some v:=by
    rw[hm];unfold d9 at Z;cases e:O9 st n with
    | none=>rw[e]at Z;exact Z
    | some z=>rw[e]at Z;exact Z
   obtain⟨y,L,evy⟩:=AV.mp ev';have I:y∈sa:=CG L;have yn:y.2.1=m:=BH (List.find?_some (p:=λq:JK=>decide (q.2.1=m)) L);refine A7 rfl ⟨X,rfl,.inl ⟨_,.inl f1⟩,A7 rfl (A7 rfl ⟨_,KD.k (k:=Sum.inr n) f1,?_⟩)⟩;rw[eo];refine hN2 _ _ (B5 λN3 hN3=>?_);have W1:=W.same s1;refine A7 rfl ⟨r,_,C1 rfl rfl ⟨HY.of (s1 _ _ Y),B9 (j:=0) rfl,a,l.map λq=>(q.1,(Sum.inr q.2.1:IL),V.int q.2.2),rfl,?_,λz R=>?_,by rw[AA];lia,λS ho2=>?_⟩⟩
   .rw[AN];have:=W1.hp.at_;rw[AN]at this;exact this
   .obtain⟨y,B,rfl⟩:=AI.mp R;exact W1.hp.row (rP y) (AI.mpr ⟨y,B,rfl⟩)
   have em2:K6 [] ((l.map λq=>(q.1,(Sum.inr q.2.1:IL),V.int q.2.2)).map λq=>q.2)=l.map λq:JJ=>((Sum.inr q.2.1:IL),V.int q.2.2):=by
    rw[AN];exact Cw (f:=λq:JJ=>q.2.1) (g:=λq:JJ=>V.int q.2.2) J.pn
   rw[em2];have u2:=CW.new (o:=.dK (l.map λq:JJ=>((Sum.inr q.2.1:IL),V.int q.2.2))) ho2;have f2:(HU G1 S (.dK (l.map λq:JJ=>((Sum.inr q.2.1:IL),V.int q.2.2)))) S=some (.dK (l.map λq:JJ=>((Sum.inr q.2.1:IL),V.int q.2.2))):=A9;generalize HU G1 S (.dK (l.map λq:JJ=>((Sum.inr q.2.1:IL),V.int q.2.2)))=G2 at u2 f2⊢;have s2:=s1.trans u2;have W2:=W1.same u2;refine hN3 _ _ (B5 λN4 hN4=>hN4 _ _ (B5 λN5 hN5=>?_));refine A7 rfl ⟨r,_,C1 rfl rfl ⟨HY.of (s2 _ _ Y),B9 (j:=1) rfl,b,rfl,⟨_,HY.of W2.hs.at_⟩,?_⟩⟩;have as2:=KI (K:=K) (HY.of W2.hs.at_);rw[AN]at as2;refine V0 as2 (λi σ F=>(∃f v5 v6 v7,σ = [some (.ref r),some (.str m),some (.ref X),some (.ref S),some (.int f),v5,v6,v7]/\∀q∈sa.take i,q.2.1=m->f=Od l q.2.2.1 q.2.2.2.2)/\CW G2 F) ?_ ?_ ?_ ?_
   .exact⟨⟨_,_,_,_,rfl,λq h=>absurd h AL⟩,λ_ _ e=>e⟩
   .rintro i σ F _ ⟨_,C⟩;exact C.at b
   .rintro i σ F v hv ⟨⟨f,v5,v6,v7,rfl,hf⟩,C⟩ D1 hD1 _;rw[AG]at hv;obtain⟨y,B,rfl⟩:=AV.mp hv;have I:=AM B;have L:=C _ _ (W2.hs.row (rS y) (AI.mpr ⟨y,I,rfl⟩));have esp:=C _ _ (W2.sp y I);obtain⟨sub,nds,len⟩:=J.sk y I;refine⟨y.1,A7 rfl ⟨JC.of L,rfl,_,A7 rfl ⟨_,A7 rfl (C1 rfl rfl ?_)⟩⟩⟩;refine A7 rfl (A7 rfl ⟨rfl,_,rfl,g7 (λh=>?_) (λh=>?_)⟩)
    .have e:y.2.1=m:=by
      have:V.str (rS y).2.1=V.str m:=BH h;cases this;rfl
     refine⟨by show 1<=sizeLine;decide,λz R=>?_⟩;have uz:=CW.new (o:=.lst [.int 0]) R;have fz:(HU F z (.lst [.int 0])) z=some (.lst [.int 0]):=A9;generalize HU F z (.lst [.int 0])=F1 at uz fz⊢;refine A7 rfl ⟨y.2.2.2.1,rfl,⟨_,HY.of (uz _ _ esp)⟩,λD2 hD2=>?_⟩;refine zGa (r:=V.str) (λs:Str=>V.int (Pb l s)) (KI (K:=K) (HY.of (uz _ _ esp))) (λσ=>∃v0,σ = [v0,some (.ref S)]) ⟨_,rfl⟩ (by lia) hD2 ?_ λσ F2 t2 g2=>?_
     .rintro s' hs' σ F' ⟨v0,rfl⟩ sF' M N hM;dsimp only[V7,P9];refine g9 ?_;obtain⟨x,ex,_⟩:=Q4 (f:=λq:JJ=>q.2.1) (sub s' hs');have dg:=KD.k (k:=Sum.inr s') (sF' _ _ (uz _ _ (C _ _ f2)));have Y:Pb l s'=x.2.2:=by unfold Pb;rw[ex];rfl
      rw[Ie (λq:JJ=>q.2.1) (λq=>V.int q.2.2),ex,GO,<-Y]at dg;exact A7 rfl (A7 rfl ⟨S,_,rfl,dg,hM _ _ ⟨_,rfl⟩ λ_ _ z=>z⟩)
     refine⟨z,D2,_,_,rfl,rfl,t2 _ _ fz,g2,?_,λp hp=>?_⟩
     .rw[AA,sizeLine_eq];show 1+_<=_;lia
     have up:=CW.new (o:=.lst ([.int 0]++y.2.2.2.2.map λs=>V.int (Pb l s))) hp;have fp:(HU F2 p (.lst ([.int 0]++y.2.2.2.2.map λs=>V.int (Pb l s)))) p=some (.lst (((0:Int)::y.2.2.2.2.map (Pb l)).map V.int)):=by
      rw[A9,BP,AN];rfl
     generalize HU F2 p (.lst ([.int 0]++y.2.2.2.2.map λs=>V.int (Pb l s)))=F3 at up fp⊢;refine⟨p,_,rfl,HY.of fp,List.cons_ne_nil _ _,λM hM hle=>?_⟩;have eM:=zAu J.pn sub (λq hq=>(J.pm q hq).2.1) hM hle;refine A7 rfl ⟨rfl,.inr ⟨_,rfl,?_⟩⟩;refine C1 rfl rfl ?_;dsimp only;refine⟨.inl ⟨by decide,by decide⟩,?_⟩;refine⟨M,_,rfl,rfl,?_⟩;have ef:∀b:Bool,b=decide (V.str y.2.2.1=V.str "fact")->M+10 *(if b=true then 1 else 0)=Od l y.2.2.1 y.2.2.2.2:=λb hb=>by
      unfold Od;rw[eM,hb];by_cases h:y.2.2.1 = "fact"
      .rw[h,AY rfl,AY (AJ rfl)];rfl
      .rw[AS h,AS λz=>h (by have:=BH z;exact V.str.inj this)];lia
     have:=hD1 [some (.ref r),some (.str m),some (.ref X),some (.ref S),some (.int (Od l y.2.2.1 y.2.2.2.2)),some (.str y.2.1),some (.str y.2.2.1),some (.ref y.2.2.2.1)] F3 ⟨⟨_,_,_,_,rfl,λq hq en=>?_⟩,((C.trans uz).trans t2).trans up⟩
     .rw[<-ef _ rfl]at this;exact this
     .have mq:q∈sa:=BQ hq;rw[O4 (f:=λq:JK=>q.2.1) (BU.mp J.sn).1 mq I (en.trans e.symm)]
    .have e:¬y.2.1=m:=λz=>h (AJ (by show V.str y.2.1=V.str m;rw[z]));refine hD1 _ _ ⟨⟨_,_,_,_,rfl,λq hq en=>?_⟩,C⟩;rw[C7 B]at hq;rcases AH.mp hq with hq | hq
     .exact hf q hq en
     .rw[AC.mp hq]at en;exact absurd en e
   .rintro σ F ⟨⟨f,v5,v6,v7,rfl,hf⟩,C⟩;rw[AA,BM]at hf;have:=q F (s2.trans C);rw[<-evy,<-hf y I yn]at this;exact hN5 _ _ (A7 rfl this)
theorem Ko:HW ["_law_rows"] ["_law_rows"] (B6 PJ):=KA
def Wi:Sp:=λj H Q _=>∃(r a b c d:A2) (e:A0 JJ) (f:A0 JK) (st:A0 JD) (i:A0 IU),j = [.ref r]/\H r=some (.lst [.ref a,.ref b,.ref c,.ref d])/\JR H a b c d e f st i/\PV e f st i/\∀(l:A2) (g:A0 Str) h,CW H h->H l=none->h l=some (.lst (g.map V.str))->g.Perm (nT (OV e f st))->g.Pairwise QL->Q (.ref l) h
set_option maxHeartbeats 2000000 in
theorem Kf(T:Tx K mg):II P w K mg base JG 2 T.bd.f T.bd.fd ["_law_rows"] Wi:=by
 refine T.bd.F.o1 Ko λY A p s H vs Q E C h=>?_
 .obtain⟨r,a,b,c,d,i,k,st,I,rfl,t,W,e,q⟩:=h;refine⟨_,(B7 (C3 (G0 (O7 K) T.ag J0 (A8 (J1 (N':=["_law_row", "_law_rows"]) (cap:=[none,some 0]) (cl:=[("_law_rows",_)]) (E9 ⟨⟨rfl,rfl,rfl,rfl⟩,trivial⟩ ⟨rfl,trivial⟩) rfl (JX K (D6 (KL K) (pv 0) B4 (λ_ _=>rfl))) (λ_ _ _ _=>by exact⟨(JQ 0),(J5 (C9 zAa (C8 T.aw (V5 T) (Rm C) (A8 (pv 1) (A8 (D6 (LM K) (pv 0) B4 (λ_ _=>rfl)) B0))) (C8 T.aw (V5 T) (Rm C) (A8 (pv 1) (A8 (D6 (LM K) (pv 0) B4 (λ_ _=>rfl)) B0))) (F6 _))),(D6 (LM K) (pv 0) B4 (λ_ _=>rfl))⟩)) B0)))),?_⟩;obtain⟨l1,l2,l3,l4⟩:=e.len;refine A7 rfl ⟨r,_,C1 rfl rfl ⟨HY.of t,B9 (j:=2) rfl,c,rfl,⟨_,HY.of W.ht.at_⟩,λD Z=>?_⟩⟩;have m:=KI (K:=K) (HY.of W.ht.at_);rw[AN]at m;refine Jt (λq:JD=>V.str q.2.1) (λq:JD=>decide ((d9 i k st q.2.1).getD 0 ≥ (d9 i k st q.2.2.2).getD 0)) m (λσ=>∃J,σ = [J,some (.ref r)]) ⟨_,rfl⟩ (by lia) Z ?_ λσ H1 L e1=>?_
  .rintro y x σ G ⟨J,rfl⟩ o M N O R;have z:=o _ _ (W.ht.row (rT y) (AI.mpr ⟨y,x,rfl⟩));obtain⟨v,S⟩:=e.strong (n:=y.2.1) (.inr (AI.mpr ⟨y,x,rfl⟩));obtain⟨u,U⟩:=e.strong (n:=y.2.2.2) (e.tg y x).2;refine A7 rfl (A7 rfl ⟨y.1,_,C1 rfl rfl ⟨JC.of z,B9 (j:=0) rfl,r,a,b,c,d,i,k,st,I,y.2.1,v,rfl,o _ _ t,W.same o,e,S,λG1 g=>?_⟩⟩);refine A7 rfl (A7 rfl ⟨y.1,_,C1 rfl rfl ⟨JC.of (g _ _ z),B9 (j:=2) rfl,r,a,b,c,d,i,k,st,I,y.2.2.2,u,rfl,g _ _ (o _ _ t),(W.same o).same g,e,U,λG2 B=>?_⟩⟩);rw[S,U]at O R;exact C1 rfl rfl ⟨_,rfl,g7 (λh=>A7 rfl ⟨y.1,_,C1 rfl rfl ⟨JC.of (B _ _ (g _ _ z)),B9 (j:=0) rfl,O _ _ ⟨_,rfl⟩ (g.trans B) h⟩⟩) (λh=>R _ _ ⟨_,rfl⟩ (g.trans B) (DG.mpr h))⟩
  refine⟨D,nT (OV i k st),rfl,HY.of (by rw[e1];unfold nT OV;rw[AN];rfl),λl ms X pm sr=>?_⟩;exact q l ms _ (L.trans (CW.new X)) (MT L.sm AL X) A9 pm sr
end
structure MI(ba:A0 IU)(ns:A0 Str)(n:Str)(met:A0 Str)(i:Nat):Prop where
 nd:met.Nodup
 hd:∃r,met=n::r
 sub:∀x∈met,x∈ns
 rch:∀x∈met,QV (z9 ba) [n] x
 cl:∀x∈met.take i,∀y∈z9 ba x,y∈met
 le:i<=met.length
def MI.step{c:A0 IU}{ns met ts:A0 Str}{n x:Str}{i:Nat}(h:MI c ns n met i)(j:met[i]?=some x)(g:ts.Perm (z9 c x))(l:(z9 c x).Nodup)(sub:∀y∈z9 c x,y∈ns):MI c ns n (met++ts.filter λy=>!decide (y∈met)) (i+1):=by
 obtain⟨r,o⟩:=h.hd;have s:=(AR.mp j).1;have mx:=AM j;refine⟨?_,⟨r++_,by rw[o];rfl⟩,λy d=>?_,λy d=>?_,λy d z f=>?_,by rw[AW];lia⟩
 .refine BU.mpr ⟨h.nd,(g.nodup_iff.mpr l).sublist ES,λa p b q e=>?_⟩;have:=(BV.mp q).2;rw[<-e,AJ p]at this;cases this
 .rcases AH.mp d with m | m
  .exact h.sub y m
  .exact sub y (g.mem_iff.mp (BV.mp m).1)
 .rcases AH.mp d with m | m
  .exact h.rch y m
  .exact(h.rch x mx).step (g.mem_iff.mp (BV.mp m).1)
 .rw[FL (by lia),C7 j]at d;have k:∀z∈z9 c x,z∈met++ts.filter λy=>!decide (y∈met):=λz f=>by
   by_cases e:z∈met
   .exact BS _ e
   .exact BJ _ (BV.mpr ⟨g.mem_iff.mpr f,by rw[BB e];rfl⟩)
  rcases AH.mp d with m | m
  .exact BS _ (h.cl y m z f)
  .rw[AC.mp m]at f;exact k z f
def MI.fin{b:A0 IU}{ns met:A0 Str}{n:Str}{i:Nat}(h:MI b ns n met i)(hi:met.length<=i)(x:Str):x∈met↔QV (z9 b) [n] x:=by
 refine⟨h.rch x,λr=>?_⟩;obtain⟨t,c⟩:=h.hd;refine r (·∈met) (λy a=>by rw[AC.mp a,c];exact AZ ..) λy z a d=>h.cl y (by rw[CT hi];exact a) z d
def MI.len{a:A0 IU}{ns met:A0 Str}{n:Str}{i:Nat}(h:MI a ns n met i):met.length<=ns.length:=U3 h.nd h.sub
section
variable{P:Cv}{w:HS}{K:PySem.W.Frag}{mg:Str->A6 A1}{base:HX}
theorem JI:HW ["_law_rows", "_law_name", "_law_met", "_law_at", "_law_some"] ["_law_rows", "_law_name"] (B6 NS):=KA
def Ng:Sp:=λj H Q _=>∃(r a b c d:A2) (h:A0 JJ) (e:A0 JK) (st:A0 JD) (f:A0 IU) (n:Str),j = [.ref r,.str n]/\H r=some (.lst [.ref a,.ref b,.ref c,.ref d])/\JR H a b c d h e st f/\PV h e st f/\n∈nS e/\∀(l:A2) (i:A0 Str) g,CW H g->H l=none->g l=some (.lst (i.map V.str))->SZ f n i->Q (.ref l) g
set_option maxHeartbeats 4000000 in
theorem Ek(T:Tx K mg):II P w K mg base JG 1 T.aX.f T.aX.fd ["_law_rows", "_law_name"] Ng:=by
 refine T.aX.F.o1 JI λcdv A outer s H vs Q E hr h=>?_
 .obtain⟨r,a,b,c,d,pe,R,st,C,n,rfl,er,W,ok,hn,q⟩:=h;have hu:=U0 hr;refine⟨_,(B2 (C2 (i:=2) JI.nd rfl (.inr rfl) (F7 (A8 (pv 1) B0)))
   (B2 (C2 (i:=3) JI.nd rfl (.inr rfl) B4)
   (B2 (Aq PassesOwn.never (C9 zBn (pv 3) (G0 (U2 K) T.ap Q5 (A8 (pv 2) B0)) (F6 _)) (B2 (C2 (i:=4) JI.nd rfl (.inl rfl) (G0 (Er w) T.ag J0 (A8 (V4 (Kv K w) T.bi Cu (A8 (J1 (N':=["_law_row", "_law_met", "_law_at"]) (cap:=[none,some 2,some 3]) (cl:=[("_law_met",_),("_law_at",_)]) (E9 ⟨⟨rfl,rfl,rfl,rfl⟩,⟨⟨rfl,rfl,rfl,rfl⟩,trivial⟩⟩ ⟨rfl,⟨rfl,trivial⟩⟩) rfl (JX K (D6 (KL K) (pv 0) B4 (λ_ _=>rfl))) (λ_ _ _ _=>by exact⟨(JQ 0),(J5 (C9 i0 (D6 (LM K) (pv 0) B4 (λ_ _=>rfl)) (D6 (KL K) (pv 1) (pv 2) (λ_ _=>rfl)) (F6 _))),(D6 (LM K) (pv 0) B4 (λ_ _=>rfl))⟩)) B0)) B0)))
   (B2 (C2 (i:=2) JI.nd rfl (.inr rfl) (F9 K4 (pv 2) (J1 (N':=["_law_one", "_law_met"]) (cap:=[none,some 2]) (cl:=[("_law_met",_)]) (E9 ⟨⟨rfl,rfl,rfl,rfl⟩,trivial⟩ ⟨rfl,trivial⟩) rfl (JX K (pv 4)) (λ_ _ _ _=>by exact⟨(JQ 0),(J5 (C9 (S2 K) (pv 0) (pv 1) rfl)),(pv 0)⟩))))
   (B7 (C2 (i:=3) JI.nd rfl (.inr rfl) (F9 V2 (pv 3) B4))))))
   (B7 (C3 (G0 (O7 K) T.ag J0 (A8 (o0 (slL K) (pv 2) (Bc B4) Ba) B0))))))),?_⟩
  obtain⟨l1,l2,l3,l4⟩:=ok.len;refine B5 λN1 hN1=>?_;refine A7 rfl ⟨by show 1<=sizeLine;decide,λM J=>?_⟩;have uM:=CW.new (o:=.lst [.str n]) J;have eM:(HU H M (.lst [.str n])) M=some (.lst (([n]:A0 Str).map V.str)):=A9;generalize HU H M (.lst [.str n])=H1 at uM eM⊢;refine hN1 _ _ (B5 λN2 hN2=>hN2 _ _ (B5 λN3 hN3=>?_));have lns:(nS R).length=R.length:=by unfold nS;rw[AA]
  refine⟨λm σ G=>∃(i:Nat) (L:A2) (met:A0 Str) (v4:A6 V),σ = [some (.ref r),some (.str n),some (.ref L),some (.int (i:Int)),v4]/\m=R.length-i/\CW H G/\G L=some (.lst (met.map V.str))/\MI C (nS R) n met i,
   ⟨_,0,M,[n],none,rfl,rfl,uM,eM,⟨B_.mpr ⟨AL,C_⟩,⟨[],rfl⟩,λx u=>by rw[AC.mp u];exact hn,λx u=>.of u,λx u=>absurd u AL,BR _⟩⟩,?_⟩
  rintro m σ G ⟨i,L,met,v4,rfl,rfl,S,U,I⟩;have len:=I.len;have lei:=I.le;refine A7 rfl (A7 rfl (C1 (a:=L) rfl (.inl (HY.of U)) (C1 rfl rfl ?_)));rw[AA];refine⟨_,rfl,g7 (λh=>?_) (λh=>?_)⟩
  .have hi:i<met.length:=by
    have:(i:Int) <(met.length:Int):=BH h;lia
   have u:met[i]?=some (met[i]'hi):=AU hi;have X:=I.sub _ (AM u);generalize met[i]'hi=x at u X;refine⟨_,λ_ _ z=>z,B5 λZ1 hZ1=>?_⟩;have WG:=W.same S;refine A7 rfl ⟨r,_,C1 rfl rfl ⟨HY.of (S _ _ er),B9 (j:=3) rfl,d,rfl,⟨_,HY.of WG.hb⟩,λD hD=>?_⟩⟩;refine Jt (λq:IU=>V.str q.2.1) (λq:IU=>decide (q.2.2=x)) (KI (K:=K) (HY.of WG.hb)) (λσ=>∃v0,σ = [v0,some (.ref L),some (.int (i:Int))]) ⟨_,rfl⟩ (by lia) hD ?_ λσ H2 s2 e2=>?_
   .rintro y Y σ G1 ⟨v0,rfl⟩ k M N J hN;have ey:=k _ _ (WG.pb y Y);refine A7 rfl ⟨y.1,_,C1 rfl rfl ⟨JC.of ey,B9 (j:=1) rfl,A7 rfl (A7 rfl ⟨L,_,C1 rfl rfl ⟨HY.of (k _ _ U),B9 (by rw[AG,u];rfl),rfl,_,rfl,?_⟩⟩)⟩⟩;refine g7 (λh=>A7 rfl ⟨y.1,_,C1 rfl rfl ⟨JC.of ey,B9 (j:=0) rfl,J _ _ ⟨_,rfl⟩ (λ_ _ z=>z) (AJ ?_)⟩⟩) (λh=>hN _ _ ⟨_,rfl⟩ (λ_ _ z=>z) (BB λe=>h ?_))
    .exact V.str.inj (BH h)
    .exact AJ (by rw[e])
   have e2:H2 D=some (.lst ((z9 C x).map V.str)):=by rw[e2];unfold z9;rw[AN];rfl
   have O:=Vq ok.bn x;have lb:=U3 O λy Y=>Mr ok x y Y;refine⟨D,z9 C x,rfl,.inl (HY.of e2),O,by lia,λp hp=>?_⟩;have up:=CW.new (o:=Y8 w p (z9 C x)) hp;refine⟨p,z9 C x,rfl,A9,λt v ht Z so=>?_⟩;have ut:=CW.new (o:=.lst (v.map V.str)) ht;have et:(HU (HU H2 p (Y8 w p (z9 C x))) t (.lst (v.map V.str))) t=some (.lst (v.map V.str)):=A9;have s3:=(s2.trans up).trans ut;generalize HU (HU H2 p (Y8 w p (z9 C x))) t (.lst (v.map V.str))=H3 at s3 et⊢;refine hZ1 _ _ (B5 λZ2 hZ2=>?_);refine A7 rfl (A7 rfl ⟨t,rfl,⟨_,HY.of et⟩,λD2 hD2=>?_⟩);have lts:v.length<=30:=by rw[Z.length_eq];lia
   refine Uv (r:=V.str) V.str (KI (K:=K) (HY.of et)) (λy=>!decide (y∈met)) (by lia) hD2 (λy my G1 k M J=>?_) (λy my G1 k M J=>A7 rfl J) λσ' H4 s4 e4=>?_
   .exact A7 rfl (A7 rfl (K8 (.inl (HY.of (k _ _ (s3 _ _ U)))) ⟨_,rfl,J G1 λb o e=>e⟩))
   have lf:=BO (λy=>!decide (y∈met)) v;refine⟨L,D2,_,_,rfl,rfl,s4 _ _ (s3 _ _ U),e4,by rw[AA,AA,sizeLine_eq];lia,λL2 hL2=>?_⟩;have u5:=CW.new (o:=.lst (met.map V.str ++(v.filter λy=>!decide (y∈met)).map V.str)) hL2;have e5:(HU H4 L2 (.lst (met.map V.str ++(v.filter λy=>!decide (y∈met)).map V.str))) L2=some (.lst ((met++v.filter λy=>!decide (y∈met)).map V.str)):=by rw[A9,AF]
   refine hZ2 _ _ ?_;refine A7 rfl (C1 rfl rfl ?_);refine⟨R.length-(i+1),by lia,i+1,L2,_,_,rfl,rfl,((S.trans s3).trans s4).trans u5,e5,I.step u Z O λy Y=>Mr ok x y Y⟩
  .have hi:met.length<=i:=by
    have:¬(i:Int) <(met.length:Int):=λz=>h (AJ z);lia
   refine hN3 _ _ ?_;obtain⟨B,g⟩:=I.hd;refine A7 rfl ⟨_,rfl,L,_,rfl,HY.of U,λp hp=>?_⟩;have up:=CW.new (o:=.lst (Ao (met.map V.str) (some (1:Int)) none)) hp;have ep:(HU G p (.lst (Ao (met.map V.str) (some (1:Int)) none))) p=some (.lst (B.map V.str)):=by
    rw[A9,show(1:Int) =((1:Nat):Int)from rfl,Ms _ _ (by rw[AA,g,BK];lia),g];rfl
   refine⟨p,B,rfl,HY.of ep,λl ms hl Z so=>?_⟩;have O:=I.nd;rw[g,B_]at O;refine q l ms _ ((S.trans up).trans (CW.new hl)) ((S.trans up).free hl) A9 ⟨Z.nodup_iff.mpr O.2,so,λx=>?_⟩;rw[Z.mem_iff,<-I.fin hi x,g,A_];refine⟨λh=>⟨.inr h,λe=>O.1 (e▸h)⟩,λ⟨h,e⟩=>h.resolve_left e⟩
theorem Jd:HW ["_law_rows", "_law_goal"] ["_law_rows", "_law_goal"] (B6 PL):=KA
def Wu:Sp:=λk H Q _=>∃(r a b c d:A2) (i:A0 JJ) (e:A0 JK) (st:A0 JD) (f:A0 IU) (g:Str),k = [.ref r,.str g]/\H r=some (.lst [.ref a,.ref b,.ref c,.ref d])/\JR H a b c d i e st f/\PV i e st f/\∀(l:A2) (j:A0 Str) h,CW H h->H l=none->h l=some (.lst (j.map V.str))->SD e f g j->Q (.ref l) h
set_option maxHeartbeats 4000000 in
theorem Iz(T:Tx K mg):II P w K mg base JG 2 T.be.f T.be.fd ["_law_rows", "_law_goal"] Wu:=by
 refine T.be.F.o1 Jd λcdv A u s H vs Q E hr h=>?_
 .obtain⟨r,a,b,c,d,pe,m,st,ba,g,rfl,S,W,v,q⟩:=h;refine⟨_,(B2 (K5 (C9 (U9 K) (pv 1) (J1 (N':=["_law_row"]) (cap:=[none]) (cl:=[]) (E9 trivial trivial) rfl (JX K (D6 (KL K) (pv 0) B4 (λ_ _=>rfl))) (λ_ _ _ _=>by exact⟨(JQ 0),D8,(D6 (LM K) (pv 0) B4 (λ_ _=>rfl))⟩)) rfl) (B7 (C3 (G0 (O7 K) T.ag J0 (A8 (F9 K4 (F7 (A8 (pv 1) B0)) (C8 T.aX (Ek T) (Rm hr) (A8 (pv 0) (A8 (pv 1) B0)))) B0)))) E6)
   (B7 (C3 (F7 (A8 (pv 1) B0))))),?_⟩
  obtain⟨l1,l2,l3,l4⟩:=v.len;refine B5 λN1 x=>?_;refine A7 rfl (A7 rfl ⟨r,_,C1 rfl rfl ⟨HY.of S,B9 (j:=1) rfl,b,rfl,⟨_,HY.of W.hs.at_⟩,λD hD=>?_⟩⟩);refine Bw (r:=λq:RW=>V.ref q.1) (λq=>V.str q.2.1) (KI (HY.of W.hs.at_)) (λ_=>true) (by rw[AA];lia) hD (λy U G X M C=>C G λb o e=>e) (λy U G X M C=>?_) λσ' I J L=>?_
  .exact A7 rfl ⟨y.1,_,C1 rfl rfl ⟨JC.of (X _ _ (W.hs.row y U)),B9 (j:=0) rfl,C G λb o e=>e⟩⟩
  have L:I D=some (.lst ((nS m).map V.str)):=by
   rw[L,CV.mpr λ_ _=>rfl,AN];unfold nS;rw[AN];rfl
  refine J3 (.inl (HY.of L)) ⟨_,rfl,g7 (λh=>?_) (λh=>?_)⟩
  .have i:g∈nS m:=BH h;refine A7 rfl ⟨by show 1<=sizeLine;decide,λo n=>?_⟩;have Y:=CW.new (o:=.lst [.str g]) n;have Z:(HU I o (.lst [.str g])) o=some (.lst [.str g]):=A9;generalize HU I o (.lst [.str g])=H2 at Y Z⊢;have N:=J.trans Y;refine A7 rfl (A7 rfl ⟨r,a,b,c,d,pe,m,st,ba,g,rfl,N _ _ S,W.same N,v,i,λl t H3 s3 hl e3 B=>?_⟩);have lm:t.length<=30:=by
    have:=U3 B.nd λz hz=>Pn v i ((B.mem z).mp hz).1;unfold nS at this;rw[AA]at this;lia
   refine⟨o,l,_,_,rfl,rfl,s3 _ _ Z,e3,by rw[AA,sizeLine_eq];show 1+_<=_;lia,λp hp=>?_⟩;have up:=CW.new (o:=.lst ([.str g]++t.map V.str)) hp;refine⟨p,g::t,rfl,HY.of (by rw[A9];rfl),λl' O k pm so=>?_⟩;have s5:=(N.trans s3).trans up;have R:g∉t:=λz=>((B.mem _).mp z).2 rfl;refine q l' O _ (s5.trans (CW.new k)) (s5.free k) A9 ⟨pm.nodup_iff.mpr (B_.mpr ⟨R,B.nd⟩),so,λz=>?_⟩;rw[pm.mem_iff,AY i,A_,B.mem];refine⟨λh=>h.elim (λh=>h▸ .of (AC.mpr rfl)) λh=>h.1,λh=>?_⟩;by_cases e:z=g
   .exact .inl e
   .exact .inr ⟨h,e⟩
  .have i:g∉nS m:=λz=>h (AJ z);refine x _ _ (A7 rfl ⟨by show 1<=sizeLine;decide,λo n=>?_⟩);refine q o [g] _ (J.trans (CW.new n)) (J.free n) A9 ⟨B_.mpr ⟨AL,C_⟩,GS _ _,λz=>?_⟩;rw[AS i,AC]
end
def Dg{y:Str}:∀{xs l:A0 Str},y∈P1 l xs↔y∈l\/y∈xs
 | [],l=>by simp[P1]
 | x::xs,l=>by
  show y∈P1 (Nl l x) xs↔_;rw[Dg];have:y∈Nl l x↔y∈l\/y=x:=by
   unfold Nl;by_cases h:x∈l
   .rw[AY h];exact⟨.inl,λz=>z.elim id λe=>e▸h⟩
   .rw[AS h,AH,AC]
  rw[this,A_,or_assoc]
def Il:∀{xs l:A0 Str},l.Nodup->(P1 l xs).Nodup
 | [],l,h=>h
 | x::xs,l,h=>by
  show(P1 (Nl l x) xs).Nodup;refine Il ?_;unfold Nl;by_cases c:x∈l
  .rw[AY c];exact h
  .rw[AS c];exact BU.mpr ⟨h,by simp,λa d b e z=>c (by rw[AC.mp e]at z;exact z▸d)⟩
def Zl{K:PySem.W.Frag}{l D:A2}{ts:A0 Str}{n:Str}{b:Hp}{g:A6 V}{Q:St->Hp->Prop}(e:b l=some (.lst (ts.map V.str)))(x:ts.length<=1000)(s:b D=none)
  (q:∀σ G (a:A0 IU),CW b G->G D=some (.lst (P2 a))->(∀q∈a,I9 G q)->(a.map λq=>q.2) =(ts.map λo=>(n,o))->Q σ G) :
  Aa (P9 0) V7 (X3 D (UU (Bz (Jw 1) (Bz (Jw 0) Ul)))) (SM K l) [g,some (.str n)] (HU b D (.lst [])) Q:=by
 refine J6 (KI (K:=K) (HY.of e)) (λj σ F=>(∃g,σ = [g,some (.str n)])/\CW b F/\∃a:A0 IU,F D=some (.lst (P2 a))/\(∀q∈a,I9 F q)/\(a.map λq=>q.2) =(ts.take j).map λo=>(n,o)) ⟨⟨_,rfl⟩,CW.new s,[],A9,λq h=>absurd h AL,rfl⟩ (λi σ G _ h=>h.2.1.at l) ?_ ?_
 .rintro j σ F v C u ⟨⟨g,rfl⟩,m,a,c,k,d⟩ p;rw[AG]at u;obtain⟨o,y,rfl⟩:=AV.mp u;refine S3 (A7 rfl (A7 rfl ⟨by show 2<=sizeLine;decide,λt w=>?_⟩));have f:=CW.new (o:=.tup [.str n,.str o]) w;have r:t≠D:=(B3 c w).symm;have A:a.length<=1000:=by
   have:=congrArg List.length d;rw[AA,AA,AO]at this;lia
  refine⟨_,f _ _ c,by unfold P2;rw[AA,sizeLine_eq];lia,p _ _ ⟨⟨_,rfl⟩,(m.trans f).upd s,a ++ [(t,n,o)],by rw[A9];unfold P2;rw[AF];rfl,λz B=>?_,by rw[AF,d,C7 y,AF];rfl⟩⟩;rcases AH.mp B with h | h
  .exact(B8 (J8 (f _ _ (k z h)) (f _ _ c) (by intro z;cases z))).trans (f _ _ (k z h))
  .rw[AC.mp h];exact(B8 r).trans A9
 .rintro σ F ⟨_,m,a,c,k,d⟩;rw[AA,BM]at d;exact q σ F a m c k d
section
variable{P:Cv}{w:HS}{K:PySem.W.Frag}{mg:Str->A6 A1}{base:HX}
theorem IY:HW ["_law_rows", "_law_live_here", "_law_names", "_law_pairs", "_law_name", "_law_one", "_law_goal", "_law_hit", "_law_some"] ["_law_rows"] (B6 OK):=KA
def Uj:Sp:=λl H Q _=>∃(r a b c d:A2) (h:A0 JJ) (f:A0 JK) (st:A0 JD) (j:A0 IU),l = [.ref r]/\H r=some (.lst [.ref a,.ref b,.ref c,.ref d])/\JR H a b c d h f st j/\PV h f st j/\f.length<=12/\st.length<=12 /\
 ∀(t n m:A2) (i:A0 Str) (g:A0 IU) e,CW H e->e t=some (.tup [.ref n,.ref m])->e n=some (.lst (i.map V.str))->i.Perm (Ak h f st)->i.Pairwise QL->e m=some (.lst (P2 g))->(∀q∈g,I9 e q)->OC i g->g.Pairwise US->(∀k,k∈(g.map λq=>q.2)↔Um h f st j k)->Q (.ref t) e
set_option maxHeartbeats 4000000 in
theorem Gm(T:Tx K mg):II P w K mg base JG 3 T.a6.f T.a6.fd ["_law_rows"] Uj:=by
 refine T.a6.F.o1 IY λcdv A outer s H vs Q E hr h=>?_
 .obtain⟨r,a,b,c,d,pe,l,st,ba,rfl,er,W,Z,s12,t12,q⟩:=h;have hu:=U0 hr;refine⟨_,(B2 (C2 (i:=1) IY.nd rfl (.inr rfl) (C8 T.bd (Kf T) (Rm hr) (A8 (pv 0) B0)))
   (B2 (C2 (i:=2) IY.nd rfl (.inr rfl) (F9 K4 (J1 (N':=["_law_row"]) (cap:=[none]) (cl:=[]) (E9 trivial trivial) rfl (JX K (D6 (KL K) (pv 0) B4 (λ_ _=>rfl))) (λ_ _ _ _=>by exact⟨(JQ 0),D8,(D6 (LM K) (pv 0) B4 (λ_ _=>rfl))⟩)) (pv 1)))
   (B2 (C2 (i:=3) IY.nd rfl (.inl rfl) (F7 B0))
   (B2 (P0 PassesOwn.never rfl (JX K (D6 (KL K) (pv 0) B4 (λ_ _=>rfl))) (Q_ K (n:=3) (C6 (E4 (i:=4) IY.nd rfl (.inr rfl)) (C6 (E4 (i:=5) IY.nd rfl (.inl rfl)) (C6 (E4 (i:=6) IY.nd rfl (.inl rfl)) J9))))
   (B7 (K5 (C9 (U9 K) (pv 4) (pv 1) rfl) (B2 (C2 (i:=7) IY.nd rfl (.inr rfl) (C8 T.be (Iz T) (Rm hr) (A8 (pv 0) (A8 (pv 6) B0))))
   (B2 (U8 (i:=8) (N':=["_law_other", "_law_names"]) (cap:=[none,some 2]) (cl:=[("_law_names",_)]) IY.nd rfl (.inl rfl) (E9 ⟨⟨rfl,rfl,rfl,rfl⟩,trivial⟩ ⟨rfl,trivial⟩) rfl (JX K (pv 7)) (λ_ _ _ _=>by exact⟨(JQ 0),(J5 (C9 (U9 K) (pv 0) (pv 1) rfl)),(pv 0)⟩))
   (B2 (C2 (i:=8) IY.nd rfl (.inl rfl) (F9 K4 (pv 8) (J1 (N':=["_law_row", "_law_live_here", "_law_hit"]) (cap:=[none,some 1,some 7]) (cl:=[("_law_live_here",_),("_law_hit",_)]) (E9 ⟨⟨rfl,rfl,rfl,rfl⟩,⟨⟨rfl,rfl,rfl,rfl⟩,trivial⟩⟩ ⟨rfl,⟨rfl,trivial⟩⟩) rfl (JX K (D6 (KL K) (pv 0) B4 (λ_ _=>rfl))) (λ_ _ _ _=>by exact⟨(JQ 0),(J5 (PW.pt (Ds (C9 (U9 K) (D6 (LM K) (pv 0) B4 (λ_ _=>rfl)) (pv 1) rfl) (w9 (C9 (U9 K) (D6 (LM K) (pv 0) B4 (λ_ _=>rfl)) (pv 2) rfl))))),(D6 (LM K) (pv 0) B4 (λ_ _=>rfl))⟩))))
   (B7 (G9 (Ln K PySem.F.plainAttrs_list PySem.F.slot_list_extend PySem.F.type_list_extend Go (pv 3) (A8 (J1 (N':=["_law_other", "_law_name"]) (cap:=[none,some 4]) (cl:=[("_law_name",_)]) (E9 ⟨⟨rfl,rfl,rfl,rfl⟩,trivial⟩ ⟨rfl,trivial⟩) rfl (JX K (G0 (Er w) T.ag J0 (A8 (V4 (Uo K w) T.bi Cu (A8 (pv 8) B0)) B0))) (λ_ _ _ _=>by exact⟨(JQ 0),D8,(J7 (A8 (pv 1) (A8 (pv 0) B0)))⟩)) B0))))))) E6)))
   (B7 (C3 (J7 (A8 (G0 (O7 K) T.ag J0 (A8 (pv 2) B0)) (A8 (G0 (Ml K) T.ag J0 (A8 (pv 3) B0)) B0))))))))),?_⟩
  obtain⟨l1,l2,l3,l4⟩:=Z.len;refine B5 λN1 hN1=>?_;refine A7 rfl ⟨r,a,b,c,d,pe,l,st,ba,rfl,er,W,Z,λcl g H1 s1 hcl C pm1 so1=>?_⟩;have lC:g.length<=st.length:=by
   rw[pm1.length_eq];have:=(o9 pe l st).length_le;unfold nT at this⊢;rw[AA,AA]at this;rw[AA];exact this
  have W1:=W.same s1;refine hN1 _ _ (B5 λN2 hN2=>?_);refine A7 rfl ⟨r,_,C1 rfl rfl ⟨HY.of (s1 _ _ er),B9 (j:=1) rfl,b,rfl,⟨_,HY.of W1.hs.at_⟩,λD hD=>?_⟩⟩;refine Bw (r:=λq:RW=>V.ref q.1) (λq=>V.str q.2.1) (KI (HY.of W1.hs.at_)) (λ_=>true) (by rw[AA];lia) hD (λy my G x M I=>I G λb o e=>e) (λy my G x M I=>?_) λσ' H2 s2 e2=>?_
  .exact A7 rfl ⟨y.1,_,C1 rfl rfl ⟨JC.of (x _ _ (W1.hs.row y my)),B9 (j:=0) rfl,I G λb o e=>e⟩⟩
  have e2:H2 D=some (.lst ((nS l).map V.str)):=by
   rw[e2,CV.mpr λ_ _=>rfl,AN];unfold nS;rw[AN];rfl
  have lS:(nS l).length=l.length:=by unfold nS;rw[AA]
  refine A7 rfl ⟨D,cl,_,_,rfl,rfl,e2,s2 _ _ C,by rw[AA,AA,sizeLine_eq];lia,λnm U=>?_⟩;have s3:=(s1.trans s2).trans (CW.new (o:=.lst ((nS l).map V.str++g.map V.str)) U);have e3:(HU H2 nm (.lst ((nS l).map V.str++g.map V.str))) nm=some (.lst ((nS l++g).map V.str)):=by rw[A9,AF]
  have f3:=(CW.new (o:=.lst ((nS l).map V.str++g.map V.str)) U) _ _ (s2 _ _ C);generalize HU H2 nm (.lst ((nS l).map V.str++g.map V.str))=H3 at s3 e3 f3⊢;clear hD e2 s2 C s1 W1 U;have J:(nS l++g).Perm (Ak pe l st):=pm1.append_left _;have nN:Q1 (nS l++g):=by
   have k:=Qd Z;exact⟨λy hy=>k.1 y (J.mem_iff.mp hy),J.nodup_iff.mpr k.2.1,by rw[J.length_eq];exact k.2.2⟩
  have lN:(nS l++g).length<=24:=by rw[AW];lia
  refine hN2 _ _ (B5 λN3 hN3=>?_);refine⟨BR _,λE1 hE=>hN3 _ _ (B5 λN4 hN4=>?_)⟩;have W3:=W.same s3;have uE:=CW.new (o:=.lst []) hE;have as1:=KI (K:=K) (HY.of (uE _ _ W3.ht.at_));rw[AN]at as1;refine A7 rfl ⟨r,_,C1 rfl rfl ⟨HY.of (uE _ _ (s3 _ _ er)),B9 (j:=2) rfl,c,rfl,⟨_,HY.of (uE _ _ W3.ht.at_)⟩,V0 as1 (λi σ G=>(∃v4 v5 v6 v7 v8,σ = [some (.ref r),some (.ref cl),some (.ref nm),some (.ref E1),v4,v5,v6,v7,v8])/\CW H3 G/\∃O:A0 IU,G E1=some (.lst (P2 O))/\(∀q∈O,I9 G q)/\(O.map λq=>q.2).Nodup/\(∀k,k∈(O.map λq=>q.2)↔k.1∈nT (st.take i)/\k.1∈g/\Xq l st ba (nS l++g) k.1 k.2)/\O.length<=24*i) ?_ ?_ ?_ ?_⟩⟩
  .exact⟨⟨_,_,_,_,_,rfl⟩,uE,[],A9,λq h=>absurd h AL,C_,λk=>⟨λh=>absurd h AL,λh=>absurd h.1 AL⟩,BR _⟩
  .rintro i σ G _ ⟨_,x,_⟩ o e;rw[uE _ _ W3.ht.at_]at e;cases e;exact(W3.same x).ht.at_
  .rintro i σ G v hv ⟨⟨v4,v5,v6,v7,v8,rfl⟩,x,O,eG,pG,nd,B,len⟩ D1 hD1 _;rw[AG]at hv;obtain⟨y,hy,rfl⟩:=AV.mp hv;have my:y∈st:=AM hy;have WG:=W3.same x;have ey:=WG.ht.row (rT y) (AI.mpr ⟨y,my,rfl⟩);refine⟨y.1,A7 rfl ⟨JC.of ey,rfl,_,A7 rfl ⟨_,A7 rfl (C1 rfl rfl ?_)⟩⟩⟩;refine A7 rfl (A7 rfl (J3 (.inl (HY.of (x _ _ f3))) ⟨_,rfl,g7 (λh=>?_) (λh=>?_)⟩))
   .have hcs:y.2.1∈g:=BH h;refine B5 λM1 hM1=>?_;refine A7 rfl (A7 rfl ⟨r,a,b,c,d,pe,l,st,ba,y.2.2.2,rfl,x _ _ (s3 _ _ er),WG,Z,λhl L G1 s1 hhl C Ho=>?_⟩);obtain⟨U,hlen⟩:=Ho.names Z (Z.tg y my).2;refine hM1 _ _ (B5 λM2 hM2=>?_);refine A7 rfl ⟨hl,rfl,⟨_,HY.of C⟩,λD2 hD2=>?_⟩;refine Uv (r:=V.str) V.str (KI (K:=K) (HY.of C)) (λo=>decide (o∈nS l++g)) (by lia) hD2 (λo mo F sF M I=>?_) (λo mo F sF M I=>A7 rfl I) λσ' G2 s2 e2=>?_
    .exact A7 rfl (A7 rfl (J3 (.inl (HY.of (sF _ _ (s1 _ _ (x _ _ e3))))) ⟨_,rfl,I F λb o e=>e⟩))
    have s02:=(x.trans s1).trans s2;refine hM2 _ _ (B5 λM3 hM3=>?_);have W2:=W3.same s02;have as2:=KI (K:=K) (HY.of W2.ht.at_);rw[AN]at as2;refine A7 rfl (A7 rfl ⟨r,_,C1 rfl rfl ⟨HY.of (s02 _ _ (s3 _ _ er)),B9 (j:=2) rfl,c,rfl,⟨_,HY.of W2.ht.at_⟩,λD3 hD3=>?_⟩⟩);refine Bw (α:=JD) (r:=λq:JD=>V.ref q.1) (λq=>V.str q.2.1) as2 (λz=>decide (z.2.1∈g)&&decide (z.2.2.1∈L)) (by lia) hD3 (λz R F sF M I=>?_) (λz R F sF M I=>?_) λσ' G3 s3' e3'=>?_
    .have ez:=sF _ _ (W2.ht.row (rT z) (AI.mpr ⟨z,R,rfl⟩));have X:=I F λb o e=>e;refine A7 rfl ⟨z.1,_,C1 rfl rfl ⟨JC.of ez,B9 (j:=0) rfl,A7 rfl (J3 (.inl (HY.of (sF _ _ (s02 _ _ f3)))) ⟨_,rfl,g7 (λh1=>?_) (λh1=>?_)⟩)⟩⟩
     .have h1:decide (z.2.1∈g)=true:=h1;rw[h1,Bool.true_and]at X;exact A7 rfl ⟨z.1,_,C1 rfl rfl ⟨JC.of ez,B9 (j:=1) rfl,A7 rfl (J3 (.inl (HY.of (sF _ _ (s2 _ _ C)))) ⟨_,rfl,X⟩)⟩⟩
     .have h1:decide (z.2.1∈g)=false:=DG.mpr h1;rw[h1,EV]at X;exact X
    .exact A7 rfl ⟨z.1,_,C1 rfl rfl ⟨JC.of (sF _ _ (W2.ht.row (rT z) (AI.mpr ⟨z,R,rfl⟩))),B9 (j:=0) rfl,I F λb o e=>e⟩⟩
    have lf1:=BO (λo=>decide (o∈nS l++g)) L;have lf2:=BO (λz:JD=>decide (z.2.1∈g)&&decide (z.2.2.1∈L)) st;refine⟨D2,D3,_,_,rfl,rfl,s3' _ _ e2,e3',by rw[AA,AA,sizeLine_eq];lia,λL3 hL3=>?_⟩;obtain⟨S,hso⟩:∃S:A0 Str,S =(L.filter λo=>decide (o∈nS l++g)) ++(st.filter λz=>decide (z.2.1∈g)&&decide (z.2.2.1∈L)).map λz=>z.2.1:=⟨_,rfl⟩;have u4:=CW.new (o:=.lst ((L.filter λo=>decide (o∈nS l++g)).map V.str ++(st.filter λz=>decide (z.2.1∈g)&&decide (z.2.2.1∈L)).map λq=>V.str q.2.1)) hL3;have e4:(HU G3 L3 (.lst ((L.filter λo=>decide (o∈nS l++g)).map V.str ++(st.filter λz=>decide (z.2.1∈g)&&decide (z.2.2.1∈L)).map λq=>V.str q.2.1))) L3=some (.lst (S.map V.str)):=by rw[A9,hso,AF,AN];rfl
    generalize HU G3 L3 (.lst ((L.filter λo=>decide (o∈nS l++g)).map V.str ++(st.filter λz=>decide (z.2.1∈g)&&decide (z.2.2.1∈L)).map λq=>V.str q.2.1))=G4 at u4 e4⊢;have s14:=((s1.trans s2).trans s3').trans u4;refine hM3 _ _ ?_;have lso:S.length<=100:=by rw[hso,AW,AA];lia
    refine A7 rfl ⟨.inl ⟨rfl,_,HY.of (s14 _ _ eG)⟩,?_⟩;refine A7 rfl ⟨L3,S,rfl,.inl (HY.of e4),by lia,λp hp=>?_⟩;have up:=CW.new (o:=Y8 w p (P1 [] S)) hp;refine⟨p,_,rfl,A9,λt ts ht pm srt=>?_⟩;have ut:=up.trans (CW.new (o:=.lst (ts.map V.str)) ht);have et:(HU (HU G4 p (Y8 w p (P1 [] S))) t (.lst (ts.map V.str))) t=some (.lst (ts.map V.str)):=A9;generalize HU (HU G4 p (Y8 w p (P1 [] S))) t (.lst (ts.map V.str))=G5 at ut et⊢;have nts:ts.Nodup:=pm.nodup_iff.mpr (Il C_);have s15:=s14.trans ut;have nT2:=(BU.mp Z.sn).2.1;have ey2:O9 st y.2.1=some y:=by
     obtain⟨z,ez,R,nz⟩:=Q4 (f:=λq:JD=>q.2.1) (xs:=st) (n:=y.2.1) (AI.mpr ⟨y,my,rfl⟩);rw[O4 (f:=λq:JD=>q.2.1) nT2 R my nz]at ez;exact ez
    have mts:∀o,o∈ts↔Xq l st ba (nS l++g) y.2.1 o:=λo=>by
     rw[pm.mem_iff,Dg,hso,AH,BV,AI];constructor
     .rintro(h | ⟨h1,u⟩ | ⟨z,N,rfl⟩)
      .exact absurd h AL
      .exact⟨y,ey2,BH u,.inl ((Ho.mem o).mp h1)⟩
      .obtain⟨R,N⟩:=BV.mp N;rw[CF]at N;exact⟨y,ey2,BJ _ (BH N.1),.inr ⟨z,R,rfl,(Ho.mem _).mp (BH N.2)⟩⟩
     .rintro⟨y',ey',h1,u⟩;rw[ey2]at ey';cases ey';rcases u with u | ⟨z,R,rfl,u⟩
      .exact .inr (.inl ⟨(Ho.mem o).mpr u,AJ h1⟩)
      .refine .inr (.inr ⟨z,BV.mpr ⟨R,?_⟩,rfl⟩);rw[CF];refine⟨AJ ((AH.mp h1).resolve_left λh=>?_),AJ ((Ho.mem _).mpr u)⟩;exact(BU.mp Z.sn).2.2 _ h _ (AI.mpr ⟨z,R,rfl⟩) rfl
    have lts:ts.length<=24:=Nat.le_trans (U3 nts λo ho=>let⟨_,_,h,_⟩:=(mts o).mp ho;h) lN;refine⟨t,rfl,⟨_,HY.of et⟩,λD4 hD4=>Zl et (by lia) hD4 λσ' G6 rs s6 e6 p6 m6=>?_⟩;have Y:=s15.trans s6;have lrs:rs.length=ts.length:=by
     have:=congrArg List.length m6
     rwa [AA,AA]at this
    refine⟨E1,D4,_,_,rfl,rfl,Y _ _ eG,e6,by unfold P2;rw[AA,AA,sizeLine_eq];have:=(AR.mp hy).1;lia,hD1 _ _ ⟨⟨_,_,_,_,_,rfl⟩,(x.trans Y).upd hE,O++rs,by rw[A9];unfold P2;rw[AF],λz N=>?_,?_,λk=>?_,by rw[AW];lia⟩⟩
    .have eE:=Y _ _ eG;rcases AH.mp N with h | h
     .have:=Y _ _ (pG z h);exact(B8 (J8 this eE (by intro z;cases z))).trans this
     .exact(B8 (J8 (p6 z h) eE (by intro z;cases z))).trans (p6 z h)
    .rw[AF,m6];refine BU.mpr ⟨nd,EM.mpr (nts.imp λh z=>h (congrArg Prod.snd z)),λa ha b hb e=>?_⟩;obtain⟨o,_,rfl⟩:=AI.mp hb;rw[e]at ha;have h1:y.2.1∈nT (st.take i):=((B _).mp ha).1;unfold nT at h1 nT2;rw[EK]at h1;exact J4 nT2 (by rw[AG,hy];rfl) h1
    .rw[AF,AH,B,m6,C7 hy];have C:nT (st.take i ++ [y])=nT (st.take i) ++ [y.2.1]:=by unfold nT;rw[AF];rfl
     rw[C,AH,AC,AI];constructor
     .rintro(⟨h1,u⟩ | ⟨o,ho,rfl⟩)
      .exact⟨.inl h1,u⟩
      .exact⟨.inr rfl,hcs,(mts o).mp ho⟩
     .rintro⟨h1 | h1,u,h3⟩
      .exact .inl ⟨h1,u,h3⟩
      .obtain⟨k1,k2⟩:=k;have h1:k1=y.2.1:=h1;subst h1;exact .inr ⟨k2,(mts k2).mpr h3,rfl⟩
   .have hcs:y.2.1∉g:=λz=>h (AJ z);refine hD1 _ _ ⟨⟨_,_,_,_,_,rfl⟩,x,O,eG,pG,nd,λk=>?_,by lia⟩;have C:nT (st.take (i+1))=nT (st.take i) ++ [y.2.1]:=by unfold nT;rw[C7 hy,AF];rfl
    rw[B,C,AH,AC];refine⟨λ⟨h1,u⟩=>⟨.inl h1,u⟩,λ⟨h1,u⟩=>⟨h1.resolve_right λe=>hcs (e▸u.1),u⟩⟩
  .rintro σ G ⟨⟨v4,v5,v6,v7,v8,rfl⟩,x,O,eG,pG,nd,B,len⟩;rw[AA,BM]at B;rw[AA]at len;refine hN4 _ _ ?_;refine A7 rfl ⟨nm,_,rfl,HY.of (x _ _ e3),λn ns hn pn sn=>?_⟩;have un:=CW.new (o:=.lst (ns.map V.str)) hn;have en:(HU G n (.lst (ns.map V.str))) n=some (.lst (ns.map V.str)):=A9;generalize HU G n (.lst (ns.map V.str))=G1 at un en⊢;refine A7 rfl ⟨E1,O,rfl,HY.of (un _ _ eG),K9 un pG,λm kq hm pm S=>?_⟩;have um:=CW.new (o:=.lst (P2 kq)) hm;refine⟨by show 2<=sizeLine;decide,λt ht=>?_⟩;have ut:=CW.new (o:=.tup [.ref n,.ref m]) ht;refine q t n m ns kq _ ((((s3.trans x).trans un).trans um).trans ut) A9 (ut _ _ (um _ _ en)) (pn.trans J) sn (ut _ _ A9) (λz N=>ut _ _ (um _ _ (un _ _ (pG z (pm.mem_iff.mp N))))) ⟨λz N=>?_,((pm.map _).nodup_iff).mpr nd,by rw[pm.length_eq];lia⟩ S λk=>?_
   .obtain⟨h1,u,y,_,h3,_⟩:=(B z.2).mp (AI.mpr ⟨z,pm.mem_iff.mp N,rfl⟩);exact⟨pn.mem_iff.mpr (BJ _ u),pn.mem_iff.mpr h3⟩
   .rw[(pm.map λq:IU=>q.2).mem_iff,B,pm1.mem_iff];unfold Um Xq;simp only[J.mem_iff];exact⟨λh=>h.2,λh=>⟨(o9 pe l st).subset h.1,h⟩⟩
end
def MU.same{H H':Hp}{a:A0 (IL×V)}{ns:A0 Str}{nx:Str->A0 Str}(h:MU H a ns nx)(s:CW H H'):MU H' a ns nx:=λn b=>let⟨l,c,d⟩:=h n b;⟨l,c,s _ _ d⟩
section
variable{P:Cv}{w:HS}{K:PySem.W.Frag}{mg:Str->A6 A1}{base:HX}
def Gz:Sp:=λg H Q _=>∃(n a:A2) (c:A0 Str) (e:A0 IU),g = [.ref n,.ref a]/\H n=some (.lst (c.map V.str))/\Q1 c/\H a=some (.lst (P2 e))/\(∀q∈e,I9 H q)/\OC c e /\
 ∀d b f,CW H f->f d=some (.dK b)->MU f b c (C0 e)->Q (.ref d) f
theorem JV:HW ["_law_names", "_law_strikes", "_law_found", "_law_one", "_law_other"] ["_law_names", "_law_strikes"] (B6 MC):=KA
set_option maxHeartbeats 4000000 in
theorem Bl(T:Tx K mg):II P w K mg base JG 1 T.aM.f T.aM.fd ["_law_names", "_law_strikes"] Gz:=by
 refine T.aM.F.o1 JV λcdv A outer s H vs Q E hr h=>?_
 .obtain⟨n,a,u,Z,rfl,hn,hN,ha,hp,hO,k⟩:=h;have hu:=U0 hr;refine⟨_,(B2 (C2 (i:=2) JV.nd rfl (.inl rfl) (V4 An T.bh Bq (A8 (J1 (N':=["_law_name"]) (cap:=[none]) (cl:=[]) (E9 trivial trivial) rfl (JX K (pv 0)) (λ_ _ _ _=>by exact⟨(JQ 0),D8,(J7 (A8 (pv 0) (A8 (F7 B0) B0)))⟩)) B0)))
   (B2 (P0 PassesOwn.never rfl (JX K (pv 1)) (Q_ K (n:=2) (C6 (E4 (i:=3) JV.nd rfl (.inl rfl)) (C6 (E4 (i:=4) JV.nd rfl (.inl rfl)) J9)))
   (B7 (G9 (Ln K PySem.F.plainAttrs_list PySem.F.slot_list_append PySem.F.type_list_append M0 (X1 hu (pv 2) (pv 4) (λ_ _=>rfl)) (A8 (pv 3) B0)))))
   (B7 (C3 (pv 2))))),?_⟩
  have l100:=hN.2.2;have lq:=hO.len;refine B5 λN1 hN1=>?_;refine A7 rfl ⟨n,rfl,⟨_,HY.of hn⟩,λE hE=>?_⟩;refine J6 (KI (K:=K) (HY.of hn)) (λi σ C=>(∃v,σ = [v])/\CW H C/\∃l:A0 (A2×IL×V),C E=some (.lst (l.map λq=>V.ref q.1))/\(∀q∈l,C q.1=some (.tup [kV q.2.1,q.2.2]))/\(l.map λq=>q.2.1) =(u.take i).map Sum.inr/\DOk H (l.map λq=>q.2) (u.take i)/\∀m∈u.take i,la (l.map λq=>q.2) m≠E/\C (la (l.map λq=>q.2) m)=some (.lst []))
   ⟨⟨_,rfl⟩,CW.new hE,[],A9,λq h=>absurd h AL,rfl,⟨λn h=>absurd h AL,λn h=>absurd h AL,λn h=>absurd h AL⟩,λm h=>absurd h AL⟩ (λi σ H1 _ ⟨_,s1,_⟩=>s1.at n) ?_ ?_
  .rintro i σ C v N hx ⟨⟨v0,rfl⟩,s3,l,S,t3,L,r,I⟩ hN';rw[AG]at hx;obtain⟨y,hy,rfl⟩:=AV.mp hx;have hi:=(AR.mp hy).1;have lt:=congrArg List.length L;rw[AA,AA,AO]at lt;refine S3 (A7 rfl ⟨BR _,λp x=>?_⟩);have M:=CW.new (o:=.lst []) x;have U:(HU C p (.lst [])) p=some (.lst []):=A9;have pE:p≠E:=(B3 S x).symm;generalize HU C p (.lst [])=H4 at M U⊢;refine⟨by show 2<=sizeLine;decide,λt ht=>?_⟩;have u5:=CW.new (o:=.tup [.str y,.ref p]) ht;have f5:(HU H4 t (.tup [.str y,.ref p])) t=some (.tup [.str y,.ref p]):=A9;have tE:t≠E:=(B3 (M _ _ S) ht).symm;generalize HU H4 t (.tup [.str y,.ref p])=H5 at u5 f5⊢;have G:=M.trans u5;have yn:y∉u.take i:=J4 hN.2.1 hy;have ek:(l ++ [((t,(Sum.inr y,V.ref p)):A2×IL×V)]).map (λq=>q.2)=i7 (l.map λq=>q.2) (.inr y) (.ref p):=by
    rw[AF];unfold i7;rw[AS];rfl;rw[List.any_map,FK];rintro⟨q,W,c⟩;have c:q.2.1=Sum.inr y:=BH c;have:(Sum.inr y:IL)∈(u.take i).map Sum.inr:=L▸AI.mpr ⟨q,W,c⟩;obtain⟨z,hz,e⟩:=AI.mp this;cases e;exact yn hz
   have j:∀m∈u.take i ++ [y],m≠y->m∈u.take i:=λm d e=>(AH.mp d).elim id λz=>absurd (AC.mp z) e;refine⟨_,G _ _ S,by rw[AA,sizeLine_eq];lia,hN' _ _ ⟨⟨_,rfl⟩,(s3.trans G).upd hE,l ++ [(t,(Sum.inr y,V.ref p))],by rw[A9,AF];rfl,λq W=>?_,?_,?_,?_⟩⟩
   .rcases AH.mp W with c | c
    .exact(B8 (J8 (t3 q c) S (by intro z;cases z))).trans (G _ _ (t3 q c))
    .rw[AC.mp c];exact(B8 tE).trans f5
   .rw[C7 hy,AF,AF,L];rfl
   .rw[ek,C7 hy];refine⟨λm d=>?_,λm d X B=>?_,λm d=>?_⟩
    .rw[Cg,X8];by_cases e:m=y
     .rw[AY e,AY e]
     .rw[AS e,AS e];exact r.val m (j m d e)
    .rw[X8,X8];by_cases e:m=y
     .by_cases O:X=y
      .exact λ_=>e.trans O.symm
      .rw[AY e,AS O];intro z;have:=(I X (j X B O)).2;rw[<-z,x]at this;cases this
     .by_cases O:X=y
      .rw[AS e,AY O];intro z;have:=(I m (j m d e)).2;rw[z,x]at this;cases this
      .rw[AS e,AS O];exact r.inj m (j m d e) X (j X B O)
    .rw[X8];by_cases e:m=y
     .rw[AY e];exact s3.free x
     .rw[AS e];exact r.fr m (j m d e)
   .rw[ek,C7 hy];intro m d;rw[X8];by_cases e:m=y
    .rw[AY e];exact⟨pE,(B8 pE).trans (u5 _ _ U)⟩
    .rw[AS e];obtain⟨c1,c2⟩:=I m (j m d e);exact⟨c1,(B8 c1).trans (G _ _ c2)⟩
  .rintro σ C ⟨_,s3,l,S,t3,L,r,I⟩;rw[AA,BM]at L r I;have lt:=congrArg List.length L;rw[AA,AA]at lt;have em:K6 [] (l.map λq=>q.2)=l.map λq=>q.2:=Eo (by
    rw[List.nil_append,AN,show((λk:IL×V=>k.1)∘λq:A2×IL×V=>q.2)=λq=>q.2.1 from rfl,L];exact List.Pairwise.map _ (λa b h e=>h (Sum.inr.inj e)) hN.2.1)
   refine⟨E,l,rfl,S,t3,by lia,λD hD=>?_⟩;rw[em];generalize (l.map λq=>q.2)=g at r I em⊢;have M:=CW.new (o:=.dK g) hD;have U:(HU C D (.dK g)) D=some (.dK g):=A9;generalize HU C D (.dK g)=H4 at M U⊢;have s4:=s3.trans M;have c4:∀m∈u,H4 (la g m)=some (.lst []):=λm d=>M _ _ (I m d).2;have Dn:∀m∈u,D≠la g m:=λm d=>(B3 (I m d).2 hD).symm;refine hN1 _ _ (B5 λN2 hN2=>?_);have ha4:=s4 _ _ ha;refine A7 rfl ⟨a,rfl,⟨_,HY.of ha4⟩,V0 (KI (HY.of ha4)) (λi σ R=>(∃v3 v4,σ = [some (.ref n),some (.ref a),some (.ref D),v3,v4])/\(∀b o,H4 b=some o->(∀m∈u,b≠la g m)->R b=some o)/\∀m∈u,R (la g m)=some (.lst ((C0 (Z.take i) m).map V.str))) ?_ ?_ ?_ ?_⟩
   .exact⟨⟨_,_,rfl⟩,λb o e _=>e,c4⟩
   .rintro i σ R hi ⟨_,J,_⟩ o e;exact J _ _ e λm d=>B3 ha (r.fr m d)
   .rintro i σ R v hv ⟨⟨v3,v4,rfl⟩,J,Y⟩ D1 hD1 _;unfold P2 at hv;rw[AG]at hv;obtain⟨q,W,rfl⟩:=AV.mp hv;have d:=AM W;have j:∀{b o},H b=some o->R b=some o:=fun{b o} e=>J b o (s4 b o e) λm d=>B3 e (r.fr m d);have m2:=(hO.nm q d).2;have hl:((C0 (Z.take i) q.2.2).map V.str).length<=300:=by
     unfold C0;rw[AA,AA];have:=BO (λz:IU=>decide (z.2.2=q.2.2)) (Z.take i);rw[AO]at this;lia
    refine⟨q.1,A7 rfl ⟨JC.of (j (hp q d)),rfl,_,A7 rfl (C1 rfl rfl ?_)⟩⟩;refine A7 rfl (A7 rfl ⟨D,.ref (la g q.2.2),rfl,by rw[<-r.val _ m2];exact KD.k (k:=Sum.inr q.2.2) (J _ _ U Dn),.inl ⟨rfl,_,HY.of (Y _ m2)⟩,A7 rfl ⟨_,C1 rfl rfl ⟨Y _ m2,by rw[sizeLine_eq];lia,hD1 _ _ ⟨⟨_,_,rfl⟩,λb o e hb=>?_,λm B=>?_⟩⟩⟩⟩)
    .rw[B8 (hb _ m2)];exact J b o e hb
    .rw[C7 W,W0];by_cases e:q.2.2=m
     .rw[<-e,A9,AY rfl,AF];rfl
     .rw[AS e,CB,B8 (λz=>e (r.inj _ B _ m2 z).symm)];exact Y m B
   .rintro σ R ⟨⟨v3,v4,rfl⟩,J,Y⟩;have hlq:(P2 Z).length=Z.length:=by unfold P2;rw[AA]
    rw[hlq,BM]at Y;exact hN2 _ _ (A7 rfl (k D g R (λb o e=>J b o (s4 b o e) λm d=>B3 e (r.fr m d)) (J _ _ U Dn) λm d=>⟨_,r.val m d,Y m d⟩))
end
def Po{K:PySem.W.Frag}{H:Hp}{E:A2}{ts:A0 Str}{Q:VK}(e:H E=some (.lst (ts.map V.str)))(d:∀x∈ts,K3 x=true)(h:∀b,CW H b->Q (.bl (!ts.isEmpty)) b):∀a,H a=none->UX K (.ref E) (.ref a) (HU H a (.lst [])) Q:=λa c =>
 ⟨sd ts,.list [],Qm (HY.of (CW.new c _ _ e)),Sg (HY.of A9),Tp d,Sd,by rw[Db];exact h _ (CW.new c)⟩
def Lp{K:PySem.W.Frag}{a D:A2}{ts:A0 Str}{w:Str}{r:St}{H:Hp}{Q:St->Hp->Prop}(e:H a=some (.lst (ts.map V.str)))(d:ts.length<=1000)(i:H D=none)
  (h:∀σ (qs:A0 (A2×IL×V)) b,CW H b->b D=some (.lst (qs.map λq=>V.ref q.1))->(∀q∈qs,b q.1=some (.tup [kV q.2.1,q.2.2]))->qs.map (λq=>q.2)=ts.map (λn=>(Sum.inr n,V.str w))->Q σ b) (f:A6 V) :
  Aa (P9 0) V7 (X3 D (UU (Bz (Jw 0) (Bz (tC (.str w)) Ul)))) (SM K a) (f::r) (HU H D (.lst [])) Q :=
 Te (λ_=>true) (λy=>[.str y,.str w]) (λ_=>by show 2<=3;decide) e d i (λy s j c=>⟨_,rfl,c⟩) (λy t G u j c=>c) (λσ k b l m o g=>h σ (k.map λq=>(q.1,Sum.inr q.2,V.str w)) b l (by rw[m,AN];rfl) (λq c=>let⟨z,p,e⟩:=AI.mp c;e▸o z p) (by rw[Q0]at g;rw[<-g,AN,AN];rfl)) f
abbrev S1:Str := ""
def zGq{H:Hp}{d:A2}{a:A0 (IL×V)}{f:Str->A6 Str}{y:Str}{r:St}{Q:VK}(b:H d=some (.dK a))(c:WD a f)(h:Q (.str ((f y).getD S1)) H):Wy (Jw 1) (Jw 0) (tC (.str S1)) (some (.str y)::some (.ref d)::r) H Q:=by
 refine A7 rfl ⟨d,rfl,.inl ⟨a,.inl b⟩,A7 rfl ⟨_,KD.k (k:=Sum.inr y) b,?_⟩⟩;rw[c y];cases e:f y with
 | none=>rw[e]at h;exact h
 | some z=>rw[e]at h;exact h
def RY:S1≠MS/\S1≠JS:=⟨by decide +kernel,by decide +kernel⟩
def Ex{o:A6 Str}{w:Str}(h:S1≠w):o.getD S1=w↔o=some w:=by
 cases o with
 | none=>exact⟨λe=>absurd e h,λe=>by cases e⟩
 | some z=>exact⟨λe=>congrArg some e,λe=>CJ e⟩
def Xb{ns:A0 Str}{A:(Str->A6 Str)->Str->Bool}{f:Str->A6 Str}:ns.filter (λy=>(f y).isNone&&A f y)=D9 ns A f:=by
 unfold D9 wl;rw[List.filter_filter];exact List.filter_congr λy _=>Bool.and_comm ..
section
variable{P:Cv}{w:HS}{K:PySem.W.Frag}{mg:Str->A6 A1}{base:HX}
def zAs:Sp:=λg H Q _=>∃(a d:A2) (y:Str) (c:A0 IU) (b:A0 (IL×V)) (f:Str->A6 Str),g = [.ref a,.ref d]/\H a=some (.lst ((C0 c y).map V.str))/\c.length<=300/\H d=some (.dK b)/\WD b f/\∀e,CW H e->Q (.bl (C5 c f y)) e
def Zg:Sp:=λg H Q _=>∃(a d:A2) (y:Str) (c:A0 IU) (b:A0 (IL×V)) (f:Str->A6 Str),g = [.ref a,.ref d]/\H a=some (.lst ((C0 c y).map V.str))/\c.length<=300/\H d=some (.dK b)/\WD b f/\∀e,CW H e->Q (.bl (F5 c f y)) e
theorem Y6{ps:A0 IU}(h:ps.length<=300)(m:Str):(C0 ps m).length<=1000:=by
 unfold C0;rw[AA];exact Nat.le_trans (BO ..) (Nat.le_trans h (by decide))
theorem Cs:HW ["_law_some", "_law_words"] ["_law_some", "_law_words"] (B6 M_):=KA
theorem Ft:HW ["_law_some", "_law_words"] ["_law_some", "_law_words"] (B6 NR):=KA
theorem Cm(T:Tx K mg):II P w K mg base JG 1 T.aS.f T.aS.fd ["_law_some", "_law_words"] zAs:=by
 refine T.aS.F.o1 Cs λn A g s H L Q E p h=>?_
 .obtain⟨a,d,y,M,q,f,rfl,l,i,r,t,k⟩:=h;have u:=U0 p;refine⟨_,(B7 (C3 (G0 (Hj K) T.bp Hi (A8 (J1 (N':=["_law_name", "_law_words"]) (cap:=[none,some 1]) (cl:=[("_law_words",_)]) (E9 ⟨⟨rfl,rfl,rfl,rfl⟩,trivial⟩ ⟨rfl,trivial⟩) rfl (JX K (pv 0)) (λ_ _ _ _=>by exact⟨(JQ 0),D8,(I0 i0 (Y1 u (pv 1) (pv 0) E3 ⟨rfl,rfl,rfl,rfl⟩) E3 (F6 _))⟩)) B0)))),?_⟩;refine A7 rfl ⟨a,rfl,⟨_,HY.of l⟩,λD v=>?_⟩;refine Et (λy=>decide (f y=some JS)) l (Y6 i y) v (λy N m j B C=>?_) (λσ m j G=>⟨D,_,rfl,HY.of G,k m j⟩) _;refine zGq (Q:=λx I=>tC (.str JS) _ I λz J=>rEq x z J B) (j _ _ r) t ⟨rfl,?_⟩;have e:decide (V.str ((f y).getD S1)=V.str JS)=decide (f y=some JS):=decide_eq_decide.mpr ⟨λc=>(Ex RY.2).mp (by injection c),λc=>congrArg V.str ((Ex RY.2).mpr c)⟩;rw[e];exact C _ λb o e=>e
theorem Ef(T:Tx K mg):II P w K mg base JG 1 T.aZ.f T.aZ.fd ["_law_some", "_law_words"] Zg:=by
 refine T.aZ.F.o1 Ft λq A c s H G Q E r h=>?_
 .obtain⟨a,d,y,g,t,f,rfl,p,i,u,v,k⟩:=h;have x:=U0 r;refine⟨_,(B7 (C3 (I0 (U9 K) E3 (J1 (N':=["_law_name", "_law_words"]) (cap:=[none,some 1]) (cl:=[("_law_words",_)]) (E9 ⟨⟨rfl,rfl,rfl,rfl⟩,trivial⟩ ⟨rfl,trivial⟩) rfl (JX K (pv 0)) (λ_ _ _ _=>by exact⟨(JQ 0),D8,(Y1 x (pv 1) (pv 0) E3 ⟨rfl,rfl,rfl,rfl⟩)⟩)) rfl))),?_⟩;refine A7 rfl ⟨a,rfl,⟨_,HY.of p⟩,λD B=>?_⟩;refine Xt (λy=>V.str ((f y).getD S1)) p (Y6 i y) B (λy I j l J C=>zGq (l _ _ u) v (C _ λb o e=>e)) (λσ j l m=>?_) _;have m:j D=some (.lst (((C0 g y).map λy=>(f y).getD S1).map V.str)):=by rw[m,AN];rfl
  refine J3 (.inl (HY.of m)) ?_;have e:decide (MS∈(C0 g y).map λy=>(f y).getD S1)=F5 g f y:=by
   refine D_.mpr ?_;rw[decide_eq_true_iff,By,AI];exact⟨λ⟨z,n,e⟩=>⟨z,n,(Ex RY.1).mp e⟩,λ⟨z,n,e⟩=>⟨z,n,(Ex RY.1).mpr e⟩⟩
  rw[e];exact k j l
end
def Dz{ns:A0 Str}{A O:(Str->A6 Str)->Str->Bool}{f:Str->A6 Str}{num:Int}:S0 ns A O f num = []↔(D9 ns A f++D9 ns O (b9 ns A f)).isEmpty=true:=by
 rw[List.isEmpty_iff];unfold S0;rw[FT,FT,FF,FF]
section
variable{P:Cv}{w:HS}{K:PySem.W.Frag}{mg:Str->A6 A1}{base:HX}
def Ob:Sp:=λe H Q _=>∃(n a:A2) (b d:A0 Str) (c:A0 IU),e = [.ref n,.ref a]/\H n=some (.lst (b.map V.str))/\Q1 b/\H a=some (.lst (P2 c))/\(∀q∈c,I9 H q)/\OC b c/\d.Perm b/\d.Pairwise QL/\Up H d c Q
theorem IP:HW ["_law_names", "_law_strikes", "_law_strikers_here", "_law_words", "_law_rows", "_law_number", "_law_more", "_law_got_in", "_law_got_out"] ["_law_names", "_law_strikes"] (B6 NP):=KA
set_option maxHeartbeats 4000000 in
theorem Ed(T:Tx K mg):II P w K mg base JG 2 T.aY.f T.aY.fd ["_law_names", "_law_strikes"] Ob:=by
 refine T.aY.F.o1 IP λcdv A outer s H vs Q E hr h=>?_
 .obtain⟨n,a,ss,p,j,rfl,hn,hN,ha,hp,hO,pn,so,k⟩:=h;have hu:=U0 hr;refine⟨_,(B2 (C2 (i:=2) IP.nd rfl (.inr rfl) (C8 T.aM (Bl T) (Rm hr) (A8 (pv 0) (A8 (pv 1) B0))))
   (B2 (C2 (i:=3) IP.nd rfl (.inr rfl) Mh)
   (B2 (C2 (i:=4) IP.nd rfl (.inl rfl) (F7 B0))
   (B2 (C2 (i:=5) IP.nd rfl (.inr rfl) B4)
   (B2 (C2 (i:=6) IP.nd rfl (.inl rfl) Cn)
   (B2 (Aq PassesOwn.never (K1 (pv 6)) (B2 (U8 (i:=7) (N':=["_law_name", "_law_words", "_law_strikers_here"]) (cap:=[none,some 3,some 2]) (cl:=[("_law_words",_),("_law_strikers_here",_)]) IP.nd rfl (.inl rfl) (E9 ⟨⟨rfl,rfl,rfl,rfl⟩,⟨⟨rfl,rfl,rfl,rfl⟩,trivial⟩⟩ ⟨rfl,⟨rfl,trivial⟩⟩) rfl (JX K (G0 (O7 K) T.ag J0 (A8 (pv 0) B0))) (λ_ _ _ _=>by exact⟨(JQ 0),(J5 (PW.pt (Ds (Lj (j7 hu (pv 0) (pv 1))) (w9 (K1 (C8 T.aS (Cm T) (Rm hr) (A8 (X1 hu (pv 2) (pv 0) (λ_ _=>rfl)) (A8 (pv 1) B0)))))))),(pv 0)⟩))
   (B2 (G9 (Mb (pv 3) (J1 (N':=["_law_name"]) (cap:=[none]) (cl:=[]) (E9 trivial trivial) rfl (JX K (pv 7)) (λ_ _ _ _=>by exact⟨(JQ 0),D8,(J7 (A8 (pv 0) (A8 E3 B0)))⟩)) ⟨rfl,rfl,rfl,rfl⟩))
   (B2 (U8 (i:=8) (N':=["_law_name", "_law_words", "_law_strikers_here"]) (cap:=[none,some 3,some 2]) (cl:=[("_law_words",_),("_law_strikers_here",_)]) IP.nd rfl (.inl rfl) (E9 ⟨⟨rfl,rfl,rfl,rfl⟩,⟨⟨rfl,rfl,rfl,rfl⟩,trivial⟩⟩ ⟨rfl,⟨rfl,trivial⟩⟩) rfl (JX K (G0 (O7 K) T.ag J0 (A8 (pv 0) B0))) (λ_ _ _ _=>by exact⟨(JQ 0),(J5 (PW.pt (Ds (Lj (j7 hu (pv 0) (pv 1))) (w9 (K1 (C8 T.aZ (Ef T) (Rm hr) (A8 (X1 hu (pv 2) (pv 0) (λ_ _=>rfl)) (A8 (pv 1) B0)))))))),(pv 0)⟩))
   (B2 (G9 (Mb (pv 3) (J1 (N':=["_law_name"]) (cap:=[none]) (cl:=[]) (E9 trivial trivial) rfl (JX K (pv 8)) (λ_ _ _ _=>by exact⟨(JQ 0),D8,(J7 (A8 (pv 0) (A8 E3 B0)))⟩)) ⟨rfl,rfl,rfl,rfl⟩))
   (B2 (C2 (i:=4) IP.nd rfl (.inl rfl) (F9 K4 (F9 K4 (pv 4) (J1 (N':=["_law_name", "_law_number"]) (cap:=[none,some 5]) (cl:=[("_law_number",_)]) (E9 ⟨⟨rfl,rfl,rfl,rfl⟩,trivial⟩ ⟨rfl,trivial⟩) rfl (JX K (pv 7)) (λ_ _ _ _=>by exact⟨(JQ 0),D8,(J7 (A8 (pv 0) (A8 E3 (A8 (pv 1) B0))))⟩))) (J1 (N':=["_law_name", "_law_number"]) (cap:=[none,some 5]) (cl:=[("_law_number",_)]) (E9 ⟨⟨rfl,rfl,rfl,rfl⟩,trivial⟩ ⟨rfl,trivial⟩) rfl (JX K (pv 8)) (λ_ _ _ _=>by exact⟨(JQ 0),D8,(J7 (A8 (pv 0) (A8 E3 (A8 (pv 1) B0))))⟩))))
   (B2 (C2 (i:=6) IP.nd rfl (.inl rfl) (I0 (Vf K hr.units) (F9 K4 (pv 7) (pv 8)) (F7 B0) (F6 _)))
   (B7 (C2 (i:=5) IP.nd rfl (.inr rfl) (F9 V2 (pv 5) B4))))))))))
   (B7 (C3 (F9 K4 (pv 4) (J1 (N':=["_law_name", "_law_words"]) (cap:=[none,some 3]) (cl:=[("_law_words",_)]) (E9 ⟨⟨rfl,rfl,rfl,rfl⟩,trivial⟩ ⟨rfl,trivial⟩) rfl (JX K (G0 (O7 K) T.ag J0 (A8 (pv 0) B0))) (λ_ _ _ _=>by exact⟨(JQ 0),(J5 (Lj (j7 hu (pv 0) (pv 1)))),(J7 (A8 (pv 0) (A8 E3 (A8 m8 B0))))⟩))))))))))),?_⟩
  have nn:p.Nodup:=pn.nodup_iff.mpr hN.2.1;have ln:p.length<=100:=by rw[pn.length_eq];exact hN.2.2
  have inn:∀{y},y∈p->y∈ss:=λh=>pn.mem_iff.mp h;have lfl:∀g:Str->A6 Str,(wl p g).length<=100:=λg=>Nat.le_trans (BO ..) ln;have lin:∀(B:(Str->A6 Str)->Str->Bool) g,(D9 p B g).length<=100:=λB g=>Nat.le_trans (BO ..) (lfl _);refine B5 λN1 hN1=>?_;refine A7 rfl (A7 rfl ⟨n,a,ss,j,rfl,hn,hN,ha,hp,hO,λd kvs H1 s1 ed st=>?_⟩);refine hN1 _ _ (B5 λN2 hN2=>?_);intro v hwd;have u1:=CW.new (o:=.dK []) hwd;have u:(HU H1 v (.dK [])) v=some (.dK []):=A9;generalize HU H1 v (.dK [])=H2 at u1 u⊢;refine hN2 _ _ (B5 λN3 hN3=>?_);refine⟨BR _,λr hr0=>?_⟩;have u2:=CW.new (o:=.lst []) hr0;have f2:(HU H2 r (.lst [])) r=some (.lst []):=A9;generalize HU H2 r (.lst [])=H3 at u2 f2⊢;refine hN3 _ _ (B5 λN4 hN4=>?_);refine hN4 _ _ (B5 λN5 hN5=>?_);refine hN5 _ _ (B5 λN6 hN6=>?_);have lw0:=lfl λ_=>none;have n1:=s1 _ _ hn;refine⟨λm σ H4=>∃(g:Bool) (num:Int) (r:A2) (v7 v8:A6 V) (C:A0 (IL×V)) (f:Str->A6 Str) (M:A0 (A2×Row)),σ = [some (.ref n),some (.ref a),some (.ref d),some (.ref v),some (.ref r),some (.int num),some (.bl g),v7,v8]/\CW H1 H4/\H4 v=some (.dK C)/\WD C f/\RL H4 r M /\
   (g=true->∀t,LS p (C5 j) (F5 j) f num t->LS p (C5 j) (F5 j) (λ_=>none) 1 ((M.map λq=>q.2)++t))/\(g=false->LS p (C5 j) (F5 j) (λ_=>none) 1 ((M.map λq=>q.2) ++(wl p f).map λn=>(n,SQ,V.non)))/\m =(wl p f).length +(if g=true then 1 else 0)/\C.length +(wl p f).length<=100/\M.length +(wl p f).length<=100,
   ⟨_,true,1,r,none,none,[],λ_=>none,[],rfl,u1.trans u2,u2 _ _ u,λn=>rfl,⟨f2,λq h=>absurd h AL⟩,λ_ t h=>h,λh=>(by cases h),rfl,by show 0+_<=_;lia,by show 0+_<=_;lia⟩,?_⟩
  clear u f2 u1 u2 hr0;rintro m σ H4 ⟨g,num,r,v7,v8,C,f,M,rfl,s4,e4,X,Lr,W4,C4,rfl,RM,ld4⟩;refine A7 rfl ⟨g,rfl,?_⟩;have n4:=s4 _ _ n1;cases g with
  | false =>
   refine X0 (hN6 _ _ ?_);refine A7 rfl (A7 rfl ⟨n,_,rfl,HY.of n4,λl1 t1 hl1 p1 w1=>⟨l1,rfl,⟨_,HY.of A9⟩,λD hD=>?_⟩⟩);cases Y0 w1 so (p1.trans pn.symm);have u5:=CW.new (o:=.lst (p.map V.str)) hl1;refine u9 (v3:=.non) (λy=>(f y).isNone) A9 (by lia) hD (λy G Q' N=>N) (λy hy G O Q' N=>?_) (λσ J H6 s6 L6 q6=>?_) _
   .refine A7 rfl (A7 rfl ⟨v,_,rfl,KD.k (k:=Sum.inr y) (O _ _ (u5 _ _ e4)),_,rfl,?_⟩);rw[X y];have e:(!((f y).map V.str).isSome) =(f y).isNone:=by cases f y<;>rfl
    rw[e];exact N
   have s46:=u5.trans s6;have Lr:=Lr.same s46;have l2:=congrArg List.length q6;rw[AA,AA]at l2;have l2:J.length =(wl p f).length:=l2;refine⟨r,D,_,_,rfl,rfl,Lr.1,L6.1,by rw[AA,AA,sizeLine_eq];lia,λc hc=>?_⟩;have u7:=CW.new (o:=.lst ((M.map λq=>V.ref q.1)++J.map λq=>V.ref q.1)) hc;have s06:=s1.trans (s4.trans s46);exact k c (M++J) _ (s06.trans u7) (s06.free hc) (Lr.app L6 A9 λq o e=>u7 _ _ e) (by rw[AF,q6];exact C4 rfl) (by rw[AW];lia)
  | true =>
   refine g9 ⟨_,λ_ _ z=>z,B5 λM1 hM1=>?_⟩;have W4:=W4 rfl;refine A7 rfl ⟨n,_,rfl,HY.of n4,λl1 t1 hl1 p1 w1=>⟨l1,rfl,⟨_,HY.of A9⟩,λD1 hD1=>?_⟩⟩;cases Y0 w1 so (p1.trans pn.symm);have u5:=CW.new (o:=.lst (p.map V.str)) hl1;refine V9 (λy=>(f y).isNone&&C5 j f y) A9 (by lia) hD1 (λy hy G O Q' hQ=>?_) (λσ H5 s5 e5=>?_) _
   .have sG:=s4.trans (u5.trans O);refine A7 rfl (A7 rfl ⟨v,_,rfl,KD.k (k:=Sum.inr y) ((u5.trans O) _ _ e4),_,rfl,?_⟩);rw[X y];have R:=hQ G λb o e=>e;cases ef:f y with
    | some z=>rw[ef]at R;exact X0 R
    | none =>
     refine g9 ?_;obtain⟨ls,h1,h2⟩:=(st.same sG) y (inn hy);refine A7 rfl (A7 rfl ⟨d,_,rfl,by rw[<-h1];exact KD.k (k:=Sum.inr y) (sG _ _ ed),A7 rfl ⟨ls,v,y,j,_,f,rfl,h2,hO.len,(u5.trans O) _ _ e4,X,λG' sg'=>⟨_,rfl,?_⟩⟩⟩);have:=hQ G' sg';rw[ef]at this;exact this
   rw[Xb]at e5;have Y:=u5.trans s5;have Z:=Y _ _ e4;clear hD1 u5 p1 w1;refine hM1 _ _ (B5 λM2 hM2=>?_);refine A7 rfl ⟨v,rfl,.inl ⟨_,.inl Z⟩,A7 rfl ⟨D1,rfl,⟨_,HY.of e5⟩,λE1 hE1=>?_⟩⟩;refine Lp (w:=MS) e5 (Nat.le_trans (lin _ _) (by decide)) hE1 (λσ qs1 H6 s6 e6 t6 q6=>?_) _;have k1:=X.mrg (w:=MS) (l:=D9 p (C5 j) f);have m1:=K7 C ((D9 p (C5 j) f).map λn=>(Sum.inr n,V.str MS));rw[AA]at m1;have lq1:=congrArg List.length q6;rw[AA,AA]at lq1;have i1:=Lk (A:=C5 j) (f:=f) (w:=MS) nn;refine⟨E1,C,qs1,rfl,s6 _ _ Z,e6,t6,by rw[sizeLine_eq];lia,?_⟩;rw[q6];have d6:=s6 _ _ e5;have w6:=s6 _ _ Z;have nD1:D1≠v:=J8 d6 w6 (by intro z;cases z);have k7:=((s4.trans Y).trans s6).upd (o:=.dK (K6 C ((D9 p (C5 j) f).map λn=>(Sum.inr n,V.str MS)))) hwd;have L7:=((Lr.same Y).same s6).smd (H':=HU H6 v (.dK (K6 C ((D9 p (C5 j) f).map λn=>(Sum.inr n,V.str MS))))) w6 ((Sm.refl [v] H6).upd (by simp));have d7:(HU H6 v (.dK (K6 C ((D9 p (C5 j) f).map λn=>(Sum.inr n,V.str MS))))) D1=some (.lst ((D9 p (C5 j) f).map V.str)):=(B8 nD1).trans d6;have w7:(HU H6 v (.dK (K6 C ((D9 p (C5 j) f).map λn=>(Sum.inr n,V.str MS))))) v=some (.dK (K6 C ((D9 p (C5 j) f).map λn=>(Sum.inr n,V.str MS)))):=A9;generalize K6 C ((D9 p (C5 j) f).map λn=>(Sum.inr n,V.str MS))=I at k1 m1 k7 L7 d7 w7⊢;generalize HU H6 v (.dK I)=H7 at k7 L7 d7 w7⊢;have k1:WD I (b9 p (C5 j) f):=k1;clear s6 e6 t6 q6 s5 Y e5 Z w6 d6 hE1 Lr e4 s4 n4;refine hM2 _ _ (B5 λM3 hM3=>?_);have n7:=k7 _ _ n1;refine A7 rfl ⟨n,_,rfl,HY.of n7,λl2 t2 hl2 p2 w2=>⟨l2,rfl,⟨_,HY.of A9⟩,λD2 hD2=>?_⟩⟩;cases Y0 w2 so (p2.trans pn.symm);have u8:=CW.new (o:=.lst (p.map V.str)) hl2;have nx:b9 p (C5 j) f=b9 p (C5 j) f:=rfl;generalize hg1:b9 p (C5 j) f=u at k1;refine V9 (λy=>(u y).isNone&&F5 j u y) A9 (by lia) hD2 (λy hy G O Q' hQ=>?_) (λσ H9 s9 e9=>?_) _
   .have sG:=k7.trans (u8.trans O);refine A7 rfl (A7 rfl ⟨v,_,rfl,KD.k (k:=Sum.inr y) ((u8.trans O) _ _ w7),_,rfl,?_⟩);rw[k1 y];have R:=hQ G λb o e=>e;cases ef:u y with
    | some z=>rw[ef]at R;exact X0 R
    | none =>
     refine g9 ?_;obtain⟨ls,h1,h2⟩:=(st.same sG) y (inn hy);refine A7 rfl (A7 rfl ⟨d,_,rfl,by rw[<-h1];exact KD.k (k:=Sum.inr y) (sG _ _ ed),A7 rfl ⟨ls,v,y,j,_,u,rfl,h2,hO.len,(u8.trans O) _ _ w7,k1,λG' sg'=>⟨_,rfl,?_⟩⟩⟩);have:=hQ G' sg';rw[ef]at this;exact this
   rw[Xb]at e9;have S:=u8.trans s9;have e79:=S _ _ w7;have i2:=Lk (A:=F5 j) (f:=u) (w:=JS) nn;have l1':=lin (C5 j) f;have l2':=lin (F5 j) u;clear hD2 u8 p2 w2;refine hM3 _ _ (B5 λM4 hM4=>?_);refine A7 rfl ⟨v,rfl,.inl ⟨_,.inl e79⟩,A7 rfl ⟨D2,rfl,⟨_,HY.of e9⟩,λE2 hE2=>?_⟩⟩;refine Lp (w:=JS) e9 (Nat.le_trans l2' (by decide)) hE2 (λσ qs2 HA sA eA tA qA=>?_) _;have k2:=k1.mrg (w:=JS) (l:=D9 p (F5 j) u);have m2:=K7 I ((D9 p (F5 j) u).map λn=>(Sum.inr n,V.str JS));rw[AA]at m2;have lq2:=congrArg List.length qA;rw[AA,AA]at lq2;refine⟨E2,I,qs2,rfl,sA _ _ e79,eA,tA,by rw[sizeLine_eq];lia,?_⟩;rw[qA];have dA:=sA _ _ e9;have wA:=sA _ _ e79;have nD2:D2≠v:=J8 dA wA (by intro z;cases z);have kB:=((k7.trans S).trans sA).upd (o:=.dK (K6 I ((D9 p (F5 j) u).map λn=>(Sum.inr n,V.str JS)))) hwd;have LB:=((L7.same S).same sA).smd (H':=HU HA v (.dK (K6 I ((D9 p (F5 j) u).map λn=>(Sum.inr n,V.str JS))))) wA ((Sm.refl [v] HA).upd (by simp));have aB:(HU HA v (.dK (K6 I ((D9 p (F5 j) u).map λn=>(Sum.inr n,V.str JS))))) D1=some (.lst ((D9 p (C5 j) f).map V.str)):=(B8 nD1).trans (sA _ _ (S _ _ d7));have bB:(HU HA v (.dK (K6 I ((D9 p (F5 j) u).map λn=>(Sum.inr n,V.str JS))))) D2=some (.lst ((D9 p (F5 j) u).map V.str)):=(B8 nD2).trans dA;have wB:(HU HA v (.dK (K6 I ((D9 p (F5 j) u).map λn=>(Sum.inr n,V.str JS))))) v=some (.dK (K6 I ((D9 p (F5 j) u).map λn=>(Sum.inr n,V.str JS)))):=A9;generalize K6 I ((D9 p (F5 j) u).map λn=>(Sum.inr n,V.str JS))=kv2 at k2 m2 kB LB aB bB wB⊢;generalize HU HA v (.dK kv2)=HB at kB LB aB bB wB⊢;clear sA eA tA qA s9 S e9 e79 wA dA hE2 L7 w7 k7 n7 d7;refine hM4 _ _ (B5 λM5 hM5=>?_);refine A7 rfl (A7 rfl ⟨D1,rfl,⟨_,HY.of aB⟩,λR1 hR1=>?_⟩);refine u9 (v3:=.int num) (λ_=>true) aB (Nat.le_trans l1' (by decide)) hR1 (λy G Q' N=>⟨_,rfl,N⟩) (λy hy G O Q' N=>N) (λσ L HC sC LC qC=>?_) _;rw[Q0]at qC;have lr1:=congrArg List.length qC;rw[AA,AA]at lr1;have LBC:=LB.same sC;refine⟨r,R1,_,_,rfl,rfl,LBC.1,LC.1,by rw[AA,AA,sizeLine_eq];lia,λc1 hc1=>?_⟩;have uD:=CW.new (o:=.lst ((M.map λq=>V.ref q.1)++L.map λq=>V.ref q.1)) hc1;have LD:=LBC.app LC (H':=HU HC c1 (.lst ((M.map λq=>V.ref q.1)++L.map λq=>V.ref q.1))) A9 λq o e=>uD _ _ e;generalize HU HC c1 (.lst ((M.map λq=>V.ref q.1)++L.map λq=>V.ref q.1))=HD at uD LD⊢;have sBD:=sC.trans uD;refine A7 rfl ⟨D2,rfl,⟨_,HY.of (sBD _ _ bB)⟩,λR2 hR2=>?_⟩;refine u9 (v3:=.int num) (λ_=>true) (sBD _ _ bB) (Nat.le_trans l2' (by decide)) hR2 (λy G Q' N=>⟨_,rfl,N⟩) (λy hy G O Q' N=>N) (λσ J HE sE LE qE=>?_) _;rw[Q0]at qE;have lr2:=congrArg List.length qE;rw[AA,AA]at lr2;have LDE:=LD.same sE;refine⟨c1,R2,_,_,rfl,rfl,LDE.1,LE.1,by rw[AA,AA,AW,sizeLine_eq];lia,λc2 hc2=>?_⟩;have uF:=CW.new (o:=.lst (((M++L).map λq=>V.ref q.1)++J.map λq=>V.ref q.1)) hc2;have LF:=LDE.app LE (H':=HU HE c2 (.lst (((M++L).map λq=>V.ref q.1)++J.map λq=>V.ref q.1))) A9 λq o e=>uF _ _ e;generalize HU HE c2 (.lst (((M++L).map λq=>V.ref q.1)++J.map λq=>V.ref q.1))=HF at uF LF⊢;have U:=sBD.trans (sE.trans uF);have aF:=U _ _ aB;have bF:=U _ _ bB;have wF:=U _ _ wB;have kF:=kB.trans U;clear LE LDE LD LC LBC LB sE sC sBD uD uF U aB bB wB kB hR1 hR2;have eqr:((M++L++J).map λq=>q.2) =(M.map λq=>q.2)++S0 p (C5 j) (F5 j) f num:=by
    unfold S0;rw[AF,AF,qC,qE,BF,hg1]
   refine hM5 _ _ (B5 λM6 hM6=>?_);refine A7 rfl (A7 rfl ⟨D1,D2,_,_,rfl,rfl,aF,bF,by rw[AA,AA,sizeLine_eq];lia,λc hc=>⟨BR _,?_⟩⟩);have uG:=CW.new (o:=.lst ((D9 p (C5 j) f).map V.str ++(D9 p (F5 j) u).map V.str)) hc;have eG:(HU HF c (.lst ((D9 p (C5 j) f).map V.str ++(D9 p (F5 j) u).map V.str))) c=some (.lst ((D9 p (C5 j) f++D9 p (F5 j) u).map V.str)):=by rw[A9,AF]
   refine Po eG (λx hx=>hN.1 x (inn ((AH.mp hx).elim (λz=>(X5 z).1) λz=>(X5 z).1))) λHG sG=>?_;have sFG:=uG.trans sG;refine hM6 _ _ ?_;refine A7 rfl ⟨_,_,rfl,rfl,?_⟩;have nxe:NW p (C5 j) (F5 j) f=Rf u (D9 p (F5 j) u) JS:=by unfold NW;rw[hg1]
   have k2:WD kv2 (NW p (C5 j) (F5 j) f):=by rw[nxe];exact k2
   have i1:(wl p u).length +(D9 p (C5 j) f).length<=(wl p f).length:=by rw[<-hg1];exact i1
   rw[<-nxe]at i2;have lz:∀b:Bool,(if b=true then 1 else 0)<=1:=λb=>by cases b<;>decide
   have emp:S0 p (C5 j) (F5 j) f num = []↔(D9 p (C5 j) f++D9 p (F5 j) u).isEmpty=true:=by rw[<-hg1];exact Dz
   have ll:(D9 p (C5 j) f++D9 p (F5 j) u).length=_:=AW;generalize (D9 p (C5 j) f++D9 p (F5 j) u)=W at emp ll;refine⟨(wl p (NW p (C5 j) (F5 j) f)).length +(if(!W.isEmpty)=true then 1 else 0),?_,_,_,c2,_,_,kv2,_,M++L++J,rfl,kF.trans sFG,sFG _ _ wF,k2,LF.same sFG,λhb t ht=>?_,λhb=>?_,rfl,by lia,by rw[AW,AW];lia⟩
   .cases W with
    | nil=>show _+0<_+1;lia
    | cons b r=>show _+1<_+1;rw[BK]at ll;lia
   .rw[eqr,BF];exact W4 _ (.step (λc=>by rw[emp.mp c]at hb;cases hb) ht)
   .have c:=emp.mpr (by cases e:W.isEmpty with | true=>rfl | false=>rw[e]at hb;cases hb);rw[eqr,c,Mv c,CB];exact W4 _ (.stop c)
end
abbrev SR:A0 Str:=["", "nobody"]
def Zb{K:PySem.W.Frag}{H G:Hp}{u p:A2}{xs:A0 V}{ls:A0 (Pos×Str)}(h:HY K H u xs)(t:Ae H p ls)(k:Sm [p] H G):HY K G u xs:=by
 obtain⟨b,e,_⟩:=t;have kk:∀{o:HO},H u=some o->o≠ .tbl b->G u=some o:=λa n=>k _ _ a λy=>by rw[AC.mp y,e]at a;cases a;exact n rfl
 rcases h with(h | ⟨o,h⟩) | h
 .exact .inl (.inl (kk h (by intro z;cases z)))
 .exact .inl (.inr ⟨o,kk h (by intro z;cases z)⟩)
 .exact .inr h
def Xa{b a:A0 JK}(d:a.map dS=b.map dS){q:JK}(h:q∈a):∃c∈b,dS c=dS q:=by
 have:dS q∈a.map dS:=AI.mpr ⟨q,h,rfl⟩;rw[d]at this;exact AI.mp this
def PV.of_dS{k:A0 JJ}{c a:A0 JK}{st:A0 JD}{m:A0 IU}(h:PV k c st m)(d:a.map dS=c.map dS):PV k a st m:=by
 have e:nS a=nS c:=by
  have:=congrArg (List.map λq:Str×Str×A0 Str=>q.1) d;rw[AN,AN]at this;exact this
 have l:a.length=c.length:=by
  have:=congrArg List.length d
  rwa [AA,AA]at this
 refine⟨by rw[l];exact h.len,h.pn,h.pm,by rw[e];exact h.sn,by rw[e];exact h.nm,λq f=>?_,λq f=>?_,by rw[e];exact h.tg,h.bn,by rw[e];exact h.bk⟩
 .obtain⟨b,g,i⟩:=Xa d f;have:=h.kd b g;have j:b.2.2.1=q.2.2.1:=congrArg (λz:Str×Str×A0 Str=>z.2.1) i
  rwa [j]at this
 .obtain⟨b,g,i⟩:=Xa d f;have:=h.sk b g;have j:b.2.2.2.2=q.2.2.2.2:=congrArg (λz:Str×Str×A0 Str=>z.2.2) i
  rwa [j]at this
def Xw(b:A0 JJ)(a:A0 JK)(m:Str):((Fs a m).map λq=>Od b q.2.2.1 q.2.2.2.2) =((a.map dS).find? λd=>decide (d.1=m)).map λd=>Od b d.2.1 d.2.2:=by
 unfold Fs;rw[List.find?_map];have e:((λd:Str×Str×A0 Str=>decide (d.1=m))∘dS)=λq:JK=>decide (q.2.1=m):=rfl;rw[e];cases a.find? λq:JK=>decide (q.2.1=m)<;>rfl
def zDa{b:A0 JJ}{c a:A0 JK}{st:A0 JD}(d:a.map dS=c.map dS)(n:Str):d9 b a st n=d9 b c st n:=by
 unfold d9;rw[Xw,Xw,d]
def Tg{b:A0 JJ}{c a:A0 JK}{st:A0 JD}(d:a.map dS=c.map dS):OV b a st=OV b c st:=by
 unfold OV;simp only[zDa d]
def zAe{K:PySem.W.Frag}{l D:A2}{c:A0 (A2×Row)}{r:St}{g:A6 V}{H:Hp}{Q:St->Hp->Prop}(L:RL H l c)(n:c.length<=1000)(j:H D=none)
  (h:∀σ (ps:A0 IU) G,CW H G->G D=some (.lst (ps.map λq=>V.ref q.1))->(∀q∈ps,I9 G q)->(ps.map λq=>q.2)=c.map (λq=>(q.2.1,q.2.2.1))->Q σ G) :
  Aa (P9 0) V7 (X3 D (tSl (zFi K) (Jw 0) Qh (zBl (tC (V.int 2))))) (SM K l) (g::r) (HU H D (.lst [])) Q:=by
 refine J6 (KI (K:=K) (HY.of L.1)) (λi σ G=>(∃v,σ=v::r)/\CW H G/\∃ps:A0 IU,G D=some (.lst (ps.map λq=>V.ref q.1))/\(∀q∈ps,I9 G q)/\(ps.map λq=>q.2) =(c.take i).map (λq=>(q.2.1,q.2.2.1)))
  ⟨⟨_,rfl⟩,CW.new j,[],A9,λq h=>absurd h AL,rfl⟩ (λi σ G _ ⟨_,s,_⟩=>s.at l) ?_ ?_
 .rintro i σ G v N k ⟨⟨g,rfl⟩,d,ps,a,e,b⟩ p;rw[AG]at k;obtain⟨q,f,rfl⟩:=AV.mp k;have E:=(AR.mp f).1;have w:=d _ _ (L.2 q (AM f));have x:=congrArg List.length b;rw[AA,AA,AO]at x;refine S3 (A7 rfl (A7 rfl ⟨q.1,_,rfl,JC.of w,?_,λt m=>?_⟩))
  .show ¬(HT.KE 3 0 none=0/\HT.KE 3 3 (some 2)=3);decide
  have A:Ao [V.str q.2.1,V.str q.2.2.1,q.2.2.2] none (some 2) = [V.str q.2.1,V.str q.2.2.1]:=rfl;rw[A];have u:=CW.new (o:=.tup [V.str q.2.1,V.str q.2.2.1]) m;have B:t≠D:=(B3 a m).symm;refine⟨_,u _ _ a,by rw[AA,sizeLine_eq];lia,p _ _ ⟨⟨_,rfl⟩,(d.trans u).upd j,ps ++ [(t,q.2.1,q.2.2.1)],by rw[A9,AF];rfl,λz C=>?_,by rw[AF,b,C7 f,AF];rfl⟩⟩;rcases AH.mp C with z' | z'
  .exact(B8 (J8 (e z z') a (by intro y;cases y))).trans (u _ _ (e z z'))
  .rw[AC.mp z'];exact(B8 B).trans A9
 .rintro σ G ⟨_,d,ps,a,e,b⟩;rw[AA,BM]at b;exact h σ ps G d a e b
def zEy{d:A0 JJ}{b:A0 JK}{st:A0 JD}{c:A0 IU}(i:PV d b st c){n:Str}(j:n∈nS b)(h1:∀q∈st,q.2.2.2≠n)(h2:∀q∈c,q.2.1≠n)(a:Str):¬Um d b st c (a,n):=by
 rintro⟨_,y,k,_,h | ⟨z,l,e,_⟩⟩
 .have f:y∈st:=CG k;by_cases g:y.2.2.2∈nS b
  .have h:QV (z9 c) [y.2.2.2] n:=by
    have h:(if y.2.2.2∈nS b then QV (z9 c) [y.2.2.2] n else n=y.2.2.2):=h
    rwa [AY g]at h
   refine h (λv=>v≠n) (λv m=>by rw[AC.mp m];exact h1 y f) (λv z _ o=>?_) rfl;obtain⟨q,p,rfl⟩:=AI.mp o;exact h2 q (BV.mp p).1
  .have h:n=y.2.2.2:=by
    have h:(if y.2.2.2∈nS b then QV (z9 c) [y.2.2.2] n else n=y.2.2.2):=h
    rwa [AS g]at h
   exact h1 y f h.symm
 .exact(BU.mp i.sn).2.2 _ j _ (AI.mpr ⟨z,l,rfl⟩) e.symm
section
variable{P:Cv}{w:HS}{K:PySem.W.Frag}{mg:Str->A6 A1}{base:HX}
theorem KB:HW ["_law_script", "_law_k", "_law_left_here", "_law_rows", "_law_weave", "_law_names", "_law_pairs", "_law_words", "_law_known", "_law_turn", "_law_name", "_law_found", "_law_met"] ["_law_script"] (B6 ON):=KA
def Kx(K:PySem.W.Frag)(b:A2):Sp:=λc H Q _=>∃(u:A2) (a:A0 Int),c = [.ref u]/\HY K H u (a.map V.int)/\a.length<=63/\Ae H b Z7/\∀d,Q (.bl true) d
set_option maxHeartbeats 8000000 in
theorem zDu(T:Tx K mg)(hB:base.BuiltinsAt mg T.ae){f:A2}{fd:IJ}(F:N_ K "law" "law" ON f fd):II P w K mg base JG 10 f fd ["_law_script"] (Kx K T.ae):=by
 have R:=Ed (P:=P) (w:=w) (base:=base) T;have I:=Dx (P:=P) (w:=w) T hB;refine F.o1 KB λcdv A outer s H vs Q E hr h=>?_
 .obtain⟨u,xs,rfl,hS,hlen,hT,q⟩:=h;have hu:=U0 hr;refine⟨_,(B2 (P0 PassesOwn.never rfl (Yq T.aD (A8 (F9 V2 (G0 (Sx rfl) T.cl zCo (A8 B4 (A8 (G0 (U2 K) T.ap Q5 (A8 (pv 0) B0)) B0))) B4) B0)) (E4 (i:=1) KB.nd rfl (.inl rfl))
   (B2 (C2 (i:=2) KB.nd rfl (.inl rfl) (C8 T.bc (Jc T) (Rm hr) (A8 (pv 0) (A8 (pv 1) B0))))
   (B2 (Ip (F9 V2 (D6 (KL K) (pv 2) B4 (λ_ _=>rfl)) B4) (Pm (pv 2) B4 Ej))
   (B2 (C2 (i:=3) KB.nd rfl (.inl rfl) (C8 T.az (y6 T) (Rm hr) (A8 (pv 2) (A8 B4 B0))))
   (B2 (C2 (i:=4) KB.nd rfl (.inr rfl) (Qt T.cf I (Rm hr) rfl T.ce T.bK .nil Hc (A8 (D6 (KL K) (pv 3) B4 (λ_ _=>rfl)) (A8 (D6 (KL K) (pv 3) B4 (λ_ _=>rfl)) (A8 (D6 (KL K) (pv 3) B4 (λ_ _=>rfl)) (A8 (D6 (KL K) (pv 3) B4 (λ_ _=>rfl)) B0))))))
   (B2 (Ip (C8 T.a6 (Gm T) (Rm hr) (A8 (pv 3) B0)) (Q_ K (n:=2) (C6 (E4 (i:=5) KB.nd rfl (.inl rfl)) (C6 (E4 (i:=6) KB.nd rfl (.inl rfl)) J9))))
   (B2 (C2 (i:=7) KB.nd rfl (.inl rfl) (V4 An T.bh Bq (A8 (J1 (N':=["_law_row"]) (cap:=[none]) (cl:=[]) (E9 trivial trivial) rfl (JX K (C8 T.aY R (Rm hr) (A8 (pv 5) (A8 (pv 6) B0)))) (λ_ _ _ _=>by exact⟨(JQ 0),D8,(o0 (slT K) (pv 0) Ba (Bc B4))⟩)) B0)))
   (B2 (U8 (i:=8) (N':=["_law_row"]) (cap:=[none]) (cl:=[]) KB.nd rfl (.inl rfl) (E9 trivial trivial) rfl (JX K (F9 K4 (D6 (KL K) (pv 3) B4 (λ_ _=>rfl)) (D6 (KL K) (pv 3) B4 (λ_ _=>rfl)))) (λ_ _ _ _=>by exact⟨(JQ 0),D8,(D6 (LM K) (pv 0) B4 (λ_ _=>rfl))⟩))
   (B2 (P0 PassesOwn.never rfl (Yq T.aD (A8 B4 B0)) (E4 (i:=9) KB.nd rfl (.inl rfl))
   (B7 (P0 PassesOwn.never rfl (JX K (pv 8)) (E4 (i:=10) KB.nd rfl (.inl rfl))
   (B2 (C2 (i:=11) KB.nd rfl (.inl rfl) (C8 T.al (Cy T) (Rm hr) (A8 (pv 4) (A8 (pv 10) B0))))
   (B7 (K5 (PW.pt (Az (Q8 (K1 (G0 (p9 K) T.ah F4 (A8 (pv 11) (A8 (Em T.b6 Xg) B0))))) (Y7 (C9 Rk (pv 11) (Y1 hu (pv 7) (pv 10) E3 ⟨rfl,rfl,rfl,rfl⟩) (F6 _))))) (B7 (C3 Cn)) E6))))))
   (B2 (P0 PassesOwn.never rfl (JX K (F9 K4 (J1 (N':=["_law_row"]) (cap:=[none]) (cl:=[]) (E9 trivial trivial) rfl (JX K (D6 (KL K) (pv 3) B4 (λ_ _=>rfl))) (λ_ _ _ _=>by exact⟨(JQ 0),D8,(D6 (LM K) (pv 0) B4 (λ_ _=>rfl))⟩)) (F7 (A8 E3 (A8 E3 B0))))) (E4 (i:=10) KB.nd rfl (.inl rfl))
   (B7 (K5 (PW.pt (Ds (C9 (S2 K) (pv 10) (pv 8) rfl) (w9 (C9 (Vf K hr.units) (C8 T.a7 (Hm T) (Rm hr) (A8 (Be T.al.m) (A8 (pv 4) (A8 (pv 10) B0)))) (J7 (A8 E3 (A8 E3 B0))) (F6 _))))) (B7 (C3 Cn)) E6)))
   (B2 (C2 (i:=12) KB.nd rfl (.inr rfl) (F9 K4 (J1 (N':=["_law_name", "_law_one", "_law_goal"]) (cap:=[none,none,none]) (cl:=[]) (E9 trivial trivial) rfl (JX K (D6 (KL K) (pv 3) B4 (λ_ _=>rfl))) (λ_ _ _ _=>by exact⟨(Q_ K (n:=3) (C6 (JQ 0) (C6 (JQ 1) (C6 (JQ 2) J9)))),D8,(pv 2)⟩)) (J1 (N':=["_law_one", "_law_other"]) (cap:=[none,none]) (cl:=[]) (E9 trivial trivial) rfl (JX K (D6 (KL K) (pv 3) B4 (λ_ _=>rfl))) (λ_ _ _ _=>by exact⟨(Q_ K (n:=2) (C6 (JQ 0) (C6 (JQ 1) J9))),D8,(pv 0)⟩))))
   (B7 (K5 (Q8 (K1 (G0 (Hj K) T.bp Hi (A8 (J1 (N':=["_law_name", "_law_weave", "_law_met"]) (cap:=[none,some 4,some 12]) (cl:=[("_law_weave",_),("_law_met",_)]) (E9 ⟨⟨rfl,rfl,rfl,rfl⟩,⟨⟨rfl,rfl,rfl,rfl⟩,trivial⟩⟩ ⟨rfl,⟨rfl,trivial⟩⟩) rfl (JX K (J1 (N':=["_law_row"]) (cap:=[none]) (cl:=[]) (E9 trivial trivial) rfl (JX K (D6 (KL K) (pv 3) B4 (λ_ _=>rfl))) (λ_ _ _ _=>by exact⟨(JQ 0),D8,(D6 (LM K) (pv 0) B4 (λ_ _=>rfl))⟩))) (λ_ _ _ _=>by exact⟨(JQ 0),(J5 (C9 (S2 K) (pv 0) (pv 2) rfl)),(I0 i0 (C8 T.al (Cy T) (Rm hr) (A8 (pv 1) (A8 (pv 0) B0))) E3 (F6 _))⟩)) B0)))) (B7 (C3 Cn)) E6)))))))))))))
   (B7 (C3 Cn))),?_⟩
  refine B5 λN0 hN0=>?_;refine⟨_,rfl,u,_,rfl,.inl hS,_,_,rfl,?_⟩;have hz:∀l:Int,0<=l->∃z:Nat,(if l <(3:Int)then l else 3)+1 =(z:Int)/\z<=4:=λl h0=>by
   by_cases h1:l <(3:Int)
   .rw[AY h1];exact⟨l.toNat+1,by lia,by lia⟩
   .rw[AS h1];exact⟨4,by decide,by decide⟩
  obtain⟨z,ez,hz⟩:=hz ((xs.map V.int).length:Int) (by lia);refine C1 rfl rfl (A7 (a:=(z:Int)) (congrArg (λt=>[V.int t]) ez) ⟨by lia,by lia,?_⟩);rw[DK];refine U4 (λi σ G=>(∃v1 v2 v3 v4 v5 v6 v7 v8 v9 J L O,σ = [some (.ref u),v1,v2,v3,v4,v5,v6,v7,v8,v9,J,L,O])/\Sm [T.ae] H G/\Ae G T.ae Z7) ?_ ?_ ?_
  .exact⟨⟨_,_,_,_,_,_,_,_,_,_,_,_,rfl⟩,Sm.refl _ _,hT⟩
  .rintro i σ F0 hi ⟨⟨v1,v2,v3,v4,v5,v6,v7,v8,v9,J,L,O,rfl⟩,kF,TF⟩ D1 hD1 _;rw[Int.zero_add];refine Ya λM1 hM1=>?_;refine A7 rfl (A7 rfl ⟨u,xs,i,rfl,Zb hS hT kF,by lia,λp H1 hp s1 L1=>?_⟩);refine hM1 _ _ (B5 λM2 hM2=>?_);obtain⟨la0,Y,e1,_⟩:=L1;refine A7 rfl ⟨p,_,C1 rfl rfl ⟨HY.of e1,rfl,_,_,rfl,rfl,A7 rfl ⟨p,_,_,1,rfl,rfl,e1,rfl,?_⟩⟩⟩;have s2:CW F0 (HU H1 p (.lst (List.set [V.int la0,V.int Y,V.int 0] 1 (V.int (Y+500))))):=s1.upd hp;have L2:IH (HU H1 p (.lst (List.set [V.int la0,V.int Y,V.int 0] 1 (V.int (Y+500))))) p 0:=⟨la0,Y+500,A9,Int.le_refl _⟩;have hp0:F0 p=none:=hp;generalize HU H1 p (.lst (List.set [V.int la0,V.int Y,V.int 0] 1 (V.int (Y+500))))=H2 at s2 L2⊢;refine hM2 _ _ (B5 λM3 hM3=>?_);refine A7 rfl ⟨p,0,rfl,L2,by lia,λr a b g d S W st ba c' H3 k3 er W3 ok A3 sz1 sz2 L3 hc3=>?_⟩;have s3:CW F0 H3:=λb o e=>k3 b o (s2 b o e) (by simpa using B3 e hp0);clear L3 hc3 k3 s2 L2 e1 s1 hp;refine hM3 _ _ (B5 λM4 hM4=>?_);refine A7 rfl ⟨r,_,C1 rfl rfl ⟨HY.of er,B9 (j:=0) rfl,A7 rfl ⟨r,_,C1 rfl rfl ⟨HY.of er,B9 (j:=1) rfl,A7 rfl ⟨r,_,C1 rfl rfl ⟨HY.of er,B9 (j:=2) rfl,A7 rfl ⟨r,_,C1 rfl rfl ⟨HY.of er,B9 (j:=3) rfl,?_⟩⟩⟩⟩⟩⟩⟩⟩;intro x dx nx ndx nex;have s0:CW H3 (HU (HU H3 dx (.own x)) x (.ins T.aa dx [])):=λb o e=>by
    rw[B8 (B3 e nx),B8 (B3 e ndx)];exact e
   have TG:=K0 TF s3;refine⟨x,dx,a,b,g,d,S,W,st,ba,rfl,A9,W3.same s0,ok,K0 TG s0,λZ H6 k6 T6 d6 W6=>⟨rfl,?_⟩⟩;have k46:∀z o,H3 z=some o->z≠T.ae->H6 z=some o:=λz o e n=>k6 z o (s0 _ _ e) λy=>by
    rcases A_.mp y with y | y
    .rw[y,nx]at e;cases e
    .exact n (AC.mp y)
   have S6:Sm [T.ae] F0 H6:=λz o e n=>k46 z o (s3 _ _ e) λy=>n (AC.mpr y);have V6:=W3.keep TG k46;have er6:H6 r=some (.lst [.ref a,.ref b,.ref g,.ref d]):=k46 _ _ er λy=>by
    obtain⟨ps,e',_⟩:=TG;rw[y,e']at er;cases er
   have W6:=W6.at_;have ok6:=ok.of_dS d6;clear k46 k6 s0 TG W3 er s3 nx ndx nex;have nn:∀q∈S,0<=q.2.2:=λq hq=>(ok.pm q hq).2.1;obtain⟨l1,l2,l3,l4⟩:=ok.len;have l2':=ok6.len.2.1;refine hM4 _ _ (B5 λM5 hM5=>?_);refine A7 rfl ⟨r,a,b,g,d,S,W,st,ba,rfl,er6,V6,ok,sz1,sz2,λt n m ns ps H7 s7 et en pn sn em pm Os so mm=>?_⟩;refine⟨t,A7 rfl ⟨JC.of et,rfl,_,A7 rfl (C1 rfl rfl ?_)⟩⟩;have eS:=zFl d6;have eN:Ak S Z st=Ak S W st:=by unfold Ak;rw[Tg d6,eS]
   have eP:∀k,Um S Z st ba k↔Um S W st ba k:=λk=>by unfold Um Xq Hit;rw[Tg d6,eN,eS]
   have eR:∀B,OW S Z st ba B->OW S W st ba B:=λB ⟨ns,qs,h1,h2,h3,h4⟩=>⟨ns,qs,by rw[<-eN];exact h1,h2,λk=>(h3 k).trans (eP k),h4⟩;have kN:=Qd ok;have nOk:Q1 ns:=⟨λy hy=>kN.1 y (pn.mem_iff.mp hy),pn.nodup_iff.mpr kN.2.1,by rw[pn.length_eq];exact kN.2.2⟩;have sz1':Z.length<=12:=by have:=congrArg List.length d6;rw[AA,AA]at this;lia
   refine hM5 _ _ (B5 λM6 hM6=>?_);refine A7 rfl (A7 rfl ⟨n,m,ns,ns,ps,rfl,en,nOk,em,pm,Os,.refl _,sn,λl rs H9 s9 hl R9 q9 len9=>⟨l,rfl,⟨_,HY.of R9.1⟩,λD hD=>zAe R9 (by lia) hD λσ' pz G C eG pG mG=>?_⟩⟩);obtain⟨B,erows⟩:∃B,B=rs.map λq=>q.2:=⟨_,rfl⟩;have hR:OW S W st ba B:=⟨ns,ps,pn,sn,mm,by rw[erows];exact q9⟩;have lz:pz.length<=100:=by
    have:=congrArg List.length mG;rw[AA,AA]at this;lia
   refine⟨D,pz.map λq=>(q.1,(Sum.inr q.2.1:IL),V.str q.2.2),rfl,by rw[AN];exact eG,λz hz=>?_,by rw[AA];lia,λo1 ho1=>?_⟩
   .obtain⟨y,hy,rfl⟩:=AI.mp hz;exact pG y hy
   have ew:K6 [] ((pz.map λq=>(q.1,(Sum.inr q.2.1:IL),V.str q.2.2)).map λq=>q.2)=K6 [] (SF B):=by
    have e1:((pz.map λq=>(q.1,(Sum.inr q.2.1:IL),V.str q.2.2)).map λq=>q.2) =(pz.map λq=>q.2).map λk:Str×Str=>((Sum.inr k.1:IL),V.str k.2):=by rw[AN,AN];rfl
    rw[e1,mG,erows];unfold SF;rw[AN,AN];rfl
   rw[ew];have u1:=CW.new (o:=.dK (K6 [] (SF B))) ho1;have f8:(HU G o1 (.dK (K6 [] (SF B)))) o1=some (.dK (K6 [] (SF B))):=A9;have s68:=((s7.trans s9).trans C).trans u1;generalize HU G o1 (.dK (K6 [] (SF B)))=H8 at u1 f8 s68⊢;have W8:=W6.same s68;have V8:=V6.same s68;have er8:=s68 _ _ er6;have T8:=K0 T6 s68;have S8:Sm [T.ae] F0 H8:=S6.trans s68.sm;clear s68 u1 ew ho1 lz mG pG eG C hD q9 len9 R9 hl s9 erows W6 V6 er6 T6 S6 em pm Os so mm et s7 pn sn en nOk;refine hM6 _ _ (B5 λM7 hM7=>?_);refine A7 rfl ⟨r,_,C1 rfl rfl ⟨HY.of er8,B9 (j:=1) rfl,A7 rfl ⟨r,_,C1 rfl rfl ⟨HY.of er8,B9 (j:=2) rfl,b,g,_,_,rfl,rfl,V8.hs.at_,V8.ht.at_,by rw[AA,AA,AA,AA,sizeLine_eq];lia,λz hz=>?_⟩⟩⟩⟩;have uz:=CW.new (o:=.lst (((W.map rS).map λq=>V.ref q.1) ++(st.map rT).map λq=>V.ref q.1)) hz;have fz:(HU H8 z (.lst (((W.map rS).map λq=>V.ref q.1) ++(st.map rT).map λq=>V.ref q.1))) z=some (.lst ((W.map rS++st.map rT).map λq=>V.ref q.1)):=by rw[A9,AF]
   generalize HU H8 z (.lst (((W.map rS).map λq=>V.ref q.1) ++(st.map rT).map λq=>V.ref q.1))=H9 at uz fz⊢;have Rz:IQ H9 z (W.map rS++st.map rT):=⟨fz,λq hq=>(AH.mp hq).elim (λh=>uz _ _ (V8.hs.row q h)) λh=>uz _ _ (V8.ht.row q h)⟩;refine⟨z,rfl,⟨_,HY.of fz⟩,λD hD=>?_⟩;refine Bw (r:=λq:RW=>V.ref q.1) (λq=>V.str q.2.1) (KI (HY.of fz)) (λ_=>true) (by rw[AW,AA,AA];lia) hD (λy X G C M U=>U G λb o e=>e) (λy X G C M U=>?_) λσ' HA sA eA=>?_
   .exact A7 rfl ⟨y.1,_,C1 rfl rfl ⟨JC.of (C _ _ (Rz.row y X)),B9 (j:=0) rfl,U G λb o e=>e⟩⟩
   have eA:HA D=some (.lst ((nS W++nT st).map V.str)):=by
    rw[eA,CV.mpr λ_ _=>rfl,AF,AF,AN,AN];unfold nS nT;rw[AN,AN];rfl
   have s8A:=uz.trans sA;have WA:=W8.same s8A;have VA:=V8.same s8A;have erA:=s8A _ _ er8;have fA:=s8A _ _ f8;have TA:=K0 T8 s8A;have SA:Sm [T.ae] F0 HA:=S8.trans s8A.sm;clear s8A sA uz fz Rz hD W8 V8 er8 T8 S8 f8;refine hM7 _ _ (B5 λM8 hM8=>?_);refine A7 rfl ⟨by decide,by decide,?_⟩;refine U4 (n:=2) (λi' σ G=>(∃v9 J L O,σ = [some (.ref u),some (.int (i:Int)),some (.ref p),some (.ref r),some (.ref x),some (.ref n),some (.ref m),some (.ref o1),some (.ref D),v9,J,L,O])/\CW HA G) ?_ ?_ ?_
   .exact⟨⟨_,_,_,_,rfl⟩,λ_ _ e=>e⟩
   .rintro i' σ G hi' ⟨⟨v9,J,L,O,rfl⟩,C⟩ D2 hD2 _;refine A7 rfl ⟨D,rfl,⟨_,HY.of (C _ _ eA)⟩,V0 (KI (HY.of (C _ _ eA))) (λj σ G2=>(∃J L O,σ = [some (.ref u),some (.int (i:Int)),some (.ref p),some (.ref r),some (.ref x),some (.ref n),some (.ref m),some (.ref o1),some (.ref D),some (.int (0 +(i':Int))),J,L,O])/\CW HA G2) ?_ ?_ ?_ ?_⟩
    .exact⟨⟨_,_,_,rfl⟩,C⟩
    .rintro j σ G2 _ ⟨_,s2⟩ o e;rw[C _ _ eA]at e;cases e;exact s2 _ _ eA
    .rintro j σ G2 v hv ⟨⟨J,L,O,rfl⟩,s2⟩ D3 hD3 _;rw[AG]at hv;obtain⟨y,hy,rfl⟩:=AV.mp hv;have X:=AH.mp (AM hy);refine Ya λB1 hB1=>?_;refine A7 rfl (A7 rfl ⟨x,S,Z,st,ba,y,rfl,WA.same s2,ok6,sz1',sz2,by rw[eS];exact X,λrows' G3 s3 hR'=>?_⟩);have erw:=(eR _ hR').one hR;subst erw;obtain⟨sw,esw,osw⟩:=hR.str y;rw[esw];refine hB1 _ _ ?_;refine A7 rfl ⟨.str sw, "str",_,true,rfl,.str sw,rfl,⟨_,rfl,X0 ?_⟩⟩;refine A7 rfl (A7 rfl ⟨o1,rfl,.inl ⟨_,.inl (s3 _ _ (s2 _ _ fA))⟩,A7 rfl ⟨_,KD.k (k:=Sum.inr y) (s3 _ _ (s2 _ _ fA)),?_⟩⟩);have e2:(U1 (K6 [] (SF rows')) (Sum.inr y)).getD (.str "none") = .str sw:=esw;rw[e2];exact⟨rfl,false,congrArg (λb=>V.bl !b) (AJ rfl),X0 (hD3 _ _ ⟨⟨_,_,_,rfl⟩,s2.trans s3⟩)⟩
    .rintro σ G2 ⟨⟨J,L,O,rfl⟩,s2⟩;exact hD2 _ _ ⟨⟨_,_,_,_,rfl⟩,s2⟩
   .rintro σ G ⟨⟨v9,J,L,O,rfl⟩,C⟩;have WB:=WA.same C;have VB:=VA.same C;have erB:=C _ _ erA;have eB:=C _ _ eA;have TB:=K0 TA C;have SB:Sm [T.ae] F0 G:=SA.trans C.sm;clear WA VA erA eA TA SA C;refine hM8 _ _ (B5 λM9 hM9=>?_);refine A7 rfl ⟨r,_,C1 rfl rfl ⟨HY.of erB,B9 (j:=0) rfl,a,rfl,⟨_,HY.of VB.hp.at_⟩,λE hE=>?_⟩⟩;refine Bw (r:=λq:RW=>V.ref q.1) (λq=>V.str q.2.1) (KI (HY.of VB.hp.at_)) (λ_=>true) (by rw[AA];lia) hE (λy X G C M U=>U G λb o e=>e) (λy X G C M U=>?_) λσ' HA' sA eA=>?_
    .exact A7 rfl ⟨y.1,_,C1 rfl rfl ⟨JC.of (C _ _ (VB.hp.row y X)),B9 (j:=0) rfl,U G λb o e=>e⟩⟩
    have eA:HA' E=some (.lst ((nP S).map V.str)):=by
     rw[eA,CV.mpr λ_ _=>rfl,AN];unfold nP;rw[AN];rfl
    refine⟨by show 2<=sizeLine;decide,λy hy=>?_⟩;have uy:=CW.new (o:=.lst [.str (Str.ofString ""),.str (Str.ofString "nobody")]) hy;refine⟨E,y,_,_,rfl,rfl,uy _ _ eA,A9,by rw[AA,sizeLine_eq];unfold nP;rw[AA];show _+2<=_;lia,λc hc=>?_⟩;have uc:=CW.new (o:=.lst ((nP S).map V.str ++ [.str (Str.ofString ""),.str (Str.ofString "nobody")])) hc;have fc:(HU (HU HA' y (.lst [.str (Str.ofString ""),.str (Str.ofString "nobody")])) c (.lst ((nP S).map V.str ++ [.str (Str.ofString ""),.str (Str.ofString "nobody")]))) c=some (.lst ((nP S++SR).map V.str)):=by rw[A9,AF];rfl
    have sB:=sA.trans (uy.trans uc);generalize HU (HU HA' y (.lst [.str (Str.ofString ""),.str (Str.ofString "nobody")])) c (.lst ((nP S).map V.str ++ [.str (Str.ofString ""),.str (Str.ofString "nobody")]))=HB at fc sB⊢;refine⟨c,rfl,⟨_,HY.of fc⟩,V0 (KI (HY.of fc)) (λi' σ G'=>(∃v9 J L O,σ = [some (.ref u),some (.int (i:Int)),some (.ref p),some (.ref r),some (.ref x),some (.ref n),some (.ref m),some (.ref o1),some (.ref D),v9,J,L,O])/\CW G G'/\G' c=some (.lst ((nP S++SR).map V.str))) ?_ ?_ ?_ ?_⟩
    .exact⟨⟨_,_,_,_,rfl⟩,sB,fc⟩
    .rintro i' σ G' _ ⟨_,_,f'⟩ o e;rw[fc]at e;cases e;exact f'
    .rintro i' σ G' v hv ⟨⟨v9,J,L,O,rfl⟩,C,f'⟩ D2 hD2 _;rw[AG]at hv;obtain⟨k,hk,rfl⟩:=AV.mp hv;refine A7 rfl (A7 rfl (K8 (.inl (HY.of (C _ _ eB))) ⟨_,rfl,?_⟩));refine g7 (λh=>?_) (λh=>X0 (hD2 _ _ ⟨⟨_,_,_,_,rfl⟩,C,f'⟩));have nin:k∉nS W++nT st:=by simpa using h
     refine A7 rfl (A7 rfl ⟨x,S,Z,st,ba,k,rfl,WB.same C,⟨l2',l3⟩,by rw[eS];exact nin,λt G1 t1 et=>⟨by show 2<=sizeLine;decide,λt2 ht2=>?_⟩⟩);have u2:=CW.new (o:=.tup [.str (Str.ofString "refused"),.str (Str.ofString "none such")]) ht2;exact Ym (d:=pd ("refused", "none such")) (Bx (u2 _ _ et)) (Bx A9) (zBa (by decide +kernel) (by decide +kernel)) ⟨_,rfl,X0 (hD2 _ _ ⟨⟨_,_,_,_,rfl⟩,(C.trans t1).trans u2,u2 _ _ (t1 _ _ f')⟩)⟩
    .rintro σ GC ⟨⟨v9,J,L,O,rfl⟩,sC,_⟩;have WC:=WB.same sC;have VC:=VB.same sC;have erC:=sC _ _ erB;have TC:=K0 TB sC;have SC:Sm [T.ae] F0 GC:=SB.trans sC.sm;clear WB VB erB eB TB SB fc sB uy uc hy hc eA sA hE;refine hM9 _ _ (B5 λMA hMA=>?_);have as1:=KI (K:=K) (HY.of VC.ht.at_);rw[AN]at as1;refine A7 rfl ⟨r,_,C1 rfl rfl ⟨HY.of erC,B9 (j:=2) rfl,g,rfl,⟨_,HY.of VC.ht.at_⟩,λD1' hD1'=>?_⟩⟩;refine Jt (λq:JD=>V.str q.2.2.2) (λ_=>true) as1 (λσ=>∃v0 v1 v2,σ = [v0,v1,v2]) ⟨_,_,_,rfl⟩ (by lia) hD1' ?_ λσ HD sD eD=>?_
     .rintro y hy σ F ⟨v0,v1,v2,rfl⟩ sF M N U hN;have ey:=sF _ _ (VC.ht.row (rT y) (AI.mpr ⟨y,hy,rfl⟩));refine⟨y.1,A7 rfl ⟨JC.of ey,rfl,_,A7 rfl ⟨_,A7 rfl (C1 rfl rfl ?_)⟩⟩⟩;dsimp only[V7];exact g9 (A7 rfl (U _ _ ⟨_,_,_,rfl⟩ (λ_ _ z=>z) rfl))
     have VD:=VC.same sD;refine A7 rfl ⟨r,_,C1 rfl rfl ⟨HY.of (sD _ _ erC),B9 (j:=3) rfl,d,rfl,⟨_,HY.of VD.hb⟩,λD3 hD3=>?_⟩⟩;refine Jt (λq:IU=>V.str q.2.1) (λ_=>true) (KI (K:=K) (HY.of VD.hb)) (λσ=>∃v0 v1,σ = [v0,v1]) ⟨_,_,rfl⟩ (by lia) hD3 ?_ λσ HE sE eE=>?_
     .rintro y hy σ F ⟨v0,v1,rfl⟩ sF M N U hN;refine⟨y.1,A7 rfl ⟨JC.of (sF _ _ (VD.pb y hy)),rfl,_,A7 rfl (C1 rfl rfl ?_)⟩⟩;dsimp only[V7];exact g9 (A7 rfl (U _ _ ⟨_,_,rfl⟩ (λ_ _ z=>z) rfl))
     rw[CV.mpr λ_ _=>rfl]at eD eE;obtain⟨met,emet⟩:∃met:A0 Str,met =(st.map λq=>q.2.2.2)++ba.map λq=>q.2.1:=⟨_,rfl⟩;refine⟨D1',D3,_,_,rfl,rfl,sE _ _ eD,eE,by rw[AA,AA,sizeLine_eq];lia,λc hc=>?_⟩;have uc:=CW.new (o:=.lst ((st.map λq=>V.str q.2.2.2)++ba.map λq=>V.str q.2.1)) hc;have fc:(HU HE c (.lst ((st.map λq=>V.str q.2.2.2)++ba.map λq=>V.str q.2.1))) c=some (.lst (met.map V.str)):=by rw[A9,emet,AF,AN,AN];rfl
     have sF:=(sD.trans sE).trans uc;generalize HU HE c (.lst ((st.map λq=>V.str q.2.2.2)++ba.map λq=>V.str q.2.1))=HF at fc sF⊢;have VF:=VC.same sF;refine hMA _ _ ?_;refine A7 rfl ⟨r,_,C1 rfl rfl ⟨HY.of (sF _ _ erC),B9 (j:=1) rfl,b,rfl,⟨_,HY.of VF.hs.at_⟩,λD4 hD4=>?_⟩⟩;refine Bw (r:=λq:RW=>V.ref q.1) (λq=>V.str q.2.1) (KI (HY.of VF.hs.at_)) (λ_=>true) (by rw[AA];lia) hD4 (λy X G C M U=>U G λb o e=>e) (λy X G C M U=>?_) λσ' HG C eG=>?_
     .exact A7 rfl ⟨y.1,_,C1 rfl rfl ⟨JC.of (C _ _ (VF.hs.row y X)),B9 (j:=0) rfl,U G λb o e=>e⟩⟩
     have eG:HG D4=some (.lst ((nS W).map V.str)):=by
      rw[eG,CV.mpr λ_ _=>rfl,AN];unfold nS;rw[AN];rfl
     refine⟨D4,rfl,⟨_,HY.of eG⟩,λD5 hD5=>?_⟩;have lnS:(nS W).length<=30:=by unfold nS;rw[AA];exact l2
     refine Bw (r:=V.str) (λy=>V.bl (decide (Gb B y = .str MS))) (KI (K:=K) (HY.of eG)) (λy=>!decide (y∈met)) (by lia) hD5 (λy X F sF' M U=>?_) (λy X F sF' M U=>?_) λσ' HH sH eH=>?_
     .exact A7 rfl (A7 rfl (K8 (.inl (HY.of (sF' _ _ (C _ _ fc)))) ⟨_,rfl,U F λb o e=>e⟩))
     .refine A7 rfl (A7 rfl ⟨x,S,Z,st,ba,y,rfl,((WC.same sF).same C).same sF',ok6,sz1',sz2,by rw[eS];exact .inl X,λrows' G3 s3 hR'=>?_⟩);have erw:=(eR _ hR').one hR;subst erw;obtain⟨sw,esw,osw⟩:=hR.str y;have hM':=U G3 s3;rw[esw]at hM'⊢;exact⟨rfl,hM'⟩
     .refine⟨D5,(((nS W).filter λy=>!decide (y∈met)).map λy=>decide (Gb B y = .str MS)),rfl,HY.of (by rw[eH,AN];rfl),?_⟩;have ea:(((nS W).filter λy=>!decide (y∈met)).map λy=>decide (Gb B y = .str MS)).all id=true:=by
       rw[List.all_map];refine DN.mpr λy hy=>?_;obtain⟨X,ny⟩:=BV.mp hy;have ny:y∉met:=λz=>by rw[AJ z]at ny;cases ny
       rw[emet]at ny;exact AJ (hR.in_ X (zEy ok X (λq hq e=>ny (BS _ (AI.mpr ⟨q,hq,e⟩))) λq hq e=>ny (BJ _ (AI.mpr ⟨q,hq,e⟩))))
      rw[ea];exact⟨_,rfl,X0 (hD1 _ _ ⟨⟨_,_,_,_,_,_,_,_,_,_,_,_,rfl⟩,kF.trans (SC.trans ((sF.trans C).trans sH).sm),K0 TC ((sF.trans C).trans sH)⟩)⟩
  .rintro σ G _;exact hN0 _ _ (q G)
end
section
variable{K:PySem.W.Frag}{h:HX}{mg:Str->A6 A1}
theorem SJ{us:A0 A1}(h:us.length=1):∃a,us = [a]:=List.length_eq_one_iff.mp h
theorem SH{us:A0 A1}(h:us.length=2):∃a b,us = [a,b]:=by
 cases us with
 | nil=>cases h
 | cons a r=>obtain⟨b,rfl⟩:=SJ (Nat.succ.inj h);exact⟨a,b,rfl⟩
theorem RN{us:A0 A1}(h:us.length=3):∃a b c,us = [a,b,c]:=by
 cases us with
 | nil=>cases h
 | cons a r=>obtain⟨b,c,rfl⟩:=SH (Nat.succ.inj h);exact⟨a,b,c,rfl⟩
theorem RM{us:A0 A1}(h:us.length=4):∃a b c d,us = [a,b,c,d]:=by
 cases us with
 | nil=>cases h
 | cons a r=>obtain⟨b,c,d,rfl⟩:=RN (Nat.succ.inj h);exact⟨a,b,c,d,rfl⟩
theorem TM{us:A0 A1}(h:us.length=5):∃a b c d e,us = [a,b,c,d,e]:=by
 cases us with
 | nil=>cases h
 | cons a r=>obtain⟨b,c,d,e,rfl⟩:=RM (Nat.succ.inj h);exact⟨a,b,c,d,e,rfl⟩
def IK{x:Str}{st:IE}{ps:A0 Str}{f:A2}{p:A1}{q m:A6 A2}{n:HQ (A6 A1)}{kV i o g ct:A1}(X:K.In h)(G:h.Ns mainGlobals mg)(a:PySem.W.nsIn K mainGlobals x=some (some (.ref f)))
  (l:K.lookup f=some ⟨p,q,.func (PySem.W.fnOf x x (S9 st) (K2 st) (B6 st) .none kV i o m g ct),n⟩) (c:PySem.W.codeIn K g x=true) (k:PySem.W.keepIn K (.ref f)=true)
  (r:∀(kV i o:A1) (m:A6 A2) (g ct:A1) (us:A0 A1),us.length=ps.length->bindArgs (PySem.W.fnOf x x (S9 st) (K2 st) (B6 st) .none kV i o m g ct) ⟨us,[]⟩=pure (ps.zip us):=by intro _ _ _ _ _ _ us j;first | (obtain rfl:=EQ.mp j;rfl) | (obtain⟨a,rfl⟩:=Sw.SJ j;rfl) | (obtain⟨a,b,rfl⟩:=Sw.SH j;rfl) | (obtain⟨a,b,c,rfl⟩:=Sw.RN j;rfl) | (obtain⟨a,b,c,d,rfl⟩:=Sw.RM j;rfl) | (obtain⟨a,b,c,d,e,rfl⟩:=Sw.TM j;rfl)):Fn K mg x st ps :=
 ⟨f,_,JY l c k,(JY l c k).binds r,PySem.W.mg_of X G a⟩
def RA{C:A2}{x q:Str}{st:IE}{ps:A0 Str}{f:A2}{p:A1}{r m:A6 A2}{n:HQ (A6 A1)}{kV h o g ct:A1}(a:PySem.W.findIn K (.ref C) x=some (some (.ref f)))(i:PySem.W.isFn K (.ref f)=true)
  (l:K.lookup f=some ⟨p,r,.func (PySem.W.fnOf x q (S9 st) (K2 st) (B6 st) .none kV h o m g ct),n⟩) (c:PySem.W.codeIn K g q=true) (k:PySem.W.keepIn K (.ref f)=true)
  (s:∀(kV h o:A1) (m:A6 A2) (g ct:A1) (us:A0 A1),us.length=ps.length->bindArgs (PySem.W.fnOf x q (S9 st) (K2 st) (B6 st) .none kV h o m g ct) ⟨us,[]⟩=pure (ps.zip us):=by intro _ _ _ _ _ _ us j;first | (obtain rfl:=EQ.mp j;rfl) | (obtain⟨a,rfl⟩:=Sw.SJ j;rfl) | (obtain⟨a,b,rfl⟩:=Sw.SH j;rfl) | (obtain⟨a,b,c,rfl⟩:=Sw.RN j;rfl) | (obtain⟨a,b,c,d,rfl⟩:=Sw.RM j;rfl) | (obtain⟨a,b,c,d,e,rfl⟩:=Sw.TM j;rfl)):Mt K C x q st ps :=
 ⟨f,_,JY l c k,(JY l c k).binds s,⟨a,i,k⟩⟩
theorem UI{x z:Str}{v:A1}(X:K.In h)(G:h.Ns mainGlobals mg)(a:PySem.W.nsIn K mainGlobals x=some (some v))(e:∃t,v = .str z t):∃t,mg x=some (.str z t):=by
 obtain⟨t,rfl⟩:=e;exact⟨t,PySem.W.mg_of X G a⟩
theorem RP{x:Str}{z:Int}{v:A1}(X:K.In h)(G:h.Ns mainGlobals mg)(a:PySem.W.nsIn K mainGlobals x=some (some v))(e:∃t,v = .int z t):∃t,mg x=some (.int z t):=by
 obtain⟨t,rfl⟩:=e;exact⟨t,PySem.W.mg_of X G a⟩
theorem VH{C:A2}(h:PySem.W.findIn K (.ref C) "__init__" = some (some (.builtin "ValueError.__init__"))):PySem.W.findIn K (.ref C) "__init__" = some (some (.builtin "ValueError.__init__")):=h
def zDv(vs:HQ A1)(c p:A2):Bool:=decide (vs[11]?=some (.ref p)) &&(match vs.getD 18 .none with | .str _ _=>true | _=>false) &&(match vs.getD 7 .none with | .int _ _=>true | _=>false) &&(match vs.getD 9 .none with | .bool _=>true | _=>false) &&(match vs.getD 10 .none with | .int _ _=>true | _=>false)&&decide (c≠p)&&decide (mainGlobals≠p)
theorem UH{c p:A2}{y:A6 A2}{vs:HQ A1}{z:HQ (A6 A1)}(l:K.lookup c=some ⟨.type "code",y,.fields vs,z⟩)(A:vs.getD 11 .none = .ref p)(e:zDv vs c p=true):TabAt K mg c p:=by
 unfold zDv at e;simp only[CF,decide_eq_true_eq]at e;obtain⟨⟨⟨⟨⟨⟨i,f⟩,w⟩,x⟩,h⟩,j⟩,m⟩:=e;have b:∃a t,vs.getD 18 .none = .str a t:=by cases q:vs.getD 18 .none<;>rw[q]at f<;>first | exact⟨_,_,rfl⟩ | cases f
 have n:∃a t,vs.getD 7 .none = .int a t:=by cases q:vs.getD 7 .none<;>rw[q]at w<;>first | exact⟨_,_,rfl⟩ | cases w
 have o:∃a,vs.getD 9 .none = .bool a:=by cases q:vs.getD 9 .none<;>rw[q]at x<;>first | exact⟨_,rfl⟩ | cases x
 have d:∃a t,vs.getD 10 .none = .int a t:=by cases q:vs.getD 10 .none<;>rw[q]at h<;>first | exact⟨_,_,rfl⟩ | cases h
 obtain⟨r,s,b⟩:=b;obtain⟨B,C,n⟩:=n;obtain⟨D,o⟩:=o;obtain⟨u,v,d⟩:=d;exact⟨λg k=>⟨_,vs,r,s,B,C,D,u,v,k _ _ l,rfl,rfl,i,A,b,n,o,d,j⟩,m⟩
theorem JA{C:A2}{f:Str}(h:PySem.W.findIn K (.ref C) f=some none):JE K C f:=h
end
def UL{l:PySem.W.OpenLaw}{w:HS}{K:PySem.W.Frag}{h:HX}{d:Str->A6 A1}{q f g:A2}{x:A1}{y r:A6 A2}{j:HQ (A6 A1)}{kV i t b ct:A1}(X:K.In h)(G:h.Ns mainGlobals d)(m:d "law" = some (.ref q))
  (T:Tx K d) (a:PySem.W.nsIn K mainGlobals "law" = some (some (.ref f))) (lk:K.lookup f=some ⟨x,y,.func (PySem.W.fnOf "law" "law" (S9 ON) (K2 ON) (B6 ON) .none kV i t r b ct),j⟩) (c:PySem.W.codeIn K b "law" = true) (k:PySem.W.keepIn K (.ref f)=true) (z:T.ae=g) (A:K.lookup g=none) :
  (∀p∈[g],isCodeTable h p)/\(∀p∈[g],K.lookup p=none)/\∃u:IJ,(∀(s:A5) (v:A1),BindsTo s u ⟨[v],[]⟩ [("_law_script",v)])/\∀base:HX,K.In base->base.Ns mainGlobals d->(∀p∈[g],base.BuiltinsAt d p)->II l.prog w K d base JG 10 q u ["_law_script"] (Kx K g):=by
 subst z;have e:=m.symm.trans (PySem.W.mg_of X G a);cases e;refine⟨λp n=>?_,λp n=>by rw[AC.mp n];exact A,PySem.W.fnOf "law" "law" (S9 ON) (K2 ON) (B6 ON) .none kV i t r b ct,λs v=>.of_eq rfl,λbase _ _ B=>zDu T (B _ (AC.mpr rfl)) (JY lk c k)⟩;obtain⟨o,C,_,_,_,_,_,_,_,D,E,F,H,_⟩:=T.bf.hd h X;rw[AC.mp n];exact⟨_,o,C,D,E,F,H⟩
def walk{l:PySem.W.OpenLaw}{q:Cv}{c:A0 Str}{r:(Str->A6 A1)->HX->Prop}{g:HS->HX->Prop}{d:DefRec}{K:Params->PySem.W.Frag}{b:A2}(t:l.most=some 63)(i:d.params.defaults = [])
  (v:∀(w:HS) (h:HX),g w h->(K w.params).In h) (j:∀(w:HS) (h:HX),g w h->∀p∈[b],h.get? p=some (PySem.W.tabObj #[]))
  (F:∀(w:HS) (e:Str->A6 A1) (m:A2) (h:HX),(K w.params).In h->h.Ns mainGlobals e->e d.name=some (.ref m) ->
   (∀p∈[b],isCodeTable h p)/\(∀p∈[b],(K w.params).lookup p=none)/\∃o:IJ,(∀(s:A5) (u:A1),BindsTo s o ⟨[u],[]⟩ [("_law_script",u)])/\∀base:HX,(K w.params).In base->base.Ns mainGlobals e->(∀p∈[b],base.BuiltinsAt e p)->II l.prog w (K w.params) e base JG 10 m o ["_law_script"] (Kx (K w.params) b)) :
  PySem.W.WalkO q c r g l.row.toRowW d [] (λf vs=>PySem.call f vs) :=
 L2.SO (n:=63) (k:=10) (x := "_law_script") (ts:=[b]) (sp:=λw=>Kx (K w.params) b) t (by decide) i ⟨rfl,by decide,by decide⟩ v j F (λ_ _ a y z A B=>⟨a,y,rfl,B,z,⟨#[],A b (AC.mpr rfl),trivial,λ_ _=>.inl rfl⟩,λ_=>rfl⟩)
end Sw
open PySem PySem.W PyProof.Rows
set_option maxRecDepth 100000 in
set_option maxHeartbeats 0 in
theorem PySem.Challenge.cw_strikeweave_k60_words_of_a_weave_holds : PySem.Challenge.rw_strikeweave_k60_words_of_a_weave.Holds := by
 w_on;o_law;k_head;(case hw=>w_witness2)
 k_fill
 refine Sw.walk (l:=PySem.Challenge.rw_strikeweave_k60_words_of_a_weave) rfl rfl (λw h Y=>PySem.W.km_in_of Y) (λw h Y=>PySem.W.km_tabs_of Y) ?F
 case F =>
  intro w mg fa h KX G hmg;refine' Sw.UL KX G hmg (Sw.Tx.mk (Sw.IK KX G ?a1 ?l2 ?c3 ?k4)
   (Sw.IK KX G ?a5 ?l6 ?c7 ?k8)
   (Sw.IK KX G ?a9 ?l10 ?c11 ?k12)
   (Sw.IK KX G ?a13 ?l14 ?c15 ?k16)
   (Sw.IK KX G ?a17 ?l18 ?c19 ?k20)
   (Sw.IK KX G ?a21 ?l22 ?c23 ?k24)
   (Sw.IK KX G ?a25 ?l26 ?c27 ?k28)
   (Sw.IK KX G ?a29 ?l30 ?c31 ?k32)
   (Sw.IK KX G ?a33 ?l34 ?c35 ?k36)
   (Sw.IK KX G ?a37 ?l38 ?c39 ?k40)
   (Sw.IK KX G ?a41 ?l42 ?c43 ?k44)
   (Sw.IK KX G ?a45 ?l46 ?c47 ?k48)
   (Sw.IK KX G ?a49 ?l50 ?c51 ?k52)
   (Sw.IK KX G ?a53 ?l54 ?c55 ?k56)
   (Sw.IK KX G ?a57 ?l58 ?c59 ?k60)
   (Sw.IK KX G ?a61 ?l62 ?c63 ?k64)
   (Sw.IK KX G ?a65 ?l66 ?c67 ?k68)
   (Sw.IK KX G ?a69 ?l70 ?c71 ?k72)
   (Sw.IK KX G ?a73 ?l74 ?c75 ?k76)
   (Sw.IK KX G ?a77 ?l78 ?c79 ?k80)
   (Sw.IK KX G ?a81 ?l82 ?c83 ?k84)
   (Sw.IK KX G ?a85 ?l86 ?c87 ?k88)
   (Sw.IK KX G ?a89 ?l90 ?c91 ?k92)
   (Sw.IK KX G ?a93 ?l94 ?c95 ?k96)
   (Sw.IK KX G ?a97 ?l98 ?c99 ?k100)
   (Sw.IK KX G ?a101 ?l102 ?c103 ?k104)
   (Sw.IK KX G ?a105 ?l106 ?c107 ?k108)
   (Sw.IK KX G ?a109 ?l110 ?c111 ?k112)
   (Sw.IK KX G ?a113 ?l114 ?c115 ?k116)
   (Sw.IK KX G ?a117 ?l118 ?c119 ?k120)
   (Sw.IK KX G ?a121 ?l122 ?c123 ?k124)
   (Sw.IK KX G ?a125 ?l126 ?c127 ?k128)
   (Sw.IK KX G ?a129 ?l130 ?c131 ?k132)
   (Sw.IK KX G ?a133 ?l134 ?c135 ?k136)
   (Sw.IK KX G ?a137 ?l138 ?c139 ?k140)
   (Sw.IK KX G ?a141 ?l142 ?c143 ?k144)
   (Sw.IK KX G ?a145 ?l146 ?c147 ?k148)
   (Sw.IK KX G ?a149 ?l150 ?c151 ?k152)
   (Sw.IK KX G ?a153 ?l154 ?c155 ?k156)
   (Sw.IK KX G ?a157 ?l158 ?c159 ?k160)
   (Sw.IK KX G ?a161 ?l162 ?c163 ?k164)
   (Sw.IK KX G ?a165 ?l166 ?c167 ?k168)
   (Sw.IK KX G ?a169 ?l170 ?c171 ?k172)
   (Sw.IK KX G ?a173 ?l174 ?c175 ?k176)
   (Sw.IK KX G ?a177 ?l178 ?c179 ?k180)
   (Sw.IK KX G ?a181 ?l182 ?c183 ?k184)
   (Sw.IK KX G ?a185 ?l186 ?c187 ?k188)
   (Sw.IK KX G ?a189 ?l190 ?c191 ?k192)
   (Sw.IK KX G ?a193 ?l194 ?c195 ?k196)
   (Sw.IK KX G ?a197 ?l198 ?c199 ?k200)
   (Sw.IK KX G ?a201 ?l202 ?c203 ?k204)
   (Sw.IK KX G ?a205 ?l206 ?c207 ?k208)
   (Sw.IK KX G ?a209 ?l210 ?c211 ?k212)
   (Sw.IK KX G ?a213 ?l214 ?c215 ?k216)
   _
   ⟨?g218,?g219,?g220,?g221⟩
   (PySem.W.mg_of KX G ?q217)
   (Sw.JA ?n222)
   (Sw.JA ?n223)
   (Sw.JA ?n224)
   (Sw.JA ?n225)
   _
   _
   (L2.JY ?l228 ?c229 ?k230)
   (L2.N_.binds (L2.JY ?l228 ?c229 ?k230) (λ_ _ _ _ _ _ us hl=>by obtain⟨a,b,c,rfl⟩:=Sw.RN hl;rfl))
   ⟨?g231,?a226,?i227,?k232⟩
   (Sw.RA ?a233 ?i234 ?l235 ?c236 ?k237)
   (Sw.RA ?a238 ?i239 ?l240 ?c241 ?k242)
   (Sw.RA ?a243 ?i244 ?l245 ?c246 ?k247)
   (Sw.RA ?a248 ?i249 ?l250 ?c251 ?k252)
   (Sw.RA ?a253 ?i254 ?l255 ?c256 ?k257)
   _
   ⟨?g259,?g260,?g261,?g262⟩
   (PySem.W.mg_of KX G ?q258)
   (Sw.JA ?n263)
   (Sw.JA ?n264)
   (Sw.JA ?n265)
   (Sw.JA ?n266)
   _
   _
   (L2.JY ?l269 ?c270 ?k271)
   (L2.N_.binds (L2.JY ?l269 ?c270 ?k271) (λ_ _ _ _ _ _ us hl=>by obtain⟨a,b,c,d,e,rfl⟩:=Sw.TM hl;rfl))
   ⟨?g272,?a267,?i268,?k273⟩
   _
   _
   (Sw.UH ?l275 ?r276 ?r277)
   ?r274
   _
   _
   (L2.NM ?l279 ?t280 ?k281 ?g282 ?g283)
   (PySem.W.mg_of KX G ?q278)
   _
   _
   (L2.NM ?l285 ?t286 ?k287 ?g288 ?g289)
   (PySem.W.mg_of KX G ?q284)
   _
   _
   (L2.NM ?l291 ?t292 ?k293 ?g294 ?g295)
   (PySem.W.mg_of KX G ?q290)
   _
   _
   (L2.NM ?l297 ?t298 ?k299 ?g300 ?g301)
   (PySem.W.mg_of KX G ?q296)
   _
   _
   (L2.NM ?l303 ?t304 ?k305 ?g306 ?g307)
   (PySem.W.mg_of KX G ?q302)
   _
   _
   (L2.NM ?l309 ?t310 ?k311 ?g312 ?g313)
   (PySem.W.mg_of KX G ?q308)
   _
   _
   (L2.NM ?l315 ?t316 ?k317 ?g318 ?g319)
   (PySem.W.mg_of KX G ?q314)
   _
   _
   (L2.NM ?l321 ?t322 ?k323 ?g324 ?g325)
   (PySem.W.mg_of KX G ?q320)
   _
   _
   (L2.NM ?l327 ?t328 ?k329 ?g330 ?g331)
   (PySem.W.mg_of KX G ?q326)
   ⟨?g332,?g333,?g334,?g335⟩
   ⟨?g336,?g337,?g338,?g339,L2.NX _ _⟩
   ?u340
   ?w341
   ?w342
   ?w343
   (Sw.JA ?n344)
   _
   _
   (L2.JY ?l347 ?c348 ?k349)
   (L2.N_.binds (L2.JY ?l347 ?c348 ?k349) (λ_ _ _ _ _ _ us hl=>by obtain⟨a,b,rfl⟩:=Sw.SH hl;rfl))
   ⟨?a345,?i346,?k349⟩
   ⟨?g350,?g351,?g352,?g353⟩
   ⟨?g354,?g355,?g356,?g357,L2.NX _ _⟩
   ?u358
   ?w359
   ?w360
   ?w361
   (Sw.JA ?n362)
   _
   _
   (L2.JY ?l365 ?c366 ?k367)
   (L2.N_.binds (L2.JY ?l365 ?c366 ?k367) (λ_ _ _ _ _ _ us hl=>by obtain⟨a,b,rfl⟩:=Sw.SH hl;rfl))
   ⟨?a363,?i364,?k367⟩
   ⟨?g368,?g369,?g370,?g371⟩
   ⟨?g372,?g373,?g374,?g375,L2.NX _ _⟩
   ?u376
   ?w377
   ?w378
   ?w379
   (Sw.JA ?n380)
   (Sw.JA ?n381)
   _
   _
   (L2.JY ?l384 ?c385 ?k386)
   (L2.N_.binds (L2.JY ?l384 ?c385 ?k386) (λ_ _ _ _ _ _ us hl=>by obtain⟨a,b,c,rfl⟩:=Sw.RN hl;rfl))
   ⟨?a382,?i383,?k386⟩
   ⟨?g387,?g388,?g389,?g390⟩
   ⟨?g391,?g392,?g393,?g394,L2.NX _ _⟩
   ?u395
   ?w396
   ?w397
   ?w398
   (Sw.VH ?g399)
   (Sw.UI KX G ?v400 ?e401)
   (Sw.RP KX G ?v402 ?e403)
   _
   (PySem.W.mg_of KX G ?v404)
   (L2.TR ?l405 ?y406)
   (Sw.RP KX G ?v407 ?e408)
   (Sw.RP KX G ?v409 ?e410)
   (PySem.W.mg_none_of KX G ?z411)
   (PySem.W.mg_none_of KX G ?z412)
   (PySem.W.mg_none_of KX G ?z413)
   (PySem.W.mg_none_of KX G ?z414)
   (PySem.W.mg_none_of KX G ?z415)
   (PySem.W.mg_none_of KX G ?z416)
   (PySem.W.mg_none_of KX G ?z417)
   (PySem.W.mg_none_of KX G ?z418)
   (PySem.W.mg_none_of KX G ?z419)
   (PySem.W.mg_none_of KX G ?z420)
   (PySem.W.mg_none_of KX G ?z421)
   (PySem.W.mg_none_of KX G ?z422)
   (PySem.W.mg_none_of KX G ?z423)
   (PySem.W.mg_none_of KX G ?z424)
   (PySem.W.mg_none_of KX G ?z425)
   (PySem.W.mg_none_of KX G ?z426)
   (PySem.W.mg_none_of KX G ?z427)
   (PySem.W.mg_none_of KX G ?z428)) ?aL ?lL ?cL ?kL ?rP ?tP
  case a1|l2|c3|k4|a5|l6|c7|k8|a9|l10|c11|k12|a13|l14|c15|k16|a17|l18|c19|k20|a21|l22|c23|k24|a25|l26|c27|k28|a29|l30|c31|k32|a33|l34|c35|k36|a37|l38|c39|k40|a41|l42|c43|k44|a45|l46|c47|k48|a49|l50|c51|k52|a53|l54|c55|k56|a57|l58|c59|k60|a61|l62|c63|k64|a65|l66|c67|k68|a69|l70|c71|k72|a73|l74|c75|k76|a77|l78|c79|k80|a81|l82|c83|k84|a85|l86|c87|k88|a89|l90|c91|k92|a93|l94|c95|k96|a97|l98|c99|k100|a101|l102|c103|k104|a105|l106|c107|k108|a109|l110|c111|k112|a113|l114|c115|k116|a117|l118|c119|k120|a121|l122|c123|k124|a125|l126|c127|k128|a129|l130|c131|k132|a133|l134|c135|k136|a137|l138|c139|k140|a141|l142|c143|k144|a145|l146|c147|k148|a149|l150|c151|k152|a153|l154|c155|k156|a157|l158|c159|k160|a161|l162|c163|k164|a165|l166|c167|k168|a169|l170|c171|k172|a173|l174|c175|k176|a177|l178|c179|k180|a181|l182|c183|k184|a185|l186|c187|k188|a189|l190|c191|k192|a193|l194|c195|k196|a197|l198|c199|k200|a201|l202|c203|k204|a205|l206|c207|k208|a209|l210|c211|k212|a213|l214|c215|k216|q217|g218|g219|g220|g221|n222|n223|n224|n225|a226|i227|l228|c229|k230|g231|k232|a233|i234|l235|c236|k237|a238|i239|l240|c241|k242|a243|i244|l245|c246|k247|a248|i249|l250|c251|k252|a253|i254|l255|c256|k257|q258|g259|g260|g261|g262|n263|n264|n265|n266|a267|i268|l269|c270|k271|g272|k273=>k_is
  case r274=>rfl
  case l275=>k_is
  case r276=>rfl
  case r277=>rfl
  case q278|l279=>k_is
  case t280=>kernel_rfl
  case k281|g282|g283|q284|l285=>k_is
  case t286=>kernel_rfl
  case k287|g288|g289|q290|l291=>k_is
  case t292=>kernel_rfl
  case k293|g294|g295|q296|l297=>k_is
  case t298=>kernel_rfl
  case k299|g300|g301|q302|l303=>k_is
  case t304=>kernel_rfl
  case k305|g306|g307|q308|l309=>k_is
  case t310=>kernel_rfl
  case k311|g312|g313|q314|l315=>k_is
  case t316=>kernel_rfl
  case k317|g318|g319|q320|l321=>k_is
  case t322=>kernel_rfl
  case k323|g324|g325|q326|l327=>k_is
  case t328=>kernel_rfl
  case k329|g330|g331|g332|g333|g334|g335|g336|g337|g338|g339=>k_is
  case u340=>kernel_rfl
  case w341=>kit_is
  case w342=>kit_is
  case w343=>kit_is
  case n344|a345|i346|l347|c348|k349|g350|g351|g352|g353|g354|g355|g356|g357=>k_is
  case u358=>kernel_rfl
  case w359=>kit_is
  case w360=>kit_is
  case w361=>kit_is
  case n362|a363|i364|l365|c366|k367|g368|g369|g370|g371|g372|g373|g374|g375=>k_is
  case u376=>kernel_rfl
  case w377=>kit_is
  case w378=>kit_is
  case w379=>kit_is
  case n380|n381|a382|i383|l384|c385|k386|g387|g388|g389|g390|g391|g392|g393|g394=>k_is
  case u395=>kernel_rfl
  case w396=>kit_is
  case w397=>kit_is
  case w398=>kit_is
  case g399|v400=>k_is
  case e401=>exact⟨_,rfl⟩
  case v402=>k_is
  case e403=>exact⟨_,rfl⟩
  case v404|l405=>k_is
  case y406=>exact⟨_,_,_,_,rfl,rfl⟩
  case v407=>k_is
  case e408=>exact⟨_,rfl⟩
  case v409=>k_is
  case e410=>exact⟨_,rfl⟩
  case z411|z412|z413|z414|z415|z416|z417|z418|z419|z420|z421|z422|z423|z424|z425|z426|z427|z428|aL|lL|cL|kL=>k_is
  case rP=>rfl
  case tP=>kernel_rfl
