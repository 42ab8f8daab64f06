import PyProof.Rows.All
import Wide.All
import OpenK.AllK
import Wide.FinOn
import PyProof.Rows.SortShellK
import KE.KSortTup
import Lean
import PyProof.EqAt
import PyProof.EqKinds
import PyProof.TupleCall
import PyProof.SetRoads
import PyProof.DictRoadsH
import PyProof.IsRules
import PyProof.CollectWalk
import PyProof.FactsAll.set
import PyProof.NeData
import PyProof.P3In
import PyProof.TupleOfSeq
import PyProof.ZipIter
import PyProof.Rows.ZipGen
import KE.KDictOf
import PyProof.AttrMissHeap
import PyProof.Rows.SumAny
import PyProof.DictIter
import PyProof.DictWalks
import PyProof.DictValues
import PyProof.ListRange
import PyProof.ListStr
import PyProof.DictTruth
import PySem.Challenge.RW_strikeweave_k30_a_standing_set_with_some
namespace PySem.W.Fast
def tw1659621817673580155:=0
def tw2065019637014566004:=0
def tw14883865033457340091:=0
def tw1343984473961010658:=0
def tw10628139186526572030:=0
def tw7016880491089125803:=0
def tw9969832672906137479:=0
def tw12235745854851909448:=0
def tw5471086233504263782:=0
def tw2267444525843260369:=0
def tw12136887903630925298:=0
def tw18006571280026669558:=0
def tw10212323602249602191:=0
def tw3161534355664465075:=0
def tw6391731622661190029:=0
def tw1242269876796561655:=0
def tw2628439165512894859:=0
def tw2960142636423727597:=0
def tw14201018107932208670:=0
def tw8844313396286314142:=0
def tw4992719383335890351:=0
def tw9823740395873072121:=0
def tw4841114296948160848:=0
def tw7087304991371206701:=0
def tw6621726615209379939:=0
def tw830685847306486942:=0
def tw1292924998235519237:=0
def tw7919973147761362594:=0
def tw5196935412957241375:=0
def tw12011968960394376175:=0
def tw14966792217405562699:=0
def tw1080398261354479106:=0
def tw16256746680661329509:=0
def tw1082842747648279414:=0
def tw1381341630378151623:=0
def tw13533536296033438707:=0
def tw701915426473824571:=0
def tw15131249428632333334:=0
def tw17567416576174163604:=0
def tw17397849805618557570:=0
def tw5010756220864195173:=0
def tw8494583841773510412:=0
def tw15592581426842897087:=0
def tw5267444207574391916:=0
def tw13247369297192344641:=0
def tw6455953842672123634:=0
def tw4641287585326357572:=0
def tw11449949569947585168:=0
def tw11853197383081445947:=0
def tw18382172163736186028:=0
def tw10148413052130535999:=0
def tw5154501820162386783:=0
def tw10781550607957698439:=0
def tw11673013506992520349:=0
def tw157556677911409527:=0
def tw4364557353970735349:=0
def tw4626216111904892738:=0
def tw7454950838816509896:=0
def tw4056779803906728202:=0
def tw17469977109302321846:=0
def tw6928529550555039075:=0
def tw15849370652219259666:=0
def tw9163579358355805333:=0
def tw12603022323552309709:=0
def tw4698456159202054923:=0
def tw3249239117655964625:=0
def tw6084281443217995043:=0
def tw13016876631813407251:=0
def tw1028185850779411525:=0
def tw18327221918678226252:=0
def tw5432367821706607112:=0
def tw6562756207283134998:=0
def tw14940558694743485271:=0
def tw5191771196966156554:=0
def tw4476346941933434299:=0
def tw8710184395308664511:=0
def tw5938001935935889651:=0
def tw15564831671162193488:=0
def tw13435313186170091103:=0
def tw8400135827581127621:=0
def tw8048836339487553191:=0
def tw5986294976824797494:=0
def tw17046266367141645720:=0
def tw9869355911460896502:=0
def tw14691604399062131053:=0
def tw8994074278180859071:=0
def tw16645412474878387560:=0
def tw3544387883970804639:=0
def tw11494944237678382365:=0
def tw8578872765873361773:=0
def tw3145874426142891767:=0
def tw13144582055589155709:=0
def tw16801235905419639584:=0
def tw17154998893621651193:=0
def tw6439960941060723319:=0
def tw8375997643366563689:=0
def tw304122690095226006:=0
def tw2899046691164950229:=0
def tw8246931130681007418:=0
def tw8793092256561049707:=0
def tw9851434767659928542:=0
def tw5206157084537633888:=0
def tw5289842838097008631:=0
def tw9231210177782887342:=0
def tw15245418028772057327:=0
def tw2873696932029539246:=0
def tw8943445376491082161:=0
def tw1662353368818558825:=0
def tw5112199532553273386:=0
def tw8209886309210960779:=0
def tw11697194219195950966:=0
def tw13803661168040743271:=0
def tw4391667836783830760:=0
def tw4724768778862282086:=0
def tw1475435436225962433:=0
def tw10984641037173309956:=0
def tw2696867060368456125:=0
def tw2289516325135137542:=0
def tw14815633422252480196:=0
def tw4190914228932587331:=0
def tw15661696778162951988:=0
def tw3166033541293604669:=0
def tw15071254973958571798:=0
def tw1838430067592951100:=0
def tw12361188380855911455:=0
def tw4277500224795753582:=0
def tw63033631152471626:=0
def tw2757556377455635948:=0
def tw3709742614958345820:=0
def tw4103974638042502662:=0
def tw13418481174867248561:=0
def tw14338813377306223190:=0
def tw14367367097953906930:=0
def tw3996653773700835349:=0
def tw4118312249834661424:=0
def tw12528650434823515849:=0
def tw11790898404601327368:=0
def tw7906184140718315867:=0
def tw10215076451234023591:=0
def tw15690767780904954607:=0
def tw11983972532971922758:=0
def tw15581075881050360139:=0
def tw4504141435056027016:=0
def tw18112681617024090226:=0
def tw17615116489306918402:=0
def tw897982965920533466:=0
def tw2948780897505743520:=0
def tw14109557578217625750:=0
def tw11902643819949551258:=0
def tw5063905350439077352:=0
def tw13095325923755274142:=0
def tw7891638342642912952:=0
def tw16180032324396391900:=0
def tw8066665618620803252:=0
def tw14865362942444050935:=0
def tw2614852406380360907:=0
def tw3914648241089634890:=0
def tw2684935346949640156:=0
def tw8944235517784029230:=0
def tw6856159807666401831:=0
def tw2917384269247204969:=0
def tw18067314589610219454:=0
def tw4083721159452651783:=0
def tw17391141496020936843:=0
def tw2947043381151053908:=0
def tw7399372333411432772:=0
def tw9772449548153598336:=0
def tw4487610906728219046:=0
def tw1682672591878112036:=0
def tw9538029074292353115:=0
def tw7191013200773192397:=0
def tw88654028420084973:=0
def tw13178707928527703387:=0
def tw15352480234712161538:=0
def tw13268837172759240456:=0
def tw1354679068519392422:=0
def tw12448059978246182058:=0
def tw5836590737388870918:=0
def tw15478168698223518441:=0
def tw14878944786600588616:=0
def tw17752732319591738347:=0
def tw16266482313240828201:=0
def tw15097678478940173271:=0
def tw14382801212123430235:=0
def tw11030382375149419682:=0
def tw16357718632454458200:=0
def tw14244130698359535349:=0
def tw6885340631759308315:=0
def tw3325454023604700807:=0
def tw11503987279324251261:=0
def tw15642108305098494111:=0
def tw4825521668989056104:=0
def tw13754347480277147348:=0
def tw8772605217454740173:=0
def tw5436692510649269699:=0
def tw319885118263257213:=0
def tw4427741272607007292:=0
def tw8702906406037763342:=0
def tw6795390070406855443:=0
def tw18053489962312462383:=0
def tw6656567469039621433:=0
def tw6168531034740192262:=0
def tw1798012969939804302:=0
def tw2987891972353801031:=0
def tw15023601665781441666:=0
def tw3776977780486347412:=0
def tw10658905979697149927:=0
def tw6080169035573245640:=0
def tw13920359664438148305:=0
def tw3972717721902900133:=0
def tw18298056779724270972:=0
def tw13658436684811079511:=0
def tw5251909293625429145:=0
def tw15780358216754094037:=0
def tw5047570585618494708:=0
def tw794988757744060478:=0
def tw15755913475696900250:=0
def tw17961418118001918922:=0
def tw15771276144214935995:=0
def tw16782696755468028781:=0
def tw14552693334997823568:=0
def tw7312598181961221901:=0
def tw2647425360832335673:=0
def tw4300611149965615901:=0
def tw16163954069656403144:=0
def tw4541930617129342896:=0
def tw13156203397166027703:=0
def tw15296884617288843475:=0
def tw3507093468384671363:=0
def tw11242165465415430433:=0
def tw10831718683561296948:=0
def tw9572551573386135794:=0
def tw12058668844726315023:=0
def tw3633545038020351169:=0
def tw11918598913085287161:=0
def tw7806749070007151257:=0
def tw8392351472632083179:=0
def tw1451260513904243937:=0
def tw8854766110367713376:=0
def tw679288239946021193:=0
def tw5178428340704476176:=0
def tw15969810785213407461:=0
def tw14640190798317842968:=0
def tw14674080174671489636:=0
def tw68184906890647983:=0
def tw343307452558644089:=0
def tw12362421778157925677:=0
def tw7137733594634350206:=0
def tw5018076403578165856:=0
def tw6893664474999291981:=0
def tw9903603642824863906:=0
def tw11325796901793607406:=0
def tw4005755699502619973:=0
def tw13706499967520571573:=0
def tw1724630248884367862:=0
def tw6987644803138278798:=0
def tw8827658158204917641:=0
def tw15896546168026363994:=0
def tw9645282976111101112:=0
def tw15947883365227996672:=0
def tw18047916476688094873:=0
def tw12760268273856902335:=0
def tw275553656192844724:=0
def tw3466363588801029818:=0
def tw6606994536839467006:=0
def tw3123149892330218566:=0
def tw15070002314576185799:=0
def tw1105204520914098267:=0
def tw2422866500843560348:=0
def tw5563670502378837889:=0
def tw3861810090167375915:=0
def tw7096989857513471051:=0
def tw2089100215986335126:=0
def tw10584446253348426517:=0
def tw962091416396126961:=0
def tw4088999816292141378:=0
def tw13358757442811367708:=0
def tw6261797574741931296:=0
def tw13875964692698529905:=0
def tw15043330422094729294:=0
def tw18225605939606127027:=0
def tw7349615588196281366:=0
def tw13039483795094262321:=0
def tw3929497867898656691:=0
def tw3659988935269399311:=0
def tw16770032509408985783:=0
def tw14584181108145296617:=0
def tw17260213638211092365:=0
def tw7980667963031029511:=0
def tw8554783190779347423:=0
def tw12972895993631860543:=0
def tw5010032531511677525:=0
def tw6988497091214069910:=0
def tw7035300555063136898:=0
def tw13836109570992752431:=0
def tw4908580281130119298:=0
def tw10435071189000987671:=0
def tw2180261194297155803:=0
def tw8033476248042550182:=0
def tw1715004766420133341:=0
def tw9328795670537252438:=0
def tw11834208922644805534:=0
def tw17596778324279044267:=0
def tw11438343280689450710:=0
def tw2130665491678815316:=0
def tw7456485853120126870:=0
def tw2181766905627044488:=0
def tw2837657534624740352:=0
def tw15698842079851689407:=0
def tw1012348110730254616:=0
def tw15628244239349870063:=0
def tw14943659133301239499:=0
def tw17964759065428502449:=0
def tw13801543731294051922:=0
def tw3410368243709688772:=0
def tw13413129654287926896:=0
def tw18154397409356018657:=0
def tw1872327592411704515:=0
def tw3815146309164217005:=0
def tw18095875362366852918:=0
def tw1087258763909498689:=0
def tw12609995905026011076:=0
def tw13109308732649087422:=0
def tw18050207704932620022:=0
def tw6115927757872180397:=0
def tw7097241270330654742:=0
def tw3800230642573380455:=0
def tw5494424474401265727:=0
def tw5365900333429291516:=0
def tw7691906535112378112:=0
def tw11647221429750310117:=0
def tw5634491231873922208:=0
def tw6320794706595800869:=0
def tw5313580064666846585:=0
def tw12595509190136271134:=0
def tw4727932367269284702:=0
def tw9044201224738255498:=0
def tw17984951813159673851:=0
def tw4872404733511904078:=0
def tw9082996518878986180:=0
def tw16289007256880183368:=0
def tw8242942300671054840:=0
def tw14157716554933941300:=0
def tw8302771952141601378:=0
def tw11359519200113547635:=0
def tw15020419736945632431:=0
def tw1944803287090822032:=0
def tw7711674585351351895:=0
def tw6295757636831511429:=0
def tw9779876398129508623:=0
def tw2905393994767279636:=0
def tw6422607775524987595:=0
def tw18029566726309759507:=0
def tw3576441143112840072:=0
def tw4560923672120816115:=0
def tw11987674782038471646:=0
def tw1249969265999708267:=0
def tw13629834754751770185:=0
def tw16738921401232553778:=0
def tw11801145150634644777:=0
def tw17430101400014712567:=0
def tw2182062174363683779:=0
def tw18110206689461107964:=0
def tw16595219148122541561:=0
def tw1611946442838955672:=0
def tw2127419238858851278:=0
def tw3627633269650671816:=0
def tw4197775858152357603:=0
def tw10357998420996117971:=0
def tw12107735491347955110:=0
def tw6506822279990609485:=0
def tw12010623129025744959:=0
def tw3287652375777400279:=0
def tw12903115451075788058:=0
def tw10187187616300023944:=0
def tw1875696962537742317:=0
def tw3177736888660518571:=0
def tw11722628342339871595:=0
def tw9806002163782932374:=0
def tw6954318371110042155:=0
def tw7283032673598143018:=0
def tw2821674295758402371:=0
def tw15668995151340190073:=0
def tw1361360934966146168:=0
def tw9080611204588291078:=0
def tw269644087481148268:=0
def tw6887454564427665883:=0
def tw12486001056006171023:=0
def tw129709057978613000:=0
def tw16404332888828586952:=0
def tw762616033194030087:=0
def tw12110829495382613583:=0
def tw12099121438731134179:=0
def tw12271339525800218679:=0
def tw11403005248138741780:=0
def tw16592840281290473944:=0
def tw3980730335007693:=0
def tw15004855435547004567:=0
def tw1750452258164791640:=0
def tw3103792949513016364:=0
def tw10521069648681106656:=0
def tw5877104430322912642:=0
def tw11683401705145463877:=0
def tw15963821003201874705:=0
def tw7026672897641994523:=0
def tw1543773496575159479:=0
end PySem.W.Fast
set_option autoImplicit false
set_option genSizeOf false
set_option genSizeOfSpec false
set_option bootstrap.genMatcherCode false
set_option compiler.extract_closed false
set_option linter.all false
set_option maxRecDepth 100000
section
open PySem PySem.Spec PyProof.Rows
abbrev A0:=@List
abbrev A3:=Value
abbrev A4:=Addr
abbrev A5:=Shared
abbrev A6:=@Option
abbrev CM:=@Array
abbrev F1:=Keyed
abbrev F8:=Program
abbrev HZ:=SortSt
abbrev H_:=World
abbrev IA:=Heap
abbrev IH:=Expr
abbrev II:=Around
abbrev IM:=SetTable
abbrev IS:=Stmt
abbrev IU:=FuncData
abbrev JB:=Scope
abbrev JK:=SortKind
abbrev JO:=NameKind
abbrev OU:=Env
end
section
open PySem PySem.Spec PyProof.Rows
def AA:=@wpAny_bind
def AB:=@List.length_map
def AC:=@List.getElem?_eq_getElem
def AD:=@Heap.get?_push_of_some
def AE:=@wpAny_pure
def AF:=@List.mem_singleton
def AG:=@List.getElem?_eq_some_iff
def AH:=@List.getElem?_map
def AI:=@Heap.lt_size
def AJ:=@if_neg
def AK:=@if_pos
def AL:=@Array.length_toList
def AM:=@List.mem_of_getElem?
def AN:=@Heap.get?_push_size
def AO:=@List.map_append
def AQ:=@List.getD_eq_getElem?_getD
def AR:=@List.mem_map
def AS:=@List.size_toArray
def AU:=@List.mem_cons
def AV:=@List.length_append
def AW:=@Bool.false_eq_true
def AX:=@List.length_take
def AY:=@List.mem_cons_of_mem
def AZ:=@Bool.false_ne_true
def A_:=@List.mem_append
def BA:=@Nat.ne_of_lt
def BB:=@List.map_cons
def BC:=@decide_eq_false
def BD:=@decide_eq_true
def BE:=@Nat.lt_of_lt_of_le
def BF:=@List.append_assoc
def BG:=@Option.some.inj
def BH:=@List.mem_cons_self
def BI:=@List.mem_append_right
def BJ:=@List.length_cons
def BK:=@Array.getElem?_toList
def BL:=@Option.map_eq_some_iff
def BM:=@List.mem_filter
def BN:=@Array.toList_append
def BO:=@List.take_append_drop
def BP:=@List.length_filter_le
def BQ:=@Heap.get?_update_other
def BR:=@Nat.eq_of_testBit_eq
def BS:=@wpAny_holding
def BT:=@Bool.and_eq_true
def BU:=@decide_eq_true_iff
def BV:=@List.length_range
def BW:=@List.mem_range
def BX:=@List.not_mem_nil
def BZ:=@Bool.eq_iff_iff
def B_:=@Bool.eq_false_iff
def CA:=@List.pairwise_map
def CB:=@List.map_map
def CC:=@of_decide_eq_true
def CD:=@Heap.get?_update_self
def CF:=@Nat.zero_le
def CG:=@wpAny_setState_of
def CH:=@Int.toNat_natCast
def CI:=@List.take_length
def CJ:=@List.append_nil
def CK:=@wpAny_mono
def CL:=@List.nodup_cons
def CN:=@if_false
def CO:=@Array.getD_eq_getD_getElem?
def CP:=@List.pairwise_append
def CQ:=@Nat.lt_irrefl
def CS:=@Nat.zero_testBit
def CT:=@List.perm_append_comm
def CU:=@List.mem_iff_getElem?
def CV:=@Heap.SameBut.update
def CY:=@Nat.testBit_and
def CZ:=@Nat.testBit_zero
def C_:=@List.mem_of_mem_take
def DA:=@List.take_of_length_le
def DB:=@Array.toList_push
def DC:=@Nat.lt_succ_of_lt
def DD:=@List.filterMap_cons_some
def DE:=@List.length_drop
def DF:=@Array.getElem?_eq_some_iff
def DG:=@wpAny_truthy_bool
def DH:=@Heap.size_push
def DI:=@List.getElem?_take_of_lt
def DJ:=@Nat.testBit_succ
def DK:=@Nat.testBit_two_pow
def DL:=@List.Perm.append_left
def DM:=@List.getElem?_append_right
def DN:=@codeAny_builtin
def DP:=@List.Perm.append_right
def DQ:=@List.filter_cons
def DR:=@List.getElem?_append_left
def DT:=@List.filterMap_cons
def DU:=@List.filter_eq_self
def DV:=@Nat.le_succ
def DW:=@wpAny_newObj_type
def DX:=@List.nodup_append
def DY:=@Option.isSome_iff_exists
def DZ:=@Nat.le_of_lt
def D_:=@wpAny_Call_Name_kw
def EA:=@List.filter_append
def EB:=@List.mem_of_mem_drop
def EC:=@wpAny_call_entry
def ED:=@Nat.lt_succ_self
def EE:=@Bool.false_and
def EF:=@Nat.testBit_or
def EG:=@List.replicate_succ
def EH:=@List.filter_sublist
def EI:=@List.range_succ
def EJ:=@wpAny_updateSeq
def EK:=@Bool.or_eq_true
def EL:=@List.drop_eq_getElem_cons
def EM:=@List.extract_eq_take_drop
def EN:=@List.getElem?_eq_none
def EO:=@wpAny_rule
def EQ:=@List.all_eq_true
def ER:=@Bool.not_true
def ES:=@List.filterMap_cons_none
def ET:=@Array.toList_extract
def EU:=@List.mem_append_left
def EV:=@wpAny_seqItems
def EW:=@List.take_sublist
def EX:=@List.find?_cons
def EY:=@List.map_eq_nil_iff
def EZ:=@if_true
def E_:=@List.drop_eq_nil_of_le
def FA:=@Nat.zero_add
def FB:=@List.drop_drop
def FC:=@List.drop_zero
def FD:=@Nat.lt_of_le_of_ne
def FE:=@Int.emod_lt_of_pos
def FF:=@List.findSome?_eq_none_iff
def FG:=@wpAny_passesOwn
def FH:=@List.of_mem_zip
def FI:=@Nat.not_lt_zero
def FJ:=@List.drop_sublist
def FK:=@List.mem_iff_getElem
def FM:=@Array.toList_reverse
def FN:=@List.ext_getElem?
def FO:=@wpAny_pyIter_list
def FP:=@List.any_cons
def FQ:=@List.Pairwise.imp_of_mem
def FR:=@Nat.testBit_two_pow_self
def FS:=@Nat.add_le_add_left
def FT:=@Nat.le_add_right
def FU:=@List.getElem_mem
def FV:=@wpAny_tryCatch
def FW:=@List.length_eq_zero_iff
def FX:=@wpAny_callSpecial?_slot
def FY:=@List.nodup_nil
def FZ:=@wpAny_of_eq
def F_:=@Nat.eq_zero_of_not_pos
def GA:=@List.getElem?_drop
def GB:=@Array.size_extract
def GC:=@List.zip_cons_cons
def GD:=@Array.getElem?_eq_none
def GE:=@Nat.min_eq_left
def GF:=@wpAny_specialOf
def GG:=@Int.emod_nonneg
def GH:=@List.filter_nil
def GI:=@wpAny_standAt
def GJ:=@List.getElem?_toArray
def GK:=@Nat.lt_of_succ_lt
def GL:=@List.flatten_cons
def GM:=@List.drop_take
def GN:=@wpAny_setField
def GO:=@codeAny_mono
def GP:=@wpAny_askSetting
def GQ:=@List.pairwise_iff_getElem
def GR:=@List.getElem?_eq_none_iff
def GS:=@List.getElem?_zip_eq_some
def GT:=@List.reverse_append
def GU:=@List.map_congr_left
def GV:=@Array.size_setIfInBounds
def GW:=@List.cons.inj
def GX:=@List.sum_cons
def GY:=@List.idxOf_lt_length_iff
def GZ:=@Nat.zero_lt_one
def G_:=@List.length_nil
def HA:=@Array.forIn_toList
def HB:=@List.pairwise_singleton
def HC:=@Option.bind_eq_some_iff
def HD:=@Nat.testBit_mod_two_pow
def HE:=@Array.size_map
def HF:=@List.getElem?_set_self
def HG:=@List.map_nil
def HH:=@Bool.and_false
def HI:=@Bool.not_false
def HJ:=@wpAny_storeSet_of
def HK:=@wpAny_nextOf_list_item
def HL:=@Heap.size_update
def HM:=@List.le_antisymm
def HN:=@List.lookup_cons
def HP:=@List.nodup_range
def HQ:=@wpAny_isInstance
def HR:=@Heap.ExtBut.push
def HS:=@List.any_eq_true
def HU:=@wpAny_attempt
def HV:=@wpAny_newList
def HW:=@Bool.or_false
def HX:=@wpAny_field
end
noncomputable section
namespace TS
open PySem PyProof.Rows
def kk(κ:KeyKind)(p:F1):κ.α:=(κ.keyOf p.1).getD κ.dflt
def PP(κ:KeyKind)(p:F1):Prop:=∃a,κ.keyOf p.1=some a
def le(κ:KeyKind)(p q:F1):Prop:=κ.kle (kk κ p) (kk κ q)
def KA(κ:KeyKind)(l:A0 F1):Prop:=l.Pairwise (le κ)
structure OZ(prog:F8)(w:H_)(A:II)(s:A5)(κ:KeyKind)(kd:JK):Prop where
 lt:∀(x y:A3) (a b:κ.α) (Q:Bool->A5->Prop) (E:A3->A5->Prop),κ.keyOf x=some a->κ.keyOf y=some b->Q (κ.blt a b) s->wpAny (model prog w) A (keyLt' kd x y) Q E s
section
variable{prog:F8}{w:H_}{A:II}{E:A3->A5->Prop}{s:A5}{κ:KeyKind}{kd:JK}
theorem Hj(C:OZ prog w A s κ kd){st:HZ}{x y:F1}{Q:A6 Bool->HZ->Prop}(e:kindOf st=kd)(f:PP κ x)(g:PP κ y)
  (h:Q (some (κ.blt (kk κ x) (kk κ y))) st):wpS (model prog w) A E s (lt' x y) Q st:=by
 obtain⟨a,c⟩:=f;obtain⟨b,d⟩:=g;have i:kk κ x=a:=by unfold kk;rw[c];rfl
 have j:kk κ y=b:=by unfold kk;rw[d];rfl
 rw[i,j]at h;rw[lt'_eq];refine wpS_bind (wpS_get ?_);rw[e];refine wpS_bind (wpS_lift (HU (C.lt x.1 y.1 a b _ _ c d ⟨rfl,?_⟩)));exact wpS_pure h
theorem D3{st:HZ}{a:CM F1}{i:Nat}{p:F1}{Q:F1->HZ->Prop}(hi:a[i]?=some p)(h:Q p st):wpS (model prog w) A E s (elem' a i) Q st:=by
 rw[elem'_eq,hi];exact wpS_pure h
def U3:Bool->F1->CM F1->Nat->Nat->Nat->StateT HZ Sem (A6 Nat):=sortPriv% PySem.Builtin.gallop
def QS(left:Bool)(a:F1)(b:CM F1)(bs:Nat)(i:Nat):StateT HZ Sem (A6 Bool):=do
 let x <-elem' b (bs+i)
 if left then lt' x a else return(<-lt' a x).map (!·)
theorem Oe(left:Bool)(c:F1)(d:CM F1)(bs n b:Nat):U3 left c d bs n b =(do
  let mut la:=0
  let mut a:=1
  let mut lo:=0
  let mut hi:=0
  let some g <-QS left c d bs b | return none
  if g then
   let e:=n-b
   for _ in [0:n] do
    if a ≥ e then break
    let some f <-QS left c d bs (b+a) | return none
    if !f then break
    la:=a
    a:=2*a+1
   lo:=b+la+1
   hi:=b+min a e
  else
   let e:=b+1
   for _ in [0:n] do
    if a ≥ e then break
    let some h <-QS left c d bs (b-a) | return none
    if h then break
    la:=a
    a:=2*a+1
   lo:=b+1-min a e
   hi:=b-la
  for _ in [0:n] do
   if lo ≥ hi then break
   let m:=lo +(hi-lo) / 2
   let some f <-QS left c d bs m | return none
   if f then lo:=m+1 else hi:=m
  return some hi):=rfl
def PB(κ:KeyKind)(left:Bool)(a:F1)(p:F1):Bool:=if left then κ.blt (kk κ p) (kk κ a)else !κ.blt (kk κ a) (kk κ p)
theorem Xj(C:OZ prog w A s κ kd){st:HZ}{left:Bool}{b p:F1}{c:CM F1}{bs i:Nat}{Q:A6 Bool->HZ->Prop}(d:kindOf st=kd)(a:PP κ b)(e:PP κ p)(hi:c[bs+i]?=some p)
  (h:Q (some (PB κ left b p)) st):wpS (model prog w) A E s (QS left b c bs i) Q st:=by
 unfold QS;refine wpS_bind (D3 hi ?_);cases left with
 | true=>exact Hj C d e a h
 | false =>
  simp only[AW,CN];refine wpS_bind (Hj C d a e ?_);exact wpS_pure h
theorem Od(C:OZ prog w A s κ kd){st:HZ}{left:Bool}{L:F1}{O:CM F1}{bs n g:Nat}{Q:A6 Nat->HZ->Prop}(hk:kindOf st=kd)(R:PP κ L)
  (P:Nat->Bool) (hP:∀i,i<n->∃p,O[bs+i]?=some p/\PP κ p/\PB κ left L p=P i) (o:∀i j,i<=j->j<n->P j=true->P i=true) (T:g<n)
  (h:∀k,k<=n->(∀i,i<k->P i=true)->(∀i,k<=i->i<n->P i=false)->Q (some k) st):wpS (model prog w) A E s (U3 left L O bs n g) Q st:=by
 have B:∀{a:HZ} {i:Nat} {Q:A6 Bool->HZ->Prop},a=st->i<n->Q (some (P i)) a->wpS (model prog w) A E s (QS left L O bs i) Q a:=by
  intro a i Q e hi q;subst e;obtain⟨p,U,V,W⟩:=hP i hi;exact Xj C hk R V U (by rw[W];exact q)
 have m:∀i j,i<=j->j<n->P i=false->P j=false:=by
  intro i j X hj hi;cases e:P j with
  | false=>rfl
  | true=>rw[o i j X hj e]at hi;cases hi
 rw[Oe];dsimp only;refine wpS_bind (B rfl T ?_);dsimp only;have S:∀{lo hi:Nat} {f:Nat->(A6 (A6 Nat)×Nat×Nat)->StateT HZ Sem (ForInStep (A6 (A6 Nat)×Nat×Nat))},
   (∀x l h,wpS (model prog w) A E s (f x (none,l,h)) (fun r a=>a=st/\(if h<=l then r = .done (none,l,h)else if P (l +(h-l) / 2)=true then r = .yield (none,l +(h-l) / 2+1,h)else r = .yield (none,l,l +(h-l) / 2))) st\/¬(h<=l\/l +(h-l) / 2<n)) ->
   lo<=hi->hi<=n->(∀i,i<lo->P i=true)->(∀i,hi<=i->i<n->P i=false) ->
   wpS (model prog w) A E s (forIn [0:n] (none,lo,hi) f) (fun c a=>a=st/\∃k,c =(none,k,k)/\k<=n/\(∀i,i<k->P i=true)/\(∀i,k<=i->i<n->P i=false)) st:=by
  intro lo hi f hf U V W h4;refine wpS_forRange (I:=fun x c a=>a=st/\∃l r,c =(none,l,r)/\l<=r/\r<=n/\r-l<=n-x/\(∀i,i<l->P i=true)/\(∀i,r<=i->i<n->P i=false)) ?_ ?_ ⟨rfl,lo,hi,rfl,U,V,by omega,W,h4⟩
  .rintro x c a _ hx ⟨rfl,l,r,rfl,hl,K,hm,M,N⟩;have Y:r<=l\/l +(r-l) / 2<n:=by omega
   rcases hf x l r with q | q
   .refine wpS_mono q fun z st2 ⟨e,F⟩=>?_;subst e;by_cases b:r<=l
    .rw[AK b]at F;subst F;have:l=r:=by omega
     subst this;exact⟨rfl,l,rfl,K,M,N⟩
    .rw[AJ b]at F;cases u:P (l +(r-l) / 2)with
     | true =>
      rw[AK u]at F;subst F;exact⟨rfl,_,_,rfl,by omega,by omega,by omega,fun i hi=>o i (l +(r-l) / 2) (by omega) (by omega) u,N⟩
     | false =>
      rw[AJ (by rw[u];exact AZ)]at F;subst F;exact⟨rfl,_,_,rfl,by omega,by omega,by omega,M,fun i G y=>m (l +(r-l) / 2) i G y u⟩
   .exact absurd Y q
  .rintro c a ⟨rfl,l,r,rfl,hl,K,hm,M,N⟩;have:l=r:=by omega
   subst this;exact⟨rfl,l,rfl,K,M,N⟩
 cases K:P g with
 | true =>
  rw[AK rfl];refine wpS_bind (wpS_mono (wpS_forRange (I:=fun x c a=>a=st/\∃la d,c =(none,la,d)/\la<d/\x+1<=d/\g+la<n/\P (g+la)=true)
   (Q:=fun c a=>a=st/\∃la d,c =(none,la,d)/\la<d/\g+la<n/\P (g+la)=true/\(n-g<=d\/(g+d<n/\P (g+d)=false))) ?st ?en ⟨rfl,0,1,rfl,by omega,by omega,by omega,K⟩) ?po)
  case en =>
   rintro c a ⟨rfl,la,d,rfl,D,Z,v,t⟩;exact⟨rfl,la,d,rfl,D,v,t,.inl (by omega)⟩
  case st =>
   rintro x c a _ hx ⟨rfl,la,d,rfl,D,Z,v,t⟩;dsimp only;by_cases b:d ≥ n-g
   .rw[AK b];exact wpS_pure ⟨rfl,la,d,rfl,D,v,t,.inl b⟩
   .rw[AJ b];refine wpS_bind (B rfl (show g+d<n by omega) ?_);cases u:P (g+d)with
    | true=>exact wpS_pure ⟨rfl,d,2*d+1,rfl,by omega,by omega,by omega,u⟩
    | false=>exact wpS_pure ⟨rfl,la,d,rfl,D,v,t,.inr ⟨by omega,u⟩⟩
  case po =>
   rintro c a ⟨rfl,la,d,rfl,D,v,t,H⟩;dsimp only;refine wpS_bind (wpS_mono (S (lo:=g+la+1) (hi:=g+min d (n-g)) (fun x l J=>by
    dsimp only;by_cases b:J<=l
    .refine .inl ?_;rw[AK b];exact wpS_pure ⟨rfl,by rw[AK b]⟩
    .by_cases hn:l +(J - l) / 2<n
     .refine .inl ?_;rw[AJ b];refine wpS_bind (B rfl hn ?_);dsimp only;cases u:P (l +(J - l) / 2)with
      | true =>
       simp only[EZ];exact wpS_pure ⟨rfl,by rw[AJ b]⟩
      | false =>
       simp only[AW,CN];exact wpS_pure ⟨rfl,by rw[AJ b]⟩
     .exact .inr (by omega)) (by omega) (by omega) (fun i hi=>o i (g+la) (by omega) v t) fun i G y=>?_) fun c a ⟨e,k,e2,b1,b2,b3⟩=>?_)
   .rcases H with H | ⟨H,a6⟩
    .omega
    .exact m (g+d) i (by omega) y a6
   .subst e e2;exact wpS_pure (h k b1 b2 b3)
 | false =>
  rw[AJ AZ];refine wpS_bind (wpS_mono (wpS_forRange (I:=fun x c a=>a=st/\∃la d,c =(none,la,d)/\la<d/\x+1<=d/\la<=g/\P (g-la)=false)
   (Q:=fun c a=>a=st/\∃la d,c =(none,la,d)/\la<d/\la<=g/\P (g-la)=false/\(g+1<=d\/(d<=g/\P (g-d)=true))) ?st ?en ⟨rfl,0,1,rfl,by omega,by omega,by omega,K⟩) ?po)
  case en =>
   rintro c a ⟨rfl,la,d,rfl,D,Z,v,t⟩;exact⟨rfl,la,d,rfl,D,v,t,.inl (by omega)⟩
  case st =>
   rintro x c a _ hx ⟨rfl,la,d,rfl,D,Z,v,t⟩;dsimp only;by_cases b:d ≥ g+1
   .rw[AK b];exact wpS_pure ⟨rfl,la,d,rfl,D,v,t,.inl b⟩
   .rw[AJ b];refine wpS_bind (B rfl (show g-d<n by omega) ?_);cases u:P (g-d)with
    | false=>exact wpS_pure ⟨rfl,d,2*d+1,rfl,by omega,by omega,by omega,u⟩
    | true=>exact wpS_pure ⟨rfl,la,d,rfl,D,v,t,.inr ⟨by omega,u⟩⟩
  case po =>
   rintro c a ⟨rfl,la,d,rfl,D,v,t,H⟩;dsimp only;refine wpS_bind (wpS_mono (S (lo:=g+1-min d (g+1)) (hi:=g-la) (fun x l J=>by
    dsimp only;by_cases b:J<=l
    .refine .inl ?_;rw[AK b];exact wpS_pure ⟨rfl,by rw[AK b]⟩
    .by_cases hn:l +(J - l) / 2<n
     .refine .inl ?_;rw[AJ b];refine wpS_bind (B rfl hn ?_);dsimp only;cases u:P (l +(J - l) / 2)with
      | true =>
       simp only[EZ];exact wpS_pure ⟨rfl,by rw[AJ b]⟩
      | false =>
       simp only[AW,CN];exact wpS_pure ⟨rfl,by rw[AJ b]⟩
     .exact .inr (by omega)) (by omega) (by omega) (fun i hi=>?_) fun i G y=>m (g-la) i (by omega) y t) fun c a ⟨e,k,e2,b1,b2,b3⟩=>?_)
   .rcases H with H | ⟨H,a6⟩
    .omega
    .exact o i (g-d) (by omega) (by omega) a6
   .subst e e2;exact wpS_pure (h k b1 b2 b3)
end
section
variable{κ:KeyKind}
theorem P_(p:F1):le κ p p:=KeyOrd.kle_refl _
theorem IZ{p q r:F1}(h1:le κ p q)(h2:le κ q r):le κ p r:=KeyOrd.kle_trans h1 h2
structure ML(κ:KeyKind)(a b:A0 F1)(o:A0 F1)(i j:Nat):Prop where
 perm:o.Perm (a.take i++b.take j)
 sor:KA κ o
 la:∀x∈o,∀y∈a.drop i,le κ x y
 lb:∀x∈o,∀y∈b.drop j,le κ x y
theorem ML.sym{a b o:A0 F1}{i j:Nat}(m:ML κ a b o i j):ML κ b a o j i:=⟨m.perm.trans CT,m.sor,m.lb,m.la⟩
theorem Fz{l:A0 F1}(k:Nat)(h:KA κ l):∀x∈l.take k,∀y∈l.drop k,le κ x y:=by
 have a:KA κ (l.take k++l.drop k):=by rw[BO];exact h
 exact(CP.mp a).2.2
theorem ML.addA{a b o:A0 F1}{i j:Nat}(m:ML κ a b o i j)(e:KA κ a)(k:Nat)(f:∀y∈(a.drop i).take k,∀z∈b.drop j,le κ y z):ML κ a b (o ++(a.drop i).take k) (i+k) j:=by
 have d:KA κ (a.drop i):=e.sublist (FJ _ _);refine⟨?_,?_,fun x hx y c=>?_,fun x hx y c=>?_⟩
 .rw[List.take_add];refine(DP _ m.perm).trans ?_;rw[BF,BF];exact DL _ CT
 .refine CP.mpr ⟨m.sor,d.sublist (EW _ _),fun x hx y c=>m.la x hx y (C_ c)⟩
 .rw[<-FB]at c;rcases A_.mp hx with hx | hx
  .exact m.la x hx y (EB c)
  .exact Fz k d x hx y c
 .rcases A_.mp hx with hx | hx
  .exact m.lb x hx y c
  .exact f x hx y c
theorem ML.addB{a b o:A0 F1}{i j:Nat}(m:ML κ a b o i j)(c:KA κ b)(k:Nat)(d:∀y∈(b.drop j).take k,∀z∈a.drop i,le κ y z):ML κ a b (o ++(b.drop j).take k) i (j+k) :=
 (m.sym.addA c k d).sym
theorem ML.endA{a b o:A0 F1}{i j:Nat}(m:ML κ a b o i j)(e:KA κ a)(f:KA κ b)(h:∀y∈a.drop i,∀z∈b.drop j,le κ y z):KA κ (o++a.drop i++b.drop j)/\(o++a.drop i++b.drop j).Perm (a++b):=by
 refine⟨?_,?_⟩
 .refine CP.mpr ⟨CP.mpr ⟨m.sor,e.sublist (FJ _ _),m.la⟩,f.sublist (FJ _ _),fun x hx y c=>?_⟩;rcases A_.mp hx with hx | hx
  .exact m.lb x hx y c
  .exact h x hx y c
 .have g:(o++a.drop i++b.drop j).Perm ((a.take i++b.take j)++a.drop i++b.drop j):=DP _ (DP _ m.perm);refine g.trans ?_;have d:((a.take i++b.take j)++a.drop i++b.drop j).Perm ((a.take i++a.drop i) ++(b.take j++b.drop j)):=by
   rw[BF,BF,BF];refine DL _ ?_;rw[<-BF,<-BF];exact DP _ CT
  rw[BO,BO]at d;exact d
theorem ML.endB{a b o:A0 F1}{i j:Nat}(m:ML κ a b o i j)(c:KA κ a)(d:KA κ b)(h:∀y∈b.drop j,∀z∈a.drop i,le κ y z):KA κ (o++b.drop j++a.drop i)/\(o++b.drop j++a.drop i).Perm (a++b) :=
 ⟨(m.sym.endA d c h).1,(m.sym.endA d c h).2.trans CT⟩
structure MH(κ:KeyKind)(a b:A0 F1)(o:A0 F1)(i j:Nat):Prop where
 perm:o.Perm (a.drop i++b.drop j)
 sor:KA κ o
 la:∀x∈o,∀y∈a.take i,le κ y x
 lb:∀x∈o,∀y∈b.take j,le κ y x
theorem MH.sym{a b o:A0 F1}{i j:Nat}(m:MH κ a b o i j):MH κ b a o j i:=⟨m.perm.trans CT,m.sor,m.lb,m.la⟩
theorem MH.addA{a b o:A0 F1}{i j:Nat}(m:MH κ a b o i j)(g:KA κ a)(k:Nat)(d:k<=i)(h:∀y∈(a.take i).drop k,∀z∈b.take j,le κ z y):MH κ a b ((a.take i).drop k++o) k j:=by
 have f:KA κ (a.take i):=g.sublist (EW _ _);have e:a.drop k =(a.take i).drop k++a.drop i:=by
  conv=>lhs;rw[<-BO i a]
  rw[List.drop_append];by_cases l:i<=a.length
  .rw[AX,GE l,Nat.sub_eq_zero_of_le d,FC]
  .have:a.drop i = []:=E_ (by lia);rw[this,List.drop_nil]
 have n:(a.take i).take k=a.take k:=by rw[List.take_take,GE d]
 refine⟨?_,?_,fun x hx y c=>?_,fun x hx y c=>?_⟩
 .rw[e,BF];exact DL _ m.perm
 .exact CP.mpr ⟨f.sublist (FJ _ _),m.sor,fun x hx y c=>m.la y c x (EB hx)⟩
 .rw[<-n]at c;rcases A_.mp hx with hx | hx
  .exact Fz k f y c x hx
  .exact m.la x hx y (C_ c)
 .rcases A_.mp hx with hx | hx
  .exact h x hx y c
  .exact m.lb x hx y c
theorem MH.addB{a b o:A0 F1}{i j:Nat}(m:MH κ a b o i j)(d:KA κ b)(k:Nat)(c:k<=j)(e:∀y∈(b.take j).drop k,∀z∈a.take i,le κ z y):MH κ a b ((b.take j).drop k++o) i k :=
 (m.sym.addA d k c e).sym
theorem MH.endA{a b o:A0 F1}{i j:Nat}(m:MH κ a b o i j)(e:KA κ a)(f:KA κ b)(h:∀y∈a.take i,∀z∈b.take j,le κ y z):KA κ (a.take i++b.take j++o)/\(a.take i++b.take j++o).Perm (a++b):=by
 refine⟨?_,?_⟩
 .refine CP.mpr ⟨CP.mpr ⟨e.sublist (EW _ _),f.sublist (EW _ _),h⟩,m.sor,fun x hx y c=>?_⟩;rcases A_.mp hx with hx | hx
  .exact m.la y c x hx
  .exact m.lb y c x hx
 .have g:(a.take i++b.take j++o).Perm (a.take i++b.take j ++(a.drop i++b.drop j)):=DL _ m.perm;refine g.trans ?_;have d:(a.take i++b.take j ++(a.drop i++b.drop j)).Perm ((a.take i++a.drop i) ++(b.take j++b.drop j)):=by
   rw[BF,BF];refine DL _ ?_;rw[<-BF,<-BF];exact DP _ CT
  rw[BO,BO]at d;exact d
theorem MH.endB{a b o:A0 F1}{i j:Nat}(m:MH κ a b o i j)(c:KA κ a)(d:KA κ b)(h:∀y∈b.take j,∀z∈a.take i,le κ y z):KA κ (b.take j++a.take i++o)/\(b.take j++a.take i++o).Perm (a++b) :=
 ⟨(m.sym.endA d c h).1,(m.sym.endA d c h).2.trans CT⟩
end
section
variable{prog:F8}{w:H_}{A:II}{E:A3->A5->Prop}{s:A5}{κ:KeyKind}{kd:JK}
def An(g:Nat):StateT HZ Sem Unit:=modify fun s=>SortSt.mk' (kindOf s) (arrOf s) (pendingOf s) g (failedOf s)
def Er:CM F1->CM F1->StateT HZ Sem (CM F1):=sortPriv% PySem.Builtin.mergeLo
theorem Kc(a b:CM F1):Er a b =(do
  rule "list.sort.merge-lo"
  let d:=a.size+b.size
  let c (o:CM F1) (i j:Nat):=o++a.extract i a.size++b.extract j b.size
  let g (o:CM F1) (i j:Nat):=o++b.extract j b.size++a.extract i a.size
  let mut o:CM F1:=#[<-elem' b 0]
  let mut i:=0
  let mut j:=1
  if j == b.size then return c o i j
  if i+1 == a.size then return g o i j
  let mut mg:=gallopOf (<-get)
  for _ in [0:d] do
   let mut e:=0
   let mut f:=0
   for _ in [0:d] do
    let some h <-lt' (<-elem' b j) (<-elem' a i) | return c o i j
    if h then
     o:=o.push (<-elem' b j);j:=j+1;f:=f+1;e:=0
     if j == b.size then return c o i j
     if f ≥ mg then break
    else
     o:=o.push (<-elem' a i);i:=i+1;e:=e+1;f:=0
     if i+1 == a.size then return g o i j
     if e ≥ mg then break
   rule "list.sort.gallop"
   mg:=mg+1
   for _ in [0:d] do
    if mg>1 then mg:=mg-1
    An mg
    let some k <-U3 false (<-elem' b j) a i (a.size-i) 0 | return c o i j
    e:=k
    if k>0 then
     o:=o++a.extract i (i+k);i:=i+k
     if i+1 == a.size then return g o i j
     if i == a.size then return c o i j
    o:=o.push (<-elem' b j);j:=j+1
    if j == b.size then return c o i j
    let some k <-U3 true (<-elem' a i) b j (b.size-j) 0 | return c o i j
    f:=k
    if k>0 then
     o:=o++b.extract j (j+k);j:=j+k
     if j == b.size then return c o i j
    o:=o.push (<-elem' a i);i:=i+1
    if i+1 == a.size then return g o i j
    if e<7&&f<7 then break
   mg:=mg+1
   An mg
  unsupported "internal:list.sort.merge-bound"):=rfl
def Sm(st a:HZ):Prop:=kindOf a=kindOf st/\arrOf a=arrOf st/\pendingOf a=pendingOf st/\failedOf a=failedOf st
theorem Sm.refl(st:HZ):Sm st st:=⟨rfl,rfl,rfl,rfl⟩
theorem X4{st st0:HZ}{g:Nat}{Q:Unit->HZ->Prop}(b:Sm st0 st)(h:∀a,Sm st0 a->Q () a):wpS (model prog w) A E s (An g) Q st :=
 wpS_modify (h _ ⟨b.1,b.2.1,b.2.2.1,b.2.2.2⟩)
theorem Cw{l:A0 F1}{i k:Nat}{y:F1}(h:y∈(l.drop i).take k):∃t,t<k/\l[i+t]?=some y:=by
 obtain⟨t,a,e⟩:=FK.mp h;rw[AX,DE]at a;refine⟨t,by lia,?_⟩;rw[List.getElem_take,List.getElem_drop]at e;rw[<-e];exact AC (by lia)
theorem Ip{l:A0 F1}{i:Nat}{y:F1}(h:y∈l.drop i):∃t,i+t<l.length/\l[i+t]?=some y:=by
 obtain⟨t,a,e⟩:=FK.mp h;rw[DE]at a;refine⟨t,by lia,?_⟩;rw[List.getElem_drop]at e;rw[<-e];exact AC (by lia)
theorem Ni{l:A0 F1}{i:Nat}{y:F1}(h:y∈l.take i):∃t,t<i/\t<l.length/\l[t]?=some y:=by
 obtain⟨t,a,e⟩:=FK.mp h;rw[AX]at a;refine⟨t,by lia,by lia,?_⟩;rw[List.getElem_take]at e;rw[<-e];exact AC (by lia)
theorem Wm{l:A0 F1}{i k:Nat}{y:F1}(h:y∈(l.take i).drop k):∃t,k<=t/\t<i/\l[t]?=some y:=by
 obtain⟨t,b,a⟩:=Ip h;rw[AX]at b;rw[DI (by lia)]at a;exact⟨k+t,by lia,by lia,a⟩
theorem u7{l:A0 F1}(h:KA κ l){i j:Nat}{p q:F1}(a:i<=j)(b:l[i]?=some p)(c:l[j]?=some q):le κ p q:=by
 obtain⟨d,rfl⟩:=AG.mp b;obtain⟨e,rfl⟩:=AG.mp c;rcases Nat.lt_or_eq_of_le a with z | z
 .exact GQ.mp h i j d e z
 .subst z;exact P_ _
theorem Ed{l:A0 F1}(h:KA κ l){i:Nat}{p:F1}(a:l[i]?=some p):∀z∈l.drop i,le κ p z:=fun z b=>by
 obtain⟨t,_,e⟩:=Ip b;exact u7 h (FT _ _) a e
theorem IJ{a:CM F1}{i:Nat}{p:F1}:a[i]?=some p↔a.toList[i]?=some p:=by rw[BK]
theorem Y2{a:CM F1}{i:Nat}(h:i<a.size):∃p,a[i]?=some p:=⟨a[i],getElem?_pos a i h⟩
theorem Pz{l:A0 F1}{i:Nat}{p:F1}(h:l[i]?=some p):(l.drop i).take 1 = [p]:=by
 obtain⟨a,rfl⟩:=AG.mp h;rw[EL a];rfl
theorem Ef(a:CM F1)(i k:Nat):(a.extract i (i+k)).toList =(a.toList.drop i).take k:=by
 rw[ET,EM,Nat.add_sub_cancel_left]
theorem p9(a:CM F1)(i:Nat):(a.extract i a.size).toList=a.toList.drop i:=by
 rw[ET,EM,DA];rw[DE,AL];exact Nat.le_refl _
theorem o7(a:CM F1)(i:Nat):(a.extract 0 i).toList=a.toList.take i:=by
 rw[ET,EM,FC,Nat.sub_zero]
def Rm(κ:KeyKind)(a b r:CM F1):Prop:=KA κ r.toList/\r.toList.Perm (a.toList++b.toList)
structure LX(κ:KeyKind)(a b:CM F1):Prop where
 sa:KA κ a.toList
 sb:KA κ b.toList
 ka:∀(i:Nat) p,a[i]?=some p->PP κ p
 kb:∀(i:Nat) p,b[i]?=some p->PP κ p
 na:1<=a.size
 nb:1<=b.size
 first:∀q,b[0]?=some q->∀z∈a.toList,le κ q z
 last:∀p,a[a.size-1]?=some p->∀z∈b.toList,le κ z p
section
variable{a b o:CM F1}{i j k:Nat}{p q:F1}
theorem LX.pushB(P:LX κ a b)(m:ML κ a.toList b.toList o.toList i j)(c:b[j]?=some q)(h:∀z∈a.toList.drop i,le κ q z):ML κ a.toList b.toList (o.push q).toList i (j+1):=by
 have d:=m.addB P.sb 1 (by rw[Pz (IJ.mp c)];intro y e;rw[AF.mp e];exact h);rw[Pz (IJ.mp c)]at d;rw[DB];exact d
theorem LX.pushA(P:LX κ a b)(m:ML κ a.toList b.toList o.toList i j)(c:a[i]?=some p)(h:∀z∈b.toList.drop j,le κ p z):ML κ a.toList b.toList (o.push p).toList (i+1) j:=by
 have d:=m.addA P.sa 1 (by rw[Pz (IJ.mp c)];intro y e;rw[AF.mp e];exact h);rw[Pz (IJ.mp c)]at d;rw[DB];exact d
theorem LX.extA(P:LX κ a b)(m:ML κ a.toList b.toList o.toList i j)(h:∀y∈(a.toList.drop i).take k,∀z∈b.toList.drop j,le κ y z):ML κ a.toList b.toList (o++a.extract i (i+k)).toList (i+k) j:=by
 rw[BN,Ef];exact m.addA P.sa k h
theorem LX.extB(P:LX κ a b)(m:ML κ a.toList b.toList o.toList i j)(h:∀y∈(b.toList.drop j).take k,∀z∈a.toList.drop i,le κ y z):ML κ a.toList b.toList (o++b.extract j (j+k)).toList i (j+k):=by
 rw[BN,Ef];exact m.addB P.sb k h
theorem LX.doneB(P:LX κ a b)(m:ML κ a.toList b.toList o.toList i j)(d:j=b.size):Rm κ a b (o++a.extract i a.size++b.extract j b.size):=by
 unfold Rm;rw[BN,BN,p9,p9];refine m.endA P.sa P.sb fun y _ z c=>?_;rw[E_ (by rw[AL];lia)]at c;exact absurd c (by simp)
theorem LX.doneA(P:LX κ a b)(m:ML κ a.toList b.toList o.toList i j)(hi:i=a.size):Rm κ a b (o++a.extract i a.size++b.extract j b.size):=by
 unfold Rm;rw[BN,BN,p9,p9];refine m.endA P.sa P.sb fun y c z _=>?_;rw[E_ (by rw[AL];lia)]at c;exact absurd c (by simp)
theorem LX.lastA(P:LX κ a b)(m:ML κ a.toList b.toList o.toList i j)(hi:i+1=a.size):Rm κ a b (o++b.extract j b.size++a.extract i a.size):=by
 unfold Rm;rw[BN,BN,p9,p9];refine m.endB P.sa P.sb fun y d z f=>?_;obtain⟨t,g,c⟩:=Ip f;rw[AL]at g;have e:i+t=a.size-1:=by lia
 rw[e]at c;exact P.last z (IJ.mpr c) y (EB d)
end
theorem Sm.knd{st a:HZ}(h:Sm st a){k:JK}(b:kindOf st=k):kindOf a=k:=h.1.trans b
theorem n9(C:OZ prog w A s κ kd){st:HZ}{left:Bool}{d:F1}{b:CM F1}{bs n e:Nat}{Q:A6 Nat->HZ->Prop}(D:kindOf st=kd)(f:PP κ d)
  (hsz:bs+n<=b.size) (F:∀(i:Nat) p,b[i]?=some p->PP κ p) (G:∀(u v:Nat) p q,u<=v->v<n->b[bs+u]?=some p->b[bs+v]?=some q->le κ p q) (g:e<n)
  (h:∀k,k<=n->(∀(t:Nat) p,t<k->b[bs+t]?=some p->PB κ left d p=true)->(∀(t:Nat) p,k<=t->t<n->b[bs+t]?=some p->PB κ left d p=false)->Q (some k) st) :
  wpS (model prog w) A E s (U3 left d b bs n e) Q st:=by
 have c:∀t,t<n->∃p,b[bs+t]?=some p:=fun t e=>Y2 (by lia);refine Od C D f (fun t=>match b[bs+t]? with | some p=>PB κ left d p | none=>false) (fun i H=>?_) (fun i j m y a=>?_) g fun k o I J=>?_
 .obtain⟨p,a⟩:=c i H;exact⟨p,a,F _ p a,by rw[a]⟩
 .obtain⟨p,z⟩:=c i (by lia);obtain⟨q,B⟩:=c j y;rw[B]at a;rw[z];have l:=G i j p q m y z B;dsimp only at a⊢;unfold PB at a⊢;cases left with
  | true =>
   simp only[EZ]at a⊢;exact KeyOrd.klt_of_kle_of_klt l a
  | false =>
   simp only[AW,CN,Bool.not_eq_true']at a⊢;exact KeyOrd.kle_trans l a
 .refine h k o (fun t p e a=>?_) fun t p r x a=>?_
  .have:=I t e;rw[a]at this;exact this
  .have:=J t r x;rw[a]at this;exact this
theorem Fb{a p:F1}(h:PB κ false a p=true):le κ p a:=by
 unfold PB at h;show κ.blt (kk κ a) (kk κ p)=false;simpa using h
theorem Bj{a p:F1}(h:PB κ false a p=false):κ.klt (kk κ a) (kk κ p):=by
 unfold PB at h;show κ.blt (kk κ a) (kk κ p)=true;simpa using h
theorem Kj{a p:F1}(h:PB κ true a p=true):κ.klt (kk κ p) (kk κ a):=by
 unfold PB at h;show κ.blt (kk κ p) (kk κ a)=true;simpa using h
theorem Ey{a p:F1}(h:PB κ true a p=false):le κ a p:=by
 unfold PB at h;show κ.blt (kk κ p) (kk κ a)=false;simpa using h
section
variable{α:Type}{Q:α->HZ->Prop}{st:HZ}
theorem S9{c:Prop}{_:Decidable c}{t e:StateT HZ Sem α}(h1:c->wpS (model prog w) A E s t Q st)(h2:¬c->wpS (model prog w) A E s e Q st):wpS (model prog w) A E s (if c then t else e) Q st:=by
 split
 .rename_i h;exact h1 h
 .rename_i h;exact h2 h
theorem M9{x y:Nat}{t e:StateT HZ Sem α}(h1:x=y->wpS (model prog w) A E s t Q st)(h2:x≠y->wpS (model prog w) A E s e Q st):wpS (model prog w) A E s (if(x == y)=true then t else e) Q st :=
 S9 (fun h=>h1 (eq_of_beq h)) fun h=>h2 fun z=>h (beq_iff_eq.mpr z)
theorem Px{c:Prop}{_:Decidable c}{t:StateT HZ Sem α}{F:Nat->StateT HZ Sem α}(x:Nat){y:Nat}(h:∀g,wpS (model prog w) A E s (F g) Q st)(e:t=F x):wpS (model prog w) A E s (if c then t else F y) Q st:=by
 subst e;exact S9 (fun _=>h _) fun _=>h _
theorem Fd{c:Prop}{_:Decidable c}{t:StateT HZ Sem α}{F:CM F1->Nat->StateT HZ Sem α}{o:CM F1}{i:Nat}(R:CM F1->Nat->Prop)(h:∀o i,R o i->wpS (model prog w) A E s (F o i) Q st)
  (a:(∀o i,R o i->wpS (model prog w) A E s (F o i) Q st)->c->wpS (model prog w) A E s t Q st) (b:¬c->R o i):wpS (model prog w) A E s (if c then t else F o i) Q st:=S9 (a h) fun z=>h _ _ (b z)
end
theorem Oy{α β:Type}{h:Sem Unit}{i:StateT HZ Sem F1}{x0:F1}{b e:Prop}{_:Decidable b}{_:Decidable e}{j k:F1->StateT HZ Sem α}{d:F1->HZ->β}{n:Nat}{f:Nat->β->StateT HZ Sem (ForInStep β)}{g:β->StateT HZ Sem α}{Q:α->HZ->Prop}{st:HZ}
  (m:∀R:Unit->HZ->Prop,R () st->wpS (model prog w) A E s (liftM h:StateT HZ Sem Unit) R st) (o:∀R:F1->HZ->Prop,R x0 st->wpS (model prog w) A E s i R st) (h1:b->wpS (model prog w) A E s (j x0) Q st) (h2:¬b->e->wpS (model prog w) A E s (k x0) Q st)
  (p:¬b->¬e->wpS (model prog w) A E s (forIn [0:n] (d x0 st) f) (fun c a=>wpS (model prog w) A E s (g c) Q a) st) :
  wpS (model prog w) A E s ((liftM h:StateT HZ Sem Unit) >>= fun _=>i >>= fun x=>if b then j x else if e then k x else get >>= fun a=>forIn [0:n] (d x a) f >>= g) Q st :=
 wpS_bind (m _ (wpS_bind (o _ (S9 h1 fun l=>S9 (h2 l) fun q=>wpS_bind (wpS_get (wpS_bind (p l q)))))))
def MR(κ:KeyKind)(a b:CM F1)(st:HZ){β:Type}(c:A6 (CM F1)×β)(d:HZ):Prop:=Sm st d/\∃r,c.1=some r/\Rm κ a b r
theorem MR.mk{a b r:CM F1}{st d:HZ}{β:Type}{c:β}(e:Sm st d)(h:Rm κ a b r):MR κ a b st (some r,c) d:=⟨e,r,rfl,h⟩
structure OF(κ:KeyKind)(a b:CM F1)(n:Nat)(o:CM F1)(i j:Nat):Prop where
 m:ML κ a.toList b.toList o.toList i j
 hi:i+1<a.size
 hj:j<b.size
 hn:n<=i+j
theorem OF.putB{a b o c:CM F1}{n i j:Nat}(h:OF κ a b n o i j)(m:ML κ a.toList b.toList c.toList i (j+1))(e:j+1≠b.size):OF κ a b (n+1) c i (j+1):=⟨m,h.hi,FD h.hj e,Nat.succ_le_succ h.hn⟩
theorem OF.putA{a b o c:CM F1}{n i j:Nat}(h:OF κ a b n o i j)(m:ML κ a.toList b.toList c.toList (i+1) j)(e:i+1+1≠a.size):OF κ a b (n+1) c (i+1) j:=⟨m,FD h.hi e,h.hj,by rw[Nat.add_right_comm];exact Nat.succ_le_succ h.hn⟩
theorem OF.mono{a b o:CM F1}{n c i j:Nat}(h:OF κ a b n o i j)(l:c<=n):OF κ a b c o i j:=⟨h.m,h.hi,h.hj,Nat.le_trans l h.hn⟩
def zFy(κ:KeyKind)(a b:CM F1)(st:HZ)(n:Nat)(c:A6 (CM F1)×CM F1×Nat×Nat×Nat)(d:HZ):Prop:=Sm st d/\∃o i j e,c =(none,o,i,j,e)/\OF κ a b n o i j
def NX(κ:KeyKind)(a b:CM F1)(st:HZ)(n:Nat)(c:A6 (CM F1)×CM F1×Nat×Nat×Nat×Nat)(d:HZ):Prop:=Sm st d/\∃o i j e f,c =(none,o,i,j,e,f)/\OF κ a b n o i j
def OG(κ:KeyKind)(a b:CM F1)(st:HZ)(n:Nat)(c:A6 (CM F1)×CM F1×Nat×Nat×Nat×Nat×Nat)(d:HZ):Prop:=Sm st d/\∃o i j e f g,c =(none,o,i,j,e,f,g)/\OF κ a b n o i j
theorem NX.mk{a b o:CM F1}{st c:HZ}{n i j d e:Nat}(f:Sm st c)(h:OF κ a b n o i j):NX κ a b st n (none,o,i,j,d,e) c:=⟨f,_,_,_,_,_,rfl,h⟩
theorem OG.mk{a b o:CM F1}{st c:HZ}{n i j mg d e:Nat}(f:Sm st c)(h:OF κ a b n o i j):OG κ a b st n (none,o,i,j,mg,d,e) c:=⟨f,_,_,_,_,_,_,rfl,h⟩
theorem Ka(C:OZ prog w A s κ kd){st:HZ}{a b:CM F1}{Q:CM F1->HZ->Prop}(hk:kindOf st=kd)(P:LX κ a b)
  (h:∀r d,Sm st d->Rm κ a b r->Q r d):wpS (model prog w) A E s (Er a b) Q st:=by
 rw[Kc];obtain⟨b0,O⟩:=Y2 (a:=b) (i:=0) P.nb;have m0:ML κ a.toList b.toList (#[]:CM F1).toList 0 0:=⟨by simp,List.Pairwise.nil,fun x hx=>absurd hx (by simp),fun x hx=>absurd hx (by simp)⟩;have m1:ML κ a.toList b.toList (#[b0]:CM F1).toList 0 1:=by
  have:=P.pushB m0 O (by rw[FC];exact P.first b0 O);simpa using this
 apply Oy (x0:=b0) (fun R z=>wpS_lift (EO ⟨rfl,z⟩)) (fun R z=>D3 O z)
 case h1=>exact fun S=>wpS_pure (h _ _ (Sm.refl _) (P.doneB m1 (eq_of_beq S)))
 case h2=>exact fun _ T=>wpS_pure (h _ _ (Sm.refl _) (P.lastA m1 (eq_of_beq T)))
 intro S T;have p1:OF κ a b 1 #[b0] 0 1:=⟨m1,FD P.na fun z=>T (beq_iff_eq.mpr z),FD P.nb fun z=>S (beq_iff_eq.mpr z),Nat.le_refl _⟩;refine wpS_mono (wpS_forRange (I:=fun x=>zFy κ a b st (x+1)) (Q:=MR κ a b st) ?st ?en ⟨Sm.refl _,_,_,_,_,rfl,p1⟩) ?po
 case po =>
  rintro⟨c1,c2⟩ d ⟨sm,r,e,Z⟩;cases e;exact wpS_pure (h r d sm Z)
 case en =>
  rintro c d ⟨sm,o,i,j,mg,rfl,p⟩;obtain⟨_,h1,h2,h3⟩:=p;exfalso;lia
 case st =>
  rintro x c d _ hx ⟨sm,o,i,j,mg,rfl,p⟩;refine wpS_bind (wpS_mono (wpS_forRange (I:=fun _=>NX κ a b st (x+1)) (Q:=fun c d=>MR κ a b st c d\/NX κ a b st (x+1) c d) ?st1 ?en1 (NX.mk sm p)) ?po1)
  case en1=>exact fun c st2 z=>.inr z
  case st1 =>
   rintro x2 c st2 _ _ ⟨f,o,i',j',ac,bc,rfl,N⟩;obtain⟨bj,l⟩:=Y2 (a:=b) (i:=j') N.hj;obtain⟨ai,n⟩:=Y2 (a:=a) (i:=i') (GK N.hi);refine wpS_bind (D3 l (wpS_bind (D3 n (wpS_bind (Hj C (f.knd hk) (P.kb _ _ l) (P.ka _ _ n) ?_)))));refine S9 (fun U=>wpS_bind (D3 l ?_)) fun U=>wpS_bind (D3 n ?_)
   .have m3:=P.pushB N.m l fun z H=>IZ (KeyOrd.kle_of_klt U) (Ed P.sa (IJ.mp n) z H);refine M9 (fun G=>wpS_pure (.inl (MR.mk f (P.doneB m3 G)))) fun G=>?_;have D:=(N.putB m3 G).mono (DV _);exact S9 (fun _=>wpS_pure (.inr (NX.mk f D))) fun _=>wpS_pure (NX.mk f D)
   .have m3:=P.pushA N.m n fun z H=>IZ (show le κ ai bj from B_.mpr U) (Ed P.sb (IJ.mp l) z H);refine M9 (fun G=>wpS_pure (.inl (MR.mk f (P.lastA m3 G)))) fun G=>?_;have D:=(N.putA m3 G).mono (DV _);exact S9 (fun _=>wpS_pure (.inr (NX.mk f D))) fun _=>wpS_pure (NX.mk f D)
  case po1 =>
   rintro⟨c1,c2⟩ st2 (⟨f,r,e,Z⟩ | ⟨f,o2,i2,j2,ac,bc,e,N⟩)
   .cases e;exact wpS_pure (MR.mk f Z)
   .cases e;refine wpS_bind (wpS_lift (EO ⟨rfl,?_⟩));refine wpS_bind (wpS_mono (wpS_forRange (I:=fun x3=>OG κ a b st (x+1+x3)) (Q:=fun c d=>MR κ a b st c d\/OG κ a b st (x+1+1) c d) ?st2 ?en2 (OG.mk f N)) ?po2)
    case en2 =>
     rintro c st3 ⟨F,o',i',j',mg',ac,bc,rfl,D⟩;refine .inr (OG.mk F (D.mono ?_));have:=P.na;lia
    case po2 =>
     rintro⟨c1,c2⟩ st3 (⟨F,r,e,Z⟩ | ⟨F,o',i',j',mg',ac,bc,e,D⟩)
     .cases e;exact wpS_pure (MR.mk F Z)
     .cases e;refine wpS_bind (X4 F fun st4 B=>?_);exact wpS_pure ⟨B,_,_,_,_,rfl,D⟩
    case st2 =>
     rintro x3 c st3 _ _ ⟨F,o3,V,j3,mg3,ac3,bc3,rfl,D⟩;obtain⟨bj,l⟩:=Y2 (a:=b) (i:=j3) D.hj;have hi3:V +(a.size-V)<=a.size:=by rw[Nat.add_sub_cancel' (DZ (GK D.hi))];exact Nat.le_refl _
     have hj3:=D.hj;apply Px (mg3-1) (y:=mg3)
     case e=>exact rfl
     intro g;refine wpS_bind (X4 F fun st4 B=>?_);refine wpS_bind (D3 l (wpS_bind (n9 C (B.knd hk) (P.kb _ _ l) hi3 P.ka (fun u v p q W _ G Y=>u7 P.sa (FS W _) (IJ.mp G) (IJ.mp Y)) (Nat.sub_pos_of_lt (GK D.hi)) fun k hk1 k1 k2=>?_)));have m4:ML κ a.toList b.toList (o3++a.extract V (V+k)).toList (V+k) j3:=P.extA D.m fun y hy z H=>by
      obtain⟨t,X,e⟩:=Cw hy;exact IZ (Fb (k1 t y X (IJ.mpr e))) (Ed P.sb (IJ.mp l) z H)
     have K:∀z∈a.toList.drop (V+k),le κ bj z:=fun z H=>by
      obtain⟨t,X,e⟩:=Ip H;rw[AL]at X;exact KeyOrd.kle_of_klt (Bj (k2 (k+t) z (FT _ _) (by lia) (by rw[<-Nat.add_assoc];exact IJ.mpr e)))
     apply Fd (o:=o3) (i:=V) (fun o i=>OF κ a b (x+1+x3) o i j3/\∀z∈a.toList.drop i,le κ bj z)
     .rintro o4 i4 ⟨p4,K⟩;refine wpS_bind (D3 l ?_);have m5:=P.pushB p4.m l K;refine M9 (fun e3=>wpS_pure (.inl (MR.mk B (P.doneB m5 e3)))) fun e3=>?_;have L:=p4.putB m5 e3;generalize o4.push bj=o5 at m5 L⊢;generalize j3+1=j5 at m5 L⊢;obtain⟨ai,n⟩:=Y2 (a:=a) (i:=i4) (GK L.hi);refine wpS_bind (D3 n (wpS_bind (n9 C (B.knd hk) (P.ka _ _ n) (by rw[Nat.add_sub_cancel' (DZ L.hj)];exact Nat.le_refl _) P.kb (fun u v p q W _ G Y=>u7 P.sb (FS W _) (IJ.mp G) (IJ.mp Y)) (Nat.sub_pos_of_lt L.hj) fun k' hk1' k1' k2'=>?_)));have M:∀z∈b.toList.drop (j5+k'),le κ ai z:=fun z H=>by
       obtain⟨t,X,e⟩:=Ip H;rw[AL]at X;exact Ey (k2' (k'+t) z (FT _ _) (by lia) (by rw[<-Nat.add_assoc];exact IJ.mpr e))
      apply Fd (o:=o5) (i:=j5) (fun o j=>OF κ a b (x+1+x3+1) o i4 j/\∀z∈b.toList.drop j,le κ ai z)
      .rintro o6 j6 ⟨p6,M⟩;refine wpS_bind (D3 n ?_);have m7:=P.pushA p6.m n M;refine M9 (fun e5=>wpS_pure (.inl (MR.mk B (P.lastA m7 e5)))) fun e5=>?_;have p7:=p6.putA m7 e5;exact S9 (fun _=>wpS_pure (.inr (OG.mk B (p7.mono (by lia))))) fun _=>wpS_pure (OG.mk B (p7.mono (by lia)))
      .intro hF J;have m6:ML κ a.toList b.toList (o5++b.extract j5 (j5+k')).toList i4 (j5+k'):=P.extB m5 fun y hy z H=>by
        obtain⟨t,X,e⟩:=Cw hy;exact IZ (KeyOrd.kle_of_klt (Kj (k1' t y X (IJ.mpr e)))) (Ed P.sa (IJ.mp n) z H)
       have hj5:=L.hj;exact M9 (fun e4=>wpS_pure (.inl (MR.mk B (P.doneB m6 e4)))) fun e4=>hF _ _ ⟨⟨m6,L.hi,by lia,Nat.le_trans L.hn (by lia)⟩,M⟩
      .intro J;have z0:k'=0:=F_ J;subst z0;exact⟨L,M⟩
     .intro hF J;have hi:=D.hi;exact M9 (fun G=>wpS_pure (.inl (MR.mk B (P.lastA m4 G)))) fun G=>M9 (fun Y=>wpS_pure (.inl (MR.mk B (P.doneA m4 Y)))) fun Y=>hF _ _ ⟨⟨m4,by lia,D.hj,Nat.le_trans D.hn (by lia)⟩,K⟩
     .intro J;have z0:k=0:=F_ J;subst z0;exact⟨D,K⟩
end
section
variable{prog:F8}{w:H_}{A:II}{E:A3->A5->Prop}{s:A5}{κ:KeyKind}{kd:JK}
def Dw:CM F1->CM F1->StateT HZ Sem (CM F1):=sortPriv% PySem.Builtin.mergeHi
theorem Jj(a b:CM F1):Dw a b =(do
  rule "list.sort.merge-hi"
  let e:=a.size+b.size
  let d (o:CM F1) (i j:Nat):=a.extract 0 i++b.extract 0 j++o.reverse
  let h (o:CM F1) (i j:Nat):=b.extract 0 j++a.extract 0 i++o.reverse
  let mut i:=a.size-1
  let mut j:=b.size
  let mut o:CM F1:=#[<-elem' a i]
  if i == 0 then return d o i j
  if j == 1 then return h o i j
  let mut mg:=gallopOf (<-get)
  for _ in [0:e] do
   let mut f:=0
   let mut g:=0
   for _ in [0:e] do
    let some l <-lt' (<-elem' b (j-1)) (<-elem' a (i-1)) | return d o i j
    if l then
     i:=i-1;o:=o.push (<-elem' a i);f:=f+1;g:=0
     if i == 0 then return d o i j
     if f ≥ mg then break
    else
     j:=j-1;o:=o.push (<-elem' b j);g:=g+1;f:=0
     if j == 1 then return h o i j
     if g ≥ mg then break
   rule "list.sort.gallop"
   mg:=mg+1
   for _ in [0:e] do
    if mg>1 then mg:=mg-1
    An mg
    let some c <-U3 false (<-elem' b (j-1)) a 0 i (i-1) | return d o i j
    let k:=i-c
    f:=k
    if k>0 then
     o:=o ++(a.extract c i).reverse;i:=c
     if i == 0 then return d o i j
    j:=j-1;o:=o.push (<-elem' b j)
    if j == 1 then return h o i j
    let some c <-U3 true (<-elem' a (i-1)) b 0 j (j-1) | return d o i j
    let k:=j-c
    g:=k
    if k>0 then
     o:=o ++(b.extract c j).reverse;j:=c
     if j == 1 then return h o i j
     if j == 0 then return d o i j
    i:=i-1;o:=o.push (<-elem' a i)
    if i == 0 then return d o i j
    if f<7&&g<7 then break
   mg:=mg+1
   An mg
  unsupported "internal:list.sort.merge-bound"):=rfl
abbrev NL(κ:KeyKind)(a b o:CM F1)(i j:Nat):Prop:=MH κ a.toList b.toList o.toList.reverse i j
section
variable{a b o:CM F1}{i j k:Nat}{p q:F1}
theorem td1{l:A0 F1}{i:Nat}{p:F1}(hi:1<=i)(h:l[i-1]?=some p):(l.take i).drop (i-1) = [p]:=by
 rw[GM,show i-(i-1)=1 by lia];exact Pz h
theorem Jg(a:CM F1)(k i:Nat):(a.extract k i).toList =(a.toList.take i).drop k:=by
 rw[ET,EM,GM]
theorem Dt{l:A0 F1}(h:KA κ l){i:Nat}{p:F1}(a:l[i-1]?=some p):∀z∈l.take i,le κ z p:=fun z b=>by
 obtain⟨t,c,_,e⟩:=Ni b;exact u7 h (by lia) e a
theorem LX.hpA(P:LX κ a b)(m:NL κ a b o i j)(hi:1<=i)(c:a[i-1]?=some p)(h:∀z∈b.toList.take j,le κ z p):NL κ a b (o.push p) (i-1) j:=by
 have d:=m.addA P.sa (i-1) (by lia) (by rw[td1 hi (IJ.mp c)];intro y e;rw[AF.mp e];exact h);rw[td1 hi (IJ.mp c)]at d;unfold NL;rw[DB,GT];exact d
theorem LX.hpB(P:LX κ a b)(m:NL κ a b o i j)(c:1<=j)(d:b[j-1]?=some q)(h:∀z∈a.toList.take i,le κ z q):NL κ a b (o.push q) i (j-1):=by
 have e:=m.addB P.sb (j-1) (by lia) (by rw[td1 c (IJ.mp d)];intro y f;rw[AF.mp f];exact h);rw[td1 c (IJ.mp d)]at e;unfold NL;rw[DB,GT];exact e
theorem LX.heA(P:LX κ a b)(m:NL κ a b o i j)(c:k<=i)(h:∀y∈(a.toList.take i).drop k,∀z∈b.toList.take j,le κ z y):NL κ a b (o ++(a.extract k i).reverse) k j:=by
 unfold NL;rw[BN,FM,GT,List.reverse_reverse,Jg];exact m.addA P.sa k c h
theorem LX.heB(P:LX κ a b)(m:NL κ a b o i j)(c:k<=j)(h:∀y∈(b.toList.take j).drop k,∀z∈a.toList.take i,le κ z y):NL κ a b (o ++(b.extract k j).reverse) i k:=by
 unfold NL;rw[BN,FM,GT,List.reverse_reverse,Jg];exact m.addB P.sb k c h
theorem LX.hdA(P:LX κ a b)(m:NL κ a b o i j)(hi:i=0):Rm κ a b (a.extract 0 i++b.extract 0 j++o.reverse):=by
 unfold Rm;rw[BN,BN,FM,o7,o7];refine m.endA P.sa P.sb fun y c z _=>?_;rw[hi,List.take_zero]at c;exact absurd c (by simp)
theorem LX.hdB(P:LX κ a b)(m:NL κ a b o i j)(d:j=0):Rm κ a b (a.extract 0 i++b.extract 0 j++o.reverse):=by
 unfold Rm;rw[BN,BN,FM,o7,o7];refine m.endA P.sa P.sb fun y _ z c=>?_;rw[d,List.take_zero]at c;exact absurd c (by simp)
theorem LX.hfB(P:LX κ a b)(m:NL κ a b o i j)(g:j=1):Rm κ a b (b.extract 0 j++a.extract 0 i++o.reverse):=by
 unfold Rm;rw[BN,BN,FM,o7,o7];refine m.endB P.sa P.sb fun y c z d=>?_;obtain⟨t,h,_,e⟩:=Ni c;have f:t=0:=by lia
 rw[f]at e;exact P.first y (IJ.mpr e) z (C_ d)
end
structure NK(κ:KeyKind)(a b:CM F1)(n:Nat)(o:CM F1)(i j:Nat):Prop where
 m:NL κ a b o i j
 hi:1<=i
 hj:2<=j
 ia:i<=a.size
 jb:j<=b.size
 hn:n+i+j<=a.size+b.size
theorem NK.putA{a b o c:CM F1}{n i j:Nat}(h:NK κ a b n o i j)(m:NL κ a b c (i-1) j)(e:i-1≠0):NK κ a b (n+1) c (i-1) j:=by
 obtain⟨_,g,d,k,f,l⟩:=h;exact⟨m,by lia,d,by lia,f,by lia⟩
theorem NK.putB{a b o c:CM F1}{n i j:Nat}(h:NK κ a b n o i j)(m:NL κ a b c i (j-1))(e:j-1≠1):NK κ a b (n+1) c i (j-1):=by
 obtain⟨_,d,g,f,k,l⟩:=h;exact⟨m,d,by lia,f,by lia,by lia⟩
theorem NK.mono{a b o:CM F1}{n c i j:Nat}(h:NK κ a b n o i j)(l:c<=n):NK κ a b c o i j:=⟨h.m,h.hi,h.hj,h.ia,h.jb,Nat.le_trans (Nat.add_le_add_right (Nat.add_le_add_right l _) _) h.hn⟩
theorem NK.la{a b o:CM F1}{n i j:Nat}(h:NK κ a b n o i j):i-1<a.size:=BE (Nat.sub_lt h.hi (GZ)) h.ia
theorem NK.lb{a b o:CM F1}{n i j:Nat}(h:NK κ a b n o i j):j-1<b.size:=BE (Nat.sub_lt (GK h.hj) (GZ)) h.jb
theorem NK.hj1{a b o:CM F1}{n i j:Nat}(h:NK κ a b n o i j):1<=j:=Nat.le_of_succ_le h.hj
def zGj(κ:KeyKind)(a b:CM F1)(st:HZ)(n:Nat)(c:A6 (CM F1)×Nat×Nat×CM F1×Nat)(d:HZ):Prop:=Sm st d/\∃i j o e,c =(none,i,j,o,e)/\NK κ a b n o i j
def NY(κ:KeyKind)(a b:CM F1)(st:HZ)(n:Nat)(c:A6 (CM F1)×Nat×Nat×CM F1×Nat×Nat)(d:HZ):Prop:=Sm st d/\∃i j o e f,c =(none,i,j,o,e,f)/\NK κ a b n o i j
def OH(κ:KeyKind)(a b:CM F1)(st:HZ)(n:Nat)(c:A6 (CM F1)×Nat×Nat×CM F1×Nat×Nat×Nat)(d:HZ):Prop:=Sm st d/\∃i j o e f g,c =(none,i,j,o,e,f,g)/\NK κ a b n o i j
theorem NY.mk{a b o:CM F1}{st c:HZ}{n i j d e:Nat}(f:Sm st c)(h:NK κ a b n o i j):NY κ a b st n (none,i,j,o,d,e) c:=⟨f,_,_,_,_,_,rfl,h⟩
theorem OH.mk{a b o:CM F1}{st c:HZ}{n i j mg d e:Nat}(f:Sm st c)(h:NK κ a b n o i j):OH κ a b st n (none,i,j,o,mg,d,e) c:=⟨f,_,_,_,_,_,_,rfl,h⟩
theorem Kk(C:OZ prog w A s κ kd){st:HZ}{a b:CM F1}{Q:CM F1->HZ->Prop}(hk:kindOf st=kd)(P:LX κ a b)
  (h:∀r f,Sm st f->Rm κ a b r->Q r f):wpS (model prog w) A E s (Dw a b) Q st:=by
 rw[Jj];have hna:=P.na;have hnb:=P.nb;obtain⟨b0,U⟩:=Y2 (a:=a) (i:=a.size-1) (Nat.sub_lt hna GZ);have m0:NL κ a b (#[]:CM F1) a.size b.size:=⟨by simp,List.Pairwise.nil,fun x hx=>absurd hx (by simp),fun x hx=>absurd hx (by simp)⟩;have m1:NL κ a b (#[b0]:CM F1) (a.size-1) b.size:=by
  have:=P.hpA m0 hna U (fun z J=>P.last b0 U z (C_ J));simpa using this
 apply Oy (x0:=b0) (fun R z=>wpS_lift (EO ⟨rfl,z⟩)) (fun R z=>D3 U z)
 case h1=>exact fun N=>wpS_pure (h _ _ (Sm.refl _) (P.hdA m1 (eq_of_beq N)))
 case h2=>exact fun _ O=>wpS_pure (h _ _ (Sm.refl _) (P.hfB m1 (eq_of_beq O)))
 intro N O;have N:¬a.size-1=0:=fun z=>N (beq_iff_eq.mpr z);have O:¬b.size=1:=fun z=>O (beq_iff_eq.mpr z);have p1:NK κ a b 1 #[b0] (a.size-1) b.size:=⟨m1,by lia,by lia,by lia,by lia,by lia⟩;refine wpS_mono (wpS_forRange (I:=fun x=>zGj κ a b st (x+1)) (Q:=MR κ a b st) ?st ?en ⟨Sm.refl _,_,_,_,_,rfl,p1⟩) ?po
 case po =>
  rintro⟨c1,c2⟩ f ⟨sm,r,e,hr⟩;cases e;exact wpS_pure (h r f sm hr)
 case en =>
  rintro c f ⟨sm,i,j,o,mg,rfl,p⟩;obtain⟨_,h1,h2,_,_,h3⟩:=p;exfalso;lia
 case st =>
  rintro x c f _ hx ⟨sm,i,j,o,mg,rfl,p⟩;refine wpS_bind (wpS_mono (wpS_forRange (I:=fun _=>NY κ a b st (x+1)) (Q:=fun c f=>MR κ a b st c f\/NY κ a b st (x+1) c f) ?st1 ?en1 (NY.mk sm p)) ?po1)
  case en1=>exact fun c st2 z=>.inr z
  case st1 =>
   rintro x2 c st2 _ _ ⟨l,i',j',o,ac,bc,rfl,M⟩;obtain⟨bj,n⟩:=Y2 (a:=b) (i:=j' - 1) M.lb;obtain⟨ai,B⟩:=Y2 (a:=a) (i:=i' - 1) M.la;refine wpS_bind (D3 n (wpS_bind (D3 B (wpS_bind (Hj C (l.knd hk) (P.kb _ _ n) (P.ka _ _ B) ?_)))));refine S9 (fun V=>wpS_bind (D3 B ?_)) fun V=>wpS_bind (D3 n ?_)
   .have m3:=P.hpA M.m M.hi B fun z J=>IZ (Dt P.sb (IJ.mp n) z J) (KeyOrd.kle_of_klt V);refine M9 (fun H=>wpS_pure (.inl (MR.mk l (P.hdA m3 H)))) fun H=>?_;have F:=(M.putA m3 H).mono (DV _);exact S9 (fun _=>wpS_pure (.inr (NY.mk l F))) fun _=>wpS_pure (NY.mk l F)
   .have m3:=P.hpB M.m M.hj1 n fun z J=>IZ (Dt P.sa (IJ.mp B) z J) (show le κ ai bj from B_.mpr V);refine M9 (fun H=>wpS_pure (.inl (MR.mk l (P.hfB m3 H)))) fun H=>?_;have F:=(M.putB m3 H).mono (DV _);exact S9 (fun _=>wpS_pure (.inr (NY.mk l F))) fun _=>wpS_pure (NY.mk l F)
  case po1 =>
   rintro⟨c1,c2⟩ st2 (⟨l,r,e,hr⟩ | ⟨l,i2,j2,o2,ac,bc,e,M⟩)
   .cases e;exact wpS_pure (MR.mk l hr)
   .cases e;refine wpS_bind (wpS_lift (EO ⟨rfl,?_⟩));refine wpS_bind (wpS_mono (wpS_forRange (I:=fun x3=>OH κ a b st (x+1+x3)) (Q:=fun c f=>MR κ a b st c f\/OH κ a b st (x+1+1) c f) ?st2 ?en2 (OH.mk l M)) ?po2)
    case en2 =>
     rintro c st3 ⟨G,i',j',o',mg',ac,bc,rfl,F⟩;exact .inr (OH.mk G (F.mono (by lia)))
    case po2 =>
     rintro⟨c1,c2⟩ st3 (⟨G,r,e,hr⟩ | ⟨G,i',j',o',mg',ac,bc,e,F⟩)
     .cases e;exact wpS_pure (MR.mk G hr)
     .cases e;refine wpS_bind (X4 G fun st4 D=>?_);exact wpS_pure ⟨D,_,_,_,_,rfl,F⟩
    case st2 =>
     rintro x3 c st3 _ _ ⟨G,i3,j3,o3,mg3,ac3,bc3,rfl,F⟩;obtain⟨bj,n⟩:=Y2 (a:=b) (i:=j3-1) F.lb;apply Px (mg3-1) (y:=mg3)
     case e=>exact rfl
     intro g;refine wpS_bind (X4 G fun st4 D=>?_);refine wpS_bind (D3 n (wpS_bind (n9 C (D.knd hk) (P.kb _ _ n) (by rw[FA];exact F.ia) P.ka (fun u v p q W _ H e2=>u7 P.sa (FS W _) (IJ.mp H) (IJ.mp e2)) (Nat.sub_lt F.hi GZ) fun k X k1 k2=>?_)));dsimp only;have m4:NL κ a b (o3 ++(a.extract k i3).reverse) k j3:=P.heA F.m X fun y hy z J=>by
      obtain⟨t,Y,Z,e⟩:=Wm hy;exact IZ (Dt P.sb (IJ.mp n) z J) (KeyOrd.kle_of_klt (Bj (k2 t y Y Z (by rw[FA];exact IJ.mpr e))))
     have S:∀z∈a.toList.take k,le κ z bj:=fun z J=>by
      obtain⟨t,ht,_,e⟩:=Ni J;exact Fb (k1 t z ht (by rw[FA];exact IJ.mpr e))
     generalize hd:i3-k=d;apply Fd (o:=o3) (i:=i3) (fun o i=>NK κ a b (x+1+x3) o i j3/\∀z∈a.toList.take i,le κ z bj)
     .rintro o4 i4 ⟨p4,S⟩;refine wpS_bind (D3 n ?_);have m5:=P.hpB p4.m p4.hj1 n S;refine M9 (fun e3=>wpS_pure (.inl (MR.mk D (P.hfB m5 e3)))) fun e3=>?_;have p5:=p4.putB m5 e3;generalize o4.push bj=o5 at m5 p5⊢;generalize j3-1=j5 at m5 p5⊢;obtain⟨ai,B⟩:=Y2 (a:=a) (i:=i4-1) p5.la;refine wpS_bind (D3 B (wpS_bind (n9 C (D.knd hk) (P.ka _ _ B) (by rw[FA];exact p5.jb) P.kb (fun u v p q W _ H e2=>u7 P.sb (FS W _) (IJ.mp H) (IJ.mp e2)) (Nat.sub_lt p5.hj1 GZ) fun k' K k1' k2'=>?_)));dsimp only;have T:∀z∈b.toList.take k',le κ z ai:=fun z J=>by
       obtain⟨t,ht,_,e⟩:=Ni J;exact KeyOrd.kle_of_klt (Kj (k1' t z ht (by rw[FA];exact IJ.mpr e)))
      generalize hd':j5-k'=d';apply Fd (o:=o5) (i:=j5) (fun o j=>NK κ a b (x+1+x3+1) o i4 j/\∀z∈b.toList.take j,le κ z ai)
      .rintro o6 j6 ⟨p6,T⟩;refine wpS_bind (D3 B ?_);have m7:=P.hpA p6.m p6.hi B T;refine M9 (fun e5=>wpS_pure (.inl (MR.mk D (P.hdA m7 e5)))) fun e5=>?_;have p7:=p6.putA m7 e5;exact S9 (fun _=>wpS_pure (.inr (OH.mk D (p7.mono (by lia))))) fun _=>wpS_pure (OH.mk D (p7.mono (by lia)))
      .intro hF L;have m6:NL κ a b (o5 ++(b.extract k' j5).reverse) i4 k':=P.heB m5 K fun y hy z J=>by
        obtain⟨t,Y,Z,e⟩:=Wm hy;exact IZ (Dt P.sa (IJ.mp B) z J) (Ey (k2' t y Y Z (by rw[FA];exact IJ.mpr e)))
       obtain⟨_,h1,h2,h3,h4,h5⟩:=p5;exact M9 (fun e4=>wpS_pure (.inl (MR.mk D (P.hfB m6 e4)))) fun e4=>M9 (fun e5=>wpS_pure (.inl (MR.mk D (P.hdB m6 e5)))) fun e5=>hF _ _ ⟨⟨m6,h1,by lia,h3,Nat.le_trans K h4,by lia⟩,T⟩
      .intro L;have z0:k'=j5:=Nat.le_antisymm K (Nat.le_of_sub_eq_zero (hd'.trans (F_ L)));subst z0;exact⟨p5,T⟩
     .intro hF L;obtain⟨_,h1,h2,h3,h4,h5⟩:=F;exact M9 (fun H=>wpS_pure (.inl (MR.mk D (P.hdA m4 H)))) fun H=>hF _ _ ⟨⟨m4,by lia,h2,Nat.le_trans X h3,h4,by lia⟩,S⟩
     .intro L;have z0:k=i3:=Nat.le_antisymm X (Nat.le_of_sub_eq_zero (hd.trans (F_ L)));subst z0;exact⟨F,S⟩
end
section
variable{prog:F8}{w:H_}{A:II}{E:A3->A5->Prop}{s:A5}{κ:KeyKind}{kd:JK}
def JI(l:A0 F1)(lo n:Nat):A0 F1:=(l.drop lo).take n
theorem Te(m:A0 F1)(lo:Nat):∀(n:Nat) (a:CM F1),lo+n+m.length<=a.size ->
  ((m.zipIdx n).foldl (fun a (x:F1×Nat)=>a.setIfInBounds (lo+x.2) x.1) a).size=a.size /\
  ∀t:Nat,((m.zipIdx n).foldl (fun a (x:F1×Nat)=>a.setIfInBounds (lo+x.2) x.1) a)[t]?=if lo+n<=t/\t<lo+n+m.length then m[t-(lo+n)]? else a[t]?:=by
 induction m with
 | nil =>
  intro n a h;refine⟨rfl,fun t=>?_⟩;rw[AJ (by simp only[G_];omega)];rfl
 | cons p m d =>
  intro n a h;rw[BJ]at h;rw[List.zipIdx_cons,List.foldl_cons];obtain⟨e,f⟩:=d (n+1) (a.setIfInBounds (lo+n) p) (by rw[GV];omega);refine⟨e.trans GV,fun t=>?_⟩;rw[f t,BJ];by_cases b:lo+n=t
  .subst b;rw[AJ (by omega),AK (by omega),Array.getElem?_setIfInBounds_self_of_lt (by omega),Nat.sub_self];rfl
  .by_cases c:lo +(n+1)<=t/\t<lo +(n+1)+m.length
   .rw[AK c,AK (by omega),show t-(lo+n) =(t-(lo +(n+1)))+1 by omega,List.getElem?_cons_succ]
   .rw[AJ c,AJ (by omega),Array.getElem?_setIfInBounds_ne b]
theorem Cc(m:A0 F1)(lo:Nat)(a:CM F1)(h:lo+m.length<=a.size) :
  (m.zipIdx.foldl (fun a (x:F1×Nat)=>a.setIfInBounds (lo+x.2) x.1) a).toList=a.toList.take lo++m++a.toList.drop (lo+m.length):=by
 obtain⟨e,c⟩:=Te m lo 0 a (by omega);refine FN fun t=>?_;rw[BK,c t];have b:(a.toList.take lo).length=lo:=by rw[AX,AL];omega
 by_cases d:t<lo
 .rw[AJ (by omega),BF,DR (by omega),DI d,BK]
 .by_cases f:t<lo+m.length
  .rw[AK (by omega),DR (by rw[AV];omega),DM (by omega),b];rfl
  .rw[AJ (by omega),DM (by rw[AV];omega),AV,b,GA,BK];congr 1;omega
theorem Pf(l:A0 F1)(lo n:Nat):l=l.take lo++JI l lo n++l.drop (lo+n):=by
 unfold JI;rw[BF,<-FB,BO,BO]
theorem Jb(l:A0 F1)(lo n m:Nat):JI l lo (n+m)=JI l lo n++JI l (lo+n) m:=by
 unfold JI;rw[List.take_add,FB]
structure KH(κ:KeyKind)(l l':A0 F1)(lo n:Nat):Prop where
 perm:l'.Perm l
 front:l'.take lo=l.take lo
 back:l'.drop (lo+n)=l.drop (lo+n)
theorem KH.refl(l:A0 F1)(lo n:Nat):KH κ l l lo n:=⟨List.Perm.refl _,rfl,rfl⟩
theorem KH.seg_front{l a:A0 F1}{lo n:Nat}(h:KH κ l a lo n){u m:Nat}(b:u+m<=lo):JI a u m=JI l u m:=by
 have:∀x:A0 F1,JI x u m =((x.take lo).drop u).take m:=fun x=>by
  unfold JI;rw[GM,List.take_take,GE (by omega)]
 rw[this,this,h.front]
theorem KH.seg_back{l a:A0 F1}{lo n:Nat}(h:KH κ l a lo n){u m:Nat}(b:lo+n<=u):JI a u m=JI l u m:=by
 have:∀x:A0 F1,JI x u m =((x.drop (lo+n)).drop (u-(lo+n))).take m:=fun x=>by
  unfold JI;rw[FB,show lo+n +(u-(lo+n))=u by omega]
 rw[this,this,h.back]
theorem KH.of{l z:A0 F1}{lo n:Nat}(hz:z.Perm (JI l lo n))(c:lo+n<=l.length):KH κ l (l.take lo++z++l.drop (lo+n)) lo n/\JI (l.take lo++z++l.drop (lo+n)) lo n=z:=by
 have a:(l.take lo).length=lo:=by rw[AX];omega
 have b:z.length=n:=by
  rw[hz.length_eq];unfold JI;rw[AX,DE];omega
 refine⟨⟨?_,?_,?_⟩,?_⟩
 .conv=>rhs;rw[Pf l lo n]
  exact DP _ (DL _ hz)
 .rw[BF,List.take_append_of_le_length (by omega),DA (by omega)]
 .rw[List.drop_append,E_ (by rw[AV];omega),List.nil_append,AV,a,b,Nat.sub_self,FC]
 .unfold JI;rw[BF,List.drop_append,E_ (by omega),List.nil_append,a,Nat.sub_self,FC,List.take_append_of_le_length (by omega),DA (by omega)]
structure St(κ:KeyKind)(kd:JK)(a₀:CM F1)(st:HZ):Prop where
 perm:(arrOf st).toList.Perm a₀.toList
 kind:kindOf st=kd
 failed:failedOf st=none
theorem St.size{a₀:CM F1}{st:HZ}(h:St κ kd a₀ st):(arrOf st).size=a₀.size:=by
 have:=h.perm.length_eq;simpa using this
theorem St.has{a₀:CM F1}{st:HZ}(h:St κ kd a₀ st)(b:KeysOf κ a₀)(i:Nat)(p:F1)(e:(arrOf st)[i]?=some p):PP κ p :=
 b p (h.perm.mem_iff.mp (AM (IJ.mp e)))
theorem P2{l:A0 F1}{lo n t:Nat}(a:t<n):(JI l lo n)[t]?=l[lo+t]?:=by
 unfold JI;rw[DI a,GA]
theorem Ik(i:Nat):mergeAt' i =(do
  let u <-get
  let(some (b,c,f),some (e,d,_)):=((pendingOf u)[i]?,(pendingOf u)[i+1]?) | unsupported "internal:list.sort.pending"
  set (setPending u (((pendingOf u).setIfInBounds i (b,c+d,f)).eraseIdxIfInBounds (i+1)))
  let some k <-U3 false (<-elem' (arrOf u) e) (arrOf u) b c 0 | return false
  let(b,c):=(b+k,c-k)
  if c == 0 then return true
  let some d <-U3 true (<-elem' (arrOf u) (b+c-1)) (arrOf u) e d (d-1) | return false
  if d == 0 then return true
  let x:=(arrOf u).extract b e
  let y:=(arrOf u).extract e (e+d)
  let g <-if c<=d then Er x y else Dw x y
  modify fun v=>setArr v (g.toList.zipIdx.foldl (fun a (z:F1×Nat)=>a.setIfInBounds (b+z.2) z.1) (arrOf v))
  return(failedOf (<-get)).isNone):=rfl
theorem Xp{st st2:HZ}{Q:PUnit->HZ->Prop}(h:Q ⟨⟩ st2):wpS (model prog w) A E s (set st2:StateT HZ Sem PUnit) Q st:=by
 unfold wpS;rw[StateT.run_set];exact AE ⟨rfl,h⟩
theorem Ij(C:OZ prog w A s κ kd){a₀:CM F1}(L:KeysOf κ a₀){st:HZ}{i b c pw sb f pw2:Nat}{Q:Bool->HZ->Prop}(j:St κ kd a₀ st)
  (hi:(pendingOf st)[i]?=some (b,c,pw)) (hj:(pendingOf st)[i+1]?=some (sb,f,pw2)) (hsb:sb=b+c) (hsz:sb+f<=a₀.size) (hna:1<=c) (hnb:1<=f)
  (N:KA κ (JI (arrOf st).toList b c)) (O:KA κ (JI (arrOf st).toList sb f))
  (h:∀n,St κ kd a₀ n->KH κ (arrOf st).toList (arrOf n).toList b (c+f)->KA κ (JI (arrOf n).toList b (c+f)) ->
   pendingOf n =((pendingOf st).setIfInBounds i (b,c+f,pw)).eraseIdxIfInBounds (i+1)->Q true n):wpS (model prog w) A E s (mergeAt' i) Q st:=by
 subst hsb;have hL:(arrOf st).toList.length=a₀.size:=by rw[AL];exact j.size
 have hsz':=j.size;rw[Ik];refine wpS_bind (wpS_get ?_);rw[hi,hj];dsimp only;refine wpS_bind (Xp ?_);obtain⟨R,D⟩:=Y2 (a:=arrOf st) (i:=b+c) (by omega);have S:∀u v p q,u<=v->v<c->(arrOf st)[b+u]?=some p->(arrOf st)[b+v]?=some q->le κ p q:=fun u v p q H hv T F =>
  u7 N H (by rw[P2 (by omega)];exact IJ.mp T) (by rw[P2 hv];exact IJ.mp F)
 have U:∀u v p q,u<=v->v<f->(arrOf st)[b+c+u]?=some p->(arrOf st)[b+c+v]?=some q->le κ p q:=fun u v p q H hv T F =>
  u7 O H (by rw[P2 (by omega)];exact IJ.mp T) (by rw[P2 hv];exact IJ.mp F)
 refine wpS_bind (D3 D (wpS_bind (n9 C j.kind (j.has L _ _ D) (by omega) (j.has L) S (by omega) fun k hk1 k1 k2=>?_)));dsimp only;have V:∀z∈JI (arrOf st).toList (b+c) f,le κ R z:=fun z I=>by
  obtain⟨t,l,e⟩:=Cw I;exact U 0 t R z (by omega) l D (IJ.mpr e)
 have xk:∀x∈(JI (arrOf st).toList b c).take k,le κ x R:=fun x hx=>by
  obtain⟨t,l,o,e⟩:=Ni hx;unfold JI at o;rw[AX]at o;rw[P2 (by omega)]at e;exact Fb (k1 t x l (IJ.mpr e))
 have kx:∀x∈(JI (arrOf st).toList b c).drop k,le κ R x:=fun x hx=>by
  obtain⟨t,l,e⟩:=Ip hx;unfold JI at l;rw[AX]at l;rw[P2 (by omega)]at e;exact KeyOrd.kle_of_klt (Bj (k2 (k+t) x (by omega) (by omega) (IJ.mpr e)))
 have W:St κ kd a₀ (setPending st (((pendingOf st).setIfInBounds i (b,c+f,pw)).eraseIdxIfInBounds (i+1))):=⟨j.perm,j.kind,j.failed⟩;by_cases X:c-k=0
 .rw[AK (by simpa using X)];have hkk:k=c:=by omega
  refine wpS_pure (h _ W (KH.refl _ _ _) ?_ rfl);show KA κ (JI (arrOf st).toList b (c+f));rw[Jb];refine CP.mpr ⟨N,O,fun x hx y hy=>IZ (xk x ?_) (V y hy)⟩;rw[DA (by unfold JI;rw[AX];omega)];exact hx
 rw[AJ (by simpa using X)];obtain⟨M,J⟩:=Y2 (a:=arrOf st) (i:=b+k +(c-k)-1) (by omega);refine wpS_bind (D3 J (wpS_bind (n9 C W.kind (j.has L _ _ J) (by omega) (j.has L) U (by omega) fun g Y k1' k2'=>?_)));dsimp only;have G:(arrOf st)[b +(c-1)]?=some M:=by rw[show b +(c-1)=b+k +(c-k)-1 by omega];exact J
 have K:∀x∈JI (arrOf st).toList b c,le κ x M:=fun x hx=>by
  obtain⟨t,l,e⟩:=Cw hx;exact S t (c-1) x M (by omega) (by omega) (IJ.mpr e) G
 have yk:∀y∈(JI (arrOf st).toList (b+c) f).take g,le κ y M:=fun y hy=>by
  obtain⟨t,l,o,e⟩:=Ni hy;unfold JI at o;rw[AX]at o;rw[P2 (by omega)]at e;exact KeyOrd.kle_of_klt (Kj (k1' t y l (IJ.mpr e)))
 have ky:∀y∈(JI (arrOf st).toList (b+c) f).drop g,le κ M y:=fun y hy=>by
  obtain⟨t,l,e⟩:=Ip hy;unfold JI at l;rw[AX]at l;rw[P2 (by omega)]at e;exact Ey (k2' (g+t) y (by omega) (by omega) (IJ.mpr e))
 by_cases B:g=0
 .rw[AK (by simpa using B)];refine wpS_pure (h _ W (KH.refl _ _ _) ?_ rfl);show KA κ (JI (arrOf st).toList b (c+f));rw[Jb];refine CP.mpr ⟨N,O,fun x hx y hy=>IZ (K x hx) (ky y ?_)⟩;rw[B,FC];exact hy
 rw[AJ (by simpa using B)];have Z:((arrOf st).extract (b+k) (b+c)).toList =(JI (arrOf st).toList b c).drop k:=by
  rw[Jg];unfold JI;rw[GM,GM,FB];congr 1;omega
 have ey:((arrOf st).extract (b+c) (b+c+g)).toList =(JI (arrOf st).toList (b+c) f).take g:=by
  rw[Ef];unfold JI;rw[List.take_take,GE Y]
 have P:LX κ ((arrOf st).extract (b+k) (b+c)) ((arrOf st).extract (b+c) (b+c+g)):=by
  refine⟨by rw[Z];exact N.sublist (FJ _ _),by rw[ey];exact O.sublist (EW _ _),fun t p e=>?_,fun t p e=>?_,?_,?_,fun q e z I=>?_,fun p e z I=>?_⟩
  .have m:=AM (IJ.mp e);rw[Z]at m;obtain⟨u,_,F⟩:=Cw (EB m);exact j.has L _ p (IJ.mpr F)
  .have m:=AM (IJ.mp e);rw[ey]at m;obtain⟨u,_,F⟩:=Cw (C_ m);exact j.has L _ p (IJ.mpr F)
  .rw[GB];omega
  .rw[GB];omega
  .have m:=IJ.mp e;rw[ey,DI (by omega),P2 (by omega)]at m;have:q=R:=by
    have:=IJ.mp D;rw[Nat.add_zero,this]at m;exact(BG m).symm
   subst this;rw[Z]at I;exact kx z I
  .have m:=IJ.mp e;rw[Z,GB,GA,P2 (by omega)]at m;have:p=M:=by
    have q:=IJ.mp G;rw[show k +(min (b+c) (arrOf st).size-(b+k)-1)=c-1 by omega,q]at m;exact(BG m).symm
   subst this;rw[ey]at I;exact yk z I
 have fin:∀(r:CM F1) (d:HZ),Sm (setPending st (((pendingOf st).setIfInBounds i (b,c+f,pw)).eraseIdxIfInBounds (i+1))) d->Rm κ ((arrOf st).extract (b+k) (b+c)) ((arrOf st).extract (b+c) (b+c+g)) r ->
   Q (failedOf (setArr d (r.toList.zipIdx.foldl (fun a (z:F1×Nat)=>a.setIfInBounds (b+k+z.2) z.1) (arrOf d)))).isNone (setArr d (r.toList.zipIdx.foldl (fun a (z:F1×Nat)=>a.setIfInBounds (b+k+z.2) z.1) (arrOf d))):=by
  rintro r d ⟨q1,q2,q3,q4⟩ ⟨r1,r2⟩;rw[Z,ey]at r2;have hrl:r.toList.length =(c-k)+g:=by
   rw[r2.length_eq,AV];unfold JI;rw[DE,AX,AX,DE,AX,DE];omega
  have q2':arrOf d=arrOf st:=q2;have ef:failedOf (setArr d (r.toList.zipIdx.foldl (fun a (z:F1×Nat)=>a.setIfInBounds (b+k+z.2) z.1) (arrOf d)))=none:=q4.trans j.failed;rw[ef];have el:=Cc r.toList (b+k) (arrOf d) (by rw[q2'];omega);have eq:(r.toList.zipIdx.foldl (fun a (z:F1×Nat)=>a.setIfInBounds (b+k+z.2) z.1) (arrOf d)).toList =(arrOf st).toList.take b ++((JI (arrOf st).toList b c).take k++r.toList ++(JI (arrOf st).toList (b+c) f).drop g) ++(arrOf st).toList.drop (b +(c+f)):=by
   rw[el,q2',hrl];have T:(arrOf st).toList.take (b+k) =(arrOf st).toList.take b ++(JI (arrOf st).toList b c).take k:=by
    unfold JI;rw[List.take_add,List.take_take,GE hk1]
   have F:(arrOf st).toList.drop (b+k +(c-k+g)) =(JI (arrOf st).toList (b+c) f).drop g ++(arrOf st).toList.drop (b +(c+f)):=by
    unfold JI;rw[GM,FB,show b+k +(c-k+g)=b+c+g by omega]
    conv=>lhs;rw[<-BO (f-g) ((arrOf st).toList.drop (b+c+g))]
    rw[FB,show b+c+g +(f-g)=b +(c+f) by omega]
   rw[T,F];simp only[BF]
  have hp:((JI (arrOf st).toList b c).take k++r.toList ++(JI (arrOf st).toList (b+c) f).drop g).Perm (JI (arrOf st).toList b (c+f)):=by
   rw[Jb];have a1:((JI (arrOf st).toList b c).take k++r.toList ++(JI (arrOf st).toList (b+c) f).drop g).Perm ((JI (arrOf st).toList b c).take k ++((JI (arrOf st).toList b c).drop k ++(JI (arrOf st).toList (b+c) f).take g) ++(JI (arrOf st).toList (b+c) f).drop g) :=
    DP _ (DL _ r2)
   refine a1.trans (List.Perm.of_eq ?_);rw[<-BF,BO,BF,BO]
  obtain⟨pa,ps⟩:=KH.of (κ:=κ) hp (by rw[hL];omega);have hs:KA κ ((JI (arrOf st).toList b c).take k++r.toList ++(JI (arrOf st).toList (b+c) f).drop g):=by
   refine CP.mpr ⟨CP.mpr ⟨N.sublist (EW _ _),r1,fun x hx y hy=>?_⟩,O.sublist (FJ _ _),fun x hx y hy=>?_⟩
   .rcases A_.mp (r2.mem_iff.mp hy)with hy | hy
    .exact IZ (xk x hx) (kx y hy)
    .exact IZ (xk x hx) (V y (C_ hy))
   .rcases A_.mp hx with hx | hx
    .exact IZ (K x (C_ hx)) (ky y hy)
    .rcases A_.mp (r2.mem_iff.mp hx)with hx | hx
     .exact IZ (K x (EB hx)) (ky y hy)
     .exact IZ (yk x hx) (ky y hy)
  refine h _ ⟨?_,q1.trans j.kind,q4.trans j.failed⟩ ?_ ?_ q3
  .show(r.toList.zipIdx.foldl (fun a (z:F1×Nat)=>a.setIfInBounds (b+k+z.2) z.1) (arrOf d)).toList.Perm a₀.toList;rw[eq];exact pa.perm.trans j.perm
  .show KH κ (arrOf st).toList (r.toList.zipIdx.foldl (fun a (z:F1×Nat)=>a.setIfInBounds (b+k+z.2) z.1) (arrOf d)).toList b (c+f);rw[eq];exact pa
  .show KA κ (JI (r.toList.zipIdx.foldl (fun a (z:F1×Nat)=>a.setIfInBounds (b+k+z.2) z.1) (arrOf d)).toList b (c+f));rw[eq,ps];exact hs
 by_cases hab:c-k<=g
 .rw[AK hab];refine wpS_bind (Ka C W.kind P fun r d q r1=>?_);exact wpS_bind (wpS_modify (wpS_bind (wpS_get (wpS_pure (fin r d q r1)))))
 .rw[AJ hab];refine wpS_bind (Kk C W.kind P fun r d q r1=>?_);exact wpS_bind (wpS_modify (wpS_bind (wpS_get (wpS_pure (fin r d q r1)))))
end
section
variable{prog:F8}{w:H_}{A:II}{E:A3->A5->Prop}{s:A5}{κ:KeyKind}{kd:JK}{a₀:CM F1}
theorem Uh{xs:CM F1}{i:Nat}{p:F1}(h:xs[i]?=some p):KK κ xs i=kk κ p:=by unfold KK kk;rw[h]
def SI(κ:KeyKind)(xs:CM F1)(lo m:Nat):Prop:=∀i j,i<=j->j<m->κ.kle (KK κ xs (lo+i)) (KK κ xs (lo+j))
def NI(κ:KeyKind)(xs:CM F1)(lo m:Nat):Prop:=∀i j,i<=j->j<m->κ.kle (KK κ xs (lo+j)) (KK κ xs (lo+i))
theorem SI.sor{xs:CM F1}{lo m:Nat}(h:SI κ xs lo m):KA κ (JI xs.toList lo m):=by
 refine GQ.mpr fun i j a b c=>?_;unfold JI at a b;rw[AX]at a b;have d:xs[lo+i]?=some (JI xs.toList lo m)[i]:=by
  rw[IJ,<-P2 (n:=m) (by omega)];exact AC _
 have e:xs[lo+j]?=some (JI xs.toList lo m)[j]:=by
  rw[IJ,<-P2 (n:=m) (by omega)];exact AC _
 have:=h i j (by omega) (by omega);rw[Uh d,Uh e]at this;exact this
structure Lo(κ:KeyKind)(kd:JK)(a₀:CM F1)(st0:HZ)(lo n:Nat)(st:HZ):Prop where
 S:St κ kd a₀ st
 pend:pendingOf st=pendingOf st0
 out:∀t,t<lo\/lo+n<=t->(arrOf st)[t]? =(arrOf st0)[t]?
theorem Lo.part{st0 st:HZ}{lo n:Nat}(h:Lo κ kd a₀ st0 lo n st)(c:St κ kd a₀ st0):KH κ (arrOf st0).toList (arrOf st).toList lo n:=by
 refine⟨h.S.perm.trans c.perm.symm,FN fun t=>?_,FN fun t=>?_⟩
 .by_cases b:t<lo
  .rw[DI b,DI b,BK,BK];exact h.out t (.inl b)
  .rw[EN (by rw[AX];omega),EN (by rw[AX];omega)]
 .rw[GA,GA,BK,BK];exact h.out _ (.inr (by omega))
theorem Lo.mirror{st0 st:HZ}{lo n i j:Nat}(h:Lo κ kd a₀ st0 lo n st)(hi:lo<=i)(c:j<=lo+n)(d:lo+n<=a₀.size):Lo κ kd a₀ st0 lo n (setArr st (mirror (arrOf st) i j ((j-i) / 2))):=by
 refine⟨⟨(Array.perm_iff_toList_perm.mp (mirror_perm _ _ _ _)).trans h.S.perm,h.S.kind,h.S.failed⟩,h.pend,fun t b=>?_⟩;show(PyProof.Rows.mirror (arrOf st) i j ((j-i) / 2))[t]?=_;have:=h.S.size;rw[getElem?_mirror_all (by omega),AJ (by omega)];exact h.out t b
theorem Q3(C:OZ prog w A s κ kd)(e:KeysOf κ a₀){st:HZ}(b:St κ kd a₀ st){i j:Nat}{Q:A6 Bool->HZ->Prop}(hi:i<a₀.size)(f:j<a₀.size)
  (h:Q (some (κ.blt (KK κ (arrOf st) i) (KK κ (arrOf st) j))) st):wpS (model prog w) A E s (ltAt' i j) Q st:=by
 have:=b.size;obtain⟨p,c⟩:=Y2 (a:=arrOf st) (i:=i) (by omega);obtain⟨q,d⟩:=Y2 (a:=arrOf st) (i:=j) (by omega);rw[ltAt'_eq];refine wpS_bind (wpS_get ?_);refine wpS_bind (D3 c (wpS_bind (D3 d (Hj C b.kind (b.has e _ _ c) (b.has e _ _ d) ?_))));rw[Uh c,Uh d]at h;exact h
theorem RH{st:HZ}{lo a b:Nat}{f:Nat->(A6 (A6 Nat)×Nat)->StateT HZ Sem (ForInStep (A6 (A6 Nat)×Nat))}{Q:(A6 (A6 Nat)×Nat)->HZ->Prop}
  (y:∀x n,1<=n->n<b->wpS (model prog w) A E s (f x (none,n)) (fun r k=>k=st/\r=if κ.blt (KK κ (arrOf st) (lo+n)) (KK κ (arrOf st) (lo+n-1))=true then .done (none,n)else .yield (none,n+1)) st)
  (B:1<=a) (m:a<=b) (z:SI κ (arrOf st) lo a)
  (h:∀n,a<=n->n<=b->SI κ (arrOf st) lo n->(n=b\/κ.klt (KK κ (arrOf st) (lo+n)) (KK κ (arrOf st) (lo+n-1)))->Q (none,n) st):wpS (model prog w) A E s (forIn [a:b] (none,a) f) Q st:=by
 refine wpS_forRange (I:=fun x c k=>k=st/\c =(none,x)/\SI κ (arrOf st) lo x) ?_ ?_ ⟨rfl,rfl,z⟩
 .rintro x c k o p ⟨rfl,rfl,g⟩;refine wpS_mono (y x x (by omega) p) fun r l ⟨e,er⟩=>?_;subst e;cases d:κ.blt (KK κ (arrOf l) (lo+x)) (KK κ (arrOf l) (lo+x-1))
  .rw[d,AJ AZ]at er;subst er;refine⟨rfl,rfl,fun i j q C=>?_⟩;by_cases t:j<x
   .exact g i j q t
   .have u:j=x:=by omega
    subst u;by_cases v:i=j
    .subst v;exact KeyOrd.kle_refl _
    .have:=g i (j-1) (by omega) (by omega);rw[show lo +(j-1)=lo+j-1 by omega]at this;exact KeyOrd.kle_trans this d
  .rw[d,AK rfl]at er;subst er;exact h x o (by omega) g (.inr d)
 .rintro c k ⟨rfl,rfl,g⟩;rw[show max a b=b by omega]at g⊢;exact h b m (Nat.le_refl _) g (.inl rfl)
theorem NI.step{xs e:CM F1}{lo x:Nat}(l:1<=x)(f:∀k,KK κ e k=KK κ xs k)(g:NI κ xs lo x)(h:κ.kle (KK κ xs (lo+x)) (KK κ xs (lo+x-1))):NI κ e lo (x+1):=by
 intro i j a m;rw[f,f];by_cases b:j<x
 .exact g i j a b
 .have c:j=x:=by omega
  subst c;by_cases d:i=j
  .subst d;exact KeyOrd.kle_refl _
  .have:=g i (j-1) (by omega) (by omega);rw[show lo +(j-1)=lo+j-1 by omega]at this;exact KeyOrd.kle_trans h this
abbrev DS:=A6 (A6 Nat)×Nat×Nat
theorem zAk{st0 st:HZ}{lo n d:Nat}(hsz:lo+d<=a₀.size){f:Nat->DS->StateT HZ Sem (ForInStep DS)}{Q:DS->HZ->Prop}
  (H:∀x n q b,1<=n->n<d->Lo κ kd a₀ st0 lo d b->wpS (model prog w) A E s (f x (none,n,q)) (fun r st2 =>
   if κ.blt (KK κ (arrOf b) (lo+n)) (KK κ (arrOf b) (lo+n-1))=true then(st2=if q>0 then setArr b (mirror (arrOf b) (lo+n-(q+1)) (lo+n) ((lo+n-(lo+n-(q+1))) / 2))else b)/\r = .yield (none,n+1,0)
   else st2=b/\r=if κ.blt (KK κ (arrOf b) (lo+n-1)) (KK κ (arrOf b) (lo+n))=true then .done (none,n,q)else .yield (none,n+1,q+1)) b)
  (h1:1<=n) (z:n<=d) (J:Lo κ kd a₀ st0 lo d st) (K:NI κ (arrOf st) lo n)
  (h:∀m q b,Lo κ kd a₀ st0 lo d b->n<=m->m<=d->NI κ (arrOf b) lo m->q+1<=m->(∀i,m-(q+1)<=i->i<m->KK κ (arrOf b) (lo+i)=KK κ (arrOf b) (lo+m-1))->Q (none,m,q) b) :
  wpS (model prog w) A E s (forIn [n:d] (none,n,0) f) Q st:=by
 refine wpS_forRange (I:=fun x c b=>∃q,c =(none,x,q)/\Lo κ kd a₀ st0 lo d b/\NI κ (arrOf b) lo x/\q+1<=x /\
   (∀i,x-(q+1)<=i->i<x->KK κ (arrOf b) (lo+i)=KK κ (arrOf b) (lo+x-1))) ?_ ?_ ⟨0,rfl,J,K,by omega,fun i h1 M=>by congr 1;omega⟩
 .rintro x c b B C ⟨q,rfl,j,l,v,p⟩;have L:=j.S.size;refine wpS_mono (H x x q b (by omega) C j) fun r st2 y=>?_;cases g:κ.blt (KK κ (arrOf b) (lo+x)) (KK κ (arrOf b) (lo+x-1))
  .rw[g,AJ AZ]at y;obtain⟨e,er⟩:=y;subst e;cases o:κ.blt (KK κ (arrOf st2) (lo+x-1)) (KK κ (arrOf st2) (lo+x))
   .rw[o,AJ AZ]at er;subst er;have t:KK κ (arrOf st2) (lo+x)=KK κ (arrOf st2) (lo+x-1):=KeyOrd.kle_antisymm o g;refine⟨q+1,rfl,j,NI.step (by omega) (fun _=>rfl) l o,by omega,fun i D F=>?_⟩;rw[show lo +(x+1)-1=lo+x by omega];by_cases G:i=x
    .subst G;rfl
    .rw[t];exact p i (by omega) (by omega)
   .rw[o,AK rfl]at er;subst er;exact h x q st2 j B (by omega) l v p
  .rw[g,AK rfl]at y;obtain⟨e,er⟩:=y;subst er;have o:κ.kle (KK κ (arrOf b) (lo+x)) (KK κ (arrOf b) (lo+x-1)):=KeyOrd.kle_of_klt g;by_cases u:q>0
   .rw[AK u]at e;subst e;refine⟨0,rfl,j.mirror (by omega) (by omega) hsz,NI.step (by omega) (KK_mirror_equal (by omega) fun k D F=>?_) l o,by omega,fun i D F=>by congr 1;omega⟩;have:=p (k-lo) (by omega) (by omega);rw[show lo +(k-lo)=k by omega]at this;exact this
   .rw[AJ u]at e;subst e;exact⟨0,rfl,j,NI.step (by omega) (fun _=>rfl) l o,by omega,fun i D F=>by congr 1;omega⟩
 .rintro c b ⟨q,rfl,j,l,v,p⟩;rw[show max n d=d by omega]at l v p⊢;exact h d q b j z (Nat.le_refl _) l v p
theorem NI.turn{xs:CM F1}{lo n:Nat}(a:lo+n<=xs.size)(h:NI κ xs lo n):SI κ (mirror xs lo (lo+n) ((lo+n-lo) / 2)) lo n:=by
 intro i j b c;rw[KK_mirror a,KK_mirror a,AK (by omega),AK (by omega)];have:=h (n-1-j) (n-1-i) (by omega) (by omega);rw[show lo +(n-1-i)=lo +(lo+n)-1-(lo+i) by omega,show lo +(n-1-j)=lo +(lo+n)-1-(lo+j) by omega]at this;exact this
theorem Fm(C:OZ prog w A s κ kd)(D:KeysOf κ a₀){st:HZ}{lo c:Nat}{Q:A6 Nat->HZ->Prop}(W:St κ kd a₀ st)(hsz:lo+c<=a₀.size)(h1:1<=c)
  (h:∀m b,Lo κ kd a₀ st lo c b->1<=m->m<=c->SI κ (arrOf b) lo m->Q (some m) b):wpS (model prog w) A E s (countRun' lo c) Q st:=by
 have X:Lo κ kd a₀ st lo c st:=⟨W,rfl,fun _ _=>rfl⟩;rw[countRun'_eq];dsimp only;refine wpS_bind (RH (κ:=κ) (lo:=lo) (fun x n G H=>?_) (Nat.le_refl 1) h1 (fun i j p P=>by have:i=j:=(by omega);subst this;exact KeyOrd.kle_refl _) fun n R T F Y=>?_)
 .dsimp only;refine wpS_bind (Q3 C D W (by omega) (by omega) ?_);dsimp only;cases κ.blt (KK κ (arrOf st) (lo+n)) (KK κ (arrOf st) (lo+n-1))
  .exact wpS_pure ⟨rfl,rfl⟩
  .exact wpS_pure ⟨rfl,rfl⟩
 dsimp only;by_cases I:n=c
 .rw[AK (by simpa using I)];exact wpS_pure (h n st X R T F)
 rw[AJ (by simpa using I)];have U:κ.klt (KK κ (arrOf st) (lo+n)) (KK κ (arrOf st) (lo+n-1)):=Y.resolve_left I;have hz:=W.size;by_cases V:n>1
 .rw[AK V];refine wpS_bind (Q3 C D W (by omega) (by omega) ?_);dsimp only;cases J:κ.blt (KK κ (arrOf st) lo) (KK κ (arrOf st) (lo+n-1))with
  | true =>
   simp only[EZ];exact wpS_pure (h n st X R T F)
  | false =>
   simp only[AW,CN];have r:∀k,lo<=k->k<lo+n->KK κ (arrOf st) k=KK κ (arrOf st) (lo+n-1):=by
    intro k hk1 hk2;have a1:=F 0 (k-lo) (by omega) (by omega);have a2:=F (k-lo) (n-1) (by omega) (by omega);rw[Nat.add_zero,show lo +(k-lo)=k by omega]at a1;rw[show lo +(k-lo)=k by omega,show lo +(n-1)=lo+n-1 by omega]at a2;exact KeyOrd.kle_antisymm a2 (KeyOrd.kle_trans J a1)
   have K:=KK_mirror_equal (κ:=κ) (xs:=arrOf st) (i:=lo) (j:=lo+n) (by omega) r;refine wpS_bind (wpS_reverse ?_);have L:=X.mirror (i:=lo) (j:=lo+n) (by omega) (by omega) hsz;have Z:NI κ (mirror (arrOf st) lo (lo+n) ((lo+n-lo) / 2)) lo (n+1):=by
    refine NI.step (by omega) K (fun i j p P=>?_) (KeyOrd.kle_of_klt U);rw[r (lo+i) (by omega) (by omega),r (lo+j) (by omega) (by omega)];exact KeyOrd.kle_refl _
   refine wpS_bind (wpS_lift (EO ⟨rfl,?_⟩));refine wpS_bind (zAk (κ:=κ) (kd:=kd) (a₀:=a₀) (st0:=st) (lo:=lo) hsz (fun x f q b G H t=>?_) (by omega) (by omega) L Z fun m q b l hm1 u v y he=>?_)
   .dsimp only;refine wpS_bind (Q3 C D t.S (by omega) (by omega) ?_);dsimp only;cases κ.blt (KK κ (arrOf b) (lo+f)) (KK κ (arrOf b) (lo+f - 1))
    .simp only[AW,CN];refine wpS_bind (Q3 C D t.S (by omega) (by omega) ?_);dsimp only;cases κ.blt (KK κ (arrOf b) (lo+f - 1)) (KK κ (arrOf b) (lo+f))
     .exact wpS_pure ⟨rfl,rfl⟩
     .exact wpS_pure ⟨rfl,rfl⟩
    .simp only[EZ];by_cases y:q>0
     .rw[AK y,AK y];exact wpS_bind (wpS_reverse (wpS_pure ⟨rfl,rfl⟩))
     .rw[AJ y,AJ y];exact wpS_pure ⟨rfl,rfl⟩
   .dsimp only;have hz3:=l.S.size;by_cases z:q>0
    .rw[AK z];refine wpS_bind (wpS_reverse (wpS_bind (wpS_reverse ?_)));have g:=l.mirror (i:=lo+m-(q+1)) (j:=lo+m) (by omega) (by omega) hsz;have d:=g.mirror (i:=lo) (j:=lo+m) (by omega) (by omega) hsz;have hz4:=g.S.size;have M:NI κ (mirror (arrOf b) (lo+m-(q+1)) (lo+m) ((lo+m-(lo+m-(q+1))) / 2)) lo m:=by
      have K:=KK_mirror_equal (κ:=κ) (xs:=arrOf b) (i:=lo+m-(q+1)) (j:=lo+m) (by omega) (fun k G H=>by
       have:=he (k-lo) (by omega) (by omega);rw[show lo +(k-lo)=k by omega]at this;exact this)
      intro i j p P;rw[K,K];exact v i j p P
     have N:=M.turn (κ:=κ) (lo:=lo) (n:=m) (by rw[mirror_size];omega);refine wpS_bind (RH (κ:=κ) (lo:=lo) (fun x f G H=>?_) (by omega) u N fun O B e o _=>wpS_pure (h O _ d (by omega) e o));dsimp only;refine wpS_bind (Q3 C D d.S (by omega) (by omega) ?_);dsimp only;cases κ.blt (KK κ _ (lo+f)) (KK κ _ (lo+f - 1))
     .exact wpS_pure ⟨rfl,rfl⟩
     .exact wpS_pure ⟨rfl,rfl⟩
    .rw[AJ z];refine wpS_bind (wpS_reverse ?_);have d:=l.mirror (i:=lo) (j:=lo+m) (by omega) (by omega) hsz;have N:=v.turn (κ:=κ) (lo:=lo) (n:=m) (by omega);refine wpS_bind (RH (κ:=κ) (lo:=lo) (fun x f G H=>?_) (by omega) u N fun O B e o _=>wpS_pure (h O _ d (by omega) e o));dsimp only;refine wpS_bind (Q3 C D d.S (by omega) (by omega) ?_);dsimp only;cases κ.blt (KK κ _ (lo+f)) (KK κ _ (lo+f - 1))
     .exact wpS_pure ⟨rfl,rfl⟩
     .exact wpS_pure ⟨rfl,rfl⟩
 .rw[AJ V];have hn1':n=1:=by omega
  have L:=X;have Z:NI κ (arrOf st) lo (n+1):=by
   refine NI.step (by omega) (fun _=>rfl) (fun i j p P=>?_) (KeyOrd.kle_of_klt U);have:i=j:=by omega
   subst this;exact KeyOrd.kle_refl _
  refine wpS_bind (wpS_lift (EO ⟨rfl,?_⟩));refine wpS_bind (zAk (κ:=κ) (kd:=kd) (a₀:=a₀) (st0:=st) (lo:=lo) hsz (fun x f q b G H t=>?_) (by omega) (by omega) L Z fun m q b l hm1 u v y he=>?_)
  .dsimp only;refine wpS_bind (Q3 C D t.S (by omega) (by omega) ?_);dsimp only;cases κ.blt (KK κ (arrOf b) (lo+f)) (KK κ (arrOf b) (lo+f - 1))
   .simp only[AW,CN];refine wpS_bind (Q3 C D t.S (by omega) (by omega) ?_);dsimp only;cases κ.blt (KK κ (arrOf b) (lo+f - 1)) (KK κ (arrOf b) (lo+f))
    .exact wpS_pure ⟨rfl,rfl⟩
    .exact wpS_pure ⟨rfl,rfl⟩
   .simp only[EZ];by_cases y:q>0
    .rw[AK y,AK y];exact wpS_bind (wpS_reverse (wpS_pure ⟨rfl,rfl⟩))
    .rw[AJ y,AJ y];exact wpS_pure ⟨rfl,rfl⟩
  .dsimp only;have hz3:=l.S.size;by_cases z:q>0
   .rw[AK z];refine wpS_bind (wpS_reverse (wpS_bind (wpS_reverse ?_)));have g:=l.mirror (i:=lo+m-(q+1)) (j:=lo+m) (by omega) (by omega) hsz;have d:=g.mirror (i:=lo) (j:=lo+m) (by omega) (by omega) hsz;have hz4:=g.S.size;have M:NI κ (mirror (arrOf b) (lo+m-(q+1)) (lo+m) ((lo+m-(lo+m-(q+1))) / 2)) lo m:=by
     have K:=KK_mirror_equal (κ:=κ) (xs:=arrOf b) (i:=lo+m-(q+1)) (j:=lo+m) (by omega) (fun k G H=>by
      have:=he (k-lo) (by omega) (by omega);rw[show lo +(k-lo)=k by omega]at this;exact this)
     intro i j p P;rw[K,K];exact v i j p P
    have N:=M.turn (κ:=κ) (lo:=lo) (n:=m) (by rw[mirror_size];omega);refine wpS_bind (RH (κ:=κ) (lo:=lo) (fun x f G H=>?_) (by omega) u N fun O B e o _=>wpS_pure (h O _ d (by omega) e o));dsimp only;refine wpS_bind (Q3 C D d.S (by omega) (by omega) ?_);dsimp only;cases κ.blt (KK κ _ (lo+f)) (KK κ _ (lo+f - 1))
    .exact wpS_pure ⟨rfl,rfl⟩
    .exact wpS_pure ⟨rfl,rfl⟩
   .rw[AJ z];refine wpS_bind (wpS_reverse ?_);have d:=l.mirror (i:=lo) (j:=lo+m) (by omega) (by omega) hsz;have N:=v.turn (κ:=κ) (lo:=lo) (n:=m) (by omega);refine wpS_bind (RH (κ:=κ) (lo:=lo) (fun x f G H=>?_) (by omega) u N fun O B e o _=>wpS_pure (h O _ d (by omega) e o));dsimp only;refine wpS_bind (Q3 C D d.S (by omega) (by omega) ?_);dsimp only;cases κ.blt (KK κ _ (lo+f)) (KK κ _ (lo+f - 1))
    .exact wpS_pure ⟨rfl,rfl⟩
    .exact wpS_pure ⟨rfl,rfl⟩
theorem Lo.bubble{st0 st:HZ}{lo n b d:Nat}(h:Lo κ kd a₀ st0 lo n st)(h1:lo+d<=b)(h2:b<lo+n)(e:lo+n<=a₀.size):Lo κ kd a₀ st0 lo n (setArr st (bubble (arrOf st) b d)):=by
 refine⟨⟨(Array.perm_iff_toList_perm.mp (bubble_perm _ _ _)).trans h.S.perm,h.S.kind,h.S.failed⟩,h.pend,fun t c=>?_⟩;show(PyProof.Rows.bubble (arrOf st) b d)[t]?=_;have:=h.S.size;rw[getElem?_bubble (by omega) d (by omega),AJ (by omega),AJ (by omega)];exact h.out t c
theorem Cf(C:OZ prog w A s κ kd)(G:KeysOf κ a₀){st0 st:HZ}{lo g n u:Nat}{Q:Bool->HZ->Prop}(H:Lo κ kd a₀ st0 lo g st)(hsz:lo+g<=a₀.size)(U:n<=g)(J:u<=n)(K:SI κ (arrOf st) lo u)
  (h:∀b,Lo κ kd a₀ st0 lo g b->SI κ (arrOf b) lo n->Q true b):wpS (model prog w) A E s (binarySort' lo n u) Q st:=by
 rw[binarySort'_eq];refine wpS_bind (wpS_mono (wpS_forRange (I:=fun k c b=>c =(none,())/\Lo κ kd a₀ st0 lo g b/\SI κ (arrOf b) lo (min k n))
  (Q:=fun c b=>c =(none,())/\Lo κ kd a₀ st0 lo g b/\SI κ (arrOf b) lo n) ?step ?fin ?init) ?post)
 case post =>
  rintro c b ⟨rfl,m,f⟩;exact wpS_pure (h b m f)
 case init =>
  refine⟨rfl,H,fun i j v L=>?_⟩;by_cases B:u=0
  .have:i=j:=by omega
   subst this;exact KeyOrd.kle_refl _
  .exact K i j v (by omega)
 case fin =>
  rintro c b ⟨M,m,f⟩;refine⟨M,m,?_⟩
  rwa [show min (max (max u 1) n) n=n by omega]at f
 case step =>
  rintro k c b N O ⟨rfl,m,f⟩;rw[show min k n=k by omega]at f;dsimp only;refine wpS_bind (wpS_mono (wpS_forRange (I:=fun x c d=>d=b/\∃l r,c =(none,l,r)/\l<=r/\r<=k/\r-l<=k-x /\
    (∀i,i<l->κ.kle (KK κ (arrOf b) (lo+i)) (KK κ (arrOf b) (lo+k)))/\(∀i,r<=i->i<k->κ.klt (KK κ (arrOf b) (lo+k)) (KK κ (arrOf b) (lo+i))))
   (Q:=fun c d=>d=b/\∃l r,c =(none,l,r)/\l<=k /\
    (∀i,i<l->κ.kle (KK κ (arrOf b) (lo+i)) (KK κ (arrOf b) (lo+k)))/\(∀i,l<=i->i<k->κ.klt (KK κ (arrOf b) (lo+k)) (KK κ (arrOf b) (lo+i)))) ?istep ?ifin ?iinit) ?ipost)
  case iinit=>exact⟨rfl,0,k,rfl,by omega,by omega,by omega,fun i V=>by omega,fun i B F=>by omega⟩
  case ifin =>
   rintro c d ⟨rfl,l,r,rfl,D,t,P,o,p⟩;have:l=r:=by omega
   subst this;exact⟨rfl,l,l,rfl,t,o,p⟩
  case istep =>
   rintro x c d _ R ⟨rfl,l,r,rfl,D,t,P,o,p⟩;dsimp only;by_cases y:l ≥ r
   .rw[AK y];have:l=r:=by omega
    subst this;exact wpS_pure ⟨rfl,l,l,rfl,t,o,p⟩
   .rw[AJ y];refine wpS_bind (Q3 C G m.S (by omega) (by omega) ?_);dsimp only;cases q:κ.blt (KK κ (arrOf d) (lo+k)) (KK κ (arrOf d) (lo +(l+r) / 2))
    case true =>
     simp only[EZ];refine wpS_pure ⟨rfl,l,(l+r) / 2,rfl,by omega,by omega,by omega,o,fun i B F=>?_⟩;exact KeyOrd.klt_of_klt_of_kle q (f _ _ B F)
    case false =>
     simp only[AW,CN];refine wpS_pure ⟨rfl,(l+r) / 2+1,r,rfl,by omega,by omega,by omega,fun i B=>?_,p⟩;exact KeyOrd.kle_trans (f i ((l+r) / 2) (by omega) (by omega)) (show κ.kle _ _ from q)
  case ipost =>
   rintro c d ⟨rfl,l,r,rfl,T,o,p⟩;have W:=m.S.size;show wpS _ _ _ _ (do moveDown' (lo+k) (lo+l);pure (ForInStep.yield (none,()))) _ _;rw[moveDown'_eq];refine wpS_bind (wpS_modify (wpS_pure ⟨rfl,m.bubble (by omega) (by omega) hsz,?_⟩));rw[show min (k+1) n=k+1 by omega];intro i j v L;show κ.kle (KK κ (bubble (arrOf d) (lo+k) (lo+k-(lo+l))) (lo+i)) (KK κ (bubble (arrOf d) (lo+k) (lo+k-(lo+l))) (lo+j));rw[KK_bubble (by omega) (by omega),KK_bubble (by omega) (by omega),show lo+k-(lo+k-(lo+l))=lo+l by omega];have e:∀z,1<=z->lo+z-1=lo +(z-1):=fun z _=>by omega
   repeat' split
   all_goals first
    | (exfalso;omega)
    | exact KeyOrd.kle_refl _
    | exact o _ (by omega)
    | exact KeyOrd.kle_of_klt (p _ (by omega) (by omega))
    | exact f _ _ (by omega) (by omega)
    | (rw[e j (by omega)];exact KeyOrd.kle_of_klt (p _ (by omega) (by omega)))
    | (rw[e i (by omega)];exact o _ (by omega))
    | (rw[e j (by omega)];exact f _ _ (by omega) (by omega))
    | (rw[e i (by omega),e j (by omega)];exact f _ _ (by omega) (by omega))
    | (rw[e i (by omega)];exact f _ _ (by omega) (by omega))
end
abbrev Run:=Nat×Nat×Nat
def LN:A0 Run->Nat->Nat->Prop
 | [],a,b=>a=b
 | x::r,a,b=>x.1=a/\1<=x.2.1/\LN r (a+x.2.1) b
def LN.app:∀{i l2:A0 Run} {a b:Nat},LN (i++l2) a b↔∃c,LN i a c/\LN l2 c b
 | [],l2,a,b=>⟨fun h=>⟨a,rfl,h⟩,fun⟨c,d,e⟩=>by have:a=c:=d;subst this;exact e⟩
 | x::r,l2,a,b=>by
  constructor
  .rintro⟨d,e,j⟩;obtain⟨c,f,g⟩:=LN.app.mp j;exact⟨c,⟨d,e,f⟩,g⟩
  .rintro⟨c,⟨d,e,f⟩,g⟩;exact⟨d,e,LN.app.mpr ⟨c,f,g⟩⟩
def LN.le:∀{l:A0 Run} {a b:Nat},LN l a b->a+l.length<=b
 | [],a,b,h=>by have:a=b:=h;subst this;simp
 | x::r,a,b,⟨d,e,c⟩=>by have:=LN.le c;rw[BJ];omega
def LN.mem:∀{l:A0 Run} {a b:Nat} {x:Run},LN l a b->x∈l->a<=x.1/\x.1+x.2.1<=b
 | [],_,_,_,_,hx=>absurd hx (by simp)
 | y::r,a,b,x,⟨d,f,c⟩,hx=>by
  have g:=LN.le c;rcases AU.mp hx with e | hx
  .subst e;omega
  .have:=LN.mem c hx;omega
def zFd{l:A0 Run}{i:Nat}{x y:Run}(a:l[i]?=some x)(b:l[i+1]?=some y):l=l.take i++x::y::l.drop (i+2):=by
 obtain⟨c,rfl⟩:=AG.mp a;obtain⟨d,rfl⟩:=AG.mp b
 conv=>lhs;rw[<-BO i l]
 rw[EL c,EL d]
def zDw{l:A0 Run}{i:Nat}{x y:Run}(z:Run)(a:l[i]?=some x)(b:l[i+1]?=some y):(l.set i z).eraseIdx (i+1)=l.take i++z::l.drop (i+2):=by
 obtain⟨d,_⟩:=AG.mp a;obtain⟨f,_⟩:=AG.mp b;have e:=zFd a b;have c:(l.take i).length=i:=by rw[AX];omega
 generalize l.take i=p at *;generalize l.drop (i+2)=q at *;subst e;rw[List.set_append_right _ _ (by omega),c,Nat.sub_self,List.eraseIdx_append_of_length_le (by omega),c,show i+1-i=1 by omega];rfl
section
variable{prog:F8}{w:H_}{A:II}{E:A3->A5->Prop}{s:A5}{κ:KeyKind}{kd:JK}{a₀:CM F1}
structure RI(κ:KeyKind)(kd:JK)(a₀:CM F1)(lo:Nat)(st:HZ):Prop where
 S:St κ kd a₀ st
 cov:LN (pendingOf st).toList 0 lo
 sor:∀x∈(pendingOf st).toList,KA κ (JI (arrOf st).toList x.1 x.2.1)
theorem Ih(C:OZ prog w A s κ kd)(I:KeysOf κ a₀){st:HZ}{lo i:Nat}{Q:Bool->HZ->Prop}(R:RI κ kd a₀ lo st)(J:lo<=a₀.size)(hi:i+1 <(pendingOf st).size)
  (h:∀b,RI κ kd a₀ lo b->(pendingOf b).size+1 =(pendingOf st).size->KH κ (arrOf st).toList (arrOf b).toList 0 lo->Q true b):wpS (model prog w) A E s (mergeAt' i) Q st:=by
 obtain⟨⟨g,d,q⟩,u⟩:∃x,(pendingOf st)[i]?=some x:=⟨_,getElem?_pos _ i (by omega)⟩;obtain⟨⟨K,f,r⟩,n⟩:∃x,(pendingOf st)[i+1]?=some x:=⟨_,getElem?_pos _ (i+1) hi⟩;have j:(pendingOf st).toList[i]?=some (g,d,q):=by rw[BK];exact u
 have k:(pendingOf st).toList[i+1]?=some (K,f,r):=by rw[BK];exact n
 have e:=zFd j k;have c:=R.cov;rw[e]at c;obtain⟨v,B,L⟩:=LN.app.mp c;obtain⟨D,F,M,G,o⟩:=L;dsimp only at D F M G o;have N:=LN.le o;refine Ij C I R.S u n (by omega) (by omega) F G (R.sor _ (AM j)) (R.sor _ (AM k)) fun b O p P T=>?_;have t:(pendingOf b).toList =(pendingOf st).toList.take i ++(g,d+f,q) ::(pendingOf st).toList.drop (i+2):=by
  rw[T,<-zDw (g,d+f,q) j k];simp
 refine h b ⟨O,?_,fun x l=>?_⟩ ?_ ?_
 .rw[t];exact LN.app.mpr ⟨v,B,D,(by show 1<=d+f;omega),(by show LN _ (v +(d+f)) lo;rw[<-Nat.add_assoc];exact o)⟩
 .rw[t]at l;have m:∀y∈(pendingOf st).toList,(y.1+y.2.1<=g\/g +(d+f)<=y.1)->KA κ (JI (arrOf b).toList y.1 y.2.1):=fun y n ho=>by
   have:=R.sor y n;rcases ho with ho | ho
   .rw[p.seg_front ho];exact this
   .rw[p.seg_back ho];exact this
  rcases A_.mp l with hm | hm
  .have:=LN.mem B hm;exact m x (C_ hm) (.inl (by omega))
  .rcases AU.mp hm with hm | hm
   .subst hm;exact P
   .have:=LN.mem o hm;exact m x (EB hm) (.inr (by omega))
 .have:=congrArg List.length t;rw[AL,AV,BJ,AX,DE,AL]at this;omega
 .have H:∀z:A0 F1,z.drop (0+lo) =(z.drop (g +(d+f))).drop (lo-(g +(d+f))):=fun z=>by
   rw[FB];congr 1;omega
  exact⟨p.perm,rfl,by rw[H,H,p.back]⟩
theorem Br{l:CM Run}{a:Nat}:(l.modify (l.size-1) fun x=>(x.1,x.2.1,a)).toList.map (fun x:Run=>(x.1,x.2.1))=l.toList.map fun x:Run=>(x.1,x.2.1):=by
 refine FN fun t=>?_;rw[AH,AH,BK,BK,Array.getElem?_modify];split
 .cases l[t]?<;>rfl
 .rfl
theorem LN.congr:∀{l c:A0 Run} {a b:Nat},c.map (fun x:Run=>(x.1,x.2.1))=l.map (fun x:Run=>(x.1,x.2.1))->LN l a b->LN c a b
 | [],[],_,_,_,h=>h
 | [],_::_,_,_,e,_=>by simp at e
 | _::_,[],_,_,e,_=>by simp at e
 | x::r,y::n,a,b,e,⟨f,g,i⟩=>by
  rw[BB,BB]at e;obtain⟨j,k⟩:=GW e;obtain⟨m,d⟩:=Prod.mk.inj j;exact⟨m.trans f,by rw[d];exact g,by rw[d];exact LN.congr k i⟩
theorem RI.congr{lo:Nat}{st:HZ}(R:RI κ kd a₀ lo st){p:CM Run}(e:p.toList.map (fun x:Run=>(x.1,x.2.1)) =(pendingOf st).toList.map fun x:Run=>(x.1,x.2.1)):RI κ kd a₀ lo (setPending st p):=by
 refine⟨⟨R.S.perm,R.S.kind,R.S.failed⟩,LN.congr e R.cov,fun x b=>?_⟩;have:(x.1,x.2.1)∈(pendingOf st).toList.map fun x:Run=>(x.1,x.2.1):=by
  rw[<-e];exact AR.mpr ⟨x,b,rfl⟩
 obtain⟨y,c,d⟩:=AR.mp this;obtain⟨f,g⟩:=Prod.mk.inj d;have:=R.sor y c;rw[f,g]at this;exact this
theorem Ei(C:OZ prog w A s κ kd)(v:KeysOf κ a₀){st:HZ}{Q:Unit->HZ->Prop}(hS:St κ kd a₀ st)(hp:pendingOf st = #[])
  (h:∀d,St κ kd a₀ d->KA κ (arrOf d).toList->Q () d):wpS (model prog w) A E s sortRuns' Q st:=by
 rw[sortRuns'_eq];refine wpS_bind (wpS_get ?_);dsimp only;have hz:=hS.size;rw[hz];generalize minRun' a₀.size a₀.size 0=B;refine wpS_bind (wpS_mono (wpS_forRange (I:=fun x c d=>∃lo,c =(none,lo)/\RI κ kd a₀ lo d/\lo<=a₀.size/\min x a₀.size<=lo)
  (Q:=fun c d=>∃lo,c =(none,lo)/\RI κ kd a₀ lo d/\lo=a₀.size) ?st ?en ⟨0,rfl,⟨hS,by rw[hp];rfl,fun x K=>by rw[hp]at K;exact absurd K (by simp)⟩,CF _,by omega⟩) ?po)
 case en =>
  rintro c d ⟨lo,rfl,R,P,h2⟩;exact⟨lo,rfl,R,by omega⟩
 case po =>
  rintro c d ⟨lo,rfl,R,rfl⟩;dsimp only;refine wpS_bind (wpS_mono (wpS_forRange (I:=fun x c d=>c =(none,())/\RI κ kd a₀ a₀.size d/\(pendingOf d).size+x<=a₀.size+1)
   (Q:=fun c d=>c =(none,())/\RI κ kd a₀ a₀.size d/\(pendingOf d).size<=1) ?st3 ?en3 ⟨rfl,R,?in3⟩) ?po3)
  case in3 =>
   have:=LN.le R.cov;rw[AL]at this;omega
  case en3 =>
   rintro c e ⟨rfl,R2,g⟩;exact⟨rfl,R2,by omega⟩
  case po3 =>
   rintro c e ⟨rfl,R2,g⟩;refine wpS_pure (h e R2.S ?_);have c:=R2.cov;have L:=R2.sor;have hz2:=R2.S.size;have M:(pendingOf e).toList.length<=1:=by rw[AL];exact g
   generalize (pendingOf e).toList=l at c L M
   match l,c,L,M with
   | [],c,_,_ =>
    have c':0=a₀.size:=c;have:(arrOf e).toList = []:=List.eq_nil_of_length_eq_zero (by rw[AL];omega);rw[this];exact List.Pairwise.nil
   | [x],⟨c1,c2,c3⟩,L,_ =>
    have c3':0+x.2.1=a₀.size:=c3;have:=L x (AF.mpr rfl);unfold JI at this;rw[c1,FC,DA (by rw[AL];omega)]at this;exact this
   | _::_::_,_,_,M=>exact absurd M (by simp)
  case st3 =>
   rintro x c e _ K ⟨rfl,R2,g⟩
   try dsimp only
   refine wpS_bind (wpS_get ?_);by_cases r:(pendingOf e).size<=1
   .rw[AK r];exact wpS_pure ⟨rfl,R2,r⟩
   rw[AJ r];refine wpS_bind (Ih C v R2 (Nat.le_refl _) ?_ fun st3 R3 e3 _=>?_)
   .have T:∀{c:Prop} [Decidable c] {n:Nat},(if c then n-1 else n)+1<=n+1:=by intro c _ n;split<;>omega
    exact Nat.lt_of_le_of_lt T (by omega)
   .simp only[ER,AW,CN];exact wpS_pure ⟨rfl,R3,by omega⟩
 case st =>
  rintro x c d _ K ⟨lo,rfl,R,P,h2⟩;dsimp only;by_cases D:lo ≥ a₀.size
  .rw[AK D];exact wpS_pure ⟨lo,rfl,R,by omega⟩
  rw[AJ D];refine wpS_bind (Fm C v R.S (by omega) (by omega) fun m e L2 hm1 hm2 t=>?_);dsimp only;by_cases F:m<B
  .rw[AK F];refine wpS_bind (wpS_lift (EO ⟨rfl,?_⟩));refine wpS_bind (Cf C v L2 (by omega) (show min (a₀.size-lo) B<=a₀.size-lo by omega) (by omega) t fun q O U=>?_);simp only[ER,AW,CN];have hN:1<=min (a₀.size-lo) B/\min (a₀.size-lo) B<=a₀.size-lo:=by omega
   generalize min (a₀.size-lo) B=N at hN U⊢;have G:RI κ kd a₀ lo q:=by
    refine⟨O.S,by rw[O.pend];exact R.cov,fun y k=>?_⟩;rw[O.pend]at k;have hc:=LN.mem R.cov k;rw[(O.part R.S).seg_front (by omega)];exact R.sor y k
   refine wpS_bind (wpS_get ?_);have i:∀(b:HZ),RI κ kd a₀ lo b->KA κ (JI (arrOf b).toList lo N)->RI κ kd a₀ (lo+N) (setPending b ((pendingOf b).push (lo,N,0))):=fun b f V=>by
    refine⟨⟨f.S.perm,f.S.kind,f.S.failed⟩,?_,fun y k=>?_⟩
    .show LN ((pendingOf b).push (lo,N,0)).toList 0 (lo+N);rw[DB];exact LN.app.mpr ⟨lo,f.cov,rfl,(by show 1<=N;omega),rfl⟩
    .have hy':y∈((pendingOf b).push (lo,N,0)).toList:=k;rw[DB]at hy';rcases A_.mp hy' with hy' | hy'
     .exact f.sor y hy'
     .rw[AF.mp hy'];exact V
   cases W:(pendingOf q).back? with
   | none =>
    dsimp only;refine wpS_bind (wpS_modify (wpS_pure ⟨_,rfl,i _ G U.sor,by omega,by omega⟩))
   | some X =>
    obtain⟨H,u,pb⟩:=X;dsimp only;generalize power' a₀.size (2*H+u) (2*H+u+u+N) a₀.size=Y;refine wpS_bind (wpS_mono (wpS_forRange (I:=fun x c b=>c =(none,())/\RI κ kd a₀ lo b/\KH κ (arrOf q).toList (arrOf b).toList 0 lo)
     (Q:=fun c b=>c =(none,())/\RI κ kd a₀ lo b/\KH κ (arrOf q).toList (arrOf b).toList 0 lo) ?stc1 (fun _ _ z=>z) ⟨rfl,G,KH.refl _ _ _⟩) ?poc1)
    case stc1 =>
     rintro x' c b _ _ ⟨rfl,f,j⟩
     try dsimp only
     refine wpS_bind (wpS_get ?_);by_cases o:(pendingOf b).size>1
     .rw[AK o];obtain⟨⟨u1,u2,Z⟩,hu⟩:∃y,(pendingOf b)[(pendingOf b).size-2]?=some y:=⟨_,getElem?_pos _ _ (by omega)⟩;rw[hu];dsimp only;by_cases p:Z<=Y
      .rw[AK p];exact wpS_pure ⟨rfl,f,j⟩
      rw[AJ p];refine wpS_bind (Ih C v f P (by omega) fun st7 R7 _ J=>?_);simp only[ER,AW,CN];exact wpS_pure ⟨rfl,R7,⟨J.perm.trans j.perm,rfl,J.back.trans j.back⟩⟩
     .rw[AJ o];exact wpS_pure ⟨rfl,f,j⟩
    case poc1 =>
     rintro c b ⟨rfl,f,j⟩;dsimp only;refine wpS_bind (wpS_modify (wpS_bind (wpS_modify (wpS_pure ⟨_,rfl,i _ (f.congr Br) ?_,by omega,by omega⟩))));show KA κ (JI (arrOf b).toList lo N);rw[j.seg_back (by omega)];exact U.sor
  .rw[AJ F];have G:RI κ kd a₀ lo e:=by
    refine⟨L2.S,by rw[L2.pend];exact R.cov,fun y k=>?_⟩;rw[L2.pend]at k;have hc:=LN.mem R.cov k;rw[(L2.part R.S).seg_front (by omega)];exact R.sor y k
   refine wpS_bind (wpS_get ?_);have i:∀(b:HZ),RI κ kd a₀ lo b->KA κ (JI (arrOf b).toList lo m)->RI κ kd a₀ (lo+m) (setPending b ((pendingOf b).push (lo,m,0))):=fun b f V=>by
    refine⟨⟨f.S.perm,f.S.kind,f.S.failed⟩,?_,fun y k=>?_⟩
    .show LN ((pendingOf b).push (lo,m,0)).toList 0 (lo+m);rw[DB];exact LN.app.mpr ⟨lo,f.cov,rfl,(by show 1<=m;omega),rfl⟩
    .have hy':y∈((pendingOf b).push (lo,m,0)).toList:=k;rw[DB]at hy';rcases A_.mp hy' with hy' | hy'
     .exact f.sor y hy'
     .rw[AF.mp hy'];exact V
   cases W:(pendingOf e).back? with
   | none =>
    dsimp only;refine wpS_bind (wpS_modify (wpS_pure ⟨_,rfl,i _ G t.sor,by omega,by omega⟩))
   | some X =>
    obtain⟨H,u,pb⟩:=X;dsimp only;generalize power' a₀.size (2*H+u) (2*H+u+u+m) a₀.size=Y;refine wpS_bind (wpS_mono (wpS_forRange (I:=fun x c b=>c =(none,())/\RI κ kd a₀ lo b/\KH κ (arrOf e).toList (arrOf b).toList 0 lo)
     (Q:=fun c b=>c =(none,())/\RI κ kd a₀ lo b/\KH κ (arrOf e).toList (arrOf b).toList 0 lo) ?stc2 (fun _ _ z=>z) ⟨rfl,G,KH.refl _ _ _⟩) ?poc2)
    case stc2 =>
     rintro x' c b _ _ ⟨rfl,f,j⟩
     try dsimp only
     refine wpS_bind (wpS_get ?_);by_cases o:(pendingOf b).size>1
     .rw[AK o];obtain⟨⟨u1,u2,Z⟩,hu⟩:∃y,(pendingOf b)[(pendingOf b).size-2]?=some y:=⟨_,getElem?_pos _ _ (by omega)⟩;rw[hu];dsimp only;by_cases p:Z<=Y
      .rw[AK p];exact wpS_pure ⟨rfl,f,j⟩
      rw[AJ p];refine wpS_bind (Ih C v f P (by omega) fun st7 R7 _ J=>?_);simp only[ER,AW,CN];exact wpS_pure ⟨rfl,R7,⟨J.perm.trans j.perm,rfl,J.back.trans j.back⟩⟩
     .rw[AJ o];exact wpS_pure ⟨rfl,f,j⟩
    case poc2 =>
     rintro c b ⟨rfl,f,j⟩;dsimp only;refine wpS_bind (wpS_modify (wpS_bind (wpS_modify (wpS_pure ⟨_,rfl,i _ (f.congr Br) ?_,by omega,by omega⟩))));show KA κ (JI (arrOf b).toList lo m);rw[j.seg_back (by omega)];exact t.sor
end
def kd1(κ:KeyKind)(v:A3):κ.α:=(κ.keyOf v).getD κ.dflt
section
variable{prog:F8}{w:H_}{A:II}{E:A3->A5->Prop}{s:A5}{κ:KeyKind}{kd:JK}
def RT(a:A4)(s c:A5):Prop:=∀b o,b≠a->s.heap.get? b=some o->c.heap.get? b=some o
structure QG(prog:F8)(w:H_)(a:A4)(s:A5)(κ:KeyKind)(kd:JK)(vs:A0 A3):Prop where
 cmp:∀(A:II) (s':A5),RT a s s'->OZ prog w A s' κ kd
 key:∀v∈vs,∃k,κ.keyOf v=some k
 kind:2<=vs.length->∀(A:II) (E:A3->A5->Prop) (s':A5) (Q:JK->A5->Prop),RT a s s'->Q kd s'->wpAny (model prog w) A (keyKind' vs.toArray) Q E s'
def Out(κ:KeyKind)(vs:A0 A3)(out:CM A3):Prop:=out.toList.Perm vs/\out.toList.Pairwise fun u v=>κ.kle (kd1 κ u) (kd1 κ v)
theorem Vt{vs:A0 A3}{xs:CM F1}(a:xs.toList.Perm (pairsOf vs).toList)(b:KA κ xs.toList):Out κ vs (xs.map (·.2)):=by
 rw[pairsOf_toList]at a;have c:∀p∈xs.toList,p.1=p.2:=fun p h=>(mem_zip_self (a.mem_iff.mp h)).1;have e:(xs.map (·.2)).toList=xs.toList.map (·.1):=by
  rw[Array.toList_map];exact GU fun p h=>(c p h).symm
 refine⟨?_,?_⟩
 .rw[e];have:=a.map Prod.fst
  rwa [List.map_fst_zip (Nat.le_refl _)]at this
 .rw[e,CA];exact b
theorem Dr{a:A4}{vs:A0 A3}{n:Nat}{P:Fin->A5->Prop}(k:s.heap.get? a=some (seqObj "list" vs.toArray n))(hz:vs.length<=sizeLine)(K:QG prog w a s κ kd vs)
  (h:∀out:CM A3,Out κ vs out->P (.done (.ret .none)) { s with heap:=sortedHeap s.heap a vs out }) :
  wpAny (model prog w) A (Builtin.«list.sort» ⟨[.ref a],[]⟩) P E s:=by
 rw[list_sort_plain];have m:a<s.heap.objs.size:=AI k;have i:vs.toArray.size=vs.length:=by simp
 refine AA (listItems_at k rfl ?_);refine AA (listUpdate_at k rfl ?_ (by rw[i];exact hz) (by simp));obtain⟨l,j⟩:∃l,(s.heap.update a (Obj.mapSeq fun _=>#[])).get? a=some (seqObj "list" #[] l):=⟨_,get?_update_seq k (fun _=>#[])⟩;refine AA (seqEpoch_at j rfl ?_);refine AA (wpAny_newTuple ?_ (by simpa using hz));refine AA (HV ?_);refine BS ?_;have d:(((s.heap.update a (Obj.mapSeq fun _=>#[])).push (seqObj "tuple" vs.toArray 0)).push (seqObj "list" #[] 0)).get? a=some (seqObj "list" #[] l):=by
  rw[Heap.get?_push_ne _ _ _ (by rw[size_push',HL];exact BA (DC m)),Heap.get?_push_ne _ _ _ (by rw[HL];exact BA m)];exact j
 show wpAny (model prog w) A _ P E { s with heap:=((s.heap.update a (Obj.mapSeq fun _=>#[])).push (seqObj "tuple" vs.toArray 0)).push (seqObj "list" #[] 0) };dsimp only;have q:RT a s { s with heap:=((s.heap.update a (Obj.mapSeq fun _=>#[])).push (seqObj "tuple" vs.toArray 0)).push (seqObj "list" #[] 0) }:=fun b o r e =>
  AD _ (AD _ ((BQ s.heap _ (Ne.symm r)).trans e))
 by_cases f:vs.toArray.size<2
 .rw[AK f,AK f];refine AA (AE ?_);rw[StateT.run_pure];refine AA (AE ?_);dsimp only;refine AA (seqEpoch_at d rfl ?_);refine AA (listUpdate_at d rfl ?_ (by simp) (by rw[HE];show(pairsOf vs).size<=_;rw[pairsOf_size];omega));simp only[bne_self_eq_false,AW,CN];refine AE (h _ (Vt (κ:=κ) (xs:=pairsOf vs) (List.Perm.refl _) ?_));rw[pairsOf_toList];rw[i]at f
  match vs,f with
  | [],_=>exact List.Pairwise.nil
  | [v],_=>exact HB _ _
  | _::_::_,f=>simp at f;omega
 .rw[AJ f,AJ f];refine AA (K.kind (by omega) A E _ _ q ?_);refine AA (CK (Ei (K.cmp A _ q) (a₀:=pairsOf vs) (st:=SortSt.mk' kd (vs.toArray.zip vs.toArray) #[] 7 none)
   (Q:=fun _ c=>St κ kd (pairsOf vs) c/\KA κ (arrOf c).toList)
   (fun p g=>?_) ⟨List.Perm.refl _,rfl,rfl⟩ rfl fun c t u=>⟨t,u⟩) ?_ fun _ _ e=>e)
  .rw[pairsOf_toList]at g;exact K.key _ (mem_zip_self g).2
  rintro⟨⟨⟩,c⟩ y ⟨rfl,g,x⟩;dsimp only;refine AA (seqEpoch_at d rfl ?_);refine AA (listUpdate_at d rfl ?_ (by simp) (by rw[HE];show(arrOf c).size<=_;rw[g.size,pairsOf_size];omega));rw[show failedOf c=none from g.failed];simp only[bne_self_eq_false,AW,CN];exact AE (h _ (Vt g.perm x))
theorem LS{x:A3}{Q:A3->A5->Prop}
  (g:wpAny (model prog w) A.in1 (collect x) (fun vs s1=>s1.os=s.os/\vs.length<=sizeLine/\(∃(κ:KeyKind) (kd:JK),(∀d:A5,RT s1.heap.objs.size s1 d->QG prog w s1.heap.objs.size d κ kd vs) /\
   ∀(out:CM A3) (h':IA) (e:Nat),Out κ vs out->(∀b o,s1.heap.get? b=some o->h'.get? b=some o)->h'.get? s1.heap.objs.size=some (seqObj "list" out e)->Q (.ref s1.heap.objs.size) { s1 with heap:=h' })) E s) :
  wpAny (model prog w) A (call (.builtin "sorted") [x]) Q E s:=by
 refine Calls.call_function_entry kind_sorted plain_sorted entry_sorted (args_sorted1 _) ?_;unfold Builtin.«sorted»;refine AA (m:=checkCount "sorted" 1 1 _) (AE ?_);refine AA (CK g (fun vs s1 ⟨i,j,κ,kd,K,q⟩=>?_) fun _ _ z=>z);refine AA (HV ?_);have a:(s1.heap.push (seqObj "list" vs.toArray 0)).get? s1.heap.objs.size=some (seqObj "list" vs.toArray 0):=AN _ rfl;show wpAny _ _ _ _ _ { s1 with heap:=s1.heap.push (seqObj "list" vs.toArray 0) };have k:RT s1.heap.objs.size s1 { s1 with heap:=s1.heap.push (seqObj "list" vs.toArray 0) }:=fun b o _ e=>AD _ e;refine AA (BS (EC slot_list_sort ⟨_,a,rfl⟩ entry_list_sort (Dr (s:={ s1 with heap:=s1.heap.push (seqObj "list" vs.toArray 0) }) a j (K _ k) fun out l=>⟨_,rfl,?_⟩) (args_list_sort _)));obtain⟨e,n⟩:=sortedHeap_at (h:=s1.heap.push (seqObj "list" vs.toArray 0)) (out:=out) a;refine AE ⟨_,rfl,q out _ e l (fun b o f=>?_) n⟩;have c:=AI f;rw[sortedHeap_old (BA c) (by rw[size_push'];exact DC c)];exact AD _ f
theorem NU{a:A4}{vs:A0 A3}{d:A0 Str}(b:StrsAre vs d):QG prog w a s strKind oneType' vs:=by
 refine⟨fun A c _=>⟨fun x y k l Q E e f q=>?_⟩,fun v g=>?_,fun h A E c Q _ q=>?_⟩
 .rw[keyLt'_oneType];exact strKind_oneLt prog w A E c x y k l e f q
 .obtain⟨x,t,rfl⟩:=b.all v g;exact⟨_,rfl⟩
 .match vs,h,b with
  | v1::i::r,_,b =>
   rw[keyKind_strs b];exact AE q
def JP(a b:A0 Nat×A0 Nat):Bool:=decide (a.1<b.1)||(decide (a.1=b.1)&&decide (a.2<b.2))
theorem JA{a b:A0 Nat×A0 Nat}:JP a b=true↔a.1<b.1\/(a.1=b.1/\a.2<b.2):=by
 unfold JP;simp
theorem RK(a b:A0 Nat):a<b\/a=b\/b<a:=by
 by_cases h:a<b
 .exact .inl h
 .by_cases c:b<a
  .exact .inr (.inr c)
  .exact .inr (.inl (HM (List.not_lt.mp c) (List.not_lt.mp h)))
def Qu:A0 A3->A6 (A0 Nat×A0 Nat)
 | [.str x _,.str y _]=>some (x.cps.toList,y.cps.toList)
 | _=>none
def Rf(c:A3):Data->A6 (A0 Nat×A0 Nat)
 | .seq a _=>if c = .type "tuple" then Qu a.toList else none
 | _=>none
def MJ(h:IA):A3->A6 (A0 Nat×A0 Nat)
 | .ref p=>(h.get? p).bind fun o=>Rf o.cls o.data
 | _=>none
@[reducible] def pairKind(h:IA):KeyKind where
 α:=A0 Nat×A0 Nat
 blt:=JP
 irrefl a:=by
  rw[B_];intro z;rcases JA.mp z with z | ⟨_,z⟩
  .exact List.lt_irrefl _ z
  .exact List.lt_irrefl _ z
 trans a b c e d:=by
  rw[JA]at *;rcases e with e | ⟨e,f⟩
  .rcases d with d | ⟨d,_⟩
   .exact .inl (List.lt_trans e d)
   .exact .inl (d▸e)
  .rcases d with d | ⟨d,g⟩
   .exact .inl (e▸d)
   .exact .inr ⟨e.trans d,List.lt_trans f g⟩
 negTrans a b c h:=by
  rw[JA]at h;simp only[JA];rcases h with h | ⟨h,i⟩
  .rcases RK a.1 b.1 with q | q | q
   .exact .inl (.inl q)
   .exact .inr (.inl (q▸h))
   .exact .inr (.inl (List.lt_trans q h))
  .rcases RK a.1 b.1 with q | q | q
   .exact .inl (.inl q)
   .rcases RK a.2 b.2 with r | r | r
    .exact .inl (.inr ⟨q,r⟩)
    .exact .inr (.inr ⟨q▸h,r▸i⟩)
    .exact .inr (.inr ⟨q▸h,List.lt_trans r i⟩)
   .exact .inr (.inl (h▸q))
 total a b e d:=by
  rw[B_]at e d;rcases RK a.1 b.1 with q | q | q
  .exact absurd (JA.mpr (.inl q)) e
  .rcases RK a.2 b.2 with r | r | r
   .exact absurd (JA.mpr (.inr ⟨q,r⟩)) e
   .exact Prod.ext q r
   .exact absurd (JA.mpr (.inr ⟨q.symm,r⟩)) d
  .exact absurd (JA.mpr (.inl q)) d
 keyOf:=MJ h
 dflt:=([],[])
def LK(h:IA)(v:A3)(x y:Str):Prop:=∃p o n t u,v = .ref p/\h.get? p=some o/\o.cls = .type "tuple"/\o.data = .seq #[.str x t,.str y u] n
theorem LK.key{h:IA}{v:A3}{x y:Str}(z:LK h v x y):MJ h v=some (x.cps.toList,y.cps.toList):=by
 obtain⟨p,o,n,t,u,rfl,e,c,d⟩:=z;show(h.get? p).bind (fun o=>Rf o.cls o.data)=_;rw[e];show Rf o.cls o.data=_;rw[d,c];unfold Rf;exact(AK rfl).trans rfl
theorem zAm{l:A0 A3}{k:A0 Nat×A0 Nat}(e:Qu l=some k):∃x t y u,l = [.str x t,.str y u]:=by
 match l,e with
 | [.str x t,.str y u],_=>exact⟨x,t,y,u,rfl⟩
theorem Sa{h:IA}{v:A3}{k:A0 Nat×A0 Nat}(e:MJ h v=some k):∃x y,LK h v x y:=by
 match v,e with
 | .ref p,e =>
  have g:(h.get? p).bind (fun o=>Rf o.cls o.data)=some k:=e;obtain⟨o,i,b⟩:=HC.mp g;cases d:o.data with
  | seq f n =>
   rw[d]at b;have a:(if o.cls = .type "tuple" then Qu f.toList else none)=some k:=b;by_cases c:o.cls = .type "tuple"
   .rw[AK c]at a;obtain⟨x,t,y,u,j⟩:=zAm a;refine⟨x,y,p,o,n,t,u,rfl,i,c,?_⟩;rw[d];have:f = #[.str x t,.str y u]:=by rw[<-Array.toList_inj,j]
    rw[this]
   .rw[AJ c]at a;cases a
  | _=>rw[d]at b;cases b
theorem Kt{h:IA}{v:A3}{k:A0 Nat×A0 Nat}{x y:Str}(z:LK h v x y)(e:MJ h v=some k):k =(x.cps.toList,y.cps.toList):=by
 rw[z.key]at e;exact(BG e).symm
theorem OO{a:A4}{vs:A0 A3}{F:IA}(B:∀v∈vs,∃x y,LK F v x y)(C:∀b o,F.get? b=some o->b≠a/\s.heap.get? b=some o) :
  QG prog w a s (pairKind F) (tuples' true) vs:=by
 refine⟨fun A G J=>⟨fun x y k l Q E O P q=>?_⟩,fun v K=>?_,fun h2 A E G Q J q=>?_⟩
 .obtain⟨g,m,R⟩:=Sa O;obtain⟨f,i,S⟩:=Sa P;have Y:=Kt R O;have Z:=Kt S P;subst Y Z;obtain⟨px,ox,nx,t1,u1,rfl,U,_,d1⟩:=R;obtain⟨py,oy,ny,t2,u2,rfl,V,_,d2⟩:=S;have f1:=J _ _ (C _ _ U).1 (C _ _ U).2;have f2:=J _ _ (C _ _ V).1 (C _ _ V).2;refine PySem.W.kat_lt f1 d1 f2 d2 ?_;show PySem.W.KatLex prog w A true _ Q [(.str g t1,.str f t2),(.str m u1,.str i u2)] 0 G;refine PySem.W.kat_cons (wpAny_eqBool_str (PySem.W.kat_go (fun j=>?_) fun j=>?_))
  .have j:g=f:=by simpa using j
   refine PySem.W.kat_yes (PySem.W.kat_cons (wpAny_eqBool_str (PySem.W.kat_go (fun h=>?_) fun h=>?_)))
   .have h:m=i:=by simpa using h
    refine PySem.W.kat_yes (PySem.W.kat_nil ?_);have:JP (g.cps.toList,m.cps.toList) (f.cps.toList,i.cps.toList)=decide (2<2):=by
     rw[j,h];exact(pairKind F).irrefl (f.cps.toList,i.cps.toList)
    show Q (decide (2<2)) G;rw[<-this];exact q
   .refine PySem.W.kat_no (PySem.W.kat_one _ _ (lt_str ?_));have:JP (g.cps.toList,m.cps.toList) (f.cps.toList,i.cps.toList)=decide (m.cps.toList<i.cps.toList):=by
     rw[j];unfold JP;simp[List.lt_irrefl]
    show Q (decide (m.cps.toList<i.cps.toList)) G;rw[<-this];exact q
  .have j:¬g=f:=by simpa using j
   refine PySem.W.kat_no (oneLt_str ?_);have L:¬g.cps.toList=f.cps.toList:=fun z=>j (by cases g;cases f;simp at z;simp[z]);have:JP (g.cps.toList,m.cps.toList) (f.cps.toList,i.cps.toList)=decide (g.cps.toList<f.cps.toList):=by
    unfold JP;simp[L]
   rw[<-this];exact q
 .obtain⟨x,y,z⟩:=B v K;exact⟨_,z.key⟩
 .have hT:∀(H:A0 A3),(∀v∈H,∃x y,LK F v x y)->∃D,PySem.W.KatTups G.heap H D/\D.length=H.length/\∀v∈D,∃x t,v = .str x t:=by
   intro H
   induction H with
   | nil=>exact fun _=>⟨[],.nil,rfl,fun v B=>by simp at B⟩
   | cons v r ih =>
    intro I;obtain⟨D,M,X,N⟩:=ih fun u hu=>I u (AY _ hu);obtain⟨x,y,p,o,n,t,u,rfl,e,c,d⟩:=I v (BH ..);refine⟨.str x t::D,.cons (J _ _ (C _ _ e).1 (C _ _ e).2) c d rfl M,by simp[X],fun z hz=>?_⟩;rcases AU.mp hz with rfl | hz
    .exact⟨x,t,rfl⟩
    .exact N z hz
  obtain⟨D,M,X,N⟩:=hT vs B;refine PySem.W.kat_kind (T:=.type "str") M (by omega) (fun v B=>?_) (by rfl) q;obtain⟨x,t,rfl⟩:=N v B;exact .now
end
end TS
set_option Elab.async false
namespace L2
open PySem PySem.Spec PyProof.Rows
abbrev IW:=Sum Int Str
def Fa:IW->A3->Bool
 | .inl k,v=>Value.isInt k v
 | .inr x,v=>Value.isStrOf x v
def zGe(w:H_):IW->Int
 | .inl k=>hashInt k
 | .inr x=>hashStr w x
def E4:∀{k:IW} {v:A3},Fa k v=true->(∃i t,k=Sum.inl i/\v=Value.int i t)\/(∃x t,k=Sum.inr x/\v=Value.str x t)
 | .inl i,v,h=>by
  obtain⟨t,e⟩:=Value.isInt_shape (k:=i) (v:=v) h;exact .inl ⟨i,t,rfl,e⟩
 | .inr x,v,h=>by
  obtain⟨t,e⟩:=Value.isStrOf_shape (x:=x) (v:=v) h;exact .inr ⟨x,t,rfl,e⟩
def Rw(i:Int)(t:Tok):Fa (.inl i) (.int i t)=true:=by simp[Fa,Value.isInt]
def j8(x:Str)(t:Tok):Fa (.inr x) (.str x t)=true:=by simp[Fa,Value.isStrOf]
def zAc(a b:Int):decide ((Sum.inl a:IW)=Sum.inl b) =(a == b):=by
 by_cases e:a=b
 .subst e;simp
 .have h:¬(Sum.inl a:IW)=Sum.inl b:=fun q=>e (Sum.inl.inj q);rw[BC h];exact(beq_eq_false_iff_ne.mpr e).symm
def Zw(a b:Str):decide ((Sum.inr a:IW)=Sum.inr b)=decide (a=b):=by
 by_cases e:a=b
 .subst e;simp
 .have h:¬(Sum.inr a:IW)=Sum.inr b:=fun q=>e (Sum.inr.inj q);rw[BC h,BC e]
def zCy(a:Int)(b:Str):decide ((Sum.inl a:IW)=Sum.inr b)=false:=BC (fun q=>nomatch q)
def zBr(a:Str)(b:Int):decide ((Sum.inr a:IW)=Sum.inl b)=false:=BC (fun q=>nomatch q)
def C4(prog:F8)(w:H_):PySem.KeyKind prog w IW where
 is:=Fa
 hash:=zGe w
 inj:=fun v a b g f=>by
  rcases E4 g with⟨i,t,rfl,rfl⟩ | ⟨x,t,rfl,rfl⟩
  .rcases E4 f with⟨j,u,rfl,e⟩ | ⟨y,u,rfl,e⟩
   .injection e with c _;rw[c]
   .exact nomatch e
  .rcases E4 f with⟨j,u,rfl,e⟩ | ⟨y,u,rfl,e⟩
   .exact nomatch e
   .injection e with c _;rw[c]
 byValue:=fun k v h=>by
  rcases E4 h with⟨i,t,rfl,rfl⟩ | ⟨x,t,rfl,rfl⟩<;>rfl
 pyHash:=fun d h=>by
  rcases E4 d with⟨i,t,rfl,rfl⟩ | ⟨x,t,rfl,rfl⟩
  .exact wpAny_pyHash_int h
  .exact wpAny_pyHash_str h
 eqBool:=fun l d h=>by
  rcases E4 l with⟨i,t,rfl,rfl⟩ | ⟨x,t,rfl,rfl⟩
  .rcases E4 d with⟨j,u,rfl,rfl⟩ | ⟨y,u,rfl,rfl⟩
   .rw[zAc]at h;exact wpAny_eqBool_int h
   .rw[zCy]at h;exact SeqAt.EqAt.int_str i t y u _ _ _ _ h
  .rcases E4 d with⟨j,u,rfl,rfl⟩ | ⟨y,u,rfl,rfl⟩
   .rw[zBr]at h;exact SeqAt.EqAt.str_int x t j u _ _ _ _ h
   .rw[Zw]at h;exact wpAny_eqBool_str h
 «strs»:=fun k x t v h=>by
  rcases E4 h with⟨i,u,rfl,e⟩ | ⟨y,u,rfl,e⟩
  .exact nomatch e
  .injection e with c _;subst c;cases v<;>rfl
def Im(prog:F8)(w:H_)(i:Int)(t:Tok):(C4 prog w).is (.inl i) (.int i t)=true:=Rw i t
def Ja(prog:F8)(w:H_)(x:Str)(t:Tok):(C4 prog w).is (.inr x) (.str x t)=true:=j8 x t
inductive V where
 | non | bl (b:Bool) | int (i:Int) | str (x:Str) | byt (b:CM UInt8) | flt (b:UInt64) | ref (a:A4) | ty (n:String)
 deriving DecidableEq
def RelV:V->A3->Prop
 | .non,u=>u=Value.none
 | .bl b,u=>u=Value.bool b
 | .int i,u=>∃t,u=Value.int i t
 | .str x,u=>∃t,u=Value.str x t
 | .byt b,u=>∃t,u=Value.bytes b t
 | .flt b,u=>∃t,u=Value.float b t
 | .ref a,u=>u=Value.ref a
 | .ty n,u=>u=Value.type n
abbrev IK:A0 V->A0 A3->Prop:=Paired RelV
def IK.length{xs:A0 V}{us:A0 A3}(r:IK xs us):xs.length=us.length:=Paired.length r
def IK.get:∀{xs:A0 V} {us:A0 A3} {i:Nat} {x:V},IK xs us->xs[i]?=some x->∃u,us[i]?=some u/\RelV x u
 | _,_,_,_,.nil,e=>by simp at e
 | _,_,0,_,.cons r _,e=>by simp at e;subst e;exact⟨_,rfl,r⟩
 | _,_,i+1,x,.cons _ t,e=>by
  obtain⟨u,a,b⟩:=IK.get (i:=i) (x:=x) t (by simpa using e);exact⟨u,by simpa using a,b⟩
def IK.set{x:V}{u:A3}(r:RelV x u):∀{xs:A0 V} {us:A0 A3} (i:Nat),IK xs us->IK (xs.set i x) (us.set i u)
 | _,_,_,.nil=>.nil
 | _,_,0,.cons _ t=>.cons r t
 | _,_,i+1,.cons q t=>.cons q (IK.set r i t)
def IK.append:∀{xs a:A0 V} {us b:A0 A3},IK xs us->IK a b->IK (xs++a) (us++b)
 | _,_,_,_,.nil,s=>s
 | _,_,_,_,.cons r t,s=>.cons r (IK.append t s)
def IK.take:∀{xs:A0 V} {us:A0 A3} (n:Nat),IK xs us->IK (xs.take n) (us.take n)
 | _,_,0,_=>.nil
 | _,_,_+1,.nil=>.nil
 | _,_,n+1,.cons r t=>.cons r (IK.take n t)
def IK.drop:∀{xs:A0 V} {us:A0 A3} (n:Nat),IK xs us->IK (xs.drop n) (us.drop n)
 | _,_,0,r=>r
 | _,_,_+1,.nil=>.nil
 | _,_,n+1,.cons _ t=>IK.drop n t
def IK.none_of:∀{xs:A0 V} {us:A0 A3} {i:Nat},IK xs us->xs[i]?=none->us[i]?=none:=fun{xs us i} r e=>by
 have a:=r.length;have b:xs.length<=i:=GR.mp e;exact GR.mpr (by omega)
def LM:A6 V->A6 A3->Prop
 | some v,some u=>RelV v u
 | none,none=>True
 | _,_=>False
def KV{κ:Type}:A0 (κ×V)->A0 (κ×A3)->Prop:=Paired fun(p:κ×V) (q:κ×A3)=>p.1=q.1/\RelV p.2 q.2
def kV:IW->V
 | .inl i=>.int i
 | .inr x=>.str x
inductive HO where
 | lst (xs:A0 V)
 | tup (xs:A0 V)
 | dK (kvs:A0 (IW×V)) | dT (kvs:A0 (A0 IW×V))
 | set (S:Int->Bool) (n:Nat)
 | ins (C dx:A4) (fs:A0 (Str×V))
 | own (x:A4)
 | xd (fs:A0 (Str×V))
 | met (f x:A4)
 | rng (lo hi:Int)
 | frz (o:Obj) (u:HO)
 | tbl (ps:CM A3)
 | ext (φ:IA->Prop)
set_option genInjectivity false
abbrev Hp:=A4->A6 HO
def IB(H:Hp)(a:A4)(o:HO):Hp:=fun b=>if b=a then some o else H b
def A9{H:Hp}{a:A4}{o:HO}:IB H a o a=some o:=by unfold IB;rw[AK rfl]
def B6{H:Hp}{a b:A4}{o:HO}(h:b≠a):IB H a o b=H b:=by unfold IB;rw[AJ h]
def R9{H:Hp}{a b:A4}{o u:HO}(h:H a=some o)(h':H b=some u)(d:o≠u):a≠b:=by
 intro e;subst e;rw[h]at h';exact d (BG h')
def B0{H:Hp}{a b:A4}{o:HO}(h:H a=some o)(h':H b=none):a≠b:=by
 intro e;subst e;rw[h]at h';cases h'
section
variable(P:F8)(w:H_)
def IR(H:Hp)(h:IA)(a:A4):HO->Prop
 | .lst d=>d.length<=sizeLine/\∃(b:A0 A3) (n:Nat),IK d b/\h.get? a=some { cls:=.type "list",data:=.seq b.toArray n }
 | .tup d=>d.length<=sizeLine/\∃b:A0 A3,IK d b/\IsTup h a b.toArray
 | .dK c=>c.length<=sizeLine/\(a == sysModules)=false/\∃j,KV c j/\h.DictOf (C4 P w) a j
 | .dT c=>c.length<=sizeLine/\(a == sysModules)=false/\∃d:A0 (A0 IW×A4×A3),
   Paired (fun(p:A0 IW×V) (q:A0 IW×A4×A3)=>p.1=q.1/\H q.2.1=some (.tup (p.1.map kV))/\RelV p.2 q.2.2) c d /\
   ∃o k r,h.get? a=some o/\o.ExactDict/\o.data = .dict k r/\k.toList=d.map (entryOfKey (tupleKind (C4 P w)))/\(d.map (·.1)).Nodup
 | .set S n=>h.SetOf (intKind P w) a S n
 | .ins C i g=>H i=some (.own a)/\g.length<=1000/\i≠a/\h.get? a=some (PySem.W.instObj C i) /\
   ∃e,h.Ns1 i e/\(∀f,LM (g.lookup f) (e f))/\PySem.Within e (g.map (·.1))
 | .own _=>∃o,h.get? a=some o
 | .xd g=>∃e,h.Ns1 a e/\∀f,LM (g.lookup f) (e f)
 | .rng lo s=>∃t u v,h.get? a=some { cls:=.type "range",data:=.fields #[.int lo t,.int s u,.int 1 v] }
 | .frz o u=>h.get? a=some o/\IR H h a u
 | .tbl y=>h.get? a=some { cls:=.none,data:=.fields y }
 | .met f x=>h.get? a=some (PySem.W.methodObj (.ref f) (.ref x))
 | .ext φ=>φ h/\(∃o,h.get? a=some o)/\∀l m:IA,φ l->(∀o,l.get? a=some o->m.get? a=some o)->φ m
def LD(H:Hp)(h:IA):Prop:=∀a o,H a=some o->IR P w H h a o
end
section
variable{P:F8}{w:H_}{H H':Hp}{h h':IA}{a:A4}{o:HO}
theorem IR.lt(x:IR P w H h a o):a<h.objs.size:=by
 cases o with
 | lst c=>obtain⟨_,_,_,_,e⟩:=x;exact AI e
 | tup c=>obtain⟨_,_,_,p⟩:=x;exact p.lt
 | dK b=>obtain⟨_,_,_,_,o,_,_,e,_⟩:=x;exact AI e
 | dT b=>obtain⟨_,_,_,_,o,_,_,e,_⟩:=x;exact AI e
 | set S n=>obtain⟨o,_,_,_,e,_⟩:=x;exact AI e
 | ins C g d=>obtain⟨_,_,_,e,_⟩:=x;exact AI e
 | own y=>obtain⟨_,e⟩:=x;exact AI e
 | xd d=>obtain⟨_,⟨_,_,_,e,_⟩,_⟩:=x;exact AI e
 | rng lo i=>obtain⟨_,_,_,e⟩:=x;exact AI e
 | frz j u=>obtain⟨e,_⟩:=x;exact AI e
 | tbl k=>exact AI (show h.get? a=some _ from x)
 | met f y=>exact AI (show h.get? a=some _ from x)
 | ext φ=>obtain⟨_,⟨_,e⟩,_⟩:=x;exact AI e
theorem Paired.mapP{α β:Type}{F G:α->β->Prop}:∀{l₁:A0 α} {l₂:A0 β},Paired F l₁ l₂->(∀a b,F a b->G a b)->Paired G l₁ l₂
 | _,_,.nil,_=>.nil
 | _,_,.cons r t,f=>.cons (f _ _ r) (Paired.mapP t f)
theorem IR.stay(x:IR P w H h a o)(k:∀b u,(b=a\/H b=some (.own a))->h.get? b=some u->h'.get? b=some u)
  (D:∀b,H b=some (.own a)->H' b=some (.own a)) (E:∀b xs,H b=some (.tup xs)->H' b=some (.tup xs)):IR P w H' h' a o:=by
 induction o with
 | lst xs=>obtain⟨z,l,n,r,e⟩:=x;exact⟨z,l,n,r,k _ _ (.inl rfl) e⟩
 | tup xs=>obtain⟨z,l,r,g,e,c⟩:=x;exact⟨z,l,r,g,k _ _ (.inl rfl) e,c⟩
 | dK m=>obtain⟨z,y,F,r,g,i,j,e,c⟩:=x;exact⟨z,y,F,r,g,i,j,k _ _ (.inl rfl) e,c⟩
 | dT m =>
  obtain⟨z,y,xs,r,g,i,j,e,c⟩:=x;exact⟨z,y,xs,Paired.mapP r fun p q z=>⟨z.1,E _ _ z.2.1,z.2.2⟩,g,i,j,k _ _ (.inl rfl) e,c⟩
 | set S n=>obtain⟨g,i,j,t,e,c⟩:=x;exact⟨g,i,j,t,k _ _ (.inl rfl) e,c⟩
 | ins C L G =>
  obtain⟨d,z,I,e,s,⟨A,i,j,J,c⟩,r⟩:=x;exact⟨D _ d,z,I,k _ _ (.inl rfl) e,s,⟨A,i,j,k _ _ (.inr d) J,c⟩,r⟩
 | own y=>obtain⟨g,e⟩:=x;exact⟨g,k _ _ (.inl rfl) e⟩
 | xd G=>obtain⟨s,⟨A,i,j,e,c⟩,r⟩:=x;exact⟨s,⟨A,i,j,k _ _ (.inl rfl) e,c⟩,r⟩
 | rng lo M=>obtain⟨t,u,v,e⟩:=x;exact⟨t,u,v,k _ _ (.inl rfl) e⟩
 | frz g u K=>obtain⟨e,q⟩:=x;exact⟨k _ _ (.inl rfl) e,K q⟩
 | tbl B =>
  have e:h.get? a=some { cls:=.none,data:=.fields B }:=x;show h'.get? a=some { cls:=.none,data:=.fields B };exact k a _ (.inl rfl) e
 | met f y =>
  have e:h.get? a=some (PySem.W.methodObj (.ref f) (.ref y)):=x;show h'.get? a=some (PySem.W.methodObj (.ref f) (.ref y));exact k a _ (.inl rfl) e
 | ext φ=>obtain⟨p,⟨o,e⟩,st⟩:=x;exact⟨st _ _ p fun o q=>k _ _ (.inl rfl) q,⟨o,k _ _ (.inl rfl) e⟩,st⟩
theorem LD.lt(x:LD P w H h)(e:H a=some o):a<h.objs.size:=(x a o e).lt
theorem LD.fresh(x:LD P w H h)(e:h.objs.size<=a):H a=none:=by
 cases q:H a with
 | none=>rfl
 | some u=>exact absurd (BE (x.lt q) e) (CQ _)
theorem LD.kept(x:LD P w H h)(k:∀b u,h.get? b=some u->h'.get? b=some u):LD P w H h':=fun a o e =>
 (x a o e).stay (fun b u _ q=>k b u q) (fun _ q=>q) fun _ _ q=>q
theorem LD.laid(x:LD P w H h)(k:∀b u,h.get? b=some u->h'.get? b=some u)(i:h.objs.size<=a)(d:IR P w (IB H a o) h' a o):LD P w (IB H a o) h':=fun b u e=>by
 have f:=x.fresh i;by_cases g:b=a
 .subst g;rw[A9]at e;cases e;exact d
 .rw[B6 g]at e;exact(x b u e).stay (fun c v _ q=>k c v q) (fun c q=>by rw[B6 (B0 q f)];exact q) fun c j q=>by rw[B6 (B0 q f)];exact q
end
def Rd(H:Hp)(a:A4)(u:HO):Prop:=H a=some u\/∃o,H a=some (.frz o u)
def Rd.ok{P:F8}{w:H_}{H:Hp}{h:IA}{a:A4}{u:HO}(r:Rd H a u)(x:LD P w H h):IR P w H h a u:=by
 rcases r with r | ⟨o,r⟩
 .exact x a u r
 .obtain⟨_,q⟩:=x a _ r;exact q
def RR:A6 HO->Prop
 | some (.lst _)=>True
 | some (.dK _)=>True
 | some (.dT _)=>True
 | some (.set _ _)=>True
 | some (.ins _ _ _)=>True
 | some (.ext _)=>True
 | _=>False
section
variable{P:F8}{w:H_}{H:Hp}{h h':IA}{x e:A4}{o':HO}
theorem LD.write(p:LD P w H h)(g:RR (H x))(n:e=x\/H e=some (.own x))(k:∀b u,b≠e->h.get? b=some u->h'.get? b=some u)(l:∃u,h'.get? e=some u)
  (m:IR P w (IB H x o') h' x o'):LD P w (IB H x o') h':=fun b u q=>by
 have d:∀c y,H c=some (.own y)->c≠x:=fun c y r z=>by subst z;rw[r]at g;exact g
 have f:∀c i,H c=some (.tup i)->c≠x:=fun c i r z=>by subst z;rw[r]at g;exact g
 by_cases j:b=x
 .subst j;rw[A9]at q;cases q;exact m
 .rw[B6 j]at q;by_cases a:b=e
  .have o:H b=some (.own x):=by
    rcases n with z | z
    .exact absurd (a.trans z) j
    .rw[a];exact z
   rw[q]at o;cases o;obtain⟨v,s⟩:=l;exact⟨v,by rw[a];exact s⟩
  .refine(p b u q).stay (fun c v hc r=>k c v ?_ r) (fun c r=>by rw[B6 (d c b r)];exact r) fun c i r=>by rw[B6 (f c i r)];exact r
   rcases hc with rfl | hc
   .exact a
   .rintro rfl;rcases n with z | z
    .exact d c b hc z
    .rw[hc]at z;cases z;exact j rfl
end
structure Un(fs ex:A0 A4)(H H':Hp)(h h':IA):Prop where
 keep:∀b o,h.get? b=some o->H b=none->b∉fs->b∉ex->h'.get? b=some o
 slot:∀b o,h.get? b=some o->H b=none->b∈fs->b∉ex->∃sl,h'.get? b=some { o with slots:=sl }
 free:∀b o,h.get? b=some o->H b=none->b∉ex->H' b=none
 there:∀b o,h.get? b=some o->b∉ex->∃o',h'.get? b=some o'
 tups:∀b xs,H b=some (.tup xs)->H' b=some (.tup xs)
 frzs:∀b o u,H b=some (.frz o u)->H' b=some (.frz o u)
 tbls:∀b ps,H b=some (.tbl ps)->∃more,H' b=some (.tbl (ps++more))
section
variable{fs fs' ex ex':A0 A4}{H H1 H2:Hp}{h h1 h2 h':IA}{a x e:A4}{o:HO}
theorem Un.any(u:Un fs ex H H1 h h1){b:A4}{ob:Obj}(q:h.get? b=some ob)(n:H b=none)(a:b∉ex):∃d,h1.get? b=some { ob with slots:=d }:=by
 by_cases c:b∈fs
 .exact u.slot b ob q n c a
 .exact⟨ob.slots,u.keep b ob q n c a⟩
theorem Un.kept(k:∀b u,h.get? b=some u->h'.get? b=some u):Un fs ex H H h h' :=
 ⟨fun b a q _ _ _=>k b a q,fun b a q _ _ _=>⟨a.slots,k b a q⟩,fun _ _ _ n _=>n,fun b a q _=>⟨a,k b a q⟩,fun _ _ q=>q,fun _ _ _ q=>q,fun _ c q=>⟨#[],by rw[q];simp⟩⟩
theorem Un.refl:Un fs ex H H h h:=Un.kept fun _ _ q=>q
theorem Un.laid(k:∀b u,h.get? b=some u->h'.get? b=some u)(d:h.objs.size<=a)(c:H a=none):Un fs ex H (IB H a o) h h' where
 keep:=fun b u q _ _ _=>k b u q
 slot:=fun b u q _ _ _=>⟨u.slots,k b u q⟩
 free:=fun b u q n _=>by rw[B6 (BA (BE (AI q) d))];exact n
 there:=fun b u q _=>⟨u,k b u q⟩
 tups:=fun b e q=>by rw[B6 (B0 q c)];exact q
 frzs:=fun b u e q=>by rw[B6 (B0 q c)];exact q
 tbls:=fun b f q=>⟨#[],by rw[B6 (B0 q c),q];simp⟩
theorem Un.write(c:RR (H x))(j:e=x\/H e=some (.own x))(k:∀b u,b≠e->h.get? b=some u->h'.get? b=some u)(d:∃u,h'.get? e=some u):Un fs ex H (IB H x o) h h':=by
 have g:∀b,H b=none->b≠x:=fun b n z=>by subst z;rw[n]at c;exact c
 have i:∀b,H b=none->b≠e:=fun b n z=>by
  subst z;rcases j with r | r
  .exact g b n r
  .rw[n]at r;cases r
 have f:∀b u,H b=some u->¬RR (some u)->b≠x:=fun b u q l z=>by subst z;rw[q]at c;exact l c
 refine⟨fun b u q n _ _=>k b u (i b n) q,fun b u q n _ _=>⟨u.slots,k b u (i b n) q⟩,fun b u q n _=>by rw[B6 (g b n)];exact n,fun b u q _=>?_,
  fun b m q=>by rw[B6 (f b _ q fun z=>z)];exact q,fun b u m q=>by rw[B6 (f b _ q fun z=>z)];exact q,fun b p q=>⟨#[],by rw[B6 (f b _ q fun z=>z),q];simp⟩⟩
 by_cases a:b=e
 .subst a;exact d
 .exact⟨u,k b u a q⟩
end
def trk(h:IA)(H:Hp):A0 A4:=(List.range h.objs.size).filter fun a=>(H a).isSome
def Tg(h:IA)(H:Hp):IA:=PySem.W.hideAll h (trk h H)
def Gy(h:IA)(H:Hp):(Tg h H).objs.size=h.objs.size:=PySem.W.hideAll_size _ _
def Af{h:IA}{H:Hp}{b:A4}{o:Obj}(e:h.get? b=some o)(n:H b=none):(Tg h H).get? b=some o :=
 PySem.W.hideAll_get _ e fun a=>by
  have q:(H b).isSome=true:=(BM.mp a).2;rw[n]at q;simp at q
def Om{h:IA}{H:Hp}{b:A4}{o:Obj}(e:(Tg h H).get? b=some o):h.get? b=some o/\H b=none:=by
 have a:h.get? b=some o:=PySem.W.of_hideAll (trk h H) e;refine⟨a,?_⟩;cases q:H b with
 | none=>rfl
 | some x =>
  have c:b∈trk h H:=BM.mpr ⟨BW.mpr (AI a),by simp[q]⟩;have z:(Tg h H).get? b=none:=PySem.W.hideAll_none (trk h H) c;rw[z]at e;cases e
structure Mod(K:PySem.W.Frag)(mg:Str->A6 A3)(base:IA):Prop where
 kin:K.In base
 glob:base.Ns mainGlobals mg
 blt:∃mb,base.Ns builtinsNs mb/\∀x:Str,x≠ "__name__"->mb x=bootBuiltins x
 nolimit:base.NoLimit
structure Cx where
 prog:F8
 w:H_
 K:PySem.W.Frag
 mg:Str->A6 A3
 base:IA
 A:II
 N:A0 Str
 s₀:A5
 H₀:Hp
 env:OU
 outer:A0 OU
 stack:A0 OU
 ex:A0 A4
 fn:Str->Bool
 calm:Bool
 pn:A0 (A4×Obj)
 xe:A3->A5->Prop
def OA(l:A0 OU):A0 A4:=l.filterMap (·.frame)
abbrev Cx.fs(X:Cx):A0 A4:=OA X.outer
def RP(a:JB)(x:Str):Prop:=a.names.lookup x=some .local\/a.names.lookup x=some .cell\/a.names.lookup x=some .free
def Loc(a:JB)(x:Str):Prop:=a.names.lookup x=some .local\/a.names.lookup x=some .cell
def zGb(a:OU)(h:IA)(m:Str->A6 A3)(x:Str)(u:A3):Prop :=
 (a.kindOf x=some .local/\m x=some u)\/((a.kindOf x=some .cell\/a.kindOf x=some .free)/\∃c,a.cells.lookup x=some c/\h.IsCell c (some u))
structure Cx.Ok(X:Cx):Prop where
 mod:Mod X.K X.mg X.base
 kind:X.env.scope.kind = .function
 glob:X.env.globals=mainGlobals
 blt:X.env.builtins=builtinsNs
 above:X.s₀.heap.objs.size<=X.env.locals
 inj:∀x y c,X.env.cells.lookup x=some c->X.env.cells.lookup y=some c->x=y
 has:∀x,(X.env.kindOf x=some .cell\/X.env.kindOf x=some .free)->∃c,X.env.cells.lookup x=some c
 cab:∀x c,X.fn x=true->X.env.cells.lookup x=some c->X.s₀.heap.objs.size<=c
 hd:X.calm=true->X.A.handled=none
 frames:X.A.frames=some X.stack
 stk:X.stack=X.outer\/(X.stack=X.env::X.outer/\X.env.frame=some X.env.locals)
 exf:∀b∈X.ex,b≠X.env.locals/\∀x c,X.env.cells.lookup x=some c->c≠b
 bs:∀b o,X.base.get? b=some o->X.s₀.heap.get? b=some o/\X.H₀ b=none
 bsz:X.base.objs.size<=X.s₀.heap.objs.size
 noex:∀b o,X.base.get? b=some o->b∉X.ex
 exfs:∀b∈X.ex,b∉X.fs
 funs:X.s₀.heap.FunFrames X.base X.outer
 frf:∀b∈X.fs,X.H₀ b=none
structure Inv(X:Cx)(pins:A0 (A4×Obj))(σ:A0 (A6 V))(H:Hp)(s:A5):Prop where
 ok:X.Ok
 os:s.os=X.s₀.os
 bare:AllBare s.gens
 base:Un X.fs X.ex X.H₀ H X.s₀.heap s.heap
 loc:∃m,s.heap.Ns X.env.locals m/\∀(i:Nat) (x:Str) (v:V),X.N[i]?=some x->σ[i]?=some (some v)->RP X.env.scope x->∃u,RelV v u/\zGb X.env s.heap m x u
 cell:∀x c,X.env.cells.lookup x=some c->∃v,s.heap.IsCell c v
 free:H X.env.locals=none
 freeC:∀x c,X.env.cells.lookup x=some c->H c=none
 pin:∀p∈X.pn++pins,s.heap.get? p.1=some p.2/\H p.1=none/\p.1≠X.env.locals/\p.1∉X.fs/\∀v,p.2.data≠ .cell v
 hok:LD X.prog X.w H s.heap
 len:σ.length=X.N.length
section
variable{X:Cx}{pins:A0 (A4×Obj)}{σ:A0 (A6 V)}{H H':Hp}{s:A5}{h':IA}
theorem Cx.Ok.nofr(a:X.Ok){b:A4}{o:Obj}(e:X.base.get? b=some o):b∉X.fs:=fun c=>by
 have:=(a.funs.mem c).1;rw[e]at this;cases this
theorem Inv.bs(I:Inv X pins σ H s):∀b o,X.base.get? b=some o->s.heap.get? b=some o/\H b=none:=fun b o e =>
 ⟨I.base.keep b o (I.ok.bs b o e).1 (I.ok.bs b o e).2 (I.ok.nofr e) (I.ok.noex b o e),I.base.free b o (I.ok.bs b o e).1 (I.ok.bs b o e).2 (I.ok.noex b o e)⟩
theorem Inv.bk(I:Inv X pins σ H s):∀b o,X.base.get? b=some o->s.heap.get? b=some o:=fun b o e=>(I.bs b o e).1
theorem Inv.mod(I:Inv X pins σ H s):Mod X.K X.mg X.base:=I.ok.mod
theorem Inv.kIn(I:Inv X pins σ H s):X.K.In s.heap:=I.ok.mod.kin.keeps I.bk
theorem Inv.lt(I:Inv X pins σ H s):X.env.locals<s.heap.objs.size:=let⟨_,a,_⟩:=I.loc;a.lt
theorem Inv.sz(I:Inv X pins σ H s):X.s₀.heap.objs.size<=s.heap.objs.size:=Nat.le_trans I.ok.above (DZ I.lt)
theorem Inv.nofs(I:Inv X pins σ H s){a:A4}(h:s.heap.objs.size<=a):a∉X.fs:=fun b=>by
 obtain⟨_,o,c,_⟩:=I.ok.funs.mem b;exact absurd (BE (AI c) (Nat.le_trans I.sz h)) (CQ _)
theorem Inv.cne(I:Inv X pins σ H s):∀x c,X.env.cells.lookup x=some c->c≠X.env.locals:=fun x c e z=>by
 obtain⟨v,o,d,f⟩:=I.cell x c e;obtain⟨m,⟨g,h,i,a,b,_⟩,_⟩:=I.loc;rw[z,a]at d;cases d;rw[b]at f;cases f
theorem Inv.funs(I:Inv X pins σ H s):s.heap.FunFrames X.base X.outer:=by
 have a:∀(l:A0 OU),(∀b∈OA l,b∈X.fs)->X.s₀.heap.FunFrames X.base l->s.heap.FunFrames X.base l:=by
  intro l
  induction l with
  | nil=>intro _ _;trivial
  | cons h r i =>
   intro g j;obtain⟨k,⟨L,o,c,m,n,p⟩,q⟩:=j;have d:L∈X.fs:=g L (by unfold OA;rw[DT,c];exact BH);obtain⟨t,e⟩:=I.base.slot L o n (I.ok.frf L d) d fun z=>I.ok.exfs L z d;exact⟨k,⟨L,_,c,m,e,p⟩,i (fun b f=>g b (by unfold OA;rw[DT,c];exact AY _ f)) q⟩
 exact a X.outer (fun _ f=>f) I.ok.funs
theorem Inv.stack(I:Inv X pins σ H s):s.heap.FunFrames X.base X.stack:=by
 rcases I.ok.stk with e | ⟨e,a⟩
 .rw[e];exact I.funs
 .rw[e];obtain⟨m,b,_⟩:=I.loc;refine .cons (by rw[I.ok.kind];decide) a b ?_ I.funs;exact Heap.get?_none_of_le (Nat.le_trans I.ok.bsz I.ok.above)
theorem Inv.stkSub(I:Inv X pins σ H s):∀b∈OA X.stack,b∈X.env.locals::X.fs:=fun b a=>by
 rcases I.ok.stk with e | ⟨e,c⟩
 .rw[e]at a;exact AY _ a
 .rw[e]at a;unfold OA at a;rw[DT,c]at a;exact a
theorem Inv.stkFree(I:Inv X pins σ H s):∀b∈OA X.stack,H b=none:=fun b hb=>by
 rcases AU.mp (I.stkSub b hb)with e | hb
 .rw[e];exact I.free
 .obtain⟨_,o,a,_⟩:=I.ok.funs.mem hb;exact I.base.free b o a (I.ok.frf b hb) fun z=>I.ok.exfs b z hb
theorem Inv.step{g':CM GenState}{t':Nat}{d':Drawn}{ch:A0 A4}(I:Inv X pins σ H s)
  (g:∀b∈ch,(b∈X.ex\/X.s₀.heap.objs.size<=b)/\b≠X.env.locals/\(∀x c,X.env.cells.lookup x=some c->c≠b)/\∀p∈X.pn++pins,p.1≠b)
  (h:∀b o,b≠X.env.locals->b∉X.fs->b∉ch->s.heap.get? b=some o->H b=none->h'.get? b=some o)
  (B:∀b o,b≠X.env.locals->b∈X.fs->b∉ch->s.heap.get? b=some o->H b=none->∃O,h'.get? b=some { o with slots:=O }) (f:∀b o,b∉ch->s.heap.get? b=some o->H b=none->H' b=none)
  (C:∀b o,b∉ch->s.heap.get? b=some o->∃F,h'.get? b=some F)
  (G:∀b xs,H b=some (.tup xs)->H' b=some (.tup xs)) (J:∀b o u,H b=some (.frz o u)->H' b=some (.frz o u)) (K:∀b N,H b=some (.tbl N)->∃more,H' b=some (.tbl (N++more)))
  (ns:∀m,s.heap.Ns X.env.locals m->h'.Ns X.env.locals m) (P:LD X.prog X.w H' h') (W:AllBare g') :
  Inv X pins σ H' { s with heap:=h',gens:=g',drawn:=d',toks:=t' }:=by
 have L:∀b o,X.s₀.heap.get? b=some o->b≠X.env.locals:=fun b o e=>BA (BE (AI e) I.ok.above);have y:∀b o,X.s₀.heap.get? b=some o->b∉X.ex->b∉ch:=fun b o e a D=>by
  rcases(g b D).1 with z | z
  .exact a z
  .exact absurd (BE (AI e) z) (CQ _)
 have j:∀x c,X.env.cells.lookup x=some c->∀v,s.heap.IsCell c v->h'.IsCell c v:=fun x c e v ⟨o,E,Q⟩=>by
  have t:c∉ch:=fun z=>(g c z).2.2.1 x c e rfl;by_cases S:c∈X.fs
  .obtain⟨O,q⟩:=B c o (I.cne x c e) S t E (I.freeC x c e);exact⟨_,q,Q⟩
  .exact⟨o,h c o (I.cne x c e) S t E (I.freeC x c e),Q⟩
 refine⟨I.ok,I.os,W,⟨fun b o e n D a=>?_,fun b o e n D a=>?_,fun b o e n a=>?_,fun b o e a=>?_,fun b xs e=>G b xs (I.base.tups b xs e),fun b o xs e=>J b o xs (I.base.frzs b o xs e),fun b N e=>?_⟩,?_,fun x c e=>?_,?_,fun x c e=>?_,fun p T=>?_,P,I.len⟩
 .exact h b o (L b o e) D (y b o e a) (I.base.keep b o e n D a) (I.base.free b o e n a)
 .obtain⟨O,A⟩:=I.base.slot b o e n D a;obtain⟨R,M⟩:=B b _ (L b o e) D (y b o e a) A (I.base.free b o e n a);exact⟨R,M⟩
 .obtain⟨F,A⟩:=I.base.there b o e a;exact f b F (y b o e a) A (I.base.free b o e n a)
 .obtain⟨F,A⟩:=I.base.there b o e a;exact C b F (y b o e a) A
 .obtain⟨Y,A⟩:=I.base.tbls b N e;obtain⟨Z,M⟩:=K b _ A;exact⟨Y++Z,by rw[M,Array.append_assoc]⟩
 .obtain⟨m,hn,hl⟩:=I.loc;refine⟨m,ns m hn,fun i x v A M e3=>?_⟩;obtain⟨u,r,l⟩:=hl i x v A M e3;refine⟨u,r,?_⟩;rcases l with l | ⟨k,c,e,z⟩
  .exact .inl l
  .exact .inr ⟨k,c,e,j x c e _ z⟩
 .obtain⟨v,z⟩:=I.cell x c e;exact⟨v,j x c e v z⟩
 .obtain⟨m,⟨o,_,_,E,_⟩,_⟩:=I.loc;exact f _ o (fun z=>(g _ z).2.1 rfl) E I.free
 .obtain⟨v,o,E,Q⟩:=I.cell x c e;exact f c o (fun z=>(g c z).2.2.1 x c e rfl) E (I.freeC x c e)
 .obtain⟨e,n,U,V,d⟩:=I.pin p T;have t:p.1∉ch:=fun z=>(g p.1 z).2.2.2 p T rfl;exact⟨h p.1 p.2 U V t e n,f p.1 p.2 t e n,U,V,d⟩
theorem Inv.un{t':Nat}(I:Inv X pins σ H s)(u:Un X.fs [] H H' s.heap h')(c:LD X.prog X.w H' h'):Inv X pins σ H' { s with heap:=h',toks:=t' }:=by
 obtain⟨m,⟨o,l,p,h,r⟩,_⟩:=id I.loc;obtain⟨q,i⟩:=u.any h I.free (by simp);exact I.step (g':=s.gens) (d':=s.drawn) (ch:=[]) (fun _ z=>nomatch z) (fun b o _ d _ e n=>u.keep b o e n d (by simp)) (fun b o _ d _ e n=>u.slot b o e n d (by simp)) (fun b o _ e n=>u.free b o e n (by simp)) (fun b o _ e=>u.there b o e (by simp)) u.tups u.frzs u.tbls (fun t j=>by
  obtain⟨v,f,g,a,k⟩:=j;rw[h]at a;cases a;exact⟨_,f,g,i,k⟩) c I.bare
theorem Inv.call{g':CM GenState}{t':Nat}{d':Drawn}{ch:A0 A4}(I:Inv X pins σ H s)(u:Un (OA X.stack) ch H H' s.heap h')(g:LD X.prog X.w H' h')(l:AllBare g')
  (d:∀b∈ch,(b∈X.ex\/X.s₀.heap.objs.size<=b)/\b≠X.env.locals/\(∀x c,X.env.cells.lookup x=some c->c≠b)/\∀p∈X.pn++pins,p.1≠b) :
  Inv X pins σ H' { s with heap:=h',gens:=g',drawn:=d',toks:=t' }:=by
 obtain⟨m,⟨o,y,A,k,r⟩,_⟩:=id I.loc;obtain⟨B,h⟩:=u.any k I.free fun z=>(d _ z).2.1 rfl;exact I.step (ch:=ch) d (fun b o h q a e n=>u.keep b o e n (fun z=>(AU.mp (I.stkSub b z)).elim h q) a) (fun b o _ _ a e n=>u.any e n a) (fun b o a e n=>u.free b o e n a) (fun b o a e=>u.there b o e a) u.tups u.frzs u.tbls (fun C t=>by
  obtain⟨D,i,j,f,v⟩:=t;rw[k]at f;cases f;exact⟨_,i,j,h,v⟩) g l
theorem Inv.turned{t':Nat}{a:A4}(I:Inv X pins σ H s)(k:∀b o,b≠a->s.heap.get? b=some o->h'.get? b=some o)(h:H a=none)(g:a≠X.env.locals)
  (h1:a∈X.ex\/X.s₀.heap.objs.size<=a) (h2:∀x c,X.env.cells.lookup x=some c->c≠a) (i:∀p∈X.pn++pins,p.1≠a):Inv X pins σ H { s with heap:=h',toks:=t' }:=by
 have f:∀b u,H b=some u->b≠a:=fun b u e z=>by rw[z,h]at e;cases e
 refine I.step (g':=s.gens) (d':=s.drawn) (ch:=[a]) (fun b j=>?_) (fun b o _ _ d e _=>k b o (fun z=>d (by simp[z])) e) (fun b o _ _ d e _=>⟨o.slots,k b o (fun z=>d (by simp[z])) e⟩) (fun _ _ _ _ n=>n)
  (fun b o d e=>⟨o,k b o (fun z=>d (by simp[z])) e⟩) (fun _ _ e=>e) (fun _ _ _ e=>e) (fun b A e=>⟨#[],by rw[e];simp⟩) (fun m l=>?_) (fun b u e=>?_) I.bare
 .have e:b=a:=by simpa using j
  subst e;exact⟨h1,g,h2,i⟩
 .obtain⟨o,t,w,y,r⟩:=l;exact⟨o,t,w,k _ o (Ne.symm g) y,r⟩
 .refine(I.hok b u e).stay (fun c v d q=>k c v ?_ q) (fun _ q=>q) fun _ _ q=>q;rcases d with z | z
  .rw[z];exact f b u e
  .exact f c _ z
theorem Inv.tok(I:Inv X pins σ H s)(t:Nat):Inv X pins σ H { s with toks:=t }:=I.un (h':=s.heap) (t':=t) Un.refl I.hok
theorem Inv.kept{t':Nat}(I:Inv X pins σ H s)(k:∀b u,s.heap.get? b=some u->h'.get? b=some u):Inv X pins σ H { s with heap:=h',toks:=t' }:=I.un (Un.kept k) (I.hok.kept k)
theorem Inv.laid{a:A4}{o:HO}{t':Nat}(I:Inv X pins σ H s)(k:∀b u,s.heap.get? b=some u->h'.get? b=some u)(c:s.heap.objs.size<=a)(d:IR X.prog X.w (IB H a o) h' a o) :
  Inv X pins σ (IB H a o) { s with heap:=h',toks:=t' }:=I.un (Un.laid k c (I.hok.fresh c)) (I.hok.laid k c d)
theorem Inv.write{x e:A4}{o:HO}{t':Nat}(I:Inv X pins σ H s)(d:RR (H x))(f:e=x\/H e=some (.own x))(k:∀b u,b≠e->s.heap.get? b=some u->h'.get? b=some u)(a:∃u,h'.get? e=some u)
  (c:IR X.prog X.w (IB H x o) h' x o):Inv X pins σ (IB H x o) { s with heap:=h',toks:=t' }:=I.un (Un.write d f k a) (I.hok.write d f k a c)
theorem Inv.pins_of{a:A0 (A4×Obj)}(I:Inv X pins σ H s)(h:∀p∈a,s.heap.get? p.1=some p.2/\H p.1=none/\p.1≠X.env.locals/\p.1∉X.fs/\∀v,p.2.data≠ .cell v):Inv X a σ H s :=
 ⟨I.ok,I.os,I.bare,I.base,I.loc,I.cell,I.free,I.freeC,fun p b=>(A_.mp b).elim (fun z=>I.pin p (EU _ z)) (h p),I.hok,I.len⟩
theorem Lv{N:A0 Str}(c:N.Nodup){i j:Nat}{x:Str}(a:N[i]?=some x)(b:N[j]?=some x):i=j:=by
 obtain⟨f,d⟩:=AG.mp a;obtain⟨g,e⟩:=AG.mp b;exact(List.getElem_inj c).mp (d.trans e.symm)
theorem Ge{M:Model}{A:II}{E:A3->A5->Prop}{i:Nat}{x:Str}{v:V}{u:A3}{Q:Unit->A5->Prop}(I:Inv X pins σ H s)(hN:X.N.Nodup)(hi:X.N[i]?=some x)(t:Loc X.env.scope x)(r:RelV v u)
  (h:∀W,Inv X pins (σ.set i (some v)) H W->(∃a,Heap.SameBut a s.heap W.heap/\(a=X.env.locals\/X.env.cells.lookup x=some a))->Q () W) (hf:X.fn x=true\/X.env.scope.names.lookup x=some .local:=by first | exact .inl rfl | exact .inr rfl | assumption):wpAny M A (storeName X.env x u) Q E s:=by
 obtain⟨m,Y,hl⟩:=id I.loc;have K:(X.env.scope.kind == .class||(X.env.scope.kind == .module&&X.env.locals != X.env.globals))=false:=by rw[I.ok.kind];rfl
 have hiσ:i<σ.length:=by rw[I.len];exact(AG.mp hi).1
 have D:=I.cne;have g:∀{a:A4} {h':IA},(∃o,s.heap.get? a=some o/\H a=none)->Heap.SameBut a s.heap h'->LD X.prog X.w H h':=fun{a h'} ha f b ob e=>by
  obtain⟨_,_,B⟩:=ha;refine(I.hok b ob e).stay (fun c S hc q=>(f.2 c ?_).trans q) (fun _ q=>q) fun _ _ q=>q;rintro rfl;rcases hc with rfl | hc
  .rw[B]at e;cases e
  .rw[B]at hc;cases hc
 rcases t with hk | hk
 .refine wpAny_storeName_local hk Y (fun h' Z f=>?_) K;obtain⟨oL,_,_,hoL,_⟩:=id Y;refine h _ ⟨I.ok,I.os,I.bare,⟨fun b o e n F t=>?_,fun b o e n F t=>?_,I.base.free,fun b o e t=>?_,I.base.tups,I.base.frzs,I.base.tbls⟩,⟨_,Z,fun j y v' l C e3=>?_⟩,fun y c e=>?_,I.free,I.freeC,fun p hp=>?_,g ⟨oL,hoL,I.free⟩ f,by simpa using I.len⟩ ⟨_,f,.inl rfl⟩
  .exact(f.2 b (BA (BE (AI e) I.ok.above))).trans (I.base.keep b o e n F t)
  .obtain⟨sl,l⟩:=I.base.slot b o e n F t;exact⟨sl,(f.2 b (BA (BE (AI e) I.ok.above))).trans l⟩
  .obtain⟨o',l⟩:=I.base.there b o e t;exact⟨o',(f.2 b (BA (BE (AI e) I.ok.above))).trans l⟩
  .by_cases G:j=i
   .subst G;rw[hi]at l;cases l;rw[HF hiσ]at C;cases C;exact⟨u,r,.inl ⟨hk,by simp⟩⟩
   .rw[List.getElem?_set_ne (Ne.symm G)]at C;obtain⟨u',r',q⟩:=hl j y v' l C e3;refine⟨u',r',?_⟩;rcases q with⟨k,e⟩ | ⟨k,c,e,z⟩
    .refine .inl ⟨k,?_⟩;have:y≠x:=fun e=>G (Lv hN l (e▸hi));simp[this,e]
    .exact .inr ⟨k,c,e,z.sameBut f (D y c e)⟩
  .obtain⟨S,z⟩:=I.cell y c e;exact⟨S,z.sameBut f (D y c e)⟩
  .obtain⟨e,n,T,nf,d⟩:=I.pin p hp;exact⟨(f.2 p.1 T).trans e,n,T,nf,d⟩
 .have J:X.fn x=true:=by
   rcases hf with z | z
   .exact z
   .rw[z]at hk;cases hk
  obtain⟨c,hc⟩:=I.ok.has x (.inl hk);obtain⟨S,z⟩:=I.cell x c hc;refine wpAny_storeName_cell I.ok.kind hk hc z (fun h' L f=>?_);obtain⟨oc,O,P⟩:=id z;refine h { s with heap:=h' } ⟨I.ok,I.os,I.bare,⟨fun b o e n F t=>?_,fun b o e n F t=>?_,I.base.free,fun b o e t=>?_,I.base.tups,I.base.frzs,I.base.tbls⟩,⟨m,Y.sameBut f (Ne.symm (D x c hc)),fun j y v' l C e3=>?_⟩,fun y U e=>?_,I.free,I.freeC,fun p hp=>?_,g ⟨oc,O,I.freeC x c hc⟩ f,by simpa using I.len⟩ ⟨c,f,.inr hc⟩
  .exact(f.2 b (BA (BE (AI e) (I.ok.cab x c J hc)))).trans (I.base.keep b o e n F t)
  .obtain⟨sl,l⟩:=I.base.slot b o e n F t;exact⟨sl,(f.2 b (BA (BE (AI e) (I.ok.cab x c J hc)))).trans l⟩
  .obtain⟨o',l⟩:=I.base.there b o e t;exact⟨o',(f.2 b (BA (BE (AI e) (I.ok.cab x c J hc)))).trans l⟩
  .by_cases G:j=i
   .subst G;rw[hi]at l;cases l;rw[HF hiσ]at C;cases C;exact⟨u,r,.inr ⟨.inl hk,c,hc,L⟩⟩
   .rw[List.getElem?_set_ne (Ne.symm G)]at C;obtain⟨u',r',q⟩:=hl j y v' l C e3;refine⟨u',r',?_⟩;rcases q with q | ⟨k,U,e,z'⟩
    .exact .inl q
    .refine .inr ⟨k,U,e,z'.sameBut f ?_⟩;rintro rfl;exact G (Lv hN l (I.ok.inj _ _ _ e hc▸hi))
  .by_cases R:U=c
   .subst R;exact⟨_,L⟩
   .obtain⟨w2,z2⟩:=I.cell y U e;exact⟨w2,z2.sameBut f R⟩
  .obtain⟨e,n,T,nf,d⟩:=I.pin p hp;refine⟨(f.2 p.1 ?_).trans e,n,T,nf,d⟩;intro q;rw[q,O]at e;have q':oc=p.2:=BG e;exact d S (by rw[<-q'];exact P)
theorem i5{M:Model}{A:II}{E:A3->A5->Prop}{i:Nat}{x:Str}{v:V}{u:A3}{Q:Unit->A5->Prop}(I:Inv X pins σ H s)(b:X.N.Nodup)(hi:X.N[i]?=some x)(c:Loc X.env.scope x)(r:RelV v u)
  (h:∀a,Inv X pins (σ.set i (some v)) H a->Q () a) (d:X.fn x=true\/X.env.scope.names.lookup x=some .local:=by first | exact .inl rfl | exact .inr rfl | assumption):wpAny M A (storeName X.env x u) Q E s :=
 Ge I b hi c r (fun a e _=>h a e) d
theorem Inv.call'{a:A5}{ch:A0 A4}(I:Inv X pins σ H s)(g:a.os=s.os)(u:Un (OA X.stack) ch H H' s.heap a.heap)(d:LD X.prog X.w H' a.heap)(h:AllBare a.gens)
  (f:∀b∈ch,(b∈X.ex\/X.s₀.heap.objs.size<=b)/\b≠X.env.locals/\(∀x c,X.env.cells.lookup x=some c->c≠b)/\∀p∈X.pn++pins,p.1≠b):Inv X pins σ H' a:=by
 obtain⟨h',g',d',t',i⟩:=a;have e:i=s.os:=g;subst e;exact I.call (g':=g') (t':=t') (d':=d') u d h f
end
abbrev XK:=A3->A6 A4->Hp->Prop
abbrev St:=A0 (A6 V)
abbrev VK:=V->Hp->Prop
abbrev TE:=St->Hp->VK->Prop
abbrev TT:=St->Hp->(Bool->Hp->Prop)->Prop
abbrev TA:=St->Hp->(A0 V->Hp->Prop)->Prop
structure Ends where
 nx:St->Hp->Prop
 rt:VK
 bk:St->Hp->Prop:=fun _ _=>False
 ct:St->Hp->Prop:=fun _ _=>False
abbrev TS:=Ends->St->Hp->Prop
def EP(X:Cx)(a:A0 (A4×Obj))(σ:St)(Q:VK)(u:A3)(c:A5):Prop:=∃v b,Inv X a σ b c/\RelV v u/\Q v b
def TP(X:Cx)(a:A0 (A4×Obj))(σ:St)(Q:Bool->Hp->Prop)(b:Bool)(d:A5):Prop:=∃c,Inv X a σ c d/\Q b c
def AP(X:Cx)(a:A0 (A4×Obj))(σ:St)(Q:A0 V->Hp->Prop)(us:A0 A3)(d:A5):Prop:=∃b c,Inv X a σ c d/\IK b us/\Q b c
def SP(X:Cx)(a:A0 (A4×Obj))(D:Ends)(f:Flow)(c:A5):Prop :=
 match f with
 | .next=>∃σ' b,Inv X a σ' b c/\D.nx σ' b
 | .brk=>∃σ' b,Inv X a σ' b c/\D.bk σ' b
 | .cont=>∃σ' b,Inv X a σ' b c/\D.ct σ' b
 | .ret u=>∃v σ' b,Inv X a σ' b c/\RelV v u/\D.rt v b
def PE(X:Cx)(e:IH)(t:TE):Prop :=
 ∀(a:A0 (A4×Obj)) (s:A5) (σ:St) (H:Hp) (Q:VK),Inv X a σ H s->t σ H Q->wpAny (model X.prog X.w) X.A (eval e X.env) (EP X a σ Q) X.xe s
def PT(X:Cx)(e:IH)(t:TT):Prop :=
 ∀(a:A0 (A4×Obj)) (s:A5) (σ:St) (H:Hp) (Q:Bool->Hp->Prop),Inv X a σ H s->t σ H Q->wpAny (model X.prog X.w) X.A (isTrue e X.env (eval e X.env)) (TP X a σ Q) X.xe s
def PW(X:Cx)(e:IH)(t:TT):Prop :=
 ∀(b:Sem A3) (a:A0 (A4×Obj)) (s:A5) (σ:St) (H:Hp) (Q:Bool->Hp->Prop),Inv X a σ H s->t σ H Q->wpAny (model X.prog X.w) X.A (isTrue e X.env b) (TP X a σ Q) X.xe s
def PW.pt{X:Cx}{e:IH}{t:TT}(h:PW X e t):PT X e t:=h _
def PA(X:Cx)(c:A0 IH)(t:TA):Prop :=
 ∀(b:Pos) (a:A0 (A4×Obj)) (s:A5) (σ:St) (H:Hp) (Q:A0 V->Hp->Prop),Inv X a σ H s->t σ H Q->wpAny (model X.prog X.w) X.A (spliced (backTo b (starEach c X.env))) (AP X a σ Q) X.xe s
def PS(X:Cx)(st:IS)(t:TS):Prop :=
 ∀(a:A0 (A4×Obj)) (s:A5) (σ:St) (H:Hp) (D:Ends),Inv X a σ H s->t D σ H->wpAny (model X.prog X.w) X.A (exec st X.env) (SP X a D) X.xe s
def OS(X:Cx)(st:A0 IS)(t:TS):Prop :=
 ∀(a:A0 (A4×Obj)) (s:A5) (σ:St) (H:Hp) (D:Ends),Inv X a σ H s->t D σ H->wpAny (model X.prog X.w) X.A (execs st X.env) (SP X a D) X.xe s
def IY{α:Type}{t:Sem α}{Q b:α->A5->Prop}{M:Model}{A:II}{E:A3->A5->Prop}{s:A5}(h:wpAny M A t Q E s)(c:∀a s,Q a s->b a s):wpAny M A t b E s:=CK h c fun _ _ x=>x
section
variable{X:Cx}
def Tr(i:Nat):TE:=fun σ H Q=>∃v,σ[i]?=some (some v)/\Q v H
def tC(v:V):TE:=fun _ H Q=>Q v H
theorem Vr{i:Nat}{x:Str}{pos:Pos}(k:X.N[i]?=some x)(n:RP X.env.scope x)(f:(x ==("__debug__":Str))=false:=by decide)(g:(x ==("__classdict__":Str))=false:=by decide):PE X (.Name x pos) (Tr i):=by
 intro d s σ H Q I h;obtain⟨v,e,h⟩:=h;obtain⟨m,o,p⟩:=I.loc;obtain⟨u,r,l⟩:=p i x v k e n;have b:EP X d σ Q u s:=⟨v,H,I,r,h⟩;rcases l with⟨hk,q⟩ | ⟨hk,c,j,a⟩
 .exact wpAny_Name (wpAny_loadName_local I.ok.kind hk o q b) f
 .rcases hk with hk | hk
  .exact wpAny_Name (wpAny_loadName_cell I.ok.kind hk j a b) f
  .exact wpAny_Name (wpAny_loadName_free I.ok.kind hk j a b g) f
theorem B7{i j pos}:PE X (.Constant (.int i) j pos) (tC (.int i)):=fun _ _ _ H _ I h=>wpAny_Constant_int ⟨.int i,H,I.tok _,⟨_,rfl⟩,h⟩
theorem Hi{b j pos}:PE X (.Constant (.bool b) j pos) (tC (.bl b)):=fun _ _ _ H _ I h=>Constant_bool ⟨.bl b,H,I,rfl,h⟩
theorem Bh{j pos}:PE X (.Constant .none j pos) (tC .non):=fun _ _ _ H _ I h=>Constant_none ⟨.non,H,I,rfl,h⟩
theorem W1{x j pos}:PE X (.Constant (.str x) j pos) (tC (.str x)):=fun _ _ _ H _ I h=>Calls.Constant_str ⟨.str x,H,I.tok _,⟨_,rfl⟩,h⟩
def Gl(X:Cx)(x:Str):Prop:=X.env.kindOf x=some .globalImplicit
theorem Ju{E:A3->A5->Prop}{a:A0 (A4×Obj)}{s:A5}{σ:St}{H:Hp}{x:Str}{u:A3}{pos:Pos}{Q:A3->A5->Prop}(I:Inv X a σ H s)(b:Gl X x)(c:X.mg x=some u)(h:Q u s)
  (d:(x ==("__debug__":Str))=false:=by decide):wpAny (model X.prog X.w) X.A (eval (.Name x pos) X.env) Q E s :=
 Calls.Name_function_global I.ok.kind b (Calls.loadGlobal_global (by rw[I.ok.glob];exact I.mod.glob.keeps I.bk) c h) d
theorem Z8{E:A3->A5->Prop}{a:A0 (A4×Obj)}{s:A5}{σ:St}{H:Hp}{x:Str}{u:A3}{pos:Pos}{Q:A3->A5->Prop}(I:Inv X a σ H s)(b:Gl X x)(c:X.mg x=none)(d:bootBuiltins x=some u)(h:Q u s)
  (e:x≠ "__name__":=by decide) (f:(x ==("__debug__":Str))=false:=by decide):wpAny (model X.prog X.w) X.A (eval (.Name x pos) X.env) Q E s:=by
 obtain⟨j,g,i⟩:=I.mod.blt;exact Calls.Name_function_global I.ok.kind b (Calls.loadGlobal_builtin (by rw[I.ok.glob];exact I.mod.glob.keeps I.bk) c (by rw[I.ok.blt];exact g.keeps I.bk) ((i x e).trans d) h) f
theorem Ke{x:Str}{v:V}{u:A3}{pos:Pos}(a:Gl X x)(b:X.mg x=some u)(r:RelV v u)(c:(x ==("__debug__":Str))=false:=by decide):PE X (.Name x pos) (tC v) :=
 fun _ _ _ H _ I h=>Ju I a b ⟨v,H,I,r,h⟩ c
theorem Xq{x:Str}{v:V}{u:A3}{pos:Pos}(a:Gl X x)(b:X.mg x=none)(c:bootBuiltins x=some u)(r:RelV v u)(d:x≠ "__name__":=by decide)(e:(x ==("__debug__":Str))=false:=by decide):PE X (.Name x pos) (tC v) :=
 fun _ _ _ H _ I h=>Z8 I a b c ⟨v,H,I,r,h⟩ d e
variable{a b:IH}{ta tb:TE}{pos:Pos}
def PC(X:Cx)(op:CmpOp)(a b:IH)(t:TE):Prop :=
 ∀(c:A0 (A4×Obj)) (s:A5) (σ:St) (H:Hp) (Q:VK),Inv X c σ H s->t σ H Q ->
  wpAny (model X.prog X.w) X.A (eval a X.env) (fun v s₁=>wpAny (model X.prog X.w) X.A (eval b X.env) (fun u s₂=>wpAny (model X.prog X.w) X.A (compareOp op v u) (EP X c σ Q) X.xe s₂) X.xe s₁) X.xe s
def tB(t:TE):TT:=fun σ H Q=>t σ H fun x a=>∃c,x = .bl c/\Q c a
theorem zCh{op:CmpOp}{t:TE}(h:PC X op a b t)(h1:behindInMarks op b=false:=by first | exact e _ (by decide) (by decide) | rfl):PT X (.Compare a [op] [b] pos) (tB t):=by
 intro f s σ H Q I g;refine wpAny_isTrue_Compare1 (IY (h f s σ H _ I g) fun v n h1=>IY h1 fun u o i=>IY i fun c p ⟨x,j,k,l,m⟩=>?_) h1;obtain⟨d,rfl,q⟩:=m;cases l;exact DG ⟨j,k,q⟩
theorem W0{e:IH}{t:TE}(h:PE X e t)(c:∀a,isTrue e X.env a =(do let v <-a;standAt e.pos;holding [v] (truthy v)):=by intro _;rfl):PT X e (tB t):=by
 intro b s σ H Q I f;refine isTrue_plain (IY (h b s σ H _ I f) fun v l ⟨x,g,i,j,k⟩=>?_) (c _);obtain⟨d,rfl,q⟩:=k;cases j;exact DG ⟨g,i,q⟩
variable{tA tB':TT}{rest:A0 IH}
def zGl(t u:TT):TT:=fun σ H Q=>t σ H fun c a=>if c=true then u σ a Q else Q false a
def tOr(t u:TT):TT:=fun σ H Q=>t σ H fun c a=>if c=true then Q true a else u σ a Q
def zGn(t:TT):TT:=fun σ H Q=>t σ H fun c a=>Q (!c) a
theorem Iw(d:PT X a tA):PW X (.BoolOp .And [a] pos) tA:=by
 intro f b s σ H Q I h;refine isTrue_and (IY (d b s σ H Q I h) fun c g e=>?_);cases c with
 | true=>exact isTrue_and_nil e
 | false=>exact e
theorem j4(d:PT X a tA):PW X (.BoolOp .Or [a] pos) tA:=by
 intro f b s σ H Q I h;refine isTrue_or (IY (d b s σ H Q I h) fun c g e=>?_);cases c with
 | false=>exact isTrue_or_nil e
 | true=>exact e
theorem Mn(i:PT X a tA)(j:PW X (.BoolOp .And (b::rest) pos) tB'):PW X (.BoolOp .And (a::b::rest) pos) (zGl tA tB'):=by
 intro k d s σ H Q I h;refine isTrue_and (IY (i d s σ H _ I h) fun c l ⟨e,f,g⟩=>?_);cases c with
 | true=>exact j k d l σ e Q f g
 | false=>exact⟨e,f,g⟩
theorem Ev(i:PT X a tA)(j:PW X (.BoolOp .Or (b::rest) pos) tB'):PW X (.BoolOp .Or (a::b::rest) pos) (tOr tA tB'):=by
 intro k d s σ H Q I h;refine isTrue_or (IY (i d s σ H _ I h) fun c l ⟨e,f,g⟩=>?_);cases c with
 | true=>exact⟨e,f,g⟩
 | false=>exact j k d l σ e Q f g
theorem U7(d:PT X a tA):PT X (.UnaryOp .Not a pos) (zGn tA):=by
 intro b s σ H Q I h;exact isTrue_not (d b s σ H (fun c e=>Q (!c) e) I h)
def zDo(ta tb:TE):TE:=fun σ H Q=>ta σ H fun x a=>∃c,x = .bl c/\if c=true then tb σ a Q else Q (.bl false) a
theorem Lu{op}{t:TE}(h:PE X a t):PE X (.BoolOp op [a] pos) t:=fun b s σ H Q I c=>BoolOp_one (h b s σ H Q I c)
theorem Gp(i:PE X a ta)(j:PE X (.BoolOp .And (b::rest) pos) tb):PE X (.BoolOp .And (a::b::rest) pos) (zDo ta tb):=by
 intro d s σ H Q I h;refine BoolOp_and (IY (i d s σ H _ I h) fun v k ⟨x,f,g,l,e⟩=>?_);obtain⟨c,rfl,e⟩:=e;cases l;refine DG ?_;cases c with
 | true=>exact j d k σ f Q g e
 | false=>exact⟨.bl false,f,g,rfl,e⟩
def tIf(t:TT)(ta tb:TE):TE:=fun σ H Q=>t σ H fun c a=>if c=true then ta σ a Q else tb σ a Q
theorem Ul{c:IH}(k:PT X c tA)(l:PE X a ta)(m:PE X b tb):PE X (.IfExp c a b pos) (tIf tA ta tb):=by
 intro e s σ H Q I h;refine wpAny_IfExp (IY (k e s σ H _ I h) fun d f ⟨g,i,j⟩=>?_);cases d with
 | true=>exact l e f σ g Q i j
 | false=>exact m e f σ g Q i j
end
def IG(K:PySem.W.Frag)(H:Hp)(a:A4)(xs:A0 V):Prop :=
 Rd H a (.lst xs) \/
  ∃(o:Obj) (b:CM A3) (n:Nat),K.lookup a=some o/\o.cls = .type "list"/\o.dict=none/\o.data = .seq b n/\b.size<=sizeLine/\IK xs b.toList
def JM(K:PySem.W.Frag)(H:Hp)(a:A4)(xs:A0 V):Prop :=
 Rd H a (.tup xs) \/
  ∃(o:Obj) (b:CM A3) (n:Nat),K.lookup a=some o/\o.cls = .type "tuple"/\o.data = .seq b n/\b.size<=sizeLine/\IK xs b.toList
def zGp:A3->A6 V
 | .none=>some .non
 | .bool b=>some (.bl b)
 | .int i _=>some (.int i)
 | .str x _=>some (.str x)
 | .bytes b _=>some (.byt b)
 | .float b _=>some (.flt b)
 | .ref a=>some (.ref a)
 | .type n=>some (.ty n)
 | _=>none
def RelV.abs{x:V}{u:A3}(r:RelV x u):zGp u=some x:=by
 cases x with
 | non=>cases r;rfl
 | bl _=>cases r;rfl
 | int _=>obtain⟨t,rfl⟩:=r;rfl
 | str _=>obtain⟨t,rfl⟩:=r;rfl
 | byt _=>obtain⟨t,rfl⟩:=r;rfl
 | flt _=>obtain⟨t,rfl⟩:=r;rfl
 | ref _=>cases r;rfl
 | ty _=>cases r;rfl
def RelV.inj{x y:V}{u:A3}(r:RelV x u)(q:RelV y u):x=y:=BG (r.abs.symm.trans q.abs)
def IK.inj:∀{xs a:A0 V} {us:A0 A3},IK xs us->IK a us->xs=a
 | _,_,_,.nil,.nil=>rfl
 | _,_,_,.cons r t,.cons b c=>by rw[r.inj b,IK.inj t c]
section
variable{X:Cx}{pins:A0 (A4×Obj)}{σ:St}{H:Hp}{s:A5}{a:A4}{xs ys:A0 V}
theorem IG.of{K:PySem.W.Frag}(h:H a=some (.lst xs)):IG K H a xs:=.inl (.inl h)
theorem JM.of{K:PySem.W.Frag}(h:H a=some (.tup xs)):JM K H a xs:=.inl (.inl h)
theorem Inv.list(I:Inv X pins σ H s)(h:IG X.K H a xs):∃its:A0 A3,IK xs its/\PlainL s.heap a its.toArray/\xs.length<=sizeLine:=by
 rcases h with h | ⟨o,its,n,b,c,d,f,g,r⟩
 .obtain⟨z,its,n,r,e⟩:=h.ok I.hok;exact⟨its,r,⟨_,n,e,rfl,rfl,rfl⟩,z⟩
 .refine⟨its.toList,r,⟨o,n,I.kIn a o b,c,d,by simpa using f⟩,?_⟩;have e:=r.length;simp only[AL]at e;omega
theorem Inv.tuple(I:Inv X pins σ H s)(h:JM X.K H a xs):∃its:A0 A3,IK xs its/\IsTup s.heap a its.toArray/\xs.length<=sizeLine:=by
 rcases h with h | ⟨o,its,n,b,c,d,f,r⟩
 .obtain⟨z,its,r,p⟩:=h.ok I.hok;exact⟨its,r,p,z⟩
 .refine⟨its.toList,r,⟨o,I.kIn a o b,c,n,by simpa using d⟩,?_⟩;have e:=r.length;simp only[AL]at e;omega
theorem Inv.list_inj(I:Inv X pins σ H s)(h:IG X.K H a xs)(h':IG X.K H a ys):xs=ys:=by
 obtain⟨c,r,⟨o,n,e,_,_,d⟩,_⟩:=I.list h;obtain⟨b,i,⟨k,l,f,_,_,g⟩,_⟩:=I.list h';rw[e]at f;cases f;rw[d]at g;injection g with j _;have:c=b:=by simpa using congrArg Array.toList j
 subst this;exact r.inj i
theorem Inv.tuple_inj(I:Inv X pins σ H s)(h:JM X.K H a xs)(h':JM X.K H a ys):xs=ys:=by
 obtain⟨c,r,⟨o,e,_,n,d⟩,_⟩:=I.tuple h;obtain⟨b,i,⟨k,f,_,l,g⟩,_⟩:=I.tuple h';rw[e]at f;cases f;rw[d]at g;injection g with j _;have:c=b:=by simpa using congrArg Array.toList j
 subst this;exact r.inj i
end
abbrev Cx.wish(X:Cx)(E:A3->A5->Prop):Cx:={ X with xe:=E }
abbrev Cx.nox(X:Cx):Cx:=X.wish fun _ _=>False
def Cx.Ok.wish{X:Cx}(a:X.Ok)(E:A3->A5->Prop):(X.wish E).Ok :=
 ⟨a.mod,a.kind,a.glob,a.blt,a.above,a.inj,a.has,a.cab,a.hd,a.frames,a.stk,a.exf,a.bs,a.bsz,a.noex,a.exfs,a.funs,a.frf⟩
def Cx.Ok.unwish{X:Cx}{E:A3->A5->Prop}(a:(X.wish E).Ok):X.Ok :=
 ⟨a.mod,a.kind,a.glob,a.blt,a.above,a.inj,a.has,a.cab,a.hd,a.frames,a.stk,a.exf,a.bs,a.bsz,a.noex,a.exfs,a.funs,a.frf⟩
section
variable{X:Cx}{pins:A0 (A4×Obj)}{σ:St}{H:Hp}{s:A5}{E:A3->A5->Prop}
theorem Inv.wish(I:Inv X pins σ H s)(E:A3->A5->Prop):Inv (X.wish E) pins σ H s:=⟨I.ok.wish E,I.os,I.bare,I.base,I.loc,I.cell,I.free,I.freeC,I.pin,I.hok,I.len⟩
theorem Inv.unwish(I:Inv (X.wish E) pins σ H s):Inv X pins σ H s:=⟨I.ok.unwish,I.os,I.bare,I.base,I.loc,I.cell,I.free,I.freeC,I.pin,I.hok,I.len⟩
theorem SP.unwish{D:Ends}{f:Flow}{b:A5}(h:SP (X.wish E) pins D f b):SP X pins D f b:=by
 cases f with
 | next=>obtain⟨σ',a,I,q⟩:=h;exact⟨σ',a,I.unwish,q⟩
 | brk=>obtain⟨σ',a,I,q⟩:=h;exact⟨σ',a,I.unwish,q⟩
 | cont=>obtain⟨σ',a,I,q⟩:=h;exact⟨σ',a,I.unwish,q⟩
 | ret u=>obtain⟨v,σ',a,I,r,q⟩:=h;exact⟨v,σ',a,I.unwish,r,q⟩
theorem OS.nox{st:A0 IS}{t:TS}(h:OS X.nox st t):OS X st t:=fun pins s σ H D I a =>
 CK (h pins s σ H D (I.wish _) a) (fun _ _ q=>q.unwish) fun _ _ z=>False.elim z
end
section
variable{X:Cx}{st:IS}{rest:A0 IS}{t u:TS}{e:IH}{te:TE}{pos:Pos}
def zEo:TS:=fun D σ H=>D.nx σ H
def RG(t u:TS):TS:=fun D σ H=>t { D with nx:=u D } σ H
theorem C8:OS X [] zEo:=fun _ _ σ H _ I h=>wpAny_execs_nil ⟨σ,H,I,h⟩
theorem B4(h1:PS X st t)(h2:OS X rest u):OS X (st::rest) (RG t u):=by
 intro a s σ H D I h;refine wpAny_execs_cons (IY (h1 a s σ H { D with nx:=u D } I h) fun f b q=>?_);cases f with
 | next =>
  obtain⟨σ',c,d,q⟩:=q;exact h2 a b σ' c D d q
 | ret v=>exact q
 | brk=>exact q
 | cont=>exact q
theorem B5(h1:PS X st t):OS X [st] t:=by
 intro a s σ H D I h;refine wpAny_execs_cons (IY (h1 a s σ H D I h) fun f b q=>?_);cases f with
 | next=>exact wpAny_execs_nil q
 | ret v=>exact q
 | brk=>exact q
 | cont=>exact q
theorem Inv.quiet{a:A0 (A4×Obj)}{σ:St}{H:Hp}{s:A5}(I:Inv X a σ H s):interactive X.env=false:=by simp[interactive,I.ok.kind]
def zEa(te:TE):TS:=fun D σ H=>te σ H fun _ a=>D.nx σ a
theorem J7(b:PE X e te)(c:swapsWith e none pos.line X.env=pure false:=by rfl):PS X (.Expr e pos) (zEa te):=by
 intro a s σ H D I h;exact wpAny_Expr_any (IY (b a s σ H _ I h) fun v i ⟨x,d,f,j,g⟩=>⟨σ,d,f,g⟩) I.quiet c
def zFk(te:TE):TS:=fun D σ H=>te σ H D.rt
theorem C2(b:PE X e te):PS X (.Return (some e) pos) (zFk te):=by
 intro a s σ H D I h;exact wpAny_Return_some (IY (b a s σ H _ I h) fun v i ⟨x,c,d,f,g⟩=>⟨x,σ,c,d,f,g⟩)
def zFr(c:TT)(t u:TS):TS:=fun D σ H=>c σ H fun b a=>if b=true then t D σ a else u D σ a
theorem K3{c:IH}{a b:A0 IS}{f:TT}(l:PT X c f)(m:OS X a t)(n:OS X b u):PS X (.If c a b pos) (zFr f t u):=by
 intro e s σ H D I h;refine wpAny_If (IY (l e s σ H _ I h) fun d g ⟨i,j,k⟩=>?_);cases d with
 | true=>exact m e g σ i D j k
 | false=>exact n e g σ i D j k
def zBt:TS:=fun _ _ _=>False
theorem Fi:PS X st zBt:=fun _ _ _ _ _ _ h=>h.elim
end
abbrev TG:=V->St->Hp->(St->Hp->Prop)->Prop
abbrev QM:=A0 V->St->Hp->(St->Hp->Prop)->Prop
def PG(X:Cx)(a:IH)(t:TG):Prop :=
 ∀(b:A0 (A4×Obj)) (s:A5) (σ:St) (H:Hp) (v:V) (u:A3) (Q:St->Hp->Prop),Inv X b σ H s->RelV v u->t v σ H Q ->
  wpAny (model X.prog X.w) X.A (assign a X.env u) (fun _ d=>∃σ' c,Inv X b σ' c d/\Q σ' c) X.xe s
def RQ(X:Cx)(ts:A0 IH)(t:QM):Prop :=
 ∀(a:A0 (A4×Obj)) (s:A5) (σ:St) (H:Hp) (b:A0 V) (c:A0 A3) (Q:St->Hp->Prop),Inv X a σ H s->IK b c->t b σ H Q ->
  wpAny (model X.prog X.w) X.A (assignInOrder ((assignEach ts X.env).map (·.2)) c) (fun _ e=>∃σ' d,Inv X a σ' d e/\Q σ' d) X.xe s
abbrev LV:=V->V->V->Hp->(Hp->Prop)->Prop
def zFj(X:Cx)(t:LV):Prop :=
 ∀(a:A0 (A4×Obj)) (s:A5) (σ:St) (H:Hp) (o i v:V) (b c u:A3) (Q:Hp->Prop),Inv X a σ H s->RelV o b->RelV i c->RelV v u->t o i v H Q ->
  wpAny (model X.prog X.w) X.A (setItem b c u) (fun _ e=>∃d,Inv X a σ d e/\Q d) X.xe s
abbrev TIp:=V->V->Hp->VK->Prop
def PIp(X:Cx)(op:Operator)(t:TIp):Prop :=
 ∀(a:A0 (A4×Obj)) (s:A5) (σ:St) (H:Hp) (x y:V) (v u:A3) (Q:VK),Inv X a σ H s->RelV x v->RelV y u->t x y H Q ->
  wpAny (model X.prog X.w) X.A (inplaceOp op v u) (EP X a σ Q) X.xe s
section
variable{X:Cx}{pos:Pos}
def V7(i:Nat):TG:=fun v σ H Q=>Q (σ.set i (some v)) H
theorem D4{i:Nat}{x:Str}(b:X.N.Nodup)(hi:X.N[i]?=some x)(c:Loc X.env.scope x)(d:X.fn x=true\/X.env.scope.names.lookup x=some .local:=by first | exact .inl rfl | exact .inr rfl | assumption):PG X (.Name x pos) (V7 i):=by
 intro a s σ H v u Q I r h;exact wpAny_assign_Name (i5 I b hi c r (fun f e=>⟨_,H,e,h⟩) d)
def zFe:QM:=fun a σ H Q=>a = []/\Q σ H
def Zf(t:TG)(u:QM):QM:=fun a σ H Q=>∃v r,a=v::r/\t v σ H fun σ' b=>u r σ' b Q
theorem S4:RQ X [] zFe:=by
 intro a s σ H b c Q I r h;obtain⟨e,h⟩:=h;subst e;cases r;exact assignInOrder_nil ⟨σ,H,I,h⟩
theorem E2{e:IH}{b:A0 IH}{t:TG}{u:QM}(h1:PG X e t)(h2:RQ X b u)
  (c:(assignEach (e::b) X.env).map (·.2)=assign e X.env ::(assignEach b X.env).map (·.2):=by rfl):RQ X (e::b) (Zf t u):=by
 intro a s σ H l m Q I r h;obtain⟨v,n,d,h⟩:=h;subst d;cases r with
 | cons r f =>
  rw[c];refine assignInOrder_cons (IY (h1 a s σ H _ _ _ I r h) fun _ g ⟨σ1,i,j,k⟩=>?_);exact h2 a g σ1 i _ _ Q j f k
def zDu(K:PySem.W.Frag)(n:Nat)(t:QM):TG:=fun v σ H Q=>∃a b,v = .ref a/\JM K H a b/\b.length=n/\t b σ H Q
theorem Zu{d:A0 IH}{k:Nat}{t:QM}{n:Nat}(j:X.calm=true)(h:RQ X d t)
  (l:(assignEach d X.env).length=n:=by rfl) (f:(assignEach d X.env).findIdx? (·.1)=none:=by rfl):PG X (.Tuple d k pos) (zDu X.K n t):=by
 intro c s σ H v u Q I r g;obtain⟨a,m,p,q,w,g⟩:=g;subst p;cases r;obtain⟨x,i,y,C⟩:=I.tuple q;refine assign_Tuple_tuple (I.ok.hd j) y (by simp[l,<-w,i.length]) f fun z A=>?_;have B:Inv X c σ H { s with heap:=z }:=I.kept (t':=s.toks) fun b o e=>A b o (BA (AI e)) e;exact h c _ σ H m _ Q B (by simpa using i) g
def zGf(a b:TE)(t:LV):TG:=fun v σ H Q=>a σ H fun o c=>b σ c fun i d=>t o i v d fun e=>Q σ e
theorem Lw{o i:IH}{d e:TE}{t:LV}(f:PE X o d)(hi:PE X i e)(g:zFj X t)
  (j:∀v,assign (.Subscript o i pos) X.env v =(do
   let b <-holding [v] (eval o X.env)
   let c <-holding [v,b] (eval i X.env)
   standAt pos
   holding [v,b,c] (setItem b c v)
   release [v,b,c] []):=by intro _;rfl):PG X (.Subscript o i pos) (zGf d e t):=by
 intro a s σ H v u Q I r h;rw[j];refine AA (BS (IY (f a s σ H _ I h) fun b k ⟨x,l,m,n,p⟩=>?_));refine AA (BS (IY (hi a k σ l _ m p) fun c q ⟨y,w,z,A,B⟩=>?_));refine AA (GI (AA (BS (IY (g a q σ w x y v b c u _ z n A r B) fun _ F ⟨C,D,E⟩=>?_))));exact wpAny_release ⟨σ,C,D,E⟩
def zDa(a:TE)(g:TG):TS:=fun D σ H=>a σ H fun x b=>g x σ b D.nx
theorem Cv{tg e:IH}{b:TE}{g:TG}(c:PE X e b)(d:PG X tg g)(f:swapsWithSole [tg] e pos.line X.env=pure false:=by rfl)(hw:swappedStores [tg] e X.env=pure none:=by rfl)
  (h1:(assignEach [tg] X.env).map (·.2) = [assign tg X.env]:=by rfl):PS X (.Assign [tg] e pos) (zDa b g):=by
 intro a s σ H D I h;refine wpAny_Assign_stores (IY (c a s σ H _ I h) fun v i ⟨x,j,k,l,m⟩=>?_) f hw;rw[h1];exact IY (d a i σ j x v _ k l m) fun _ n q=>q
theorem C5{i:Nat}{x:Str}{e:IH}{c:TE}{a:Pos}(d:X.N.Nodup)(hi:X.N[i]?=some x)(f:Loc X.env.scope x)(g:PE X e c)(j:swapsWith e (some (.Name x a)) pos.line X.env=pure false:=by rfl)(k:X.fn x=true\/X.env.scope.names.lookup x=some .local:=by first | exact .inl rfl | exact .inr rfl | assumption) :
  PS X (.Assign [.Name x a] e pos) (zDa c (V7 i)):=by
 intro b s σ H D I h;refine wpAny_Assign_Name (IY (g b s σ H _ I h) fun v q ⟨y,l,m,n,o⟩=>?_) j;exact i5 m d hi f n (fun r p=>⟨_,l,p,o⟩) k
def zFv(i j:Nat)(a:TA):TS:=fun D σ H=>a σ H fun b c=>∃v w,b = [v,w]/\D.nx ((σ.set i (some v)).set j (some w)) c
theorem Vq{i j:Nat}{x y:Str}{a b:IH}{C:TA}{k l m:Pos}{n r d}(L:X.calm=true)(E:X.N.Nodup)(hi:X.N[i]?=some x)(M:X.N[j]?=some y)(t:i≠j)
  (F:X.env.scope.names.lookup x=some .local) (G:X.env.scope.names.lookup y=some .local) (O:PA X [a,b] C)
  (hw:swappedStores [.Tuple [.Name x k,.Name y l] n m] (.Tuple [a,b] r d) X.env=pure (some [x,y]))
  (P:swapsWithSole [.Tuple [.Name x k,.Name y l] n m] (.Tuple [a,b] r d) pos.line X.env=pure false:=by rfl) :
  PS X (.Assign [.Tuple [.Name x k,.Name y l] n m] (.Tuple [a,b] r d) pos) (zFv i j C):=by
 intro c s σ H D I h;rw[exec_Assign_arm];refine AA (GI ?_);rw[P];refine AA (AE ?_);rw[AJ (by decide)];refine AA (Tuple_ (IY (O _ c s σ H _ I h) fun Q s1 ⟨vs,J,R,S,u⟩=>?_));obtain⟨v,w,T,u⟩:=u;subst T;obtain⟨f,g,rfl,U,z⟩:∃f g,Q = [f,g]/\RelV v f/\RelV w g:=by
  cases S with
  | cons p q =>
   cases q with
   | cons V W =>
    cases W;exact⟨_,_,rfl,p,V⟩
 refine DW ?_ (by show 2<=sizeLine;decide);have Y:Inv X c σ J { s1 with heap:=s1.heap.push { cls:=.type "tuple",data:=.seq [f,g].toArray } }:=R.kept (t':=s1.toks) fun b o e=>AD _ e;rw[hw];refine AA (AE ?_);show wpAny (model X.prog X.w) X.A (do rule "assign.swapped-stores";let items <-unpackItems (.ref s1.heap.objs.size) 2 none;assignInOrder [fun v=>bindName X.env y v,fun v=>bindName X.env x v] items.reverse;pure Flow.next) _ _ _;refine AA (EO (AA (unpackItems_tuple (items:=#[f,g]) (I.ok.hd L) (IsTup.new s1.heap _) fun h' B=>?_)));have Z:=Y.kept (h':=h') (t':=s1.toks) fun b o e=>B b o (BA (AI e)) e;show wpAny _ _ (assignInOrder [fun v=>bindName X.env y v,fun v=>bindName X.env x v] [g,f] >>= fun _=>pure Flow.next) _ _ _;refine AA (assignInOrder_cons (wpAny_bindName (i5 Z E M (.inl G) z (fun s2 I4=>?_) (.inr G))));refine assignInOrder_cons (wpAny_bindName (i5 I4 E hi (.inl F) U (fun s3 K=>assignInOrder_nil (AE ?_)) (.inr F)));rw[List.set_comm _ _ (Ne.symm t)]at K;exact⟨_,J,K,u⟩
def zGc(i:Nat)(a:TE)(b:TIp):TS:=fun D σ H=>∃x,σ[i]?=some (some x)/\a σ H fun y c=>b x y c fun z d=>D.nx (σ.set i (some z)) d
theorem zCf{i:Nat}{x:Str}{e:IH}{j:TE}{op:Operator}{n:TIp}{d:Pos}(o:X.N.Nodup)(hi:X.N[i]?=some x)(f:Loc X.env.scope x)(p:PE X e j)(q:PIp X op n)(t:X.fn x=true\/X.env.scope.names.lookup x=some .local:=by first | exact .inl rfl | exact .inr rfl | assumption) :
  PS X (.AugAssign (.Name x d) op e pos) (zGc i j n):=by
 intro a s σ H D I h;obtain⟨v,B,h⟩:=h;obtain⟨m,C,E⟩:=I.loc;have g:RP X.env.scope x:=by rcases f with k | k;exact .inl k;exact .inr (.inl k)
 obtain⟨u,r,l⟩:=E i x v hi B g;refine wpAny_AugAssign_Name ?_;have go:wpAny (model X.prog X.w) X.A (eval e X.env) (fun w s₂=>wpAny (model X.prog X.w) X.A (inplaceOp op u w) (fun r s₃=>wpAny (model X.prog X.w) X.A (storeName X.env x r) (fun _=>SP X a D .next) X.xe s₃) X.xe s₂) X.xe s:=by
  refine IY (p a s σ H _ I h) fun w F ⟨y,G,J,K,L⟩=>?_;refine IY (q a F σ G v y u w _ J r K L) fun z U ⟨V,M,O,P,Q⟩=>?_;exact i5 O o hi f P (fun W R=>⟨_,M,R,Q⟩) t
 rcases l with⟨hk,S⟩ | ⟨hk,c,T,b⟩
 .exact wpAny_loadName_local I.ok.kind hk C S go
 .rcases hk with hk | hk
  .exact wpAny_loadName_cell I.ok.kind hk T b go
  .rcases f with k | k
   .have:X.env.scope.names.lookup x=some .free:=hk;rw[k]at this;cases this
   .have:X.env.scope.names.lookup x=some .free:=hk;rw[k]at this;cases this
def ipI(f:Int->Int->Int):TIp:=fun x y H Q=>∃i j,x = .int i/\y = .int j/\Q (.int (f i j)) H
def zAo(c:TT)(f:TS):TS:=fun D σ H=>∃W:Nat->St->Hp->Prop,(∃m,W m σ H)/\∀m σ H,W m σ H ->
 c σ H fun b a=>if b=true then ∃N:St->Hp->Prop,(∀σ' d,N σ' d->∃e,e < m/\W e σ' d)/\f { D with nx:=N,ct:=N,bk:=D.nx } σ a else D.nx σ a
theorem Uf{c:IH}{d:A0 IS}{q:TT}{r:TS}(t:PassesOwn (model X.prog X.w) X.A X.env X.xe)(C:PT X c q)(E:OS X d r):PS X (.While c d [] pos) (zAo q r):=by
 intro a s σ H D I h;obtain⟨W,⟨F,G⟩,e⟩:=h;refine wpAny_While (codeAny_whileLoop (fun n J=>∃σ' u,Inv X a σ' u J/\W n σ' u) ?_ F ⟨σ,H,I,G⟩);rintro n K ⟨σ1,x,L,M⟩;refine FG t (IY (C a K σ1 x _ L (e n σ1 x M)) fun b O ⟨y,z,i⟩=>?_);cases b with
 | true =>
  obtain⟨N,B,i⟩:=i;rw[AK rfl];refine FG t (IY (E a O σ1 y _ z i) fun f P j=>?_);cases f with
  | next =>
   obtain⟨σ3,g,k,l⟩:=j;obtain⟨m,o,p⟩:=B σ3 g l;exact⟨m,o,σ3,g,k,p⟩
  | cont =>
   obtain⟨σ3,g,k,l⟩:=j;obtain⟨m,o,p⟩:=B σ3 g l;exact⟨m,o,σ3,g,k,p⟩
  | brk=>exact j
  | ret v=>exact j
 | false =>
  rw[AJ AZ];exact wpAny_execs_nil ⟨σ1,y,z,i⟩
end
structure It where
 go:Nat->Hp->Prop
 yld:Nat->Hp->V->Hp->Prop
 stop:Nat->Hp->Prop
def Fl(X:Cx)(a:A0 (A4×Obj))(H:Hp)(b:A4):Prop :=
 H b=none/\b≠X.env.locals/\b∉X.fs/\(b∈X.ex\/X.s₀.heap.objs.size<=b)/\(∀x c,X.env.cells.lookup x=some c->c≠b)/\∀p∈X.pn++a,p.1≠b
def Inv.fpOk{X:Cx}{a:A0 (A4×Obj)}{σ:St}{H H':Hp}{s:A5}{b:A4}(I:Inv X a σ H s)(d:s.heap.objs.size<=b)(f:H' b=none):Fl X a H' b:=by
 refine⟨f,Nat.ne_of_gt (BE I.lt d),I.nofs d,.inr (Nat.le_trans I.sz d),fun x c e z=>?_,fun p g z=>?_⟩
 .obtain⟨v,q⟩:=I.cell x c e;exact absurd (BE q.lt (by rw[z];exact d)) (CQ _)
 .exact absurd (BE (AI (I.pin p g).1) (by rw[z];exact d)) (CQ _)
structure MO(P:F8)(w:H_)(K:PySem.W.Frag)(tg:IH)(J:It)(fp:A0 A4)(it:A4)(tn:Nat->IA->Prop):Prop where
 mem:it∈fp
 obj:∀i h,tn i h->∀b∈fp,∃o,h.get? b=some o/\∀v,o.data≠ .cell v
 keep:∀i h h',tn i h->(∀b∈fp,∀o,h.get? b=some o->h'.get? b=some o)->tn i h'
 item:∀(X:Cx),X.prog=P->X.w=w->X.K=K->X.calm=true->∀(i:Nat) (pins:A0 (A4×Obj)) (s:A5) (σ:St) (H:Hp) (E:A3->A5->Prop),Inv X pins σ H s->(∀b∈fp,Fl X pins H b)->tn i s.heap->J.go i H ->
  wpAny (model P w) X.A (pyNext (.ref it)) (fun r s1=>∃u,r=some u /\
   wpAny (model P w) X.A (letOwnedTupleGo tg (.ref it) u) (fun _ s2=>∃x H',Inv X pins σ H' s2/\RelV x u/\J.yld i H x H'/\tn (i+1) s2.heap/\∀b∈fp,H' b=none) E s1) E s
 done:∀(X:Cx),X.prog=P->X.w=w->X.K=K->X.calm=true->∀(i:Nat) (pins:A0 (A4×Obj)) (s:A5) (σ:St) (H:Hp) (E:A3->A5->Prop),Inv X pins σ H s->(∀b∈fp,Fl X pins H b)->tn i s.heap->J.stop i H ->
  wpAny (model P w) X.A (pyNext (.ref it)) (fun r s1=>r=none/\Inv X pins σ H s1) E s
 self:∀(A:II) (i:Nat) (s:A5) (Q:A3->A5->Prop) (E:A3->A5->Prop),tn i s.heap->Q (.ref it) s->wpAny (model P w) A (pyIter (.ref it)) Q E s
abbrev TI:=St->Hp->(It->Hp->Prop)->Prop
def PIE(X:Cx)(a:A0 (A4×Obj))(σ:St)(tg:IH)(R:It->Hp->Prop)(c:A3)(e:A5):Prop :=
 ∃(f:A4) (g:A0 A4) (h:Nat->IA->Prop) (J:It) (d:Hp),c = .ref f/\Inv X a σ d e/\MO X.prog X.w X.K tg J g f h/\h 0 e.heap/\(∀b∈g,Fl X a d b)/\R J d
def PI(X:Cx)(tg iter:IH)(b:TI):Prop :=
 ∀(a:A0 (A4×Obj)) (s:A5) (σ:St) (H:Hp) (R:It->Hp->Prop),Inv X a σ H s->b σ H R ->
  wpAny (model X.prog X.w) X.A (eval iter X.env) (fun v c=>wpAny (model X.prog X.w) X.A (pyIter v) (PIE X a σ tg R) X.xe c) X.xe s
def Nb{M:Model}{A:II}{E:A3->A5->Prop}{s:A5}{tg:IH}{b:A4}{u:A3}{o:Obj}{n:String}{vs:CM A3}{Q:Unit->A5->Prop}(c:s.heap.get? b=some o)(d:o.cls = .type n)(e:o.data = .fields vs)
    (f:["enumerate", "zip", "dict_itemiterator", "dict_reverseitemiterator", "odict_iterator", "itertools.zip_longest", "itertools.pairwise"].contains n=false) (a:Q () s):wpAny M A (letOwnedTupleGo tg (.ref b) u) Q E s:=by
  unfold letOwnedTupleGo;cases tg<;>first
    | exact AE a
    | (cases u<;>first
        | exact AE a
        | (refine AA (wpAny_load c ?_)
           rw[d,e];show wpAny M A (if(["enumerate", "zip", "dict_itemiterator", "dict_reverseitemiterator", "odict_iterator", "itertools.zip_longest", "itertools.pairwise"].contains n&&vs[0]? == some (rawInt _))=true then _ else _) Q E s;rw[AJ (by intro h;rw[f,EE]at h;cases h)];exact AE a))
def RD(K:PySem.W.Frag)(a:A4):It :=
 ⟨fun i H=>∃b x,IG K H a b/\b[i]?=some x,fun i H x c=>c=H/\∀b,IG K H a b->b[i]?=some x,fun i H=>∃b,IG K H a b/\b.length<=i⟩
def Itt(K:PySem.W.Frag)(a:A4):It :=
 ⟨fun i H=>∃b x,JM K H a b/\b[i]?=some x,fun i H x c=>c=H/\∀b,JM K H a b->b[i]?=some x,fun i H=>∃b,JM K H a b/\b.length<=i⟩
def QH(lo:Int)(n:Nat):It:=⟨fun i _=>i<n,fun i H x a=>a=H/\x = .int (lo+i),fun i _=>n<=i⟩
def Hs{P:F8}{w:H_}{K:PySem.W.Frag}{tg:IH}(a g:A4):MO P w K tg (RD K a) [g] g (fun i h=>h.IsListIter g a i) where
 mem:=by simp
 obj:=fun i h st b j=>by
  have e:b=g:=by simpa using j
  subst e;obtain⟨o,e,c,d⟩:=st;exact⟨o,e,fun v z=>by rw[d]at z;cases z⟩
 keep:=fun i h m st k=>st.at fun o e=>k g (by simp) o e
 item:=by
  intro X r t y N i f s σ H E I n st A;subst r t y;obtain⟨O,x,q,B⟩:=A;obtain⟨C,D,p,Q⟩:=I.list q;obtain⟨u,R,S⟩:=D.get B;obtain⟨F,G,T,J,L,M⟩:=n g (by simp);refine wpAny_pyNext_list_item st p.isList (x:=u) (by simpa using R) fun m l U=>?_;have V:Inv X f σ H { s with heap:=m }:=I.turned (t':=s.toks) (fun b o j e=>(U.2 b j).trans e) F G J L M;obtain⟨o,e,c,d⟩:=id l;exact⟨u,rfl,Nb (s:={ s with heap:=m }) e c d (by decide) ⟨x,H,V,S,⟨rfl,fun ys Y=>by rw[I.list_inj Y q];exact B⟩,l,fun b j=>(n b j).1⟩⟩
 done:=by
  intro X r t y N i f s σ H E I n st A;subst r t y;obtain⟨O,q,B⟩:=A;obtain⟨C,D,p,Q⟩:=I.list q;obtain⟨F,G,T,J,L,M⟩:=n g (by simp);have hl:=D.length;exact wpAny_pyNext_list_end (I.ok.hd N) st p.isList (by simp;omega) fun m Z=>⟨rfl,I.turned (t':=s.toks) (fun b o j e=>Z b o j e) F G J L M⟩
 self:=fun _ _ _ _ _ st h=>wpAny_pyIter_listiter st h
def Nc{P:F8}{w:H_}{K:PySem.W.Frag}{tg:IH}(a g:A4):MO P w K tg (Itt K a) [g] g (fun i h=>h.IsTupleIter g a i) where
 mem:=by simp
 obj:=fun i h st b j=>by
  have e:b=g:=by simpa using j
  subst e;obtain⟨o,e,c,d⟩:=st;exact⟨o,e,fun v z=>by rw[d]at z;cases z⟩
 keep:=fun i h n st k=>st.at fun o e=>k g (by simp) o e
 item:=by
  intro X t y A N i f s σ H E I q st B;subst t y A;obtain⟨O,x,r,C⟩:=B;obtain⟨l,D,p,Q⟩:=I.tuple r;obtain⟨u,R,S⟩:=D.get C;obtain⟨F,G,T,J,L,M⟩:=q g (by simp);refine wpAny_pyNext_tuple_item st (show s.heap.IsTuple a l.toArray from p) (x:=u) (by simpa using R) fun n m U=>?_;have V:Inv X f σ H { s with heap:=n }:=I.turned (t':=s.toks) (fun b o j e=>(U.2 b j).trans e) F G J L M;obtain⟨o,e,c,d⟩:=id m;exact⟨u,rfl,Nb (s:={ s with heap:=n }) e c d (by decide) ⟨x,H,V,S,⟨rfl,fun ys Y=>by rw[I.tuple_inj Y r];exact C⟩,m,fun b j=>(q b j).1⟩⟩
 done:=by
  intro X t y A N i f s σ H E I q st B;subst t y A;obtain⟨O,r,C⟩:=B;obtain⟨l,D,p,Q⟩:=I.tuple r;obtain⟨F,G,T,J,L,M⟩:=q g (by simp);have hl:=D.length;exact wpAny_pyNext_tuple_end (I.ok.hd N) st (show s.heap.IsTuple a l.toArray from p) (by simp;omega) fun n Z=>⟨rfl,I.turned (t':=s.toks) (fun b o j e=>Z b o j e) F G J L M⟩
 self:=fun _ _ _ _ _ st h=>wpAny_pyIter_tupleiter st h
def Nz{P:F8}{w:H_}{K:PySem.W.Frag}{tg:IH}(a:A4)(lo:Int)(n:Nat):MO P w K tg (QH lo n) [a] a (fun i h=>IsRangeIter h a (lo +(i:Nat)*1) ((n:Int)-(i:Nat)) 1) where
 mem:=by simp
 obj:=fun i h st b d=>by
  have e:b=a:=by simpa using d
  subst e;exact⟨_,st,fun v z=>by
   have D:Data.fields _=Data.cell v:=z;cases D⟩
 keep:=fun i h g st k=>k a (by simp) _ st
 item:=by
  intro X l m p q i c s σ H E I j st r;subst l m p;obtain⟨u,x,F,y,A,B⟩:=j a (by simp);have W:=Walks.range (prog:=X.prog) (w:=X.w) (I.ok.hd q) a lo 1 n;refine W.item i s _ _ r st fun v g C G f kk=>?_;obtain⟨t,rfl⟩:=G;have J:Inv X c σ H { s with heap:=g,toks:=C }:=I.turned (fun b o d e=>kk b o (by simpa using d) e) u x y A B;refine⟨_,rfl,Nb (s:={ s with heap:=g,toks:=C }) (n := "range_iterator") f rfl rfl (by decide) ⟨.int (lo+i),H,J,⟨t,?_⟩,⟨rfl,rfl⟩,f,fun b d=>(j b d).1⟩⟩;rw[Int.mul_one]
 done:=by
  intro X l m p q i c s σ H E I j st r;subst l m p;obtain⟨u,x,F,y,A,B⟩:=j a (by simp);exact wpAny_pyNext_range_end (I.ok.hd q) st (by have:n<=i:=r;omega) fun g L=>⟨rfl,I.turned (t':=s.toks) (fun b o d e=>L b o d e) u x y A B⟩
 self:=fun _ _ _ _ _ st h=>wpAny_pyIter_rangeiter st h
section
variable{X:Cx}{tg:IH}
def zAx(K:PySem.W.Frag)(c:TE):TI:=fun σ H R=>c σ H fun x b=>∃a,x = .ref a/\(∃d,IG K b a d)/\R (RD K a) b
theorem Xw{l:IH}{g:TE}(i:PE X l g):PI X tg l (zAx X.K g):=by
 intro c s σ H R I h;refine IY (i c s σ H _ I h) fun v d ⟨x,j,f,k,m⟩=>?_;obtain⟨a,e,⟨u,n⟩,q⟩:=m;subst e;cases k;obtain⟨r,w,p,y⟩:=f.list n;refine FO p.isList ?_;refine⟨d.heap.objs.size,[d.heap.objs.size],_,_,j,rfl,f.kept (t':=d.toks) fun b o e=>AD _ e,Hs a _,⟨_,AN _ rfl,rfl,rfl⟩,fun b t=>?_,q⟩;have e:b=d.heap.objs.size:=by simpa using t
 subst e;exact f.fpOk (Nat.le_refl _) (f.hok.fresh (Nat.le_refl _))
theorem Ur{a:A0 (A4×Obj)}{σ:St}{H:Hp}{s:A5}{R:It->Hp->Prop}{E:A3->A5->Prop}{lo hi:Int}{t u v:Tok}{c:Nat}(I:Inv X a σ H s)(h1:-(2^62)<=lo)(h2:lo<2^62)(f:-(2^62)<=hi)(g:hi<2^62)
  (q:R (QH lo (hi-lo).toNat) H):wpAny (model X.prog X.w) X.A (pyIter (.ref s.heap.objs.size)) (PIE X a σ tg R) E { s with heap:=s.heap.push { cls:=.type "range",data:=.fields #[.int lo t,.int hi u,.int 1 v] },toks:=c }:=by
 refine wpAny_pyIter_range (IsRange.new ..) (small_one h1 h2 f g) ?_;have d:Inv X a σ H { s with heap:=s.heap.push { cls:=.type "range",data:=.fields #[.int lo t,.int hi u,.int 1 v] },toks:=c }:=I.kept fun b o e=>AD _ e;refine⟨(s.heap.push { cls:=.type "range",data:=.fields #[.int lo t,.int hi u,.int 1 v] }).objs.size,[(s.heap.push { cls:=.type "range",data:=.fields #[.int lo t,.int hi u,.int 1 v] }).objs.size],_,_,H,rfl,
  d.kept (t':=c) fun b o e=>AD _ e,Nz _ lo (hi-lo).toNat,?_,fun b h=>?_,q⟩
 .have i:lo +((0:Nat):Int)*1=lo:=by simp
  have j:(((hi-lo).toNat:Nat):Int)-((0:Nat):Int)=Builtin.Range.rangeSize lo hi 1:=by rw[rangeSize_one];split<;>omega
  show IsRangeIter _ _ (lo +((0:Nat):Int)*1) ((((hi-lo).toNat:Nat):Int)-((0:Nat):Int)) 1;rw[i,j];exact AN _ rfl
 .have e:b =(s.heap.push { cls:=.type "range",data:=.fields #[.int lo t,.int hi u,.int 1 v] }).objs.size:=by simpa using h
  subst e;exact d.fpOk (Nat.le_refl _) (d.hok.fresh (Nat.le_refl _))
def zCo(a:TA):TI:=fun σ H R=>a σ H fun b c=>∃j:Int,b = [.int j]/\-(2^62)<=j/\j<2^62/\R (QH 0 j.toNat) c
theorem Sb{a:IH}{d:TA}{p pos:Pos}(f:Gl X "range")(g:X.mg "range" = none)(i:PA X [a] d)(k:starEach [a] X.env = [(false,eval a X.env)]:=by rfl):PI X tg (.Call (.Name "range" p) [a] [] pos) (zCo d):=by
 intro b s σ H R I h;refine Call_ (Z8 I f g boot_range (PyProof.Rows.callWith_type1 (IY (i pos b s σ H _ I h) fun u v ⟨w,x,l,m,c⟩=>?_) k rfl));obtain⟨j,e,c,n,q⟩:=c;subst e;cases m with
 | cons r o =>
  cases o;obtain⟨t,rfl⟩:=r;exact call_range_1 (Ur l (by omega) (by omega) c n (by simpa using q))
def zFz(c:TI)(g:TG)(d:TS):TS:=fun D σ H=>c σ H fun J e=>∃W:Nat->Nat->St->Hp->Prop,(∃m,W 0 m σ e)/\∀i m σ H,W i m σ H ->
 (J.stop i H/\D.nx σ H)\/(J.go i H/\∃N:St->Hp->Prop,(∀σ' a,N σ' a->∃b,b < m/\W (i+1) b σ' a)/\∀x a,J.yld i H x a->g x σ a fun σ2 f=>d { D with nx:=N,ct:=N,bk:=D.nx } σ2 f)
def Ho(fp:A0 A4)(h:IA):A0 (A4×Obj):=fp.filterMap fun b=>(h.get? b).map fun o=>(b,o)
theorem X3{fp:A0 A4}{h:IA}{b:A4}{o:Obj}(a:b∈fp)(e:h.get? b=some o):(b,o)∈Ho fp h:=List.mem_filterMap.mpr ⟨b,a,by rw[e];rfl⟩
theorem Qa{fp:A0 A4}{h:IA}{p:A4×Obj}(a:p∈Ho fp h):p.1∈fp/\h.get? p.1=some p.2:=by
 obtain⟨b,c,e⟩:=List.mem_filterMap.mp a;cases q:h.get? b with
 | none=>rw[q]at e;cases e
 | some o =>
  rw[q]at e;have d:(b,o)=p:=BG e;subst d;exact⟨c,q⟩
theorem Inv.pinned{a:A0 (A4×Obj)}{σ:St}{H:Hp}{s:A5}{fp:A0 A4}(I:Inv X a σ H s)(g:∀b∈fp,Fl X a H b)(h:∀b∈fp,∃o,s.heap.get? b=some o/\∀v,o.data≠ .cell v):Inv X (a++Ho fp s.heap) σ H s :=
 I.pins_of fun p i=>(A_.mp i).elim (fun z=>I.pin p (BI _ z)) fun z=>by
  obtain⟨c,e⟩:=Qa z;obtain⟨j,k,l,_⟩:=g p.1 c;obtain⟨o,f,d⟩:=h p.1 c;rw[e]at f;cases f;exact⟨e,j,k,l,d⟩
theorem Inv.unpinned{a pl:A0 (A4×Obj)}{σ:St}{H:Hp}{s:A5}(I:Inv X (a++pl) σ H s):Inv X a σ H s:=I.pins_of fun p b=>I.pin p (BI _ (EU _ b))
theorem O4{iter:IH}{q:A0 IS}{R:TI}{g:TG}{S:TS}{pos:Pos}(z:PassesOwn (model X.prog X.w) X.A X.env X.xe)(U:X.calm=true)(hi:PI X tg iter R)(hg:PG X tg g)(c:OS X q S)
  (hs:∀x,foldedSetIterable iter X.env x=pure x:=by intro _;rfl):PS X (.For tg iter q [] pos) (zFz R g S):=by
 intro a s σ H D I h;refine wpAny_For (IY (hi a s σ H _ I h) fun v s1 h1=>IY h1 fun itv s2 h2=>?_) hs;obtain⟨it,B,V,J,H2,e,I2,T,L,Y,W,⟨m0,w0⟩,C⟩:=h2;subst e;have j:∀{p:Hp},(∀b∈B,p b=none)->∀b∈B,Fl X a p b:=fun hn b c=>⟨hn b c,(Y b c).2⟩;refine codeAny_forLoop_any (fun n Z=>∃i σ' p,Inv X a σ' p Z/\V i Z.heap/\(∀b∈B,p b=none)/\W i n σ' p) ?_ m0 ⟨0,σ,H2,I2,L,fun b c=>(Y b c).1,w0⟩;rintro n s3 ⟨i,σ3,K,I3,E,F,w3⟩;rcases C i n σ3 K w3 with⟨stop,qn⟩ | ⟨go,N,hN,step⟩
 .refine FG z (IY (T.done X rfl rfl rfl U i a s3 σ3 K X.xe I3 (j F) E stop) fun r s4 ⟨M,I4⟩=>?_);subst M;exact wpAny_execs_nil ⟨σ3,K,I4,qn⟩
 .refine FG z (IY (T.item X rfl rfl rfl U i a s3 σ3 K X.xe I3 (j F) E go) fun r s4 ⟨u,M,h4⟩=>?_);subst M;refine FG z (IY h4 fun _ s5 ⟨x,H5,I5,r5,y5,y,O⟩=>?_);have P:=I5.pinned (j O) (T.obj _ _ y);refine FG z (IY (hg _ s5 σ3 H5 x u _ P r5 (step x H5 y5)) fun _ s6 ⟨σ6,H6,I6,q6⟩=>?_);refine FG z (IY (c _ s6 σ6 H6 _ I6 q6) fun f Q t=>?_);have again:∀{σ7:St} {k:Hp},Inv X (a++Ho B s5.heap) σ7 k Q->N σ7 k->∃m,m<n/\∃i σ' p,Inv X a σ' p Q/\V i Q.heap/\(∀b∈B,p b=none)/\W i m σ' p:=fun{σ7 k} l G=>by
   obtain⟨m',hm,w7⟩:=hN σ7 k G;refine⟨m',hm,i+1,σ7,k,l.unpinned,T.keep _ _ _ y fun b c o e=>(l.pin (b,o) (BI _ (BI _ (X3 c e)))).1,fun b c=>?_,w7⟩;obtain⟨o,e,d⟩:=T.obj _ _ y b c;exact(l.pin (b,o) (BI _ (BI _ (X3 c e)))).2.1
  cases f with
  | next=>obtain⟨σ7,k,l,G⟩:=t;exact again l G
  | cont=>obtain⟨σ7,k,l,G⟩:=t;exact again l G
  | brk=>obtain⟨σ7,k,l,t⟩:=t;exact⟨σ7,k,l.unpinned,t⟩
  | ret v=>obtain⟨x7,σ7,k,l,r7,t⟩:=t;exact⟨x7,σ7,k,l.unpinned,r7,t⟩
end
def Pj{lo:Int}{n:Nat}{g:TG}{c:TS}{D:Ends}{σ:St}{H:Hp}(Pv:Nat->St->Hp->Prop)(f:Pv 0 σ H)
  (h:∀i σ H,i<n->Pv i σ H->g (.int (lo+i)) σ H fun σ2 b=>c { D with nx:=Pv (i+1),ct:=Pv (i+1),bk:=D.nx } σ2 b) (j:∀σ H,Pv n σ H->D.nx σ H) :
  ∃W:Nat->Nat->St->Hp->Prop,(∃m,W 0 m σ H)/\∀i m σ H,W i m σ H ->
   ((QH lo n).stop i H/\D.nx σ H)\/((QH lo n).go i H/\∃N:St->Hp->Prop,(∀σ' H',N σ' H'->∃d,d < m/\W (i+1) d σ' H')/\∀x H',(QH lo n).yld i H x H'->g x σ H' fun σ2 b=>c { D with nx:=N,ct:=N,bk:=D.nx } σ2 b):=by
 refine⟨fun i m σ H=>m=n-i/\i<=n/\Pv i σ H,⟨n,by simp,CF _,f⟩,?_⟩;rintro i m σ H ⟨rfl,l,p⟩;by_cases a:i<n
 .refine .inr ⟨a,Pv (i+1),fun σ' H' k=>⟨n-(i+1),by omega,rfl,a,k⟩,fun x H' y=>?_⟩;obtain⟨e,y⟩:=y;subst e y;exact h i σ _ a p
 .have e:i=n:=by omega
  subst e;exact .inl ⟨Nat.le_refl _,j σ H p⟩
abbrev R2:=V->V->Hp->VK->Prop
def J_(X:Cx)(f:A3->A3->Sem A3)(r:R2):Prop :=
 ∀(a:A0 (A4×Obj)) (s:A5) (σ:St) (H:Hp) (x y:V) (v u:A3) (Q:VK),Inv X a σ H s->RelV x v->RelV y u->r x y H Q ->
  wpAny (model X.prog X.w) X.A (f v u) (EP X a σ Q) X.xe s
def UnR(X:Cx)(f:A3->Sem A3)(r:V->Hp->VK->Prop):Prop :=
 ∀(a:A0 (A4×Obj)) (s:A5) (σ:St) (H:Hp) (x:V) (v:A3) (Q:VK),Inv X a σ H s->RelV x v->r x H Q ->
  wpAny (model X.prog X.w) X.A (f v) (EP X a σ Q) X.xe s
def G9(X:Cx)(f:A3)(r:A0 V->Hp->VK->Prop):Prop :=
 ∀(a:A0 (A4×Obj)) (s:A5) (σ:St) (H:Hp) (b:A0 V) (c:A0 A3) (Q:VK),Inv X a σ H s->IK b c->r b H Q ->
  wpAny (model X.prog X.w) X.A (call f c) (EP X a σ Q) X.xe s
def zFx(X:Cx)(r:V->Hp->(Bool->Hp->Prop)->Prop):Prop :=
 ∀(a:A0 (A4×Obj)) (s:A5) (σ:St) (H:Hp) (x:V) (v:A3) (Q:Bool->Hp->Prop),Inv X a σ H s->RelV x v->r x H Q ->
  wpAny (model X.prog X.w) X.A (truthy v) (TP X a σ Q) X.xe s
def tOp(r:R2)(a b:TE):TE:=fun σ H Q=>a σ H fun x c=>b σ c fun y d=>r x y d Q
def tUn(r:V->Hp->VK->Prop)(a:TE):TE:=fun σ H Q=>a σ H fun x b=>r x b Q
def rI(C:Int->Int->Prop)(g:Int->Int->V):R2:=fun x y H Q=>∃i j,x = .int i/\y = .int j/\C i j/\Q (g i j) H
def PK(g:Int->Int->V):R2:=fun x y H Q=>∃i j,x = .int i/\y = .int j/\Q (g i j) H
def rU(g:Int->V):V->Hp->VK->Prop:=fun x H Q=>∃i,x = .int i/\Q (g i) H
section
variable{X:Cx}{a b c:IH}{ta tb tc:TE}{pos:Pos}
theorem zDp(i:PE X a ta)(j:PE X b tb){c:A0 (A4×Obj)}{s:A5}{σ:St}{H:Hp}{R:V->V->Hp->Prop}(I:Inv X c σ H s)
  (h:ta σ H fun x g=>tb σ g fun y d=>R x y d) {Q:A3->A5->Prop} {f:A3->A3->Sem A3}
  (k:∀v u e x y d,Inv X c σ d e->RelV x v->RelV y u->R x y d->wpAny (model X.prog X.w) X.A (f v u) Q X.xe e) :
  wpAny (model X.prog X.w) X.A (eval a X.env) (fun v s₁=>wpAny (model X.prog X.w) X.A (eval b X.env) (fun u s₂=>wpAny (model X.prog X.w) X.A (f v u) Q X.xe s₂) X.xe s₁) X.xe s:=by
 refine IY (i c s σ H _ I h) fun v l ⟨x,g,m,n,o⟩=>?_;refine IY (j c l σ g _ m o) fun u e ⟨y,d,p,q,r⟩=>?_;exact k v u e x y d p n q r
theorem C7{op:Operator}{r:R2}(d:J_ X (binaryOp op) r)(e:PE X a ta)(f:PE X b tb):PE X (.BinOp a op b pos) (tOp r ta tb):=by
 intro c s σ H Q I h;exact wpAny_BinOp (zDp e f I h fun v u g x y i j k l q=>d c g σ i x y v u Q j k l q)
theorem Jf{op:UnaryOp}{r:V->Hp->VK->Prop}(c:UnR X (unaryOp op) r)(d:PE X a ta):PE X (.UnaryOp op a pos) (tUn r ta):=by
 intro b s σ H Q I h;exact UnaryOp_ (IY (d b s σ H _ I h) fun v e ⟨x,f,g,i,j⟩=>c b e σ f x v Q g i j)
theorem Q_{f:A3->A3->Sem A3}{C:Int->Int->Prop}{g:Int->Int->Int}
  (rule:∀(i j:Int) (t u:Tok) (s:A5) (Q:A3->A5->Prop) (E:A3->A5->Prop),C i j->Q (.int (g i j) s.toks) { s with toks:=s.toks+1 }->wpAny (model X.prog X.w) X.A (f (.int i t) (.int j u)) Q E s) :
  J_ X f (rI C fun i j=>.int (g i j)):=by
 intro a s σ H x y v u Q I b c h;obtain⟨i,j,rfl,rfl,d,q⟩:=h;obtain⟨t,rfl⟩:=b;obtain⟨e,rfl⟩:=c;exact rule i j t e s _ _ d ⟨.int (g i j),H,I.tok _,⟨_,rfl⟩,q⟩
theorem RF{f:A3->A3->Sem A3}{g:Int->Int->Int}
  (rule:∀(i j:Int) (t u:Tok) (s:A5) (Q:A3->A5->Prop) (E:A3->A5->Prop),Q (.int (g i j) s.toks) { s with toks:=s.toks+1 }->wpAny (model X.prog X.w) X.A (f (.int i t) (.int j u)) Q E s) :
  J_ X f (PK fun i j=>.int (g i j)):=by
 intro a s σ H x y v u Q I b c h;obtain⟨i,j,rfl,rfl,q⟩:=h;obtain⟨t,rfl⟩:=b;obtain⟨d,rfl⟩:=c;exact rule i j t d s _ _ ⟨.int (g i j),H,I.tok _,⟨_,rfl⟩,q⟩
theorem zDb{f:A3->A3->Sem A3}{g:Int->Int->Bool}
  (rule:∀(i j:Int) (t u:Tok) (s:A5) (Q:A3->A5->Prop) (E:A3->A5->Prop),Q (.bool (g i j)) s->wpAny (model X.prog X.w) X.A (f (.int i t) (.int j u)) Q E s) :
  J_ X f (PK fun i j=>.bl (g i j)):=by
 intro a s σ H x y v u Q I b c h;obtain⟨i,j,rfl,rfl,q⟩:=h;obtain⟨t,rfl⟩:=b;obtain⟨d,rfl⟩:=c;exact rule i j t d s _ _ ⟨.bl (g i j),H,I,rfl,q⟩
def zFs(i j:Int):Prop:=0<j/\j<1073741824
def zFa(i j:Int):Prop:=0<=j/\j<=1000000/\i.natAbs<2^64
def QX(i j:Int):Prop:=(-(2^64)<i/\i<2^64)\/(-(2^64)<j/\j<2^64)
theorem QX.ok{i j:Int}(h:QX i j):IntMulOk i j:=by
 rcases h with⟨a,b⟩ | ⟨a,b⟩
 .exact .of_left (intBits_le_64 a b)
 .exact .of_right (intBits_le_64 a b)
theorem Nw(k:Nat):(0:Int)<=2^k:=by
 rw[two_pow_cast];exact Int.natCast_nonneg _
theorem u8:J_ X (binaryOp .Add) (PK fun i j=>.int (i+j)):=RF fun _ _ _ _ _ _ _ q=>add_int q
theorem zBs:J_ X (binaryOp .Sub) (PK fun i j=>.int (i-j)):=RF fun _ _ _ _ _ _ _ q=>sub_int q
theorem Dl:J_ X (binaryOp .Mult) (rI QX fun i j=>.int (i*j)):=Q_ fun _ _ _ _ _ _ _ a q=>mul_int q a.ok
theorem Pk:J_ X (binaryOp .FloorDiv) (rI zFs fun i j=>.int (i / j)):=Q_ fun i j _ _ _ _ _ a q=>by
 have b:(0:Int)<j:=a.1;have c:j<1073741824:=a.2;exact floordiv_int (by omega) (by rw[Int.fdiv_eq_ediv_of_nonneg i (by omega)];exact q) (.inl (PyProof.noPylong_small (by omega)))
theorem Gx:J_ X (binaryOp .Mod) (rI (fun _ j=>0<j) fun i j=>.int (i % j)):=Q_ fun i j _ _ _ _ _ a q=>by
 have b:(0:Int)<j:=a;exact mod_int' (by omega) (by rw[Int.fmod_eq_emod_of_nonneg i (by omega)];exact q)
theorem zCx:J_ X (binaryOp .Pow) (rI zFa fun i j=>.int (i^j.toNat)):=Q_ fun _ _ _ _ _ _ _ a q=>pow_int_small a.1 a.2.1 a.2.2 q
theorem Ay:J_ X (binaryOp .LShift) (rI zFa fun i j=>.int (i*2^j.toNat)):=Q_ fun _ _ _ _ _ _ _ a q=>lshift_int_small a.1 a.2.1 a.2.2 q
theorem Vy:J_ X (binaryOp .RShift) (rI (fun _ j=>0<=j) fun i j=>.int (i / 2^j.toNat)):=Q_ fun i j _ _ _ _ _ a q =>
 rshift_int a (by rw[Int.fdiv_eq_ediv_of_nonneg i (Nw _)];exact q)
theorem O9:J_ X (binaryOp .BitAnd) (PK fun i j=>.int (Builtin.bitAnd i j)):=RF fun _ _ _ _ _ _ _ q=>and_int q
theorem Am:J_ X (binaryOp .BitOr) (PK fun i j=>.int (Builtin.bitOr i j)):=RF fun _ _ _ _ _ _ _ q=>or_int q
theorem Wh:J_ X (binaryOp .BitXor) (PK fun i j=>.int (Builtin.bitXor i j)):=RF fun _ _ _ _ _ _ _ q=>xor_int q
theorem unI{f:A3->Sem A3}{g:Int->Int}
  (rule:∀(i:Int) (t:Tok) (s:A5) (Q:A3->A5->Prop) (E:A3->A5->Prop),Q (.int (g i) s.toks) { s with toks:=s.toks+1 }->wpAny (model X.prog X.w) X.A (f (.int i t)) Q E s) :
  UnR X f (rU fun i=>.int (g i)):=by
 intro a s σ H x v Q I b h;obtain⟨i,rfl,q⟩:=h;obtain⟨t,rfl⟩:=b;exact rule i t s _ _ ⟨.int (g i),H,I.tok _,⟨_,rfl⟩,q⟩
theorem Sg:UnR X (unaryOp .USub) (rU fun i=>.int (-i)):=unI fun _ _ _ _ _ q=>neg_int q
theorem Ks:UnR X (unaryOp .Invert) (rU fun i=>.int (Builtin.bitNot i)):=unI fun _ _ _ _ _ q=>invert_int q
end
def zFi:V->V->Bool
 | .non,.non=>true | .non,.int _=>true | .int _,.non=>true | .non,.bl _=>true | .bl _,.non=>true | .non,.str _=>true | .str _,.non=>true
 | .int _,.int _=>true | .bl _,.bl _=>true | .str _,.str _=>true | .byt _,.byt _=>true
 | .int _,.str _=>true | .str _,.int _=>true | .bl _,.str _=>true | .str _,.bl _=>true
 | _,_=>false
def rEq:R2:=fun x y H Q=>zFi x y=true/\Q (.bl (decide (x=y))) H
def rNe:R2:=fun x y H Q=>zFi x y=true/\Q (.bl (!decide (x=y))) H
def Sy{i j:Int}:decide (V.int i=V.int j) =(i == j):=by
 rw[BZ];simp
def Wg{i j:Bool}:decide (V.bl i=V.bl j) =(i == j):=by
 rw[BZ];simp
def Pe{i j:Str}:decide (V.str i=V.str j) =(i == j):=by
 rw[BZ];simp
def Qz{i j:CM UInt8}:decide (V.byt i=V.byt j) =(i.toList == j.toList):=by
 rw[BZ];cases i;cases j;simp
section
variable{X:Cx}{a b c:IH}{ta tb tc:TE}{pos:Pos}
theorem E3{a:A0 (A4×Obj)}{σ:St}{H:Hp}{s:A5}{Q:VK}{k b:Bool}(I:Inv X a σ H s)(q:Q (.bl k) H)(e:k=b):EP X a σ Q (.bool b) s:=by
 subst e;exact⟨.bl k,H,I,rfl,q⟩
theorem X5:J_ X (compareOp .Eq) rEq:=by
 intro e s σ H x y v u Q I d a h;obtain⟨c,q⟩:=h;cases x with
 | non =>
  cases d;cases y with
  | non=>cases a;exact PySem.EqNone.eq_none_none (E3 I q (by simp))
  | bl j=>cases a;exact PySem.EqNone.eq_none_bool (E3 I q (by simp))
  | int j=>obtain⟨b,rfl⟩:=a;exact PySem.EqNone.eq_none_int (E3 I q (by simp))
  | str j=>obtain⟨b,rfl⟩:=a;exact PySem.EqNone.eq_none_str (E3 I q (by simp))
  | _=>exact absurd (show false=true from c) AZ
 | bl i =>
  cases d;cases y with
  | non=>cases a;exact PySem.EqNone.eq_bool_none (E3 I q (by simp))
  | bl j=>cases a;exact eq_bool (E3 I q Wg)
  | str j=>obtain⟨b,rfl⟩:=a;exact PySem.EqMixed.eq_bool_str (E3 I q (by simp))
  | _=>exact absurd (show false=true from c) AZ
 | int i =>
  obtain⟨t,rfl⟩:=d;cases y with
  | non=>cases a;exact PySem.EqNone.eq_int_none (E3 I q (by simp))
  | int j=>obtain⟨b,rfl⟩:=a;exact eq_int (E3 I q Sy)
  | str j=>obtain⟨b,rfl⟩:=a;exact PySem.EqMixed.eq_int_str (E3 I q (by simp))
  | _=>exact absurd (show false=true from c) AZ
 | str i =>
  obtain⟨t,rfl⟩:=d;cases y with
  | non=>cases a;exact PySem.EqNone.eq_str_none (E3 I q (by simp))
  | bl j=>cases a;exact PySem.EqMixed.eq_str_bool (E3 I q (by simp))
  | int j=>obtain⟨b,rfl⟩:=a;exact PySem.EqMixed.eq_str_int (E3 I q (by simp))
  | str j=>obtain⟨b,rfl⟩:=a;exact eq_str (E3 I q Pe)
  | _=>exact absurd (show false=true from c) AZ
 | byt i =>
  obtain⟨t,rfl⟩:=d;cases y with
  | byt j=>obtain⟨b,rfl⟩:=a;exact PySem.W.eq_bytes (E3 I q Qz)
  | _=>exact absurd (show false=true from c) AZ
 | _=>cases y<;>exact absurd (show false=true from c) AZ
theorem Rt:J_ X (compareOp .NotEq) rNe:=by
 intro e s σ H x y v u Q I d a h;obtain⟨c,q⟩:=h;cases x with
 | non =>
  cases d;cases y with
  | non=>cases a;exact PySem.EqNone.ne_none_none (E3 I q (by simp))
  | bl j=>cases a;exact PySem.EqNone.ne_none_bool (E3 I q (by simp))
  | int j=>obtain⟨b,rfl⟩:=a;exact PySem.EqNone.ne_none_int (E3 I q (by simp))
  | str j=>obtain⟨b,rfl⟩:=a;exact PySem.EqNone.ne_none_str (E3 I q (by simp))
  | _=>exact absurd (show false=true from c) AZ
 | bl i =>
  cases d;cases y with
  | non=>cases a;exact PySem.EqNone.ne_bool_none (E3 I q (by simp))
  | bl j=>cases a;exact ne_bool (E3 I q (congrArg not Wg))
  | str j=>obtain⟨b,rfl⟩:=a;exact PySem.EqMixed.ne_bool_str (E3 I q (by simp))
  | _=>exact absurd (show false=true from c) AZ
 | int i =>
  obtain⟨t,rfl⟩:=d;cases y with
  | non=>cases a;exact PySem.EqNone.ne_int_none (E3 I q (by simp))
  | int j=>obtain⟨b,rfl⟩:=a;exact ne_int (E3 I q (congrArg not Sy))
  | str j=>obtain⟨b,rfl⟩:=a;exact PySem.EqMixed.ne_int_str (E3 I q (by simp))
  | _=>exact absurd (show false=true from c) AZ
 | str i =>
  obtain⟨t,rfl⟩:=d;cases y with
  | non=>cases a;exact PySem.EqNone.ne_str_none (E3 I q (by simp))
  | bl j=>cases a;exact PySem.EqMixed.ne_str_bool (E3 I q (by simp))
  | int j=>obtain⟨b,rfl⟩:=a;exact PySem.EqMixed.ne_str_int (E3 I q (by simp))
  | str j=>obtain⟨b,rfl⟩:=a;exact ne_str (E3 I q (congrArg not Pe))
  | _=>exact absurd (show false=true from c) AZ
 | byt i =>
  obtain⟨t,rfl⟩:=d;cases y with
  | byt j=>obtain⟨b,rfl⟩:=a;exact PySem.W.ne_bytes (E3 I q (congrArg not Qz))
  | _=>exact absurd (show false=true from c) AZ
 | _=>cases y<;>exact absurd (show false=true from c) AZ
theorem zBb:J_ X (compareOp .Lt) (PK fun i j=>.bl (decide (i<j))):=zDb fun _ _ _ _ _ _ _ q=>lt_int q
theorem zBf:J_ X (compareOp .LtE) (PK fun i j=>.bl (decide (i<=j))):=zDb fun _ _ _ _ _ _ _ q=>le_int q
theorem zEu:J_ X (compareOp .Gt) (PK fun i j=>.bl (decide (j<i))):=zDb fun _ _ _ _ _ _ _ q=>gt_int q
theorem zEt:J_ X (compareOp .GtE) (PK fun i j=>.bl (decide (j<=i))):=zDb fun _ _ _ _ _ _ _ q=>ge_int q
theorem Oj:J_ X (compareOp .In) (fun x y H Q=>∃i j,x = .str i/\y = .str j/\Q (.bl (!(Builtin.Str.occurrences j i 0 j.length 1).isEmpty)) H):=by
 intro a s σ H x y v u Q I b c h;obtain⟨i,j,rfl,rfl,q⟩:=h;obtain⟨t,rfl⟩:=b;obtain⟨d,rfl⟩:=c;exact in_str (E3 I q rfl)
theorem zCw:J_ X (compareOp .Is) (fun x y H Q=>y = .non/\Q (.bl (decide (x = .non))) H):=by
 intro a s σ H x y v u Q I b c h;obtain⟨rfl,q⟩:=h;cases c;refine is_none_gen (E3 I q ?_);cases x<;>first
  | (cases b;rfl)
  | (obtain⟨t,rfl⟩:=b;rfl)
theorem Iz:J_ X (compareOp .IsNot) (fun x y H Q=>y = .non/\Q (.bl (!decide (x = .non))) H):=by
 intro a s σ H x y v u Q I b c h;obtain⟨rfl,q⟩:=h;cases c;refine isnot_none_gen (E3 I q ?_);cases x<;>first
  | (cases b;rfl)
  | (obtain⟨t,rfl⟩:=b;rfl)
theorem D8(b:IH){op:CmpOp}(h:op≠ .In:=by decide)(h2:op≠ .NotIn:=by decide):behindInMarks op b=false:=by
 have a:(op == CmpOp.In)=false:=by cases op<;>first | rfl | exact absurd rfl h
 have c:(op == CmpOp.NotIn)=false:=by cases op<;>first | rfl | exact absurd rfl h2
 cases b<;>simp[behindInMarks,a,c]
theorem P1{op:CmpOp}{r:R2}(d:J_ X (compareOp op) r)(e:PE X a ta)(f:PE X b tb)(g:behindInMarks op b=false):PE X (.Compare a [op] [b] pos) (tOp r ta tb):=by
 intro c s σ H Q I h;exact wpAny_Compare1 (zDp e f I h fun v u i x y j k l m q=>d c i σ j x y v u Q k l m q) g
def zBe(t:TE):TT:=fun σ H Q=>t σ H fun x a=>∃k,x = .bl k/\Q k a
theorem C6{op:CmpOp}{r:R2}(f:J_ X (compareOp op) r)(g:PE X a ta)(i:PE X b tb)(j:behindInMarks op b=false):PT X (.Compare a [op] [b] pos) (zBe (tOp r ta tb)):=by
 intro d s σ H Q I h;refine wpAny_isTrue_Compare1 (IY (g d s σ H _ I h) fun v l ⟨x,m,n,o,p⟩=>IY (i d l σ m _ n p) fun u q ⟨y,t,w,A,B⟩ =>
  IY (f d q σ t x y v u _ w o A B) fun c G ⟨z,C,D,E,k,e,F⟩=>?_) j
 subst e;cases E;exact DG ⟨C,D,F⟩
def zCn(r b:R2)(ta tb tc:TE):TE:=fun σ H Q=>ta σ H fun x c=>tb σ c fun y d=>r x y d fun z a=>∃k,z = .bl k /\
 (if k=true then tc σ a fun e f=>b y e f Q else Q (.bl false) a)
theorem Tk{op g:CmpOp}{r j:R2}(p:J_ X (compareOp op) r)(i:J_ X (compareOp g) j)(q:PE X a ta)(t:PE X b tb)(w:PE X c tc)
  (A:lastMarks [op,g] [b,c]=false:=by with_unfolding_all rfl):PT X (.Compare a [op,g] [b,c] pos) (zBe (zCn r j ta tb tc)):=by
 intro f s σ H Q I h;refine isTrue_chain (IY (q f s σ H _ I h) fun v B ⟨x,C,D,E,F⟩=>test_link (IY (t f B σ C _ D F) fun u G ⟨y,J,K,l,L⟩ =>
  IY (p f G σ J x y v u _ K E l L) fun d M ⟨z,m,n,N,k,e,o⟩=>?_)) A
 subst e;cases N;refine DG ?_;cases k with
 | false =>
  obtain⟨k',O,P⟩:=o;cases O;exact ite_ff ⟨m,n,P⟩
 | true =>
  refine ite_tt (test_last (IY (w f M σ m _ n o) fun R S ⟨T,U,V,W,Y⟩=>IY (i f S σ U y T u R _ V l W Y) fun d' s5 ⟨z2,Z,I5,r5,k2,e2,q5⟩=>?_));subst e2;cases r5;exact DG ⟨Z,I5,q5⟩
def zDt(K:PySem.W.Frag)(x:V)(H:Hp)(k:Bool):Prop :=
 match x with
 | .non=>k=false
 | .bl b=>k=b
 | .int i=>k =(i != 0)
 | .str y=>y.length<=sizeLine/\k =((y.length:Int) != 0)
 | .byt y=>y.size<=sizeLine/\k =((y.size:Int) != 0)
 | .ref p=>(∃a,IG K H p a/\k=!a.isEmpty)\/(∃a,JM K H p a/\k=!a.isEmpty)\/∃c,H p=some (.dK c)/\k=!c.isEmpty
 | _=>False
theorem Ny{κ:Type}{a:A0 (κ×V)}{vs:A0 (κ×A3)}(r:KV a vs):(!vs.isEmpty)=!a.isEmpty:=by
 cases r<;>rfl
theorem Cn{xs:A0 V}{its:A0 A3}(r:IK xs its):(!its.toArray.isEmpty)=!xs.isEmpty:=by
 cases r<;>simp
theorem Ct:(sizeLine:Nat)<2^63:=by rw[sizeLine_eq];decide
theorem zCc:zFx X (fun x H Q=>∃k,zDt X.K x H k/\Q k H):=by
 intro u s σ H x v Q I g h;obtain⟨k,e,q⟩:=h;have C:=Ct;have D:sizeLine=16777216:=sizeLine_eq;cases x with
 | non =>
  cases g;have a:k=false:=e;subst a;exact truthy_none ⟨H,I,q⟩
 | bl b =>
  cases g;have a:k=b:=e;subst a;exact DG ⟨H,I,q⟩
 | int i =>
  obtain⟨t,rfl⟩:=g;have a:k =(i != 0):=e;subst a;exact PySem.P.truthy_int ⟨H,I,q⟩
 | str y =>
  obtain⟨t,rfl⟩:=g;obtain⟨A,a⟩:y.length<=sizeLine/\k =((y.length:Int) != 0):=e;subst a;exact PySem.P.truthy_str (by omega) ⟨H,I.tok _,q⟩
 | byt y =>
  obtain⟨t,rfl⟩:=g;obtain⟨A,a⟩:y.size<=sizeLine/\k =((y.size:Int) != 0):=e;subst a;exact PySem.W.truthy_bytes (by omega) ⟨H,I.tok _,q⟩
 | ref p =>
  cases g;have a:(∃f,IG X.K H p f/\k=!f.isEmpty)\/(∃f,JM X.K H p f/\k=!f.isEmpty)\/∃c,H p=some (.dK c)/\k=!c.isEmpty:=e;rcases a with⟨f,j,a⟩ | ⟨f,j,a⟩ | ⟨c,j,a⟩
  .subst a;obtain⟨n,r,o,z⟩:=I.list j;have d:=r.length;exact wpAny_truthy_list o.isList (by simp only[AS];omega) ⟨H,I.tok _,by rw[Cn r];exact q⟩
  .subst a;obtain⟨n,r,o,z⟩:=I.tuple j;have d:=r.length;exact truthy_tuple o (by simp only[AS];omega) ⟨H,I.tok _,by rw[Cn r];exact q⟩
  .subst a;obtain⟨z,B,l,r,m⟩:c.length<=sizeLine/\(p == sysModules)=false/\∃l,KV c l/\s.heap.DictOf (C4 X.prog X.w) p l:=I.hok p _ j;have d:c.length=l.length:=Paired.length r;exact wpAny_truthy_dict B m (by omega) ⟨H,I.tok _,by rw[Ny r];exact q⟩
 | _=>exact(show False from e).elim
theorem Vi(d:PE X a ta)(e:∀b,isTrue a X.env b =(do let v <-b;standAt a.pos;holding [v] (truthy v))) :
  PT X a (fun σ H Q=>ta σ H fun x H'=>∃k,zDt X.K x H' k/\Q k H'):=by
 intro c s σ H Q I h;exact isTrue_plain (IY (d c s σ H _ I h) fun v f ⟨x,g,i,j,l⟩=>zCc c f σ g x v Q i j l) (e _)
theorem V8{x:V}{us:A0 A3}(r:IK [x] us):∃u,us = [u]/\RelV x u:=by
 cases r with
 | cons a b=>cases b;exact⟨_,rfl,a⟩
theorem zCp{x y:V}{us:A0 A3}(r:IK [x,y] us):∃u a,us = [u,a]/\RelV x u/\RelV y a:=by
 cases r with
 | cons b c =>
  cases c with
  | cons d e=>cases e;exact⟨_,_,rfl,b,d⟩
theorem Lj:G9 X (.builtin "abs") (fun xs H Q=>∃i,xs = [.int i]/\Q (.int (if i<0 then -i else i)) H):=by
 intro a s σ H xs b Q I r h;obtain⟨i,rfl,q⟩:=h;obtain⟨u,rfl,t,rfl⟩:=V8 r;exact call_abs_int fun u c=>⟨.int (if i<0 then -i else i),H,I.tok _,⟨_,rfl⟩,q⟩
theorem Pr(c:X.calm=true):G9 X (.builtin "max") (fun xs H Q=>∃i j,xs = [.int i,.int j]/\Q (.int (if j>i then j else i)) H):=by
 intro b s σ H xs d Q I r h;obtain⟨i,j,rfl,q⟩:=h;obtain⟨u,e,rfl,⟨t,rfl⟩,⟨f,rfl⟩⟩:=zCp r;refine max_two_ints (I.ok.hd c) fun g l k=>⟨_,H,I.kept k,?_,q⟩;by_cases a:j>i
 .rw[AK a,AK a];exact⟨_,rfl⟩
 .rw[AJ a,AJ a];exact⟨_,rfl⟩
theorem Ru(c:X.calm=true):G9 X (.builtin "min") (fun xs H Q=>∃i j,xs = [.int i,.int j]/\Q (.int (if j<i then j else i)) H):=by
 intro b s σ H xs d Q I r h;obtain⟨i,j,rfl,q⟩:=h;obtain⟨u,e,rfl,⟨t,rfl⟩,⟨f,rfl⟩⟩:=zCp r;refine min_two_ints (I.ok.hd c) fun g l k=>⟨_,H,I.kept k,?_,q⟩;by_cases a:j<i
 .rw[AK a,AK a];exact⟨_,rfl⟩
 .rw[AJ a,AJ a];exact⟨_,rfl⟩
theorem Rc:G9 X (.type "int") (fun xs H Q=>(∃i,xs = [.int i]/\Q (.int i) H)\/∃k,xs = [.bl k]/\Q (.int (if k then 1 else 0)) H):=by
 intro a s σ H xs c Q I r h;rcases h with⟨i,rfl,q⟩ | ⟨k,rfl,q⟩
 .obtain⟨u,rfl,t,rfl⟩:=V8 r;exact call_int_int ⟨.int i,H,I,⟨_,rfl⟩,q⟩
 .obtain⟨u,rfl,b⟩:=V8 r;cases b;exact call_int_bool ⟨.int (if k then 1 else 0),H,I.tok _,⟨_,rfl⟩,q⟩
end
structure OQ(h:IA)(x dx C:A4)(mA:Str->A6 A3):Prop where
 obj:h.get? x=some (PySem.W.instObj C dx)
 ns:h.Ns1 dx mA
 ne:dx≠x
def Pu{h:IA}{c:A4}{d:Str->A6 A3}(n:h.Ns1 c d):∃f,h.get? c=some f/\∀name,PySem.W.lookIn name f=some (d name):=by
 obtain⟨o,g,r,i,j,k,_,l⟩:=n;refine⟨o,i,fun name=>?_⟩;have e:=l name;unfold nsFind findBy at e;rw[<-Array.find?_toList]at e;unfold PySem.W.lookIn;rw[j];dsimp only;split
 .rename_i y q;rw[q]at e;exact congrArg some e
 .rename_i q;rw[q]at e;have a:g.toList.any (·.refKey)=false:=by
   rw[List.any_eq_false];intro y m;obtain⟨z,t,b⟩:=k y (Array.mem_toList_iff.mp m);simp[DictEntry.refKey,b]
  have p:¬g.toList.any (·.refKey)=true:=by rw[a];exact AZ
  rw[AJ p];exact congrArg some e
def OQ.look{h:IA}{x b C:A4}{c:Str->A6 A3}(I:OQ h x b C c):∃a,PySem.W.InstAt h x (PySem.W.instObj C b) C (some a)/\∀name,PySem.W.lookIn name a=some (c name) :=
 let⟨a,d,e⟩:=Pu I.ns
 ⟨a,⟨I.obj,rfl,rfl,d⟩,e⟩
section
variable{prog:F8}{w:H_}{A:II}{E:A3->A5->Prop}{s:A5}{K:PySem.W.Frag}{x dx C f:A4}{mA:Str->A6 A3}{name:Str}{v:A3}
theorem Xn{a:Bool}{Q:A3->A5->Prop}(X:K.In s.heap)(I:OQ s.heap x dx C mA)(c:PySem.W.plainGet K C name=true)(d:PySem.W.hasDictIn K C=true)
  (e:PySem.W.findIn K (.ref C) name=some none) (f:mA name=some v) (b:PySem.W.handedIn v=true) (h:Q v { s with toks:=s.toks+1 }) :
  wpAny (model prog w) A (getAttr (.ref x) name a) Q E s:=by
 obtain⟨i,J,g⟩:=I.look;exact PySem.W.get_value X J (PySem.W.plainGet_of c).1 (PySem.W.findObj_own d e rfl (by rw[g,f])) b h
theorem Tt{pl:Sem Bool}{Q:A3×A0 A3->A5->Prop}(X:K.In s.heap)(I:OQ s.heap x dx C mA)(a:PySem.W.plainGet K C name=true)
  (b:PySem.W.findIn K (.ref C) name=some (some (.ref f))) (c:PySem.W.isFn K (.ref f)=true) (d:mA name=none) (h:Q (.ref f,[.ref x]) s) :
  wpAny (model prog w) A (getMethod (.ref x) name pl) Q E s:=by
 obtain⟨e,J,g⟩:=I.look;exact PySem.W.method_fn X J (PySem.W.plainGet_of a).1 (PySem.W.plainGet_of a).2 b (beq_iff_eq.mp c) (by show(PySem.W.lookIn name e).map (·.isSome)=some false;rw[g,d];rfl) h
theorem Zm{ns:A0 Str}{Q:Unit->A5->Prop}(X:K.In s.heap)(I:OQ s.heap x dx C mA)
  (j:PySem.W.findIn K (.ref C) "__setattr__" = some (some (.builtin "object.__setattr__"))) (k:PySem.W.plainOver K C=true) (l:PySem.W.takerIn K C name=some none) (m:PySem.W.hasDictIn K C=true)
  (hw:PySem.Within mA ns) (hsz:ns.length<=sizeLine)
  (h:∀h',OQ h' x dx C (fun y=>if y=name then some v else mA y)->Heap.SameBut dx s.heap h'->Q () { s with heap:=h',toks:=s.toks+2 }) :
  wpAny (model prog w) A (setAttr (.ref x) name v) Q E s:=by
 obtain⟨t,J,u⟩:=I.look;refine PySem.W.set_plain X J j (PySem.W.osa_open (s:={ s with toks:=s.toks+1 }) (r:=none) X J k l fun b=>?_);obtain⟨z,n,e⟩:=PySem.W.any_some m;have o:s.heap.get? x=some ⟨.ref C,some dx,.plain,#[]⟩:=I.obj;refine AA (AE (AA (AA (wpAny_loadPart o (AA (PySem.W.Looks.here (s:={ s with toks:=s.toks+1 }) (PySem.W.looks_clsIn X n) ?_))))));rw[e];refine AE (a:=some dx) (AA (AE (AA ?_)));refine wpAny_nsSet1 (s:={ s with toks:=s.toks+1 }) I.ns fun h' c d=>?_;obtain⟨B,p,q,f,g,i⟩:=c.count (PySem.Within.cons name v hw);refine AA (wpAny_lookBehind f (by rw[g];exact pastItsLine_dict (Nat.le_trans i (by rw[BJ];omega))) ?_);exact AE (h _ ⟨(d.2 _ (Ne.symm I.ne)).trans I.obj,c,I.ne⟩ d)
theorem Uo{R:Result->A5->Prop}{vs:A0 A3}{b:A0 (Str×A3)}(X:K.In s.heap)(c:PySem.W.makesIn K C=true)
  (hi:PySem.W.findIn K (.ref C) "__init__" = some (some (.ref f))) (e:PySem.W.typeIn K (.ref f)=some (.type "function"))
  (h:codeAny (model prog w) (A.under (.builtin "type.__call__" ⟨.ref C::vs,b⟩)) (.call (.ref f) ⟨.ref (s.heap.objs.size+1)::vs,b⟩) (PySem.W.InitBack (s.heap.objs.size+1) R)
   { s with heap:=(s.heap.push PySem.W.emptyDict).push (PySem.W.instObj C s.heap.objs.size) }) :
  codeAny (model prog w) A (.call (.ref C) ⟨vs,b⟩) R s:=by
 obtain⟨i,g,d,t,os⟩:=s;exact PySem.W.make_core (PySem.W.makes_of X c) (PySem.W.looks_findIn X hi) (fun a=>PySem.W.bind_fn X a e) (.inl rfl) h
end
def P8(f:Str)(v:V):A0 (Str×V)->A0 (Str×V)
 | []=>[(f,v)]
 | (g,x)::r=>if g=f then(g,v)::r else(g,x)::P8 f v r
def Ai(f g:Str)(v:V):∀c:A0 (Str×V),(P8 f v c).lookup g=if g=f then some v else c.lookup g
 | []=>by
  show List.lookup g [(f,v)]=_;by_cases h:g=f
  .have a:(g == f)=true:=beq_iff_eq.mpr h;simp only[List.lookup,a,AK h]
  .have a:(g == f)=false:=beq_eq_false_iff_ne.mpr h;simp only[List.lookup,a,AJ h]
 | (k,x)::r=>by
  have d:=Ai f g v r;rw[show P8 f v ((k,x)::r) =(if k=f then(k,v)::r else(k,x)::P8 f v r)from rfl];by_cases b:k=f
  .rw[AK b];by_cases h:g=k
   .have a:(g == k)=true:=beq_iff_eq.mpr h;simp only[List.lookup,a,AK (h.trans b)]
   .have a:(g == k)=false:=beq_eq_false_iff_ne.mpr h;simp only[List.lookup,a,AJ (fun e:g=f=>h (e.trans b.symm))]
  .rw[AJ b];by_cases h:g=k
   .have a:(g == k)=true:=beq_iff_eq.mpr h;simp only[List.lookup,a,AJ (fun e:g=f=>b (h.symm.trans e))]
   .have a:(g == k)=false:=beq_eq_false_iff_ne.mpr h;simp only[List.lookup,a];exact d
def Ap(f:Str)(v:V):∀a:A0 (Str×V),f∈(P8 f v a).map (·.1)/\∀g,g∈a.map (·.1)->g∈(P8 f v a).map (·.1)
 | []=>⟨by simp[P8],fun g h=>by simp at h⟩
 | (k,x)::r=>by
  obtain⟨c,d⟩:=Ap f v r;rw[show P8 f v ((k,x)::r) =(if k=f then(k,v)::r else(k,x)::P8 f v r)from rfl];by_cases b:k=f
  .rw[AK b];subst b;exact⟨by simp,fun g h=>by simpa using h⟩
  .rw[AJ b];refine⟨?_,fun g h=>?_⟩
   .rw[BB];exact AY _ c
   .rw[BB]at h⊢;rcases AU.mp h with e | e
    .exact AU.mpr (.inl e)
    .exact AY _ (d g e)
def Bm(f:Str)(v:V):∀a:A0 (Str×V),(P8 f v a).length<=a.length+1
 | []=>by simp[P8]
 | (k,x)::r=>by
  have c:=Bm f v r;rw[show P8 f v ((k,x)::r) =(if k=f then(k,v)::r else(k,x)::P8 f v r)from rfl];by_cases b:k=f
  .rw[AK b,BJ,BJ];omega
  .rw[AJ b,BJ,BJ];omega
def LM.some_of{v:V}{o:A6 A3}(r:LM (some v) o):∃u,o=some u/\RelV v u:=by
 cases o with
 | none=>exact(show False from r).elim
 | some u=>exact⟨u,rfl,r⟩
def LM.none_of{o:A6 A3}(r:LM none o):o=none:=by
 cases o with
 | none=>rfl
 | some u=>exact(show False from r).elim
def Qt{v:V}{u:A3}(r:RelV v u):PySem.W.handedIn u=true:=by
 cases v with
 | non=>cases(show u=Value.none from r);rfl
 | bl b=>cases(show u=Value.bool b from r);rfl
 | int i=>obtain⟨t,e⟩:=(show ∃t,u=Value.int i t from r);cases e;rfl
 | str x=>obtain⟨t,e⟩:=(show ∃t,u=Value.str x t from r);cases e;rfl
 | byt b=>obtain⟨t,e⟩:=(show ∃t,u=Value.bytes b t from r);cases e;rfl
 | flt b=>obtain⟨t,e⟩:=(show ∃t,u=Value.float b t from r);cases e;rfl
 | ref a=>cases(show u=Value.ref a from r);rfl
 | ty n=>cases(show u=Value.type n from r);rfl
section
variable{P:F8}{w:H_}{H H':Hp}{h h':IA}{a C dx:A4}{fs fs':A0 (Str×V)}
theorem Ez(c:LD P w H h)(e:H a=some (.ins C dx fs)):∃b,OQ h a dx C b/\(∀f,LM (fs.lookup f) (b f))/\PySem.Within b (fs.map (·.1))/\fs.length<=1000/\H dx=some (.own a):=by
 obtain⟨d,z,g,i,b,n,r,q⟩:=(show IR P w H h a (.ins C dx fs)from c a _ e);exact⟨b,⟨i,n,g⟩,r,q,z,d⟩
end
structure PH(K:PySem.W.Frag)(C:A4):Prop where
 pg:PySem.W.plainGet K C Str.empty=true
 hd:PySem.W.hasDictIn K C=true
 po:PySem.W.plainOver K C=true
 sa:PySem.W.findIn K (.ref C) "__setattr__" = some (some (.builtin "object.__setattr__"))
def PH.get{K:PySem.W.Frag}{C:A4}(c:PH K C)(f:Str):PySem.W.plainGet K C f=true:=c.pg
def JH(K:PySem.W.Frag)(C:A4)(f:Str):Prop:=PySem.W.findIn K (.ref C) f=some none
def JH.taker{K:PySem.W.Frag}{C:A4}{f:Str}(n:JH K C f):PySem.W.takerIn K C f=some none:=by
 unfold PySem.W.takerIn;rw[show PySem.W.findIn K (.ref C) f=some none from n];rfl
structure QF(K:PySem.W.Frag)(C:A4)(m:Str)(f:A4):Prop where
 at_:PySem.W.findIn K (.ref C) m=some (some (.ref f))
 fn:PySem.W.isFn K (.ref f)=true
 kp:PySem.W.keepIn K (.ref f)=true
section
variable{X:Cx}{pins:A0 (A4×Obj)}{σ:St}{H:Hp}{s:A5}{a C dx:A4}{fs:A0 (Str×V)}{f:Str}{v:V}{A:II}{E:A3->A5->Prop}
theorem Og{b:Bool}{Q:A3->A5->Prop}(I:Inv X pins σ H s)(e:H a=some (.ins C dx fs))(c:PH X.K C)(n:JH X.K C f)(l:fs.lookup f=some v)
  (h:∀u d,Inv X pins σ H d->RelV v u->Q u d):wpAny (model X.prog X.w) A (getAttr (.ref a) f b) Q E s:=by
 obtain⟨i,O,r,_,_,_⟩:=Ez I.hok e;obtain⟨u,j,g⟩:=LM.some_of (v:=v) (o:=i f) (by rw[<-l];exact r f);exact Xn I.kIn O (c.get f) c.hd n j (Qt g) (h u _ (I.tok _) g)
theorem Dh{m:Str}{g:A4}{pl:Sem Bool}{Q:A3×A0 A3->A5->Prop}(I:Inv X pins σ H s)(e:H a=some (.ins C dx fs))(c:PH X.K C)(k:QF X.K C m g)(l:fs.lookup m=none)
  (h:Q (.ref g,[.ref a]) s):wpAny (model X.prog X.w) A (getMethod (.ref a) m pl) Q E s:=by
 obtain⟨b,O,r,_,_,_⟩:=Ez I.hok e;have d:b m=none:=LM.none_of (by rw[<-l];exact r m);exact Tt I.kIn O (c.get m) k.at_ k.fn d h
theorem Nj{y:V}{u:A3}{Q:Unit->A5->Prop}(I:Inv X pins σ H s)(e:H a=some (.ins C dx fs))(c:PH X.K C)(n:JH X.K C f)(J:fs.length<1000)(m:RelV y u)
  (h:∀i,Inv X pins σ (IB H a (.ins C dx (P8 f y fs))) i->Q () i):wpAny (model X.prog X.w) A (setAttr (.ref a) f u) Q E s:=by
 obtain⟨j,O,r,k,_,l⟩:=Ez I.hok e;have p:(fs.map (·.1)).length<=sizeLine:=by rw[AB,sizeLine_eq];omega
 refine Zm I.kIn O c.sa c.po n.taker c.hd k p fun t d v=>h _ ?_;have B:∃o,t.get? dx=some o:=let⟨o,_,_,D,_⟩:=d.ns;⟨o,D⟩;refine I.write (x:=a) (e:=dx) (by rw[e];exact True.intro) (.inr l) (fun b q F z=>(v.2 b F).trans z) B ?_;refine⟨by rw[B6 O.ne];exact l,?_,O.ne,d.obj,_,d.ns,fun g=>?_,fun g G=>?_⟩
 .have:=Bm f y fs;omega
 .show LM ((P8 f y fs).lookup g) (if g=f then some u else j g);rw[Ai];by_cases q:g=f
  .rw[AK q,AK q];exact m
  .rw[AJ q,AJ q];exact r g
 .by_cases q:g=f
  .rw[q];exact(Ap f y fs).1
  .refine(Ap f y fs).2 g (k g fun z=>G ?_);show(if g=f then some u else j g)=none;rw[AJ q];exact z
theorem Inv.made(I:Inv X pins σ H s):Inv X pins σ (IB (IB H s.heap.objs.size (.own (s.heap.objs.size+1))) (s.heap.objs.size+1) (.ins C s.heap.objs.size []))
  { s with heap:=(s.heap.push PySem.W.emptyDict).push (PySem.W.instObj C s.heap.objs.size) }:=by
 have c:(s.heap.push PySem.W.emptyDict).get? s.heap.objs.size=some PySem.W.emptyDict:=AN s.heap rfl;have f:((s.heap.push PySem.W.emptyDict).push (PySem.W.instObj C s.heap.objs.size)).get? (s.heap.objs.size+1)=some (PySem.W.instObj C s.heap.objs.size):=by
  have:=AN (s.heap.push PySem.W.emptyDict) (o:=PySem.W.instObj C s.heap.objs.size) rfl
  rwa [DH]at this
 have g:(s.heap.push PySem.W.emptyDict).Ns s.heap.objs.size (fun _=>none):=⟨PySem.W.emptyDict,#[],_,c,rfl,(fun e h=>absurd h (by simp)),fun _=>rfl⟩;have i:=I.laid (a:=s.heap.objs.size) (o:=.own (s.heap.objs.size+1)) (h':=s.heap.push PySem.W.emptyDict) (t':=s.toks) (fun b u q=>AD _ q) (Nat.le_refl _) ⟨_,c⟩;refine i.laid (a:=s.heap.objs.size+1) (o:=.ins C s.heap.objs.size []) (t':=s.toks) (fun b u q=>AD _ q) (Nat.le_of_eq (DH _ _)) ?_;have d:s.heap.objs.size≠s.heap.objs.size+1:=BA (ED _);refine⟨by rw[B6 d,A9],CF _,d,f,fun _=>none,(Heap.Ns1.of_empty g).at fun o q=>AD _ q,fun _=>True.intro,fun y j=>absurd rfl j⟩
theorem Xx{prog:F8}{w:H_}{a:OU}{e:IH}{f:Str}{pos:Pos}{s:A5}{Q:A3->A5->Prop}(b:attributeBase e f a (eval e a)=eval e a)
  (h:wpAny (model prog w) A (eval e a) (fun o s₁=>wpAny (model prog w) A (getAttr o f true) Q E s₁) E s):wpAny (model prog w) A (eval (.Attribute e f pos) a) Q E s :=
 Attribute_any_ h (by rw[arm_eval_Attribute,b])
end
def zDe(K:PySem.W.Frag)(d:TE)(f:Str):TE:=fun σ H Q=>d σ H fun x b=>∃a C e c v,x = .ref a/\b a=some (.ins C e c)/\PH K C/\JH K C f/\c.lookup f=some v/\Q v b
def zFm(K:PySem.W.Frag)(e g:TE)(f:Str):TS:=fun D σ H=>g σ H fun y h=>e σ h fun x c=>∃a C d b,x = .ref a/\c a=some (.ins C d b)/\PH K C/\JH K C f/\b.length<1000 /\
 D.nx σ (IB c a (.ins C d (P8 f y b)))
section
variable{X:Cx}{o e value:IH}{f:Str}{pos pos' tpos:Pos}{ta tv:TE}
theorem zBk(d:PE X e ta)(g:attributeBase e f X.env (eval e X.env)=eval e X.env):PE X (.Attribute e f pos) (zDe X.K ta f):=by
 intro b s σ H Q I h;refine Xx g (IY (d b s σ H _ I h) fun u t ⟨x,i,j,k,a,C,w,y,v,m,o,c,n,l,q⟩=>?_);subst m;obtain rfl:u=Value.ref a:=k;exact Og j o c n l fun z A p r=>⟨v,i,p,r,q⟩
theorem zAa(d:PE X o ta)(e:PE X value tv)(g:swapsWith value (some (.Attribute o f pos')) pos.line X.env=pure false):PS X (.Assign [.Attribute o f pos'] value pos) (zFm X.K ta tv f):=by
 intro b s σ H D I h;refine plainObj_wpAny_Assign_Attribute (IY (e b s σ H _ I h) fun u i ⟨y,j,k,m,q⟩=>IY (d b i σ j _ k q) fun p B ⟨x,E,r,t,a,C,F,G,v,w,c,n,l,z⟩=>?_) g;subst v;obtain rfl:p=Value.ref a:=t;exact Nj r w c n l m fun J A=>⟨σ,_,A,z⟩
end
section
variable{X:Cx}{pins:A0 (A4×Obj)}{σ:St}{H:Hp}{s:A5}{A:II}{E:A3->A5->Prop}{Q:A3->A5->Prop}{c:A3}{b:Bool}
inductive LU(K:PySem.W.Frag)(H:Hp):V->A3->Prop where
 | non:LU K H .non (.type "NoneType")
 | bl (x:Bool):LU K H (.bl x) (.type "bool")
 | int (i:Int):LU K H (.int i) (.type "int")
 | str (x:Str):LU K H (.str x) (.type "str")
 | flt (x:UInt64):LU K H (.flt x) (.type "float")
 | lst {a:A4} {xs:A0 V} (e:H a=some (.lst xs)):LU K H (.ref a) (.type "list")
 | frz {a:A4} {o:Obj} {xs:A0 V} (e:H a=some (.frz o (.lst xs))):LU K H (.ref a) (.type "list")
 | tup {a:A4} {xs:A0 V} (e:H a=some (.tup xs)):LU K H (.ref a) (.type "tuple")
 | dK {a:A4} {kvs:A0 (IW×V)} (e:H a=some (.dK kvs)):LU K H (.ref a) (.type "dict")
 | dT {a:A4} {kvs:A0 (A0 IW×V)} (e:H a=some (.dT kvs)):LU K H (.ref a) (.type "dict")
 | ins {a C dx:A4} {fs:A0 (Str×V)} (e:H a=some (.ins C dx fs)) (cl:PH K C) (ha:PySem.W.findIn K (.ref C) "__class__" = some (some (.builtin "object.__class__")))
   (hn:PySem.W.specialIn K (.builtin "object.__class__") "__get__" = some (some (.builtin "getset_descriptor.__get__"))) (htk:PySem.W.takesIn K (.builtin "object.__class__")=some true)
   (hm:PySem.W.mroIn K C (.type "object")=some true):LU K H (.ref a) (.ref C)
theorem Sr{x:V}{u t:A3}(I:Inv X pins σ H s)(d:RelV x u)(ty:LU X.K H x t)(e:PySem.W.kitOne X.K t c=some b)(h:∀v,Q (.bool b) { s with toks:=v }) :
  wpAny (model X.prog X.w) A (call (.builtin "isinstance") [u,c]) Q E s:=by
 cases ty with
 | non=>cases(show u=Value.none from d);exact PySem.W.kia_one PySem.W.kitx_none I.kIn True.intro e (fun z=>nomatch z) h
 | bl y=>cases(show u=Value.bool y from d);exact PySem.W.kia_one PySem.W.kitx_bool I.kIn True.intro e (fun z=>nomatch z) h
 | int i=>obtain⟨t,q⟩:=(show ∃t,u=Value.int i t from d);cases q;exact PySem.W.kia_one PySem.W.kitx_int I.kIn True.intro e (fun z=>nomatch z) h
 | str y=>obtain⟨t,q⟩:=(show ∃t,u=Value.str y t from d);cases q;exact PySem.W.kia_one PySem.W.kitx_str I.kIn True.intro e (fun z=>nomatch z) h
 | flt y=>obtain⟨t,q⟩:=(show ∃t,u=Value.float y t from d);cases q;exact PySem.W.kia_one PySem.W.kitx_float I.kIn True.intro e (fun z=>nomatch z) h
 | @lst a k f =>
  cases(show u=Value.ref a from d);obtain⟨_,_,n,_,g⟩:=(show IR X.prog X.w H s.heap a (.lst k)from I.hok a _ f);exact PySem.W.kia_one PySem.W.kitx_list I.kIn ⟨_,g,rfl⟩ e (fun z=>nomatch z) h
 | @frz a B k f =>
  cases(show u=Value.ref a from d);obtain⟨_,_,_,n,_,g⟩:=(show IR X.prog X.w H s.heap a (.frz B (.lst k))from I.hok a _ f);exact PySem.W.kia_one PySem.W.kitx_list I.kIn ⟨_,g,rfl⟩ e (fun z=>nomatch z) h
 | @tup a k f =>
  cases(show u=Value.ref a from d);obtain⟨_,_,_,p⟩:=(show IR X.prog X.w H s.heap a (.tup k)from I.hok a _ f);obtain⟨o,g,l,_⟩:=p;exact PySem.W.kia_one PySem.W.kitx_tuple I.kIn ⟨o,g,l⟩ e (fun z=>nomatch z) h
 | @dK a j f =>
  cases(show u=Value.ref a from d);obtain⟨_,_,N,_,p⟩:=(show IR X.prog X.w H s.heap a (.dK j)from I.hok a _ f);obtain⟨o,D,F,g,l,_⟩:=p;exact PySem.W.kia_one PySem.W.kitx_dict I.kIn ⟨o,g,l.1⟩ e (fun z=>nomatch z) h
 | @dT a j f =>
  cases(show u=Value.ref a from d);obtain⟨_,_,k,_,o,D,F,g,l,_⟩:=(show IR X.prog X.w H s.heap a (.dT j)from I.hok a _ f);exact PySem.W.kia_one PySem.W.kitx_dict I.kIn ⟨o,g,l.1⟩ e (fun z=>nomatch z) h
 | @ins a C P R f r G L m M =>
  cases(show u=Value.ref a from d);obtain⟨S,O,_⟩:=Ez I.hok f;obtain⟨T,J,_⟩:=O.look;exact PySem.W.kia_one (PySem.W.kitx_own (r.get _) r.hd G L m M) I.kIn J e (fun z=>nomatch z) h
end
structure JF(k:Nat)(A:II):Prop where
 hd:A.handled=none
 dp:A.depth+3*k+5<recursionLimit
 un:A.units+16*k+200<cLine
def JF.mono{j k:Nat}{A:II}(r:JF k A)(h:j<=k):JF j A:=⟨r.hd,by have:=r.dp;omega,by have:=r.un;omega⟩
def JF.deeper{k:Nat}{A:II}(r:JF (k+1) A)(a:OU):JF k (A.deeper a) :=
 ⟨r.hd,by have:=r.dp;show A.depth+1+3*k+5<_;omega,by have:=r.un;show A.units+3+16*k+200<_;omega⟩
def Nf{A:II}{C:A4}{us:A0 A3}{a:A0 (Str×A3)}:(A.under (.builtin "type.__call__" ⟨.ref C::us,a⟩)).depth=A.depth+1:=by
 first | rfl | simp[Around.under,Code.weight,Code.isCreation,Code.isGuard,Code.isCaller,Code.frames,Code.isFrame,guardIds]
def Na{A:II}{C:A4}{us:A0 A3}{a:A0 (Str×A3)}:(A.under (.builtin "type.__call__" ⟨.ref C::us,a⟩)).units=A.units+1:=by
 first | rfl | simp[Around.under,Code.cUnits,Code.frames,Code.isFrame]
def JF.make{k:Nat}{A:II}(r:JF (k+1) A)(C:A4)(us:A0 A3)(a:A0 (Str×A3)):JF k (A.under (.builtin "type.__call__" ⟨.ref C::us,a⟩)) :=
 ⟨r.hd,by have:=r.dp;rw[Nf];omega,by have:=r.un;rw[Na];omega⟩
def JF.depth{k:Nat}{A:II}(r:JF k A):A.depth<recursionLimit:=by have:=r.dp;omega
def JF.units{k:Nat}{A:II}(r:JF k A):A.units+64<cLine:=by have:=r.un;omega
def Zs:TA:=fun _ H Q=>Q [] H
def Xv(a:TE)(b:TA):TA:=fun σ H Q=>a σ H fun x c=>b σ c fun d e=>Q (x::d) e
section
variable{X:Cx}{e:IH}{es:A0 IH}{te:TE}{t:TA}{pos:Pos}
theorem B3:PA X [] Zs:=fun _ _ _ _ H Q I h=>Calls.spliced_nil ⟨[],H,I,.nil,h⟩
theorem A8(b:PE X e te)(c:PA X es t)(d:starEach (e::es) X.env =(false,eval e X.env)::starEach es X.env:=by rfl):PA X (e::es) (Xv te t):=by
 intro pos a s σ H Q I h;rw[d];show wpAny _ _ (spliced ((false,eval e X.env)::backTo pos (starEach es X.env))) _ _ s;refine Calls.spliced_cons (IY (b a s σ H _ I h) fun u f ⟨x,g,i,j,k⟩=>?_);exact IY (c pos a f σ g _ i k) fun q r ⟨l,m,n,o,p⟩=>⟨x::l,m,n,.cons j o,p⟩
def zGa(t:TA):TE:=fun σ H Q=>t σ H fun a b=>a.length<=sizeLine/\∀p,b p=none->Q (.ref p) (IB b p (.tup a))
def zFg(t:TA):TE:=fun σ H Q=>t σ H fun a b=>a.length<=sizeLine/\∀p,b p=none->Q (.ref p) (IB b p (.lst a))
theorem G0{g}(h:PA X es t):PE X (.Tuple es g pos) (zGa t):=by
 intro a s σ H Q I i;refine wpAny_Tuple_spliced (IY (h pos a s σ H _ I i) fun j c ⟨k,d,f,r,z,q⟩=>⟨by rw[<-r.length];exact z,?_⟩);have l:d c.heap.objs.size=none:=f.hok.fresh (Nat.le_refl _);refine⟨.ref c.heap.objs.size,IB d c.heap.objs.size (.tup k),f.laid (t':=c.toks) (fun b u e=>AD _ e) (Nat.le_refl _) ?_,rfl,q _ l⟩;exact⟨z,j,r,⟨_,AN _ rfl,rfl,_,rfl⟩⟩
theorem M8(h:PA X es t):PE X (.List es pos) (zFg t):=by
 intro a s σ H Q I g;refine wpAny_List_spliced (IY (h pos a s σ H _ I g) fun i c ⟨j,d,f,r,z,q⟩=>⟨by rw[<-r.length];exact z,?_⟩);have k:d c.heap.objs.size=none:=f.hok.fresh (Nat.le_refl _);refine⟨.ref c.heap.objs.size,IB d c.heap.objs.size (.lst j),f.laid (t':=c.toks) (fun b u e=>AD _ e) (Nat.le_refl _) ?_,rfl,q _ k⟩;exact⟨z,i,0,r,AN _ rfl⟩
end
abbrev Sp:=A0 V->Hp->VK->XK->Prop
abbrev PZ:=A0 OU->Hp->A5->XK->A3->A5->Prop
structure NZ(P:F8)(w:H_)(K:PySem.W.Frag)(mg:Str->A6 A3)(base:IA)(A:II)(outer:A0 OU)(s:A5)(H:Hp):Prop where
 frames:A.frames=some outer
 mod:Mod K mg base
 bs:∀b o,base.get? b=some o->s.heap.get? b=some o/\H b=none
 bsz:base.objs.size<=s.heap.objs.size
 funs:s.heap.FunFrames base outer
 frf:∀b∈OA outer,H b=none
 hok:LD P w H s.heap
 bare:AllBare s.gens
def CE(a:A0 OU)(P:F8)(w:H_)(H:Hp)(s:A5)(Q:VK)(u:A3)(b:A5):Prop :=
 ∃v c,b.os=s.os/\AllBare b.gens/\Un (OA a) [] H c s.heap b.heap/\LD P w c b.heap/\RelV v u/\Q v c
def CR(c:PZ)(a:A0 OU)(P:F8)(w:H_)(H:Hp)(s:A5)(Q:VK)(E:XK)(r:Result)(b:A5):Prop :=
 match r with
 | .ok (.ret u)=>CE a P w H s Q u b
 | .ok _=>False
 | .error e=>c a H s E e b
structure IP(P:F8)(w:H_)(K:PySem.W.Frag)(mg:Str->A6 A3)(base:IA)(CX:PZ)(k:Nat)(f:A4)(fd:IU)(ps:A0 Str)(sp:Sp):Prop where
 len:∀vs H Q E,sp vs H Q E->vs.length=ps.length
 run:∀(A:II) (outer:A0 OU) (s:A5) (H:Hp) (args:Args) (us:A0 A3) (vs:A0 V) (Q:VK) (E:XK),JF k A->NZ P w K mg base A outer s H->BindsTo s fd args (ps.zip us)->IK vs us->sp vs H Q E ->
  codeAny (model P w) A (.call (.ref f) args) (CR CX outer P w H s Q E) s
def IP.mono{P:F8}{w:H_}{K:PySem.W.Frag}{mg:Str->A6 A3}{base:IA}{b:PZ}{j k:Nat}{f:A4}{c:IU}{d:A0 Str}{sp:Sp}(F:IP P w K mg base b j f c d sp)(h:j<=k) :
  IP P w K mg base b k f c d sp:=⟨F.len,fun A a s H args e g Q E i=>F.run A a s H args e g Q E (i.mono h)⟩
def NZ.make{P:F8}{w:H_}{K:PySem.W.Frag}{mg:Str->A6 A3}{base:IA}{A:II}{a:A0 OU}{s:A5}{H:Hp}(e:NZ P w K mg base A a s H)(C:A4)(us:A0 A3)(b:A0 (Str×A3)) :
  NZ P w K mg base (A.under (.builtin "type.__call__" ⟨.ref C::us,b⟩)) a s H:=⟨by first | exact e.frames | (simpa [Around.under,Code.envs,Code.isFrame,pushEnvs] using e.frames),e.mod,e.bs,e.bsz,e.funs,e.frf,e.hok,e.bare⟩
section
variable{X:Cx}{pins:A0 (A4×Obj)}{σ:St}{H:Hp}{s s':A5}
theorem Inv.env0(I:Inv X pins σ H s):NZ X.prog X.w X.K X.mg X.base X.A X.stack s H :=
 ⟨I.ok.frames,I.ok.mod,I.bs,Nat.le_trans I.ok.bsz I.sz,I.stack,I.stkFree,I.hok,I.bare⟩
theorem Inv.after{Q:VK}{u:A3}(I:Inv X pins σ H s)(h:CE X.stack X.prog X.w H s Q u s'):EP X pins σ Q u s':=by
 obtain⟨v,f,os,a,i,c,r,q⟩:=h;obtain⟨j,g,d,t,e⟩:=s';obtain rfl:e=s.os:=os;exact⟨v,f,I.call (h':=j) (g':=g) (d':=d) (t':=t) (ch:=[]) i c a (fun b z=>absurd z (by simp)),r,q⟩
end
def Wz(sp:Sp)(a:A0 V)(E:XK)(t:TA):TE:=fun σ H Q=>t σ H fun b c=>sp (b++a) c Q E
def zAd(C:A4)(m:Str)(sp:Sp)(b:A0 V)(E:XK)(e:TE)(t:TA):TE:=fun σ H Q=>e σ H fun x c=>∃a f d,x = .ref a/\c a=some (.ins C f d)/\d.lookup m=none /\
 t σ c fun g h=>sp (x ::(g++b)) h Q E
def zDg(C:A4)(sp:Sp)(b:A0 V)(E:XK)(t:TA):TE:=fun σ H Q=>t σ H fun d c=>∀x a,c x=none->c a=none->a≠x ->
 sp (.ref x ::(d++b)) (IB (IB c a (.own x)) x (.ins C a [])) (fun v e=>v = .non/\Q (.ref x) e) E
def Binds(K:PySem.W.Frag)(d:IU)(b:A0 Str)(c:A0 A3):Prop :=
 ∀(s:A5) (a:A0 A3),K.In s.heap->(a++c).length=b.length->BindsTo s d ⟨a,[]⟩ (b.zip (a++c))
def Binds.all{K:PySem.W.Frag}{b:IU}{a:A0 Str}(h:∀us:A0 A3,us.length=a.length->bindArgs b ⟨us,[]⟩=pure (a.zip us)):Binds K b a []:=fun s us _ c=>by
 rw[CJ]at c⊢;exact .of_eq (h us c)
def u4(c:PZ)(X:Cx)(E:XK):Prop:=∀(a:A0 (A4×Obj)) (σ:St) (H:Hp) (s:A5) (e:A3) (b:A5),Inv X a σ H s->c X.stack H s E e b->X.xe e b
section
variable{X:Cx}{CX:PZ}{k:Nat}{f C:A4}{fd:IU}{ps:A0 Str}{sp:Sp}{dvs:A0 V}{ds:A0 A3}{E:XK}{x m:Str}{p pos apos:Pos}{e o:IH}{es:A0 IH}{ta:TE}{t:TA}
theorem Mg{a:A0 (A4×Obj)}{σ:St}{H:Hp}{s:A5}{Q:VK}{us:A0 A3}{vs:A0 V}(F:IP X.prog X.w X.K X.mg X.base CX k f fd ps sp)(d:JF k X.A)(g:Binds X.K fd ps ds)(i:IK dvs ds)(j:u4 CX X E)
  (I:Inv X a σ H s) (r:IK vs us) (h:sp (vs++dvs) H Q E):wpAny (model X.prog X.w) X.A (call (.ref f) us) (EP X a σ Q) X.xe s:=by
 have c:IK (vs++dvs) (us++ds):=r.append i;have l:(us++ds).length=ps.length:=by rw[<-c.length];exact F.len _ _ _ _ h
 refine wpAny_call (GO (F.run X.A X.stack s H ⟨us,[]⟩ (us++ds) (vs++dvs) Q E d I.env0 (g s us I.kIn l) c h) fun r m b=>?_);cases r with
 | error e=>exact j a σ H s e m I b
 | ok n =>
  cases n with
  | ret u=>exact I.after b
  | next=>exact False.elim b
  | brk=>exact False.elim b
  | cont=>exact False.elim b
theorem Yh(F:IP X.prog X.w X.K X.mg X.base CX k f fd ps sp)(g:JF k X.A)(i:Gl X x)(j:X.mg x=some (.ref f))(l:PySem.W.keepIn X.K (.ref f)=true)(m:Binds X.K fd ps ds)(n:IK dvs ds)(o:u4 CX X E)
  (u:PA X (e::es) t) (b:(x ==("__debug__":Str))=false:=by decide) (v:starEach (e::es) X.env =(false,eval e X.env)::starEach es X.env:=by rfl) (c:(backTo pos (starEach es X.env)).any (·.1)=false:=by rfl) :
  PE X (.Call (.Name x p) (e::es) [] pos) (Wz sp dvs E t):=by
 intro a s σ H Q I h;refine D_ (Ju I i j ?_ b);refine PySem.W.callWith_K (h₀:=X.base) I.ok.mod.kin l (IY (u pos a s σ H _ I h) fun y z ⟨B,C,d,r,q⟩=>⟨d.kIn,?_⟩) v c;exact Mg F g m n o d r q
theorem D6{pl:Sem Bool}(v:PE X o ta)(c:PH X.K C)(i:QF X.K C m f)(F:IP X.prog X.w X.K X.mg X.base CX k f fd ps sp)(y:JF k X.A)(z:Binds X.K fd ps ds)(B:IK dvs ds)(D:u4 CX X E)(G:PA X (e::es) t)
  (d:starEach (e::es) X.env =(false,eval e X.env)::starEach es X.env:=by rfl) (g:(backTo pos (starEach es X.env)).any (·.1)=false:=by rfl)
  (J:eval (.Call (.Attribute o m apos) (e::es) [] pos) X.env =(do
   let j <-eval o X.env
   standAt apos.atName
   let(f,first) <-holding [j] (getMethod j m pl)
   callWith pos f first (backTo pos (starEach (e::es) X.env)) (backToKw pos (keywordEach [] X.env))):=by rfl) :
  PE X (.Call (.Attribute o m apos) (e::es) [] pos) (zAd C m sp dvs E ta t):=by
 intro b s σ H Q I h;refine PySem.W.methodCall_KW (pl:=pl) (IY (v b s σ H _ I h) fun u L ⟨x,M,n,N,a,S,T,O,P,l,q⟩=>?_) J;subst O;obtain rfl:u=Value.ref a:=N;refine Dh n P c i l ?_;refine PySem.W.callWith_K (first:=[.ref a]) (h₀:=X.base) I.ok.mod.kin i.kp (IY (G pos b L σ M _ n q) fun us U ⟨vs,V,p,r,R⟩=>⟨p.kIn,?_⟩) d g;exact Mg (us:=.ref a::us) (vs:=.ref a::vs) F y z B D p (.cons rfl r) R
theorem En{pl:Sem Bool}(i:PE X o ta)(c:PH X.K C)(e:QF X.K C m f)(F:IP X.prog X.w X.K X.mg X.base CX k f fd ps sp)(j:JF k X.A)(n:Binds X.K fd ps ds)(p:IK dvs ds)(r:u4 CX X E)
  (t:eval (.Call (.Attribute o m apos) [] [] pos) X.env =(do
   let g <-eval o X.env
   standAt apos.atName
   let(f,first) <-holding [g] (getMethod g m pl)
   callWith pos f first (backTo pos (starEach [] X.env)) (backToKw pos (keywordEach [] X.env))):=by rfl) :
  PE X (.Call (.Attribute o m apos) [] [] pos) (zAd C m sp dvs E ta Zs):=by
 intro b s σ H Q I h;refine PySem.W.methodCall_KW (pl:=pl) (IY (i b s σ H _ I h) fun u B ⟨x,D,d,v,a,G,J,y,z,l,q⟩=>?_) t;subst y;obtain rfl:u=Value.ref a:=v;refine Dh d z c e l ?_;exact PySem.W.callWith_K0 (first:=[.ref a]) d.kIn e.kp (Mg (us:=[.ref a]) (vs:=[.ref a]) F j n p r d (.cons rfl .nil) q)
structure Mk(K:PySem.W.Frag)(C f:A4):Prop where
 makes:PySem.W.makesIn K C=true
 init:PySem.W.findIn K (.ref C) "__init__" = some (some (.ref f))
 fn:PySem.W.isFn K (.ref f)=true
 kp:PySem.W.keepIn K (.ref C)=true
theorem Ue{a:A0 (A4×Obj)}{σ:St}{H:Hp}{s:A5}{Q:VK}{us:A0 A3}{vs:A0 V}(M:Mk X.K C f)(F:IP X.prog X.w X.K X.mg X.base CX k f fd ps sp)(j:JF (k+1) X.A)(l:Binds X.K fd ps ds)(m:IK dvs ds)
  (n:u4 CX X E) (I:Inv X a σ H s) (r:IK vs us)
  (h:∀x c,H x=none->H c=none->c≠x->sp (.ref x ::(vs++dvs)) (IB (IB H c (.own x)) x (.ins C c [])) (fun v o=>v = .non/\Q (.ref x) o) E) :
  wpAny (model X.prog X.w) X.A (call (.ref C) us) (EP X a σ Q) X.xe s:=by
 have g:=h (s.heap.objs.size+1) s.heap.objs.size (I.hok.fresh (DV _)) (I.hok.fresh (Nat.le_refl _)) (BA (ED _));have d:=Inv.made (C:=C) I;have i:IK (V.ref (s.heap.objs.size+1) ::(vs++dvs)) (Value.ref (s.heap.objs.size+1) ::(us++ds)):=.cons rfl (r.append m);have p:(Value.ref (s.heap.objs.size+1)::us++ds).length=ps.length:=by
  have e:=i.length;rw[F.len _ _ _ _ g]at e;exact e.symm
 refine wpAny_call (Uo (f:=f) I.kIn M.makes M.init (beq_iff_eq.mp M.fn) (GO (F.run _ X.stack _ _ ⟨Value.ref (s.heap.objs.size+1)::us,[]⟩ (Value.ref (s.heap.objs.size+1) ::(us++ds)) _ _ E (j.make C us [])
  (d.env0.make C us []) (l _ (Value.ref (s.heap.objs.size+1)::us) d.kIn p) i g) fun r q b=>?_))
 cases r with
 | error e=>exact n a σ _ _ e q d b
 | ok t =>
  cases t with
  | ret u =>
   obtain⟨v,y,z,B,D,G⟩:=d.after b;subst D;exact⟨B,⟨V.ref (s.heap.objs.size+1),y,z,rfl,G⟩⟩
  | next=>exact False.elim b
  | brk=>exact False.elim b
  | cont=>exact False.elim b
theorem Qr(M:Mk X.K C f)(F:IP X.prog X.w X.K X.mg X.base CX k f fd ps sp)(g:JF (k+1) X.A)(i:Gl X x)(j:X.mg x=some (.ref C))(l:Binds X.K fd ps ds)(m:IK dvs ds)(n:u4 CX X E)
  (o:PA X (e::es) t) (b:(x ==("__debug__":Str))=false:=by decide) (u:starEach (e::es) X.env =(false,eval e X.env)::starEach es X.env:=by rfl) (c:(backTo pos (starEach es X.env)).any (·.1)=false:=by rfl) :
  PE X (.Call (.Name x p) (e::es) [] pos) (zDg C sp dvs E t):=by
 intro a s σ H Q I h;refine D_ (Ju I i j ?_ b);refine PySem.W.callWith_K (h₀:=X.base) I.ok.mod.kin M.kp (IY (o pos a s σ H _ I h) fun v y ⟨z,B,d,r,q⟩=>⟨d.kIn,?_⟩) u c;exact Ue M F g l m n d r q
end
structure IC(N P:A0 Str)(sc:JB):Prop where
 kind:sc.kind = .function
 co:sc.isCoroutine=false
 gen:sc.isGenerator=false
 nd:N.Nodup
 pre:N.take P.length=P
 par:∀x∈P,sc.names.lookup x=some .local\/sc.names.lookup x=some .cell
 nofree:∀y∈sc.names,y.2≠ .free
def Ft{kindOf:Str->A6 JO}{x:Str}:∀{a:A0 (Str×A3)} {m:Str->A6 A3},(∀v,(x,v)∉a)->bindL kindOf a m x=m x
 | [],_,_=>rfl
 | (n,v)::r,m,h=>by
  unfold bindL;rw[Ft fun w b=>h w (AY _ b)];split
  .have:x≠n:=by rintro rfl;exact h v BH
   simp[this]
  .rfl
def Fp{kindOf:Str->A6 JO}{x:Str}:∀{a:A0 (Str×A3)} {m:Str->A6 A3},(∀v,(x,v)∉a)->bindC kindOf a m x=m x
 | [],_,_=>rfl
 | (n,v)::r,m,h=>by
  unfold bindC;rw[Fp fun w b=>h w (AY _ b)];split
  .rfl
  .have:x≠n:=by rintro rfl;exact h v BH
   simp[this]
def Ia{kindOf:Str->A6 JO}{x:Str}{v:A3}:∀{P:A0 Str} {vs:A0 A3} {i:Nat} {m:Str->A6 A3},P.Nodup->P[i]?=some x->vs[i]?=some v->kindOf x=some .local ->
  bindL kindOf (P.zip vs) m x=some v
 | [],_,_,_,_,h,_,_=>by simp at h
 | _::_,[],_,_,_,_,h,_=>by simp at h
 | p::P,w::vs,0,m,c,a,b,d=>by
  simp at a b;subst a;subst b;show bindL kindOf ((p,w)::P.zip vs) m p=_;unfold bindL;rw[Ft fun v e=>(CL.mp c).1 (FH e).1,AK d];simp
 | p::P,w::vs,i+1,m,c,a,b,d=>by
  show bindL kindOf ((p,w)::P.zip vs) m x=_;unfold bindL;exact Ia (i:=i) (CL.mp c).2 (by simpa using a) (by simpa using b) d
def Gf{kindOf:Str->A6 JO}{x:Str}{v:A3}:∀{P:A0 Str} {vs:A0 A3} {i:Nat} {m:Str->A6 A3},P.Nodup->P[i]?=some x->vs[i]?=some v->kindOf x≠some .local ->
  bindC kindOf (P.zip vs) m x=some v
 | [],_,_,_,_,h,_,_=>by simp at h
 | _::_,[],_,_,_,_,h,_=>by simp at h
 | p::P,w::vs,0,m,c,a,b,d=>by
  simp at a b;subst a;subst b;show bindC kindOf ((p,w)::P.zip vs) m p=_;unfold bindC;rw[Fp fun v e=>(CL.mp c).1 (FH e).1,AJ d];simp
 | p::P,w::vs,i+1,m,c,a,b,d=>by
  show bindC kindOf ((p,w)::P.zip vs) m x=_;unfold bindC;exact Gf (i:=i) (CL.mp c).2 (by simpa using a) (by simpa using b) d
def Ee(N:A0 Str)(vs:A0 V):St:=vs.map some++List.replicate (N.length-vs.length) none
def Zo(g:PZ)(P:F8)(w:H_)(K:PySem.W.Frag)(mg:Str->A6 A3)(base:IA)(N:A0 Str)(b:Str)(a:JB)(f:A4)(d:A3)(A:II)(outer:A0 OU)(s:A5)(H:Hp)(E:XK):Cx where
 prog:=P
 w:=w
 K:=K
 mg:=mg
 base:=base
 A:=A.deeper (envOfC b a s.heap.objs.size f d)
 N:=N
 s₀:=s
 H₀:=H
 env:=envOfC b a s.heap.objs.size f d
 outer:=outer
 stack:=envOfC b a s.heap.objs.size f d::outer
 ex:=[]
 calm:=true
 fn:=fun _=>true
 pn:=[]
 xe:=fun e h=>wpAny (model P w) (A.deeper (envOfC b a s.heap.objs.size f d)) (leaving (envOfC b a s.heap.objs.size f d) e) (fun _ c=>g outer H s E e c) (fun i c=>g outer H s E i c) h
def Mh{a:JB}{n:Nat}{x:Str}(h:a.names.lookup x=some .cell):∃c,(cellsFrom n a.names []).lookup x=some c:=by
 have q:=PySem.W.cellsFrom_some a.names n [] (.inl h);exact DY.mp q
def Qx{I:PZ}{P:F8}{w:H_}{K:PySem.W.Frag}{mg:Str->A6 A3}{base:IA}{N o:A0 Str}{j:Str}{d:JB}{f:A4}{D:A3}{A:II}{g:A0 OU}{s J:A5}{H:Hp}{E:XK}{us:A0 A3}{vs:A0 V}
  (S:IC N o d) (O:A.handled=none) (m:NZ P w K mg base A g s H) (U:vs.length=o.length) (r:IK vs us)
  (x:InCallC s s.heap.objs.size (bindL (envOfC j d s.heap.objs.size f D).kindOf (o.zip us) fun _=>none) (cellsFrom (s.heap.objs.size+1) d.names []) (bindC (envOfC j d s.heap.objs.size f D).kindOf (o.zip us) fun _=>none) J) :
  Inv (Zo I P w K mg base N j d f D A g s H E) [] (Ee N vs) H J:=by
 have Q:o.length<=N.length:=by have:=congrArg List.length S.pre;rw[AX]at this;omega
 obtain⟨F,X,rfl,L⟩:=x.done;have t:∀b:A4,b∉(Zo I P w K mg base N j d f D A g s H E).ex:=fun b z=>absurd (show b∈([]:A0 A4)from z) (by simp);refine⟨⟨m.mod,S.kind,rfl,rfl,Nat.le_refl _,fun y z c F l=>?_,fun y hy=>?_,fun y c _ h=>?_,fun _=>O,Around.frames_deeper m.frames,.inr ⟨rfl,rfl⟩,fun b z=>absurd z (t b),m.bs,m.bsz,fun b _ _=>t b,fun b z=>absurd z (t b),m.funs,m.frf⟩,
  rfl,m.bare,Un.kept L,⟨_,x.toInCall.ns,fun i y v F l Y=>?_⟩,fun y c h=>⟨_,x.cell y c h⟩,m.hok.fresh (Nat.le_refl _),fun y c h=>?_,fun p B=>absurd (show p∈([]:A0 (A4×Obj))from B) (by simp),m.hok.kept L,?_⟩
 .exact name_of_addr x.apart (PySem.mem_of_lookup F) (PySem.mem_of_lookup l)
 .have hy:d.names.lookup y=some .cell\/d.names.lookup y=some .free:=hy;rcases hy with hy | hy
  .exact Mh hy
  .exact absurd rfl (S.nofree _ (PySem.mem_of_lookup hy))
 .exact DZ (x.above y c (PySem.mem_of_lookup h))
 .have G:i<vs.length:=by
   unfold Ee at l;by_cases G:i<vs.length
   .exact G
   .rw[DM (by simpa using G)]at l;rw[List.getElem?_replicate]at l;split at l<;>cases l
  have R:vs[i]?=some v:=by
   unfold Ee at l;rw[DR (by simpa using G),AH]at l;cases e:vs[i]? with
   | none=>rw[e]at l;cases l
   | some a=>rw[e]at l;cases l;rfl
  obtain⟨u,M,T⟩:=r.get R;have B:o[i]?=some y:=by
   rw[<-S.pre,DI (by omega)];exact F
  have C:o.Nodup:=by rw[<-S.pre];exact S.nd.sublist (EW _ _)
  refine⟨u,T,?_⟩;rcases S.par y (AM B)with k | k
  .exact .inl ⟨k,Ia C B M k⟩
  .obtain⟨c,e⟩:=Mh (n:=s.heap.objs.size+1) k;refine .inr ⟨.inl k,c,e,?_⟩;have q:=x.cell y c e;rw[Gf C B M (by show d.names.lookup y≠_;rw[k];decide)]at q;exact q
 .exact m.hok.fresh (DZ (x.above y c (PySem.mem_of_lookup h)))
 .unfold Ee;show _=N.length;rw[AV,AB,List.length_replicate];omega
def zCv{F:PZ}{P:F8}{w:H_}{K:PySem.W.Frag}{mg:Str->A6 A3}{base:IA}{k:Nat}{f:A4}{name d:Str}{h:Arguments}{i:A0 IS}{a:JB}{X kV p Y g ct oc:A3}{Z od:A6 A4}
  {L:CM (A6 A3)} {N G:A0 Str} {sp:Sp} (lk:K.lookup f=some ⟨oc,od,.func (PySem.W.fnOf name d h i a X kV p Y Z g ct),L⟩) (M:PySem.W.codeIn K g d=true) (S:IC N G a)
  (z:∀vs H Q E,sp vs H Q E->vs.length=G.length)
  (j:∀(A:II) (c:A0 OU) (s:A5) (H:Hp) (vs:A0 V) (Q:VK) (E:XK),JF k (A.deeper (envOfC d a s.heap.objs.size f g))->sp vs H Q E ->
   ∃t,OS (Zo F P w K mg base N d a f g A c s H E) i t/\t { nx:=fun _ H'=>Q .non H',rt:=Q } (Ee N vs) H) :
  IP P w K mg base F (k+1) f (PySem.W.fnOf name d h i a X kV p Y Z g ct) G sp:=by
 refine⟨z,fun A c s H args us vs Q E O B hb r C=>?_⟩;have hl:=z _ _ _ _ C;have KX:K.In s.heap:=B.mod.kin.keeps fun b o e=>(B.bs b o e).1;have R:s.heap.NoLimit:=B.mod.nolimit.keeps fun b o e=>(B.bs b o e).1;have l:∀y∈G.zip us,a.names.lookup y.1=some .local\/(a.names.lookup y.1=some .cell/\((cellsFrom (s.heap.objs.size+1) a.names []).lookup y.1).isSome=true):=fun⟨n,v⟩ hy=>by
  rcases S.par n (FH hy).1 with q | q
  .exact .inl q
  .exact .inr ⟨q,PySem.W.cellsFrom_some _ _ _ (.inl q)⟩
 refine codeAny_call_function O.depth (KX _ _ lk) rfl S.co S.gen rfl (PySem.W.codeRec_of KX M) (hb _ _ _ _ ?_);refine wpAny_newFunctionEnv_cells S.kind l fun env he s1 x=>?_;subst he;refine⟨R.keeps x.toInCall.keep,codeAny_func ?_⟩;obtain⟨t,ht,hq⟩:=j A c s H vs Q E (O.deeper _) C;have I:Inv (Zo F P w K mg base N d a f g A c s H E) [] (Ee N vs) H s1:=Qx S O.hd B hl r x;refine CK (ht [] s1 (Ee N vs) H _ I hq) (fun fl T m=>?_) fun e T m=>m;have D:∀{σ':St} {H':Hp} {v:V} {u:A3},Inv (Zo F P w K mg base N d a f g A c s H E) [] σ' H' T->RelV v u->Q v H'->CE c P w H s Q u T :=
  fun{σ' H' v u} J U q=>⟨v,H',J.os,J.bare,J.base,J.hok,U,q⟩
 cases fl with
 | ret u =>
  obtain⟨v,σ',H',J,U,q⟩:=m;exact D J U q
 | next =>
  obtain⟨σ',H',J,q⟩:=m;exact D (v:=V.non) (u:=Value.none) J rfl q
 | brk =>
  obtain⟨_,_,_,q⟩:=m;exact False.elim q
 | cont =>
  obtain⟨_,_,_,q⟩:=m;exact False.elim q
section
variable{X:Cx}{x:Str}{p pos:Pos}{e:IH}{es:A0 IH}{t:TA}{id T:String}{r:A0 V->Hp->VK->Prop}
def QY(r:A0 V->Hp->VK->Prop)(t:TA):TE:=fun σ H Q=>t σ H fun a b=>r a b Q
theorem Tp(d:G9 X (.builtin id) r)(f:Gl X x)(g:X.mg x=none)(i:bootBuiltins x=some (.builtin id))(j:PA X (e::es) t)(k:x≠ "__name__":=by decide)(b:(x ==("__debug__":Str))=false:=by decide)
  (l:starEach (e::es) X.env =(false,eval e X.env)::starEach es X.env:=by rfl) (c:(backTo pos (starEach es X.env)).any (·.1)=false:=by rfl):PE X (.Call (.Name x p) (e::es) [] pos) (QY r t):=by
 intro a s σ H Q I h;refine D_ (Z8 I f g i ?_ k b);exact PyProof.Rows.callWith_builtin1 (IY (j pos a s σ H _ I h) fun m n ⟨o,q,u,v,w⟩=>d a n σ q o m Q u v w) l c
theorem Pn(d:G9 X (.type T) r)(f:Gl X x)(g:X.mg x=none)(i:bootBuiltins x=some (.type T))(j:PA X (e::es) t)(k:x≠ "__name__":=by decide)(b:(x ==("__debug__":Str))=false:=by decide)
  (l:starEach (e::es) X.env =(false,eval e X.env)::starEach es X.env:=by rfl) (c:(backTo pos (starEach es X.env)).any (·.1)=false:=by rfl):PE X (.Call (.Name x p) (e::es) [] pos) (QY r t):=by
 intro a s σ H Q I h;refine D_ (Z8 I f g i ?_ k b);exact PyProof.Rows.callWith_type1 (IY (j pos a s σ H _ I h) fun m n ⟨o,q,u,v,w⟩=>d a n σ q o m Q u v w) l c
theorem Dg(c:G9 X (.type T) r)(d:Gl X x)(e:X.mg x=none)(f:bootBuiltins x=some (.type T))(g:x≠ "__name__":=by decide)(b:(x ==("__debug__":Str))=false:=by decide) :
  PE X (.Call (.Name x p) [] [] pos) (QY r Zs):=by
 intro a s σ H Q I h;refine D_ (Z8 I d e f ?_ g b);exact PyProof.Rows.callWith_type0 (c a s σ H [] [] Q I .nil h)
end
end L2
namespace HT
open PySem PyProof.Rows
def lexLt:A0 Int->A0 Int->Bool
 | [],[]=>false
 | [],_::_=>true
 | _::_,[]=>false
 | x::a,y::b=>if x=y then lexLt a b else decide (x<y)
def Nu(x y:Int)(xs a:A0 Int):lexLt (x::xs) (y::a)=if x=y then lexLt xs a else decide (x<y):=rfl
def Ec:lexLt [] []=false:=rfl
def Ca(y:Int)(a:A0 Int):lexLt [] (y::a)=true:=rfl
def Cd(x:Int)(xs:A0 Int):lexLt (x::xs) []=false:=rfl
def Vo(A:II)(s:A5)(a:Int)(t:Tok)(c:Int)(u:Tok):∃e,SeqAt.EqAt A s (.int a t) (.int c u) e/\(e=true↔a=c) :=
 ⟨(a == c),SeqAt.EqAt.int_int a t c u,by simp⟩
def Us(A:II)(s:A5)(a:Int)(t:Tok)(c:Int)(u:Tok)(prog:F8)(w:H_)(E:A3->A5->Prop)(Q:A3->A5->Prop)(h:Q (.bool (decide (a<c))) s) :
  wpAny (model prog w) A (richCompare .Lt (.int a t) (.int c u)) Q E s :=
 (PyProof.Rows.lt_int h:wpAny (model prog w) A (compareOp .Lt (.int a t) (.int c u)) Q E s)
section
open PySem.SeqAt
open PySem.AutoSeq1 (wpAny_loadPart')
open PySem.MeetsSeq PySem.MeetsSeq2 PySem.MeetsSeq3
def Ew(l b:A4)(items f:CM A3)(n T:Nat)(U L:A6 A4)(V M:CM (A6 A3))(ns G:A0 Int)(hi:IntsAre items.toList ns)(Q:IntsAre f.toList G) :
  Meets (Builtin.«tuple.__lt__» ⟨[.ref l,.ref b],[]⟩)
   (fun _ R s=>s.heap.get? l=some { cls:=.type "tuple",dict:=U,data:=.seq items n,slots:=V }/\s.heap.get? b=some { cls:=.type "tuple",dict:=L,data:=.seq f T,slots:=M } /\
    R (.ok (.ret (.bool (lexLt ns G)))) s) :=
 .of_wp fun p w A R s h=>by
  obtain⟨H,g,d,I,os⟩:=s;obtain⟨W,X,h⟩:=h;have f2:=AutoSeq1.sub_tuple_tuple;have z1:items.size=ns.length:=by rw[<-hi.length];simp
  have z2:f.size=G.length:=by rw[<-Q.length];simp
  wp_walk using wpAny_loadPart' W,wpAny_loadPart' X,wpAny_forIn_list _ (fun r b N=>b.1=none/\N =⟨H,g,d,I,os⟩/\∃(J K:A0 A3) (j k:A0 Int),r=J.zip K /\
   IntsAre J j/\IntsAre K k/\j.length+f.size=k.length+items.size/\R (.ok (.ret (.bool (lexLt j k)))) ⟨H,g,d,I,os⟩) _
  case turn =>
   rintro⟨y,x⟩ r b N ⟨B,rfl,J,K,j,k,m,C,o,i,v⟩;cases C with
   | nil=>rw[List.zip_nil_left]at m;cases m
   | cons a t E =>
    cases o with
    | nil=>rw[List.zip_nil_right]at m;cases m
    | cons c u F =>
     rw[GC]at m;injection m with O D;injection O with Y Z;subst Y Z;rw[Nu]at v;simp only[BJ]at i;obtain⟨e,he,z⟩:=Vo A.in1 ⟨H,g,d,I,os⟩ a t c u;refine AA (he p w _ _ ?_);cases e with
     | true =>
      rw[AK (z.mp rfl)]at v;wp_walk;exact⟨rfl,rfl,_,_,_,_,D,E,F,by omega,v⟩
     | false =>
      rw[AJ (fun q=>absurd (z.mpr q) AZ)]at v;have P:=Us A.in1 ⟨H,g,d,I,os⟩ a t c u p w;wp_walk using P;exact⟨_,rfl,by simpa using v⟩
  case fin =>
   rintro⟨b1,b2⟩ N ⟨B,rfl,J,K,j,k,m,C,o,i,v⟩;simp only at B;subst B;have S:lexLt j k=decide (items.size<f.size):=by
    cases C with
    | nil =>
     cases o with
     | nil =>
      simp only[G_]at i;rw[Ec];exact(BC (by omega)).symm
     | cons c u hw =>
      simp only[G_,BJ]at i;rw[Ca];exact(BD (by omega)).symm
    | cons a t S =>
     cases o with
     | nil =>
      simp only[G_,BJ]at i;rw[Cd];exact(BC (by omega)).symm
     | cons c u hw =>
      rw[GC]at m;cases m
   rw[S]at v;wp_walk;exact⟨_,rfl,by simpa [Builtin.Tuple.tupleCompareSizes] using v⟩
  case h =>
   exact⟨rfl,rfl,items.toList,f.toList,ns,G,rfl,hi,Q,by omega,h⟩
end
section
variable{prog:F8}{w:H_}{A:II}{E:A3->A5->Prop}{s:A5}
theorem OM{l b:A4}{items a:CM A3}{ns c:A0 Int}{Q:A3->A5->Prop}(q:IsTup s.heap l items)(r:IsTup s.heap b a)(hi:IntsAre items.toList ns)(t:IntsAre a.toList c)
  (u:A.units<cLine) (h:Q (.bool (lexLt ns c)) s):wpAny (model prog w) A (compareOp .Lt (.ref l) (.ref b)) Q E s:=by
 obtain⟨⟨v,y,j,z⟩,k,m,n,o⟩:=id q;obtain⟨⟨p,g,data2,i⟩,d,e,B,f⟩:=id r;simp only at m o e f;subst m o e f;exact richCompare_meets_room (op:=.Lt) ⟨_,k,rfl⟩ ⟨_,d,rfl⟩ PySem.F.slot_tuple_lt PySem.F.entry_tuple_lt (PySem.F.args_tuple_lt_2 _ _) (Ew l b items a n B y g z i ns c hi t)
  ⟨k,d,show Value.bool (lexLt ns c)≠Value.notImplemented/\Q (.bool (lexLt ns c)) s from⟨(fun x=>nomatch x),h⟩⟩ u
theorem QC{t b:A4}{vs a:A0 A3}{Q:A3->A5->Prop}(u:IsTup s.heap t vs.toArray)(v:IsTup s.heap b a.toArray)(k:vs≠[])
  (h1:a = []->Q (.ref t) s) (h2:a≠[]->Q (.ref s.heap.objs.size) { s with heap:=s.heap.push { cls:=.type "tuple",data:=.seq (vs++a).toArray } })
  (hsz:vs.length+a.length<=sizeLine):wpAny (model prog w) A (binaryOp .Add (.ref t) (.ref b)) Q E s:=by
 obtain⟨⟨cls,l,data,m⟩,i,o,n,p⟩:=id u;obtain⟨⟨q,d,data2,f⟩,c,g,r,h⟩:=id v;simp only at o p g h;subst o p g h;have e:vs.toArray++a.toArray =(vs++a).toArray:=by simp
 by_cases j:a = []
 .exact concat_meets ⟨_,i,rfl⟩ ⟨_,c,rfl⟩ noFill_tuple_add seq_tuple_add PySem.F.slot_tuple_add PySem.F.entry_tuple_add (PySem.F.args_tuple_add_2 _ _)
   (tuple_addW1 t b vs.toArray a.toArray n r l d m f (by simpa using k) (by simp[j])) ⟨i,c,h1 j⟩
 .refine concat_meets ⟨_,i,rfl⟩ ⟨_,c,rfl⟩ noFill_tuple_add seq_tuple_add PySem.F.slot_tuple_add PySem.F.entry_tuple_add (PySem.F.args_tuple_add_2 _ _)
   (tuple_addW2 t b vs.toArray a.toArray n r l d m f (by simpa using k) (by simpa using j) (by rw[AS,AS];exact hsz)) ⟨i,c,?_⟩
  rw[e];exact h2 j
def OL(n d:Nat):A6 Int->Nat
 | none=>d
 | some v=>if v<0 then(v +(n:Int)).toNat else min v.toNat n
end
end HT
namespace L2
open PySem PySem.Spec PyProof.Rows
abbrev TO:=St->Hp->(A6 Int->Hp->Prop)->Prop
def PO(X:Cx)(e:A6 IH)(t:TO):Prop :=
 ∀(a:A0 (A4×Obj)) (s:A5) (σ:St) (H:Hp) (Q:A6 Int->Hp->Prop),Inv X a σ H s->t σ H Q ->
  wpAny (model X.prog X.w) X.A (evalPart e X.env) (fun u c=>∃o b,Inv X a σ b c/\IsPart u o/\Q o b) X.xe s
def Yv:TO:=fun _ H Q=>Q none H
def zEs(t:TE):TO:=fun σ H Q=>t σ H fun x a=>∃i,x = .int i/\Q (some i) a
def p0{ns:A0 Int}:∀{us:A0 A3},IK (ns.map V.int) us->IntsAre us ns:=by
 induction ns with
 | nil=>intro us r;rw[HG]at r;cases r;exact .nil
 | cons n ns a =>
  intro us r;rw[BB]at r;cases r with
  | cons b c =>
   obtain⟨t,e⟩:=b;subst e;exact .cons n t (a c)
section
variable{X:Cx}{e:IH}{te:TE}{lo hi:A6 IH}{tl th:TO}{pos p2:Pos}
theorem Jz:PO X none Yv:=by
 intro a s σ H Q I h;rw[evalPart_none];exact AE ⟨none,H,I,.none,h⟩
theorem Y6(h:PE X e te):PO X (some e) (zEs te):=by
 intro a s σ H Q I b;rw[evalPart_some];refine IY (h a s σ H _ I b) fun u j ⟨x,c,d,f,g⟩=>?_;obtain⟨i,rfl,q⟩:=g;obtain⟨t,rfl⟩:=f;exact⟨some i,c,d,.int i t,q⟩
def SlR(X:Cx)(r:V->A6 Int->A6 Int->Hp->VK->Prop):Prop :=
 ∀(a:A0 (A4×Obj)) (s:A5) (σ:St) (H:Hp) (x:V) (v b c:A3) (lo hi:A6 Int) (d:A4) (Q:VK),Inv X a σ H s->RelV x v->s.heap.IsSliceOf d b c .none->IsPart b lo->IsPart c hi->r x lo hi H Q ->
  ∃T id,typeLookup (.type T) "__getitem__" = pure (some (.builtin id))/\s.TypeIs v T/\wpAny (model X.prog X.w) X.A (getItem v (.ref d)) (EP X a σ Q) X.xe s
def tSl(r:V->A6 Int->A6 Int->Hp->VK->Prop)(te:TE)(tl th:TO):TE:=fun σ H Q=>te σ H fun x a=>tl σ a fun l b=>th σ b fun u c=>r x l u c Q
theorem Ky{r:V->A6 Int->A6 Int->Hp->VK->Prop}(f:SlR X r)(g:PE X e te)(i:PO X lo tl)(j:PO X hi th):PE X (.Subscript e (.Slice lo hi none p2) pos) (tSl r te tl th):=by
 intro a s σ H Q I h;refine Subscript_ (IY (g a s σ H _ I h) fun v k ⟨x,m,n,o,p⟩=>?_);refine wpAny_Slice (IY (i a k σ m _ n p) fun c t ⟨l,y,z,B,C⟩=>IY (j a t σ y _ z C) fun vu s3 ⟨u,d,D,E,F⟩=>?_);rw[evalPart_none];refine AE ?_;have G:Inv X a σ d { s3 with heap:=s3.heap.push { cls:=.type "slice",data:=.fields #[c,vu,.none] } }:=D.kept (t':=s3.toks) fun b M q=>AD _ q;obtain⟨T,id,J,K,L⟩:=f a { s3 with heap:=s3.heap.push { cls:=.type "slice",data:=.fields #[c,vu,.none] } } σ d x v c vu l u s3.heap.objs.size Q G o (Heap.IsSliceOf.new ..) B E F;show wpAny (model X.prog X.w) X.A (subscriptTail e (.Slice lo hi none p2) v (.ref s3.heap.objs.size)) (EP X a σ Q) X.xe { s3 with heap:=s3.heap.push { cls:=.type "slice",data:=.fields #[c,vu,.none] } };exact tail_any (ops:=[.ref s3.heap.objs.size,v]) K J L (by with_unfolding_all rfl)
def Th(xs:A0 V)(lo hi:A6 Int):A0 V:=(xs.drop (HT.OL xs.length 0 lo)).take (HT.OL xs.length xs.length hi-HT.OL xs.length 0 lo)
theorem Jt(xs:A0 V)(lo hi:A6 Int):(Th xs lo hi).length<=xs.length:=by
 unfold Th;rw[AX,DE];omega
def zFw(K:PySem.W.Frag):R2:=fun x y H Q=>∃a b c d,x = .ref a/\y = .ref b/\JM K H a (c.map V.int)/\JM K H b (d.map V.int)/\Q (.bl (HT.lexLt c d)) H
theorem zCt(i:X.A.units<cLine):J_ X (compareOp .Lt) (zFw X.K):=by
 intro e s σ H x y v u Q I j k h;obtain⟨a,b,f,g,rfl,rfl,l,m,q⟩:=h;cases j;cases k;obtain⟨d,n,o,_⟩:=I.tuple l;obtain⟨c,p,p2,_⟩:=I.tuple m;have r:IntsAre d.toArray.toList f:=p0 n;have t:IntsAre c.toArray.toList g:=p0 p;exact HT.OM o p2 r t i ⟨.bl (HT.lexLt f g),H,I,rfl,q⟩
def zDi(K:PySem.W.Frag):R2:=fun x y H Q=>∃a b d c,x = .ref a/\y = .ref b/\JM K H a d/\JM K H b c/\d≠[]/\d.length+c.length<=sizeLine /\
 (c = []->Q (.ref a) H)/\(c≠[]->∀p,H p=none->Q (.ref p) (IB H p (.tup (d++c))))
theorem IK.nil_iff{xs:A0 V}{us:A0 A3}(r:IK xs us):us = []↔xs = []:=by
 cases r with
 | nil=>simp
 | cons _ _=>simp
theorem Xo:J_ X (binaryOp .Add) (zDi X.K):=by
 intro e s σ H x y v u Q I i j h;obtain⟨a,b,k,l,rfl,rfl,m,n,p,f,r,t⟩:=h;cases i;cases j;obtain⟨A,d,B,_⟩:=I.tuple m;obtain⟨g,c,p2,_⟩:=I.tuple n;refine HT.QC B p2 (fun z=>p (d.nil_iff.mp z)) (fun z=>⟨.ref a,H,I,rfl,r (c.nil_iff.mp z)⟩) (fun z=>?_) (by rw[<-d.length,<-c.length];exact f);refine⟨.ref s.heap.objs.size,_,I.laid (t':=s.toks) (o:=.tup (k++l)) (fun b C q=>AD _ q) (Nat.le_refl _) ?_,rfl,t (fun w=>z (c.nil_iff.mpr w)) _ (I.hok.fresh (Nat.le_refl _))⟩;exact⟨by rw[AV];exact f,_,d.append c,IsTup.new _ _⟩
end
def PM(n:Nat)(i:Int):A6 Nat:=if 0<=i then(if i<n then some i.toNat else none)else if -(n:Int)<=i then some (i+n).toNat else none
def OK{α:Type}(xs:A0 α)(i:Int):A6 α:=(PM xs.length i).bind fun j=>xs[j]?
def Sz{n:Nat}{i:Int}{j:Nat}(h:PM n i=some j):seqIndex? i n=some j/\j<n/\-(n:Int)<=i/\i<n:=by
 unfold PM at h;by_cases b:0<=i
 .rw[AK b]at h;by_cases a:i<n
  .rw[AK a]at h;have e:i.toNat=j:=BG h;exact⟨by rw[seqIndex_of b a,e],by omega,by omega,a⟩
  .rw[AJ a]at h;cases h
 .rw[AJ b]at h;by_cases a:-(n:Int)<=i
  .rw[AK a]at h;have e:(i+n).toNat=j:=BG h;exact⟨by rw[seqIndex_neg (by omega) a,e],by omega,a,by omega⟩
  .rw[AJ a]at h;cases h
def Qi{α:Type}{xs:A0 α}{i:Int}{v:α}(h:OK xs i=some v):∃j,seqIndex? i xs.length=some j/\xs[j]?=some v/\j<xs.length/\-(xs.length:Int)<=i/\i<xs.length:=by
 unfold OK at h;cases e:PM xs.length i with
 | none=>rw[e]at h;cases h
 | some j =>
  rw[e]at h;obtain⟨a,b,c,d⟩:=Sz e;exact⟨j,a,h,b,c,d⟩
def K0{α:Type}{xs:A0 α}{j:Nat}{v:α}(h:xs[j]?=some v):OK xs (j:Int)=some v:=by
 have a:j<xs.length:=(AG.mp h).1;have e:PM xs.length (j:Int)=some j:=by
  unfold PM;rw[AK (by omega),AK (by omega)];simp
 unfold OK;rw[e];exact h
def Vb{α:Type}(xs:A0 α)(v:α):OK (xs ++ [v]) (-1)=some v:=by
 have a:(xs ++ [v]).length=xs.length+1:=by simp
 have e:PM (xs ++ [v]).length (-1)=some xs.length:=by
  unfold PM;rw[a,AJ (by decide),AK (by omega)];congr 1;omega
 unfold OK;rw[e];show(xs ++ [v])[xs.length]?=some v;simp
def Xr(b:IH):Prop:=∀o i,subscripted b false o i=operate [o,i] (getItem o i)
def RS(X:Cx)(r:R2):Prop :=
 ∀(c a:IH) (b:A0 (A4×Obj)) (s:A5) (σ:St) (H:Hp) (x y:V) (v u:A3) (Q:VK),Inv X b σ H s->RelV x v->RelV y u->r x y H Q ->
  subscripted a false v u=operate [v,u] (getItem v u)->wpAny (model X.prog X.w) X.A (subscriptTail c a v u) (EP X b σ Q) X.xe s
def MtR(X:Cx)(id:String)(r:V->A0 V->Hp->VK->Prop):Prop :=
 ∀(a:A0 (A4×Obj)) (s:A5) (σ:St) (H:Hp) (x:V) (b:A0 V) (v:A3) (c:A0 A3) (Q:VK),Inv X a σ H s->RelV x v->IK b c->r x b H Q ->
  wpAny (model X.prog X.w) X.A (call (.builtin id) (v::c)) (EP X a σ Q) X.xe s
section
variable{X:Cx}{a b:IH}{ta tb:TE}{pos:Pos}
theorem E7{r:R2}(d:RS X r)(e:PE X a ta)(f:PE X b tb)(g:Xr b):PE X (.Subscript a b pos) (tOp r ta tb):=by
 intro c s σ H Q I h;exact Subscript_ (zDp e f I h fun v u i x y j k l m q=>d a b c i σ j x y v u Q k l m q (g _ _))
def zFf(K:PySem.W.Frag):R2:=fun x y H Q=>∃p a i v,x = .ref p/\y = .int i/\IG K H p a/\OK a i=some v/\Q v H
def zFl(K:PySem.W.Frag):R2:=fun x y H Q=>∃p a i v,x = .ref p/\y = .int i/\JM K H p a/\OK a i=some v/\Q v H
theorem Yg:RS X (zFf X.K):=by
 intro d e a s σ H x y v u Q I A B h m;obtain⟨p,M,i,z,rfl,rfl,C,D,q⟩:=h;cases A;obtain⟨t,rfl⟩:=B;obtain⟨f,r,g,N⟩:=I.list C;obtain⟨j,c,E,O,F,G⟩:=Qi D;obtain⟨w,n,k⟩:=r.get E;have J:=r.length;have P:=Ct;have b:EP X a σ Q w s:=⟨z,H,I,k,q⟩;by_cases o:0<=i
 .have l:i.toNat=j:=by
   rw[seqIndex_of o G]at c;exact BG c
  exact item_listR g.isList o (by omega) (by rw[l];simpa using n) b m
 .have l:(i +(f.toArray.size:Int)).toNat=j:=by
   rw[seqIndex_neg (by omega) F]at c;rw[AS,<-J];exact BG c
  exact subscriptTail_builtinR (x:=w) g.isList.typeIs slot_list_getitem.lookup
   (wpAny_getItem_list_neg (Q:=fun r L=>r=w/\EP X a σ Q r L) g.isList (by omega) (by rw[AS]<;>omega) (by omega) (by rw[l];simpa using n) ⟨rfl,b⟩) m
theorem zAp:RS X (zFl X.K):=by
 intro b c a s σ H x y v u Q I g k h l;obtain⟨p,F,i,z,rfl,rfl,m,n,q⟩:=h;cases g;obtain⟨t,rfl⟩:=k;obtain⟨o,r,f,G⟩:=I.tuple m;obtain⟨j,A,B,J,L,M⟩:=Qi n;obtain⟨w,C,d⟩:=r.get B;have D:=r.length;have N:=Ct;have e:EP X a σ Q w s:=⟨z,H,I,d,q⟩;exact subscriptTail_builtinR (x:=w) f.typeIs slot_tuple_getitem.lookup
  (getItem_tuple (j:=j) (Q:=fun r E=>r=w/\EP X a σ Q r E) f (by omega) (by omega) (by rw[AS,<-D];exact A) (by simpa using C) ⟨rfl,e⟩) l
theorem Oc(its:A0 A3)(n j:Nat)(u:A3):Obj.mapSeq (·.setIfInBounds j u) { cls:=.type "list",data:=.seq its.toArray n } ={ cls:=.type "list",data:=.seq (its.set j u).toArray n }:=by
 simp[Obj.mapSeq]
theorem Inv.lst{a:A0 (A4×Obj)}{σ:St}{H:Hp}{s:A5}{p:A4}{xs:A0 V}(I:Inv X a σ H s)(h:H p=some (.lst xs)) :
  ∃(its:A0 A3) (n:Nat),IK xs its/\s.heap.get? p=some { cls:=.type "list",data:=.seq its.toArray n }/\xs.length<=sizeLine:=by
 obtain⟨z,its,n,r,e⟩:=I.hok p _ h;exact⟨its,n,r,e,z⟩
theorem Inv.lstUpd{a:A0 (A4×Obj)}{σ:St}{H:Hp}{s:A5}{p:A4}{xs c:A0 V}{its its':A0 A3}{n d:Nat}{f:Obj->Obj}(I:Inv X a σ H s)(h:H p=some (.lst xs))
  (i:s.heap.get? p=some { cls:=.type "list",data:=.seq its.toArray n }) (g:f { cls:=.type "list",data:=.seq its.toArray n } ={ cls:=.type "list",data:=.seq its'.toArray d }) (r:IK c its') (hz:c.length<=sizeLine) (t:Nat) :
  Inv X a σ (IB H p (.lst c)) { s with heap:=s.heap.update p f,toks:=t }:=by
 have e:(s.heap.update p f).get? p=some { cls:=.type "list",data:=.seq its'.toArray d }:=by
  rw[CD f i (by rw[g]<;>rfl),g]
 refine I.write (x:=p) (e:=p) (by rw[h];trivial) (.inl rfl) (fun b u j q=>(BQ _ _ (Ne.symm j)).trans q) ⟨_,e⟩ ?_;exact⟨hz,its',d,r,e⟩
def zEn:V->V->V->Hp->(Hp->Prop)->Prop:=fun o i v H Q=>∃p a k j,o = .ref p/\i = .int k/\H p=some (.lst a)/\PM a.length k=some j/\Q (IB H p (.lst (a.set j v)))
theorem Ad:zFj X zEn:=by
 intro a s σ H o i v E F u Q I y z A h;obtain⟨p,B,k,j,rfl,rfl,g,C,q⟩:=h;cases y;obtain⟨t,rfl⟩:=z;obtain⟨b,n,r,d,D⟩:=I.lst g;obtain⟨c,G,l,m⟩:=Sz C;have e:=r.length;have J:=Ct;have w:Inv X a σ (IB H p (.lst (B.set j v))) { s with heap:=s.heap.update p (Obj.mapSeq (·.setIfInBounds j u)) } :=
  I.lstUpd g d (Oc b n j u) (r.set A j) (by rw[List.length_set];exact D) s.toks
 by_cases x:0<=k
 .have f:k.toNat=j:=by
   rw[seqIndex_of x m]at c;exact BG c
  exact PySem.W.ki_setAt d x (by omega) (by rw[AS,<-e];exact m) (by rw[f];exact⟨_,w,q⟩)
 .have f:(k +(b.toArray.size:Int)).toNat=j:=by
   rw[seqIndex_neg (by omega) l]at c;rw[AS,<-e];exact BG c
  exact PySem.W.ki_setBack d (by omega) (by rw[AS,<-e];exact l) (by omega) (by rw[f];exact⟨_,w,q⟩)
theorem Gk(lo hi:A6 Int)(n:Nat):(sliceBounds lo hi none n).1 =((HT.OL n 0 lo:Nat):Int)/\(sliceBounds lo hi none n).2.1 =((HT.OL n n hi:Nat):Int)/\(sliceBounds lo hi none n).2.2=1:=by
 refine⟨?_,?_,rfl⟩
 .cases lo with
  | none=>simp[sliceBounds,HT.OL]
  | some i =>
   simp only[sliceBounds,HT.OL,Option.getD_none,show(1:Int)>0 by decide,EZ];by_cases h:i<0
   .simp only[h,EZ]<;>omega
   .simp only[h,CN]<;>omega
 .cases hi with
  | none=>simp[sliceBounds,HT.OL]
  | some i =>
   simp only[sliceBounds,HT.OL,Option.getD_none,show(1:Int)>0 by decide,EZ];by_cases h:i<0
   .simp only[h,EZ]<;>omega
   .simp only[h,CN]<;>omega
theorem Eb(its:A0 A3)(lo hi:A6 Int):slicePick its.toArray lo hi none =((its.drop (HT.OL its.length 0 lo)).take (HT.OL its.length its.length hi-HT.OL its.length 0 lo)).toArray:=by
 obtain⟨a,b,c⟩:=Gk lo hi its.toArray.size;unfold slicePick;rw[a,b,c];simp only[sliceRange_one,pick_run,AS]<;>rfl
def zEy(K:PySem.W.Frag):V->A6 Int->A6 Int->Hp->VK->Prop:=fun x lo c H Q=>∃a b,x = .ref a/\IG K H a b/\∀p,H p=none->Q (.ref p) (IB H p (.lst (Th b lo c)))
theorem Yy:SlR X (zEy X.K):=by
 intro f s σ H x v t u lo e w Q I i j k l h;obtain⟨a,c,rfl,m,q⟩:=h;cases i;obtain⟨n,r,g,p⟩:=I.list m;have d:=r.length;refine⟨"list",_,slot_list_getitem.lookup,g.isList.typeIs,?_⟩;refine wpAny_getItem_list_slice g.isList j k l .none (by simp) ?_ (by rw[AS]<;>omega);rw[Eb,<-d];refine⟨.ref s.heap.objs.size,_,I.laid (t':=s.toks) (o:=.lst (Th c lo e)) (fun b y q=>AD _ q) (Nat.le_refl _) ?_,rfl,q _ (I.hok.fresh (Nat.le_refl _))⟩;exact⟨Nat.le_trans (Jt c lo e) p,_,0,(r.drop (HT.OL c.length 0 lo)).take (HT.OL c.length c.length e-HT.OL c.length 0 lo),AN _ rfl⟩
def Bz:V->Bool
 | .non=>true
 | .bl _=>true
 | .int _=>true
 | .str _=>true
 | _=>false
def QJ:V->V->Bool
 | .non,.non=>true
 | .bl a,.bl b=>a == b
 | .bl a,.int b=>(if a then 1 else 0) == b
 | .int a,.bl b=>a ==(if b then 1 else 0)
 | .int a,.int b=>a == b
 | .str a,.str b=>a == b
 | _,_=>false
theorem zBl{A:II}{s:A5}{y x:V}{u v:A3}(e:RelV y u)(c:RelV x v)(g:Bz y=true)(f:Bz x=true):SeqAt.EqAt A s u v (QJ y x):=by
 cases y with
 | non =>
  cases e;cases x with
  | non=>cases c;exact SeqAt.EqAt.same _
  | bl b=>cases c;exact SeqAt.EqAt.none_bool b
  | int b=>obtain⟨t,rfl⟩:=c;exact SeqAt.EqAt.none_int b t
  | str b=>obtain⟨t,rfl⟩:=c;exact SeqAt.EqAt.none_str b t
  | _=>exact absurd (show false=true from f) AZ
 | bl a =>
  cases e;cases x with
  | non=>cases c;exact SeqAt.EqAt.bool_none a
  | bl b=>cases c;exact SeqAt.EqAt.bool_bool a b
  | int b=>obtain⟨t,rfl⟩:=c;exact SeqAt.EqAt.bool_int a b t
  | str b=>obtain⟨t,rfl⟩:=c;exact SeqAt.EqAt.bool_str a b t
  | _=>exact absurd (show false=true from f) AZ
 | int a =>
  obtain⟨d,rfl⟩:=e;cases x with
  | non=>cases c;exact SeqAt.EqAt.int_none a d
  | bl b=>cases c;exact SeqAt.EqAt.int_bool a d b
  | int b=>obtain⟨t,rfl⟩:=c;exact SeqAt.EqAt.int_int a d b t
  | str b=>obtain⟨t,rfl⟩:=c;exact SeqAt.EqAt.int_str a d b t
  | _=>exact absurd (show false=true from f) AZ
 | str a =>
  obtain⟨d,rfl⟩:=e;cases x with
  | non=>cases c;exact SeqAt.EqAt.str_none a d
  | bl b=>cases c;exact SeqAt.EqAt.str_bool a d b
  | int b=>obtain⟨t,rfl⟩:=c;exact SeqAt.EqAt.str_int a d b t
  | str b=>obtain⟨t,rfl⟩:=c;exact SeqAt.EqAt.str_str a d b t
  | _=>exact absurd (show false=true from f) AZ
 | _=>exact absurd (show false=true from g) AZ
def OP(x:V)(u:A3):Bool:=match u with
 | .none=>QJ .non x
 | .bool b=>QJ (.bl b) x
 | .int i _=>QJ (.int i) x
 | .str z _=>QJ (.str z) x
 | _=>false
theorem Wr{x y:V}{u:A3}(r:RelV y u)(f:Bz y=true):OP x u=QJ y x:=by
 cases y with
 | non=>cases r;rfl
 | bl b=>cases r;rfl
 | int i=>obtain⟨t,rfl⟩:=r;rfl
 | str z=>obtain⟨t,rfl⟩:=r;rfl
 | _=>exact absurd (show false=true from f) AZ
theorem Bw{x:V}:∀{xs:A0 V} {us:A0 A3},IK xs us->xs.all Bz=true->us.any (OP x)=xs.any fun y=>QJ y x
 | _,_,.nil,_=>rfl
 | y::xs,u::us,.cons r t,f=>by
  rw[List.all_cons,BT]at f;rw[FP,FP,Wr r f.1,Bw t f.2]
theorem g9{A:II}{s:A5}{x:V}{v:A3}(a:RelV x v)(b:Bz x=true):∀{xs:A0 V} {us:A0 A3},IK xs us->xs.all Bz=true->∀u∈us,SeqAt.EqAt A s u v (OP x u)
 | _,_,.nil,_=>fun u hu=>by cases hu
 | y::xs,u::us,.cons r t,f=>fun c hu=>by
  rw[List.all_cons,BT]at f;rcases AU.mp hu with rfl | hu
  .rw[Wr r f.1];exact zBl r a f.1 b
  .exact g9 a b t f.2 c hu
def RB(x:V)(xs:A0 V):Bool:=xs.any fun y=>QJ y x
def QZ(K:PySem.W.Frag)(neg:Bool):R2:=fun x y H Q=>∃p a,y = .ref p/\(IG K H p a\/JM K H p a)/\Bz x=true/\a.all Bz=true/\Q (.bl (if neg then !RB x a else RB x a)) H
theorem So:J_ X (compareOp .In) (QZ X.K false):=by
 intro e s σ H x y v u Q I f i h;obtain⟨p,k,rfl,hq,g,b,q⟩:=h;cases i;rcases hq with hq | hq
 .obtain⟨a,r,c,j⟩:=I.list hq;refine SeqAt.in_listAt (OP x) c.isList (fun w d=>g9 f g r b w (by simpa using d)) ⟨.bl _,H,I,rfl,?_⟩;rw[show a.toArray.any (OP x)=a.any (OP x) by simp,Bw r b];exact q
 .obtain⟨a,r,c,j⟩:=I.tuple hq;refine SeqAt.in_tupleAt (OP x) c (fun w d=>g9 f g r b w (by simpa using d)) ⟨.bl _,H,I,rfl,?_⟩;rw[show a.toArray.any (OP x)=a.any (OP x) by simp,Bw r b];exact q
theorem Gc:J_ X (compareOp .NotIn) (QZ X.K true):=by
 intro e s σ H x y v u Q I f i h;obtain⟨p,k,rfl,hq,g,b,q⟩:=h;cases i;rcases hq with hq | hq
 .obtain⟨a,r,c,j⟩:=I.list hq;refine SeqAt.notIn_listAt (OP x) c.isList (fun w d=>g9 f g r b w (by simpa using d)) ⟨.bl _,H,I,rfl,?_⟩;rw[show a.toArray.any (OP x)=a.any (OP x) by simp,Bw r b];exact q
 .obtain⟨a,r,c,j⟩:=I.tuple hq;refine SeqAt.notIn_tupleAt (OP x) c (fun w d=>g9 f g r b w (by simpa using d)) ⟨.bl _,H,I,rfl,?_⟩;rw[show a.toArray.any (OP x)=a.any (OP x) by simp,Bw r b];exact q
theorem Gn:G9 X (.builtin "len") (fun xs H Q=>∃p b,xs = [.ref p]/\(IG X.K H p b\/JM X.K H p b)/\Q (.int b.length) H):=by
 intro f s σ H xs j Q I r h;obtain⟨p,b,rfl,hq,q⟩:=h;obtain⟨u,rfl,g⟩:=V8 r;cases g;have k:=Ct;rcases hq with hq | hq
 .obtain⟨c,d,e,i⟩:=I.list hq;have a:=d.length;exact Calls.call_len_list e.isList (by simp only[AS]<;>omega) ⟨.int b.length,H,I.tok _,⟨s.toks+1,by rw[AS,a]⟩,q⟩
 .obtain⟨c,d,e,i⟩:=I.tuple hq;have a:=d.length;exact len_tuple e (by simp only[AS]<;>omega) ⟨.int b.length,H,I.tok _,⟨s.toks+1,by rw[AS,a]⟩,q⟩
theorem Fx:G9 X (.builtin "len") (fun xs H Q=>∃z,xs = [.str z]/\z.length<=sizeLine/\Q (.int z.length) H):=by
 intro a s σ H xs b Q I r h;obtain⟨z,rfl,c,q⟩:=h;obtain⟨u,rfl,t,rfl⟩:=V8 r;have d:=Ct;exact len_str (by omega) ⟨.int z.length,H,I.tok _,⟨_,rfl⟩,q⟩
theorem Ib:G9 X (.type "list") (fun xs H Q=>∃p d,xs = [.ref p]/\(IG X.K H p d\/JM X.K H p d)/\∀l,H l=none->Q (.ref l) (IB H l (.lst d))):=by
 intro i s σ H xs C Q I r h;obtain⟨p,d,rfl,hq,q⟩:=h;obtain⟨u,rfl,B⟩:=V8 r;cases B;have j:∀(a:A0 A3),IK d a->d.length<=sizeLine->∀(c:IA) (f:Nat),(∀b A,s.heap.get? b=some A->c.get? b=some A) ->
   c.get? s.heap.objs.size=some { cls:=.type "list",dict:=none,data:=.seq a.toArray f,slots:=#[] }->EP X i σ Q (.ref s.heap.objs.size) { s with heap:=c }:=fun a g k c f m e =>
  ⟨.ref s.heap.objs.size,_,I.laid (t':=s.toks) m (Nat.le_refl _) (show IR X.prog X.w _ c _ (.lst d)from⟨k,a,f,g,e⟩),rfl,q _ (I.hok.fresh (Nat.le_refl _))⟩
 rcases hq with hq | hq
 .obtain⟨a,g,v,k⟩:=I.list hq;have t:=g.length;obtain⟨o,x,y,n,z⟩:=v.isList;exact call_list_seq p (.inl rfl) x y z (fun c f m e=>j a g k c f m e) (by simp only[AS]<;>omega)
 .obtain⟨a,g,v,k⟩:=I.tuple hq;have t:=g.length;obtain⟨o,x,y,n,z⟩:=v;exact call_list_seq p (.inr rfl) x y z (fun c f m e=>j a g k c f m e) (by simp only[AS]<;>omega)
theorem Eo:G9 X (.type "tuple") (fun xs H Q=>∃p d,xs = [.ref p]/\((IG X.K H p d/\∀l,H l=none->Q (.ref l) (IB H l (.tup d)))\/(JM X.K H p d/\Q (.ref p) H))):=by
 intro a s σ H xs y Q I r h;obtain⟨p,d,rfl,h⟩:=h;obtain⟨u,rfl,t⟩:=V8 r;cases t;rcases h with⟨g,q⟩ | ⟨g,q⟩
 .obtain⟨c,i,j,k⟩:=I.list g;have m:=i.length;refine call_tuple_list j.isList (fun f v=>?_) (by simp only[AS]<;>omega);have n:Inv X a σ H { s with heap:=f }:=I.kept (t':=s.toks) v;have x:Inv X a σ (IB H f.objs.size (.tup d)) { s with heap:=f.push { cls:=.type "tuple",data:=.seq c.toArray } } :=
   n.laid (t':=s.toks) (fun b o e=>AD _ e) (Nat.le_refl _) (show IR X.prog X.w _ _ _ (.tup d)from⟨k,c,i,IsTup.new _ _⟩)
  exact⟨.ref f.objs.size,_,x,rfl,q _ (n.hok.fresh (Nat.le_refl _))⟩
 .obtain⟨c,i,j,k⟩:=I.tuple g;exact call_tuple_same j ⟨.ref p,H,I,rfl,q⟩
def tyV(K:PySem.W.Frag)(T:String)(x:V)(H:Hp):Prop:=match x with
 | .str _=>T = "str"
 | .int _=>T = "int"
 | .ref p=>(T = "list"/\∃b,IG K H p b)\/(T = "tuple"/\∃o,K.lookup p=some o/\o.cls = .type "tuple"/\o.dict=none) \/
   (T = "dict"/\((∃a,H p=some (.dK a))\/∃a,H p=some (.dT a)))\/(T = "set"/\∃S n,H p=some (.set S n))
 | _=>False
theorem zCk{f:A0 (A4×Obj)}{σ:St}{H:Hp}{s:A5}{T:String}{x:V}{v:A3}(I:Inv X f σ H s)(r:RelV x v)(ty:tyV X.K T x H) :
  s.TypeIs v T/\∀a,v = .ref a->∃k,s.heap.get? a=some k/\k.dict=none:=by
 cases x with
 | str z =>
  obtain⟨t,rfl⟩:=r;cases(show T = "str" from ty);exact⟨typeIs_str s z t,fun _ e=>nomatch e⟩
 | int i =>
  obtain⟨t,rfl⟩:=r;cases(show T = "int" from ty);exact⟨typeIs_int s i t,fun _ e=>nomatch e⟩
 | ref p =>
  cases r;rcases ty with⟨rfl,w,m⟩ | ⟨rfl,o,b,q,g⟩ | ⟨rfl,b⟩ | ⟨rfl,S,n,b⟩
  .obtain⟨u,_,l,_⟩:=I.list m;refine⟨l.isList.typeIs,fun a e=>?_⟩;cases e;obtain⟨o,n,e,c,g,_⟩:=l;exact⟨o,e,g⟩
  .refine⟨⟨o,I.kIn p o b,q⟩,fun a e=>?_⟩;cases e;exact⟨o,I.kIn _ o b,g⟩
  .have z:∃o,s.heap.get? p=some o/\o.ExactDict:=by
    rcases b with⟨h,b⟩ | ⟨h,b⟩
    .obtain⟨_,_,_,_,o,_,_,e,d,_⟩:=I.hok p _ b;exact⟨o,e,d⟩
    .obtain⟨_,_,_,_,o,_,_,e,d,_⟩:=I.hok p _ b;exact⟨o,e,d⟩
   obtain⟨o,e,d⟩:=z;refine⟨⟨o,e,d.1⟩,fun a j=>?_⟩;cases j;exact⟨o,e,d.2.1⟩
  .obtain⟨o,_,_,_,e,d,_⟩:=I.hok p _ b;refine⟨⟨o,e,d.1⟩,fun a j=>?_⟩;cases j;exact⟨o,e,d.2.1⟩
 | _=>exact False.elim ty
def tBM(K:PySem.W.Frag)(T:String)(r:V->A0 V->Hp->VK->Prop)(b:TE)(t:TA):TE:=fun σ H Q=>b σ H fun x a=>tyV K T x a/\t σ a fun c d=>r x c d Q
variable{o e:IH}{es:A0 IH}{to:TE}{t:TA}{name:Str}{apos cpos:Pos}{T id:String}{r:V->A0 V->Hp->VK->Prop}
theorem zDy(m:PlainAttrs T)(f:Slot T name id)(i:typeOf (.builtin id)=pure (.type "method_descriptor"))(n:MtR X id r)(p:PE X o to)(q:PA X (e::es) t)
  (c:attributeBase o name X.env (eval o X.env)=eval o X.env:=by rfl)
  (g:((backTo cpos (starEach (e::es) X.env)).all (fun x=>!x.1) &&(backToKw cpos (keywordEach [] X.env)).all (fun x=>x.1.isSome)
   && decide ((e::es).length +([]:A0 Keyword).length +(if([]:A0 Keyword).isEmpty then 0 else 1)<30))=true:=by rfl)
  (d:(apos.endLine == cpos.line)=true:=by rfl) (u:starEach (e::es) X.env =(false,eval e X.env)::starEach es X.env:=by rfl) (b:(backTo cpos (starEach es X.env)).any (·.1)=false:=by rfl) :
  PE X (.Call (.Attribute o name apos) (e::es) [] cpos) (tBM X.K T r to t):=by
 intro a s σ H Q I h;refine wpAny_Call_method_late c g d rfl (IY (p a s σ H _ I h) fun v w ⟨x,y,j,k,ty,z⟩=>?_);obtain⟨A,B⟩:=zCk j k ty;refine⟨T,id,m,f,i,A,B,?_⟩;have l:=q cpos a w σ y _ j z;rw[u]at l⊢;refine Calls.callWith_builtin (by show(false||(backTo cpos (starEach es X.env)).any (·.1))=false;rw[b]<;>rfl) (Calls.evalArgs_plain ?_);exact IY l fun C D ⟨E,F,G,J,L⟩=>n a D σ F x E v C Q G k J L
end
def OY(X:Cx)(id:String)(r:V->A0 V->Hp->VK->Prop):Prop :=
 ∀(a:A0 (A4×Obj)) (s:A5) (σ:St) (H:Hp) (x:V) (b:A0 V) (v:A3) (c:A0 A3) (Q:VK),Inv X a σ H s->RelV x v->IK b c->r x b H Q ->
  wpAny (model X.prog X.w) X.A (call (.builtin id) (v::c)) (EP X a σ Q) X.xe s
def IK.one:∀{x:V} {us:A0 A3},IK [x] us->∃u,us = [u]/\RelV x u
 | _,_,.cons r .nil=>⟨_,rfl,r⟩
def IK.two:∀{x y:V} {us:A0 A3},IK [x,y] us->∃u v,us = [u,v]/\RelV x u/\RelV y v
 | _,_,_,.cons r (.cons q .nil)=>⟨_,_,rfl,r,q⟩
def IK.eraseIdx:∀{xs:A0 V} {us:A0 A3} (i:Nat),IK xs us->IK (xs.eraseIdx i) (us.eraseIdx i)
 | _,_,_,.nil=>.nil
 | _,_,0,.cons _ t=>t
 | _,_,i+1,.cons r t=>.cons r (IK.eraseIdx i t)
def IK.rep{xs:A0 V}{us:A0 A3}(h:IK xs us):∀k:Nat,IK (List.replicate k xs).flatten (List.replicate k us).flatten
 | 0=>.nil
 | k+1=>by
  rw[EG,EG,GL,GL];exact IK.append h (IK.rep h k)
def Ha{α:Type}:∀(l:A0 α) (i:Nat),(l.eraseIdx i).length<=l.length
 | [],_=>Nat.le_refl _
 | _::_,0=>DV _
 | _::r,i+1=>Nat.succ_le_succ (Ha r i)
def Gm(its:A0 A3):∀(k:Nat) (a:A0 A3),
  List.foldl (fun b c=>b++c) a.toArray (List.replicate k its.toArray) =(a ++(List.replicate k its).flatten).toArray
 | 0,a=>by simp
 | k+1,a=>by
  have e:a.toArray++its.toArray =(a++its).toArray:=by simp
  have d:(a++its) ++(List.replicate k its).flatten=a ++(List.replicate (k+1) its).flatten:=by
   rw[EG,GL,BF]
  rw[<-d,<-Gm its k (a++its),<-e,EG,List.foldl_cons]
section
variable{X:Cx}{pins:A0 (A4×Obj)}{σ:St}{H:Hp}{s:A5}{l b:A4}{xs ys zs:A0 V}
theorem Inv.lset{its its':A0 A3}{n:Nat}{f:CM A3->CM A3}{t':Nat}(I:Inv X pins σ H s)(a:H l=some (.lst xs))
  (e:s.heap.get? l=some { cls:=.type "list",data:=.seq its.toArray n }) (b:f its.toArray=its'.toArray) (c:IK ys its') (hz:ys.length<=sizeLine) :
  Inv X pins σ (IB H l (.lst ys)) { s with heap:=s.heap.update l (Obj.mapSeq f),toks:=t' }:=by
 have q:=PySem.IsL.update e f;rw[b]at q;refine I.write (x:=l) (e:=l) (by rw[a];exact trivial) (.inl rfl) (fun h u d g=>(BQ s.heap (Obj.mapSeq f) (Ne.symm d)).trans g) ⟨_,q⟩ ?_;exact⟨hz,its',_,c,q⟩
theorem Inv.lnew{its:A0 A3}{t':Nat}(I:Inv X pins σ H s)(a:IK ys its)(hz:ys.length<=sizeLine) :
  Inv X pins σ (IB H s.heap.objs.size (.lst ys)) { s with heap:=s.heap.push { cls:=.type "list",data:=.seq its.toArray },toks:=t' } :=
 I.laid (fun _ _ q=>AD _ q) (Nat.le_refl _) ⟨hz,its,0,a,AN _ rfl⟩
theorem Inv.fresh(I:Inv X pins σ H s):H s.heap.objs.size=none:=I.hok.fresh (Nat.le_refl _)
theorem Inv.lstM(I:Inv X pins σ H s)(a:H l=some (.lst xs)):xs.length<=sizeLine/\∃(its:A0 A3) (n:Nat),IK xs its/\xs.length=its.length/\s.heap.get? l=some { cls:=.type "list",data:=.seq its.toArray n }:=by
 obtain⟨z,its,n,r,e⟩:=I.hok l _ a;exact⟨z,its,n,r,r.length,e⟩
theorem Ts{n:Nat}(h:n<=sizeLine):Builtin.List.listTooLong n=false:=by
 unfold Builtin.List.listTooLong;exact BC (by omega)
end
section
variable{X:Cx}
def Yd:V->A0 V->Hp->VK->Prop:=fun x b H Q=>∃l a y,x = .ref l/\b = [y]/\H l=some (.lst a)/\a.length<sizeLine/\Q .non (IB H l (.lst (a ++ [y])))
theorem K4:OY X "list.append" Yd:=by
 intro b s σ H x i v j Q I d f h;obtain⟨l,k,y,rfl,rfl,c,m,q⟩:=h;cases d;obtain⟨u,rfl,g⟩:=f.one;obtain⟨z,a,n,r,o,e⟩:=I.lstM c;refine call_meets F.slot_list_append ⟨_,e,rfl⟩ F.entry_list_append (F.args_list_append_2 _ _) (PySem.list_append l a.toArray n u (by rw[AS];omega)) ⟨e,?_⟩;refine⟨.non,_,I.lset (its':=a ++ [u]) c e (by simp) (r.append (.cons g .nil)) ?_,rfl,q⟩;rw[AV,List.length_singleton];omega
def Zv:V->A0 V->Hp->VK->Prop:=fun x b H Q=>∃l a i k y,x = .ref l/\b = [.int i]/\H l=some (.lst a)/\-(2^63)<=i/\i<2^63/\seqIndex? i a.length=some k/\a[k]?=some y/\Q y (IB H l (.lst (a.eraseIdx k)))
theorem Ld:OY X "list.pop" Zv:=by
 intro c s σ H x E v G Q I f g h;obtain⟨l,j,i,k,y,rfl,rfl,d,m,o,p,A,q⟩:=h;cases f;obtain⟨u,rfl,B⟩:=g.one;obtain⟨t,rfl⟩:=B;obtain⟨z,a,n,r,C,e⟩:=I.lstM d;obtain⟨w,D,b⟩:=r.get A;refine call_meets F.slot_list_pop ⟨_,e,rfl⟩ F.entry_list_pop (F.args_list_pop_2 _ _)
  (MeetsSeq.list_pop_at l a.toArray n i t k w (fitsIndex_both m o) (by rw[AS,<-C];exact p) (by rw[<-BK];exact D) (by rw[AS];omega)) ⟨e,?_⟩
 refine⟨y,_,I.lset (its':=a.eraseIdx k) d e ?_ (r.eraseIdx k) ?_,b,q⟩
 .show a.toArray.eraseIdxIfInBounds k =(a.eraseIdx k).toArray;rw[List.eraseIdxIfInBounds_toArray]
 .have:=Ha j k;omega
def zFu:R2:=fun x y H Q=>∃l b a c,x = .ref l/\y = .ref b/\H l=some (.lst a)/\H b=some (.lst c)/\a.length+c.length<=sizeLine/\∀p,H p=none->Q (.ref p) (IB H p (.lst (a++c)))
theorem Mv:J_ X (binaryOp .Add) zFu:=by
 intro d s σ H x y v u Q I f g h;obtain⟨l,b,t,w,rfl,rfl,i,j,A,q⟩:=h;cases f;cases g;obtain⟨z,c,n,r,B,e⟩:=I.lstM i;obtain⟨C,a,D,k,m,o⟩:=I.lstM j;refine PySem.P.add_list e o ?_ (by rw[AS,AS];omega);have p:c.toArray++a.toArray =(c++a).toArray:=by simp
 rw[p];exact⟨.ref _,_,I.lnew (t':=s.toks) (r.append k) (by rw[AV];omega),rfl,q _ I.fresh⟩
def zGi:R2:=fun x y H Q=>∃l k a,x = .ref l/\y = .int k/\H l=some (.lst a)/\-(2^63)<=k/\k<2^63/\a.length*k.toNat<=sizeLine /\
 ∀p,H p=none->Q (.ref p) (IB H p (.lst (List.replicate k.toNat a).flatten))
theorem Ym{α:Type}(xs:A0 α)(k:Nat):(List.replicate k xs).flatten.length=k*xs.length:=by
 induction k with
 | zero=>simp
 | succ k a=>rw[EG,GL,AV,a,Nat.succ_mul,Nat.add_comm]
theorem Wi:J_ X (binaryOp .Mult) zGi:=by
 intro p s σ H x y v u Q I A B h;obtain⟨l,k,L,rfl,rfl,C,D,E,w,q⟩:=h;cases A;obtain⟨t,rfl⟩:=B;obtain⟨z,b,n,r,G,e⟩:=I.lstM C;have d:b.toArray.size*k.toNat<=sizeLine:=by rw[AS,<-G];exact w
 have f:¬b.toArray.size*k.toNat >(2^63-1) / 8:=by
  have:(sizeLine:Nat)<=(2^63-1) / 8:=by decide
  omega
 have g:¬(!Builtin.List.listFitsIndex k)=true:=by
  rw[fitsIndex_both D E];exact AZ
 have c:¬Builtin.List.listTooLong (b.toArray.size*k.toNat)=true:=by
  rw[Ts d];exact AZ
 have i:List.foldl (fun j o=>j++o) #[] (List.replicate (if b.toArray.isEmpty=true then 0 else k.toNat) b.toArray) =(List.replicate k.toNat b).flatten.toArray:=by
  have J:∀m:Nat,List.foldl (fun j o=>j++o) #[] (List.replicate m b.toArray) =(List.replicate m b).flatten.toArray:=fun m=>by
   have:=Gm b m [];rw[List.nil_append]at this;exact this
  rw[J];cases b with
  | nil=>simp
  | cons a M=>rw[AJ (by simp)]
 refine wpAny_binaryOp_repeat_ref (T := "list") (U := "int") (by decide) ⟨_,e,rfl⟩ (fun K=>typeIs_int K k t) noFill_list_mul F.fills_int_mul F.slot_int_rmul repeat_list F.slot_int_index.lookup
  (call_meets F.slot_int_rmul (typeIs_int s k t) F.entry_int_rmul (F.args_int_rmul_2 _ _) (int___rmul___int_list k t l b.toArray n)
   ⟨e,rfl,⟨_,e,rfl⟩,call_meets F.slot_list_mul ⟨_,e,rfl⟩ F.entry_list_mul (F.args_list_mul_2 _ _) (AutoListH.list___mul___list_int_3 l b.toArray n k t g f c) ⟨e,?_⟩⟩)
 rw[i];exact⟨.ref _,_,I.lnew (t':=s.toks) (r.rep k.toNat) (by rw[Ym,Nat.mul_comm];exact w),rfl,q _ I.fresh⟩
end
section
variable{κ:Type}[DecidableEq κ]
def U2(a:A0 (κ×V))(k:κ):A6 V:=(a.find? fun b=>decide (b.1=k)).map (·.2)
def By(a:A0 (κ×V))(k:κ)(v:V):A0 (κ×V) :=
 if(a.any fun b=>decide (b.1=k))=true then a.map (fun b=>if b.1=k then(b.1,v)else b)else a ++ [(k,v)]
theorem M7{p:κ×V}{r:A0 (κ×V)}{k:κ}(e:p.1=k):U2 (p::r) k=some p.2:=by simp[U2,EX,e]
theorem M5{p:κ×V}{r:A0 (κ×V)}{k:κ}(e:¬p.1=k):U2 (p::r) k=U2 r k:=by simp[U2,EX,e]
theorem b9(k:κ):∀a:A0 (κ×V),(a.any fun b=>decide (b.1=k)) =(U2 a k).isSome
 | []=>rfl
 | p::r=>by
  rw[FP];by_cases e:p.1=k
  .simp only[M7 e,BD e,Bool.true_or,Option.isSome_some]
  .rw[M5 e,BC e,Bool.false_or];exact b9 k r
theorem Md(k j:κ)(y:V):∀a:A0 (κ×V),U2 (a.map fun b=>if b.1=k then(b.1,y)else b) j =(U2 a j).map fun x=>if j=k then y else x
 | []=>rfl
 | p::r=>by
  have c:=Md k j y r;rw[BB];by_cases h:p.1=k
  .rw[AK h];by_cases e:p.1=j
   .rw[M7 (p:=(p.1,y)) e,M7 e,Option.map_some,AK (e.symm.trans h)]
   .rw[M5 (p:=(p.1,y)) e,M5 e,c]
  .rw[AJ h];by_cases e:p.1=j
   .rw[M7 (p:=p) e,M7 e,Option.map_some,AJ (fun z=>h (e.trans z))]
   .rw[M5 (p:=p) e,M5 e,c]
theorem Fy(k j:κ)(y:V):∀a:A0 (κ×V),U2 a k=none->U2 (a ++ [(k,y)]) j=if j=k then some y else U2 a j
 | [],_=>by
  by_cases e:k=j
  .rw[AK e.symm];exact M7 (p:=(k,y)) e
  .rw[AJ (fun z=>e z.symm)];exact M5 (p:=(k,y)) e
 | p::r,b=>by
  rw[List.cons_append];have c:¬p.1=k:=fun z=>by rw[M7 z]at b;cases b
  rw[M5 c]at b;have d:=Fy k j y r b;by_cases e:p.1=j
  .rw[M7 e,M7 e,AJ (fun z=>c (e.trans z))]
  .rw[M5 e,M5 e,d]
theorem z8(b:A0 (κ×V))(k j:κ)(y:V):U2 (By b k y) j=if j=k then some y else U2 b j:=by
 unfold By;by_cases a:(b.any fun c=>decide (c.1=k))=true
 .rw[AK a,Md];rw[b9]at a;by_cases e:j=k
  .obtain⟨x,d⟩:=DY.mp a;rw[AK e,e,d,Option.map_some,AK rfl]
  .rw[AJ e];cases U2 b j with
   | none=>rfl
   | some x=>rw[Option.map_some,AJ e]
 .rw[AJ a];refine Fy k j y b ?_;rw[b9]at a;cases q:U2 b k with
  | none=>rfl
  | some x=>rw[q]at a;exact(a rfl).elim
theorem U0(a:A0 (κ×V))(k:κ)(v:V):(By a k v).length<=a.length+1:=by
 unfold By;split
 .rw[AB];omega
 .rw[AV,BJ,G_];omega
theorem Tn{a:A0 (κ×V)}{k:κ}(v:V)(h:U2 a k=none):By a k v=a ++ [(k,v)]:=by
 unfold By;rw[b9,h];exact AJ (by decide)
theorem LM.isSome_eq{o:A6 V}{u:A6 A3}(r:LM o u):o.isSome=u.isSome:=by
 cases o with
 | none=>cases u with
  | none=>rfl
  | some _=>exact(show False from r).elim
 | some _=>cases u with
  | none=>exact(show False from r).elim
  | some _=>rfl
theorem KV.val{a:A0 (κ×V)}{vs:A0 (κ×A3)}(r:KV a vs)(k:κ):LM (U2 a k) (valueAt vs k):=by
 unfold KV at r
 induction r with
 | nil=>exact True.intro
 | @cons p q j c h t g =>
  obtain⟨f,i⟩:=h;by_cases e:p.1=k
  .have d:q.1=k:=f.symm.trans e;have b:valueAt (q::c) k=some q.2:=by simp[valueAt,EX,d]
   rw[M7 e,b];exact i
  .have d:¬q.1=k:=fun z=>e (f.trans z);have b:valueAt (q::c) k=valueAt c k:=by simp[valueAt,EX,d]
   rw[M5 e,b];exact g
theorem KV.any{a:A0 (κ×V)}{vs:A0 (κ×A3)}(r:KV a vs)(k:κ):(a.any fun b=>decide (b.1=k))=vs.any fun b=>decide (b.1=k):=by
 unfold KV at r
 induction r with
 | nil=>rfl
 | cons h t c=>rw[FP,FP,c,h.1]
theorem KV.repl{b:A0 (κ×V)}{vs:A0 (κ×A3)}(r:KV b vs)(k:κ){y:V}{u:A3}(d:RelV y u) :
  KV (b.map fun a=>if a.1=k then(a.1,y)else a) (vs.map fun a=>if a.1=k then(a.1,u)else a):=by
 unfold KV at r⊢
 induction r with
 | nil=>exact .nil
 | @cons p q i j h t f =>
  rw[BB,BB];refine .cons ?_ f;obtain⟨c,g⟩:=h;by_cases e:p.1=k
  .rw[AK e,AK (c.symm.trans e)];exact⟨c,d⟩
  .rw[AJ e,AJ (fun z=>e (c.trans z))];exact⟨c,g⟩
theorem KV.put{a:A0 (κ×V)}{vs:A0 (κ×A3)}(r:KV a vs)(k:κ){y:V}{u:A3}(b:RelV y u):KV (By a k y) (stored vs k u):=by
 unfold By stored;rw[r.any k];by_cases e:(vs.any fun c=>decide (c.1=k))=true
 .rw[AK e,AK e];exact r.repl k b
 .rw[AJ e,AJ e];exact Paired.snoc r ⟨rfl,b⟩
theorem KV.length{a:A0 (κ×V)}{vs:A0 (κ×A3)}(r:KV a vs):a.length=vs.length:=Paired.length r
end
def Js{P:F8}{w:H_}{k:IW}{u:A3}(r:RelV (kV k) u):(C4 P w).is k u=true:=by
 cases k with
 | inl i=>obtain⟨t,e⟩:=(show ∃t,u=Value.int i t from r);subst e;exact Im P w i t
 | inr x=>obtain⟨t,e⟩:=(show ∃t,u=Value.str x t from r);subst e;exact Ja P w x t
def Hw{P:F8}{w:H_}:∀{ks:A0 IW} {us:A0 A3},IK (ks.map kV) us->ItemsAre (C4 P w) ks us
 | [],_,r=>by rw[HG]at r;cases r;exact .nil
 | k::ks,_,r=>by
  rw[BB]at r;cases r with
  | cons h t=>exact .cons (Js h) (Hw t)
abbrev KT(H:Hp):A0 (A0 IW×V)->A0 (A0 IW×A4×A3)->Prop:=Paired fun p q=>p.1=q.1/\H q.2.1=some (.tup (p.1.map kV))/\RelV p.2 q.2.2
def KT.val{H:Hp}{a:A0 (A0 IW×V)}{xs:A0 (A0 IW×A4×A3)}(r:KT H a xs)(k:A0 IW):LM (U2 a k) ((atKey xs k).map (·.2)):=by
 induction r with
 | nil=>exact True.intro
 | @cons p q j c h t g =>
  obtain⟨f,_,i⟩:=h;by_cases e:p.1=k
  .have d:q.1=k:=f.symm.trans e;have b:atKey (q::c) k=some q.2:=by simp[atKey,EX,d]
   rw[M7 e,b];exact i
  .have d:¬q.1=k:=fun z=>e (f.trans z);have b:atKey (q::c) k=atKey c k:=by simp[atKey,EX,d]
   rw[M5 e,b];exact g
def KT.repl{H:Hp}{a:A0 (A0 IW×V)}{xs:A0 (A0 IW×A4×A3)}(r:KT H a xs)(k:A0 IW){y:V}{u:A3}(f:RelV y u) :
  KT H (a.map fun c=>if c.1=k then(c.1,y)else c) (xs.map (putAt k u)):=by
 induction r with
 | nil=>exact .nil
 | @cons p q j l h t g =>
  rw[BB,BB];refine .cons ?_ g;obtain⟨b,d,i⟩:=h;unfold putAt;by_cases e:p.1=k
  .rw[AK e,AK (b.symm.trans e)];exact⟨b,d,f⟩
  .rw[AJ e,AJ (fun z=>e (b.trans z))];exact⟨b,d,i⟩
def KT.put{H:Hp}{a:A0 (A0 IW×V)}{xs:A0 (A0 IW×A4×A3)}(r:KT H a xs)(k:A0 IW){b:A4}{y:V}{u:A3}(d:H b=some (.tup (k.map kV)))(c:RelV y u) :
  KT H (By a k y) (storedH xs k b u):=by
 have e:(a.any fun f=>decide (f.1=k)) =(atKey xs k).isSome:=by
  rw[b9,(r.val k).isSome_eq,Option.isSome_map]
 unfold By storedH;rw[e];by_cases q:(atKey xs k).isSome=true
 .rw[AK q,AK q];exact r.repl k c
 .rw[AJ q,AJ q];exact Paired.snoc r ⟨rfl,d,c⟩
def KT.keeps{H H':Hp}{a:A0 (A0 IW×V)}{xs:A0 (A0 IW×A4×A3)}(r:KT H a xs)(d:∀b c,H b=some (.tup c)->H' b=some (.tup c)):KT H' a xs :=
 Paired.mapP r fun _ _ z=>⟨z.1,d _ _ z.2.1,z.2.2⟩
section
variable{P:F8}{w:H_}{H:Hp}{h:IA}{a:A4}
theorem zAb{u:HO}(b:LD P w H h)(e:Rd H a u):IR P w H h a u:=e.ok b
theorem Ow{b:A0 (IW×V)}(c:LD P w H h)(e:Rd H a (.dK b)):b.length<=sizeLine/\(a == sysModules)=false/\∃vs,KV b vs/\h.DictOf (C4 P w) a vs :=
 show IR P w H h a (.dK b)from zAb c e
theorem Xz{b:A0 (IW×V)}(c:LD P w H h)(e:H a=some (.dK b)):b.length<=sizeLine/\(a == sysModules)=false/\∃vs,KV b vs/\h.DictOf (C4 P w) a vs:=Ow c (.inl e)
theorem w6{ks:A0 IW}(c:LD P w H h)(e:H a=some (.tup (ks.map kV))):(tupleKind (C4 P w)).is h ks a:=by
 obtain⟨_,b,r,o,d,f,n,g⟩:=(show IR P w H h a (.tup (ks.map kV))from c a _ e);exact⟨o,b.toArray,n,d,f,g,by simpa using Hw r⟩
theorem Oo{b:A0 (A0 IW×V)}(d:LD P w H h)(e:Rd H a (.dT b)):b.length<=sizeLine/\(a == sysModules)=false /\
  ∃xs,KT H b xs/\h.DictOfH (tupleKind (C4 P w)) a xs:=by
 obtain⟨z,y,xs,r,o,g,i,j,k,n,s,u⟩:=(show IR P w H h a (.dT b)from zAb d e);refine⟨z,y,xs,r,o,g,i,j,k,n,s,fun x hx=>?_,u⟩;have c:∀{l:A0 (A0 IW×V)} {m:A0 (A0 IW×A4×A3)},KT H l m->∀x∈m,(tupleKind (C4 P w)).is h x.1 x.2.1:=by
  intro l m q
  induction q with
  | nil=>intro x hx;exact nomatch hx
  | @cons p q A B f t v =>
   intro x hx;rcases AU.mp hx with e | hx
   .subst e;exact w6 d (by rw[<-f.1];exact f.2.1)
   .exact v x hx
 exact c r x hx
theorem zDm{b:A0 (A0 IW×V)}(c:LD P w H h)(e:H a=some (.dT b)):b.length<=sizeLine/\(a == sysModules)=false /\
  ∃xs,KT H b xs/\h.DictOfH (tupleKind (C4 P w)) a xs:=Oo c (.inl e)
end
def NA(H:Hp)(a:A4)(y:V)(r:A6 V):Prop :=
 (∃c k,Rd H a (.dK c)/\y=kV k/\r=U2 c k)\/∃c k b,Rd H a (.dT c)/\y = .ref b/\H b=some (.tup (k.map kV))/\r=U2 c k
def zDc(H:Hp)(a:A4)(y v:V)(H':Hp):Prop :=
 (∃c k,H a=some (.dK c)/\y=kV k/\c.length<sizeLine/\H'=IB H a (.dK (By c k v))) \/
 ∃c k b,H a=some (.dT c)/\y = .ref b/\H b=some (.tup (k.map kV))/\c.length<sizeLine/\H'=IB H a (.dT (By c k v))
def NA.k{H:Hp}{a:A4}{b:A0 (IW×V)}{k:IW}(e:H a=some (.dK b)):NA H a (kV k) (U2 b k):=.inl ⟨b,k,.inl e,rfl,rfl⟩
section
variable{X:Cx}{pins:A0 (A4×Obj)}{σ:St}{H:Hp}{s:A5}{a:A4}{y v:V}{u r:A3}{o:A6 V}{A:II}{E:A3->A5->Prop}
theorem Inv.big(I:Inv X pins σ H s):sysModules<s.heap.objs.size:=by
 have h:mainGlobals<s.heap.objs.size:=(I.mod.glob.keeps I.bk).lt;exact Nat.lt_trans (by decide) h
theorem Qw{Q:A3->A5->Prop}(x:A.units+1<cLine)(I:Inv X pins σ H s)(g:NA H a y (some v))(r:RelV y u)(h:∀f t,Inv X pins σ H t->RelV v f->Q f t) :
  wpAny (model X.prog X.w) A (getItem (.ref a) u) Q E s:=by
 rcases g with⟨i,k,e,j,l⟩ | ⟨i,k,b,e,j,B,l⟩
 .subst j;obtain⟨z,C,D,c,m⟩:=Ow I.hok e;obtain⟨f,n,d⟩:=LM.some_of (v:=v) (o:=valueAt D k) (by rw[l];exact c.val k);exact wpAny_getItem_of (Js r) m.mapOf n (h f _ (I.tok _) d)
 .subst j;cases(show u=Value.ref b from r);obtain⟨z,C,F,c,m⟩:=Oo I.hok e;obtain⟨f,n,d⟩:=LM.some_of (v:=v) (o:=(atKey F k).map (·.2)) (by rw[l];exact c.val k);obtain⟨p,G,q⟩:=BL.mp n;refine wpAny_getItem_heap (tupleKind_room_in1 x) (w6 I.hok B) m G ?_;rw[q];exact h f _ (I.tok _) d
theorem Yf{Q:A3->A5->Prop}(p:A.units+1<cLine)(I:Inv X pins σ H s)(g:NA H a y o)(m:RelV y u)(h:∀n,Inv X pins σ H n->Q (.bool (!o.isSome)) n) :
  wpAny (model X.prog X.w) A (compareOp .NotIn u (.ref a)) Q E s:=by
 rcases g with⟨d,k,e,f,l⟩ | ⟨d,k,b,e,f,r,l⟩
 .subst f;obtain⟨z,i,t,c,j⟩:=Ow I.hok e;refine wpAny_notIn_of (Js m) i j.mapOf ?_;rw[<-(c.val k).isSome_eq,<-l];exact h _ (I.tok _)
 .subst f;cases(show u=Value.ref b from m);obtain⟨z,i,v,c,j⟩:=Oo I.hok e;refine wpAny_notIn_heap (tupleKind_room_in1 p) (w6 I.hok r) i j ?_;have q:=(c.val k).isSome_eq;rw[Option.isSome_map]at q;rw[<-q,<-l];exact h _ (I.tok _)
theorem Kb{h':IA}{t':Nat}{c:HO}(I:Inv X pins σ H s)(f:RR (H a))(g:Heap.SameBut a s.heap h')(h:∃q,h'.get? a=some q)(d:IR X.prog X.w (IB H a c) h' a c) :
  Inv X pins σ (IB H a c) { s with heap:=h',toks:=t' } :=
 I.write (x:=a) (e:=a) f (.inl rfl) (fun b q i z=>(g.2 b i).trans z) h d
theorem Vx{P:F8}{w:H_}{H':Hp}{h':IA}{b:A0 (IW×V)}{vs:A0 (IW×A3)}(z:b.length<=sizeLine)(d:(a == sysModules)=false)(c:KV b vs)(e:h'.DictOf (C4 P w) a vs) :
  IR P w H' h' a (.dK b):=⟨z,d,vs,c,e⟩
theorem Sd{H':Hp}{Q:Unit->A5->Prop}(L:A.units+1<cLine)(I:Inv X pins σ H s)(g:zDc H a y v H')(C:RelV y u)(D:RelV v r)(h:∀F,Inv X pins σ H' F->Q () F) :
  wpAny (model X.prog X.w) A (setItem (.ref a) u r) Q E s:=by
 rcases g with⟨d,k,e,m,l,n⟩ | ⟨d,k,b,e,m,G,l,n⟩
 .subst m n;obtain⟨z,o,M,f,p⟩:=Xz I.hok e;have t:M.length<=sizeLine:=by rw[<-f.length];exact z
  have x:(By d k v).length<=sizeLine:=by have:=U0 d k v;omega
  refine wpAny_setItem_pairs (hsz:=t) (Js C) p fun J i B=>h _ ?_;have N:∃q,J.get? a=some q:=let⟨q,_,_,j,_⟩:=i;⟨q,j⟩;exact Kb I (by rw[e];exact True.intro) B N (Vx x o (f.put k D) i)
 .subst m n;cases(show u=Value.ref b from C);obtain⟨z,o,O,f,p⟩:=zDm I.hok e;have t:O.length<=sizeLine:=by rw[<-Paired.length f];exact z
  have x:(By d k v).length<=sizeLine:=by have:=U0 d k v;omega
  refine wpAny_setItem_heap (hsz:=t) (tupleKind_room_in1 L) (w6 I.hok G) p fun J i B=>h _ ?_;obtain⟨q,P,R,j,S,T,U,_,V⟩:=i;refine Kb I (by rw[e];exact True.intro) B ⟨q,j⟩ ⟨x,o,_,(f.put k G D).keeps fun c W K=>?_,q,P,R,j,S,T,U,V⟩;rw[B6 (R9 K e (fun z=>nomatch z))];exact K
end
def zFc(i:IH):Prop:=∀a b,subscripted i false a b=operate [a,b] (getItem a b)
def Yz{prog:F8}{w:H_}{A:II}{E:A3->A5->Prop}{s:A5}{c:OU}{b a:IH}{pos:Pos}{T id:String}{Q:A3->A5->Prop}
  (f:typeLookup (.type T) "__getitem__" = pure (some (.builtin id))) (g:zFc a)
  (h:wpAny (model prog w) A (eval b c) (fun o s₁=>wpAny (model prog w) A (eval a c) (fun i s₂=>s₂.TypeIs o T/\wpAny (model prog w) A (getItem o i) Q E s₂) E s₁) E s) :
  wpAny (model prog w) A (eval (.Subscript b a pos) c) Q E s:=by
 refine Subscript_ (CK h (fun o s₁ h₁=>CK h₁ (fun i s₂ h₂=>?_) fun _ _ x=>x) fun _ _ x=>x);obtain⟨e,h₂⟩:=h₂;unfold subscriptTail;refine AA ?_;rw[getitemInPython_of_ne e.not_modules];refine AA (GF e f ?_);have d:wpAny (model prog w) A (subscripted a false o i) (fun r s₃=>wpAny (model prog w) A (letTemporaryGo b o r >>= fun _=>pure r) Q E s₃) E s₂:=by
  rw[g o i];exact wpAny_operating (CK h₂ (fun r s₃ h₃=>AA (wpAny_letTemporaryGo (AE h₃))) fun _ _ x=>x)
 first
  | exact AE (AA d)
  | exact AA (AE (AA d))
  | exact AA d
def Jq{X:Cx}{c:A0 (A4×Obj)}{σ:St}{H:Hp}{s:A5}{a:A4}{y:V}{o:A6 V}(I:Inv X c σ H s)(g:NA H a y o):s.TypeIs (.ref a) "dict":=by
 rcases g with⟨d,k,e,_,_⟩ | ⟨d,k,b,e,_,_,_⟩
 .obtain⟨_,_,h,_,f⟩:=Ow I.hok e;exact f.typeIs
 .obtain⟨_,_,i,_,f⟩:=Oo I.hok e;exact f.typeIs
def Tw(c ty:TE):TE:=fun σ H Q=>c σ H fun x d=>ty σ d fun y b=>∃a v,x = .ref a/\NA b a y (some v)/\Q v b
def Yq(ty c:TE):TE:=fun σ H Q=>ty σ H fun y d=>c σ d fun x b=>∃a o,x = .ref a/\NA b a y o/\Q (.bl (!o.isSome)) b
def zDv(c ty d:TE):TS:=fun D σ H=>d σ H fun v e=>c σ e fun x f=>ty σ f fun y g=>∃a b,x = .ref a/\zDc g a y v b/\D.nx σ b
section
variable{X:Cx}{o i e value:IH}{pos pos' tpos:Pos}{td ty tv:TE}
theorem K7(e:X.A.units+1<cLine)(f:PE X o td)(hi:PE X i ty)(j:zFc i):PE X (.Subscript o i pos) (Tw td ty):=by
 intro b s σ H Q I h;refine Yz PySem.F.slot_dict_getitem.lookup j (IY (f b s σ H _ I h) fun u k ⟨x,l,m,n,p⟩=>IY (hi b k σ l _ m p) fun B C ⟨y,q,d,r,a,v,t,g,w⟩=>?_);subst t;obtain rfl:u=Value.ref a:=n;exact⟨Jq d g,Qw e d g r fun D E z c=>⟨v,q,z,c,w⟩⟩
theorem Rb(c:X.A.units+1<cLine)(hi:PE X i ty)(d:PE X o td):PC X .NotIn i o (Yq ty td):=by
 intro b s σ H Q I h;refine IY (hi b s σ H _ I h) fun w e ⟨y,f,j,k,l⟩=>IY (d b e σ f _ j l) fun u z ⟨x,m,n,p,a,q,r,g,t⟩=>?_;subst r;obtain rfl:u=Value.ref a:=p;exact Yf c n g k fun B v=>⟨.bl (!q.isSome),m,v,rfl,t⟩
theorem Po(c:X.A.units+1<cLine)(d:PE X o td)(hi:PE X i ty)(e:PE X value tv)(f:swapsWith value (some (.Subscript o i pos')) pos.line X.env=pure false) :
  PS X (.Assign [.Subscript o i pos'] value pos) (zDv td ty tv):=by
 intro b s σ H D I h;refine wpAny_Assign_Subscript (IY (e b s σ H _ I h) fun r j ⟨v,k,l,m,n⟩=>IY (d b j σ k _ l n) fun u p ⟨x,q,t,w,z⟩=>IY (hi b p σ q _ t z) fun K L ⟨y,M,B,C,a,E,F,g,G⟩=>?_) f;subst F;obtain rfl:u=Value.ref a:=w;exact Sd c B g C m fun N J=>⟨σ,E,J,G⟩
end
def My{P:F8}{w:H_}{H:Hp}(h:IA)(a:sysModules<h.objs.size):IR P w H (h.push { cls:=.type "dict",data:=.dict #[] }) h.objs.size (.dK []) :=
 ⟨CF _,beq_eq_false_iff_ne.mpr (Ne.symm (BA a)),[],.nil,Heap.DictOf.new h⟩
def zAt:TE:=fun _ H Q=>∀p,H p=none->Q (.ref p) (IB H p (.dK []))
section
variable{X:Cx}{pos:Pos}
theorem Uv:PE X (.Dict [] [] pos) zAt:=fun b s σ H Q I h =>
 wpAny_Dict_empty ⟨.ref s.heap.objs.size,_,I.laid (a:=s.heap.objs.size) (o:=.dK []) (t':=s.toks) (fun _ _ q=>AD _ q) (Nat.le_refl _) (My s.heap I.big),rfl,h _ (I.hok.fresh (Nat.le_refl _))⟩
end
def IsD(H:Hp)(a:A4):Prop:=(∃b,Rd H a (.dK b))\/∃b,Rd H a (.dT b)
def zCq{X:Cx}{f:A0 (A4×Obj)}{σ:St}{H:Hp}{s:A5}{a:A4}(I:Inv X f σ H s)(d:IsD H a) :
  s.TypeIs (.ref a) "dict"/\(∀b,Value.ref a = .ref b->∃c,s.heap.get? b=some c/\c.dict=none)/\(a == sysModules)=false:=by
 rcases d with⟨h,e⟩ | ⟨h,e⟩
 .obtain⟨_,i,l,_,g⟩:=Ow I.hok e;refine⟨g.typeIs,fun b q=>?_,i⟩;cases q;obtain⟨c,_,_,j,k,_⟩:=g;exact⟨c,j,k.2.1⟩
 .obtain⟨_,i,m,_,g⟩:=Oo I.hok e;refine⟨g.typeIs,fun b q=>?_,i⟩;cases q;obtain⟨c,_,_,j,k,_⟩:=g;exact⟨c,j,k.2.1⟩
end L2
namespace Att
open PySem PySem.W PySem.Calls PyProof.Rows
def Bo{P:Params}{h:IA}:∀(ns:A0 Int) (vs:A0 A3),WellAll P h vs (ns.map WData.int)->IntsAre vs ns:=by
 intro ns
 induction ns with
 | nil =>
  intro vs w;rw[HG]at w;cases w;exact .nil
 | cons n ns c =>
  intro vs w;rw[BB]at w;cases w with
  | cons a b =>
   cases a;exact .cons _ _ (c _ b)
def Ou{l:OpenLaw}{n:Nat}(o:l.most=some n){P:Params}{h:IA}{args:A0 WData}{b:A0 A3}
  (c:l.row.toRowW.claim.pre args=true) (j:WellAll P h b args) :
  ∃a vs ns,b = [Value.ref a]/\args = [WData.list (ns.map WData.int)]/\h.get? a=some { cls:=.type "list",data:=.seq vs.toArray }/\IntsAre vs ns/\ns.length<=n:=by
 have k:WShape.hasAll [] args [.list .int]=true:=(pre_splitW c).1;have m:l.pre.holds [] { args:=args }=true:=(pre_splitW c).2;obtain⟨d,r,rfl,p,s⟩:=hasAllW_cons k;obtain rfl:=hasAllW_nil s;obtain⟨y,rfl,t⟩:=hasW_list p;obtain⟨ns,rfl⟩:=items_int t;have e:ns.length<=n:=by
  unfold OpenLaw.pre at m;have g:(WTm.not (.lt (.lit (.int (n:Int))) (.len (.arg 0)))).holds [] { args:=[.list (ns.map .int)] }=true:=by
   have g:=(holds_andW m).1;rw[o]at g;exact g
  have i:=condW_of g (w_not (w_lt w_lit (w_len_list (w_arg rfl))));rw[AB]at i;refine Nat.le_of_not_lt fun q=>?_;have u:(n:Int) <((ns.length:Nat):Int):=by omega
  first
   | (rw[BD u]at i;exact absurd i (by decide))
   | (simp at i;omega)
 cases j with
 | cons v w =>
  cases w;cases v with
  | list x f=>exact⟨_,_,ns,rfl,rfl,x,Bo ns _ f,e⟩
def Ps(l:OpenLaw)(args:A0 WData):l.row.toRowW.claim.post args (.bool true) args=true :=
 postW_of (r:=l.row.toRowW) (X:=(true == true))
  (show WShape.has [] (.bool true) .bool=true by first | rfl | decide | simp[WShape.has,WShape.arms,WShape.armsAll])
  (show(WTm.eq .res (.lit (.bool true))).value [] { args:=args,res:=some (.bool true),after:=args }=some (.bool (true == true))from w_eq_bool (w_res rfl) w_lit) rfl
def OC{l:OpenLaw}{n:Nat}{q:F8}{b:A0 Str}{z:(Str->A6 A3)->IA->Prop}{A:H_->IA->Prop}{d:DefRec}
  (E:l.most=some n) (p:d.params.defaults = [])
  (call:∀(w:H_) (s₀ s₁:A5) (mg t:Str->A6 A3) (g:A4) (o:Obj) (u k c:A3) (a:A4) (vs:A0 A3) (ns:A0 Int),
   Ground q b [] z w s₀ mg t s₁.heap->A w s₁.heap ->
   s₁.heap.get? g=some o->o.data = .func (docDef d.name d.params d.body d.scope u k c)->s₁.heap.CodeRec k d.name->mg d.name=some (.ref g) ->
   s₁.heap.get? a=some { cls:=.type "list",data:=.seq vs.toArray }->IntsAre vs ns->ns.length<=n->s₁.gens = #[] ->
   codeAny (model l.prog w) callerA (.call (.ref g) ⟨[.ref a],[]⟩) (fun r m=>r = .ok (.ret (.bool true))/\OldK s₁.heap m.heap/\m.os=s₁.os/\AllBare m.gens) s₁) :
  WalkO q b z A l.row.toRowW d [] (fun f vs=>PySem.call f vs):=by
 intro w s₀ s₁ mg t G Y g o u k c F kV H I v B x J args C R h D K y L;obtain rfl:F = .none:=Dflts.none B p;obtain rfl:kV = .none:=Dflts.noKw B;obtain⟨a,vs,ns,rfl,rfl,i,e,j⟩:=Ou E h y;refine enter_call (GO (call w s₀ s₁ mg t g o u k c a vs ns G Y H (fd_plain I) v x i e j J) fun r m M=>?_);obtain⟨rfl,N,O,P⟩:=M;exact⟨.inl ⟨.bool true,.bool true,[],rfl,fun _=>rfl,.bool true,Ps l _,fun _=>⟨List.Pairwise.nil,fun _ Q=>(nomatch Q)⟩⟩,N,O,P⟩
end Att
namespace L2
open PySem PySem.Spec PyProof.Rows
def Fo:∀{vs:A0 A3} {ns:A0 Int},IntsAre vs ns->IK (ns.map V.int) vs
 | _,_,.nil=>.nil
 | _,_,.cons n t h=>.cons ⟨t,rfl⟩ (Fo h)
def K8(s:IS)(j:Nat):IS:=match s with
 | .ClassDef _ _ _ a _ _ _ _ _ _ _=>a.getD j (.Pass ⟨0,0,0,0⟩)
 | _=>.Pass ⟨0,0,0,0⟩
def S0(s:IS):Arguments:=match s with
 | .FunctionDef _ a _ _ _ _ _ _ _ _=>a
 | _=>{ posonlyargs:=[],args:=[],vararg:=none,kwonlyargs:=[],kw_defaults:=[],kwarg:=none,defaults:=[] }
def P0(s:IS):A0 IS:=match s with
 | .FunctionDef _ _ b _ _ _ _ _ _ _=>b
 | _=>[]
def B8(s:IS):JB:=match s with
 | .FunctionDef _ _ _ _ _ _ a _ _ _=>a
 | _=>{ kind:=.function,names:=[],isGenerator:=false,isCoroutine:=false }
abbrev I_:PZ:=fun _ _ _ _ _ _=>False
abbrev E0:XK:=fun _ _ _=>False
def J8{X:Cx}:u4 I_ X E0:=fun _ _ _ _ _ _ _ h=>h.elim
structure OT(K:PySem.W.Frag)(x qual:Str)(st:IS)(f:A4)(fd:IU):Prop where
 ex:∃(oc:A3) (od:A6 A4) (kV doc pm:A3) (an:A6 A4) (cdv ct:A3) (osl:CM (A6 A3)),
  fd=PySem.W.fnOf x qual (S0 st) (P0 st) (B8 st) .none kV doc pm an cdv ct/\K.lookup f=some ⟨oc,od,.func fd,osl⟩/\PySem.W.codeIn K cdv qual=true
 kp:PySem.W.keepIn K (.ref f)=true
section
variable{P:F8}{w:H_}{K:PySem.W.Frag}{mg:Str->A6 A3}{base:IA}
theorem OT.ok{x b:Str}{st:IS}{f:A4}{l:IU}{N e:A0 Str}{k:Nat}{sp:Sp}(F:OT K x b st f l)(S:IC N e (B8 st))(g:∀vs H Q E,sp vs H Q E->vs.length=e.length)
  (d:∀(c:A3) (A:II) (a:A0 OU) (s:A5) (H:Hp) (vs:A0 V) (Q:VK) (E:XK),JF k (A.deeper (envOfC b (B8 st) s.heap.objs.size f c))->sp vs H Q E ->
   ∃t,OS (Zo I_ P w K mg base N b (B8 st) f c A a s H E).nox (P0 st) t/\t { nx:=fun _ H'=>Q .non H',rt:=Q } (Ee N vs) H):IP P w K mg base I_ (k+1) f l e sp:=by
 obtain⟨p,r,kV,m,u,v,c,y,n,rfl,lk,i⟩:=F.ex;refine zCv lk i S g fun A a s H vs Q E o j=>?_;obtain⟨t,h,q⟩:=d c A a s H vs Q E o j;exact⟨t,h.nox,q⟩
theorem OT.binds{x a:Str}{st:IS}{f:A4}{i:IU}{d:A0 Str}(F:OT K x a st f i)
  (h:∀(kV b e:A3) (g:A6 A4) (c ct:A3) (us:A0 A3),us.length=d.length->bindArgs (PySem.W.fnOf x a (S0 st) (P0 st) (B8 st) .none kV b e g c ct) ⟨us,[]⟩=pure (d.zip us)):Binds K i d []:=by
 obtain⟨l,m,kV,b,e,g,c,ct,j,rfl,lk,k⟩:=F.ex;exact .all (h kV b e g c ct)
theorem KQ{x a:Str}{st:IS}{f:A4}{i:A3}{j g:A6 A4}{e:CM (A6 A3)}{kV d h b ct:A3}(l:K.lookup f=some ⟨i,j,.func (PySem.W.fnOf x a (S0 st) (P0 st) (B8 st) .none kV d h g b ct),e⟩)
  (c:PySem.W.codeIn K b a=true) (k:PySem.W.keepIn K (.ref f)=true):OT K x a st f (PySem.W.fnOf x a (S0 st) (P0 st) (B8 st) .none kV d h g b ct):=⟨⟨i,j,kV,d,h,g,b,ct,e,rfl,l,c⟩,k⟩
end
def Y9{A:II}{k:Nat}(a:JF k A):A.units+1<cLine:=Nat.lt_of_le_of_lt (FS (by decide:1<=64) _) a.units
section
variable{X:Cx}
theorem pv(i:Nat){x:Str}{pos:Pos}(b:X.N[i]?=some x:=by rfl)(c:RP X.env.scope x:=by first | exact Or.inl rfl | exact Or.inr (Or.inl rfl) | exact Or.inr (Or.inr rfl))(d:(x ==("__debug__":Str))=false:=by decide)
  (a:(x ==("__classdict__":Str))=false:=by decide):PE X (.Name x pos) (Tr i):=Vr b c d a
end
def u0{A B:Prop}(h:B):if false=true then A else B:=by
 rw[AJ AZ];exact h
def Yp{A B:Prop}(h:A):if true=true then A else B:=by
 rw[AK rfl];exact h
def T8{c A B:Prop}[Decidable c](h1:c->A)(h2:¬c->B):if c then A else B:=by
 by_cases h:c
 .rw[AK h];exact h1 h
 .rw[AJ h];exact h2 h
def HY(H H':Hp):Prop:=∀b o,H b=some o->H' b=some o
def HY.refl(H:Hp):HY H H:=fun _ _ h=>h
def HY.trans{H d e:Hp}(a:HY H d)(b:HY d e):HY H e:=fun c o h=>b c o (a c o h)
def HY.free{H H':Hp}(e:HY H H'){l:A4}(h:H' l=Option.none):H l=Option.none:=by
 cases q:H l with
 | none=>rfl
 | some o =>
  rw[e l o q]at h;cases h
def LL(X:Cx)(a:JB)(cl:A0 (Str×A4))(N':A0 Str)(b:A0 (A4×Obj))(ex:A0 A4)(c:A5)(d:Hp):Cx where
 prog:=X.prog
 w:=X.w
 K:=X.K
 mg:=X.mg
 base:=X.base
 A:=X.A
 N:=N'
 s₀:=c
 H₀:=d
 env:=compEnvC a cl c.heap.objs.size X.env
 outer:=X.stack
 stack:=X.stack
 ex:=ex
 fn:=fun _=>false
 calm:=X.calm
 pn:=X.pn++b
 xe:=fun _ _=>False
def NB(X:Cx)(a:JB)(cl:A0 (Str×A4)):A0 Str->A0 (A6 Nat)->Prop
 | [],[]=>True
 | _::N,none::c=>NB X a cl N c
 | x::N,some j::c=>(X.N[j]?=some x/\X.env.scope.names.lookup x=some .cell/\(relabel a X.env).names.lookup x=some .cell/\cl.lookup x=X.env.cells.lookup x)/\NB X a cl N c
 | _,_=>False
def O_(X:Cx):A0 (Str×A4)->Prop
 | []=>True
 | p::r=>X.env.cells.lookup p.1=some p.2/\O_ X r
structure LY(X:Cx)(scope:JB)(cl:A0 (Str×A4))(N':A0 Str)(cap:A0 (A6 Nat)):Prop where
 kind:scope.kind = .function
 nocell:∀y∈scope.names,y.2≠ .cell
 loc:∀y∈scope.names,y.2 = .local->scope.names.lookup y.1=some .local
 clos:closureFor scope X.env=pure cl
 cin:O_ X cl
 has:((relabel scope X.env).names.all fun y=>!(y.2 == .cell||y.2 == .free)||(cl.lookup y.1).isSome)=true
 caps:NB X scope cl N' cap
def Vw(cap:A0 (A6 Nat))(σ:St):St:=cap.map fun o=>o.bind fun j=>(σ[j]?).join
def O_.get{X:Cx}:∀{cl:A0 (Str×A4)} {x:Str} {c:A4},O_ X cl->cl.lookup x=some c->X.env.cells.lookup x=some c
 | [],_,_,_,h=>by simp at h
 | (y,d)::r,x,c,⟨a,b⟩,h=>by
  rw[HN]at h;cases e:x == y with
  | true =>
   rw[e]at h;cases h;rw[beq_iff_eq.mp e];exact a
  | false =>
   rw[e]at h;exact O_.get b h
def NB.len{X:Cx}{a:JB}{cl:A0 (Str×A4)}:∀{N:A0 Str} {cap:A0 (A6 Nat)},NB X a cl N cap->cap.length=N.length
 | [],[],_=>rfl
 | _::N,none::c,h=>by rw[BJ,BJ,NB.len (N:=N) (cap:=c) h]
 | _::N,some j::c,h=>by rw[BJ,BJ,NB.len h.2]
 | [],_::_,h=>h.elim
 | _::_,[],h=>h.elim
def NB.get{X:Cx}{a:JB}{cl:A0 (Str×A4)}{j:Nat}{x:Str}:∀{N:A0 Str} {cap:A0 (A6 Nat)} {i:Nat},NB X a cl N cap->N[i]?=some x->cap[i]?=some (some j) ->
  X.N[j]?=some x/\X.env.scope.names.lookup x=some .cell/\(relabel a X.env).names.lookup x=some .cell/\cl.lookup x=X.env.cells.lookup x
 | [],_,_,_,h,_=>by simp at h
 | _::_,[],_,_,_,h=>by simp at h
 | y::N,none::c,0,_,_,h=>by simp at h
 | y::N,none::c,i+1,h,b,d=>NB.get (N:=N) (cap:=c) (i:=i) h (by simpa using b) (by simpa using d)
 | y::N,some k::c,0,h,b,d=>by
  simp at b d;subst b;subst d;exact h.1
 | y::N,some k::c,i+1,h,b,d=>NB.get (N:=N) (cap:=c) (i:=i) h.2 (by simpa using b) (by simpa using d)
section
variable{X:Cx}{scope:JB}{cl:A0 (Str×A4)}{N':A0 Str}{cap:A0 (A6 Nat)}{pins:A0 (A4×Obj)}{σ:St}{H3:Hp}{s3:A5}{ex:A0 A4}
theorem Cm{p:JO->Bool}:∀{names:A0 (Str×JO)} {q:Str->JO->Bool} {x:Str} {k:JO},(names.all fun y=>q y.1 y.2)=true->names.lookup x=some k->q x k=true
 | [],_,_,_,_,h=>by simp at h
 | (y,d)::r,q,x,k,a,h=>by
  rw[List.all_cons,BT]at a;rw[HN]at h;cases e:x == y with
  | true =>
   rw[e]at h;cases h;rw[beq_iff_eq.mp e];exact a.1
  | false =>
   rw[e]at h;exact Cm (p:=p) (names:=r) (q:=q) a.2 h
theorem Inv.block(I:Inv X pins σ H3 s3)(S:LY X scope cl N' cap)(hc:X.calm=true)(t:∀b∈ex,Fl X pins H3 b/\∃o,s3.heap.get? b=some o){h1:IA}{T:Nat}
  (G:h1.Ns s3.heap.objs.size (fun _=>none)) (B:∀b o,s3.heap.get? b=some o->h1.get? b=some o) :
  Inv (LL X scope cl N' pins ex s3 H3) [] (Vw cap σ) H3 { s3 with heap:=h1,toks:=T }:=by
 have C:∀b o,s3.heap.get? b=some o->b≠s3.heap.objs.size:=fun b o e=>BA (AI e);have w:∀x c,cl.lookup x=some c->∃v,s3.heap.IsCell c v:=fun x c e=>I.cell x c (S.cin.get e);have A:H3 s3.heap.objs.size=none:=I.hok.fresh (Nat.le_refl _);refine⟨⟨I.ok.mod,?_,I.ok.glob,I.ok.blt,Nat.le_refl _,fun x y c H g=>I.ok.inj x y c (S.cin.get H) (S.cin.get g),fun x U=>?_,fun x c h _=>absurd h AZ,I.ok.hd,I.ok.frames,.inl rfl,fun b D=>?_,I.bs,Nat.le_trans I.ok.bsz I.sz,fun b o e D=>?_,fun b D=>?_,I.stack,I.stkFree⟩,
  rfl,I.bare,Un.kept B,⟨_,G,fun i x v H g e3=>?_⟩,fun x c e=>?_,A,fun x c e=>I.freeC x c (S.cin.get e),fun p V=>?_,I.hok.kept B,?_⟩
 .exact S.kind
 .have q:∀k,(relabel scope X.env).names.lookup x=some k->(!(k == .cell||k == .free)||(cl.lookup x).isSome)=true:=fun k e=>Cm (p:=fun _=>true) (q:=fun a k=>!(k == .cell||k == .free)||(cl.lookup a).isSome) S.has e;have J:(relabel scope X.env).names.lookup x=some .cell\/(relabel scope X.env).names.lookup x=some .free:=U;have:(cl.lookup x).isSome=true:=by
   rcases J with e | e
   .exact q _ e
   .exact q _ e
  exact DY.mp this
 .obtain⟨⟨_,_,_,_,W,_⟩,o,e⟩:=t b D;exact⟨C b o e,fun x c E=>W x c (S.cin.get E)⟩
 .obtain⟨⟨f0,P,Q,f3,_⟩,_⟩:=t b D;rcases f3 with f3 | f3
  .exact I.ok.noex b o e f3
  .have:=(I.ok.bs b o e).1;exact absurd (BE (AI this) f3) (CQ _)
 .intro K;obtain⟨⟨_,P,Q,_⟩,_⟩:=t b D;rcases AU.mp (I.stkSub b K)with z | z
  .exact P z
  .exact Q z
 .unfold Vw at g;rw[AH]at g;cases E:cap[i]? with
  | none=>rw[E]at g;cases g
  | some o =>
   rw[E]at g;cases o with
   | none=>cases g
   | some j =>
    have f:(σ[j]?).join=some v:=BG g;obtain⟨Y,R,Z,c4⟩:=S.caps.get H E;have F:σ[j]?=some (some v):=by
     cases F:σ[j]? with
     | none=>rw[F]at f;cases f
     | some z=>rw[F]at f;cases z with
      | none=>cases f
      | some z=>cases f;rfl
    obtain⟨m,hn,hl⟩:=I.loc;obtain⟨u,r,l⟩:=hl j x v Y F (.inr (.inl R));refine⟨u,r,?_⟩;rcases l with⟨k,_⟩ | ⟨_,c,L,s⟩
    .have:X.env.scope.names.lookup x=some .local:=k;rw[R]at this;cases this
    .exact .inr ⟨.inl Z,c,c4.trans L,let⟨o,M,N⟩:=s;⟨o,B _ _ M,N⟩⟩
 .obtain⟨v,o,M,N⟩:=w x c e;exact⟨v,o,B _ _ M,N⟩
 .have O:p∈X.pn++pins:=by simpa [LL] using V
  obtain⟨e,n,ne,nf,d⟩:=I.pin p O;refine⟨B _ _ e,n,C _ _ e,fun K=>?_,d⟩;rcases AU.mp (I.stkSub p.1 K)with z | z
  .exact ne z
  .exact nf z
 .unfold Vw;rw[AB];exact S.caps.len
theorem Inv.unblock{σ':St}{H':Hp}{s':A5}{h':IA}(I:Inv X pins σ H3 s3)(g:∀b∈ex,Fl X pins H3 b)(J:Inv (LL X scope cl N' pins ex s3 H3) [] σ' H' s')(f:Heap.SameBut s3.heap.objs.size s'.heap h') :
  Inv X pins σ H' { s' with heap:=h' }:=by
 have d:H' s3.heap.objs.size=none:=J.free;refine I.call' (ch:=ex) J.os ⟨fun b o e n h a=>?_,fun b o e n h a=>?_,fun b o e n a=>?_,fun b o e a=>?_,J.base.tups,J.base.frzs,J.base.tbls⟩ (fun b j e=>?_) J.bare fun b i=>?_
 .exact(f.2 b (BA (AI e))).trans (J.base.keep b o e n h a)
 .obtain⟨k,q⟩:=J.base.slot b o e n h a;exact⟨k,(f.2 b (BA (AI e))).trans q⟩
 .exact J.base.free b o e n a
 .obtain⟨l,q⟩:=J.base.there b o e a;exact⟨l,(f.2 b (BA (AI e))).trans q⟩
 .refine(J.hok b j e).stay (fun c u m q=>(f.2 c ?_).trans q) (fun _ q=>q) fun _ _ q=>q;rintro rfl;rcases m with z | z
  .rw[<-z,d]at e;cases e
  .rw[d]at z;cases z
 .obtain⟨_,p,_,r,s,t⟩:=g b i;exact⟨r,p,s,t⟩
end
def Ln(e:IH)(d:Nat)(iter tg:IH)(ifs:A0 IH)(b:Sem Fin->Sem Fin)(g f:A3)(a:OU):Sem Fin:=do
 standAt iter.pos
 match <-pyNext g with
 | none=>pure (.done .next)
 | some v =>
  letOwnedTupleGo tg g v
  assign tg a v
  let mut h:=true
  for c in ifs do
   if h then h <-isTrue c a (eval c a)
  if h then b (again (.compLoop e d g f a))else again (.compLoop e d g f a)
def emL(a:IH)(b:A3)(c:OU)(k:Sem Fin):Sem Fin:=(do let _ <-call (.builtin "list.append") [b,<-eval a c]:Sem Unit) >>= fun _=>k
def emD(a b:IH)(D:A4)(c:OU)(k:Sem Fin):Sem Fin:=(do
   let d <-eval a c
   let e <-holding [d] (eval b c)
   standAt { a.pos with endLine:=b.pos.endLine,endCol:=b.pos.endCol }
   holding [d,e] (dictSet D d e):Sem Unit) >>= fun _=>k
def Dc(b tg iter:IH)(ifs:A0 IH)(a:JB)(pos:Pos)(e c:A3)(d:OU) :
  compTurn (.ListComp b [⟨tg,iter,ifs,0⟩] a pos) 0 e c d=Ln (.ListComp b [⟨tg,iter,ifs,0⟩] a pos) 0 iter tg ifs (emL b c d) e c d:=rfl
def Nx(k v tg iter:IH)(ifs:A0 IH)(a:JB)(pos:Pos)(c:A3)(D:A4)(b:OU) :
  compTurn (.DictComp k v [⟨tg,iter,ifs,0⟩] a pos) 0 c (.ref D) b=Ln (.DictComp k v [⟨tg,iter,ifs,0⟩] a pos) 0 iter tg ifs (emD k v D b) c (.ref D) b:=rfl
abbrev PV:=St->Hp->(St->Hp->Prop)->Prop
def PEm(X:Cx)(b:Sem Fin->Sem Fin)(t:PV):Prop :=
 ∀(a:A0 (A4×Obj)) (s:A5) (σ:St) (H:Hp) (Q:St->Hp->Prop) (k:Sem Fin) (F:Fin->A5->Prop) (E:A3->A5->Prop),Inv X a σ H s->t σ H Q ->
  (∀c σ' d,Inv X a σ' d c->Q σ' d->wpAny (model X.prog X.w) X.A k F E c)->wpAny (model X.prog X.w) X.A (b k) F E s
def RC(X:Cx)(ifs:A0 IH)(t:TT):Prop :=
 ∀(a:A0 (A4×Obj)) (s:A5) (σ:St) (H:Hp) (Q:Bool->Hp->Prop),Inv X a σ H s->t σ H Q ->
  wpAny (model X.prog X.w) X.A (forIn ifs true fun c r=>if r=true then do let b <-isTrue c X.env (eval c X.env);pure (ForInStep.yield b)else pure (ForInStep.yield r)) (TP X a σ Q) X.xe s
def Cb:TT:=fun _ H Q=>Q true H
def K1{X:Cx}:RC X [] Cb:=fun _ _ _ H _ I h=>wpAny_tests_nil ⟨H,I,h⟩
def W2{X:Cx}{c:IH}{t:TT}(h:PT X c t):RC X [c] t:=fun a s σ H Q I q=>wpAny_tests_one (h a s σ H Q I q)
def Jx(g:TG)(e:TT)(f:PV)(J:It)(σ:St)(H:Hp)(Q:St->Hp->Prop):Prop :=
 ∃W:Nat->Nat->St->Hp->Prop,(∃m,W 0 m σ H)/\∀i m σ H,W i m σ H->(J.stop i H/\Q σ H)\/(J.go i H/\∀x c,J.yld i H x c->g x σ c fun σ2 h=>e σ2 h fun b d =>
  if b=true then f σ2 d fun σ3 j=>∃a,a < m/\W (i+1) a σ3 j else ∃a,a < m/\W (i+1) a σ2 d)
section
variable{X:Cx}{e tg iter:IH}{d:Nat}{ifs:A0 IH}{emit:Sem Fin->Sem Fin}{it:A4}{acc:A3}{g:TG}{tc:TT}{em:PV}{J:It}{fp:A0 A4}{tn:Nat->IA->Prop}{R:Result->A5->Prop}
theorem Bd(G:X.A.under (.compLoop e d (.ref it) acc X.env)=X.A)(t:(model X.prog X.w).den (.compLoop e d (.ref it) acc X.env) =(compTurn e d (.ref it) acc X.env).onRaise (fun x=>do noteFrame x X.env;theTreesLotGoes x))(V:X.calm=true)(L:X.xe=fun _ _=>False)(M:compTurn e d (.ref it) acc X.env=Ln e d iter tg ifs emit (.ref it) acc X.env)(hg:PG X tg g)(ht:RC X ifs tc)(N:PEm X emit em)
  (T:MO X.prog X.w X.K tg J fp it tn) {a:A0 (A4×Obj)} {s:A5} {σ:St} {H:Hp} {Q:St->Hp->Prop} (I:Inv X a σ H s) (st:tn 0 s.heap) (Y:∀b∈fp,Fl X a H b) (h:Jx g tc em J σ H Q)
  (hR:∀v σ' H',Inv X a σ' H' v->Q σ' H'->R (.ok .next) v):codeAny (model X.prog X.w) X.A (.compLoop e d (.ref it) acc X.env) R s:=by
 obtain⟨W,⟨m0,w0⟩,y⟩:=h;have c:∀{H':Hp},(∀b∈fp,H' b=none)->∀b∈fp,Fl X a H' b:=fun hn b f=>⟨hn b f,(Y b f).2⟩;have Z:∀{α:Type} {m:Sem α} {P:α->A5->Prop} {E:A3->A5->Prop} {s:A5},wpAny (model X.prog X.w) X.A m P X.xe s->wpAny (model X.prog X.w) X.A m P E s:=fun q=>by
  rw[L]at q;exact CK q (fun _ _ z=>z) fun _ _ z=>z.elim
 refine codeAny_loop rfl (fun n v=>∃i σ' H',Inv X a σ' H' v/\tn i v.heap/\(∀b∈fp,H' b=none)/\W i n σ' H') (fun n s3 hI=>?_) m0 ⟨0,σ,H,I,st,fun b f=>(Y b f).1,w0⟩;obtain⟨i,σ3,D,I3,B,C,w3⟩:=hI;rw[G,t];refine wpAny_noted ?_;rw[M];unfold Ln;refine AA (GI (AA ?_));rcases y i n σ3 D w3 with⟨stop,qn⟩ | ⟨go,step⟩
 .refine CK (T.done X rfl rfl rfl V i a s3 σ3 D _ I3 (c C) B stop) (fun r s4 ⟨O,I4⟩=>?_) fun _ _ z=>z;subst O;exact AE (hR s4 σ3 D I4 qn)
 .refine CK (T.item X rfl rfl rfl V i a s3 σ3 D _ I3 (c C) B go) (fun r s4 ⟨u,O,h4⟩=>?_) fun _ _ z=>z;subst O;refine AA (CK h4 (fun _ s5 ⟨x,H5,I5,r5,y5,j,S⟩=>?_) fun _ _ z=>z);have U:=I5.pinned (c S) (T.obj _ _ j);have again:∀{σ7:St} {k:Hp} {l:A5},Inv X (a++Ho fp s5.heap) σ7 k l->(∃F,F < n/\W (i+1) F σ7 k)->∃m,m<n/\∃i σ' H',Inv X a σ' H' l/\tn i l.heap/\(∀b∈fp,H' b=none)/\W i m σ' H':=fun{σ7 k l} p n7=>by
   obtain⟨F,hm,w7⟩:=n7;refine⟨F,hm,i+1,σ7,k,p.unpinned,T.keep _ _ _ j fun b f o e=>(p.pin (b,o) (BI _ (BI _ (X3 f e)))).1,fun b f=>?_,w7⟩;obtain⟨o,e,d⟩:=T.obj _ _ j b f;exact(p.pin (b,o) (BI _ (BI _ (X3 f e)))).2.1
  refine AA (CK (Z (hg _ s5 σ3 H5 x u _ U r5 (step x H5 y5))) (fun _ s6 ⟨σ6,H6,I6,q6⟩=>?_) fun _ _ z=>z);refine AA (CK (Z (ht _ s6 σ6 H6 _ I6 q6)) (fun ok l ⟨k,p,q7⟩=>?_) fun _ _ z=>z);cases ok with
  | false=>exact AE ⟨rfl,again p q7⟩
  | true =>
   exact N _ l σ6 k _ _ _ _ p q7 fun s8 σ8 H8 I8 q8=>AE ⟨rfl,again I8 q8⟩
theorem Cz(f:X.A.under (.compStart e d (.ref it) acc X.env)=X.A)(b:(model X.prog X.w).den (.compStart e d (.ref it) acc X.env) =(compStart e d (.ref it) acc X.env).onRaise (fun x=>do noteFrame x X.env;standAt theWindowsPlace)){gs:A0 Comprehension}(g:clausesOf e=gs)(k:gs[d]?=some ⟨tg,iter,ifs,0⟩){s:A5}(T:MO X.prog X.w X.K tg J fp it tn)(st:tn 0 s.heap)
  (h:codeAny (model X.prog X.w) X.A (.compLoop e d (.ref it) acc X.env) R s):codeAny (model X.prog X.w) X.A (.compStart e d (.ref it) acc X.env) R s:=by
 refine codeAny_of_tree ?_;rw[f,b];refine wpAny_notedAt ?_;unfold compStart;rw[g,k];show wpAny _ X.A (ask >>= _) _ _ s;refine AA (GP (wpAny_ite ?_));have j:=T.self X.A 0 s (fun a c=>codeAny (model X.prog X.w) X.A (.compLoop e d a acc X.env) R c) (notedBy (model X.prog X.w) X.A X.env fun x c=>R (.error x) c) st h;split
 .first
   | exact AA (AE (AE (And.intro rfl h)))
   | exact AE (And.intro rfl h)
 .first
   | exact AA (EO (AA (GI (AA (CK j (fun a c i=>AE (And.intro rfl i)) fun _ _ x=>x)))))
   | (refine AA (EO ?_);show wpAny _ _ (standAt iter.pos >>= _) _ _ s;exact AA (GI (AA (CK j (fun a c i=>AE (And.intro rfl i)) fun _ _ x=>x))))
end
section
variable{X:Cx}{tg iter:IH}{ifs:A0 IH}{g:TG}{tc:TT}{em:PV}{scope:JB}{cl:A0 (Str×A4)}{N':A0 Str}{cap:A0 (A6 Nat)}{pos:Pos}{wi:TI}
def Rr(wi:TI)(o:A4->HO)(cap:A0 (A6 Nat))(b:A4->It->St->Hp->(St->Hp->Prop)->Prop):TE:=fun σ H Q=>wi σ H fun J a=>∀D,a D=none->b D J (Vw cap σ) (IB a D (o D)) fun _ c=>Q (.ref D) c
theorem Mq{e:IH}{gs:A0 Comprehension}{newAcc:Sem A3}{p2:Pos}(r:clausesOf e =⟨tg,iter,ifs,0⟩::gs)(o:A4->HO)(hs:∀x,foldedSetIterable iter X.env x=pure x)(S:LY X scope cl N' cap)(hc:X.calm=true)(hi:PI X tg iter wi)
  {lp:A4->It->St->Hp->(St->Hp->Prop)->Prop}
  (t:∀(a:A0 (A4×Obj)) (s:A5) (σ:St) (H:Hp) (Q:A3->A5->Prop) (E:A3->A5->Prop),Inv X a σ H s->(∀l,Inv X a σ (IB H s.heap.objs.size (o s.heap.objs.size)) l->(∀b f,s.heap.get? b=some f->l.heap.get? b=some f)->Q (.ref s.heap.objs.size) l)->wpAny (model X.prog X.w) X.A newAcc Q E s)
  (L:∀(a:A0 (A4×Obj)) (M:A0 A4) (s3:A5) (N:Hp) (D k:A4) (fp:A0 A4) (u:Nat->IA->Prop) (J:It) (σ:St) (s:A5) (H:Hp) (Q:St->Hp->Prop) (R:Result->A5->Prop),
   MO X.prog X.w X.K tg J fp k u->Inv (LL X scope cl N' a M s3 N) [] σ H s->u 0 s.heap->(∀b∈fp,Fl (LL X scope cl N' a M s3 N) [] H b)->lp D J σ H Q ->
   (∀l σ' H',Inv (LL X scope cl N' a M s3 N) [] σ' H' l->Q σ' H'->R (.ok .next) l) ->
   codeAny (model X.prog X.w) X.A (.compLoop e 0 (.ref k) (.ref D) (compEnvC scope cl s3.heap.objs.size X.env)) R s)
  (O:∀k D g,X.A.under (.compStart e 0 (.ref k) (.ref D) g)=X.A) (B:∀k D g,(model X.prog X.w).den (.compStart e 0 (.ref k) (.ref D) g) =(compStart e 0 (.ref k) (.ref D) g).onRaise (fun x=>do noteFrame x g;standAt theWindowsPlace))
  (P:∀E Q s,wpAny (model X.prog X.w) X.A (comprehension e scope X.env p2 newAcc false (eval iter X.env)) Q E s->wpAny (model X.prog X.w) X.A (eval e X.env) Q E s) :
  PE X e (Rr wi o cap lp):=by
 intro a s σ H Q I h;refine P _ _ _ (wpAny_comprehension_free (use:=none) r hs S.clos S.kind S.loc (IY (hi a s σ H _ I h) fun v s1 C=>IY C fun itv i h2=>?_));obtain⟨k,fp,u,J,q,U,I2,T,F,f2,R2⟩:=h2;subst U;refine t a i σ q _ _ I2 fun s3 V k3=>?_;have hD:q i.heap.objs.size=none:=I2.hok.fresh (Nat.le_refl _);have n:∀b∈fp,Fl X a (IB q i.heap.objs.size (o i.heap.objs.size)) b/\∃f,s3.heap.get? b=some f:=fun b j=>by
  obtain⟨f,e,_⟩:=T.obj _ _ F b j;obtain⟨W,fr⟩:=f2 b j;exact⟨⟨by rw[B6 (BA (AI e))];exact W,fr⟩,f,k3 b f e⟩
 refine wpAny_newFunctionEnv S.nocell (by intro y hy;simp at hy) (fun C Y Z=>?_) S.kind;have hk:∀b f,s3.heap.get? b=some f->C.get? b=some f:=fun b f e=>(Z.2 b (BA (AI e))).trans (AD _ e);have I4:Inv (LL X scope cl N' a fp s3 (IB q i.heap.objs.size (o i.heap.objs.size))) [] (Vw cap σ) (IB q i.heap.objs.size (o i.heap.objs.size)) { s3 with heap:=C,toks:=s3.toks +([]:A0 (Str×A3)).length } :=
  V.block S hc n Y hk
 have G:u 0 C:=T.keep 0 _ _ F fun b j f e=>hk b f (k3 b f e);refine Cz (X:=LL X scope cl N' a fp s3 (IB q i.heap.objs.size (o i.heap.objs.size))) (gs:=⟨tg,iter,ifs,0⟩::gs) (e:=e) (d:=0) (tg:=tg) (iter:=iter) (ifs:=ifs) (O _ _ _) (B _ _ _) r rfl T G ?_;refine L a fp s3 _ i.heap.objs.size k fp u J (Vw cap σ) _ _ _ _ T I4 G (fun b j=>?_) (R2 _ hD) fun l σ' H' I' q'=>?_
 .obtain⟨⟨W,f1,f2',f3,f4,f5⟩,f,eo⟩:=n b j;refine⟨W,BA (AI eo),fun hf=>?_,.inl j,fun x c e=>f4 x c (S.cin.get e),fun p hp=>f5 p (by simpa [LL] using hp)⟩;rcases AU.mp (V.stkSub b hf)with z | z
  .exact f1 z
  .exact f2' z
 .obtain⟨m,hn,_⟩:=I'.loc;exact⟨m,hn,fun h' j=>⟨.ref _,H',V.unblock (fun b j=>(n b j).1) I' j,rfl,q'⟩⟩
end
section
variable{X:Cx}{tg iter elt:IH}{ifs:A0 IH}{g:TG}{tc:TT}{te:TE}{scope:JB}{cl:A0 (Str×A4)}{N':A0 Str}{cap:A0 (A6 Nat)}{pos:Pos}{wi:TI}
def Cg(D:A4)(te:TE):PV:=fun σ H Q=>te σ H fun y b=>∃a,b D=some (.lst a)/\a.length<sizeLine/\Q σ (IB b D (.lst (a ++ [y])))
theorem Mf{α:Type}{X:Cx}(a:X.xe=fun _ _=>False){m:Sem α}{P:α->A5->Prop}{E:A3->A5->Prop}{s:A5}(q:wpAny (model X.prog X.w) X.A m P X.xe s):wpAny (model X.prog X.w) X.A m P E s:=by
 rw[a]at q;exact CK q (fun _ _ z=>z) fun _ _ z=>z.elim
theorem Mi{D:A4}(b:X.xe=fun _ _=>False)(d:PE X elt te):PEm X (emL elt (.ref D) X.env) (Cg D te):=by
 intro a s σ H Q k F E I h e;unfold emL;refine AA (AA (CK (Mf b (d a s σ H _ I h)) (fun u f ⟨y,g,i,j,l,m,n,o⟩=>?_) fun _ _ z=>z));refine AA (CK (Mf b (K4 a f σ g (.ref D) [y] (.ref D) [u] (fun v c=>v = .non/\Q σ c) i rfl (.cons j .nil) ⟨D,l,y,rfl,rfl,m,n,rfl,o⟩)) (fun v p ⟨t,c,q,w,_,r⟩=>?_) fun _ _ z=>z);exact AE (e p σ c q r)
theorem X0(S:LY X scope cl N' cap)(i:X.calm=true)(hi:PI X tg iter wi)
  (j:∀(a:A0 (A4×Obj)) (c:A0 A4) (d:A5) (f:Hp),PG (LL X scope cl N' a c d f) tg g/\RC (LL X scope cl N' a c d f) ifs tc/\PE (LL X scope cl N' a c d f) elt te)
  (k:∀x,foldedSetIterable iter X.env x=pure x:=by intro _;rfl) :
  PE X (.ListComp elt [⟨tg,iter,ifs,0⟩] scope pos) (Rr wi (fun _=>.lst []) cap fun D J σ H Q=>Jx g tc (Cg D te) J σ H Q):=by
 refine Mq (newAcc:=newList []) (p2:=firstIterPos [⟨tg,iter,ifs,0⟩] pos) rfl (fun _=>.lst []) k S i hi (fun a s σ H Q E I h=>?_) (fun a c d f D q r t J σ s H Q R T I st l h m=>?_) (fun _ _ _=>rfl) (fun _ _ _=>rfl) (fun E Q s h=>h)
 .refine HV ?_;exact h _ (I.lnew (t':=s.toks) (its:=[]) .nil (CF _)) fun b u e=>AD _ e
 .obtain⟨n,o,p⟩:=j a c d f;exact Bd (X:=LL X scope cl N' a c d f) rfl rfl i rfl (Dc elt tg iter ifs scope pos _ _ _) n o (Mi rfl p) T I st l h m
def Tz(D:A4)(c d:TE):PV:=fun σ H Q=>c σ H fun y e=>d σ e fun v b=>∃a k,b D=some (.dK a)/\y=kV k/\a.length<sizeLine/\Q σ (IB b D (.dK (By a k v)))
theorem Vl{D:A4}{a b:IH}{j m:TE}(d:X.xe=fun _ _=>False)(o:PE X a j)(p:PE X b m):PEm X (emD a b D X.env) (Tz D j m):=by
 intro c s σ H Q k F E I h t;unfold emD;refine AA (AA (CK (Mf d (o c s σ H _ I h)) (fun u w ⟨y,x,A,B,C⟩=>?_) fun _ _ z=>z));refine AA (BS (CK (Mf d (p c w σ x _ A C)) (fun r G ⟨v,W,n,J,f,kk,e,K,l,L⟩=>?_) fun _ _ z=>z));refine AA (GI (BS ?_));subst K;obtain⟨z,M,N,g,O⟩:=Xz n.hok e;have P:N.length<=sizeLine:=by rw[<-g.length];exact z
 have R:(By f kk v).length<=sizeLine:=by have:=U0 f kk v;omega
 refine wpAny_dictSet_pairs (hsz:=P) (Js B) O fun S i T=>?_;have U:∃q,S.get? D=some q:=let⟨q,_,_,V,_⟩:=i;⟨q,V⟩;exact t _ σ _ (Kb (t':=G.toks+1) n (by rw[e];exact True.intro) T U (Vx R M (g.put kk J) i)) L
theorem Ox{a b:IH}{j k:TE}(S:LY X scope cl N' cap)(l:X.calm=true)(hi:PI X tg iter wi)
  (m:∀(c:A0 (A4×Obj)) (d:A0 A4) (f:A5) (i:Hp),PG (LL X scope cl N' c d f i) tg g/\RC (LL X scope cl N' c d f i) ifs tc/\PE (LL X scope cl N' c d f i) a j/\PE (LL X scope cl N' c d f i) b k)
  (n:∀x,foldedSetIterable iter X.env x=pure x:=by intro _;rfl) :
  PE X (.DictComp a b [⟨tg,iter,ifs,0⟩] scope pos) (Rr wi (fun _=>.dK []) cap fun D J σ H Q=>Jx g tc (Tz D j k) J σ H Q):=by
 refine Mq (newAcc:=newDict) (p2:=firstIterPos [⟨tg,iter,ifs,0⟩] pos) rfl (fun _=>.dK []) n S l hi (fun c s σ H Q E I h=>?_) (fun c d f i D y z A J σ s H Q R T I st p h r=>?_) (fun _ _ _=>rfl) (fun _ _ _=>rfl) (fun E Q s h=>h)
 .refine DW ?_;exact h _ (I.laid (a:=s.heap.objs.size) (o:=.dK []) (t':=s.toks) (fun _ _ q=>AD _ q) (Nat.le_refl _) (My s.heap I.big)) fun b B e=>AD _ e
 .obtain⟨t,u,v,w⟩:=m c d f i;exact Bd (X:=LL X scope cl N' c d f i) rfl rfl l rfl (Nx a b tg iter ifs scope pos _ _ _) t u (Vl rfl v w) T I st p h r
end
instance:LawfulBEq IW where
 rfl {a}:=by cases a with
  | inl i=>show(i == i)=true;simp
  | inr x=>show(x == x)=true;simp
 eq_of_beq {a b} h:=by
  cases a with
  | inl i=>cases b with
   | inl j=>exact congrArg Sum.inl (eq_of_beq (show(i == j)=true from h))
   | inr j=>exact absurd h (by intro z;cases z)
  | inr i=>cases b with
   | inl j=>exact absurd h (by intro z;cases z)
   | inr j=>exact congrArg Sum.inr (eq_of_beq (show(i == j)=true from h))
def Oh(P:F8)(w:H_)(a:A4)(l:A0 IW):HO:=.ext fun h=>h.SetOf (C4 P w) a (fun k=>decide (k∈l)) l.length
section
variable{X:Cx}{pins:A0 (A4×Obj)}{σ:St}{H:Hp}{s:A5}{a:A4}{l:A0 IW}
theorem zCs{P:F8}{w:H_}{H:Hp}{h:IA}(z:h.SetOf (C4 P w) a (fun k=>decide (k∈l)) l.length):IR P w H h a (Oh P w a l) :=
 ⟨z,let⟨o,_,_,_,e,_⟩:=z;⟨o,e⟩,fun d f ⟨o,b,c,t,e,r⟩ k=>⟨o,b,c,t,k o e,r⟩⟩
theorem Inv.set(I:Inv X pins σ H s)(e:H a=some (Oh X.prog X.w a l)):s.heap.SetOf (C4 X.prog X.w) a (fun k=>decide (k∈l)) l.length:=by
 obtain⟨z,_⟩:=(show IR X.prog X.w H s.heap a (Oh X.prog X.w a l)from I.hok a _ e);exact z
theorem Mx{k:IW}{u:A3}(r:RelV (kV k) u):u.scannable=true:=by
 cases k with
 | inl i=>obtain⟨t,rfl⟩:=r;rfl
 | inr x=>obtain⟨t,rfl⟩:=r;rfl
def zDd(l:A0 IW)(k:IW):A0 IW:=if k∈l then l else l ++ [k]
theorem Jo{P:F8}{w:H_}{h:IA}{S b:IW->Bool}{n c:Nat}(z:h.SetOf (C4 P w) a S n)(e:∀k,b k=S k)(en:c=n):h.SetOf (C4 P w) a b c:=by
 have:b=S:=funext e;subst this;subst en;exact z
theorem Ss:G9 X (.type "set") (fun xs H Q=>xs = []/\∀p,H p=none->Q (.ref p) (IB H p (Oh X.prog X.w p []))):=by
 intro pins s σ H xs c Q I r h;obtain⟨rfl,q⟩:=h;cases r;refine call_set_0 fun a=>⟨.ref s.heap.objs.size,_,I.laid (t':=s.toks) (fun b o e=>AD _ e) (Nat.le_refl _) (zCs ?_),rfl,q _ (I.hok.fresh (Nat.le_refl _))⟩;exact(setObjOf_fresh a).setOf (AN _ rfl) (by decide)
def zAj(P:F8)(w:H_):V->A0 V->Hp->VK->Prop:=fun x b H Q=>∃a l k,x = .ref a/\b = [kV k]/\H a=some (Oh P w a l)/\l.length+1<4096/\Q .non (IB H a (Oh P w a (zDd l k)))
theorem zAs:OY X "set.add" (zAj X.prog X.w):=by
 intro pins s σ H x r v t Q I g i h;obtain⟨a,l,k,rfl,rfl,c,j,q⟩:=h;cases g;obtain⟨u,rfl,d⟩:=i.one;refine call_set_add (Js d) (Mx d) (I.set c) j fun y m z=>?_;refine⟨.non,_,I.write (x:=a) (e:=a) (t':=s.toks+1) (by rw[c];exact True.intro) (.inl rfl) (fun b q n e=>(m.2 b n).trans e) (let⟨o,_,_,_,e,_⟩:=z;⟨o,e⟩) (zCs (Jo z (fun p=>?_) ?_)),rfl,q⟩
 .unfold zDd;by_cases e:k∈l
  .rw[AK e];by_cases f:p=k
   .subst f;simp[e]
   .simp[f]
  .rw[AJ e];simp
 .unfold zDd;by_cases e:k∈l
  .rw[AK e];simp[e]
  .rw[AJ e];simp[e]
def zEz(P:F8)(w:H_)(neg:Bool):R2:=fun x y H Q=>∃a l k,y = .ref a/\x=kV k/\H a=some (Oh P w a l)/\Q (.bl (if neg then !decide (k∈l)else decide (k∈l))) H
theorem Qq:J_ X (compareOp .In) (zEz X.prog X.w false):=by
 intro pins s σ H x y v u Q I b c h;obtain⟨a,l,k,rfl,rfl,d,q⟩:=h;cases c;exact wpAny_inSet_of (Js b) (Mx b) (I.set d) ⟨.bl (decide (k∈l)),H,I.tok _,rfl,q⟩
end
def Its(x:Str):It:=⟨fun i _=>i<x.cps.size,fun i H v a=>a=H/\∃c,x.cps[i]?=some c/\v = .str ⟨#[c]⟩,fun i _=>i=x.cps.size⟩
def Kv{P:F8}{w:H_}{K:PySem.W.Frag}{tg:IH}(a:A4)(x:Str)(t:Tok)(ty:String)(p:["enumerate", "zip", "dict_itemiterator", "dict_reverseitemiterator", "odict_iterator", "itertools.zip_longest", "itertools.pairwise"].contains ty=false)
  (W:∀R:II,R.handled=none->Walks P w R a [a] [a] x.cps.size (SignAt x) (fun i h=>h.IsStrIter a ty x t i))
  (g:∀(A:II) (i:Nat) (s:A5) (Q:A3->A5->Prop) (E:A3->A5->Prop),s.heap.IsStrIter a ty x t i->Q (.ref a) s->wpAny (model P w) A (pyIter (.ref a)) Q E s):MO P w K tg (Its x) [a] a (fun i h=>h.IsStrIter a ty x t i) where
 mem:=by simp
 obj:=fun i h st b j=>by
  have e:b=a:=by simpa using j
  subst e;obtain⟨o,e,c,d⟩:=st;exact⟨o,e,fun v z=>by rw[d]at z;cases z⟩
 keep:=fun i h m st k=>let⟨o,e,r⟩:=st;⟨o,k a (by simp) o e,r⟩
 item:=by
  intro X q y B C i f s σ H E I n st D;subst q y B;obtain⟨F,G,S,J,L,M⟩:=n a (by simp);refine(W X.A (I.ok.hd C)).item i s _ _ D st fun v m N T l k=>?_;obtain⟨c,u,U,V⟩:=T;have Y:Inv X f σ H { s with heap:=m,toks:=N }:=I.turned (fun b o j e=>k b o (by simpa using j) e) F G J L M;obtain⟨o,e,Z,d⟩:=id l;exact⟨v,rfl,Nb (s:={ s with heap:=m,toks:=N }) e Z d p ⟨.str ⟨#[c]⟩,H,Y,⟨u,V⟩,⟨rfl,c,U,rfl⟩,l,fun b j=>(n b j).1⟩⟩
 done:=by
  intro X q y B C i f s σ H E I n st D;subst q y B;obtain⟨F,G,S,J,L,M⟩:=n a (by simp);have O:i=x.cps.size:=D;subst O;exact(W X.A (I.ok.hd C)).done s _ _ st fun m N k=>⟨rfl,I.turned (fun b o j e=>k b o (by simpa using j) e) F G J L M⟩
 self:=fun A i s Q E st h=>g A i s Q E st h
section
variable{X:Cx}{tg:IH}
def zGk(a:TE):TI:=fun σ H R=>a σ H fun x b=>∃z,x = .str z/\R (Its z) b
theorem zBn{l:IH}{k:TE}(n:PE X l k):PI X tg l (zGk k):=by
 intro a s σ H R I h;refine IY (n a s σ H _ I h) fun v s1 ⟨x,p,g,r,u⟩=>?_;obtain⟨z,e,q⟩:=u;subst e;obtain⟨t,rfl⟩:=r;have f:∀(o:Obj) (ty:String),o.cls = .type ty->o.data = .fields #[.str z t,.int (0:Nat) 0]->o.isFreed=false->MO X.prog X.w X.K tg (Its z) [s1.heap.objs.size] s1.heap.objs.size (fun i h=>h.IsStrIter s1.heap.objs.size ty z t i) ->
   PIE X a σ tg R (.ref s1.heap.objs.size) { s1 with heap:=s1.heap.push o }:=fun o ty c d y T=>by
  refine⟨s1.heap.objs.size,[s1.heap.objs.size],_,_,p,rfl,g.kept (t':=s1.toks) fun b o e=>AD _ e,T,⟨o,AN _ y,c,d⟩,fun b B=>?_,q⟩;have e:b=s1.heap.objs.size:=by simpa using B
  subst e;exact g.fpOk (Nat.le_refl _) (g.hok.fresh (Nat.le_refl _))
 cases m:z.cps.all (· < 128)
 .exact wpAny_pyIter_wide m (f _ _ rfl rfl rfl (Kv _ z t "str_iterator" (by decide) (fun C j=>Walks.strWide j _ z t) fun A i s Q E st h=>wpAny_pyIter_striter_wide st h))
 .exact wpAny_pyIter_ascii m (f _ _ rfl rfl rfl (Kv _ z t "str_ascii_iterator" (by decide) (fun C j=>Walks.strAscii j _ z t) fun A i s Q E st h=>wpAny_pyIter_striter_ascii st h))
end
section
variable{X:Cx}
theorem Tl(E:X.calm=true):G9 X (.builtin "all") (fun xs H Q=>∃(p:A4) (bs:A0 Bool),xs = [.ref p]/\IG X.K H p (bs.map V.bl)/\Q (.bl (bs.all id)) H):=by
 intro B s σ H xs M Q I r h;obtain⟨p,bs,rfl,F,q⟩:=h;obtain⟨u,rfl,t⟩:=V8 r;cases t;obtain⟨a,w,x,N⟩:=I.list F;refine call_all_walk (FO x.isList ?_);have y:p≠s.heap.objs.size:=by
  obtain⟨o,n,e,_⟩:=x;exact BA (AI e)
 refine⟨s.heap.objs.size,_,_,_,_,_,fun i=>bs.getD i true,rfl,Walks.list (A:=X.A.in1) (show X.A.in1.handled=none from I.ok.hd E) _ p y a.toArray,⟨⟨_,AN _ rfl,rfl,rfl⟩,?_⟩,fun i v O P R G J=>?_,fun S T k=>?_⟩
 .obtain⟨o,n,e,c,d,L⟩:=x;exact⟨o,AD _ e,c,n,L⟩
 .have f:(bs.map V.bl)[i]?=some (V.bl (bs.getD i true))/\RelV (V.bl (bs.getD i true)) v:=by
   have g:a[i]?=some v:=by simpa using G
   have j:i<a.length:=(AG.mp g).1;have m:=w.length;rw[AB]at m;have e:(bs.map V.bl)[i]?=some (V.bl (bs.getD i true)):=by
    rw[AH,AC (by omega)];simp[AQ,AC (show i<bs.length by omega)]
   obtain⟨u,C,t⟩:=w.get e;rw[g]at C;cases C;exact⟨e,t⟩
  cases f.2;exact DG J
 .have m:=w.length;rw[AB]at m;have e:(List.range a.toArray.size).all (fun i=>bs.getD i true)=bs.all id:=by
   rw[AS,<-m];rw[BZ,EQ,EQ];constructor
   .intro z b f;obtain⟨i,j,rfl⟩:=FK.mp f;have:=z i (BW.mpr j);simpa [AQ,AC j] using this
   .intro z i j;have l:=BW.mp j;have:=z bs[i] (FU l);simpa [AQ,AC l] using this
  rw[e];exact⟨.bl (bs.all id),H,I.kept fun b o D=>k b o (by
   intro f;have:b=s.heap.objs.size:=by simpa using f
   exact absurd (AI D) (by rw[this];exact CQ _)) (AD _ D),rfl,q⟩
theorem De:∀{a:A0 Str} {us:A0 A3},IK (a.map V.str) us->StrsAre us a
 | [],_,.nil=>.nil
 | _::_,_,.cons ⟨t,e⟩ r=>by subst e;exact .cons _ _ (De r)
def ON(a b:Str):Prop:=¬b.cps.toList<a.cps.toList
theorem Fw:G9 X (.builtin "sorted") (fun xs H Q=>∃(p:A4) (j:A0 Str),xs = [.ref p]/\IG X.K H p (j.map V.str)/\∀(l:A4) (c:A0 Str),H l=none->c.Perm j->c.Pairwise ON->Q (.ref l) (IB H l (.lst (c.map V.str)))):=by
 intro F s σ H xs f Q I r h;obtain⟨p,j,rfl,M,q⟩:=h;obtain⟨u,rfl,N⟩:=V8 r;cases N;obtain⟨g,G,O,Y⟩:=I.list M;have m:=De G;have Z:=G.length;refine TS.LS (collect_list (vs:=g) O.isList ?_ (by omega));refine⟨rfl,by omega,strKind,oneType',fun s2 _=>TS.NU m,fun a J e P k R=>?_⟩;have i:((s.heap.push (seqObj "list" #[] 0)).update s.heap.objs.size (Obj.mapSeq (· ++ g.toArray))).objs.size=s.heap.objs.size+1:=by rw[HL,size_push']
 obtain⟨n,S⟩:=P;have w:∀v∈a.toList,∃x t,v = .str x t:=fun v z=>m.all v (n.mem_iff.mp z);have z:IK ((a.toList.map strOf).map V.str) a.toList:=by
  have:∀f:A0 A3,(∀v∈f,∃x t,v = .str x t)->IK ((f.map strOf).map V.str) f:=by
   intro f
   induction f with
   | nil=>exact fun _=>.nil
   | cons v r T =>
    intro h;obtain⟨x,t,rfl⟩:=h v (BH ..);exact .cons ⟨t,rfl⟩ (T fun u A=>h u (AY _ A))
  exact this _ w
 have d:(a.toList.map strOf).Perm j:=by
  have:=n.map strOf
  rwa [m.strs]at this
 have B:(a.toList.map strOf).Pairwise ON:=by
  rw[CA];refine(List.Pairwise.and_mem.mp S).imp fun{u v} ⟨A,C,q⟩=>?_;obtain⟨x,t,rfl⟩:=w u A;obtain⟨y,t',rfl⟩:=w v C;have U:decide (y.cps.toList<x.cps.toList)=false:=q;exact of_decide_eq_false U
 have D:∀b o,s.heap.get? b=some o->J.get? b=some o:=fun b o L=>k b o (by
  rw[Heap.get?_update_ne _ _ _ _ (BA (AI L))];exact AD _ L)
 have W:H (s.heap.objs.size+1)=none:=I.hok.fresh (DV _);have E:J.get? (s.heap.objs.size+1)=some (seqObj "list" a e):=by rw[<-i];exact R
 refine⟨.ref (s.heap.objs.size+1),IB H (s.heap.objs.size+1) (.lst ((a.toList.map strOf).map V.str)),?_,by show Value.ref _=_;rw[<-i],q _ _ W d B⟩;refine I.laid (t':=s.toks) D (DV _) ⟨?_,a.toList,e,z,by simpa using E⟩;rw[AB,AB,n.length_eq];omega
end
def Gu{α β:Type}(f:α->β){l m:A0 β}(h:l.Perm m):∀a:A0 α,m=a.map f->∃b:A0 α,b.Perm a/\l=b.map f:=by
 induction h with
 | nil=>intro a e;exact⟨a,.refl _,e⟩
 | cons x _ o =>
  intro a e;cases a with
  | nil=>cases e
  | cons p a =>
   rw[BB]at e;obtain⟨rfl,c⟩:=GW e;obtain⟨b,d,g⟩:=o a c;exact⟨p::b,.cons _ d,by rw[BB,g]⟩
 | swap x y l =>
  intro a e
  match a,e with
  | p::q::a,e =>
   rw[BB,BB]at e;obtain⟨rfl,c⟩:=GW e;obtain⟨rfl,r⟩:=GW c;exact⟨q::p::a,.swap _ _ _,by rw[BB,BB,r]⟩
 | trans _ _ i j =>
  intro a e;obtain⟨k,d,g⟩:=j a e;obtain⟨n,s,t⟩:=i k g;exact⟨n,s.trans d,t⟩
abbrev JD:=A4×Str×Str
def Tf(q:JD):A0 Nat×A0 Nat:=(q.2.1.cps.toList,q.2.2.cps.toList)
def QI(q r:JD):Prop:=TS.JP (Tf r) (Tf q)=false
def E1(H:Hp)(q:JD):Prop:=H q.1=some (.tup [.str q.2.1,.str q.2.2])
def Ic:∀{a:A0 JD} {us:A0 A3},IK (a.map fun q=>V.ref q.1) us->us=a.map fun q=>Value.ref q.1
 | [],_,.nil=>rfl
 | _::_,_,.cons r t=>by rw[BB,Ic t];cases r;rfl
def Gv:∀(a:A0 JD),IK (a.map fun q=>V.ref q.1) (a.map fun q=>Value.ref q.1)
 | []=>.nil
 | _::a=>.cons rfl (Gv a)
section
variable{X:Cx}
theorem Inv.pairAt{a:A0 (A4×Obj)}{σ:St}{H:Hp}{s:A5}{q:JD}(I:Inv X a σ H s)(h:E1 H q):TS.LK s.heap (.ref q.1) q.2.1 q.2.2:=by
 obtain⟨b,f,⟨o,e,c,n,d⟩,_⟩:=I.tuple (JM.of h);obtain⟨i,j,rfl,⟨t,rfl⟩,⟨g,rfl⟩⟩:=f.two;exact⟨q.1,o,n,t,g,rfl,e,c,d⟩
theorem Fu:G9 X (.builtin "sorted") (fun xs H Q=>∃(p:A4) (j:A0 JD),xs = [.ref p]/\IG X.K H p (j.map fun q=>V.ref q.1)/\(∀q∈j,E1 H q) /\
  ∀(l:A4) (c:A0 JD),H l=none->c.Perm j->c.Pairwise QI->Q (.ref l) (IB H l (.lst (c.map fun q=>V.ref q.1)))):=by
 intro C s σ H xs us Q I r h;obtain⟨p,j,rfl,m,y,q⟩:=h;obtain⟨u,rfl,O⟩:=V8 r;cases O;obtain⟨d,D,P,E⟩:=I.list m;have F:=Ic D;have hl:=D.length;refine TS.LS (collect_list (vs:=d) P.isList ?_ (by omega));have f:((s.heap.push (seqObj "list" #[] 0)).update s.heap.objs.size (Obj.mapSeq (· ++ d.toArray))).objs.size=s.heap.objs.size+1:=by rw[HL,size_push']
 have n:∀b o,s.heap.get? b=some o->((s.heap.push (seqObj "list" #[] 0)).update s.heap.objs.size (Obj.mapSeq (· ++ d.toArray))).get? b=some o:=fun b o g=>by
  rw[Heap.get?_update_ne _ _ _ _ (BA (AI g))];exact AD _ g
 have i:∀q∈j,TS.LK s.heap (.ref q.1) q.2.1 q.2.2:=fun q m=>I.pairAt (y q m);refine⟨rfl,by omega,TS.pairKind s.heap,tuples' true,fun s2 R=>TS.OO (fun v G=>?_) (fun b o g=>?_),fun t S e T k U=>?_⟩
 .rw[F]at G;obtain⟨q,m,rfl⟩:=AR.mp G;exact⟨_,_,i q m⟩
 .have w:b≠((s.heap.push (seqObj "list" #[] 0)).update s.heap.objs.size (Obj.mapSeq (· ++ d.toArray))).objs.size:=by
   rw[f];exact BA (DC (AI g))
  exact⟨w,R b o w (n b o g)⟩
 .obtain⟨J,L⟩:=T;rw[F]at J;obtain⟨c,x,M⟩:=Gu (fun q:JD=>Value.ref q.1) J j rfl;have A:c.Pairwise QI:=by
   rw[M,CA]at L;refine(List.Pairwise.and_mem.mp L).imp fun{a b} ⟨W,Y,z⟩=>?_;have Z:=(i a (x.mem_iff.mp W)).key;have kb:=(i b (x.mem_iff.mp Y)).key;have N:TS.JP ((TS.MJ s.heap (.ref b.1)).getD ([],[])) ((TS.MJ s.heap (.ref a.1)).getD ([],[]))=false:=z;rw[Z,kb]at N;exact N
  have hn:H (s.heap.objs.size+1)=none:=I.hok.fresh (DV _);have B:S.get? (s.heap.objs.size+1)=some (seqObj "list" t e):=by rw[<-f];exact U
  refine⟨.ref (s.heap.objs.size+1),IB H (s.heap.objs.size+1) (.lst (c.map fun q=>V.ref q.1)),?_,by show Value.ref _=_;rw[<-f],q _ _ hn x A⟩;refine I.laid (t':=s.toks) (fun b o g=>k b o (n b o g)) (DV _) ⟨?_,t.toList,e,by rw[M];exact Gv c,by simpa using B⟩;rw[AB,x.length_eq];rw[AB]at E;exact E
end
def Inv.turnLaid{X:Cx}{d:A0 (A4×Obj)}{σ:St}{H:Hp}{s:A5}{h':IA}{t':Nat}{fp:A0 A4}{T:A4}{o:HO}(I:Inv X d σ H s)(k:∀b a,b∉fp->s.heap.get? b=some a->h'.get? b=some a)
  (i:∀b∈fp,Fl X d H b) (x:∀b∈fp,∃a,s.heap.get? b=some a) (l:s.heap.objs.size<=T) (j:IR X.prog X.w (IB H T o) h' T o):Inv X d σ (IB H T o) { s with heap:=h',toks:=t' }:=by
 have h:=I.hok.fresh l;have y:∀b a,s.heap.get? b=some a->b≠T:=fun b a e=>BA (BE (AI e) l);have p:∀b u,H b=some u->b∉fp:=fun b u e f=>by rw[(i b f).1]at e;cases e
 refine I.step (g':=s.gens) (d':=s.drawn) (ch:=fp) (fun b f=>let⟨_,A,_,B,C,D⟩:=i b f;⟨B,A,C,D⟩) (fun b a _ _ g e _=>k b a g e) (fun b a _ _ g e _=>⟨a.slots,k b a g e⟩) (fun b a _ e n=>by rw[B6 (y b a e)];exact n)
  (fun b a g e=>⟨a,k b a g e⟩) (fun b t e=>by rw[B6 (B0 e h)];exact e) (fun b u t e=>by rw[B6 (B0 e h)];exact e) (fun b K e=>⟨#[],by rw[B6 (B0 e h),e];simp⟩) (fun m E=>?_) (fun b u e=>?_) I.bare
 .obtain⟨a,F,G,J,r⟩:=E;exact⟨a,F,G,k _ a (fun f=>(i _ f).2.1 rfl) J,r⟩
 .by_cases f:b=T
  .subst f;rw[A9]at e;cases e;exact j
  .rw[B6 f]at e;refine(I.hok b u e).stay (fun c v g q=>k c v ?_ q) (fun c q=>by rw[B6 (B0 q h)];exact q) fun c t q=>by rw[B6 (B0 q h)];exact q
   rcases g with z | z
   .rw[z];exact p b u e
   .exact p c _ z
def Ite(K:PySem.W.Frag)(a:A4):It :=
 ⟨fun i H=>∃b x,IG K H a b/\b[i]?=some x,fun i H v c=>∃T x,v = .ref T/\H T=none/\c=IB H T (.tup [.int i,x])/\∀b,IG K H a b->b[i]?=some x,fun i H=>∃b,IG K H a b/\b.length=i⟩
def Su{P:F8}{w:H_}{K:PySem.W.Frag}{F:A0 IH}{kk:Nat}{tp:Pos}(a g e:A4)(N:e≠g):MO P w K (.Tuple F kk tp) (Ite K a) [e,g] e (fun i h=>(∃f,IsEnum h e g i f)/\h.IsListIter g a i) where
 mem:=by simp
 obj:=fun i h st b hb=>by
  obtain⟨⟨f,y⟩,o,G,c,d⟩:=st;rcases AU.mp hb with rfl | hb
  .exact⟨_,y,fun v z=>by cases z⟩
  .rw[AF.mp hb];exact⟨o,G,fun v z=>by rw[d]at z;cases z⟩
 keep:=fun i h h' st k=>⟨let⟨f,y⟩:=st.1;⟨f,k e (by simp) _ y⟩,st.2.at fun o x=>k g (by simp) o x⟩
 item:=by
  intro X hP hw hK B i O s σ H E I D st hg;subst hP hw hK;obtain⟨xs,x,Z,hx⟩:=hg;obtain⟨j,rv,p,hz⟩:=I.list Z;obtain⟨u,hu,ru⟩:=rv.get hx;obtain⟨f0,f1,f2,f3,f4,f5⟩:=D e (by simp);obtain⟨g0,g1,g2,g3,g4,g5⟩:=D g (by simp);have J:a≠e:=fun z=>by
   obtain⟨f,y⟩:=st.1;obtain⟨o,n,l,c,_⟩:=p;rw[z,y]at l;cases l;exact absurd c (by show ¬Value.type "enumerate" = Value.type "list";decide)
  have L:a≠g:=fun z=>by
   obtain⟨o2,G,c2,d2⟩:=st.2;obtain⟨o,n,l,c,_⟩:=p;rw[z,G]at l;cases l;rw[c2]at c;exact absurd c (by decide)
  have hi:i<j.toArray.size:=by
   rw[AS];exact(AG.mp hu).1
  have W:=WalksT.enumerate (prog:=X.prog) (w:=X.w) (A:=X.A) (I.ok.hd B) e g a N J L j.toArray;refine W.item i s _ _ hi ⟨st.1,st.2,p.isList⟩ fun T vals h' tk hv hT ht R k=>?_;obtain⟨t,x',S,rfl⟩:=hv;have:x'=u:=by
   have:j.toArray[i]?=some u:=by simpa using hu
   rw[this]at S;exact(BG S).symm
  subst this;refine⟨.ref T,rfl,W.go F kk tp i T _ _ _ R fun G U k2=>?_⟩;have hTn:H T=none:=I.hok.fresh hT;have V:T≠e:=fun z=>W.apart i T h' R (by simp[z]);have Y:T≠g:=fun z=>W.apart i T h' R (by simp[z]);have kk2:∀b o,b≠e->b≠g->s.heap.get? b=some o->G.get? b=some o:=fun b o b1 b2 M=>k2 b o (by simp[b1,b2]) (k b o (by simp[b1,b2]) M);have hT2:G.IsTuple T #[.int i t,x']:=by
   obtain⟨o,l,r⟩:=ht;exact⟨o,k2 T o (by simp[V,Y]) l,r⟩
  refine⟨.ref T,IB H T (.tup [.int i,x]),I.turnLaid (fp:=[e,g]) (fun b o hb M=>kk2 b o (fun z=>hb (by simp[z])) (fun z=>hb (by simp[z])) M) D (fun b hb=>?_) hT ⟨?_,[.int i t,x'],.cons ⟨t,rfl⟩ (.cons ru .nil),hT2⟩,rfl,⟨T,x,rfl,hTn,rfl,fun ys hy=>by rw[I.list_inj hy Z];exact hx⟩,⟨U.1,U.2.1⟩,fun b hb=>?_⟩
  .rcases AU.mp hb with rfl | hb
   .obtain⟨f,y⟩:=st.1;exact⟨_,y⟩
   .rw[AF.mp hb];obtain⟨o,y,_⟩:=st.2;exact⟨o,y⟩
  .show 2<=sizeLine;decide
  .rcases AU.mp hb with rfl | hb
   .rw[B6 (Ne.symm V)];exact f0
   .rw[AF.mp hb,B6 (Ne.symm Y)];exact g0
 done:=by
  intro X hP hw hK B i O s σ H E I D st hg;subst hP hw hK;obtain⟨xs,Z,hx⟩:=hg;obtain⟨j,rv,p,hz⟩:=I.list Z;obtain⟨f0,f1,f2,f3,f4,f5⟩:=D e (by simp);obtain⟨g0,g1,g2,g3,g4,g5⟩:=D g (by simp);have J:a≠e:=fun z=>by
   obtain⟨f,y⟩:=st.1;obtain⟨o,n,l,c,_⟩:=p;rw[z,y]at l;cases l;exact absurd c (by show ¬Value.type "enumerate" = Value.type "list";decide)
  have L:a≠g:=fun z=>by
   obtain⟨o2,G,c2,d2⟩:=st.2;obtain⟨o,n,l,c,_⟩:=p;rw[z,G]at l;cases l;rw[c2]at c;exact absurd c (by decide)
  have W:=WalksT.enumerate (prog:=X.prog) (w:=X.w) (A:=X.A) (I.ok.hd B) e g a N J L j.toArray;have hl:=rv.length;have hi:i=j.toArray.size:=by rw[AS];omega
  rw[hi]at st;refine W.done s _ _ ⟨st.1,st.2,p.isList⟩ fun h' tk k=>⟨rfl,?_⟩;have I1:=I.step (h':=h') (H':=H) (t':=tk) (g':=s.gens) (d':=s.drawn) (ch:=[e,g]) (fun b hb=>let⟨_,f1,_,f3,f4,f5⟩:=D b hb;⟨f3,f1,f4,f5⟩) (fun b C _ _ B e _=>k b C B e) (fun b C _ _ B e _=>⟨C.slots,k b C B e⟩) (fun _ _ _ _ n=>n)
   (fun b C B e=>⟨C,k b C B e⟩) (fun _ _ e=>e) (fun _ _ _ e=>e) (fun b ps e=>⟨#[],by rw[e];simp⟩) (fun m R=>?_) (fun b u M=>?_) I.bare
  .exact I1
  .obtain⟨C,es,ep,ho,r⟩:=R;exact⟨C,es,ep,k _ C (fun hb=>(D _ hb).2.1 rfl) ho,r⟩
  .have nf:∀b u,H b=some u->b∉[e,g]:=fun b u e hb=>by rw[(D b hb).1]at e;cases e
   refine(I.hok b u M).stay (fun c v B q=>k c v ?_ q) (fun _ q=>q) fun _ _ q=>q;rcases B with z | z
   .rw[z];exact nf b u M
   .exact nf c _ z
 self:=fun A i s Q E st h=>by
  obtain⟨f,he⟩:=st.1;exact wpAny_pyIter_enum he h
section
variable{X:Cx}{elts:A0 IH}{kk:Nat}{tp:Pos}
def zBo(K:PySem.W.Frag)(c:TA):TI:=fun σ H R=>c σ H fun d b=>∃a e,d = [.ref a]/\IG K b a e/\R (Ite K a) b
theorem Ys{a:IH}{g:TA}{p pos:Pos}(m:Gl X "enumerate")(n:X.mg "enumerate" = none)(o:bootBuiltins "enumerate" = some (.type "enumerate"))(r:PA X [a] g)(t:starEach [a] X.env = [(false,eval a X.env)]:=by rfl):PI X (.Tuple elts kk tp) (.Call (.Name "enumerate" p) [a] [] pos) (zBo X.K g):=by
 intro c s σ H R I h;refine Call_ (Z8 I m n o (PyProof.Rows.callWith_type1 (IY (r pos c s σ H _ I h) fun F s1 ⟨G,i,d,v,w⟩=>?_) t rfl));obtain⟨l,J,e,x,q⟩:=w;subst e;obtain⟨u,rfl,y⟩:=V8 v;cases y;obtain⟨A,L,B,M⟩:=d.list x;refine call_enumerate_list B.isList fun C j f D k=>wpAny_pyIter_enum j ?_;have E:Inv X c σ i { s1 with heap:=C }:=d.kept (t':=s1.toks) k;refine⟨s1.heap.objs.size+1,[s1.heap.objs.size+1,s1.heap.objs.size],_,_,i,rfl,E,Su l s1.heap.objs.size (s1.heap.objs.size+1) (Nat.succ_ne_self _),⟨⟨_,j⟩,f⟩,fun b hb=>?_,q⟩;rcases AU.mp hb with z | hb
 .rw[z];exact d.fpOk (DV _) (d.hok.fresh (DV _))
 .rw[AF.mp hb];exact d.fpOk (Nat.le_refl _) (d.hok.fresh (Nat.le_refl _))
end
end L2
namespace ST
open PySem
def stp(mask i:Nat):Nat:=(5*i+1) %(mask+1)
def PU(mask:Nat):Nat->Nat->Nat
 | 0,i=>i
 | t+1,i=>PU mask t (stp mask i)
def orb(mask:Nat):Nat->Nat->A0 Nat
 | 0,_=>[]
 | n+1,i=>i::orb mask n (stp mask i)
def Ir(mask a b i:Nat):PU mask (a+b) i=PU mask b (PU mask a i):=by
 induction a generalizing i with
 | zero=>rw[FA];rfl
 | succ a c=>rw[Nat.succ_add];exact c (stp mask i)
def Sc{mask j:Nat}:∀{n i:Nat},j∈orb mask n i->∃t,t<n/\PU mask t i=j
 | 0,_,h=>by simp[orb]at h
 | n+1,i,h=>by
  rcases AU.mp h with rfl | h
  .exact⟨0,by omega,rfl⟩
  .obtain⟨t,b,a⟩:=Sc h;exact⟨t+1,by omega,a⟩
def PY(mask:Nat):Prop:=mask=7\/mask=31\/mask=127\/mask=511
def OW(mask:Nat):Bool:=(List.range (mask+1)).all (fun j=>(orb mask (mask+1) 0).contains j)&&PU mask (mask+1) 0 == 0
def zDr:OW 7=true:=by decide +kernel
def zBp:OW 31=true:=by decide +kernel
def Zb:OW 127=true:=by decide +kernel
def Zi:OW 511=true:=by decide +kernel
def PY.full{mask:Nat}(h:PY mask):OW mask=true:=by
 rcases h with rfl | rfl | rfl | rfl
 .exact zDr
 .exact zBp
 .exact Zb
 .exact Zi
def cyc{mask:Nat}(h:PY mask){i j:Nat}(hi:i<=mask)(l:j<=mask):∃t,t<=mask/\PU mask t i=j:=by
 have f:=h.full;unfold ST.OW at f;rw[BT,EQ]at f;obtain⟨m,d⟩:=f;have d:PU mask (mask+1) 0=0:=by simpa using d
 have c:∀k,k<=mask->∃t,t<mask+1/\PU mask t 0=k:=fun k o=>Sc (by simpa using m k (BW.mpr (by omega)));obtain⟨a,p,e⟩:=c i hi;obtain⟨b,q,g⟩:=c j l;by_cases n:a<=b
 .refine⟨b-a,by omega,?_⟩;rw[<-e,<-Ir,show a +(b-a)=b by omega,g]
 .refine⟨mask+1-a+b,by omega,?_⟩;rw[<-e,<-Ir,show a +(mask+1-a+b) =(mask+1)+b by omega,Ir,d,g]
def MM(mask:Nat):Nat->Nat×Nat->Nat×Nat
 | 0,x=>x
 | t+1,x=>MM mask t (SetTable.leap mask x.1 x.2)
def Xe(mask a b:Nat)(x:Nat×Nat):MM mask (a+b) x=MM mask b (MM mask a x):=by
 induction a generalizing x with
 | zero=>rw[FA];rfl
 | succ a c=>rw[Nat.succ_add];exact c _
def Mu(mask:Nat):∀(t:Nat) (x:Nat×Nat),(MM mask t x).2=x.2 / 32^t
 | 0,x=>by simp[MM]
 | t+1,x=>by
  show(MM mask t (SetTable.leap mask x.1 x.2)).2=_;rw[Mu mask t];show x.2 / 32 / 32^t=_;rw[Nat.div_div_eq_div_mul,Nat.pow_succ,Nat.mul_comm]
def Vv(mask:Nat):∀(t:Nat) (x:Nat×Nat),x.1<=mask->(MM mask t x).1<=mask
 | 0,_,h=>h
 | t+1,x,_=>Vv mask t _ (Nat.lt_succ_iff.mp (Nat.mod_lt _ (Nat.succ_pos _)))
def Kp(mask:Nat):∀(t i:Nat),MM mask t (i,0) =(PU mask t i,0)
 | 0,_=>rfl
 | t+1,i=>by
  show MM mask t ((i*5+1+0 / 32) %(mask+1),0 / 32)=_;rw[Nat.zero_div,Nat.add_zero,Kp mask t,Nat.mul_comm];rfl
def Sj{mask:Nat}(h:PY mask){i j p:Nat}(hi:i<=mask)(a:j<=mask)(b:p<2^64):∃t,t<=mask+13/\(MM mask t (i,p)).1=j:=by
 have c:(MM mask 13 (i,p)).2=0:=by
  rw[Mu];exact Nat.div_eq_of_lt (BE b (by decide))
 obtain⟨t,e,d⟩:=cyc h (Vv mask 13 (i,p) hi) a;refine⟨13+t,by omega,?_⟩;rw[Xe];have:MM mask 13 (i,p) =((MM mask 13 (i,p)).1,0):=Prod.ext rfl c;rw[this,Kp];exact d
def MD(t:IM):Nat->SetTable.Probe->SetTable.Probe
 | 0,p=>p
 | n+1,p=>MD t n (t.advance p)
def Ql(t:IM)(a b:Nat)(p:SetTable.Probe):MD t (a+b) p=MD t b (MD t a p):=by
 induction a generalizing p with
 | zero=>rw[FA];rfl
 | succ a c=>rw[Nat.succ_add];exact c _
def Rs(t:IM):∀(m:Nat) (p:SetTable.Probe),p.more=m->∃a,MD t (m+1) p=a/\a.i =(SetTable.leap t.mask p.i p.perturb).1/\a.perturb =(SetTable.leap t.mask p.i p.perturb).2/\a.j=a.i/\a.more=SetTable.runEnd t.mask a.i-a.i/\a.dummy=p.dummy
 | 0,p,h=>by
  have b:t.advance p ={ p with j:=(SetTable.leap t.mask p.i p.perturb).1,more:=SetTable.runEnd t.mask (SetTable.leap t.mask p.i p.perturb).1-(SetTable.leap t.mask p.i p.perturb).1,i:=(SetTable.leap t.mask p.i p.perturb).1,perturb:=(SetTable.leap t.mask p.i p.perturb).2 }:=by
   unfold SetTable.advance;rw[AJ (by omega)]
  refine⟨t.advance p,rfl,?_⟩;rw[b];exact⟨rfl,rfl,rfl,rfl,rfl⟩
 | m+1,p,h=>by
  have b:t.advance p ={ p with j:=p.j+1,more:=p.more-1 }:=by unfold SetTable.advance;rw[AK (by omega)]
  obtain⟨a,d,c⟩:=Rs t m (t.advance p) (by rw[b];show p.more-1=m;omega);rw[b]at c;exact⟨a,d,c⟩
def zAf(mask i:Nat):SetTable.runEnd mask i-i<=9:=by unfold SetTable.runEnd;split<;>omega
def Rn(t:IM):∀(n:Nat) (p:SetTable.Probe),p.j=p.i->p.more=SetTable.runEnd t.mask p.i-p.i->∃k,k<=10*n/\(MD t k p).j =(MM t.mask n (p.i,p.perturb)).1
 | 0,p,a,_=>⟨0,by omega,a⟩
 | n+1,p,a,l=>by
  obtain⟨b,e,c,d,f,g,_⟩:=Rs t p.more p rfl;obtain⟨k,m,h⟩:=Rn t n b f g;have:=zAf t.mask p.i;refine⟨p.more+1+k,by omega,?_⟩;rw[Ql,e,h,c,d];rfl
def Go(t:IM):∀(n:Nat) (p:SetTable.Probe),(MD t n p).dummy=p.dummy
 | 0,_=>rfl
 | n+1,p=>by
  show(MD t n (t.advance p)).dummy=_;rw[Go t n];unfold SetTable.advance;split<;>rfl
def Pp{t:IM}(a:PY t.mask)(h:Int){j:Nat}(b:j<=t.mask):∃n,n<10*SetTable.turns t.mask/\(MD t n (t.probeStart h)).j=j:=by
 have c:SetTable.bits h<2^64:=by
  unfold SetTable.bits;have g:0<=h %(2^64:Int):=GG _ (by decide);have i:h %(2^64:Int)<2^64:=FE _ (by decide);omega
 have d:SetTable.bits h %(t.mask+1)<=t.mask:=Nat.lt_succ_iff.mp (Nat.mod_lt _ (Nat.succ_pos _));obtain⟨n,l,e⟩:=Sj a d b c;obtain⟨k,m,f⟩:=Rn t n (t.probeStart h) rfl rfl;refine⟨k,by unfold SetTable.turns;omega,f.trans e⟩
def m9{t:IM}(a:t.dummies = #[])(j:Nat):t.slot j = .empty\/∃i,t.slot j = .live i/\t.place[i]?=some j:=by
 unfold SetTable.slot;dsimp only;by_cases h:(t.place[SetTable.below t.place j]? == some j)=true
 .rw[AK h];exact .inr ⟨_,rfl,by simpa using h⟩
 .rw[AJ h];have:SetTable.has t.dummies j=false:=by
   rw[a];unfold SetTable.has;simp
  rw[this];exact .inl rfl
def Nm{t:IM}(c:t.dummies = #[])(f:t.place.size<=t.mask):∃j,j<=t.mask/\t.slot j = .empty:=by
 by_cases h:∃j,j<=t.mask/\t.slot j = .empty
 .exact h
 .exfalso;have a:∀j∈List.range (t.mask+1),j∈t.place.toList:=fun j d=>by
   have b:j<=t.mask:=by have:=BW.mp d;omega
   rcases m9 c j with e | ⟨i,_,e⟩
   .exact absurd ⟨j,b,e⟩ h
   .exact AM (by rw[BK];exact e)
  have:=(HP (n:=t.mask+1)).length_le_of_subset a;rw[BV,AL]at this;omega
def We{t:IM}(o:t.dummies = #[])(hashAt:Nat->Int)(h:Int)(p:SetTable.Probe)(c:p.dummy=none):∀(k m n a:Nat),m+k=n->t.slot (MD t n p).j = .empty->k<a ->
  (∃j,SetTable.probe.go t hashAt h a (MD t m p)=some (.empty j none)/\t.slot j = .empty) \/
   ∃l i,m<=l/\l<n/\t.slot (MD t l p).j = .live i/\hashAt i=h/\SetTable.probe.go t hashAt h a (MD t m p)=some (.candidate (MD t l p).j i (MD t (l+1) p))
 | k,m,n,0,_,_,q=>absurd q (FI _)
 | k,m,n,a+1,e,r,q=>by
  have d:(MD t m p).dummy=none:=(Go t m p).trans c;have s:MD t (m+1) p=t.advance (MD t m p):=Ql t m 1 p;rcases m9 o (MD t m p).j with b | ⟨i,b,A⟩
  .refine .inl ⟨(MD t m p).j,?_,b⟩;unfold SetTable.probe.go;rw[b,d]
  .have B:k≠0:=by
    rintro rfl;have:m=n:=by omega
    subst this;rw[r]at b;cases b
   by_cases f:hashAt i=h
   .refine .inr ⟨m,i,Nat.le_refl _,by omega,b,f,?_⟩;unfold SetTable.probe.go;rw[b];dsimp only;rw[AK (by simpa using f),s]
   .have u:SetTable.probe.go t hashAt h (a+1) (MD t m p)=SetTable.probe.go t hashAt h a (MD t (m+1) p):=by
     conv=>lhs;unfold SetTable.probe.go
     rw[b];dsimp only;rw[AJ (by simpa using f),s]
    rcases We o hashAt h p c (k-1) (m+1) n a (by omega) r (by omega)with⟨j,v,g⟩ | ⟨l,w,v,g,x,y,z⟩
    .exact .inl ⟨j,u.trans v,g⟩
    .exact .inr ⟨l,w,by omega,g,x,y,u.trans z⟩
def Dz{α β:Type}{f g:α->A6 β}:∀{l:A0 α},(∀x∈l,f x=g x)->l.filterMap f=l.filterMap g
 | [],_=>rfl
 | a::r,h=>by
  have b:=h a (BH ..);have c:=Dz (l:=r) fun x d=>h x (AY _ d);rw[DT,DT,b,c]
def Wj{α:Type}{f g:Nat->A6 α}{j:Nat}{k:α}(d:g j=some k)(m:f j=none):∀{l:A0 Nat},l.Nodup->j∈l->(∀i,i≠j->g i=f i)->(l.filterMap g).Perm (k::l.filterMap f)
 | [],_,h,_=>by simp at h
 | i::r,o,h,a=>by
  obtain⟨p,q⟩:=CL.mp o;by_cases e:i=j
  .subst e;have er:r.filterMap g=r.filterMap f:=Dz fun x s=>a x fun z=>p (z▸s);rw[DD d,ES m,er]
  .have n:=Wj d m q ((AU.mp h).resolve_left fun z=>e z.symm) a;cases c:f i with
   | none=>rw[ES ((a i e).trans c),ES c];exact n
   | some b =>
    rw[DD ((a i e).trans c),DD c];exact(List.Perm.cons b n).trans (List.Perm.swap _ _ _)
def RA(mask:Nat)(a:CM (A6 Nat)):A0 Nat:=(List.range (mask+1)).filterMap fun j=>a.getD j none
structure LI(mask:Nat)(ow:CM (A6 Nat))(k:Nat):Prop where
 sz:ow.size=mask+1
 pm:(RA mask ow).Perm (List.range k)
def Tb{mask:Nat}{b:CM (A6 Nat)}{j:Nat}(c:b[j]?=some none):∀(t a i p:Nat),(MM mask t (i,p)).1=j->t<a->∃d,SetTable.layClean.free mask b a i p=some d/\b[d]?=some none
 | t,0,_,_,_,h=>absurd h (FI _)
 | t,a+1,i,p,e,h=>by
  unfold SetTable.layClean.free;cases q:(List.range (SetTable.runEnd mask i+1-i)).find? fun k=>(b.getD (i+k) (some 0)).isNone with
  | some k =>
   refine⟨i+k,rfl,?_⟩;have:=List.find?_some q;rw[CO]at this;cases g:b[i+k]? with
   | none=>rw[g]at this;simp at this
   | some z=>rw[g]at this;simp at this;rw[this]
  | none =>
   dsimp only;cases t with
   | zero =>
    exfalso;have f:i=j:=e;subst f;have l:0∈List.range (SetTable.runEnd mask i+1-i):=BW.mpr (by unfold SetTable.runEnd;split<;>omega);have:=List.find?_eq_none.mp q 0 l;rw[CO,Nat.add_zero,c]at this;simp at this
   | succ t=>exact Tb c t a _ _ e (by omega)
def LI.room{mask:Nat}{a:CM (A6 Nat)}{k:Nat}(h:LI mask a k)(p:k<=mask):∃j,j<=mask/\a[j]?=some none:=by
 by_cases q:∃j,j<=mask/\a[j]?=some none
 .exact q
 .exfalso;have b:∀j∈List.range (mask+1),∃v,a.getD j none=some v:=fun j c=>by
   have g:j<a.size:=by rw[h.sz];exact BW.mp c
   cases e:a[j]? with
   | none=>rw[Array.getElem?_eq_none_iff]at e;omega
   | some v =>
    cases v with
    | none=>exact absurd ⟨j,by have:=BW.mp c;omega,e⟩ q
    | some v=>exact⟨v,by rw[CO,e];rfl⟩
  have i:∀l:A0 Nat,(∀j∈l,∃v,a.getD j none=some v)->(l.filterMap fun j=>a.getD j none).length=l.length:=by
   intro l
   induction l with
   | nil=>intro _;rfl
   | cons j r m =>
    intro d;obtain⟨v,n⟩:=d j (BH ..);rw[DD (f:=fun j=>a.getD j none) n,BJ,BJ,m fun x o=>d x (AY _ o)]
  have:=h.pm.length_eq;unfold RA at this;rw[i _ b,BV,BV]at this;omega
def LI.put{mask:Nat}{a:CM (A6 Nat)}{k j:Nat}(h:LI mask a k)(c:a[j]?=some none):LI mask (a.setIfInBounds j (some k)) (k+1):=by
 have b:j<a.size:=by
  obtain⟨d,_⟩:=DF.mp c;exact d
 refine⟨by rw[GV];exact h.sz,?_⟩;have p:=Wj (f:=fun j=>a.getD j none) (g:=fun i=>(a.setIfInBounds j (some k)).getD i none) (j:=j) (k:=k) (by rw[CO,Array.getElem?_setIfInBounds_self_of_lt b];rfl) (by rw[CO,c];rfl)
  (l:=List.range (mask+1)) HP (BW.mpr (by rw[<-h.sz];exact b)) fun i m=>by
   rw[CO,Array.getElem?_setIfInBounds_ne (Ne.symm m),<-CO]
 have e:List.range (k+1)=List.range k ++ [k]:=EI;refine p.trans ?_;rw[e];exact(List.Perm.cons k h.pm).trans (CT (l₁:=[k]))
def Xa(h:Int):SetTable.bits h<2^64:=by
 unfold SetTable.bits;have a:0<=h %(2^64:Int):=GG _ (by decide);have b:h %(2^64:Int)<2^64:=FE _ (by decide);omega
def Wu{mask:Nat}(e:PY mask):∀(c:A0 Int) (a:CM (A6 Nat)) (k:Nat),LI mask a k->k+c.length<=mask->∃b,(c.foldl (init:=some (a,k)) fun d h=>do
   let(owner,k) <-d
   let j <-SetTable.layClean.free mask owner (SetTable.turns mask) (SetTable.bits h %(mask+1)) (SetTable.bits h)
   pure (owner.setIfInBounds j (some k),k+1))=some (b,k+c.length)/\LI mask b (k+c.length)
 | [],a,k,h,_=>⟨a,rfl,h⟩
 | x::r,a,k,h,g=>by
  rw[BJ]at g;obtain⟨j,l,m⟩:=h.room (by omega);obtain⟨t,u,n⟩:=Sj e (i:=SetTable.bits x %(mask+1)) (j:=j) (Nat.lt_succ_iff.mp (Nat.mod_lt _ (Nat.succ_pos _))) l (Xa x);obtain⟨f,o,p⟩:=Tb m t (SetTable.turns mask) _ _ n (by unfold SetTable.turns;omega);obtain⟨b,q,s⟩:=Wu e r (a.setIfInBounds f (some k)) (k+1) (h.put p) (by omega);refine⟨b,?_,by rw[BJ,show k +(r.length+1)=k+1+r.length by omega];exact s⟩;rw[List.foldl_cons];show List.foldl _ ((SetTable.layClean.free mask a (SetTable.turns mask) (SetTable.bits x %(mask+1)) (SetTable.bits x)).bind fun j=>some (a.setIfInBounds j (some k),k+1)) r=_;rw[o];show List.foldl _ (some (a.setIfInBounds f (some k),k+1)) r=_;rw[BJ,show k +(r.length+1)=k+1+r.length by omega];exact q
def Yr{mask:Nat}(h:PY mask)(finger moves:Nat)(led plain:Bool)(c:CM Int)(l:c.size<=mask) :
  ∃place a,SetTable.laid mask finger moves led plain c=some ({ mask,place,dummies:=#[],finger,led,moves,plain },a)/\place.size=c.size/\a.toList.Perm (List.range c.size):=by
 have i:LI mask (Array.replicate (mask+1) none) 0:=by
  refine⟨Array.size_replicate,?_⟩;have:RA mask (Array.replicate (mask+1) none) = []:=by
   unfold RA;rw[List.filterMap_eq_nil_iff];intro j m;rw[CO,Array.getElem?_replicate];split<;>rfl
  rw[this];exact List.Perm.refl _
 obtain⟨b,e,d⟩:=Wu h c.toList _ 0 i (by rw[AL];omega);rw[FA,AL]at e d;have k:SetTable.layClean mask c=some b:=by
  unfold SetTable.layClean;rw[<-Array.foldl_toList,e];rfl
 have g:((List.range (mask+1)).filterMap fun j=>(b.getD j none).map (j,·)).map (·.2)=RA mask b:=by
  unfold RA;rw[List.map_filterMap];refine Dz fun j _=>?_;cases b.getD j none<;>rfl
 refine⟨(((List.range (mask+1)).filterMap fun j=>(b.getD j none).map (j,·)).map (·.1)).toArray,(((List.range (mask+1)).filterMap fun j=>(b.getD j none).map (j,·)).map (·.2)).toArray,?_,?_,?_⟩
 .unfold SetTable.laid;rw[k];rfl
 .rw[AS,AB,<-AB (f:=(·.2)),g,d.pm.length_eq,BV]
 .show(((List.range (mask+1)).filterMap fun j=>(b.getD j none).map (j,·)).map (·.2)).Perm _;rw[g];exact d.pm
def Uj{c:CM (Int×A3)}{b:CM Nat}(h:b.toList.Perm (List.range c.size)):(b.filterMap (c[·]?)).toList.Perm c.toList:=by
 rw[Array.toList_filterMap];refine(h.filterMap _).trans (List.Perm.of_eq ?_);refine FN fun t=>?_;have:(List.range c.size).filterMap (fun x=>c[x]?)=c.toList:=by
  have:∀(l:A0 (Int×A3)),(List.range l.length).filterMap (fun x=>l[x]?)=l:=by
   intro l
   induction l with
   | nil=>rfl
   | cons a r d =>
    rw[BJ,List.range_succ_eq_map,DD (by rfl:(a::r)[0]?=some a),List.filterMap_map];congr 1
  have q:=this c.toList;rw[AL]at q;simpa using q
 rw[this]
section
variable{prog:F8}{w:H_}{K:Type}[DecidableEq K]{knd:KeyKind prog w K}{A:II}{E:A3->A5->Prop}{s:A5}
structure QL(t:IM)(n:Nat):Prop where
 dm:t.dummies = #[]
 pl:t.place.size=n
 mm:PY t.mask
 rm:n*5<t.mask*3
theorem QL.fits{t:IM}{n:Nat}(h:QL t n):t.fits n=true:=by
 have:=h.rm;have:=h.pl;unfold SetTable.fits SetTable.fill;rw[h.dm];simp;omega
theorem QL.odd{t:IM}{n:Nat}(h:QL t n):t.gaveWay=false:=by
 unfold SetTable.gaveWay;rcases h.mm with e | e | e | e<;>rw[e]<;>rfl
def QW(knd:KeyKind prog w K)(a:CM (Int×A3))(ks:A0 (A0 K×A4)):Prop:=a.toList.Perm (ks.map fun q=>((tupleKind knd).hash q.1,Value.ref q.2))
def LV(knd:KeyKind prog w K)(h:IA)(a:A4)(ks:A0 (A0 K×A4)):Prop:=∃o b c t,h.get? a=some o/\o.ExactSet/\o.data = .set b c t/\QW knd b ks/\QL t b.size
theorem QW.get{a:CM (Int×A3)}{ks:A0 (A0 K×A4)}(h:QW knd a ks){i:Nat}{e:Int×A3}(b:a[i]?=some e):∃k p,(k,p)∈ks/\e =((tupleKind knd).hash k,.ref p):=by
 have:e∈a.toList:=AM (by rw[BK];exact b);obtain⟨q,c,rfl⟩:=AR.mp (h.mem_iff.mp this);exact⟨q.1,q.2,c,rfl⟩
theorem Aw{β:Type}{c:β}{f:A3->β->Sem (ForInStep β)}:∀{l:A0 A3},(∀y∈l,f y c=pure (.yield c))->forIn l c f=pure c
 | [],_=>List.forIn_nil
 | a::r,h=>by
  rw[List.forIn_cons,h a (BH ..),pure_bind];exact Aw fun y b=>h y (AY _ b)
theorem Gb{ks:A0 K}{vs:A0 A3}(h:ItemsAre knd ks vs):∀v∈vs,∃x,knd.is x v=true:=by
 induction h with
 | nil=>intro v hv;simp at hv
 | cons a _ b =>
  intro v hv;rcases AU.mp hv with rfl | hv
  .exact⟨_,a⟩
  .exact b v hv
def Flat(knd:KeyKind prog w K):Prop:=∀v,(∃x,knd.is x v=true)->carriedByValue v=true
theorem Flat.no{v:A3}(a:Flat knd)(h:∃x,knd.is x v=true)(d:Nat):ofAClassStatement d v=pure false:=by
 have:=a v h;cases v<;>first
  | (cases d<;>rfl)
  | (exact absurd this (by intro z;cases z))
theorem Wp{k:A0 K}{p:A4}{Q:Bool->A5->Prop}(c:Flat knd)(d:(tupleKind knd).is s.heap k p)(h:Q false s):wpAny (model prog w) A (ofAClassStatement 8 (.ref p)) Q E s:=by
 obtain⟨o,a,n,b,e,f,g⟩:=d;have i:s.TypeIs (.ref p) "tuple":=⟨o,b,e⟩;unfold ofAClassStatement;refine AA (wpAny_typeOf i ?_);dsimp only;rw[AK (by rfl)];refine AA (AE ?_);simp only[ER,AW,CN];refine AA (EV b f ?_);dsimp only;rw[<-HA,Aw fun y j=>by rw[c.no (Gb g y j)];rfl];exact AA (AE (AE h))
theorem zAl{m:A0 K}{b:A4}{Q:Bool->A5->Prop}(g:Flat knd)(i:(tupleKind knd).is s.heap m b)(h:Q false s){l:A0 A3}(n:∀v∈l,∃k p,v = .ref p/\(tupleKind knd).is s.heap k p) :
  wpAny (model prog w) A (searchCouldBeSeen (.ref b) l) Q E s:=by
 unfold searchCouldBeSeen;refine AA (wpAny_forIn_list _ (fun a c d=>d=s/\c =(none,())/\∀v∈a,v∈l) _ ?_ ?_ l _ ⟨rfl,rfl,fun _ h=>h⟩)
 .rintro v a c d ⟨rfl,rfl,e⟩;obtain⟨k,p,rfl,j⟩:=n v (e v (BH ..));dsimp only;have o:carriedByValue (Value.ref b)=false:=rfl;rw[o,EE,HW];split
  .exact AE ⟨rfl,rfl,fun u f=>e u (AY _ f)⟩
  .refine AA ((tupleKind knd).quiet i ?_);simp only[ER,AW,CN];refine AA ((tupleKind knd).quiet j ?_);simp only[ER,AW,CN];refine AA (Wp g i ?_);simp only[AW,CN];refine AA (Wp g j ?_);simp only[AW,CN];exact AE ⟨rfl,rfl,fun u f=>e u (AY _ f)⟩
 .rintro c d ⟨rfl,rfl,_⟩;exact AE h
theorem Uk(t:IM):t.sameMemory t.moves t.mask=some true:=by
 unfold SetTable.sameMemory;simp
theorem Jw{a:A4}{o:Obj}{r:CM (Int×A3)}{ep:Nat}{t:IM}{ks:A0 (A0 K×A4)}{d:A0 K}{G:A4}{c:Bool}{Q:SetFound->A5->Prop}{n:Nat}
  (hr:(tupleKind knd).room A) (hF:Flat knd) (U:s.heap.get? a=some o) (V:o.data = .set r ep t) (W:QW knd r ks) (D:QL t r.size)
  (H:∀q∈ks,(tupleKind knd).is s.heap q.1 q.2) (X:(tupleKind knd).is s.heap d G) (M:∀q∈ks,q.1≠d) (hn:n<10*SetTable.turns t.mask)
  (he:t.slot (MD t n (t.probeStart ((tupleKind knd).hash d))).j = .empty) (h:∀j,t.slot j = .empty->Q (.free j false) s) :
  ∀(k m b:Nat) (e:A6 SetTable.Probe),e.getD (t.probeStart ((tupleKind knd).hash d))=MD t m (t.probeStart ((tupleKind knd).hash d))->m+k=n->k<b ->
   wpAny (model prog w) A (setSearchFrom a (.ref G) ((tupleKind knd).hash d) c b e) Q E s:=by
 intro k
 induction k using Nat.strongRecOn with
 | _ k ih =>
  intro m b e N O hf;cases b with
  | zero=>omega
  | succ b =>
   unfold setSearchFrom;refine AA (CG U V D.fits ?_);dsimp only;rw[D.odd];simp only[AW,CN];rw[N];unfold SetTable.probe;rcases We D.dm _ ((tupleKind knd).hash d) (t.probeStart ((tupleKind knd).hash d)) rfl k m n (10*SetTable.turns t.mask) O he (by omega)with⟨j,F,Y⟩ | ⟨l,i,h1,h2,F,Y,e3⟩
   .rw[F];dsimp only;exact AE (h j Y)
   .rw[e3];dsimp only;obtain⟨u,I,P⟩:∃u,t.slot (MD t l (t.probeStart ((tupleKind knd).hash d))).j = .live u/\t.place[u]?=some (MD t l (t.probeStart ((tupleKind knd).hash d))).j:=by
     rcases m9 D.dm (MD t l (t.probeStart ((tupleKind knd).hash d))).j with z | z
     .rw[z]at F;cases F
     .exact z
    rw[F]at I;cases I;have R:i<r.size:=by
     have:=(DF.mp P).1;rw[D.pl]at this;exact this
    obtain⟨J,f⟩:∃J,r[i]?=some J:=⟨r[i],DF.mpr ⟨R,rfl⟩⟩;obtain⟨k',p',L,rfl⟩:=W.get f;have B:∀v∈(r.filter (·.1 ==(tupleKind knd).hash d)).toList.map (·.2),∃k p,v = .ref p/\(tupleKind knd).is s.heap k p:=by
     intro v hv;obtain⟨z,Z,rfl⟩:=AR.mp hv;have S:z∈r.toList:=by
      rw[Array.toList_filter]at Z;exact(BM.mp Z).1
     obtain⟨q,hq,rfl⟩:=AR.mp (W.mem_iff.mp S);exact⟨q.1,q.2,rfl,H q hq⟩
    have x:wpAny (model prog w) A (do
      let some (_,y):=r[i]? | unsupported "internal:set-entry"
      let g <-holding [y] (eqBool y (.ref G))
      let(T,_,t') <-setState a
      if c&&g then return .there none
      let some same:=t'.sameMemory t.moves t.mask | unsupported "set.changed-during-lookup:is-the-new-block-at-the-old-address"
      let C <-match(if same then t'.slot (MD t l (t.probeStart ((tupleKind knd).hash d))).j else .empty)with
       | .live u=>match T[u]? with
        | some (_,y')=>do pure (if <-isSame y' y then some u else none)
        | none=>pure none
       | _=>pure none
      match C with
      | none=>rule "set.search.anew";setSearchFrom a (.ref G) ((tupleKind knd).hash d) c b none
      | some u=>if g then return .there (some u)else setSearchFrom a (.ref G) ((tupleKind knd).hash d) c b (some (MD t (l+1) (t.probeStart ((tupleKind knd).hash d))))) Q E s:=by
     rw[f];dsimp only;refine AA (BS ((tupleKind knd).eqBool hr (H _ L) X ?_));rw[BC (M _ L)];refine AA (CG U V D.fits ?_);dsimp only;rw[Uk,HH];simp only[AW,CN,EZ];rw[F];dsimp only;rw[f];dsimp only;refine AA (wpAny_isSame_ref_self (AA (AE ?_)));simp only[EZ];exact ih (n-(l+1)) (by omega) (l+1) b _ rfl (by omega) (by omega)
    cases hled:t.led with
    | true =>
     simp only[ER,AW,CN];exact x
    | false =>
     simp only[HI,EZ];refine AA (zAl hF X ?_ B);simp only[AW,CN];exact x
theorem Bi{a:A4}{o:Obj}{f:CM (Int×A3)}{ep:Nat}{t:IM}{ks:A0 (A0 K×A4)}{d:A0 K}{k:A4}{b:Bool}{Q:SetFound->A5->Prop}
  (l:(tupleKind knd).room A) (m:Flat knd) (p:s.heap.get? a=some o) (r:o.data = .set f ep t) (u:QW knd f ks) (c:QL t f.size)
  (g:∀q∈ks,(tupleKind knd).is s.heap q.1 q.2) (v:(tupleKind knd).is s.heap d k) (i:∀q∈ks,q.1≠d) (h:∀j,t.slot j = .empty->Q (.free j false) s) :
  wpAny (model prog w) A (setSearch a (.ref k) ((tupleKind knd).hash d) b) Q E s:=by
 obtain⟨j,x,y⟩:=Nm c.dm (by rw[c.pl];have:=c.rm;omega);obtain⟨n,z,e⟩:=Pp c.mm ((tupleKind knd).hash d) x;unfold setSearch;refine Jw l m p r u c g v i z (by rw[e];exact y) h n 0 100000 none rfl (by omega) ?_;have:SetTable.turns t.mask<=526:=by
  unfold SetTable.turns;rcases c.mm with e | e | e | e<;>omega
 omega
theorem LV.typeIs{a:A4}{ks:A0 (A0 K×A4)}(h:LV knd s.heap a ks):s.TypeIs (.ref a) "set":=let⟨o,_,_,_,b,c,_⟩:=h;⟨o,b,c.1⟩
theorem Rk{a:A4}{b:CM (Int×A3)}:byScan (.ref a) b=false:=rfl
theorem Rj{a:A4}{ks:A0 (A0 K×A4)}{b:A0 K}{e:A4}{Q:A6 Nat->A5->Prop}(k:(tupleKind knd).room A)(l:Flat knd)(m:LV knd s.heap a ks)
  (c:∀q∈ks,(tupleKind knd).is s.heap q.1 q.2) (n:(tupleKind knd).is s.heap b e) (d:∀q∈ks,q.1≠b) (h:Q none s):wpAny (model prog w) A (setFind a (.ref e) ((tupleKind knd).hash b)) Q E s:=by
 obtain⟨o,r,u,t,f,_,g,p,i⟩:=m;unfold setFind setFindIn;refine AA (CG f g i.fits ?_);dsimp only;rw[Rk];simp only[AW,CN];refine AA (Bi k l f g p i c n d fun j _=>?_);dsimp only;exact AE h
theorem QB{neg:Bool}{a:A4}{ks:A0 (A0 K×A4)}{b:A0 K}{d:A4}{Q:A3->A5->Prop}(g:A.units+1<cLine)(j:Flat knd)(c:LV knd s.heap a ks)
  (e:∀q∈ks,(tupleKind knd).is s.heap q.1 q.2) (i:(tupleKind knd).is s.heap b d) (f:∀q∈ks,q.1≠b) (h:Q (.bool false) { s with toks:=s.toks +(tupleKind knd).draws b }) :
  wpAny (model prog w) A (compareOp .In (.ref d) (.ref a)) Q E s:=by
 show wpAny _ _ (do return .bool (<-contains (.ref a) (.ref d))) Q E s;refine AA ?_;unfold contains
 try with_reducible refine BS ?_
 refine AA (GF c.typeIs F.slot_set_contains.lookup ?_);show wpAny _ _ (if(some (Value.builtin "set.__contains__") == some Value.none)=true then _ else _) _ E s;rw[AJ (by rw[beq_builtin_none];exact AZ)];refine AA (wpAny_callSpecialUnlessNone?_slot (name:=Str.ofString "__contains__") c.typeIs F.slot_set_contains
  (EC F.slot_set_contains c.typeIs entry_set_contains ?_ (F.args_set_contains_2 _ _)))
 unfold Builtin.«frozenset.__contains__» Builtin.Frozenset.oneOther;simp only[List.isEmpty_nil,bind_assoc];unfold Builtin.Frozenset.addrOf Builtin.Frozenset.withSetAsKey setContains;refine AA (AE ?_)
 try dsimp only
 refine AA (AE ?_)
 try dsimp only
 refine AA (FV ?_);refine BS ?_;refine AA ((tupleKind knd).pyHash ?hroom i ?_)
 case hroom=>exact g
 refine AA (Rj (s:={ s with toks:=s.toks +(tupleKind knd).draws b }) ?hroom j c e i f ?_)
 case hroom=>exact g
 refine AE ?_;show wpAny _ _ (ret (Value.bool false)) _ _ _;exact AE ⟨_,rfl,DG (AE h)⟩
def QE(knd:KeyKind prog w K):Prop:=∀v,(∃x,knd.is x v=true)->v.scannable=true
theorem hbv{j:A0 K}{f:A4}{Q:Bool->A5->Prop}(k:QE knd)(l:(tupleKind knd).is s.heap j f)(h:∀b,Q b s):wpAny (model prog w) A (hashByValue 8 (.ref f)) Q E s:=by
 obtain⟨o,d,n,g,m,p,r⟩:=l;have t:s.TypeIs (.ref f) "tuple":=⟨o,g,m⟩;unfold hashByValue;refine AA (GF t F.slot_tuple_hash.lookup ?_);dsimp only;refine AA (EV g p ?_);dsimp only[Option.getD_some];rw[<-HA];refine AA (CK (wpAny_forIn_list _ (fun a c e=>e=s/\c =(none,())/\∀v∈a,v∈d.toList) (fun c e=>e=s/\(c =(none,())\/c =(some false,()))) ?_ ?_ _ _ ⟨rfl,rfl,fun _ z=>z⟩) ?_ fun _ _ q=>q)
 .rintro v a c e ⟨rfl,rfl,i⟩;rw[hashByValue_scannable _ (k v (Gb r v (i v (BH ..))))];refine AA (AE ?_);cases plainKind v with
  | true =>
   simp only[ER,AW,CN];exact AE ⟨rfl,rfl,fun u x=>i u (AY _ x)⟩
  | false =>
   simp only[HI,EZ];exact AE ⟨rfl,.inr rfl⟩
 .rintro c e ⟨rfl,rfl,_⟩;exact⟨rfl,.inl rfl⟩
 .rintro c e ⟨rfl,rfl | rfl⟩
  .exact AE (h _)
  .exact AE (h _)
theorem l0{α:Type}(xs:CM α)(p:Nat)(x:α)(a:p<=xs.size):(SetTable.insertAt xs p x).size=xs.size+1:=by
 unfold SetTable.insertAt;rw[Array.size_append,Array.size_push,GB,GB];omega
theorem Eu{α:Type}(xs:CM α)(p:Nat)(x:α)(b:p<=xs.size):(SetTable.insertAt xs p x).toList.Perm (xs.toList ++ [x]):=by
 unfold SetTable.insertAt;rw[BN,DB,ET,ET];simp only[EM,FC,Nat.sub_zero];have e:List.take (xs.size-p) (List.drop p xs.toList)=List.drop p xs.toList:=by
  rw[DA];rw[DE,AL];omega
 rw[e];have a:xs.toList=xs.toList.take p++xs.toList.drop p:=(BO ..).symm
 conv=>rhs;rw[a]
 rw[BF,BF];exact DL _ CT
theorem Y1(xs:CM Nat)(j:Nat):∀(f lo hi:Nat),lo<=hi->SetTable.below.go xs j f lo hi<=hi
 | 0,lo,hi,h=>h
 | f+1,lo,hi,h=>by
  unfold SetTable.below.go;split
  .rename_i a;dsimp only;split
   .exact Y1 xs j f _ _ (by omega)
   .exact Nat.le_trans (Y1 xs j f _ _ (by omega)) (by omega)
  .exact h
theorem Um(xs:CM Nat)(j:Nat):SetTable.below xs j<=xs.size:=Y1 xs j _ _ _ (CF _)
theorem zAu{t:IM}(a:t.dummies = #[])(j:Nat):t.put j =({ t with place:=SetTable.insertAt t.place (SetTable.below t.place j) j },SetTable.below t.place j):=by
 unfold SetTable.put;have:SetTable.has t.dummies j=false:=by
  rw[a];unfold SetTable.has;simp
 rw[this];rfl
theorem zFo:SetTable.sizeAbove 20=32:=by decide
theorem zGm:SetTable.sizeAbove 76=128:=by decide
theorem zDx:SetTable.sizeAbove 308=512:=by decide
theorem Vc{f:CM (Int×A3)->A6 (IM×CM Nat)->Sem (CM (Int×A3)×IM)}(y:∀c g,f c g =(do
  let some (t,b):=g | unsupported "internal:set-table-without-room"
  let d:=b.filterMap (c[·]?)
  if d.size != c.size then unsupported "internal:set-table-lost-an-element"
  pure (d,t)))
  {a:A4} {o:Obj} {c:CM (Int×A3)} {ep:Nat} {t:IM} {n m:Nat} {Q:Unit->A5->Prop} (q:s.heap.get? a=some o) (r:o.data = .set c ep t) (z:t.dummies = #[]) (j:t.fits c.size=true)
  (l:SetTable.sizeAbove n=m+1) (i:PY m) (hsz:c.size*5<m*3)
  (h:∀(d:CM (Int×A3)) (t':IM),d.toList.Perm c.toList->QL t' d.size->Q () { s with heap:=s.heap.update a (Obj.putSet d t') }) :
  wpAny (model prog w) A (do
   let(c,_,t) <-setState a
   if SetTable.sizeAbove n>sizeLine then unsupported "set:memory"
   let(c,t) <-f c (t.relaid (c.map (·.1)) n)
   storeSet a c t) Q E s:=by
 refine AA (CG q r j ?_);dsimp only;have p:m<=511:=by rcases i with e | e | e | e<;>omega
 rw[l,AJ (by rw[sizeLine_eq];omega)];rw[y];have B:(c.map (·.1)).size<=m:=by rw[HE];omega
 obtain⟨place,b,u,C,v⟩:=Yr i t.finger (t.movedTo (SetTable.sizeAbove n-1)) t.led t.plain (c.map (·.1)) B;have D:t.relaid (c.map (·.1)) n=some ({ mask:=m,place,dummies:=#[],finger:=t.finger,led:=t.led,moves:=t.movedTo (SetTable.sizeAbove n-1),plain:=t.plain },b):=by
  unfold SetTable.relaid;rw[l];rw[l]at u;exact u
 rw[D];dsimp only;have x:(b.filterMap (c[·]?)).toList.Perm c.toList:=Uj (by rw[HE]at v;exact v);have k:(b.filterMap (c[·]?)).size=c.size:=by rw[<-AL,x.length_eq,AL]
 rw[AJ (by rw[k];simp)];refine AA (AE ?_);dsimp only;refine HJ q r (h _ _ x ⟨rfl,?_,i,?_⟩) (by rw[k,sizeLine_eq];omega)
 .rw[k,C,HE]
 .rw[k];exact hsz
theorem Dq{h:IA}{a:A4}{o:Obj}{d:CM (Int×A3)}{ep:Nat}{t:IM}(e:h.get? a=some o)(c:o.data = .set d ep t)(b:CM (Int×A3))(t':IM) :
  (h.update a (Obj.putSet b t')).get? a=some { o with data:=.set b (ep+1) t' }:=by
 have:=CD (Obj.putSet b t') e (by rw[putSet_of b t' c];rfl);rw[putSet_of b t' c]at this;exact this
theorem Nq{a:A4}{ks:A0 (A0 K×A4)}{g:A0 K}{l:A4}{Q:Bool->A5->Prop}(V:(tupleKind knd).room A)(W:Flat knd)(X:QE knd)(Y:LV knd s.heap a ks)
  (I:∀q∈ks,(tupleKind knd).is s.heap q.1 q.2) (S:(tupleKind knd).is s.heap g l) (J:∀q∈ks,q.1≠g) (hl:ks.length+1<=300)
  (h:∀h',Heap.SameBut a s.heap h'->LV knd h' a (ks ++ [(g,l)])->Q true { s with heap:=h' }) :
  wpAny (model prog w) A (setAddHashed a (.ref l) ((tupleKind knd).hash g)) Q E s:=by
 obtain⟨o,c,ep,t,y,z,B,L,i⟩:=Y;have Z:c.size=ks.length:=by
  have:=L.length_eq;rw[AL,AB]at this;exact this
 unfold setAddHashed setAddHashedIn;refine BS ?_;refine AA (CG y B i.fits ?_);dsimp only;rw[Rk];simp only[AW,CN];refine AA (Bi V W y B L i I S J fun j hj=>?_);dsimp only;refine AA (CG y B i.fits ?_);dsimp only;rw[zAu i.dm];dsimp only;have M:=Um t.place j;have C:SetTable.below t.place j<=c.size:=by rw[i.pl]at M;exact M
 have hrm:=i.rm;have p:=i.mm;have d:=l0 c (SetTable.below t.place j) ((tupleKind knd).hash g,Value.ref l) C;have N:=Eu c (SetTable.below t.place j) ((tupleKind knd).hash g,Value.ref l) C;have D:∀f:CM (Int×A3),f.toList.Perm (SetTable.insertAt c (SetTable.below t.place j) ((tupleKind knd).hash g,Value.ref l)).toList->QW knd f (ks ++ [(g,l)]):=fun f O=>by
  unfold QW;rw[AO];exact O.trans (N.trans (L.append_right _))
 have r:∀n:IM,n.dummies = #[]->n.mask=t.mask->n.place.size=c.size+1->wpAny (model prog w) A (do
   storeSet a (SetTable.insertAt c (SetTable.below t.place j) ((tupleKind knd).hash g,Value.ref l)) n
   if(!false&&n.tooFull)=true then do
    setRelay a (SetTable.grown (c.size+1))
    pure true
   else pure true) Q E s:=by
  intro n G H P;refine AA (HJ y B ?_ (by rw[d,sizeLine_eq];omega));have u:=Dq y B (SetTable.insertAt c (SetTable.below t.place j) ((tupleKind knd).hash g,Value.ref l)) n;have F:=CV s.heap a (Obj.putSet (SetTable.insertAt c (SetTable.below t.place j) ((tupleKind knd).hash g,Value.ref l)) n);have R:n.tooFull=decide ((c.size+1)*5 ≥ t.mask*3):=by
   unfold SetTable.tooFull SetTable.fill;rw[G,H,P];rfl
  rw[R,HI,Bool.true_and];by_cases k:(c.size+1)*5 ≥ t.mask*3
  .rw[BD k,AK rfl];have v:∃m,SetTable.sizeAbove (SetTable.grown (c.size+1))=m+1/\PY m/\(c.size+1)*5<m*3:=by
    have hg:SetTable.grown (c.size+1) =(c.size+1)*4:=by
     unfold SetTable.grown;rw[AJ (by omega)]
    rw[hg];rcases p with e | e | e | e
    .have:c.size+1=5:=by omega
     rw[this];exact⟨31,zFo,.inr (.inl rfl),by decide⟩
    .have:c.size+1=19:=by omega
     rw[this];exact⟨127,zGm,.inr (.inr (.inl rfl)),by decide⟩
    .have:c.size+1=77:=by omega
     rw[this];exact⟨511,zDx,.inr (.inr (.inr rfl)),by decide⟩
    .omega
   obtain⟨m,c1,c2,c3⟩:=v;refine AA ?_;unfold setRelay;refine Vc (fun _ _=>rfl) (s:={ s with heap:=_ }) u rfl G ?_ c1 c2 (by rw[d];exact c3) fun f T O ht=>?_
   .unfold SetTable.fits SetTable.fill;rw[d,P,G,H];have U:c.size+1+0<=t.mask:=by rcases p with e | e | e | e<;>omega
    simp;omega
   .refine AE (h _ (F.trans (CV _ a _)) ?_);exact⟨_,f,_,T,Dq u rfl f T,z,rfl,D f O,ht⟩
  .rw[BC k,AJ (by decide)];refine AE (h _ F ⟨_,_,_,n,u,z,rfl,D _ (.refl _),⟨G,?_,?_,?_⟩⟩)
   .rw[P,d]
   .rw[H];exact p
   .rw[H,d];omega
 have x:(SetTable.insertAt t.place (SetTable.below t.place j) j).size=c.size+1:=by rw[l0 _ _ _ M,i.pl]
 cases hpl:t.plain with
 | true =>
  simp only[EZ];refine AA (hbv X S fun b=>?_);cases b with
  | true =>
   simp only[EZ];exact r _ i.dm rfl x
  | false =>
   simp only[AW,CN];exact r _ i.dm rfl x
 | false =>
  simp only[AW,CN];refine AA (AE ?_);simp only[EZ];exact r _ i.dm rfl x
theorem PN{a:A4}{ks:A0 (A0 K×A4)}{b:A0 K}{c:A4}{Q:A3->A5->Prop}(i:A.units+1<cLine)(l:Flat knd)(m:QE knd)(j:LV knd s.heap a ks)
  (d:∀q∈ks,(tupleKind knd).is s.heap q.1 q.2) (k:(tupleKind knd).is s.heap b c) (e:∀q∈ks,q.1≠b) (n:ks.length+1<=300)
  (h:∀h',Heap.SameBut a s.heap h'->LV knd h' a (ks ++ [(b,c)])->Q .none { s with heap:=h',toks:=s.toks +(tupleKind knd).draws b }) :
  wpAny (model prog w) A (call (.builtin "set.add") [.ref a,.ref c]) Q E s:=by
 refine EC F.slot_set_add j.typeIs F.entry_set_add ?_ (F.args_set_add_2 _ _);unfold Builtin.«set.add» Builtin.Frozenset.oneOther;simp only[List.isEmpty_nil,bind_assoc];unfold Builtin.Frozenset.addrOf setAdd;refine AA (AE ?_)
 try dsimp only
 refine AA (AE ?_)
 try dsimp only
 refine AA ?_;refine BS ?_;refine AA ((tupleKind knd).pyHash ?hroom k ?_)
 case hroom=>exact i
 refine Nq (s:={ s with toks:=s.toks +(tupleKind knd).draws b }) ?hroom l m j d k e n fun h' f g=>?_
 case hroom=>exact i
 show wpAny _ _ (ret Value.none) _ _ _;exact AE ⟨_,rfl,h h' f g⟩
end
def Ls:Manifest.owners.lookup (String.ofList ['r','o','t','a','r','e','t','i','_','t','e','s'].reverse)=some Manifest.sig_set_iterator:=by kernel_rfl
def JJ:Slot "set_iterator" "__next__" "set_iterator.__next__" :=
 .of (owner := "set_iterator") (n := "__next__") (by rw[typeLookup_type,builtinLookup_eq_fast];kernel_rfl) (by decide +kernel) (by decide +kernel) (by decide +kernel) (by first | exact .inl (by decide +kernel) | exact .inr (by decide +kernel)) (by rw[isSubtype_type];kernel_rfl)
def i8:entryFor table "set_iterator.__next__" = some Builtin.«set_iterator.__next__»:=entryFor_of_tree (by kernel_rfl)
def t9(a:A3):argsOk "set_iterator.__next__" ⟨[a],[]⟩:=by
 unfold argsOk;rw[signature?_of (id := "set_iterator.__next__") (n:=['_','_','t','x','e','n','_','_']) (o:=['r','o','t','a','r','e','t','i','_','t','e','s']) (by kernel_rfl) Ls];kernel_rfl
def u5:Slot "set_iterator" "__iter__" "set_iterator.__iter__" :=
 .of (owner := "set_iterator") (n := "__iter__") (by rw[typeLookup_type,builtinLookup_eq_fast];kernel_rfl) (by decide +kernel) (by decide +kernel) (by decide +kernel) (by first | exact .inl (by decide +kernel) | exact .inr (by decide +kernel)) (by rw[isSubtype_type];kernel_rfl)
def Hv(a:A3):argsOk "set_iterator.__iter__" ⟨[a],[]⟩:=by
 unfold argsOk;rw[signature?_of (id := "set_iterator.__iter__") (n:=['_','_','r','e','t','i','_','_']) (o:=['r','o','t','a','r','e','t','i','_','t','e','s']) (by kernel_rfl) Ls];kernel_rfl
def Do:entryFor table "set_iterator.__iter__" = some Builtin.«dict_keyiterator.__iter__» :=
 entryFor_alias (id' := "dict_keyiterator.__iter__") (by kernel_rfl) (by first | rfl | decide +kernel | (unfold String.splitOn;simp +decide [String.splitOnAux])) (by decide +kernel) (by kernel_rfl)
def Fs:entryFor table "set.__iter__" = some Builtin.«frozenset.__iter__» :=
 entryFor_alias (id' := "frozenset.__iter__") (by kernel_rfl) rfl (by decide +kernel) (by kernel_rfl)
def zEj:typeLookup (.type "set") "__len__" = pure (some (.builtin "set.__len__")):=by rw[typeLookup_type,builtinLookup_eq_fast];kernel_rfl
section
variable{prog:F8}{w:H_}{A:II}{E:A3->A5->Prop}{s:A5}
theorem Pg{n:Nat}{Q:Nat->A5->Prop}(a:n≠0)(h:∀i d,i<n->Q i { s with drawn:=d }):wpAny (model prog w) A (choose .order n) Q E s:=fun Γ p hΓ=>by
 unfold choose;rw[Sem.wp_choose];exact⟨a,h _ _ (Nat.mod_lt _ (Nat.pos_of_ne_zero a))⟩
theorem JN{α:Type}:∀{l:A0 α} {i:Nat} {x:α},l[i]?=some x->(x::l.eraseIdx i).Perm l
 | [],i,x,h=>by simp at h
 | y::l,0,x,h=>by
  have:y=x:=by simpa using h
  subst this;exact .refl _
 | y::l,i+1,x,h=>by
  have a:l[i]?=some x:=by simpa using h
  exact(List.Perm.swap y x _).trans ((JN a).cons y)
theorem Hq{α:Type}{l:A0 α}{i:Nat}{x:α}(h:l[i]?=some x):(l.eraseIdx i).length+1=l.length:=(JN h).length_eq
theorem Qe{α:Type}:∀(n:Nat) (l:A0 α) (s:A5) (Q:A0 α->A5->Prop),l.length=n->(∀b d,b.Perm l->Q b { s with drawn:=d })->wpAny (model prog w) A (drawOrder n l) Q E s
 | 0,l,s,Q,a,h=>by
  unfold drawOrder;obtain rfl:=FW.mp a;exact AE (h [] s.drawn (.refl _))
 | n+1,[],s,Q,a,h=>by simp at a
 | n+1,x::f,s,Q,a,h=>by
  unfold drawOrder;refine AA (Pg (by simp) fun i d g=>?_);have e:(x::f)[i]?=some ((x::f)[i]):=AC g;rw[e];dsimp only;have j:=JN e;refine AA (Qe n _ _ _ (by have:=Hq e;omega) fun b k c=>?_);exact AE (h _ k ((c.cons _).trans j))
theorem Sk{α:Type}(nx:Nat->Nat):∀(f k:Nat) (left:A0 α) (out:CM α),left.length=f->(pickOrder.go nx f k left out).toList.Perm (out.toList++left)
 | 0,k,left,out,h=>by
  obtain rfl:=FW.mp h;unfold pickOrder.go;simp
 | f+1,k,left,out,h=>by
  have a:nx k % left.length<left.length:=Nat.mod_lt _ (by omega);have e:left[nx k % left.length]?=some left[nx k % left.length]:=AC a;unfold pickOrder.go;rw[e];dsimp only;have b:=JN e;refine(Sk nx f (k+1) _ _ (by have:=Hq e;omega)).trans ?_;rw[DB,BF];exact b.append_left _
theorem Aj{α:Type}(nx:Nat->Nat)(xs:CM α):(pickOrder nx xs).toList.Perm xs.toList:=by
 unfold pickOrder;have:=Sk nx xs.size 0 xs.toList #[] (AL ..);simpa using this
structure PX(w:H_)(h:IA)(a:A4)(o:Obj)(es:CM (Int×A3))(ep:Nat)(t:IM):Prop where
 ho:h.get? a=some o
 ex:o.ExactSet
 hd:o.data = .set es ep t
 ft:t.fits es.size=true
 led:t.led=!(w.params.followText "set-order")
 pln:t.plain=true->es.size=0
 few:es.size<4096
def P6(first:A3)(i n ep:Nat)(a:A4):Obj:={ cls:=.type "set_iterator",data:=.fields #[first,rawInt i,.ref a,rawInt n,rawInt ep] }
theorem Q6{Q:Bool->A5->Prop}(h:Q (w.params.followText "set-order") s):wpAny (model prog w) A setsByText Q E s:=by
 unfold setsByText;exact AA (GP (AE h))
variable{a it:A4}{o:Obj}{es:CM (Int×A3)}{ep:Nat}{t:IM}
theorem Ac{i g:Nat}{r:A6 (A3×Nat)}{Q:A6 A3->A5->Prop}(h:A.handled=none)(S:PX w s.heap a o es ep t)(n:it≠a)(hi:s.heap.get? it=some (P6 (rawInt g) i es.size ep a))
  (c:∀(j:A6 (A3×Nat)->A5->Prop) (q:II) (u:A3->A5->Prop),j r s->wpAny (model prog w) q (setNext a g i ep) j u s)
  (d:∀x nx h',r=some (x,nx)->h'.get? it=some (P6 (rawInt nx) (i+1) es.size ep a)->Heap.SameBut it s.heap h'->Q (some x) { s with heap:=h' })
  (f:r=none->∀h',Heap.ExtBut it s.heap h'->Q none { s with heap:=h' }):wpAny (model prog w) A (pyNext (.ref it)) Q E s:=by
 have k:s.TypeIs (.ref it) "set_iterator":=⟨_,hi,rfl⟩;unfold pyNext;refine AA (HU (FX (name:=Str.ofString "__next__") k JJ (EC JJ k i8 ?_ (t9 _))));unfold Builtin.«set_iterator.__next__»;refine AA (FZ (a:=(Value.ref it,[])) rfl ?_);dsimp only;refine AA (wpAny_fieldsOf hi rfl ?_);dsimp only[rawInt];refine AA (wpAny_setEntries_of S.ho S.hd S.ft ?_);rw[AJ (by simp)];simp only[CH];refine AA (c _ _ _ ?_);cases r with
 | some p =>
  obtain⟨x,nx⟩:=p;dsimp only;refine AA (GN hi rfl (by simp) ?_);have l:=CD (Obj.mapFields (·.setIfInBounds 0 (rawInt (nx:Nat)))) hi rfl;refine AA (GN l rfl (by simp) ?_);have v:=CD (Obj.mapFields (·.setIfInBounds 1 (rawInt ((i:Int)+1)))) l rfl;refine AE ⟨x,rfl,AE (d x nx _ rfl ?_ ((CV ..).trans (CV ..)))⟩;exact v
 | none =>
  dsimp only;refine AA (GN hi rfl (by simp) ?_);refine AA ?_;simp only[newExc,newTuple];refine AA (DW ?_ (by size_fits));refine AA (m:=firstArgMember _ _) (FZ (a:=Value.none) (by first | rfl | (simp only[firstArgMember];rfl)) ?_);refine DW ?_ (by size_fits);simp only[raiseNew];refine AA (wpAny_handled ?_)
  first | rw[show A.in1.handled=none from h] | rw[h]
  refine AA (AE (wpAny_throw ?_));refine AA (HQ (T := "StopIteration") (b:=true) ⟨_,AN _ rfl,rfl⟩ isSubtype_stop ?_);exact AE (f rfl _ ((HR (HR (fun b o y e=>(BQ _ _ (Ne.symm y)).trans e) _)) _))
end
def RE(a:A0 Nat):Obj:={ cls:=.type "tuple",data:=.seq (a.map fun(i:Nat)=>rawInt i).toArray }
section
variable{prog:F8}{w:H_}{A:II}{E:A3->A5->Prop}{s:A5}{a it T:A4}{o:Obj}{es:CM (Int×A3)}{ep:Nat}{t:IM}
theorem Lc{i:Nat}{c:A0 Nat}{Q:A6 A3->A5->Prop}(n:A.handled=none)(S:PX w s.heap a o es ep t)(hi:s.heap.get? it=some (P6 (.ref T) i es.size ep a))(q:s.heap.get? T=some (RE c))
  (g:∀p x h',c[i]?=some p->es[p]?=some x->h'.get? it=some (P6 (.ref T) (i+1) es.size ep a)->Heap.SameBut it s.heap h'->Q (some x.2) { s with heap:=h' }) (h:∀p∈c,p<es.size)
  (j:c.length<=i->∀h',Heap.ExtBut it s.heap h'->Q none { s with heap:=h' }):wpAny (model prog w) A (pyNext (.ref it)) Q E s:=by
 have f:s.TypeIs (.ref it) "set_iterator":=⟨_,hi,rfl⟩;unfold pyNext;refine AA (HU (FX (name:=Str.ofString "__next__") f JJ (EC JJ f i8 ?_ (t9 _))));unfold Builtin.«set_iterator.__next__»;refine AA (FZ (a:=(Value.ref it,[])) rfl ?_);dsimp only;refine AA (wpAny_fieldsOf hi rfl ?_);dsimp only[rawInt];refine AA (wpAny_setEntries_of S.ho S.hd S.ft ?_);rw[AJ (by simp)];simp only[CH];refine AA (EV q rfl ?_);dsimp only;cases e:c[i]? with
 | some p =>
  have r:(c.map fun(i:Nat)=>Value.int (i:Int) 0).toArray[i]?=some (.int (p:Int) 0):=by
   rw[GJ,AH,e];rfl
  have d:(c.map fun(i:Nat)=>rawInt i).toArray[i]?=some (.int (p:Int) 0):=r;rw[d];have u:p<es.size:=h p (AM e);obtain⟨x,k⟩:∃x,es[p]?=some x:=⟨es[p],DF.mpr ⟨u,rfl⟩⟩;dsimp only;simp only[CH];unfold setNextDrawn;refine AA (AA (CG S.ho S.hd S.ft ?_));dsimp only;rw[AJ (by simp),k];dsimp only;refine AE ?_;refine AA (GN hi rfl (by simp) ?_);have v:=CD (Obj.mapFields (·.setIfInBounds 1 (rawInt ((i:Int)+1)))) hi rfl;exact AE ⟨x.2,rfl,AE (g p x _ e k v (CV ..))⟩
 | none =>
  have d:(c.map fun(i:Nat)=>rawInt i).toArray[i]?=none:=by
   rw[GJ,AH,e];rfl
  rw[d];dsimp only;refine AA (GN hi rfl (by simp) ?_);have y:=CD (Obj.mapFields (·.setIfInBounds 0 (rawInt 0))) hi rfl;refine AA (GN y rfl (by simp) ?_);refine AA ?_;simp only[newExc,newTuple];refine AA (DW ?_ (by size_fits));refine AA (m:=firstArgMember _ _) (FZ (a:=Value.none) (by first | rfl | (simp only[firstArgMember];rfl)) ?_);refine DW ?_ (by size_fits);simp only[raiseNew];refine AA (wpAny_handled ?_);rw[show A.in1.handled=none from n];refine AA (AE (wpAny_throw ?_));refine AA (HQ (T := "StopIteration") (b:=true) ⟨_,AN _ rfl,rfl⟩ isSubtype_stop ?_);refine AE (j (GR.mp e) _ (HR (HR (fun b B l z=>?_) _) _));exact(BQ _ _ (Ne.symm l)).trans ((BQ _ _ (Ne.symm l)).trans z)
def zFh(w:H_)(a T:A4)(es:CM (Int×A3))(ep:Nat)(t:IM)(b:A0 A3)(i:Nat)(h:IA)(first:A3):Prop :=
 (w.params.followText "set-order" = true/\first=rawInt (0:Nat)/\b =(pickOrder (w.params.setOrder a ep) es).toList.map (·.2)) \/
 (w.params.followText "set-order" = false/\∃c:A0 Nat,first = .ref T/\h.get? T=some (RE c)/\c.Perm (List.range es.size)/\b=c.filterMap fun p=>es[p]?.map (·.2)) \/
 (w.params.followText "set-order" = false/\es.size<=1/\b=es.toList.map (·.2)/\∃d:Nat,first=rawInt d/\(i=0->d=0)/\(i=1->∃j,t.place = #[j]/\d=j+1))
def SSt(w:H_)(a it T:A4)(o:Obj)(es:CM (Int×A3))(ep:Nat)(t:IM)(b:A0 A3)(i:Nat)(h:IA):Prop :=
 PX w h a o es ep t/\∃first,h.get? it=some (P6 first i es.size ep a)/\zFh w a T es ep t b i h first
theorem PX.at{h h':IA}(S:PX w h a o es ep t)(e:h'.get? a=some o):PX w h' a o es ep t:=⟨e,S.ex,S.hd,S.ft,S.led,S.pln,S.few⟩
theorem zBu(j:Nat):SetTable.below #[j] 0=0:=by simp[SetTable.below,SetTable.below.go]
theorem zBz(j:Nat):SetTable.below #[j] (j+1)=1:=by simp[SetTable.below,SetTable.below.go]
theorem Ua(S:PX w s.heap a o es ep t):t.place.size=es.size:=by
 have:=S.ft;unfold SetTable.fits at this;rw[BT]at this;simpa using this.1
theorem Se(L:A.handled=none){u:A0 A3}(m:it≠a)(hiT:it≠T):Walks prog w A it [it,a,T] [it] es.size (fun i v=>u[i]?=some v) (SSt w a it T o es ep t u) where
 sub:=fun b M=>by simp at M;simp[M]
 frame:=fun i h c ⟨S,first,B,N⟩ k=>by
  refine⟨S.at (k a (by simp) _ S.ho),first,k it (by simp) _ B,?_⟩;rcases N with z | ⟨g,O,W,n,F,G⟩ | z
  .exact .inl z
  .exact .inr (.inl ⟨g,O,W,k T (by simp) _ n,F,G⟩)
  .exact .inr (.inr z)
 item:=fun i s Q E hlt ⟨S,first,B,N⟩ I=>by
  have d:∀c,Heap.SameBut it s.heap c->∀b H,b∉[it]->s.heap.get? b=some H->c.get? b=some H:=fun c f b H M e=>(f.2 b (by simpa using M)).trans e;rcases N with⟨g,rfl,n⟩ | ⟨g,O,rfl,n,F,G⟩ | ⟨g,W,n,sl,rfl,G,z6⟩
  .have J:=Aj (w.params.setOrder a ep) es;have C:(pickOrder (w.params.setOrder a ep) es).size=es.size:=by rw[<-AL,J.length_eq,AL]
   obtain⟨x,R⟩:∃x,(pickOrder (w.params.setOrder a ep) es)[i]?=some x:=⟨_,DF.mpr ⟨by rw[C];exact hlt,rfl⟩⟩;refine Ac (r:=some (x.2,0)) L S m B (fun U A' E' q=>?_) (fun y nx c D P f=>?_) (fun e=>nomatch e)
   .unfold setNext setWalk;refine AA (CG S.ho S.hd S.ft ?_);dsimp only;refine AA (Q6 ?_);rw[g,AK rfl,AJ (by simp)];refine AA (AA (CG S.ho S.hd S.ft ?_));dsimp only;refine AA (Q6 ?_);rw[g,AK rfl];refine AA (GP (AE (AE ?_)));show U (((pickOrder (w.params.setOrder a ep) es)[i]?).map fun e=>(e.2,0)) s;rw[R];exact q
   .cases D;have:=I x.2 c s.toks (by rw[n,AH,BK,R];rfl) ⟨S.at ((f.2 a (Ne.symm m)).trans S.ho),_,P,.inl ⟨g,rfl,n⟩⟩ (d c f);exact this
  .refine Lc L S B n (fun p x c D P e3 f=>?_) (fun p hp=>BW.mp (F.mem_iff.mp hp)) (fun hle=>?_)
   .have V:∀q∈O,(es[q]?.map (·.2)).isSome=true:=fun q hq=>by
     have:q<es.size:=BW.mp (F.mem_iff.mp hq);rw[DF.mpr ⟨this,rfl⟩];rfl
    refine I x.2 c s.toks ?_ ⟨S.at ((f.2 a (Ne.symm m)).trans S.ho),_,e3,.inr (.inl ⟨g,O,rfl,(f.2 T (Ne.symm hiT)).trans n,F,G⟩)⟩ (d c f);have gen:∀(l:A0 Nat) (i p:Nat),(∀q∈l,(es[q]?.map (·.2)).isSome=true)->l[i]?=some p->(l.filterMap fun p=>es[p]?.map (·.2))[i]?=es[p]?.map (·.2):=by
     intro l
     induction l with
     | nil=>intro i p _ e;simp at e
     | cons q r ih =>
      intro i p X e;obtain⟨v,hv⟩:=DY.mp (X q (BH ..));rw[DT,hv];dsimp only;cases i with
      | zero =>
       have:q=p:=by simpa using e
       subst this;simpa using hv.symm
      | succ i=>simpa using ih i p (fun q hq=>X q (AY _ hq)) (by simpa using e)
    rw[G,gen O i p V D,P];rfl
   .have:=F.length_eq;rw[BV]at this;omega
  .have Y:i=0:=by omega
   have h1:es.size=1:=by omega
   obtain⟨j,Z⟩:∃j,t.place = #[j]:=Array.size_eq_one_iff.mp ((Ua S).trans h1);obtain⟨x,R⟩:∃x,es = #[x]:=Array.size_eq_one_iff.mp h1;have hs0:=G Y;subst hs0;have hx0:es[0]?=some x:=by rw[R];rfl
   refine Ac (r:=some (x.2,j+1)) L S m B (fun U A' E' q=>?_) (fun y nx c D P f=>?_) (fun e=>nomatch e)
   .unfold setNext;refine AA (CG S.ho S.hd S.ft ?_);dsimp only;refine AA (Q6 ?_);rw[g,AJ (by decide)];show wpAny _ _ (if(!t.plain&&decide (es.size>1))=true then _ else _) _ _ _;rw[AJ (by rw[h1];simp)];show wpAny _ _ (do (if(!t.led&&!es.isEmpty)=true then unsupported "set:maker-not-led" else pure ());_) _ _ _;rw[S.led,g,AJ (by simp)];refine AA (AE ?_);rw[Z,zBu,hx0];exact AE q
   .cases D;refine I x.2 c s.toks (by rw[n,Y,R];rfl) ⟨S.at ((f.2 a (Ne.symm m)).trans S.ho),_,P,.inr (.inr ⟨g,W,n,j+1,rfl,fun e=>by omega,fun _=>⟨j,Z,rfl⟩⟩)⟩ (d c f)
 done:=fun s Q E ⟨S,first,B,N⟩ I=>by
  have d:∀c,Heap.ExtBut it s.heap c->∀b H,b∉[it]->s.heap.get? b=some H->c.get? b=some H:=fun c f b H M e=>f b H (by simpa using M) e;rcases N with⟨g,rfl,n⟩ | ⟨g,O,rfl,n,F,G⟩ | ⟨g,W,n,sl,rfl,G,z6⟩
  .have J:=Aj (w.params.setOrder a ep) es;have C:(pickOrder (w.params.setOrder a ep) es).size=es.size:=by rw[<-AL,J.length_eq,AL]
   refine Ac (r:=none) L S m B (fun U A' E' q=>?_) (fun y nx c D=>nomatch D) (fun _ c f=>I c s.toks (d c f));unfold setNext setWalk;refine AA (CG S.ho S.hd S.ft ?_);dsimp only;refine AA (Q6 ?_);rw[g,AK rfl,AJ (by simp)];refine AA (AA (CG S.ho S.hd S.ft ?_));dsimp only;refine AA (Q6 ?_);rw[g,AK rfl];refine AA (GP (AE (AE ?_)));show U (((pickOrder (w.params.setOrder a ep) es)[es.size]?).map fun e=>(e.2,0)) s;rw[GD (by rw[C];exact Nat.le_refl _)];exact q
  .have X:=F.length_eq;rw[BV]at X;refine Lc L S B n (fun p x c D P e3 f=>?_) (fun p hp=>BW.mp (F.mem_iff.mp hp)) (fun _ c f=>I c s.toks (d c f));have:=(AG.mp D).1;omega
  .refine Ac (r:=none) L S m B (fun U A' E' q=>?_) (fun y nx c D=>nomatch D) (fun _ c f=>I c s.toks (d c f));unfold setNext;refine AA (CG S.ho S.hd S.ft ?_);dsimp only;refine AA (Q6 ?_);rw[g,AJ (by decide)];show wpAny _ _ (if(!t.plain&&decide (es.size>1))=true then _ else _) _ _ _;rw[AJ (by simp;intro _;omega)];show wpAny _ _ (do (if(!t.led&&!es.isEmpty)=true then unsupported "set:maker-not-led" else pure ());_) _ _ _;rw[S.led,g,AJ (by simp)];refine AA (AE ?_);have K:es[SetTable.below t.place sl]?=none:=by
    by_cases Y:es.size=0
    .exact GD (by rw[Y];exact CF _)
    .obtain⟨j,Z,rfl⟩:=z6 (by omega);rw[Z,zBz];exact GD (by omega)
   rw[K];exact AE q
 self:=fun i s Q E ⟨S,first,B,N⟩ h=>by
  have hT:s.TypeIs (.ref it) "set_iterator":=⟨_,B,rfl⟩;refine wpAny_pyIter_slot hT u5 (EC u5 hT Do ?_ (Hv _));show wpAny _ _ (ret (.ref it)) _ _ s;exact AE ⟨_,rfl, "set_iterator",_,hT,JJ.lookup,h⟩
theorem Uw{Q:A3->A5->Prop}(S:PX w s.heap a o es ep t)
  (h:∀(it T:A4) (c:A0 A3) (h':IA) (d:Drawn),it≠a->it≠T->(T=a\/s.heap.objs.size<=T)->s.heap.objs.size<=it->(∀b g,s.heap.get? b=some g->h'.get? b=some g)->c.Perm (es.toList.map (·.2))->SSt w a it T o es ep t c 0 h'->(∀b∈[it,a,T],b<h'.objs.size) ->
   (∀I:II,I.handled=none->Walks prog w I it [it,a,T] [it] es.size (fun i v=>c[i]?=some v) (SSt w a it T o es ep t c))->Q (.ref it) { s with heap:=h',drawn:=d }):wpAny (model prog w) A (pyIter (.ref a)) Q E s:=by
 have M:s.TypeIs (.ref a) "set":=⟨_,S.ho,S.ex.1⟩;have G:=AI S.ho;refine wpAny_pyIter_slot M F.slot_set_iter (EC F.slot_set_iter M Fs ?_ (F.args_set_iter_1 _));unfold Builtin.«frozenset.__iter__» Builtin.Frozenset.slot0 Builtin.Frozenset.sizeOf;refine AA (AA (FZ (a:=(Value.ref a,[])) rfl ?_));dsimp only;refine FZ (a:=a) rfl ?_;refine AA (AA (wpAny_setEntries_of S.ho S.hd S.ft (AE ?_)));have m:∀(first:A3) (T:A4) (c:A0 A3) (f:IA) (d:Drawn),(∀b g,s.heap.get? b=some g->f.get? b=some g)->s.heap.objs.size<=f.objs.size->c.Perm (es.toList.map (·.2))->T<f.objs.size->(T=a\/s.heap.objs.size<=T) ->
   (∀q:IA,(∀b g,f.get? b=some g->q.get? b=some g)->zFh w a T es ep t c 0 q first) ->
   wpAny (model prog w) A.in1 (do let e <-setEpoch a;let x <-newFields "set_iterator" [first,rawInt 0,.ref a,rawInt (es.size:Nat),rawInt (e:Nat)];ret x) (fun r N=>∃v,r=Fin.done (Flow.ret v)/\∃O r,N.TypeIs v O/\typeLookup (Value.type O) (Str.ofString "__next__")=pure (some r)/\Q v N) E { s with heap:=f,drawn:=d }:=by
  intro first T c f d k n l z J P
  refine AA (wpAny_setEpoch_of (s:={ s with heap:=f,drawn:=d }) (k a o S.ho) S.hd S.ft ?_);refine AA (DW ?_);have H:(f.push (P6 first 0 es.size ep a)).get? f.objs.size=some (P6 first 0 es.size ep a):=AN _ rfl;have B:∀b g,f.get? b=some g->(f.push (P6 first 0 es.size ep a)).get? b=some g:=fun b g e=>AD _ e;have C:f.objs.size≠a:=fun e=>absurd (BE G n) (by rw[<-e];exact CQ _);have D:f.objs.size≠T:=fun e=>absurd z (by rw[<-e];exact CQ _);refine AE ⟨.ref f.objs.size,rfl, "set_iterator",_,⟨_,H,rfl⟩,JJ.lookup,?_⟩;refine h f.objs.size T c (f.push (P6 first 0 es.size ep a)) d C D J n (fun b g e=>B b g (k b g e)) l ⟨S.at (B a o (k a o S.ho)),first,H,P _ B⟩ (fun b u=>?_) fun I R=>Se R C D;rw[DH];simp only[AU,BX,or_false]at u;rcases u with rfl | rfl | rfl
  .exact ED _
  .exact DC (BE G n)
  .exact DC z
 unfold setDrawn;refine AA (AA (CG S.ho S.hd S.ft ?_));dsimp only;refine AA (Q6 (AE ?_));cases u:w.params.followText "set-order" with
 | true =>
  show wpAny _ _ (if(!true &&(!t.plain&&decide (es.size>1)))=true then _ else _) _ _ _;rw[ER,EE,AJ (by decide)];refine AA (AE ?_);exact m _ a _ s.heap s.drawn (fun _ _ e=>e) (Nat.le_refl _) ((Aj _ es).map _) G (.inl rfl) fun q _=>.inl ⟨u,rfl,rfl⟩
 | false =>
  show wpAny _ _ (if(!false &&(!t.plain&&decide (es.size>1)))=true then _ else _) _ _ _;by_cases j:(!t.plain&&decide (es.size>1))=true
  .rw[HI,Bool.true_and,AK j];refine AA (Qe es.size (List.range es.size) s _ (BV ..) fun y d l=>AA ?_);unfold newTuple;refine DW ?_ ?_
   .have H:(s.heap.push (RE y)).get? s.heap.objs.size=some (RE y):=AN _ rfl;refine m _ s.heap.objs.size (y.filterMap fun p=>es[p]?.map (·.2)) (s.heap.push (RE y)) d (fun b g e=>AD _ e) (by rw[DH];exact DV _) ?_ (by rw[DH];exact ED _) (.inr (Nat.le_refl _)) fun q B=>.inr (.inl ⟨u,y,rfl,B _ _ H,l,rfl⟩);refine(l.filterMap _).trans (List.Perm.of_eq ?_);have:=filterMap_getElem?_range es;rw[<-this,List.map_filterMap]
   .have f:=l.length_eq;have q:=S.few;rw[BV]at f;show(List.map _ y).toArray.size<=sizeLine;rw[AS,AB,sizeLine_eq];omega
  .rw[HI,Bool.true_and,AJ j];refine AA (AE ?_);have K:es.size<=1:=by
    by_cases l:t.plain=true
    .have:=S.pln l;omega
    .have L:t.plain=false:=by simpa using l
     rw[L]at j;simp at j;omega
   exact m _ a _ s.heap s.drawn (fun _ _ e=>e) (Nat.le_refl _) (.refl _) G (.inl rfl) fun q _=>.inr (.inr ⟨u,K,rfl,0,rfl,fun _=>rfl,fun e=>absurd e (by decide)⟩)
end
section
variable{prog:F8}{w:H_}{A:II}{E:A3->A5->Prop}{s:A5}{a:A4}{o:Obj}{es:CM (Int×A3)}{ep:Nat}{t:IM}
theorem Ud{a:A0 A3}{b:CM A3}(h:ItemsOf (fun i v=>a[i]?=some v) b a.length):b.toList=a:=by
 refine FN fun i=>?_;rw[BK];by_cases c:i<b.size
 .have e:b[i]?=some b[i]:=DF.mpr ⟨c,rfl⟩;rw[e,h.2 i _ e]
 .rw[GD (by omega),EN (by have:=h.1;omega)]
theorem OB{Q:A0 A3->A5->Prop}(O:A.handled=none)(S:PX w s.heap a o es ep t)
  (U:∀f q,(∀b c,s.heap.get? b=some c->f.heap.get? b=some c)->f.gens=s.gens->f.os=s.os->s.heap.objs.size<f.heap.objs.size->q.Perm (es.toList.map (·.2))->Q q f):wpAny (model prog w) A (collect (.ref a)) Q E s:=by
 have V:=AI S.ho;unfold collect;refine AA (wpAny_runValue (DN F.entry_proto_collect ?_));rw[Around.under_plainId F.plain_proto_collect _];show wpAny _ A.in1 (newList [] >>= fun l=>again (.builtin "list.__iadd__" ⟨[l,.ref a],[]⟩)) _ _ s;refine AA (DW ?_);refine AE ⟨plainId_quiet F.plain_list_iadd _,DN F.entry_list_iadd ?_⟩;rw[Around.under_plainId F.plain_list_iadd _];show wpAny _ A.in1 (Builtin.List.listExtendWith (.ref s.heap.objs.size) (.ref a) (.ref s.heap.objs.size)) _ _ _;unfold Builtin.List.listExtendWith;have h:s.heap.objs.size≠a:=fun e=>absurd V (by rw[<-e];exact CQ _);generalize J:s.heap.push { cls:=.type "list",data:=.seq ([]:A0 A3).toArray }=H;have G:∀b c,s.heap.get? b=some c->H.get? b=some c:=fun b c e=>by rw[<-J];exact AD _ e
 have i:H.objs.size=s.heap.objs.size+1:=by rw[<-J,DH]
 have X:H.get? s.heap.objs.size=some { cls:=.type "list",data:=.seq ([]:A0 A3).toArray }:=by rw[<-J];exact AN _ rfl
 have Y:Shared.TypeIs { s with heap:=H } (.ref a) "set":=⟨o,G a o S.ho,S.ex.1⟩;refine AA (wpAny_typeOf Y ?_);have Z:Builtin.List.listSameRef (.ref s.heap.objs.size) (.ref a)=false:=by simp[Builtin.List.listSameRef,h]
 have h2:(Value.type "set" == Value.type "list")=false:=by decide
 have h3:(Value.type "set" == Value.type "tuple")=false:=by decide
 simp only[Z,h2,h3,HW,AW,CN];refine AA (Uw (s:={ s with heap:=H }) (S.at (G a o S.ho)) fun I T j r d hia hiT K u k P st hlt W=>?_);have m:Shared.TypeIs { s with heap:=r,drawn:=d } (.ref a) "set":=⟨o,k a o (G a o S.ho),S.ex.1⟩;refine AA (BS ?_);unfold Builtin.List.listLengthHint;refine AA (GF m zEj ?_);wp_delta;refine AA (HQ m (b:=true) (by rw[isSubtype_type];kernel_rfl) ?_);show wpAny _ A.in1 (typeOf (Value.ref a) >>= _) _ _ _;refine AA (wpAny_typeOf m ?_);refine AE ?_;rw[AK (by decide)];refine AA (EO ?_);have v:r.get? s.heap.objs.size=some { cls:=.type "list",data:=.seq ([]:A0 A3).toArray }:=k _ _ X;refine AA ?_;show wpAny _ A.in1 (updateSeq s.heap.objs.size (·.push .none) >>= fun _=>updateSeq s.heap.objs.size (·.pop)) _ _ _;refine AA (EJ v rfl ?_);have x:=CD (Obj.mapSeq (·.push Value.none)) v rfl;refine EJ x rfl ?_;have L:=CD (Obj.mapSeq (·.pop)) x rfl;have y:∀b c,b≠s.heap.objs.size->r.get? b=some c->((r.update s.heap.objs.size (Obj.mapSeq (·.push Value.none))).update s.heap.objs.size (Obj.mapSeq (·.pop))).get? b=some c :=
  fun b c p e=>(BQ _ _ (Ne.symm p)).trans ((BQ _ _ (Ne.symm p)).trans e)
 have B:s.heap.objs.size∉[I,a,T]:=by
  have e1:s.heap.objs.size≠I:=fun e=>absurd u (by
   show ¬H.objs.size<=I;rw[i,<-e];exact Nat.not_succ_le_self _)
  have e2:s.heap.objs.size≠T:=fun e=>by
   rcases K with z | z
   .exact h (e.trans z)
   .exact absurd z (by
     show ¬H.objs.size<=T;rw[i,<-e];exact Nat.not_succ_le_self _)
  simp only[AU,BX,or_false,not_or];exact⟨e1,h,e2⟩
 have M:es.size=j.length:=by
  have:=P.length_eq;rw[AB,AL]at this;exact this.symm
 have R:=S.few;refine AE ⟨plainId_quiet F.plain_extend_loop _,codeAny_extend_loopS (W A.in1 O).toS (by rw[sizeLine_eq];omega) _ B _ es.size 0 _ _ _ rfl (CF _)
  ((W A.in1 O).frame 0 r _ st fun b p c e=>y b c (fun z=>B (z▸p)) e) L (ItemsOf.nil _) fun f C c' N D g=>?_⟩
 show wpAny _ A (load s.heap.objs.size >>= _) _ _ f;refine AA (wpAny_load D ?_);rw[M]at g;refine AE (U f C.toList (fun b c e=>N.heap b c (fun p=>?_) (y b c (fun z=>?_) (k b c (G b c e)))) N.gens N.os (AI D) (by rw[Ud g];exact P))
 .have n:=AI e;rcases AU.mp p with z | z
  .exact absurd n (by rw[z];exact CQ _)
  .rw[AF.mp z]at n;have:H.objs.size<=I:=u;rw[i]at this;exact absurd (BE n (Nat.le_of_succ_le this)) (CQ _)
 .exact absurd (AI e) (by rw[z];exact CQ _)
end
end ST
namespace ST
open PySem L2
def Zz(t:IM)(n:Nat):(t.orStandIn n).led=t.led:=by
 unfold SetTable.orStandIn;split<;>rfl
def Ww(t:IM)(a:CM (Int×A3))(h:Int)(x:A3):(layNew t a h x).2.1.led=t.led:=by
 unfold layNew;split
 .rename_i b c e;show((t.put b).1.orStandIn _).led=_;rw[Zz];rfl
 .rfl
def Nl{t t':IM}{b:CM Int}{n:Nat}{a:CM Nat}(h:t.relaid b n=some (t',a)):t'.led=t.led/\t'.plain=t.plain:=by
 unfold SetTable.relaid SetTable.laid at h;cases e:SetTable.layClean (SetTable.sizeAbove n-1) b with
 | none=>rw[e]at h;cases h
 | some c =>
  rw[e]at h;cases h;exact⟨rfl,rfl⟩
def Qd(t:IM)(a:CM (Int×A3))(n:Nat)(b:t.plain=false):(relayAll t a n).2.1.led=t.led/\(relayAll t a n).2.1.plain=false:=by
 unfold relayAll;split
 .rename_i g c e;obtain⟨d,f⟩:=Nl e;dsimp only;split
  .exact⟨d,f.trans b⟩
  .exact⟨rfl,rfl⟩
 .exact⟨rfl,rfl⟩
def zGo:A3->Str
 | .str x _=>x
 | _=>Str.empty
section
variable{prog:F8}{w:H_}{A:II}{E:A3->A5->Prop}{s:A5}{a:A4}
structure MY(w:H_)(es:CM (Int×A3))(ss:A0 Str):Prop where
 el:∀e∈es.toList,∃x tk,e =(hashStr w x,Value.str x tk)
 pm:(es.toList.map fun e=>zGo e.2).Perm ss
 nd:ss.Nodup
def WS(w:H_)(h:IA)(a:A4)(c:A0 Str):Prop:=∃o b d t,PX w h a o b d t/\MY w b c
theorem MY.elems{a:CM (Int×A3)}{b:A0 Str}(h:MY w a b):ElemsOf (C4 prog w) a.toList:=fun e c=>by
 obtain⟨x,d,rfl⟩:=h.el e c;exact⟨⟨.inr x,j8 x d,rfl⟩,rfl⟩
theorem MY.mem{d:CM (Int×A3)}{f:A0 Str}(h:MY w d f)(x:Str):x∈f↔∃e∈d.toList,(C4 prog w).is (.inr x) e.2=true:=by
 rw[<-h.pm.mem_iff];constructor
 .intro j;obtain⟨e,a,rfl⟩:=AR.mp j;obtain⟨y,b,rfl⟩:=h.el e a;exact⟨_,a,j8 y b⟩
 .rintro⟨e,a,k⟩;obtain⟨y,b,rfl⟩:=h.el e a;have:y=x:=by
   rcases E4 (show Fa (.inr x) (.str y b)=true from k)with⟨i,t,g,c⟩ | ⟨z,t,g,c⟩
   .cases c
   .cases g;cases c;rfl
  subst this;exact AR.mpr ⟨_,a,rfl⟩
theorem MY.len{a:CM (Int×A3)}{b:A0 Str}(h:MY w a b):a.size=b.length:=by
 have:=h.pm.length_eq;rw[AB,AL]at this;exact this
theorem QD{n:A0 Str}{x:Str}{m:Tok}{Q:Bool->A5->Prop}(S:WS w s.heap a n)(hl:n.length+1<4096)
  (h:∀h' b,Heap.SameBut a s.heap h'->WS w h' a (if x∈n then n else n ++ [x])->Q b { s with heap:=h' }) :
  wpAny (model prog w) A (setAddHashed a (.str x m) (hashStr w x)) Q E s:=by
 obtain⟨o,p,ep,t,S,T⟩:=id S;have D:(C4 prog w).is (.inr x) (.str x m)=true:=j8 x m;have hsz:=T.len;unfold setAddHashed setAddHashedIn;refine BS (AA (CG S.ho S.hd S.ft ?_));dsimp only;rw[byScan_of (knd:=C4 prog w) rfl S.few T.elems,AK rfl];unfold setAddByScan;refine AA (AA (EO ?_));refine AA (wpAny_setScan_of D S.ho S.hd S.ft T.elems ?_);cases X:List.findIdx? (fun e=>(C4 prog w).is (.inr x) e.2) p.toList with
 | some j =>
  dsimp only;obtain⟨hj,N,_⟩:=List.findIdx?_eq_some_iff_getElem.mp X;have q:x∈n:=(T.mem (prog:=prog) x).mpr ⟨p.toList[j],FU hj,N⟩;refine AE (AE ?_);have:=h s.heap false (Heap.SameBut.refl a s.heap) (by rw[AK q];exact⟨o,p,ep,t,S,T⟩);exact this
 | none =>
  dsimp only;have q:¬x∈n:=fun q=>by
   obtain⟨e,O,M⟩:=(T.mem (prog:=prog) x).mp q;have:=List.findIdx?_eq_none_iff.mp X e O;rw[M]at this;exact Bool.noConfusion this
  have F:∀(b:Bool) {P:A5} {R:Unit->A5->Prop},R () P->wpAny (model prog w) A (match b with | true=>rule "set.scan.the-table-gave-way" | false=>pure ()) R E P :=
   fun b P R Y=>by cases b<;>first | exact AE Y | exact EO Y
  have d:=layNew_perm t p (hashStr w x) (.str x m);have g:=layNew_fits t p (hashStr w x) (.str x m);have k:=Ww t p (hashStr w x) (.str x m);show wpAny _ _ (match layNew t p (hashStr w x) (.str x m)with | (p,t,f,G)=>_) _ _ _;generalize layNew t p (hashStr w x) (.str x m)=L at d g k⊢;obtain⟨c,t1,f,G⟩:=L;dsimp only at d g k⊢;rw[DB]at d;have u:∀v:CM (Int×A3),v.toList.Perm c.toList->MY w v (n ++ [x]):=fun v H=>by
   refine⟨fun e O=>?_,?_,?_⟩
   .rcases A_.mp (d.mem_iff.mp (H.mem_iff.mp O))with z | z
    .exact T.el e z
    .exact⟨x,m,AF.mp z⟩
   .refine((H.trans d).map _).trans ?_;rw[AO];exact T.pm.append (.refl _)
   .rw[DX];refine⟨T.nd,by simp,fun y hy z hz=>?_⟩;rw[AF.mp hz];rintro rfl;exact q hy
  have l:c.size=n.length+1:=by
   have:=(u c (.refl _)).len;rw[AV]at this;exact this
  refine AA (F _ ?_);have I:∀i:IM,i.led=t.led->i.plain=false->i.fits c.size=true->wpAny (model prog w) A (do
    storeSet a c i
    if(!f&&i.tooFull)=true then do
      (match(relayAll i c (SetTable.grown c.size)).2.2 with | true=>rule "set.scan.the-table-gave-way" | false=>pure ())
      storeSet a (relayAll i c (SetTable.grown c.size)).1 (relayAll i c (SetTable.grown c.size)).2.1
      pure (some true)
     else pure (some true)) (fun r s'=>wpAny (model prog w) A (match r with | some B=>pure B | none=>setAddHashedIn a (.str x m) (hashStr w x) 99999) Q E s') E s:=by
   intro i Z p2 f2;refine AA (HJ S.ho S.hd ?_ (by rw[l,sizeLine_eq];omega));have C:=Dq S.ho S.hd c i;have J:=CV s.heap a (Obj.putSet c i);split
   .have M:=relayAll_perm i c (SetTable.grown c.size);have hf:=relayAll_fits i c (SetTable.grown c.size);obtain⟨U,V⟩:=Qd i c (SetTable.grown c.size) p2;have K:(relayAll i c (SetTable.grown c.size)).1.size=c.size:=by rw[<-AL,M.length_eq,AL]
    refine AA (F _ ?_);refine AA (HJ C rfl ?_ (by rw[K,l,sizeLine_eq];omega));refine AE (AE (h _ true (J.trans (CV _ a _)) ?_));rw[AJ q];exact⟨_,_,_,_,⟨Dq C rfl _ _,S.ex,rfl,hf,U.trans (Z.trans S.led),(fun z=>by rw[V]at z;cases z),by rw[K,l];omega⟩,u _ M⟩
   .refine AE (AE (h _ true J ?_));rw[AJ q];exact⟨_,c,_,i,⟨C,S.ex,rfl,f2,Z.trans S.led,(fun z=>by rw[p2]at z;cases z),by rw[l];omega⟩,u _ (.refl _)⟩
  cases W:t1.plain with
  | true =>
   rw[AK rfl,hashByValue_scannable 8 (x:=Value.str x m) rfl];refine AA (AE ?_);exact I { t1 with plain:=false } k rfl (SetTable.fits_plain_off g)
  | false =>
   rw[AJ (by decide)];refine AA (AE ?_);exact I t1 k W g
end
end ST
namespace L2
open PySem PySem.Spec PyProof.Rows
def Ph(w:H_)(a:A4)(b:A0 Str):HO:=.ext fun h=>ST.WS w h a b
section
variable{X:Cx}{pins:A0 (A4×Obj)}{σ:St}{H:Hp}{s:A5}{a:A4}{ss:A0 Str}
theorem zAi{P:F8}{w:H_}{H:Hp}{h:IA}(z:ST.WS w h a ss):IR P w H h a (Ph w a ss) :=
 ⟨z,let⟨o,_,_,_,S,_⟩:=z;⟨o,S.ho⟩,fun d e ⟨o,b,c,t,S,r⟩ k=>⟨o,b,c,t,S.at (k o S.ho),r⟩⟩
theorem Inv.setw(I:Inv X pins σ H s)(e:H a=some (Ph X.w a ss)):ST.WS X.w s.heap a ss:=by
 obtain⟨z,_⟩:=(show IR X.prog X.w H s.heap a (Ph X.w a ss)from I.hok a _ e);exact z
def Zq(l:A0 Str)(x:Str):A0 Str:=if x∈l then l else l ++ [x]
end
def Inv.drawn{X:Cx}{a:A0 (A4×Obj)}{σ:St}{H:Hp}{s:A5}(I:Inv X a σ H s)(d:Drawn):Inv X a σ H { s with drawn:=d } :=
 ⟨I.ok,I.os,I.bare,I.base,I.loc,I.cell,I.free,I.freeC,I.pin,I.hok,I.len⟩
section
variable{X:Cx}
theorem Hd(hc:X.calm=true):G9 X (.builtin "sorted") (fun xs H Q=>∃(p:A4) (n:A0 Str),xs = [.ref p]/\H p=some (Ph X.w p n)/\∀(l:A4) (f:A0 Str),H l=none->f.Perm n->f.Pairwise ON->Q (.ref l) (IB H l (.lst (f.map V.str)))):=by
 intro R s σ H xs m Q I r h;obtain⟨p,n,rfl,hq,q⟩:=h;obtain⟨u,rfl,ru⟩:=V8 r;cases ru;obtain⟨o,es,ep,t,S,T⟩:=I.setw hq;refine TS.LS (ST.OB (show X.A.in1.handled=none from I.ok.hd hc) S fun E d k1 g1 U F g=>?_);have W:∀v∈d,∃x i,v=Value.str x i:=fun v z=>by
  obtain⟨e,G,rfl⟩:=AR.mp (g.mem_iff.mp z);obtain⟨x,i,rfl⟩:=T.el e G;exact⟨x,i,rfl⟩
 have B:StrsAre d (d.map strOf):=by
  have:∀l:A0 A3,(∀v∈l,∃x i,v=Value.str x i)->StrsAre l (l.map strOf):=by
   intro l
   induction l with
   | nil=>exact fun _=>.nil
   | cons v r J =>
    intro h;obtain⟨x,i,rfl⟩:=h v (BH ..);exact .cons _ _ (J fun u C=>h u (AY _ C))
  exact this d W
 have Y:d.length=es.size:=by rw[g.length_eq,AB,AL]
 have Z:=S.few;have K:(d.map strOf).Perm n:=by
  refine(g.map strOf).trans ?_;rw[CB];refine List.Perm.trans (List.Perm.of_eq ?_) T.pm;refine GU fun e G=>?_;obtain⟨x,i,rfl⟩:=T.el e G;rfl
 refine⟨U,by rw[sizeLine_eq];omega,strKind,oneType',fun s2 _=>TS.NU B,fun c h' e ho k hg=>?_⟩;obtain⟨L,hs⟩:=ho;have M:∀v∈c.toList,∃x t,v = .str x t:=fun v z=>W v (L.mem_iff.mp z);have z:IK ((c.toList.map strOf).map V.str) c.toList:=by
  have:∀m:A0 A3,(∀v∈m,∃x t,v = .str x t)->IK ((m.map strOf).map V.str) m:=by
   intro m
   induction m with
   | nil=>exact fun _=>.nil
   | cons v r J =>
    intro h;obtain⟨x,t,rfl⟩:=h v (BH ..);exact .cons ⟨t,rfl⟩ (J fun u C=>h u (AY _ C))
  exact this _ M
 have j:(c.toList.map strOf).Perm n:=(L.map strOf).trans K;have N:(c.toList.map strOf).Pairwise ON:=by
  rw[CA];refine(List.Pairwise.and_mem.mp hs).imp fun{u v} ⟨C,O,q⟩=>?_;obtain⟨x,t,rfl⟩:=M u C;obtain⟨y,t',rfl⟩:=M v O;have q':decide (y.cps.toList<x.cps.toList)=false:=q;exact of_decide_eq_false q'
 have k0:∀b o,s.heap.get? b=some o->h'.get? b=some o:=fun b o eb=>k b o (k1 b o eb);have D:s.heap.objs.size<=E.heap.objs.size:=DZ F;have hn:H E.heap.objs.size=none:=I.hok.fresh D;obtain⟨P,g',d',t',o'⟩:=E;have eo:o'=s.os:=U;have eg:g'=s.gens:=g1;subst eo;subst eg;refine⟨.ref P.objs.size,IB H P.objs.size (.lst ((c.toList.map strOf).map V.str)),?_,rfl,q _ _ hn j N⟩;exact(I.laid (a:=P.objs.size) (o:=.lst ((c.toList.map strOf).map V.str)) (t':=t') k0 D ⟨by rw[AB,AB,L.length_eq,sizeLine_eq];omega,c.toList,e,z,by simpa using hg⟩).drawn d'
end
def Oi(P:F8)(w:H_)(a:A4)(ks:A0 (A0 IW×A4)):HO:=.ext fun h=>ST.LV (C4 P w) h a ks
def Mo(H:Hp)(ks:A0 (A0 IW×A4)):Prop:=∀q∈ks,H q.2=some (.tup (q.1.map kV))
section
variable{X:Cx}{pins:A0 (A4×Obj)}{σ:St}{H:Hp}{s:A5}{a:A4}{ks:A0 (A0 IW×A4)}
theorem Mb(P:F8)(w:H_):ST.Flat (C4 P w):=fun v ⟨x,h⟩=>(C4 P w).byValue x v h
theorem Vk(P:F8)(w:H_):ST.QE (C4 P w):=fun v ⟨x,h⟩=>by
 rcases E4 (show Fa x v=true from h)with⟨i,t,_,rfl⟩ | ⟨y,t,_,rfl⟩<;>rfl
theorem Wa{P:F8}{w:H_}{H:Hp}{h:IA}(z:ST.LV (C4 P w) h a ks):IR P w H h a (Oi P w a ks) :=
 ⟨z,let⟨o,_,_,_,e,_⟩:=z;⟨o,e⟩,fun d f ⟨o,b,c,t,e,r⟩ k=>⟨o,b,c,t,k o e,r⟩⟩
theorem Inv.sett(I:Inv X pins σ H s)(e:H a=some (Oi X.prog X.w a ks)):ST.LV (C4 X.prog X.w) s.heap a ks:=by
 obtain⟨z,_⟩:=(show IR X.prog X.w H s.heap a (Oi X.prog X.w a ks)from I.hok a _ e);exact z
theorem Of:G9 X (.type "set") (fun xs H Q=>xs = []/\∀p,H p=none->Q (.ref p) (IB H p (Oi X.prog X.w p []))):=by
 intro pins s σ H xs c Q I r h;obtain⟨rfl,q⟩:=h;cases r;refine call_set_0 fun a=>⟨.ref s.heap.objs.size,_,I.laid (t':=s.toks) (fun b o e=>AD _ e) (Nat.le_refl _) (Wa ?_),rfl,q _ (I.hok.fresh (Nat.le_refl _))⟩;exact⟨_,#[],0,_,AN _ rfl,⟨rfl,rfl,rfl⟩,rfl,.refl _,⟨rfl,rfl,.inl rfl,by show 0*5<7*3;decide⟩⟩
def zFn(P:F8)(w:H_):R2:=fun x y H Q=>∃a p ks k,y = .ref a/\x = .ref p/\H a=some (Oi P w a ks)/\H p=some (.tup (k.map kV))/\Mo H ks/\(∀q∈ks,q.1≠k)/\Q (.bl false) H
theorem Nv(b:X.A.units+1<cLine):J_ X (compareOp .In) (zFn X.prog X.w):=by
 intro pins s σ H x y v u Q I c d h;obtain⟨a,p,ks,k,rfl,rfl,e,f,g,i,q⟩:=h;cases d;cases c;exact ST.QB (neg:=false) b (Mb _ _) (I.sett e) (fun z j=>w6 I.hok (g z j)) (w6 I.hok f) i ⟨.bl false,H,I.tok _,rfl,q⟩
def zBq(P:F8)(w:H_):V->A0 V->Hp->VK->Prop:=fun x b H Q=>∃a p ks k,x = .ref a/\b = [.ref p]/\H a=some (Oi P w a ks)/\H p=some (.tup (k.map kV))/\Mo H ks/\(∀q∈ks,q.1≠k)/\ks.length+1<=300/\Q .non (IB H a (Oi P w a (ks ++ [(k,p)])))
theorem Yo(d:X.A.units+1<cLine):OY X "set.add" (zBq X.prog X.w):=by
 intro pins s σ H x B v C Q I f g h;obtain⟨a,p,ks,k,rfl,rfl,c,i,j,l,m,q⟩:=h;cases f;obtain⟨u,rfl,n⟩:=g.one;cases n;refine ST.PN d (Mb _ _) (Vk _ _) (I.sett c) (fun z r=>w6 I.hok (j z r)) (w6 I.hok i) l m fun D t z=>?_;exact⟨.non,_,I.write (x:=a) (e:=a) (by rw[c];exact True.intro) (.inl rfl) (fun b q y e=>(t.2 b y).trans e) (let⟨o,_,_,_,e,_⟩:=z;⟨o,e⟩) (Wa z),rfl,q⟩
end
section
variable{X:Cx}{tg:IH}
def zFb(K:PySem.W.Frag)(d:TE):TI:=fun σ H R=>d σ H fun x b=>∃a,x = .ref a/\(((∃c,IG K b a c)/\R (RD K a) b)\/((∃c,JM K b a c)/\R (Itt K a) b))
theorem zAq{l:IH}{n:TE}(r:PE X l n):PI X tg l (zFb X.K n):=by
 intro d s σ H R I h;refine IY (r d s σ H _ I h) fun v c ⟨x,j,f,t,k⟩=>?_;obtain⟨a,e,k⟩:=k;subst e;cases t;have g:∀b,b∈[c.heap.objs.size]->Fl X d j b:=fun b u=>by
  have e:b=c.heap.objs.size:=by simpa using u
  subst e;exact f.fpOk (Nat.le_refl _) (f.hok.fresh (Nat.le_refl _))
 rcases k with⟨⟨w,m⟩,q⟩ | ⟨⟨w,m⟩,q⟩
 .obtain⟨i,y,p,z⟩:=f.list m;refine FO p.isList ?_;exact⟨c.heap.objs.size,[c.heap.objs.size],_,_,j,rfl,f.kept (t':=c.toks) fun b o e=>AD _ e,Hs a _,⟨_,AN _ rfl,rfl,rfl⟩,g,q⟩
 .obtain⟨i,y,p,z⟩:=f.tuple m;refine wpAny_pyIter_tuple (show c.heap.IsTuple a i.toArray from p) ?_;exact⟨c.heap.objs.size,[c.heap.objs.size],_,_,j,rfl,f.kept (t':=c.toks) fun b o e=>AD _ e,Nc a _,⟨_,AN _ rfl,rfl,rfl⟩,g,q⟩
end
section
variable{X:Cx}
theorem Qk:G9 X (.builtin "isinstance") (fun xs H Q=>∃x n t b,xs = [x,.ty n]/\LU X.K H x t/\PySem.W.kitOne X.K t (.type n)=some b/\Q (.bl b) H):=by
 intro a s σ H xs g Q I r h;obtain⟨x,n,t,b,rfl,c,d,q⟩:=h;obtain⟨u,v,rfl,e,f⟩:=r.two;cases f;exact Sr I e c d fun i=>⟨.bl b,H,I.tok _,rfl,q⟩
end
mutual
def Rp(K:PySem.W.Frag)(H:Hp):PyData->V->Prop
 | .none,v=>v = .non
 | .bool b,v=>v = .bl b
 | .int i,v=>v = .int i
 | .str x,v=>v = .str x
 | .list d,v=>∃a c,v = .ref a/\IG K H a c/\NV K H d c
 | .tuple d,v=>∃a c,v = .ref a/\JM K H a c/\NV K H d c
 | .dict _,_=>False
def NV(K:PySem.W.Frag)(H:Hp):A0 PyData->A0 V->Prop
 | [],a=>a = []
 | d::b,a=>∃v r,a=v::r/\Rp K H d v/\NV K H b r
end
section
variable{X:Cx}{pins:A0 (A4×Obj)}{σ:St}{H:Hp}{s:A5}
mutual
theorem Inv.reads(I:Inv X pins σ H s):∀(d:PyData) (v:V) (u:A3),Rp X.K H d v->RelV v u->∃as,Reads s.heap u d as
 | .none,v,u,h,r=>by
  cases(show v = .non by simpa [Rp] using h);cases r;exact⟨_,.none⟩
 | .bool b,v,u,h,r=>by
  cases(show v = .bl b by simpa [Rp] using h);cases r;exact⟨_,.bool b⟩
 | .int i,v,u,h,r=>by
  cases(show v = .int i by simpa [Rp] using h);obtain⟨t,rfl⟩:=r;exact⟨_,.int i t⟩
 | .str x,v,u,h,r=>by
  cases(show v = .str x by simpa [Rp] using h);obtain⟨t,rfl⟩:=r;exact⟨_,.str x t⟩
 | .list j,v,u,h,r=>by
  obtain⟨a,c,e,k,l⟩:=(show ∃a c,v=V.ref a/\IG X.K H a c/\NV X.K H j c by simpa [Rp] using h);subst e;cases r;obtain⟨f,m,⟨o,n,e,p,q,g⟩,_⟩:=I.list k;obtain⟨as,z⟩:=I.readsAll j c f l m;exact⟨_,.list e p g (by simpa using z)⟩
 | .tuple j,v,u,h,r=>by
  obtain⟨a,c,e,k,l⟩:=(show ∃a c,v=V.ref a/\JM X.K H a c/\NV X.K H j c by simpa [Rp] using h);subst e;cases r;obtain⟨f,m,⟨o,e,p,n,g⟩,_⟩:=I.tuple k;obtain⟨as,z⟩:=I.readsAll j c f l m;exact⟨_,.tuple e p g (by simpa using z)⟩
 | .dict _,v,u,h,r=>by simp[Rp]at h
theorem Inv.readsAll(I:Inv X pins σ H s):∀(a:A0 PyData) (vs:A0 V) (us:A0 A3),NV X.K H a vs->IK vs us->∃as,ReadsAll s.heap us a as
 | [],vs,us,h,r=>by
  cases(show vs = [] by simpa [NV] using h);cases r;exact⟨_,.nil⟩
 | d::a,vs,us,h,r=>by
  obtain⟨v,b,e,c,f⟩:=(show ∃v r,vs=v::r/\Rp X.K H d v/\NV X.K H a r by simpa [NV] using h);subst e;cases r with
  | cons g i =>
   obtain⟨as,z⟩:=I.reads d v _ c g;obtain⟨k,j⟩:=I.readsAll a b _ f i;exact⟨_,.cons z j⟩
end
def Pl(d:PyData):Prop:=d.canLay0=true/\d.depth<=50
def zEh(K:PySem.W.Frag):R2:=fun x y H Q=>∃d e,Rp K H d x/\Rp K H e y/\Pl d/\Pl e/\Q (.bl (PyData.eqv d e)) H
def zEm(K:PySem.W.Frag):R2:=fun x y H Q=>∃d e,Rp K H d x/\Rp K H e y/\Pl d/\Pl e/\Q (.bl (!PyData.eqv d e)) H
def zAn(m:X.A.units+64<cLine):J_ X (compareOp .Eq) (zEh X.K):=by
 intro a s σ H x y v u Q I f g h;obtain⟨d,e,i,j,b,c,q⟩:=h;obtain⟨n,k⟩:=I.reads d x v i f;obtain⟨o,l⟩:=I.reads e y u j g;exact PySem.SeqAt.compareEq_reads k l b.1 c.1 (by have:=b.2;have:=c.2;omega) ⟨.bl (PyData.eqv d e),H,I,rfl,q⟩
def Zt(m:X.A.units+64<cLine):J_ X (compareOp .NotEq) (zEm X.K):=by
 intro a s σ H x y v u Q I f g h;obtain⟨d,e,i,j,b,c,q⟩:=h;obtain⟨n,k⟩:=I.reads d x v i f;obtain⟨o,l⟩:=I.reads e y u j g;exact PySem.SeqAt.compareNe_reads k l b.1 c.1 (by have:=b.2;have:=c.2;omega) ⟨.bl (!PyData.eqv d e),H,I,rfl,q⟩
def zEc(K:PySem.W.Frag)(neg:Bool):R2:=fun x y H Q=>∃d a,Rp K H d x/\(Rp K H (.list a) y\/Rp K H (.tuple a) y)/\Pl d/\PyData.canLayAll0 a=true/\Q (.bl (if neg then !(a.any fun z=>PyData.eqv z d)else a.any fun z=>PyData.eqv z d)) H
def Ov(n:X.A.units+64<cLine):J_ X (compareOp .NotIn) (zEc X.K true):=by
 intro f s σ H x y v u Q I k g h;obtain⟨d,b,l,h2,c,i,q⟩:=h;obtain⟨o,j⟩:=I.reads d x v l k;have a:X.A.units+1+min (PyData.depthAll b) d.depth<cLine:=by have:=c.2;omega
 rcases h2 with h2 | h2
 .obtain⟨m,e⟩:=I.reads (.list b) y u h2 g;exact PySem.SeqAt.notIn_list_reads e j i c.1 a ⟨.bl _,H,I,rfl,q⟩
 .obtain⟨m,e⟩:=I.reads (.tuple b) y u h2 g;exact PySem.SeqAt.notIn_tuple_reads e j i c.1 a ⟨.bl _,H,I,rfl,q⟩
end
section
variable{X:Cx}
theorem IK.insert{xs:A0 V}{us:A0 A3}{x:V}{u:A3}(h:IK xs us)(r:RelV x u)(k:Nat):IK (xs.take k++x::xs.drop k) (us.take k++u::us.drop k):=(h.take k).append (.cons r (h.drop k))
def Yi:V->A0 V->Hp->VK->Prop:=fun x b H Q=>∃l a i k y,x = .ref l/\b = [.int i,y]/\i =((k:Nat):Int)/\H l=some (.lst a)/\k<=a.length/\a.length<sizeLine/\Q .non (IB H l (.lst (a.take k++y::a.drop k)))
theorem zEd{k:Nat}{i:Int}(e:i =(k:Int))(h:k<=sizeLine):¬(!Builtin.List.listFitsIndex i)=true:=by
 rw[sizeLine_eq]at h;have a:-(2^63:Int)<=i:=by omega
 have b:i<2^63:=by omega
 have:=fitsIndex_both a b;simpa using this
theorem Hu:OY X "list.insert" Yi:=by
 intro c s σ H x E v G Q I m o h;obtain⟨l,J,i,k,y,rfl,rfl,d,f,K,L,q⟩:=h;cases m;obtain⟨M,g,rfl,⟨t,rfl⟩,p⟩:=o.two;obtain⟨z,a,n,r,N,e⟩:=I.lstM f;have u:k<=sizeLine:=by omega
 have w:=zEd d u;have A:a.toArray.size<=sizeLine:=by rw[AS];omega
 have B:=@PySem.AutoListH.list_insert_list_int_val_1 l a.toArray n i t g w A;refine call_meets F.slot_list_insert ⟨_,e,rfl⟩ F.entry_list_insert (F.args_list_insert_3 _ _ _) B ⟨e,?_⟩;refine⟨.non,_,I.lset (its':=a.take k++g::a.drop k) f e ?_ (r.insert p k) ?_,rfl,q⟩
 .have b:min k a.length=k:=by omega
  have C:¬((k:Int)<0):=by omega
  subst d;have j:¬((k:Int)+0<0):=by omega
  have D:List.take (a.length-k) (List.drop k a)=List.drop k a:=DA (by simp);simp[b,C,D]
 .rw[AV,BJ,AX,DE];omega
def Pa(K:PySem.W.Frag):V->A0 V->Hp->VK->Prop:=fun x b H Q=>∃(l:A4) (a:A0 Str) (y:Str) (j:Nat),x = .ref l/\b = [.str y]/\IG K H l (a.map V.str)/\a[j]?=some y/\(∀m,m<j->a[m]?≠some y)/\Q (.int (j:Nat)) H
theorem W9{a:A0 Str}{us:A0 A3}(h:IK (a.map V.str) us){i:Nat}(hi:i<us.length):∃x t,a[i]?=some x/\us[i] = .str x t:=by
 have c:=h.length;rw[AB]at c;obtain⟨x,b⟩:∃x,a[i]?=some x:=⟨a[i]'(by omega),AC (by omega)⟩;obtain⟨u,d,t,rfl⟩:=h.get (i:=i) (x:=.str x) (by rw[AH,b];rfl);refine⟨x,t,b,?_⟩;have:=AC hi;rw[d]at this;exact(BG this).symm
theorem Oz:OY X "list.index" (Pa X.K):=by
 intro B s σ H x W v Y Q I L M h;obtain⟨l,Z,y,j,rfl,rfl,N,C,k,q⟩:=h;cases L;obtain⟨u,rfl,⟨D,rfl⟩⟩:=M.one;obtain⟨a,r,⟨o,n,e,E,O,c⟩,G⟩:=I.list N;have d:=r.length;rw[AB]at d G;have b:j<a.length:=by
  have:=(AG.mp C).1;omega
 obtain⟨P,R,J,S⟩:=o;simp only at E O c;subst E c
 let p:A3->Bool:=fun v=>match v with | .str x _=>x == y | _=>false
 have T:=PySem.SeqAt.list_indexAt l a.toArray n R S (.str y D) p j (by simpa using b) (by rw[sizeLine_eq]at G;omega) ?_ ?_
 .refine call_meets F.slot_list_index ⟨_,e,rfl⟩ F.entry_list_index (F.args_list_index_2 _ _) T ⟨e,?_,?_⟩
  .intro v U;have w:v∈a:=by simpa using U
   obtain⟨i,V,rfl⟩:=List.getElem_of_mem w;obtain⟨x,t,_,f⟩:=W9 r V;rw[f];exact PySem.SeqAt.EqAt.str_str x t y D
  .exact⟨.int (j:Nat),H,I.tok _,⟨_,rfl⟩,q⟩
 .obtain⟨x,t,g,f⟩:=W9 r b;rw[C]at g;cases g;show p (a.toArray[j]'(by simpa using b))=true;rw[show a.toArray[j]'(by simpa using b)=a[j]from by simp,f];exact beq_self_eq_true y
 .intro m hm z;have A:m<a.length:=by simpa using hm
  obtain⟨x,t,g,f⟩:=W9 r A;show p (a.toArray[m]'hm)=false;rw[show a.toArray[m]'hm=a[m]from by simp,f];show(x == y)=false;rw[beq_eq_false_iff_ne];rintro rfl;exact k m z g
def Wv:V->A0 V->Hp->VK->Prop:=fun x b H Q=>∃z y a,x = .str z/\b = [.str y]/\(decide (z.length<y.length)||decide (Builtin.Str.strKind z<Builtin.Str.strKind y))=false/\(y.length == 0)=false /\
 (Builtin.Str.occurrences z y 0 z.length (z.length+1)).isEmpty=false/\z.length<=4000/\Builtin.Str.partsBetween z (Builtin.Str.occurrences z y 0 z.length (z.length+1)) y.length=a/\a.length<=4000/\∀l,H l=none->Q (.ref l) (IB H l (.lst (a.map V.str)))
theorem Ie:∀(b:A0 Str) (a:Nat),IK (b.map V.str) (strsFrom a b)
 | [],_=>.nil
 | _::r,a=>.cons ⟨a,rfl⟩ (Ie r (a+1))
theorem Uu:OY X "str.split" Wv:=by
 intro a s σ H x k v l Q I c d h;obtain⟨z,y,m,rfl,rfl,e,f,g,n,rfl,o,q⟩:=h;obtain⟨t,rfl⟩:=c;obtain⟨u,rfl,⟨i,rfl⟩⟩:=d.one;have j:z.length<=sizeLine:=by rw[sizeLine_eq];omega
 have b:(Builtin.Str.partsBetween z (Builtin.Str.occurrences z y 0 z.length (z.length+1)) y.length).length<=sizeLine:=by rw[sizeLine_eq];omega
 refine call_meets F.slot_str_split (typeIs_str _ _ _) F.entry_str_split (F.args_str_split_2 _ _) (PySem.meets_str_split_sep z y t i e f g j b) ?_;exact⟨.ref s.heap.objs.size,_,I.lnew (Ie _ _) (by rw[AB];exact b),rfl,q _ I.fresh⟩
end
end L2
namespace L2
open PySem PySem.Spec PyProof.Rows
structure Fn(K:PySem.W.Frag)(mg:Str->A6 A3)(x:Str)(st:IS)(ps:A0 Str) where
 f:A4
 fd:IU
 F:OT K x x st f fd
 b:Binds K fd ps []
 m:mg x=some (.ref f)
structure Mt(K:PySem.W.Frag)(C:A4)(m qual:Str)(st:IS)(ps:A0 Str) where
 f:A4
 fd:IU
 F:OT K m qual st f fd
 b:Binds K fd ps []
 m:QF K C m f
section
variable{X:Cx}
theorem C9{x:Str}{st:IS}{g:A0 Str}{k:Nat}{sp:Sp}{e:IH}{a:A0 IH}{t:TA}{p pos:Pos}(D:Fn X.K X.mg x st g)(G:IP X.prog X.w X.K X.mg X.base I_ k D.f D.fd g sp)(h:JF k X.A)(i:PA X (e::a) t)
  (j:Gl X x:=by rfl) (c:(x ==("__debug__":Str))=false:=by decide) (l:starEach (e::a) X.env =(false,eval e X.env)::starEach a X.env:=by rfl) (d:(backTo pos (starEach a X.env)).any (·.1)=false:=by rfl) :
  PE X (.Call (.Name x p) (e::a) [] pos) (Wz sp [] E0 t):=Yh G h j D.m D.F.kp D.b .nil J8 i c l d
def Tc(P:F8)(w:H_)(x:V)(H:Hp):Prop:=∃p,x = .ref p/\((∃l,H p=some (Oh P w p l))\/(∃l,H p=some (Ph w p l))\/∃a,H p=some (Oi P w p a))
theorem zAr{c:A0 (A4×Obj)}{σ:St}{H:Hp}{s:A5}{x:V}{v:A3}(I:Inv X c σ H s)(r:RelV x v)(ty:Tc X.prog X.w x H):s.TypeIs v "set"/\∀a,v = .ref a->∃d,s.heap.get? a=some d/\d.dict=none:=by
 obtain⟨p,rfl,h⟩:=ty;cases r;have z:∃o,s.heap.get? p=some o/\o.ExactSet:=by
  rcases h with⟨l,h⟩ | ⟨l,h⟩ | ⟨l,h⟩
  .obtain⟨o,_,_,_,e,b,_⟩:=I.set h;exact⟨o,e,b⟩
  .obtain⟨o,_,_,_,S,_⟩:=I.setw h;exact⟨o,S.ho,S.ex⟩
  .obtain⟨o,_,_,_,e,b,_⟩:=I.sett h;exact⟨o,e,b⟩
 obtain⟨o,e,b⟩:=z;refine⟨⟨o,e,b.1⟩,fun a f=>?_⟩;cases f;exact⟨o,e,b.2.1⟩
def zEv(P:F8)(w:H_)(r:V->A0 V->Hp->VK->Prop)(b:TE)(t:TA):TE:=fun σ H Q=>b σ H fun x a=>Tc P w x a/\t σ a fun c d=>r x c d Q
theorem Xs{o e:IH}{i:TE}{t:TA}{c a:Pos}{r:V->A0 V->Hp->VK->Prop}(m:OY X "set.add" r)(n:PE X o i)(p:PA X [e] t)
  (d:attributeBase o "add" X.env (eval o X.env)=eval o X.env:=by rfl)
  (g:((backTo a (starEach [e] X.env)).all (fun x=>!x.1) &&(backToKw a (keywordEach [] X.env)).all (fun x=>x.1.isSome)
   && decide ([e].length +([]:A0 Keyword).length +(if([]:A0 Keyword).isEmpty then 0 else 1)<30))=true:=by rfl)
  (f:(c.endLine == a.line)=true:=by rfl) (q:starEach [e] X.env = [(false,eval e X.env)]:=by rfl) :
  PE X (.Call (.Attribute o "add" c) [e] [] a) (zEv X.prog X.w r i t):=by
 intro b s σ H Q I h;refine wpAny_Call_method_late d g f rfl (IY (n b s σ H _ I h) fun v u ⟨x,y,j,k,ty,z⟩=>?_);obtain⟨A,B⟩:=zAr j k ty;refine⟨"set", "set.add",F.plainAttrs_set,F.slot_set_add,F.type_set_add,A,B,?_⟩;have l:=p a b u σ y _ j z;rw[q]at l⊢;refine Calls.callWith_builtin rfl (Calls.evalArgs_plain ?_);exact IY l fun C D ⟨E,G,J,K,L⟩=>m b D σ G x E v C Q J k K L
theorem zEi{x:Str}{i:Int}{pos:Pos}(h:∃t,X.mg x=some (.int i t))(a:Gl X x:=by rfl)(b:(x ==("__debug__":Str))=false:=by decide):PE X (.Name x pos) (tC (.int i)):=by
 obtain⟨t,e⟩:=h;exact Ke a e ⟨t,rfl⟩ b
theorem zDl{x y:Str}{pos:Pos}(h:∃t,X.mg x=some (.str y t))(a:Gl X x:=by rfl)(b:(x ==("__debug__":Str))=false:=by decide):PE X (.Name x pos) (tC (.str y)):=by
 obtain⟨t,e⟩:=h;exact Ke a e ⟨t,rfl⟩ b
theorem Os{x:Str}{n:String}{pos:Pos}(a:X.mg x=none)(b:bootBuiltins x=some (.type n))(c:Gl X x:=by rfl)(d:x≠ "__name__":=by decide)(e:(x ==("__debug__":Str))=false:=by decide):PE X (.Name x pos) (tC (.ty n)) :=
 Xq c a b rfl d e
theorem E8{x:Str}{id:String}{r:A0 V->Hp->VK->Prop}{e:IH}{a:A0 IH}{t:TA}{p pos:Pos}(d:G9 X (.builtin id) r)(f:X.mg x=none)(g:bootBuiltins x=some (.builtin id))(h:PA X (e::a) t)(i:Gl X x:=by rfl)(j:x≠ "__name__":=by decide)(b:(x ==("__debug__":Str))=false:=by decide)
  (k:starEach (e::a) X.env =(false,eval e X.env)::starEach a X.env:=by rfl) (c:(backTo pos (starEach a X.env)).any (·.1)=false:=by rfl):PE X (.Call (.Name x p) (e::a) [] pos) (QY r t):=Tp d i f g h j b k c
theorem o0{x:Str}{T:String}{r:A0 V->Hp->VK->Prop}{e:IH}{a:A0 IH}{t:TA}{p pos:Pos}(d:G9 X (.type T) r)(f:X.mg x=none)(g:bootBuiltins x=some (.type T))(h:PA X (e::a) t)(i:Gl X x:=by rfl)(j:x≠ "__name__":=by decide)(b:(x ==("__debug__":Str))=false:=by decide)
  (k:starEach (e::a) X.env =(false,eval e X.env)::starEach a X.env:=by rfl) (c:(backTo pos (starEach a X.env)).any (·.1)=false:=by rfl):PE X (.Call (.Name x p) (e::a) [] pos) (QY r t):=Pn d i f g h j b k c
theorem P9{a:JB}{cl:A0 (Str×A4)}{N':A0 Str}{cap:A0 (A6 Nat)}(c:NB X a cl N' cap)(e:O_ X cl)(d:closureFor a X.env=pure cl:=by rfl)(kind:a.kind = .function:=by rfl)(b:∀y∈a.names,y.2≠ .cell:=by decide +kernel)
  (f:∀y∈a.names,y.2 = .local->a.names.lookup y.1=some .local:=by decide +kernel) (g:((relabel a X.env).names.all fun y=>!(y.2 == .cell||y.2 == .free)||(cl.lookup y.1).isSome)=true:=by rfl):LY X a cl N' cap:=⟨kind,b,f,d,e,g,c⟩
theorem MI{a:JB}{cl:A0 (Str×A4)}{N':A0 Str}{b:A0 (A4×Obj)}{c:A0 A4}{d:A5}{e:Hp}{x:Str}{pos:Pos}(i:Nat)(f:N'.Nodup:=by decide +kernel)(hi:N'[i]?=some x:=by rfl)(g:Loc (LL X a cl N' b c d e).env.scope x:=by exact Or.inl rfl)
  (h:(LL X a cl N' b c d e).env.scope.names.lookup x=some .local:=by rfl):PG (LL X a cl N' b c d e) (.Name x pos) (V7 i):=D4 (X:=LL X a cl N' b c d e) f hi g (.inr h)
end
def O8:bootBuiltins "len" = some (.builtin "len"):=by decide +kernel
def Gh:bootBuiltins "enumerate" = some (.type "enumerate"):=by decide +kernel
def Wo:bootBuiltins "min" = some (.builtin "min"):=by decide +kernel
def zBm:bootBuiltins "max" = some (.builtin "max"):=by decide +kernel
def Vz:bootBuiltins "abs" = some (.builtin "abs"):=by decide +kernel
def W7:bootBuiltins "sorted" = some (.builtin "sorted"):=by decide +kernel
def zBw:bootBuiltins "int" = some (.type "int"):=by decide +kernel
def Wf:bootBuiltins "str" = some (.type "str"):=by decide +kernel
def Q7:bootBuiltins "list" = some (.type "list"):=by decide +kernel
def z7:bootBuiltins "tuple" = some (.type "tuple"):=by decide +kernel
def Rg:bootBuiltins "set" = some (.type "set"):=by decide +kernel
def O1:bootBuiltins "isinstance" = some (.builtin "isinstance"):=by decide +kernel
def Wk:bootBuiltins "all" = some (.builtin "all"):=by decide +kernel
def JQ(a:A4)(b H:Hp):Prop:=∀o,b a=some o->H a=some o
def Sm(D:A0 A4)(H H':Hp):Prop:=∀b o,H b=some o->b∉D->H' b=some o
def HY.at{b H:Hp}(h:HY b H)(a:A4):JQ a b H:=fun o e=>h a o e
def HY.new{H:Hp}{p:A4}{o:HO}(h:H p=none):HY H (IB H p o):=fun b u e=>by rw[B6 (B0 e h)];exact e
def HY.upd{a H:Hp}{p:A4}{o:HO}(s:HY a H)(h:a p=none):HY a (IB H p o):=fun b u e=>by rw[B6 (B0 e h)];exact s b u e
def HY.sm{D:A0 A4}{H H':Hp}(h:HY H H'):Sm D H H':=fun b o e _=>h b o e
def Sm.refl(D:A0 A4)(H:Hp):Sm D H H:=fun _ _ e _=>e
def Sm.trans{D:A0 A4}{H d e:Hp}(a:Sm D H d)(b:Sm D d e):Sm D H e:=fun c o h n=>b c o (a c o h n) n
def Sm.new{D:A0 A4}{H c:Hp}{p:A4}{o:HO}(a:Sm D H c)(h:c p=none):Sm D H (L2.IB c p o):=fun b u e n=>by
 have:=a b u e n;rw[B6 (B0 this h)];exact this
def Sm.upd{D:A0 A4}{H c:Hp}{p:A4}{o:HO}(a:Sm D H c)(h:p∈D):Sm D H (L2.IB c p o):=fun b u e n=>by
 rw[B6 (show b≠p from fun z=>n (by rw[z];exact h))];exact a b u e n
def Sm.updN{D:A0 A4}{H c:Hp}{p:A4}{o:HO}(a:Sm D H c)(h:H p=none):Sm D H (L2.IB c p o):=fun b u e n=>by rw[B6 (B0 e h)];exact a b u e n
def Sm.at{D:A0 A4}{H H':Hp}(h:Sm D H H'){a:A4}(n:a∉D):JQ a H H':=fun o e=>h a o e n
def Sm.none{D:A0 A4}{H H':Hp}(h:Sm D H H'){a:A4}(n:a∉D)(e:H' a=Option.none):H a=Option.none:=by
 cases q:H a with
 | none=>rfl
 | some o=>rw[h a o q n]at e;cases e
def JQ.seqL{K:PySem.W.Frag}{H H':Hp}{a:A4}{xs:A0 V}(e:JQ a H H')(h:IG K H a xs):IG K H' a xs:=by
 rcases h with(h | ⟨o,h⟩) | h
 .exact .inl (.inl (e _ h))
 .exact .inl (.inr ⟨o,e _ h⟩)
 .exact .inr h
def JQ.seqT{K:PySem.W.Frag}{H H':Hp}{a:A4}{xs:A0 V}(e:JQ a H H')(h:JM K H a xs):JM K H' a xs:=by
 rcases h with(h | ⟨o,h⟩) | h
 .exact .inl (.inl (e _ h))
 .exact .inl (.inr ⟨o,e _ h⟩)
 .exact .inr h
def PF(K:PySem.W.Frag)(H:Hp)(a:A4)(xs:A0 V):Prop:=IG K H a xs\/JM K H a xs
def JQ.seq{K:PySem.W.Frag}{H H':Hp}{a:A4}{xs:A0 V}(e:JQ a H H')(h:PF K H a xs):PF K H' a xs:=h.imp e.seqL e.seqT
structure LB(J:It)(xs:A0 V)(a:A4)(H0:Hp):Prop where
 go:∀H i,JQ a H0 H->i<xs.length->J.go i H
 stop:∀H,JQ a H0 H->J.stop xs.length H
 yld:∀H i x H',JQ a H0 H->i<xs.length->J.yld i H x H'->H'=H/\xs[i]?=some x
def MN{K:PySem.W.Frag}{b:Hp}{a:A4}{xs:A0 V}(h:IG K b a xs):LB (RD K a) xs a b :=
 ⟨fun H i k c=>⟨xs,xs[i],k.seqL h,AC c⟩,fun H k=>⟨xs,k.seqL h,Nat.le_refl _⟩,fun H i x d k c ⟨e,y⟩=>⟨e,y xs (k.seqL h)⟩⟩
def asT{K:PySem.W.Frag}{b:Hp}{a:A4}{xs:A0 V}(h:JM K b a xs):LB (Itt K a) xs a b :=
 ⟨fun H i k c=>⟨xs,xs[i],k.seqT h,AC c⟩,fun H k=>⟨xs,k.seqT h,Nat.le_refl _⟩,fun H i x d k c ⟨e,y⟩=>⟨e,y xs (k.seqT h)⟩⟩
def Zp{J:It}{n:Nat}{g:TG}{f:TS}{D:Ends}{σ:St}{H:Hp}(Pv:Nat->St->Hp->Prop)(j:Pv 0 σ H)(b:∀i σ H,i<n->Pv i σ H->J.go i H)(c:∀σ H,Pv n σ H->J.stop n H)
  (k:∀i σ H x H',i<n->Pv i σ H->J.yld i H x H'->g x σ H' fun σ2 d=>f { D with nx:=Pv (i+1),ct:=Pv (i+1),bk:=D.nx } σ2 d) (l:∀σ H,Pv n σ H->D.nx σ H) :
  ∃W:Nat->Nat->St->Hp->Prop,(∃m,W 0 m σ H)/\∀i m σ H,W i m σ H ->
   (J.stop i H/\D.nx σ H)\/(J.go i H/\∃N:St->Hp->Prop,(∀σ' H',N σ' H'->∃h,h < m/\W (i+1) h σ' H')/\∀x H',J.yld i H x H'->g x σ H' fun σ2 d=>f { D with nx:=N,ct:=N,bk:=D.nx } σ2 d):=by
 refine⟨fun i m σ H=>m=n-i/\i<=n/\Pv i σ H,⟨n,by simp,CF _,j⟩,?_⟩;rintro i m σ H ⟨rfl,q,p⟩;by_cases a:i<n
 .exact .inr ⟨b i σ H a p,Pv (i+1),fun σ' H' o=>⟨n-(i+1),by omega,rfl,a,o⟩,fun x H' y=>k i σ H x H' a p y⟩
 .have e:i=n:=by omega
  subst e;exact .inl ⟨c σ H p,l σ H p⟩
def zCz{J:It}{xs:A0 V}{a:A4}{f:Hp}(as:LB J xs a f){g:TG}{h:TS}{D:Ends}{σ:St}{H:Hp}(Pv:Nat->St->Hp->Prop)(k:Pv 0 σ H)(c:∀i σ H,i<=xs.length->Pv i σ H->JQ a f H)
  (l:∀i σ H x,xs[i]?=some x->Pv i σ H->g x σ H fun σ2 d=>h { D with nx:=Pv (i+1),ct:=Pv (i+1),bk:=D.nx } σ2 d) (o:∀σ H,Pv xs.length σ H->D.nx σ H) :
  ∃W:Nat->Nat->St->Hp->Prop,(∃m,W 0 m σ H)/\∀i m σ H,W i m σ H ->
   (J.stop i H/\D.nx σ H)\/(J.go i H/\∃N:St->Hp->Prop,(∀σ' H',N σ' H'->∃j,j < m/\W (i+1) j σ' H')/\∀x H',J.yld i H x H'->g x σ H' fun σ2 d=>h { D with nx:=N,ct:=N,bk:=D.nx } σ2 d) :=
 Zp (n:=xs.length) Pv k (fun i σ H b p=>as.go H i (c i σ H (DZ b) p) b) (fun σ H p=>as.stop H (c _ σ H (Nat.le_refl _) p)) (fun i σ H x H' b p y=>by
  obtain⟨rfl,e⟩:=as.yld H i x H' (c i σ H (DZ b) p) b y;exact l i σ _ x e p) o
def As{J:It}{n:Nat}{g:TG}{f:TT}{h:PV}{σ:St}{H:Hp}{Q:St->Hp->Prop}(Pv:Nat->St->Hp->Prop)(k:Pv 0 σ H)(c:∀i σ H,i<n->Pv i σ H->J.go i H)(d:∀σ H,Pv n σ H->J.stop n H)
  (l:∀i σ H x H' (N:St->Hp->Prop),i<n->Pv i σ H->J.yld i H x H'->(∀σ' H',Pv (i+1) σ' H'->N σ' H')->g x σ H' fun σ2 o=>f σ2 o fun b j=>if b=true then h σ2 j N else N σ2 j)
  (q:∀σ H,Pv n σ H->Q σ H):Jx g f h J σ H Q:=by
 refine⟨fun i m σ H=>m=n-i/\i<=n/\Pv i σ H,⟨n,by simp,CF _,k⟩,?_⟩;rintro i m σ H ⟨rfl,s,p⟩;by_cases a:i<n
 .exact .inr ⟨c i σ H a p,fun x H' y=>l i σ H x H' _ a p y fun σ3 t r=>⟨n-(i+1),by omega,rfl,a,r⟩⟩
 .have e:i=n:=by omega
  subst e;exact .inl ⟨d σ H p,q σ H p⟩
def Y3{J:It}{xs:A0 V}{a:A4}{f:Hp}(as:LB J xs a f){g:TG}{h:TT}{j:PV}{σ:St}{H:Hp}{Q:St->Hp->Prop}(Pv:Nat->St->Hp->Prop)(l:Pv 0 σ H)(d:∀i σ H,i<=xs.length->Pv i σ H->JQ a f H)
  (m:∀i σ H x (N:St->Hp->Prop),xs[i]?=some x->Pv i σ H->(∀σ' H',Pv (i+1) σ' H'->N σ' H')->g x σ H fun σ2 o=>h σ2 o fun b k=>if b=true then j σ2 k N else N σ2 k)
  (q:∀σ H,Pv xs.length σ H->Q σ H):Jx g h j J σ H Q :=
 As (n:=xs.length) Pv l (fun i σ H c p=>as.go H i (d i σ H (DZ c) p) c) (fun σ H p=>as.stop H (d _ σ H (Nat.le_refl _) p)) (fun i σ H x H' N c p y r=>by
  obtain⟨rfl,e⟩:=as.yld H i x H' (d i σ H (DZ c) p) c y;exact m i σ _ x N e p r) q
def Mc{a:PV}{N:St->Hp->Prop}{σ:St}{H:Hp}{i:Nat}{x:V}(h:a (σ.set i (some x)) H N):V7 i x σ H fun σ2 d=>Cb σ2 d fun b c=>if b=true then a σ2 c N else N σ2 c:=by
 show if true=true then a (σ.set i (some x)) H N else N (σ.set i (some x)) H
 rw[AK rfl];exact h
def Ye{a:PV}{N:St->Hp->Prop}{σ:St}{H:Hp}(h:a σ H N):Cb σ H fun b c=>if b=true then a σ c N else N σ c:=by
 show if true=true then a σ H N else N σ H
 rw[AK rfl];exact h
section
variable{X:Cx}(K:PySem.W.Frag)(P:F8)(w:H_){tg:IH}
theorem MZ{l:IH}{a:TE}(b:PE X l a)(c:X.K=K:=by rfl):PI X tg l (zAx K a):=by subst c;exact Xw b
theorem piS{l:IH}{a:TE}(b:PE X l a)(c:X.K=K:=by rfl):PI X tg l (zFb K a):=by subst c;exact zAq b
theorem RM{b:A0 IH}{kk:Nat}{d:Pos}{a:IH}{c:TA}{p pos:Pos}(e:X.mg "enumerate" = none)(f:PA X [a] c)(g:Gl X "enumerate":=by rfl)(h:starEach [a] X.env = [(false,eval a X.env)]:=by rfl)(i:X.K=K:=by rfl) :
  PI X (.Tuple b kk d) (.Call (.Name "enumerate" p) [a] [] pos) (zBo K c):=by subst i;exact Ys g e Gh f h
theorem Ze{a:IH}{b:TA}{p pos:Pos}(c:X.mg "range" = none)(d:PA X [a] b)(e:Gl X "range":=by rfl)(f:starEach [a] X.env = [(false,eval a X.env)]:=by rfl):PI X tg (.Call (.Name "range" p) [a] [] pos) (zCo b):=Sb e c d f
theorem PR{a:A0 IH}{k:Nat}{t:QM}{n:Nat}{pos:Pos}(h:RQ X a t)(c:X.calm=true:=by rfl)(d:(assignEach a X.env).length=n:=by rfl)(b:(assignEach a X.env).findIdx? (·.1)=none:=by rfl)(e:X.K=K:=by rfl):PG X (.Tuple a k pos) (zDu K n t):=by subst e;exact Zu c h d b
theorem NJ{e:IH}{a:TE}{f:Str}{pos:Pos}(b:PE X e a)(c:attributeBase e f X.env (eval e X.env)=eval e X.env:=by rfl)(d:X.K=K:=by rfl):PE X (.Attribute e f pos) (zDe K a f):=by subst d;exact zBk b c
theorem PQ{o a:IH}{c d:TE}{f:Str}{pos b:Pos}(e:PE X o c)(g:PE X a d)(h:swapsWith a (some (.Attribute o f b)) pos.line X.env=pure false:=by rfl)(i:X.K=K:=by rfl):PS X (.Assign [.Attribute o f b] a pos) (zFm K c d f):=by subst i;exact zAa e g h
theorem P4(b:X.K=K:=by rfl):G9 X (.builtin "len") (fun xs H Q=>∃p a,xs = [.ref p]/\(IG K H p a\/JM K H p a)/\Q (.int a.length) H):=by subst b;exact Gn
theorem T9(b:X.K=K:=by rfl):G9 X (.type "list") (fun xs H Q=>∃p a,xs = [.ref p]/\(IG K H p a\/JM K H p a)/\∀l,H l=none->Q (.ref l) (IB H l (.lst a))):=by subst b;exact Ib
theorem Kx(b:X.K=K:=by rfl):G9 X (.type "tuple") (fun xs H Q=>∃p a,xs = [.ref p]/\((IG K H p a/\∀l,H l=none->Q (.ref l) (IB H l (.tup a)))\/(JM K H p a/\Q (.ref p) H))):=by subst b;exact Eo
theorem Wn(a:X.calm=true:=by rfl)(b:X.K=K:=by rfl):G9 X (.builtin "all") (fun xs H Q=>∃(p:A4) (bs:A0 Bool),xs = [.ref p]/\IG K H p (bs.map V.bl)/\Q (.bl (bs.all id)) H):=by subst b;exact Tl a
theorem Lx(c:X.K=K:=by rfl):G9 X (.builtin "sorted") (fun xs H Q=>∃(p:A4) (b:A0 Str),xs = [.ref p]/\IG K H p (b.map V.str)/\∀(l:A4) (a:A0 Str),H l=none->a.Perm b->a.Pairwise ON->Q (.ref l) (IB H l (.lst (a.map V.str)))):=by subst c;exact Fw
theorem Kw(c:X.K=K:=by rfl):G9 X (.builtin "sorted") (fun xs H Q=>∃(p:A4) (b:A0 JD),xs = [.ref p]/\IG K H p (b.map fun q=>V.ref q.1)/\(∀q∈b,E1 H q)/\∀(l:A4) (a:A0 JD),H l=none->a.Perm b->a.Pairwise QI->Q (.ref l) (IB H l (.lst (a.map fun q=>V.ref q.1)))):=by subst c;exact Fu
theorem Tu(c:X.calm=true:=by rfl)(hw:X.w=w:=by rfl):G9 X (.builtin "sorted") (fun xs H Q=>∃(p:A4) (b:A0 Str),xs = [.ref p]/\H p=some (Ph w p b)/\∀(l:A4) (a:A0 Str),H l=none->a.Perm b->a.Pairwise ON->Q (.ref l) (IB H l (.lst (a.map V.str)))):=by subst hw;exact Hd c
theorem Bp(a:X.K=K:=by rfl):G9 X (.builtin "isinstance") (fun xs H Q=>∃x n t b,xs = [x,.ty n]/\LU K H x t/\PySem.W.kitOne K t (.type n)=some b/\Q (.bl b) H):=by subst a;exact Qk
theorem Xf(a:X.prog=P:=by rfl)(hw:X.w=w:=by rfl):G9 X (.type "set") (fun xs H Q=>xs = []/\∀p,H p=none->Q (.ref p) (IB H p (Oh P w p []))):=by subst a;subst hw;exact Ss
theorem Tm(a:X.prog=P:=by rfl)(hw:X.w=w:=by rfl):G9 X (.type "set") (fun xs H Q=>xs = []/\∀p,H p=none->Q (.ref p) (IB H p (Oi P w p []))):=by subst a;subst hw;exact Of
theorem Ae(a:X.A.units+64<cLine)(b:X.K=K:=by rfl):J_ X (compareOp .NotIn) (zEc K true):=by subst b;exact Ov a
theorem zDj(a:X.A.units+64<cLine)(b:X.K=K:=by rfl):J_ X (compareOp .Eq) (zEh K):=by subst b;exact zAn a
theorem Ng(a:X.A.units+64<cLine)(b:X.K=K:=by rfl):J_ X (compareOp .NotEq) (zEm K):=by subst b;exact Zt a
theorem Uy(a:X.K=K:=by rfl):J_ X (compareOp .In) (QZ K false):=by subst a;exact So
theorem Ma(a:X.K=K:=by rfl):J_ X (compareOp .NotIn) (QZ K true):=by subst a;exact Gc
theorem zDz(a:X.prog=P:=by rfl)(hw:X.w=w:=by rfl):J_ X (compareOp .In) (zEz P w false):=by subst a;subst hw;exact Qq
theorem zEr(a:X.A.units+1<cLine)(b:X.prog=P:=by rfl)(hw:X.w=w:=by rfl):J_ X (compareOp .In) (zFn P w):=by subst b;subst hw;exact Nv a
theorem Zx(a:X.prog=P:=by rfl)(hw:X.w=w:=by rfl):OY X "set.add" (zAj P w):=by subst a;subst hw;exact zAs
theorem zCu(a:X.A.units+1<cLine)(b:X.prog=P:=by rfl)(hw:X.w=w:=by rfl):OY X "set.add" (zBq P w):=by subst b;subst hw;exact Yo a
theorem Wc{o e:IH}{g:TE}{t:TA}{b a:Pos}{r:V->A0 V->Hp->VK->Prop}(h:OY X "set.add" r)(i:PE X o g)(j:PA X [e] t)
  (c:attributeBase o "add" X.env (eval o X.env)=eval o X.env:=by rfl)
  (f:((backTo a (starEach [e] X.env)).all (fun x=>!x.1) &&(backToKw a (keywordEach [] X.env)).all (fun x=>x.1.isSome)
   && decide ([e].length +([]:A0 Keyword).length +(if([]:A0 Keyword).isEmpty then 0 else 1)<30))=true:=by rfl)
  (d:(b.endLine == a.line)=true:=by rfl) (k:starEach [e] X.env = [(false,eval e X.env)]:=by rfl) (l:X.prog=P:=by rfl) (hw:X.w=w:=by rfl) :
  PE X (.Call (.Attribute o "add" b) [e] [] a) (zEv P w r g t):=by subst l;subst hw;exact Xs h i j c f d k
theorem LT(a:X.K=K:=by rfl):RS X (zFf K):=by subst a;exact Yg
theorem QA(a:X.K=K:=by rfl):RS X (zFl K):=by subst a;exact zAp
theorem slL(a:X.K=K:=by rfl):SlR X (zEy K):=by subst a;exact Yy
theorem Ek(a:X.K=K:=by rfl):OY X "list.index" (Pa K):=by subst a;exact Oz
theorem RL{a:IH}{c:TE}(d:PE X a c)(e:∀b,isTrue a X.env b =(do let v <-b;standAt a.pos;holding [v] (truthy v)):=by intro _;rfl)(f:X.K=K:=by rfl):PT X a (fun σ H Q=>c σ H fun x H'=>∃k,zDt K x H' k/\Q k H'):=by subst f;exact Vi d e
theorem Hl{T id:String}{name:Str}{o e:IH}{d:A0 IH}{k:TE}{t:TA}{c a:Pos}{r:V->A0 V->Hp->VK->Prop}(l:PlainAttrs T)(h:Slot T name id)(j:typeOf (.builtin id)=pure (.type "method_descriptor"))(m:OY X id r)(n:PE X o k)(p:PA X (e::d) t)
  (f:attributeBase o name X.env (eval o X.env)=eval o X.env:=by rfl)
  (i:((backTo a (starEach (e::d) X.env)).all (fun x=>!x.1) &&(backToKw a (keywordEach [] X.env)).all (fun x=>x.1.isSome)
   && decide ((e::d).length +([]:A0 Keyword).length +(if([]:A0 Keyword).isEmpty then 0 else 1)<30))=true:=by rfl)
  (g:(c.endLine == a.line)=true:=by rfl) (q:starEach (e::d) X.env =(false,eval e X.env)::starEach d X.env:=by rfl) (b:(backTo a (starEach d X.env)).any (·.1)=false:=by rfl) (s:X.K=K:=by rfl) :
  PE X (.Call (.Attribute o name c) (e::d) [] a) (tBM K T r k t):=by subst s;exact zDy l h j m n p f i g q b
end
section
variable{X:Cx}{elts:A0 IH}{kk:Nat}{tp:Pos}
theorem Xk:bootBuiltins "zip" = some (.type "zip"):=by decide +kernel
variable(K:PySem.W.Frag)
end
section
variable{X:Cx}{tg iter elt:IH}{ifs:A0 IH}{scope:JB}{cl:A0 (Str×A4)}{N':A0 Str}{cap:A0 (A6 Nat)}{wi:TI}{pos:Pos}
theorem Rv{e:IH}{gs:A0 Comprehension}{newAcc:Sem A3}{p2:Pos}{use:A6 (A3->Sem Unit)}{Qv:A3->A5->Prop}(q:clausesOf e =⟨tg,iter,ifs,0⟩::gs)(o:A4->HO)(hs:∀x,foldedSetIterable iter X.env x=pure x)(S:LY X scope cl N' cap)(hc:X.calm=true)(hi:PI X tg iter wi)
  {lp:A4->It->St->Hp->(St->Hp->Prop)->Prop}
  (r:∀(a:A0 (A4×Obj)) (s:A5) (σ:St) (H:Hp) (Q:A3->A5->Prop) (E:A3->A5->Prop),Inv X a σ H s->(∀g,Inv X a σ (IB H s.heap.objs.size (o s.heap.objs.size)) g->(∀b f,s.heap.get? b=some f->g.heap.get? b=some f)->Q (.ref s.heap.objs.size) g)->wpAny (model X.prog X.w) X.A newAcc Q E s)
  (L:∀(a:A0 (A4×Obj)) (M:A0 A4) (s3:A5) (N:Hp) (D l:A4) (fp:A0 A4) (t:Nat->IA->Prop) (J:It) (σ:St) (s:A5) (H:Hp) (Q:St->Hp->Prop) (R:Result->A5->Prop),
   MO X.prog X.w X.K tg J fp l t->Inv (LL X scope cl N' a M s3 N) [] σ H s->t 0 s.heap->(∀b∈fp,Fl (LL X scope cl N' a M s3 N) [] H b)->lp D J σ H Q ->
   (∀g σ' H',Inv (LL X scope cl N' a M s3 N) [] σ' H' g->Q σ' H'->R (.ok .next) g) ->
   codeAny (model X.prog X.w) X.A (.compLoop e 0 (.ref l) (.ref D) (compEnvC scope cl s3.heap.objs.size X.env)) R s)
  (O:∀l D i,X.A.under (.compStart e 0 (.ref l) (.ref D) i)=X.A) (u:∀l D i,(model X.prog X.w).den (.compStart e 0 (.ref l) (.ref D) i) =(compStart e 0 (.ref l) (.ref D) i).onRaise (fun x=>do noteFrame x i;standAt theWindowsPlace))
  {a:A0 (A4×Obj)} {s:A5} {σ:St} {H:Hp} {Q:V->Hp->Prop} (I:Inv X a σ H s) (h:Rr wi o cap lp σ H Q)
  (B:∀(D:A4) (fp:A0 A4) (k:Hp) (s3 g:A5) (σ':St) (H':Hp),Inv X a σ k s3->(∀b∈fp,Fl X a k b)->Inv (LL X scope cl N' a fp s3 k) [] σ' H' g->Q (.ref D) H'->compPost (model X.prog X.w) X.A X.xe use Qv (.ref D) s3.heap.objs.size (.ok .next) g) :
  wpAny (model X.prog X.w) X.A (comprehension e scope X.env p2 newAcc false (eval iter X.env) use) Qv X.xe s:=by
 refine wpAny_comprehension_free q hs S.clos S.kind S.loc (IY (hi a s σ H _ I h) fun v s1 C=>IY C fun itv j h2=>?_);obtain⟨l,fp,t,J,k,P,I2,T,F,f2,R2⟩:=h2;subst P;refine r a j σ k _ _ I2 fun s3 U k3=>?_;have hD:k j.heap.objs.size=none:=I2.hok.fresh (Nat.le_refl _);have n:∀b∈fp,Fl X a (IB k j.heap.objs.size (o j.heap.objs.size)) b/\∃f,s3.heap.get? b=some f:=fun b m=>by
  obtain⟨f,e,_⟩:=T.obj _ _ F b m;obtain⟨W,fr⟩:=f2 b m;exact⟨⟨by rw[B6 (BA (AI e))];exact W,fr⟩,f,k3 b f e⟩
 refine wpAny_newFunctionEnv S.nocell (by intro y hy;simp at hy) (fun C Y Z=>?_) S.kind;have hk:∀b f,s3.heap.get? b=some f->C.get? b=some f:=fun b f e=>(Z.2 b (BA (AI e))).trans (AD _ e);have I4:Inv (LL X scope cl N' a fp s3 (IB k j.heap.objs.size (o j.heap.objs.size))) [] (Vw cap σ) (IB k j.heap.objs.size (o j.heap.objs.size)) { s3 with heap:=C,toks:=s3.toks +([]:A0 (Str×A3)).length } :=
  U.block S hc n Y hk
 have G:t 0 C:=T.keep 0 _ _ F fun b m f e=>hk b f (k3 b f e);refine Cz (X:=LL X scope cl N' a fp s3 (IB k j.heap.objs.size (o j.heap.objs.size))) (gs:=⟨tg,iter,ifs,0⟩::gs) (e:=e) (d:=0) (tg:=tg) (iter:=iter) (ifs:=ifs) (O _ _ _) (u _ _ _) q rfl T G ?_;refine L a fp s3 _ j.heap.objs.size l fp t J (Vw cap σ) _ _ _ _ T I4 G (fun b m=>?_) (R2 _ hD) fun g σ' H' I' q'=>?_
 .obtain⟨⟨W,f1,f2',f3,f4,f5⟩,f,eo⟩:=n b m;refine⟨W,BA (AI eo),fun hf=>?_,.inl m,fun x c e=>f4 x c (S.cin.get e),fun p hp=>f5 p (by simpa [LL] using hp)⟩;rcases AU.mp (U.stkSub b hf)with z | z
  .exact f1 z
  .exact f2' z
 .exact B _ fp _ s3 g σ' H' U (fun b m=>(n b m).1) I' q'
theorem Lg{i:Nat}{x:Str}{o j:Pos}{g:TG}{V:TT}{W:TE}(hN:X.N.Nodup)(hi:X.N[i]?=some x)(hx:Loc X.env.scope x)(S:LY X scope cl N' cap)(p:X.calm=true)(hI:PI X tg iter wi)
  (t:∀(d:A0 (A4×Obj)) (y:A0 A4) (l:A5) (A:Hp),PG (LL X scope cl N' d y l A) tg g/\RC (LL X scope cl N' d y l A) ifs V/\PE (LL X scope cl N' d y l A) elt W)
  (hs:∀x,foldedSetIterable iter X.env x=pure x:=by intro _;rfl)
  (F:swapsWith (.ListComp elt [⟨tg,iter,ifs,0⟩] scope j) (some (.Name x o)) pos.line X.env=pure true:=by rfl)
  (G:X.fn x=true\/X.env.scope.names.lookup x=some .local:=by first | exact .inl rfl | exact .inr rfl | assumption) :
  PS X (.Assign [.Name x o] (.ListComp elt [⟨tg,iter,ifs,0⟩] scope j) pos) (zDa (Rr wi (fun _=>.lst []) cap fun D J σ H Q=>Jx g V (Cg D W) J σ H Q) (V7 i)):=by
 intro d s σ H D I h;rw[exec_Assign];refine AA (GI (AA (FZ F (wpAny_ite_true rfl (AA (AA ?_))))));refine Rv (newAcc:=newList []) (p2:=firstIterPos [⟨tg,iter,ifs,0⟩] j) rfl (fun _=>.lst []) hs S p hI (fun d s σ H Q E I h=>?_) (fun d y l A D it fp tn J σ s H Q R T I st G h hR=>?_) (fun _ _ _=>rfl) (fun _ _ _=>rfl) I h fun E fp H2 l s' σ' H' Y K L q=>?_
 .refine HV ?_;exact h _ (I.lnew (t':=s.toks) (its:=[]) .nil (CF _)) fun b f e=>AD _ e
 .obtain⟨b1,b2,b3⟩:=t d y l A;exact Bd (X:=LL X scope cl N' d y l A) rfl rfl p rfl (Dc elt tg iter ifs scope j _ _ _) b1 b2 (Mi rfl b3) T I st G h hR
 .have IX:Inv X d σ H' s':=Y.unblock K L ⟨rfl,fun _ _=>rfl⟩;have w:Fl X d H' l.heap.objs.size:=Y.fpOk (Nat.le_refl _) L.free;obtain⟨m,hn,_⟩:=L.loc;show wpAny _ _ (assign (.Name x o) X.env (.ref E)) _ _ _;refine wpAny_assign_Name (Ge (v:=.ref E) IX hN hi hx rfl (fun C M ⟨a,O,ha⟩=>?_) G);have nC:l.heap.objs.size≠a:=by
   rcases ha with rfl | ha
   .exact w.2.1
   .exact(w.2.2.2.2.1 _ _ ha).symm
  refine⟨m,?_,fun h' B=>AE (AE ?_)⟩
  .obtain⟨f,P,U,e1,r⟩:=hn;exact⟨f,P,U,(O.2 _ nC).trans e1,r⟩
  refine⟨_,H',?_,q⟩;have k:∀b f,b∉[l.heap.objs.size]->C.heap.get? b=some f->h'.get? b=some f:=fun b f t e=>(B.2 b fun z=>t (AF.mpr z)).trans e;refine M.step (h':=h') (H':=H') (t':=C.toks) (g':=C.gens) (d':=C.drawn) (ch:=[l.heap.objs.size]) (fun b t=>by rw[AF.mp t];exact⟨w.2.2.2.1,w.2.1,w.2.2.2.2⟩) (fun b f _ _ p e _=>k b f p e) (fun b f _ _ p e _=>⟨f.slots,k b f p e⟩) (fun _ _ _ _ n=>n)
   (fun b f p e=>⟨f,k b f p e⟩) (fun _ _ e=>e) (fun _ _ _ e=>e) (fun b ps e=>⟨#[],by rw[e];simp⟩) (fun m hm=>?_) (fun b u Z=>?_) M.bare
  .obtain⟨f,P,U,ho,r⟩:=hm;exact⟨f,P,U,k _ f (fun t=>w.2.1 (AF.mp t).symm) ho,r⟩
  .have nf:∀b u,H' b=some u->b∉[l.heap.objs.size]:=fun b u e t=>by rw[AF.mp t,w.1]at e;cases e
   refine(M.hok b u Z).stay (fun c v p q=>k c v ?_ q) (fun _ q=>q) fun _ _ q=>q;rcases p with z | z
   .rw[z];exact nf b u Z
   .exact nf c _ z
end
section
variable{X:Cx}
theorem zDq{x:Str}{C:A4}{pos:Pos}(h:X.mg x=some (.ref C))(a:Gl X x:=by rfl)(b:(x ==("__debug__":Str))=false:=by decide):PE X (.Name x pos) (tC (.ref C)):=Ke a h rfl b
end
def Bx(l xs:A0 Str):A0 Str:=xs.foldl Zq l
def Vn(l:A0 Str)(x:Str):(Zq l x).length<=l.length+1:=by
 unfold Zq;split
 .omega
 .rw[AV];exact Nat.le_refl _
def zAh{w:H_}{h h':IA}{a:A4}{b:A0 Str}(z:ST.WS w h a b)(k:∀o,h.get? a=some o->h'.get? a=some o):ST.WS w h' a b:=by
 obtain⟨o,c,d,t,S,r⟩:=z;exact⟨o,c,d,t,S.at (k o S.ho),r⟩
section
variable{prog:F8}{w:H_}{A:II}{R:Result->A5->Prop}{I:A4}{fp wr:A0 A4}{G:CM GenState->CM GenState->Prop}{n:Nat}{P:Nat->A3->Prop}{St:Nat->A5->Prop}
theorem Qb(W:WalksS prog w A.in1 I fp wr G n P St)(S:A4)(f:S∉fp)(xs:A0 Str)(H:xs.length=n)(g:∀i v,P i v->∃x t,xs[i]?=some x/\v = .str x t) :
  ∀(k i:Nat) (s:A5) (c:A0 Str),n-i=k->i<=n->St i s->ST.WS w s.heap S c->c.length+k<4096 ->
   (∀s',Moved (S::wr) G s s'->ST.WS w s'.heap S (Bx c (xs.drop i))->R (.ok (.ret .none)) s') ->
   codeAny (model prog w) A (.builtin "set.update.loop" ⟨[.ref S,.ref I],[]⟩) R s:=by
 have j:S∉wr:=fun h=>f (W.sub _ h);have a:∀b∈wr,b∈S::wr:=fun b l=>AY _ l;intro k
 induction k with
 | zero =>
  intro i s c J K d z _ B;have C:i=n:=by omega
  subst C;refine DN F.entry_set_update_loop ?_;rw[Around.under_plainId F.plain_set_update_loop _];refine AA (W.done s _ _ d fun s' m=>?_);have q:=B s' (m.mono a);rw[<-H,List.drop_length]at q;exact AE (q (zAh z fun o=>m.heap S o j))
 | succ k L =>
  intro i s c J K d z U B;refine DN F.entry_set_update_loop ?_;rw[Around.under_plainId F.plain_set_update_loop _];refine AA (W.item i s _ _ (by omega) d fun v s' M p m=>?_);obtain⟨x,t,N,rfl⟩:=g i v M;show wpAny _ A.in1 (holding [Value.str x t] (setAdd S (.str x t)) >>= _) _ _ s';refine AA (BS ?_);unfold setAdd;refine BS (AA (wpAny_pyHash_str ?_));refine ST.QD (s:={ s' with toks:=s'.toks+1 }) (zAh z fun o=>m.heap S o j) (by omega) fun V b r O=>?_;refine AE ⟨plainId_quiet F.plain_set_update_loop _,L (i+1) _ (Zq c x) (by omega) (by omega) (W.frame _ s' _ _ p (DV _) fun b l o e=>?_) O (by have:=Vn c x;omega) fun D u y=>?_⟩
  .rw[r.2 b (fun h:b=S=>f (by rw[<-h];exact l))];exact e
  .refine B D (Moved.trans W.gtrans ((m.mono a).then_heap (DV _) fun b o l e=>?_) u) ?_
   .rw[r.2 b (fun h:b=S=>l (by rw[h];exact BH))];exact e
   .have Q:xs.drop i=x::xs.drop (i+1):=by
     obtain⟨E,T⟩:=AG.mp N;rw[<-T];exact EL E
    rw[Q];exact y
end
section
variable{prog:F8}{w:H_}{A:II}{E:A3->A5->Prop}{s:A5}
abbrev KF(w:H_):Obj:={ cls:=.type "set",dict:=none,data:=.set #[] 0 (.fresh 0 0 (!(w.params.followText "set-order"))) }
theorem Up{h:IA}{a:A4}(e:h.get? a=some (KF w)):ST.WS w h a [] :=
 ⟨_,#[],0,_,⟨e,⟨rfl,rfl,rfl⟩,rfl,by rfl,rfl,fun _=>rfl,by decide⟩,⟨fun e b=>by simp at b,by simp,FY⟩⟩
theorem Tv(a:A3){Q₁:A3->A5->Prop}(h:Q₁ (.ref s.heap.objs.size) { s with heap:=s.heap.push (KF w) }) :
  codeAny (model prog w) A (.call (.builtin "set.__new__") ⟨[.type "set",a],[]⟩) (wants Q₁ E) s:=by
 refine codeAny_of_tree ?_;show wpAny _ A.in1 (do checkBuiltinCall "set.__new__" ⟨[.type "set",a],[]⟩;again (.builtin "set.__new__" ⟨[.type "set",a],[]⟩)) _ _ s;refine AA (FZ (F.newCall_set_1 a) (AE ⟨plainId_quiet F.plain_set_new _,DN F.entry_set_new ?_⟩));rw[Around.under_plainId F.plain_set_new _];unfold Builtin.«set.__new__» Builtin.Frozenset.newClass;have b:=sub_set_self;obtain⟨c,g,d,e,os⟩:=s;dsimp only;wp_walk;refine GP (AE ?_);dsimp only;simp only[newObj];refine AA (wpAny_alloc (AE ?_));exact AE h
set_option maxHeartbeats 3200000 in
theorem Cy{l:A4}{g H:Obj}{z:String}{xs:A0 Str}{n:Nat}{P:Nat->A3->Prop}{St:A4->Nat->IA->Prop}{Q:A3->A5->Prop}(hh:A.handled=none)(j:s.heap.get? l=some g)(k:g.cls = .type z)
  (hs1:isSubtype (.type z) (.type "set")=pure false) (hs2:isSubtype (.type z) (.type "frozenset")=pure false) (hne:(Value.type z == Value.type "dict")=false)
  (J:∀{A:II} {E:A3->A5->Prop} {Q:A3->A5->Prop} (s1:A5),s1.heap.get? l=some g->Q (.ref s1.heap.objs.size) { s1 with heap:=s1.heap.push H }->wpAny (model prog w) A (pyIter (.ref l)) Q E s1)
  (hW:∀(A:II) (I:A4),A.handled=none->l≠I->Walks prog w A I [I,l] [I] n P (St I)) (K:∀(h:IA) (I:A4),h.get? I=some H->h.get? l=some g->St I 0 h) (m:H.isFreed=false)
  (hn:xs.length=n) (p:∀i v,P i v->∃x t,xs[i]?=some x/\v = .str x t) (B:n<4096)
  (h:∀(h':IA) (C:Nat),ST.WS w h' s.heap.objs.size (Bx [] xs)->(∀b o,s.heap.get? b=some o->h'.get? b=some o)->Q (.ref s.heap.objs.size) { s with heap:=h',toks:=C }) :
  wpAny (model prog w) A (call (.type "set") [.ref l]) Q E s:=by
 obtain⟨c,tl,hmro⟩:=F.called_set.mro;have L:=F.called_set.made;have hsub:=F.called_set.sub;refine wpAny_call (codeAny_of_tree ?_);show wpAny _ _ (callAny (.type "set") _) _ _ _;refine AE ⟨Code.quiet_builtin _ (by decide +kernel),DN F.entry_type_call ?_⟩;rw[Around.under_plain (weight_type_call_type "set" [.ref l] []) rfl];have h1:=F.called_set.notType;have h2:=F.called_set.canCreate;have hct:=F.typeCall_set_1 (.ref l)
 repeat (any_goals (first | assumption | wp_step))
 refine GO (Tv (.ref l) (E:=E) (Q₁:=fun q s₁=>q = .ref s.heap.objs.size/\s₁ ={ s with heap:=s.heap.push (KF w) }) ⟨rfl,rfl⟩) fun r s₁ d=>?_;cases r with
 | error e=>exact d
 | ok M =>
  cases M with
  | ret q =>
   obtain⟨rfl,rfl⟩:=d;have hS:(s.heap.push (KF w)).get? s.heap.objs.size=some (KF w):=AN _ rfl;have hT:Shared.TypeIs { s with heap:=s.heap.push (KF w) } (.ref s.heap.objs.size) "set":=⟨_,hS,rfl⟩;have hli:=F.called_set.init.lookup;have hbi:=F.called_set.init.bind (.ref s.heap.objs.size)
   repeat (any_goals (first | assumption | wp_step))
   refine GO (codeAny_call_builtin (R:=wants (fun r s₂=>r = .none/\∃h' C,s₂ ={ s with heap:=h',toks:=C }/\ST.WS w h' s.heap.objs.size (Bx [] xs) /\
     (∀b o,s.heap.get? b=some o->h'.get? b=some o)) E) F.called_set.init.plain F.entry_set_init (check_set_init_1 hT ?_)) fun r₂ s₂ d₂=>?_
   .have a:(s.heap.push (KF w)).get? l=some g:=AD _ j;obtain⟨ocls,N,O,D⟩:=g;simp only at k;subst k;unfold Builtin.«set.__init__» noKeywords Builtin.Frozenset.updateFrom;generalize S:pyIter=PI;wp_walk;subst S;refine J _ a ?_;refine AA (wpAny_runValue ?_);have u:l<s.heap.objs.size:=AI j;have T:A.in1.in1.in1.handled=none:=by simp[hh]
    have y:l≠(s.heap.push (KF w)).objs.size:=by
     rw[DH];exact BA (DC u)
    have U:s.heap.objs.size∉[(s.heap.push (KF w)).objs.size,l]:=by
     rw[DH];simp only[AU,BX,or_false,not_or];exact⟨BA (ED _),Nat.ne_of_gt u⟩
    refine Qb ((hW _ _ T y).toS) s.heap.objs.size U xs hn p (n-0) 0 _ [] rfl (CF _) (K _ _ (AN _ m) (AD _ a)) (Up (AD _ hS)) (by simpa using B) fun s' G f=>?_;obtain⟨h',g',d',V,W⟩:=s';have eg:g'=s.gens:=G.gens;have ed:d'=s.drawn:=G.drawn;have eo:W=s.os:=G.os;subst eg;subst ed;subst eo;show wpAny _ _ _ _ _ _;refine AE ?_;show wpAny _ _ (ret Value.none) _ _ _;refine AE ⟨rfl,h',V,rfl,f,fun b o e=>?_⟩;have B:=AI e;have X:b≠s.heap.objs.size:=BA B;have Y:b≠(s.heap.push (KF w)).objs.size:=by
     rw[DH];exact BA (DC B)
    exact G.heap b o (by simp only[AU,BX,or_false,not_or];exact⟨X,Y⟩) (AD _ (AD _ e))
   .cases r₂ with
    | error e=>exact d₂
    | ok M₂ =>
     cases M₂ with
     | ret r =>
      obtain⟨rfl,h',C,rfl,f,Z⟩:=d₂
      repeat (any_goals (first | assumption | wp_step))
      exact h _ _ f Z
     | _=>exact d₂.elim
  | _=>exact d.elim
end
def Fg:isSubtype (.type "tuple") (.type "set")=pure false:=by rw[isSubtype_type];kernel_rfl
def Y4:isSubtype (.type "tuple") (.type "frozenset")=pure false:=by rw[isSubtype_type];kernel_rfl
def Gr:∀{xs l:A0 Str},xs.Nodup->(∀x∈xs,x∉l)->Bx l xs=l++xs
 | [],l,_,_=>(CJ l).symm
 | x::xs,l,c,a=>by
  obtain⟨d,f⟩:=CL.mp c;show Bx (Zq l x) xs=_;have e:Zq l x=l ++ [x]:=AJ (a x (BH ..));rw[e,Gr f fun y b hm=>?_,BF]
  .rfl
  .rcases A_.mp hm with hm | hm
   .exact a y (AY _ b) hm
   .exact d (AF.mp hm▸b)
def Sx{a:A0 Str}{its:A0 A3}(r:IK (a.map V.str) its)(i:Nat)(v:A3)(e:its.toArray[i]?=some v):∃x t,a[i]?=some x/\v = .str x t:=by
 rw[GJ]at e;cases h:a[i]? with
 | none =>
  have:=r.none_of (i:=i) (by rw[AH,h];rfl);rw[this]at e;cases e
 | some x =>
  obtain⟨u,b,t,c⟩:=r.get (i:=i) (x:=.str x) (by rw[AH,h];rfl);rw[b]at e;cases e;exact⟨x,t,rfl,c⟩
section
variable{X:Cx}
theorem Yt(K:PySem.W.Frag)(w:H_)(G:X.calm=true:=by rfl)(L:X.K=K:=by rfl)(hw:X.w=w:=by rfl):G9 X (.type "set") (fun xs H Q=>∃(p:A4) (d:A0 Str),xs = [.ref p]/\(IG K H p (d.map V.str)\/JM K H p (d.map V.str))/\d.Nodup/\d.length<4096/\∀l,H l=none->Q (.ref l) (IB H l (Ph w l d))):=by
 subst L;subst hw;intro i s σ H xs S Q I r h;obtain⟨p,d,rfl,hq,M,J,q⟩:=h;obtain⟨u,rfl,N⟩:=V8 r;cases N;have O:Bx [] d=d:=Gr M fun _ _ h=>nomatch h
 have j:∀(v:IA) (x:Nat),ST.WS X.w v s.heap.objs.size (Bx [] d)->(∀b o,s.heap.get? b=some o->v.get? b=some o)->EP X i σ Q (.ref s.heap.objs.size) { s with heap:=v,toks:=x }:=fun v x z k=>by
  rw[O]at z;exact⟨.ref s.heap.objs.size,_,I.laid (t':=x) k (Nat.le_refl _) (zAi z),rfl,q _ (I.hok.fresh (Nat.le_refl _))⟩
 rcases hq with hq | hq
 .obtain⟨f,m,y,P⟩:=I.list hq;have a:=m.length;rw[AB]at a;obtain⟨o,B,c,n,t⟩:=y.isList;exact Cy (I.ok.hd G) B c F.sub_list_set F.sub_list_frozenset (by decide) (fun R e q=>FO ⟨_,e,c,n,t⟩ q) (fun A I C g=>Walks.list C I p g f.toArray) (fun h I D E=>⟨⟨_,D,rfl,rfl⟩,⟨_,E,c,n,t⟩⟩) rfl (by simp[a]) (Sx m) (by simpa [<-a] using J) j
 .obtain⟨f,m,y,P⟩:=I.tuple hq;have a:=m.length;rw[AB]at a;obtain⟨o,B,c,n,t⟩:=y;exact Cy (I.ok.hd G) B c Fg Y4 (by decide) (fun R e q=>wpAny_pyIter_tuple ⟨_,e,c,n,t⟩ q) (fun A I C g=>Walks.tuple C I p g f.toArray) (fun h I D E=>⟨⟨_,D,rfl,rfl⟩,⟨_,E,c,n,t⟩⟩) rfl (by simp[a]) (Sx m) (by simpa [<-a] using J) j
theorem Ub(E:X.calm=true):G9 X (.builtin "any") (fun xs H Q=>∃(p:A4) (bs:A0 Bool),xs = [.ref p]/\IG X.K H p (bs.map V.bl)/\Q (.bl (bs.any id)) H):=by
 intro B s σ H xs M Q I r h;obtain⟨p,bs,rfl,F,q⟩:=h;obtain⟨u,rfl,t⟩:=V8 r;cases t;obtain⟨a,w,x,N⟩:=I.list F;refine call_any_walk (FO x.isList ?_);have y:p≠s.heap.objs.size:=by
  obtain⟨o,n,e,_⟩:=x;exact BA (AI e)
 refine⟨s.heap.objs.size,_,_,_,_,_,fun i=>bs.getD i false,rfl,Walks.list (A:=X.A.in1) (show X.A.in1.handled=none from I.ok.hd E) _ p y a.toArray,⟨⟨_,AN _ rfl,rfl,rfl⟩,?_⟩,fun i v O P R G J=>?_,fun S T k=>?_⟩
 .obtain⟨o,n,e,c,d,L⟩:=x;exact⟨o,AD _ e,c,n,L⟩
 .have f:(bs.map V.bl)[i]?=some (V.bl (bs.getD i false))/\RelV (V.bl (bs.getD i false)) v:=by
   have g:a[i]?=some v:=by simpa using G
   have j:i<a.length:=(AG.mp g).1;have m:=w.length;rw[AB]at m;have e:(bs.map V.bl)[i]?=some (V.bl (bs.getD i false)):=by
    rw[AH,AC (by omega)];simp[AQ,AC (show i<bs.length by omega)]
   obtain⟨u,C,t⟩:=w.get e;rw[g]at C;cases C;exact⟨e,t⟩
  cases f.2;exact DG J
 .have m:=w.length;rw[AB]at m;have e:(List.range a.toArray.size).any (fun i=>bs.getD i false)=bs.any id:=by
   rw[AS,<-m,BZ,HS,HS];constructor
   .rintro⟨i,j,z⟩;have l:=BW.mp j;refine⟨bs[i],FU l,?_⟩;simpa [AQ,AC l] using z
   .rintro⟨b,f,z⟩;obtain⟨i,j,rfl⟩:=FK.mp f;refine⟨i,BW.mpr j,?_⟩;simpa [AQ,AC j] using z
  rw[e];exact⟨.bl (bs.any id),H,I.kept fun b o D=>k b o (by
   intro f;have:b=s.heap.objs.size:=by simpa using f
   exact absurd (AI D) (by rw[this];exact CQ _)) (AD _ D),rfl,q⟩
theorem zAg:bootBuiltins "any" = some (.builtin "any"):=by decide +kernel
variable(K:PySem.W.Frag)
theorem zCa(a:X.calm=true:=by rfl)(b:X.K=K:=by rfl):G9 X (.builtin "any") (fun xs H Q=>∃(p:A4) (bs:A0 Bool),xs = [.ref p]/\IG K H p (bs.map V.bl)/\Q (.bl (bs.any id)) H):=by subst b;exact Ub a
end
def Hx:bootBuiltins "sum" = some (.builtin "sum"):=by decide +kernel
section
variable{X:Cx}
theorem Pq(f:X.calm=true):G9 X (.builtin "sum") (fun xs H Q=>∃(p:A4) (ns:A0 Int),xs = [.ref p]/\IG X.K H p (ns.map V.int)/\Q (.int ns.sum) H):=by
 intro b s σ H xs o Q I r h;obtain⟨p,ns,rfl,g,q⟩:=h;obtain⟨u,rfl,i⟩:=V8 r;cases i;obtain⟨a,j,l,t⟩:=I.list g;have c:=p0 j;obtain⟨xs,d⟩:=c.allInts.items;refine sum_intListG (xs:=xs) (I.ok.hd f) (by rw[<-d];exact l.isList) fun v w m k=>⟨.int ns.sum,H,I.kept k,⟨m,?_⟩,q⟩;have e:numsOf a=ns:=c.numsOf;have n:numsOf (intItems xs).toList=numsOf a:=by rw[<-d]
 rw[preSum_eq,DA (by simp),<-nums_intItems,n,e]
theorem Ml(K:PySem.W.Frag)(a:X.K=K:=by rfl)(b:X.calm=true:=by rfl):G9 X (.builtin "sum") (fun xs H Q=>∃(p:A4) (ns:A0 Int),xs = [.ref p]/\IG K H p (ns.map V.int)/\Q (.int ns.sum) H):=by subst a;exact Pq b
end
def Itd(d:A4)(o:Obj)(a:A0 (IW×V)):It :=
 ⟨fun i H=>H d=some (.frz o (.dK a))/\i<a.length,fun i H x b=>b=H/\∃k v,a[i]?=some (k,v)/\x=kV k,fun i H=>H d=some (.frz o (.dK a))/\a.length<=i⟩
def KV.at{c:A0 (IW×V)}{vs:A0 (IW×A3)}(h:KV c vs):∀{i:Nat} {k:IW} {v:V},c[i]?=some (k,v)->∃u,vs[i]?=some (k,u):=by
 induction h with
 | nil=>intro i k v e;rw[List.getElem?_nil]at e;cases e
 | cons r _ d =>
  intro i k v e;cases i with
  | zero =>
   rw[List.getElem?_cons_zero]at e⊢;cases e;obtain⟨a,b⟩:=r;exact⟨_,by rw[show k=_ from a]⟩
  | succ i=>exact d e
def Xb{k:IW}{u:A3}(h:Fa k u=true):RelV (kV k) u:=by
 cases k with
 | inl i=>obtain⟨t,rfl⟩:=Value.isInt_shape h;exact⟨t,rfl⟩
 | inr x=>obtain⟨t,rfl⟩:=Value.isStrOf_shape h;exact⟨t,rfl⟩
section
variable{X:Cx}{tg:IH}
theorem Rh{P:F8}{w:H_}{K:PySem.W.Frag}{d g:A4}{o:Obj}{a:A0 (IW×V)}{C:CM DictEntry}{ep:Nat}(t:o.data = .dict C ep):MO P w K tg (Itd d o a) [g] g (fun i h=>h.IsKeyIter g d i a.length ep) where
 mem:=by simp
 obj:=fun i h st b j=>by
  have e:b=g:=by simpa using j
  subst e;obtain⟨o,e,c,d⟩:=st;exact⟨o,e,fun v z=>by rw[d]at z;cases z⟩
 keep:=fun i h x st k=>by
  obtain⟨o,e,r⟩:=st;exact⟨o,k g (by simp) o e,r⟩
 item:=by
  intro X D F G hc i f s σ H E I y st J;subst D F G;obtain⟨L,A⟩:=J;obtain⟨M,N,f2,O,Q,R⟩:=y g (by simp);obtain⟨m,hz,hS,S,r,ob,T,U,n,Y,p,Z⟩:=(show IR X.prog X.w H s.heap d (.frz o (.dK a))from I.hok d _ L);rw[m]at n;cases n;rw[t]at p;cases p;have hx:a[i]?=some (a[i].1,a[i].2):=AC A;obtain⟨u,hu⟩:=r.at hx;have B:a.length=S.length:=r.length;rw[B]at st;refine wpAny_pyNext_dict_item (knd:=C4 X.prog X.w) st ⟨o,C,m,Y,t,Z⟩ hu fun key x q l sb=>?_;have I1:Inv X f σ H { s with heap:=x }:=I.turned (t':=s.toks) (fun b o j e=>(sb.2 b j).trans e) M N O Q R;obtain⟨oi,ei,ci,di⟩:=id l;rw[<-B]at l;exact⟨key,rfl,Nb (s:={ s with heap:=x }) ei ci di (by decide) ⟨kV a[i].1,H,I1,Xb q,⟨rfl,_,_,hx,rfl⟩,l,fun b j=>(y b j).1⟩⟩
 done:=by
  intro X D F G hc i f s σ H E I y st J;subst D F G;obtain⟨L,A⟩:=J;obtain⟨M,N,f2,O,Q,R⟩:=y g (by simp);obtain⟨m,hz,hS,S,r,ob,T,U,n,Y,p,Z⟩:=(show IR X.prog X.w H s.heap d (.frz o (.dK a))from I.hok d _ L);rw[m]at n;cases n;rw[t]at p;cases p;have B:a.length=S.length:=r.length;rw[B]at st A;exact wpAny_pyNext_dict_end (knd:=C4 X.prog X.w) (I.ok.hd hc) st ⟨o,C,m,Y,t,Z⟩ (EN A) fun x eb=>⟨rfl,I.turned (t':=s.toks) (fun b o j e=>eb b o j e) M N O Q R⟩
 self:=fun _ _ _ _ _ st h=>wpAny_pyIter_keyiter st h
end
section
variable{prog:F8}{w:H_}{A:II}{E:A3->A5->Prop}{s:A5}
theorem Tj{t b:A4}{vs g:A0 A3}{Q:A3->A5->Prop}(o:IsTup s.heap t vs.toArray)(p:IsTup s.heap b g.toArray)(q:vs = [])(h:Q (.ref b) s):wpAny (model prog w) A (binaryOp .Add (.ref t) (.ref b)) Q E s:=by
 obtain⟨⟨r,u,i,v⟩,j,k,n,l⟩:=id o;obtain⟨⟨m,e,data2,f⟩,a,c,x,d⟩:=id p;simp only at k l c d;subst k l c d;exact concat_meets ⟨_,j,rfl⟩ ⟨_,a,rfl⟩ noFill_tuple_add seq_tuple_add PySem.F.slot_tuple_add PySem.F.entry_tuple_add (PySem.F.args_tuple_add_2 _ _)
  (tuple_addW0 t b vs.toArray g.toArray n x u e v f (by simp[q])) ⟨j,a,h⟩
end
section
variable{X:Cx}(K:PySem.W.Frag)
def zDf:R2:=fun x y H Q=>∃a b c d,x = .ref a/\y = .ref b/\JM K H a c/\JM K H b d/\d≠[]/\c.length+d.length<=sizeLine /\
 (c = []->Q (.ref b) H)/\(c≠[]->∀p,H p=none->Q (.ref p) (IB H p (.tup (c++d))))
theorem Xd(n:X.K=K:=by rfl):J_ X (binaryOp .Add) (zDf K):=by
 subst n;intro d s σ H x y v u Q I e f h;obtain⟨a,b,g,o,i,j,k,l,p,q,r,t⟩:=h;by_cases c:g = []
 .subst i j c;cases e;cases f;obtain⟨w,A,B,_⟩:=I.tuple k;obtain⟨m,D,C,_⟩:=I.tuple l;exact Tj B C (A.nil_iff.mpr rfl) ⟨.ref b,H,I,rfl,r rfl⟩
 .exact Xo _ _ _ _ _ _ _ _ _ I e f ⟨a,b,g,o,i,j,k,l,c,q,fun z=>absurd z p,fun _=>t c⟩
end
def Aa:∀{xs:A0 V} {us:A0 A3},IK xs us->∀i:Nat,(xs[i]?=none/\us[i]?=none)\/∃x u,xs[i]?=some x/\us[i]?=some u/\RelV x u
 | _,_,.nil,i=>.inl ⟨rfl,rfl⟩
 | x::xs,u::us,.cons r t,0=>.inr ⟨x,u,rfl,rfl,r⟩
 | x::xs,u::us,.cons r t,i+1=>Aa t i
def zBd(i:Nat)(f:A4)(sp:Sp)(E:XK)(t:TA):TE:=fun σ H Q=>σ[i]?=some (some (.ref f))/\Wz sp [] E t σ H Q
section
variable{X:Cx}{CX:PZ}{k:Nat}{f:A4}{fd:IU}{ps:A0 Str}{sp:Sp}{x:Str}{e:IH}{es:A0 IH}{t:TA}{p pos:Pos}{E:XK}{ds:A0 A3}
theorem Vf{i:Nat}(F:IP X.prog X.w X.K X.mg X.base CX k f fd ps sp)(l:JF k X.A)(m:PySem.W.keepIn X.K (.ref f)=true)(n:Binds X.K fd ps [])(o:u4 CX X E)
  (y:PA X (e::es) t) (z:X.N[i]?=some x:=by rfl) (B:RP X.env.scope x:=by first | exact Or.inl rfl | exact Or.inr (Or.inl rfl) | exact Or.inr (Or.inr rfl)) (b:(x ==("__debug__":Str))=false:=by decide) (c:(x ==("__classdict__":Str))=false:=by decide)
  (C:starEach (e::es) X.env =(false,eval e X.env)::starEach es X.env:=by rfl) (d:(backTo pos (starEach es X.env)).any (·.1)=false:=by rfl) :
  PE X (.Call (.Name x p) (e::es) [] pos) (zBd i f sp E t):=by
 intro a s σ H Q I h;obtain⟨D,h⟩:=h;refine D_ (IY (Vr (i:=i) (pos:=p) z B b c a s σ H (fun v G=>v = .ref f/\G=H) I ⟨_,D,rfl,rfl⟩) fun u J ⟨v,L,g,M,O,P⟩=>?_);subst O P;cases M;refine PySem.W.callWith_K (h₀:=X.base) g.ok.mod.kin m (IY (y pos a J σ L _ g h) fun R S ⟨T,U,j,r,q⟩=>⟨j.kIn,?_⟩) C d;exact Mg F l n .nil o j r q
end
def Mr(v d:A4):HO:=.ext fun h=>h.IsValuesView v d
def Itv(d:A4)(o:Obj)(a:A0 (IW×V)):It :=
 ⟨fun i H=>H d=some (.frz o (.dK a))/\i<a.length,fun i H x b=>b=H/\∃k,a[i]?=some (k,x),fun i H=>H d=some (.frz o (.dK a))/\a.length<=i⟩
def KV.atV{c:A0 (IW×V)}{vs:A0 (IW×A3)}(h:KV c vs):∀{i:Nat} {k:IW} {v:V},c[i]?=some (k,v)->∃u,vs[i]?=some (k,u)/\RelV v u:=by
 induction h with
 | nil=>intro i k v e;rw[List.getElem?_nil]at e;cases e
 | cons r _ d =>
  intro i k v e;cases i with
  | zero =>
   rw[List.getElem?_cons_zero]at e⊢;cases e;obtain⟨a,b⟩:=r;exact⟨_,by rw[show k=_ from a],b⟩
  | succ i=>exact d e
section
variable{X:Cx}{tg:IH}
def zEl(d:TE):TE:=fun σ H Q=>d σ H fun x b=>∃a c,x = .ref a/\b a=some (.dK c)/\∀v,b v=none->Q (.ref v) (IB b v (Mr v a))
theorem Qo{o:IH}{c d:Pos}{m:TE}(t:PE X o m)(f:attributeBase o "values" X.env (eval o X.env)=eval o X.env:=by rfl)(g:(c.endLine == d.line)=true:=by rfl):PE X (.Call (.Attribute o "values" c) [] [] d) (zEl m):=by
 intro i s σ H Q I h;refine wpAny_Call_method0_late f g (IY (t i s σ H _ I h) fun v n ⟨x,u,j,y,a,l,A,p,B⟩=>?_);subst A;obtain rfl:v=Value.ref a:=y;obtain⟨z,C,D,E,q⟩:=Xz j.hok p;obtain⟨G,J,_⟩:=zCq j (.inl ⟨l,.inl p⟩);refine⟨"dict", "dict.values",PySem.F.plainAttrs_dict,PySem.F.slot_dict_values,PySem.F.type_dict_values,G,J,Calls.callWith_builtin rfl (PySem.evalArgs_none ?_)⟩;refine call_meetsIn PySem.F.slot_dict_values q.typeIs PySem.F.entry_dict_values (PySem.F.args_dict_values_1 _) (meets_dict_values (C4 X.prog X.w) a C) ⟨⟨D,q⟩,?_⟩;exact⟨.ref n.heap.objs.size,IB u _ (Mr _ a),j.laid (t':=n.toks) (fun b o K=>AD _ K) (Nat.le_refl _) ⟨⟨_,AN _ rfl,rfl,rfl⟩,⟨_,AN _ rfl⟩,fun L M ⟨o,e,r⟩ k=>⟨o,k o e,r⟩⟩,rfl,B _ j.fresh⟩
theorem Pi{P:F8}{w:H_}{K:PySem.W.Frag}{d g:A4}{o:Obj}{a:A0 (IW×V)}{B:CM DictEntry}{ep:Nat}(q:o.data = .dict B ep):MO P w K tg (Itv d o a) [g] g (fun i h=>h.IsValIter g d i a.length ep) where
 mem:=by simp
 obj:=fun i h st b j=>by
  have e:b=g:=by simpa using j
  subst e;obtain⟨o,e,c,d⟩:=st;exact⟨o,e,fun v z=>by rw[d]at z;cases z⟩
 keep:=fun i h t st k=>by
  obtain⟨o,e,r⟩:=st;exact⟨o,k g (by simp) o e,r⟩
 item:=by
  intro X C D F Z i f s σ H E I x st G;subst C D F;obtain⟨J,y⟩:=G;obtain⟨L,M,f2,N,O,Q⟩:=x g (by simp);obtain⟨m,hz,hS,R,r,ob,S,T,n,U,p,Y⟩:=(show IR X.prog X.w H s.heap d (.frz o (.dK a))from I.hok d _ J);rw[m]at n;cases n;rw[q]at p;cases p;have hx:a[i]?=some (a[i].1,a[i].2):=AC y;obtain⟨u,hu,ru⟩:=r.atV hx;have A:a.length=R.length:=r.length;rw[A]at st;refine wpAny_pyNext_values_item (knd:=C4 X.prog X.w) st ⟨o,B,m,U,q,Y⟩ hu fun t l sb=>?_;have I1:Inv X f σ H { s with heap:=t }:=I.turned (t':=s.toks) (fun b o j e=>(sb.2 b j).trans e) L M N O Q;obtain⟨oi,ei,ci,di⟩:=id l;rw[<-A]at l;exact⟨u,rfl,Nb (s:={ s with heap:=t }) ei ci di (by decide) ⟨a[i].2,H,I1,ru,⟨rfl,_,hx⟩,l,fun b j=>(x b j).1⟩⟩
 done:=by
  intro X C D F Z i f s σ H E I x st G;subst C D F;obtain⟨J,y⟩:=G;obtain⟨L,M,f2,N,O,Q⟩:=x g (by simp);obtain⟨m,hz,hS,R,r,ob,S,T,n,U,p,Y⟩:=(show IR X.prog X.w H s.heap d (.frz o (.dK a))from I.hok d _ J);rw[m]at n;cases n;rw[q]at p;cases p;have A:a.length=R.length:=r.length;rw[A]at st y;exact wpAny_pyNext_values_end (knd:=C4 X.prog X.w) (I.ok.hd Z) st ⟨o,B,m,U,q,Y⟩ (EN y) fun t eb=>⟨rfl,I.turned (t':=s.toks) (fun b o j e=>eb b o j e) L M N O Q⟩
 self:=fun _ _ _ _ _ st h=>wpAny_pyIter_valiter st h
def zGd(c:TE):TI:=fun σ H R=>c σ H fun x b=>∃v d a,x = .ref v/\b v=some (Mr v d)/\b d=some (.dK a)/\∀o,R (Itv d o a) (IB b d (.frz o (.dK a)))
theorem zBg{l:IH}{t:TE}(j:PE X l t):PI X tg l (zGd t):=by
 intro c s σ H R I h;refine IY (j c s σ H _ I h) fun v s1 ⟨x,g,k,D,E⟩=>?_;obtain⟨m,d,a,e,F,y,q⟩:=E;subst e;cases D;obtain⟨f,_⟩:=(show IR X.prog X.w g s1.heap m (Mr m d)from k.hok m _ F);obtain⟨G,J,z,r,o,A,ep,i,B,n,C⟩:=(show IR X.prog X.w g s1.heap d (.dK a)from k.hok d _ y);have p:Inv X c σ (IB g d (.frz o (.dK a))) { s1 with heap:=s1.heap,toks:=s1.toks }:=k.write (t':=s1.toks) (by rw[y];trivial) (.inl rfl) (fun b u _ e=>e) ⟨_,i⟩ ⟨i,G,J,z,r,o,A,ep,i,B,n,C⟩;have j:a.length=z.length:=r.length;refine wpAny_pyIter_values (knd:=C4 X.prog X.w) (ep:=ep) f ⟨o,A,i,B,n,C⟩ ?_;refine⟨s1.heap.objs.size,[s1.heap.objs.size],_,_,IB g d (.frz o (.dK a)),rfl,p.kept (t':=s1.toks) fun b o e=>AD _ e,Pi n,?_,fun b K=>?_,q o⟩
 .rw[j];exact⟨_,AN _ rfl,rfl,rfl⟩
 have e:b=s1.heap.objs.size:=by simpa using K
 subst e;exact p.fpOk (Nat.le_refl _) (p.hok.fresh (Nat.le_refl _))
theorem Ba(ns:A0 Int):∀{n:Nat},n<=ns.length->preSum (fun i=>ns.getD i 0) n =(ns.take n).sum
 | 0,_=>rfl
 | n+1,h=>by
  have e:ns[n]?=some ns[n]:=AC (by omega);show preSum (fun i=>ns.getD i 0) n+ns.getD n 0=_;rw[Ba ns (by omega),List.take_succ,List.sum_append,AQ,e];simp
def zEb:A0 V->Hp->VK->Prop:=fun c H Q=>∃(v d:A4) (a:A0 (IW×V)) (b:A0 Int),c = [.ref v]/\H v=some (Mr v d)/\H d=some (.dK a)/\(a.map fun q=>q.2)=b.map V.int/\Q (.int b.sum) H
theorem Yw(F:X.calm=true:=by rfl):G9 X (.builtin "sum") zEb:=by
 intro p s σ H N O Q I r h;obtain⟨v,d,a,c,rfl,G,J,x,q⟩:=h;obtain⟨u,rfl,j⟩:=V8 r;cases j;obtain⟨f,_⟩:=(show IR X.prog X.w H s.heap v (Mr v d)from I.hok v _ G);obtain⟨P,R,g,r,o,y,ep,m,z,A,B⟩:=(show IR X.prog X.w H s.heap d (.dK a)from I.hok d _ J);have S:a.length=g.length:=r.length;have K:a.length=c.length:=by have:=congrArg List.length x;rw[AB,AB]at this;exact this
 refine call_sum_walkG (wpAny_pyIter_values (knd:=C4 X.prog X.w) (ep:=ep) f ⟨o,y,m,z,A,B⟩ ?_);have n:d≠s.heap.objs.size:=BA (AI m);refine⟨s.heap.objs.size,_,_,g.length,_,_,fun i=>c.getD i 0,rfl,Walks.dictValues (knd:=C4 X.prog X.w) (by simp only[Around.in1_handled];exact I.ok.hd F) s.heap.objs.size d n g ep,⟨⟨_,AN _ rfl,rfl,rfl⟩,o,y,AD _ m,z,A,B⟩,fun b hb=>?_,fun i u ⟨k,C⟩=>?_,fun T L t' M=>⟨.int c.sum,H,I.kept (t':=L) fun b o e=>M b o (by simpa using BA (AI e)) (AD _ e),⟨t',?_⟩,q⟩⟩
 .rw[DH];rcases AU.mp hb with rfl | hb
  .exact ED _
  .rw[AF.mp hb];exact DC (AI m)
 .have U:i<g.length:=(AG.mp C).1;have D:a[i]?=some (a[i].1,a[i].2):=AC (by omega);obtain⟨W,E,j⟩:=r.atV D;rw[C]at E;cases E;have e:=congrArg (fun l=>l[i]?) x;rw[AH,AH,D,AC (by omega:i<c.length)]at e;have e:a[i].2=V.int c[i]:=BG e;rw[e]at j;obtain⟨t,rfl⟩:=j;exact⟨t,by show Value.int c[i] t=Value.int (c.getD i 0) t;rw[AQ,AC (by omega:i<c.length)];rfl⟩
 .have:preSum (fun i=>c.getD i 0) g.length=c.sum:=by
   rw[Ba _ (by omega),DA (by omega)]
  rw[this]
end
section
variable{X:Cx}
theorem zEf:PIp X .BitOr (ipI fun i j=>Builtin.bitOr i j):=by
 intro a s σ H x y v u Q I b c h;obtain⟨i,j,d,e,q⟩:=h;subst d;subst e;obtain⟨t,rfl⟩:=b;obtain⟨f,rfl⟩:=c;exact ior_int ⟨.int _,H,I.tok _,⟨_,rfl⟩,q⟩
end
section
variable{X:Cx}{tg:IH}
def zDk(c:TE):TI:=fun σ H R=>c σ H fun x b=>∃d a,x = .ref d/\Rd b d (.dK a)/\∀o,R (Itd d o a) (IB b d (.frz o (.dK a)))
theorem Ui{H:Hp}{d:A4}{o:HO}(h:H d=some o):IB H d o=H:=funext fun b=>by
 by_cases e:b=d
 .subst e;rw[A9,h]
 .rw[B6 e]
theorem Yl{l:IH}{D:TE}(B:PE X l D):PI X tg l (zDk D):=by
 intro i s σ H R I h;refine IY (B i s σ H _ I h) fun v s1 ⟨x,z,A,E,F⟩=>?_;obtain⟨d,a,e,j,q⟩:=F;subst e;cases E;obtain⟨o,C,t,m,c,r,f,ep,g,n,k,p⟩:∃o,Inv X i σ (IB z d (.frz o (.dK a))) { s1 with heap:=s1.heap,toks:=s1.toks }/\a.length<=sizeLine/\(d == sysModules)=false/\∃c,KV a c/\∃f ep,s1.heap.get? d=some o/\o.ExactDict/\o.data = .dict f ep/\(PySem.KeysOf (C4 X.prog X.w) f/\Pairs (C4 X.prog X.w) f.toList c/\(c.map (·.1)).Nodup):=by
  rcases j with j | ⟨o,j⟩
  .obtain⟨t,m,c,r,o,f,ep,g,n,k,p⟩:=(show IR X.prog X.w z s1.heap d (.dK a)from A.hok d _ j);exact⟨o,A.write (t':=s1.toks) (by rw[j];trivial) (.inl rfl) (fun b u _ e=>e) ⟨_,g⟩ ⟨g,t,m,c,r,o,f,ep,g,n,k,p⟩,t,m,c,r,f,ep,g,n,k,p⟩
  .obtain⟨g,t,m,c,r,J,f,ep,y,n,k,p⟩:=(show IR X.prog X.w z s1.heap d (.frz o (.dK a))from A.hok d _ j);rw[g]at y;cases y;exact⟨o,by rw[Ui j];exact A,t,m,c,r,f,ep,g,n,k,p⟩
 have B:a.length=c.length:=r.length;refine wpAny_pyIter_dict (knd:=C4 X.prog X.w) (ep:=ep) m ⟨o,f,g,n,k,p⟩ ?_;refine⟨s1.heap.objs.size,[s1.heap.objs.size],_,_,IB z d (.frz o (.dK a)),rfl,C.kept (t':=s1.toks) fun b o e=>AD _ e,Rh k,?_,fun b G=>?_,q o⟩
 .rw[B];exact⟨_,AN _ rfl,rfl,rfl⟩
 have e:b=s1.heap.objs.size:=by simpa using G
 subst e;exact C.fpOk (Nat.le_refl _) (C.hok.fresh (Nat.le_refl _))
end
def r9{a b:A4}{n:Nat}(h1:a<n)(h2:n<=b):b≠a:=fun z=>by subst z;exact absurd h2 (Nat.not_le_of_lt h1)
section
variable{fs ex:A0 A4}{H:Hp}{h h':IA}{a:A4}
theorem LD.table{P:F8}{w:H_}{f g:CM A3}(i:LD P w H h)(j:H a=some (.tbl f))(k:∀b u,b≠a->h.get? b=some u->h'.get? b=some u)(l:h'.get? a=some { cls:=.none,data:=.fields g }):LD P w (IB H a (.tbl g)) h':=fun b u q=>by
 by_cases d:b=a
 .subst d;rw[A9]at q;cases q;exact l
 .rw[B6 d]at q;have n:∀c o,H c=some o->o≠ .tbl f->c≠a:=fun c o e m z=>by rw[z,j]at e;cases e;exact m rfl
  refine(i b u q).stay (fun c v hc r=>k c v ?_ r) (fun c r=>by rw[B6 (n c _ r (by intro z;cases z))];exact r) fun c p r=>by rw[B6 (n c _ r (by intro z;cases z))];exact r
  rcases hc with rfl | hc
  .exact d
  .exact n c _ hc (by intro z;cases z)
end
section
variable{P:F8}{w:H_}{fs ex:A0 A4}{H H':Hp}{h h':IA}{a:A4}{o:HO}
theorem Un.more{p:A4}{g more:CM A3}(c:H p=some (.tbl g))(d:H' p=some (.tbl (g++more)))(a:∀b o,H b=some o->b≠p->H' b=some o)(f:∀b,b<h.objs.size->H b=none->H' b=none)
  (k:∀b u,b≠p->h.get? b=some u->h'.get? b=some u) (j:∃u,h'.get? p=some u):Un fs ex H H' h h':=by
 have i:∀b,H b=none->b≠p:=fun b n e=>by rw[e,c]at n;cases n
 refine⟨fun b u q n _ _=>k b u (i b n) q,fun b u q n _ _=>⟨u.slots,k b u (i b n) q⟩,fun b u q n _=>f b (AI q) n,fun b u q _=>?_,fun b l q=>a b _ q fun e=>?_,fun b o u q=>a b _ q fun e=>?_,fun b m q=>?_⟩
 .by_cases e:b=p
  .subst e;exact j
  .exact⟨u,k b u e q⟩
 .rw[e,c]at q;cases q
 .rw[e,c]at q;cases q
 .by_cases e:b=p
  .subst e;rw[c]at q;cases q;exact⟨more,d⟩
  .exact⟨#[],by rw[a b _ q e];simp⟩
theorem LD.track(x:LD P w H h)(f:H a=none)(d:IR P w (IB H a o) h a o):LD P w (IB H a o) h:=fun b u e=>by
 by_cases g:b=a
 .subst g;rw[A9]at e;cases e;exact d
 .rw[B6 g]at e;exact(x b u e).stay (fun c v _ q=>q) (fun c q=>by rw[B6 (B0 q f)];exact q) fun c i q=>by rw[B6 (B0 q f)];exact q
end
def KE(c:A4)(q:Str):HO:=.ext fun h=>h.CodeRec (.ref c) q
def MP(f c:A4)(q:Str)(a:Arguments)(b:IH)(d:JB)(cl:A0 (Str×A4)):HO:=.ext fun h=>∃e g,h.get? f=some (PySem.W.kla_obj "<lambda>" q a b d cl e c g)
def KE.ok{P:F8}{w:H_}{H:Hp}{h:IA}{c:A4}{q:Str}(r:h.CodeRec (.ref c) q):IR P w H h c (KE c q):=by
 have g:=r;obtain⟨i,o,b,t,e,a,d,f⟩:=r;cases e;refine⟨g,⟨o,a⟩,fun l m j k=>?_⟩;obtain⟨i,o,b,t,e,a,d,f⟩:=j;cases e;exact⟨c,o,b,t,rfl,k o a,d,f⟩
def MP.ok{P:F8}{w:H_}{H:Hp}{h:IA}{f c:A4}{q:Str}{d:Arguments}{b:IH}{g:JB}{cl:A0 (Str×A4)}{a ct:A3}(r:h.get? f=some (PySem.W.kla_obj "<lambda>" q d b g cl a c ct)):IR P w H h f (MP f c q d b g cl) :=
 ⟨⟨a,ct,r⟩,⟨_,r⟩,fun i j ⟨a,ct,e⟩ k=>⟨a,ct,k _ e⟩⟩
def O3(cells:A0 (Str×A4)):A0 (Str×JO)->A0 (Str×A4)->A0 (Str×A4)
 | [],a=>a
 | (n,k)::r,a=>O3 cells r (if(k == NameKind.free)=true then(n,(cells.lookup n).getD 0)::a else a)
def l9{b:JB}{a:OU}(h:∀x∈b.names,x.2 = .free->(a.cells.lookup x.1).isSome=true):closureFor b a=pure (O3 a.cells b.names []):=by
 have g:∀(l:A0 (Str×JO)) (f:A0 (Str×A4)),(∀x∈l,x.2 = .free->(a.cells.lookup x.1).isSome=true) ->
   (forIn (m:=Sem) l f fun x i=>match x with
    | (name,j)=>if(j == NameKind.free)=true then do
      let d <-cellOf a name
      pure (ForInStep.yield ((name,d)::i))
     else pure (ForInStep.yield i))=pure (O3 a.cells l f):=by
  intro l
  induction l with
  | nil=>intro f _;rfl
  | cons x r s =>
   obtain⟨n,k⟩:=x;intro f o;rw[List.forIn_cons];by_cases e:(k == NameKind.free)=true
   .have u:k = .free:=eq_of_beq e;obtain⟨c,t⟩:=DY.mp (o (n,k) (BH ..) u);have p:cellOf a n=pure c:=by
     unfold cellOf;rw[show List.lookup n a.cells=some c from t]
    simp only[e,EZ,p,pure_bind];rw[s _ fun y q=>o y (AY _ q)];show _=pure (O3 a.cells r (if(k == NameKind.free)=true then(n,(a.cells.lookup n).getD 0)::f else f));rw[AK e,show List.lookup n a.cells=some c from t];rfl
   .simp only[e,AW,CN,pure_bind];rw[s _ fun y q=>o y (AY _ q)];show _=pure (O3 a.cells r (if(k == NameKind.free)=true then(n,(a.cells.lookup n).getD 0)::f else f));rw[AJ e]
 unfold closureFor;simp only[g b.names [] h,pure_bind]
def Ax{pos q:Pos}{c:A3}:∀(l:A0 A3),TriplesOk l->¬(pos.line=q.line/\pos.col=q.col)->codeAmong q (l ++ [rawInt pos.line,rawInt pos.col,c])=codeAmong q l
 | [],_,n=>by
  show(if((pos.line:Int) ==(q.line:Int) &&(pos.col:Int) ==(q.col:Int))=true then some c else none)=none;rw[AJ];intro z;rw[BT,beq_iff_eq,beq_iff_eq]at z;exact n ⟨by omega,by omega⟩
 | .int a _ :: .int b _::x::r,h,n=>by
  show(if(a ==(q.line:Int)&&b ==(q.col:Int))=true then some x else codeAmong q (r ++ [rawInt pos.line,rawInt pos.col,c]))=if(a ==(q.line:Int)&&b ==(q.col:Int))=true then some x else codeAmong q r
  rw[Ax r h n]
def E9(H:Hp)(P:A4)(ls:A0 (Pos×Str)):Prop:=∃a,H P=some (.tbl a)/\TriplesOk a.toList/\∀l∈ls,codeAmong l.1 a.toList=none\/∃c,codeAmong l.1 a.toList=some (.ref c)/\H c=some (KE c l.2)
structure TabAt(K:PySem.W.Frag)(mg:Str->A6 A3)(c P:A4):Prop where
 hd:∀h:IA,K.In h->PySem.W.CodeHd h c P
 ne:mainGlobals≠P
def zGh(P:A4)(ls:A0 (Pos×Str))(cl:A0 (Str×A4))(q:Str)(e:Arguments)(b:IH)(g:JB):TE:=fun _ H Q=>E9 H P ls/\∀f c d,H f=none->E9 d P ls->d c=some (KE c q)->d f=some (MP f c q e b g cl)->f≠P->(∀a o,H a=some o->a≠P->d a=some o)->Q (.ref f) d
section
variable{X:Cx}
theorem zCe{args:Arguments}{f:IH}{a:JB}{pos:Pos}{c P:A4}{ls:A0 (Pos×Str)}(T:TabAt X.K X.mg c P)(U:X.base.BuiltinsAt X.mg P)(V:X.env.code = .ref c)(hd1:args.defaults = [])(hd2:args.kw_defaults = [])
  (r:∀x∈a.names,x.2 = .free->X.env.scope.names.lookup x.1=some .cell) (hl:(pos,X.env.qual ++ "<lambda>")∈ls) (hu:∀l∈ls,∀l'∈ls,l.1.line=l'.1.line->l.1.col=l'.1.col->l=l') :
  PE X (.Lambda args f a pos) (zGh P ls (O3 X.env.cells a.names []) (X.env.qual ++ "<lambda>") args f a):=by
 intro pins s σ H Q I h;obtain⟨⟨A,C,D,B⟩,q⟩:=h;have E:defaultsOf args X.env =([],[]):=by
  cases args;cases hd1;cases hd2;rfl
 rw[arm_eval_Lambda,E];refine AA (AE (AA (BS (AE ?_))));have v:s.heap.get? P=some (PySem.W.tabObj A):=I.hok P _ C;have r:∀x∈a.names,x.2 = .free->(X.env.cells.lookup x.1).isSome=true:=fun x hx e=>by
  obtain⟨c,V⟩:=I.ok.has x.1 (.inl (r x hx e));rw[V];rfl
 have F:s.heap.Ns mainGlobals X.mg:=I.mod.glob.keeps I.bk;have U:s.heap.BuiltinsAt X.mg P:=let⟨bm,o,h1,Y,h3,h4,h5,h6⟩:=U;⟨bm,o,h1,Y,h3,h4,I.bk _ _ h5,h6⟩;rcases B _ hl with e | ⟨d,e,hc'⟩
 .refine PySem.W.kla_makeFunction (l9 r) I.ok.glob F V (T.hd _ I.kIn) v D e T.ne U fun d m g tk xb le Z cr eP=>?_;have w:P<s.heap.objs.size:=AI v;have G:d≠P:=r9 w le;have p:g.objs.size≠P:=r9 w (Nat.le_trans le (DZ Z));have J:g.objs.size≠d:=r9 Z (Nat.le_refl _);have L:H d=none:=I.hok.fresh le;have j:H g.objs.size=none:=I.hok.fresh (Nat.le_trans le (DZ Z));have eO:(g.push (PySem.W.kla_obj "<lambda>" (X.env.qual ++ "<lambda>") args f a (O3 X.env.cells a.names []) ((X.mg "__name__").getD .none) d m)).get? g.objs.size=some (PySem.W.kla_obj "<lambda>" (X.env.qual ++ "<lambda>") args f a (O3 X.env.cells a.names []) ((X.mg "__name__").getD .none) d m):=AN _ rfl;have kk:∀b u,g.get? b=some u->(g.push (PySem.W.kla_obj "<lambda>" (X.env.qual ++ "<lambda>") args f a (O3 X.env.cells a.names []) ((X.mg "__name__").getD .none) d m)).get? b=some u:=fun b u e=>AD _ e;generalize g.push (PySem.W.kla_obj "<lambda>" (X.env.qual ++ "<lambda>") args f a (O3 X.env.cells a.names []) ((X.mg "__name__").getD .none) d m)=Y at eO kk⊢;have k:∀b u,b≠P->s.heap.get? b=some u->Y.get? b=some u:=fun b u n e=>kk b u (xb b u n e);have cr2:Y.CodeRec (.ref d) (X.env.qual ++ "<lambda>"):=by
   obtain⟨c1,o,vs,t,e1,ho,hd,hv⟩:=cr;exact⟨c1,o,vs,t,e1,kk _ _ ho,hd,hv⟩
  have M:=kk _ _ eP;have u1:IB H P (.tbl (A ++ #[rawInt pos.line,rawInt pos.col,.ref d])) d=none:=by rw[B6 G];exact L
  have u2:IB (IB H P (.tbl (A ++ #[rawInt pos.line,rawInt pos.col,.ref d]))) d (KE d (X.env.qual ++ "<lambda>")) g.objs.size=none:=by rw[B6 J,B6 p];exact j
  have N:=((I.hok.table C k M).track u1 (KE.ok cr2)).track u2 (MP.ok eO);have O:IB (IB (IB H P (.tbl (A ++ #[rawInt pos.line,rawInt pos.col,.ref d]))) d (KE d (X.env.qual ++ "<lambda>"))) g.objs.size (MP g.objs.size d (X.env.qual ++ "<lambda>") args f a (O3 X.env.cells a.names [])) P=some (.tbl (A ++ #[rawInt pos.line,rawInt pos.col,.ref d])):=by rw[B6 p.symm,B6 G.symm,A9]
  have R:IB (IB (IB H P (.tbl (A ++ #[rawInt pos.line,rawInt pos.col,.ref d]))) d (KE d (X.env.qual ++ "<lambda>"))) g.objs.size (MP g.objs.size d (X.env.qual ++ "<lambda>") args f a (O3 X.env.cells a.names [])) d=some (KE d (X.env.qual ++ "<lambda>")):=by rw[B6 J.symm,A9]
  have i:∀b o,H b=some o->b≠P->IB (IB (IB H P (.tbl (A ++ #[rawInt pos.line,rawInt pos.col,.ref d]))) d (KE d (X.env.qual ++ "<lambda>"))) g.objs.size (MP g.objs.size d (X.env.qual ++ "<lambda>") args f a (O3 X.env.cells a.names [])) b=some o:=fun b o e n=>by
   rw[B6 (B0 e j),B6 (B0 e L),B6 n];exact e
  refine⟨.ref g.objs.size,_,I.un (Un.more C O i (fun b lb n=>?_) k ⟨_,M⟩) N,rfl,q _ d _ j ⟨_,O,?_,fun l ml=>?_⟩ R A9 p i⟩
  .rw[B6 (r9 lb (Nat.le_trans le (DZ Z))).symm,B6 (r9 lb le).symm,B6 (by intro z;rw[z,C]at n;cases n)];exact n
  .rw[BN];exact TriplesOk_snoc _ _ _ _ D
  .rw[BN];by_cases el:l =(pos,X.env.qual ++ "<lambda>")
   .subst el;exact .inr ⟨d,codeAmong_snoc _ D e,R⟩
   .have ne:¬(pos.line=l.1.line/\pos.col=l.1.col):=fun z=>el (hu l ml _ hl z.1.symm z.2.symm);rw[show(#[rawInt pos.line,rawInt pos.col,Value.ref d]:CM A3).toList = [rawInt pos.line,rawInt pos.col,Value.ref d]from rfl,Ax _ D ne];rcases B l ml with z | ⟨cc,z,S⟩
    .exact .inl z
    .exact .inr ⟨cc,z,i _ _ S fun y=>by rw[y,C]at S;cases S⟩
 .refine PySem.W.kla_makeFunctionHit (l9 r) I.ok.glob F V (T.hd _ I.kIn) v D e U fun m g tk k le=>?_;have w:P<s.heap.objs.size:=AI v;have p:g.objs.size≠P:=r9 w le;have j:H g.objs.size=none:=I.hok.fresh le;have i:∀b o,H b=some o->IB H g.objs.size (MP g.objs.size d (X.env.qual ++ "<lambda>") args f a (O3 X.env.cells a.names [])) b=some o:=fun b o e=>by rw[B6 (B0 e j)];exact e
  refine⟨.ref g.objs.size,_,I.laid (t':=tk) (fun b u e=>AD _ (k b u e)) le (MP.ok (AN _ rfl)),rfl,q _ d _ j ⟨A,i _ _ C,D,fun l ml=>?_⟩ (i _ _ hc') A9 p fun b o e _=>i b o e⟩;rcases B l ml with z | ⟨cc,z,S⟩
  .exact .inl z
  .exact .inr ⟨cc,z,i _ _ S⟩
structure MF(X:Cx)(base':IA)(σ:St):Prop where
 val:∀(i:Nat) (x:Str) (v:V) (c:A4),X.N[i]?=some x->σ[i]?=some (some v)->X.env.scope.names.lookup x=some .cell->X.env.cells.lookup x=some c->∃u,RelV v u/\base'.IsCell c (some u)
 inj:∀x y c,X.env.cells.lookup x=some c->X.env.cells.lookup y=some c->x=y
 has:∀x,X.env.scope.names.lookup x=some .cell->∃c,X.env.cells.lookup x=some c
def Bu(X:Cx)(h:IA):IA:=Tg h fun b=>open Classical in if(X.base.get? b).isSome=true\/∃x,X.fn x=true/\X.env.cells.lookup x=some b then none else some (.own 0)
theorem Gw{h:IA}{b:A4}{o:Obj}(e:h.get? b=some o)(p:(X.base.get? b).isSome=true\/∃x,X.fn x=true/\X.env.cells.lookup x=some b):(Bu X h).get? b=some o:=Af e (by rw[AK p])
theorem Lq{h:IA}{b:A4}{o:Obj}(e:(Bu X h).get? b=some o):h.get? b=some o/\((X.base.get? b).isSome=true\/∃x,X.fn x=true/\X.env.cells.lookup x=some b):=by
 obtain⟨c,a⟩:=Om e;refine⟨c,Classical.byContradiction fun z=>?_⟩;rw[AJ z]at a;cases a
variable{pins:A0 (A4×Obj)}{σ:St}{H:Hp}{s:A5}
theorem Inv.wbs(I:Inv X pins σ H s){b:A4}{o:Obj}(e:X.base.get? b=some o):(Bu X s.heap).get? b=some o:=Gw (I.bk b o e) (.inl (by rw[e];rfl))
theorem Inv.wmod(I:Inv X pins σ H s):Mod X.K X.mg (Bu X s.heap):=by
 obtain⟨c,a,⟨g,h,d⟩,f⟩:=I.ok.mod;exact⟨c.keeps fun b o e=>I.wbs e,a.keeps fun b o e=>I.wbs e,⟨g,h.keeps fun b o e=>I.wbs e,d⟩,f.keeps fun b o e=>I.wbs e⟩
theorem Inv.cell_nofs(I:Inv X pins σ H s){x:Str}{c:A4}(a:X.fn x=true)(e:X.env.cells.lookup x=some c):c∉OA X.stack:=fun z=>by
 rcases AU.mp (I.stkSub c z)with y | y
 .exact I.cne x c e y
 .obtain⟨_,o,b,_⟩:=I.ok.funs.mem y;exact absurd (AI b) (Nat.not_lt_of_le (I.ok.cab x c a e))
theorem Inv.wfuns(I:Inv X pins σ H s):s.heap.FunFrames (Bu X s.heap) X.stack:=by
 have a:∀l:A0 OU,(∀b∈OA l,b∈OA X.stack)->s.heap.FunFrames X.base l->s.heap.FunFrames (Bu X s.heap) l:=by
  intro l
  induction l with
  | nil=>intro _ _;trivial
  | cons e r f =>
   intro d g;obtain⟨i,⟨L,o,c,j,k,m⟩,n⟩:=g;have p:L∈OA X.stack:=d L (by unfold OA;rw[DT,c];exact BH);refine⟨i,⟨L,o,c,?_,k,m⟩,f (fun b t=>d b (by unfold OA;rw[DT,c];exact AY _ t)) n⟩;cases q:(Bu X s.heap).get? L with
   | none=>rfl
   | some u =>
    rcases(Lq q).2 with z | ⟨x,z,y⟩
    .rw[j]at z;cases z
    .exact absurd p (I.cell_nofs z y)
 exact a X.stack (fun _ h=>h) I.stack
theorem Inv.wenv(I:Inv X pins σ H s):NZ X.prog X.w X.K X.mg (Bu X s.heap) X.A X.stack s H:=by
 refine⟨I.ok.frames,I.wmod,fun b o e=>?_,Nat.le_of_eq (Gy _ _),I.wfuns,I.stkFree,I.hok,I.bare⟩;obtain⟨a,c⟩:=Lq e;refine⟨a,?_⟩;rcases c with z | ⟨x,_,y⟩
 .obtain⟨u,d⟩:=DY.mp z;exact(I.bs b u d).2
 .exact I.freeC x b y
theorem Inv.wcells(I:Inv X pins σ H s)(e:∀x,X.fn x=true):MF X (Bu X s.heap) σ:=by
 refine⟨fun i x v c f g a b=>?_,I.ok.inj,fun x h=>I.ok.has x (.inl h)⟩;obtain⟨m,_,h⟩:=I.loc;obtain⟨u,r,l⟩:=h i x v f g (.inr (.inl a));refine⟨u,r,?_⟩;rcases l with⟨z,_⟩ | ⟨_,n,d,o,j,k⟩
 .rw[show X.env.kindOf x=some .cell from a]at z;cases z
 .rw[b]at d;cases d;exact⟨o,Gw j (.inr ⟨x,e x,b⟩),k⟩
end
structure ME(N ps fr:A0 Str)(sc:JB):Prop where
 kind:sc.kind = .function
 co:sc.isCoroutine=false
 gen:sc.isGenerator=false
 eq:N=ps++fr
 nd:N.Nodup
 par:∀x∈ps,sc.names.lookup x=some .local
 fre:∀x∈fr,sc.names.lookup x=some .free
 nocell:∀y∈sc.names,y.2≠ .cell
 has:∀y∈sc.names,y.2 = .free->y.1∈fr
def No(P:F8)(w:H_)(K:PySem.W.Frag)(mg:Str->A6 A3)(base:IA)(N:A0 Str)(b:Str)(a:JB)(f:A4)(c:A3)(cl:A0 (Str×A4))(A:II)(outer:A0 OU)(s:A5)(H:Hp):Cx where
 prog:=P
 w:=w
 K:=K
 mg:=mg
 base:=base
 A:=A.deeper (PySem.W.envX b a s.heap.objs.size f c cl)
 N:=N
 s₀:=s
 H₀:=H
 env:=PySem.W.envX b a s.heap.objs.size f c cl
 outer:=outer
 stack:=PySem.W.envX b a s.heap.objs.size f c cl::outer
 ex:=[]
 calm:=true
 fn:=fun _=>false
 pn:=[]
 xe:=fun _ _=>False
def Dd{us:A0 A3}:∀{a:A0 Str} {us:A0 A3} {i:Nat} {x:Str} {u:A3},a.Nodup->a[i]?=some x->us[i]?=some u->(a.zip us).reverse.lookup x=some u
 | [],_,_,_,_,_,h,_=>by simp at h
 | _::_,[],_,_,_,_,_,h=>by simp at h
 | p::a,w::us,0,x,u,d,b,c=>by
  simp at b c;subst b c;rw[GC,List.reverse_cons,List.lookup_append];have:(a.zip us).reverse.lookup p=none:=by
   rw[List.lookup_eq_none_iff];intro q f;have:=(FH (List.mem_reverse.mp f)).1;simp;intro e;exact(CL.mp d).1 (e▸this)
  rw[this];simp
 | p::a,w::us,i+1,x,u,d,b,c=>by
  rw[GC,List.reverse_cons,List.lookup_append,Dd (us:=us) (CL.mp d).2 (by simpa using b) (by simpa using c)];rfl
section
variable{P:F8}{w:H_}{K:PySem.W.Frag}{mg:Str->A6 A3}{base:IA}{N ps fr:A0 Str}{qual:Str}{scope:JB}{f c:A4}{cl:A0 (Str×A4)}{A:II}{outer:A0 OU}{s:A5}{H:Hp}
structure OI(base:IA)(cl:A0 (Str×A4))(fr:A0 Str)(gs:A0 V):Prop where
 len:gs.length=fr.length
 val:∀(i:Nat) (x:Str) (v:V),fr[i]?=some x->gs[i]?=some v->∃c u,cl.lookup x=some c/\RelV v u/\base.IsCell c (some u)
 only:∀x c,cl.lookup x=some c->x∈fr
 inj:∀x y c,cl.lookup x=some c->cl.lookup y=some c->x=y
theorem Zn{us:A0 A3}{vs gs:A0 V}{h':IA}{J:Nat}(S:ME N ps fr scope)(C:OI base cl fr gs)(g:A.handled=none)(a:NZ P w K mg base A outer s H)(G:vs.length=ps.length)(r:IK vs us)
  (ns:h'.Ns s.heap.objs.size fun x=>(ps.zip us).reverse.lookup x) (k:∀b o,s.heap.get? b=some o->h'.get? b=some o) :
  Inv (No P w K mg base N qual scope f (.ref c) cl A outer s H) [] (vs.map some++gs.map some) H { s with heap:=h',toks:=J }:=by
 have j:∀x d,cl.lookup x=some d->∃u o,base.get? d=some o/\o.data = .cell (some u):=fun x d e=>by
  obtain⟨i,q⟩:=CU.mp (C.only x d e);have t:i<gs.length:=by rw[C.len];exact(AG.mp q).1
  obtain⟨I,u,B,_,o,m,g⟩:=C.val i x gs[i] q (AC t);rw[e]at B;cases B;exact⟨u,o,m,g⟩
 have n:∀b:A4,b∉(No P w K mg base N qual scope f (.ref c) cl A outer s H).ex:=fun b z=>absurd (show b∈([]:A0 A4)from z) (by simp);refine⟨⟨a.mod,S.kind,rfl,rfl,Nat.le_refl _,C.inj,fun y hy=>?_,fun y d z _=>?_,fun _=>g,Around.frames_deeper a.frames,.inr ⟨rfl,rfl⟩,fun b z=>absurd z (n b),a.bs,a.bsz,fun b _ _=>n b,fun b z=>absurd z (n b),a.funs,a.frf⟩,
  rfl,a.bare,Un.kept k,⟨_,ns,fun i y v l D T=>?_⟩,fun y d h=>?_,a.hok.fresh (Nat.le_refl _),fun y d h=>?_,fun p L=>absurd (show p∈([]:A0 (A4×Obj))from L) (by simp),a.hok.kept k,?_⟩
 .have hy:scope.names.lookup y=some .cell\/scope.names.lookup y=some .free:=hy;rcases hy with hy | hy
  .exact absurd rfl (S.nocell _ (PySem.mem_of_lookup hy))
  .obtain⟨i,q⟩:=CU.mp (S.has _ (PySem.mem_of_lookup hy) rfl);have t:i<gs.length:=by rw[C.len];exact(AG.mp q).1
   obtain⟨I,_,B,_⟩:=C.val i y gs[i] q (AC t);exact⟨I,B⟩
 .cases(show false=true from z)
 .have l:(ps++fr)[i]?=some y:=by rw[<-S.eq];exact l
  have M:(ps++fr).Nodup:=by rw[<-S.eq];exact S.nd
  by_cases t:i<vs.length
  .rw[DR (by rw[AB];exact t),AH]at D;rw[DR (by omega)]at l;obtain⟨O,E,e⟩:=BL.mp D;cases e;obtain⟨u,Q,F⟩:=r.get E;exact⟨u,F,.inl ⟨S.par y (AM l),Dd (us:=us) (DX.mp M).1 l Q⟩⟩
  .rw[DM (by rw[AB];omega),AH,AB]at D;rw[DM (by omega)]at l;obtain⟨O,E,e⟩:=BL.mp D;cases e;rw[G]at E;obtain⟨d,u,R,F,o,m,g⟩:=C.val _ y v l E;exact⟨u,F,.inr ⟨.inr (S.fre y (AM l)),d,R,o,k _ _ (a.bs _ _ m).1,g⟩⟩
 .obtain⟨u,o,m,g⟩:=j y d h;exact⟨_,o,k _ _ (a.bs _ _ m).1,g⟩
 .obtain⟨u,o,m,g⟩:=j y d h;exact(a.bs _ _ m).2
 .show _=N.length;rw[S.eq,AV,AB,AB,AV,G,C.len]
theorem zAy{args:Arguments}{a:IH}{k:Nat}{gs:A0 V}{sp:Sp}{L ct:A3}(S:ME N ps fr scope)(C:OI base cl fr gs)(i:∀vs H Q E,sp vs H Q E->vs.length=ps.length)
  (l:∀vs H Q E,sp vs H Q E->H f=some (MP f c qual args a scope cl)/\H c=some (KE c qual))
  (d:∀(A:II) (outer:A0 OU) (s:A5) (H:Hp) (vs:A0 V) (Q:VK) (E:XK),JF k (A.deeper (PySem.W.envX qual scope s.heap.objs.size f (.ref c) cl))->sp vs H Q E ->
   ∃t,PE (No P w K mg base N qual scope f (.ref c) cl A outer s H) a t/\t (vs.map some++gs.map some) H Q) :
  IP P w K mg base I_ (k+1) f (PySem.W.kla_fn "<lambda>" qual args a scope cl L (.ref c) ct) ps sp:=by
 refine⟨i,fun A outer s H g m vs Q E p j M r h=>?_⟩;have O:=i _ _ _ _ h;obtain⟨R,T⟩:=l _ _ _ _ h;obtain⟨⟨q,x,U⟩,_⟩:=(show IR P w H s.heap f (MP f c qual args a scope cl)from j.hok f _ R);obtain⟨X,_⟩:=(show IR P w H s.heap c (KE c qual)from j.hok c _ T);have z:s.heap.NoLimit:=j.mod.nolimit.keeps fun b o e=>(j.bs b o e).1;have Y:∀y∈ps.zip m,scope.names.lookup y.1=some .local:=fun⟨n,v⟩ Z=>S.par n (FH Z).1;have B:BindsTo s (PySem.W.kla_fn "<lambda>" qual args a scope cl q (.ref c) x) g (ps.zip m):=M;refine PySem.W.kla_callFunE p.depth U rfl S.co S.gen rfl X (B _ _ _ _ ?_);refine wpAny_newFunctionEnv S.nocell Y (fun F ns sb=>?_) S.kind;have G:∀b o,s.heap.get? b=some o->F.get? b=some o:=fun b o e=>by
  rw[sb.2 b (BA (AI e))];exact AD _ e
 refine⟨z.keeps G,PySem.W.kla_codeExpr ?_⟩;obtain⟨t,ht,hq⟩:=d A outer s H vs Q E (p.deeper _) h;have I:Inv (No P w K mg base N qual scope f (.ref c) cl A outer s H) [] (vs.map some++gs.map some) H { s with heap:=F,toks:=s.toks +(ps.zip m).length }:=Zn S C p.hd j O r ns G;refine CK (ht [] _ _ H Q I hq) (fun u s' D=>?_) fun e s' D=>D.elim;obtain⟨v,H',J,rv,qv⟩:=D;exact⟨v,H',J.os,J.bare,J.base,J.hok,rv,qv⟩
theorem Lb{cells:A0 (Str×A4)}:∀{names:A0 (Str×JO)} {cs:A0 (Str×A4)} {x:Str} {c:A4},(O3 cells names cs).lookup x=some c->((x,NameKind.free)∈names/\c =(cells.lookup x).getD 0)\/cs.lookup x=some c
 | [],_,_,_,h=>.inr h
 | (n,k)::r,cs,x,c,h=>by
  rcases Lb (names:=r) h with⟨z,e⟩ | z
  .exact .inl ⟨AY _ z,e⟩
  .by_cases f:(k == NameKind.free)=true
   .rw[AK f]at z;by_cases e:x=n
    .subst e;rw[List.lookup_cons_self]at z;cases z;exact .inl ⟨by rw[eq_of_beq f];exact BH ..,rfl⟩
    .rw[HN,show(x == n)=false from by simpa using e]at z;exact .inr z
   .rw[AJ f]at z;exact .inr z
theorem Ko{cells:A0 (Str×A4)}{x:Str}:∀{names:A0 (Str×JO)} {cs:A0 (Str×A4)},(x,NameKind.free)∈names\/(∃c,cs.lookup x=some c)->∃c,(O3 cells names cs).lookup x=some c
 | [],_,h=>h.resolve_left (by simp)
 | (n,k)::r,cs,h=>by
  refine Ko (names:=r) ?_;by_cases e:x=n
  .by_cases f:(k == NameKind.free)=true
   .subst e;exact .inr ⟨_,by rw[AK f,List.lookup_cons_self]⟩
   .rw[AJ f];rcases h with z | z
    .rcases AU.mp z with y | y
     .cases y;exact absurd rfl f
     .exact .inl y
    .exact .inr z
  .rcases h with z | ⟨c,z⟩
   .rcases AU.mp z with y | y
    .cases y;exact absurd rfl e
    .exact .inl y
   .refine .inr ⟨c,?_⟩;by_cases f:(k == NameKind.free)=true
    .rw[AK f,HN,show(x == n)=false from by simpa using e];exact z
    .rw[AJ f];exact z
theorem MF.clos{X:Cx}{a:IA}{σ:St}{fr:A0 Str}{gs:A0 V}{names:A0 (Str×JO)}(h:MF X a σ)(n:∀y∈names,y.2=NameKind.free->y.1∈fr)(o:∀x∈fr,(x,NameKind.free)∈names)(g:∀x∈fr,X.env.scope.names.lookup x=some .cell)(f:gs.length=fr.length)
  (p:∀(i:Nat) (x:Str) (v:V),fr[i]?=some x->gs[i]?=some v->∃j:Nat,X.N[j]?=some x/\σ[j]?=some (some v)):OI a (O3 X.env.cells names []) fr gs:=by
 have b:∀{x c},(O3 X.env.cells names []).lookup x=some c->x∈fr/\X.env.cells.lookup x=some c:=fun{x c} e=>by
  rcases Lb e with⟨z,y⟩ | z
  .have m:=n _ z rfl;obtain⟨d,k⟩:=h.has x (g x m);rw[k]at y;rw[k,y];exact⟨m,rfl⟩
  .cases z
 refine⟨f,fun i x v l q=>?_,fun x c e=>(b e).1,fun x y c s t=>h.inj x y c (b s).2 (b t).2⟩;have m:=AM l;obtain⟨c,e⟩:=Ko (cells:=X.env.cells) (cs:=[]) (.inl (o x m));obtain⟨j,w,A⟩:=p i x v l q;obtain⟨u,r,B⟩:=h.val j x v c w A (g x m) (b e).2;exact⟨c,u,e,r,B⟩
end
def OT.okC{P:F8}{w:H_}{K:PySem.W.Frag}{mg:Str->A6 A3}{base:IA}{x b:Str}{st:IS}{f:A4}{e:IU}{N g:A0 Str}{k:Nat}{sp:Sp}(F:OT K x b st f e)(S:IC N g (B8 st))(i:∀vs H Q E,sp vs H Q E->vs.length=g.length)
  (d:∀(c:A3) (A:II) (a:A0 OU) (s:A5) (H:Hp) (vs:A0 V) (Q:VK) (E:XK),e.code=c->JF k (A.deeper (envOfC b (B8 st) s.heap.objs.size f c))->sp vs H Q E ->
   ∃t,OS (Zo I_ P w K mg base N b (B8 st) f c A a s H E).nox (P0 st) t/\t { nx:=fun _ H'=>Q .non H',rt:=Q } (Ee N vs) H):IP P w K mg base I_ (k+1) f e g sp:=by
 obtain⟨p,r,kV,m,u,v,c,y,n,rfl,lk,j⟩:=F.ex;refine zCv lk j S i fun A a s H vs Q E o l=>?_;obtain⟨t,h,q⟩:=d c A a s H vs Q E rfl o l;exact⟨t,h.nox,q⟩
def Sl{P:F8}{w:H_}{K:PySem.W.Frag}{mg N:Str->A6 A3}{k:Nat}{fa a:A4}{fd:IU}{x:Str}{sp:Sp}{s₁:A5}{vs:A0 A3}{ns:A0 Int}{ts:A0 A4}
  (f:∀p∈ts,s₁.heap.get? p=some (PySem.W.tabObj #[])) (O:∀p∈ts,isCodeTable s₁.heap p) (Q:∀p∈ts,s₁.heap.BuiltinsAt mg p) (t:∀p∈ts,K.lookup p=none)
  (KX:K.In s₁.heap) (y:s₁.heap.Ns mainGlobals mg) (R:s₁.heap.Ns builtinsNs N) (S:∀x:Str,x≠ "__name__"->N x=bootBuiltins x) (A:s₁.heap.NoLimit) (hg:s₁.gens = #[])
  (l:s₁.heap.get? a=some { cls:=.type "list",data:=.seq vs.toArray }) (hi:IntsAre vs ns) (hl:ns.length<=sizeLine) (hr:JF k callerA)
  (F:∀base:IA,K.In base->base.Ns mainGlobals mg->(∀p∈ts,base.BuiltinsAt mg p)->IP P w K mg base I_ k fa fd [x] sp) (j:∀(s:A5) (u:A3),BindsTo s fd ⟨[u],[]⟩ [(x,u)])
  (T:∀H:Hp,(∀p∈ts,H p=some (.tbl #[]))->IG K H a (ns.map V.int)->sp [.ref a] H (fun v _=>v = .bl true) fun _ _ _=>False) :
  codeAny (model P w) callerA (.call (.ref fa) ⟨[.ref a],[]⟩) (fun r B=>r = .ok (.ret (.bool true))/\OldK s₁.heap B.heap/\B.os=s₁.os/\AllBare B.gens) s₁:=by
 have rv:=Fo hi;have U:a∉ts:=fun z=>by
  have:=f a z;rw[l]at this;cases this
 obtain⟨H,hT,hS,X,ok,hK⟩:∃H:Hp,(∀p∈ts,H p=some (.tbl #[]))/\IG K H a (ns.map V.int)/\(∀b o,H b=some o->(b∈ts/\o = .tbl #[])\/(b=a/\∃Y xs,o = .frz Y (.lst xs)))/\LD P w H s₁.heap/\∀b,H b≠none->K.lookup b=none:=by
  cases Z:K.lookup a with
  | some o =>
   have e:=KX a o Z;rw[l]at e;cases e;refine⟨fun b=>if b∈ts then some (.tbl #[])else none,fun p n=>AK n,.inr ⟨_,vs.toArray,_,Z,rfl,rfl,rfl,by rw[AS,hi.length];exact hl,by simpa using rv⟩,fun b o e=>?_,fun b o e=>?_,fun b e=>?_⟩
   .dsimp only at e;by_cases c:b∈ts
    .rw[AK c]at e;cases e;exact .inl ⟨c,rfl⟩
    .rw[AJ c]at e;cases e
   .dsimp only at e;by_cases c:b∈ts
    .rw[AK c]at e;cases e;exact f b c
    .rw[AJ c]at e;cases e
   .by_cases c:b∈ts
    .exact t b c
    .exact absurd (AJ c) e
  | none =>
   refine⟨fun b=>if b=a then some (.frz { cls:=.type "list",data:=.seq vs.toArray } (.lst (ns.map V.int)))else if b∈ts then some (.tbl #[])else none,fun p n=>?_,.inl (.inr ⟨{ cls:=.type "list",data:=.seq vs.toArray },AK rfl⟩),fun b o e=>?_,fun b o e=>?_,fun b e=>?_⟩
   .show(if p=a then _ else if p∈ts then _ else _)=_;have np:p≠a:=fun z=>U (z▸n);rw[AJ np,AK n]
   .dsimp only at e;by_cases d:b=a
    .rw[AK d]at e;cases e;exact .inr ⟨d,_,_,rfl⟩
    .rw[AJ d]at e;by_cases c:b∈ts
     .rw[AK c]at e;cases e;exact .inl ⟨c,rfl⟩
     .rw[AJ c]at e;cases e
   .dsimp only at e;by_cases d:b=a
    .rw[AK d]at e;cases e;subst d;exact⟨l,by rw[AB];exact hl,vs,_,rv,l⟩
    .rw[AJ d]at e;by_cases c:b∈ts
     .rw[AK c]at e;cases e;exact f b c
     .rw[AJ c]at e;cases e
   .by_cases d:b=a
    .rw[d];exact Z
    .by_cases c:b∈ts
     .exact t b c
     .exact absurd ((AJ d).trans (AJ c)) e
 have nod:∀{b:A4} {o:Obj} {I:CM DictEntry} {J:Nat},s₁.heap.get? b=some o->o.data = .dict I J->H b=none:=fun{b o I J} e d=>by
  cases q:H b with
  | none=>rfl
  | some u =>
   rcases X b u q with⟨z,_⟩ | ⟨z,_⟩
   .rw[f b z]at e;cases e;cases d
   .rw[z,l]at e;cases e;cases d
 have g:∀{b:A4} {m:Str->A6 A3},s₁.heap.Ns b m->(Tg s₁.heap H).Ns b m:=fun{b m} ⟨o,I,J,e,d,r⟩=>⟨o,I,J,Af e (nod e d),d,r⟩;have hBb:∀p∈ts,(Tg s₁.heap H).BuiltinsAt mg p:=fun p n=>by
  obtain⟨L,o,h1,h2,h3,h4,C,h6,h7,h8⟩:=Q p n;refine⟨L,o,h1,h2,h3,h4,Af C ?_,h6,h7,h8⟩;cases q:H L with
  | none=>rfl
  | some u =>
   rcases X L u q with⟨z,_⟩ | ⟨z,_⟩
   .rw[f L z]at C;cases C;cases h8
   .rw[z,l]at C;cases C;cases h8
 have D:K.In (Tg s₁.heap H):=fun b o e=>Af (KX b o e) (by
  cases q:H b with
  | none=>rfl
  | some u=>rw[hK b (by rw[q];simp)]at e;cases e)
 have hM:Mod K mg (Tg s₁.heap H):=⟨D,g y,⟨N,g R,S⟩,let⟨mc,h1,h2⟩:=A;⟨mc,g h1,h2⟩⟩;have e0:NZ P w K mg (Tg s₁.heap H) callerA [] s₁ H:=⟨rfl,hM,fun b o e=>Om e,Nat.le_of_eq (Gy _ _),trivial,fun b R=>absurd (show b∈([]:A0 A4)from R) (by simp),ok,.of_eq hg⟩;refine GO ((F _ D (g y) hBb).run callerA [] s₁ H ⟨[.ref a],[]⟩ [.ref a] [.ref a] _ _ hr e0 (j s₁ (.ref a)) (.cons rfl .nil) (T H hT hS)) fun r B h=>?_;cases r with
 | error e=>exact h.elim
 | ok fl =>
  cases fl with
  | next=>exact False.elim h
  | brk=>exact False.elim h
  | cont=>exact False.elim h
  | ret u =>
   obtain⟨v,H',os,E,M,G,r',q⟩:=h;have q':v = .bl true:=q;subst q';obtain rfl:u=Value.bool true:=r';refine⟨rfl,⟨fun b o e=>?_,fun b o e=>M.there b o e (by simp)⟩,os,E⟩;cases q:H b with
   | none=>exact .inl (M.keep b o e q (fun z=>absurd (show b∈([]:A0 A4)from z) (by simp)) (by simp))
   | some u =>
    rcases X b u q with⟨z,rfl⟩ | ⟨_,Y,xs,rfl⟩
    .obtain⟨i,em⟩:=M.tbls b _ q;have e2:B.heap.get? b=some { cls:=.none,data:=.fields (#[]++i) }:=G b _ em;rw[f b z]at e;cases e;exact .inr (.inl ⟨O b z,rfl,#[],i,rfl,e2⟩)
    .obtain⟨e1,_⟩:=ok b _ q;obtain⟨e2,_⟩:=G b _ (M.frzs b Y _ q);rw[e]at e1;cases e1;exact .inl e2
def PJ{l:PySem.W.OpenLaw}{n k:Nat}{q:F8}{e:A0 Str}{O:(Str->A6 A3)->IA->Prop}{t:H_->IA->Prop}{d:DefRec}{K:Params->PySem.W.Frag}{sp:H_->Sp}{x:Str}{ts:A0 A4}
  (P:l.most=some n) (y:n<=sizeLine) (A:d.params.defaults = []) (Q:JF k callerA) (R:∀(w:H_) (h:IA),t w h->(K w.params).In h) (j:∀(w:H_) (h:IA),t w h->∀p∈ts,h.get? p=some (PySem.W.tabObj #[]))
  (F:∀(w:H_) (mg:Str->A6 A3) (r:A4) (h:IA),(K w.params).In h->h.Ns mainGlobals mg->mg d.name=some (.ref r) ->
   (∀p∈ts,isCodeTable h p)/\(∀p∈ts,(K w.params).lookup p=none)/\∃B:IU,(∀(s:A5) (u:A3),BindsTo s B ⟨[u],[]⟩ [(x,u)]) /\
    ∀base:IA,(K w.params).In base->base.Ns mainGlobals mg->(∀p∈ts,base.BuiltinsAt mg p)->IP l.prog w (K w.params) mg base I_ k r B [x] (sp w))
  (C:∀(w:H_) (H:Hp) (a:A4) (ns:A0 Int),ns.length<=n->(∀p∈ts,H p=some (.tbl #[]))->IG (K w.params) H a (ns.map V.int)->sp w [.ref a] H (fun v _=>v = .bl true) fun _ _ _=>False) :
  PySem.W.WalkO q e O t l.row.toRowW d [] (fun f vs=>PySem.call f vs):=by
 refine Att.OC P A fun w s₀ s₁ mg mb r o pm cd S a vs ns G Y ho hd U D m i c X=>?_;have L:=R w _ Y;obtain⟨Z,h2,B,hb,hF⟩:=F w mg r _ L G.T.g D;have E:∀p∈ts,s₁.heap.BuiltinsAt mg p:=fun p hp=>by
  obtain⟨bm,o,b1,b2,I,b4,b5,J⟩:=G.T.bmain;refine⟨bm,o,b1,b2,fun z=>?_,fun z=>?_,I,b4,b5,J⟩
  .obtain⟨o',es,ep,M,N,_⟩:=G.T.g;rw[<-z,I]at M;cases M;rw[J]at N;cases N
  .have:=j w _ Y p hp;rw[<-z,I]at this;cases this;cases J
 exact Sl (j w _ Y) Z E h2 L G.T.g G.T.b G.T.builtins G.T.nolimit X m i (Nat.le_trans c y) Q hF hb fun H hO hS=>C w H a ns c hO hS
section
variable{prog:F8}{w:H_}{A:II}{s:A5}{I:A4}{fp wr:A0 A4}{n:Nat}{P:Nat->A3->Prop}{St:Nat->IA->Prop}{R:Result->A5->Prop}
theorem Gg{id:String}{b:Builtin}{args:A0 A3}{d:A0 (Str×A3)}{Q E:A3->A5->Prop}(k:builtinKind id=none)(l:plainId id=true)(m:entryFor table id=some b)(n:argsOk id ⟨args,d⟩)
  (i:wpAny (model prog w) A.in1 (b ⟨args,d⟩) (fun fin a=>match fin with
   | .done f=>(match(Except.ok f:Result)with | .ok (.ret v)=>Q v a | .ok _=>False | .error e=>E e a)
   | .again j=>j.quiet=true/\codeAny (model prog w) A j (fun r a=>match r with | .ok (.ret v)=>Q v a | .ok _=>False | .error e=>E e a) a) E s) :
  wpAny (model prog w) A (call (.builtin id) args d) Q E s:=by
 refine wpAny_call (codeAny_call_builtin l m ?_);simp only[checkBuiltinCall,k];cases c:Manifest.signature? id with
 | none=>exact AE i
 | some g =>
  have h:Bind.checkArgs id g ⟨args,d⟩=pure ():=by simpa only[argsOk,c] using n
  simp only[h];exact AE i
end
def Cx.i1(X:Cx):Cx:={ X with A:=X.A.in1,xe:=fun _ _=>False }
section
variable{X:Cx}{pins:A0 (A4×Obj)}{σ:St}{H:Hp}{s:A5}
theorem Cx.Ok.i1(a:X.Ok):X.i1.Ok :=
 ⟨a.mod,a.kind,a.glob,a.blt,a.above,a.inj,a.has,a.cab,a.hd,a.frames,a.stk,a.exf,a.bs,a.bsz,a.noex,a.exfs,a.funs,a.frf⟩
theorem Cx.Ok.o1(a:X.i1.Ok):X.Ok :=
 ⟨a.mod,a.kind,a.glob,a.blt,a.above,a.inj,a.has,a.cab,a.hd,a.frames,a.stk,a.exf,a.bs,a.bsz,a.noex,a.exfs,a.funs,a.frf⟩
theorem Inv.i1(I:Inv X pins σ H s):Inv X.i1 pins σ H s:=⟨I.ok.i1,I.os,I.bare,I.base,I.loc,I.cell,I.free,I.freeC,I.pin,I.hok,I.len⟩
theorem Inv.o1(I:Inv X.i1 pins σ H s):Inv X pins σ H s:=⟨I.ok.o1,I.os,I.bare,I.base,I.loc,I.cell,I.free,I.freeC,I.pin,I.hok,I.len⟩
def M_(X:Cx)(pins:A0 (A4×Obj))(b:A4):Prop:=(b∈X.ex\/X.s₀.heap.objs.size<=b)/\(∀x c,X.env.cells.lookup x=some c->c≠b)/\∀p∈X.pn++pins,p.1≠b
theorem M_.turned{t':Nat}{a:A4}{h':IA}(o:M_ X pins a)(I:Inv X pins σ H s)(c:H a=none)(d:a≠X.env.locals)(k:∀b o,b≠a->s.heap.get? b=some o->h'.get? b=some o):Inv X pins σ H { s with heap:=h',toks:=t' } :=
 I.turned k c d o.1 o.2.1 o.2.2
end
def Ig(a:Nat->A0 Int):Nat->Nat
 | 0=>0
 | n+1=>if HT.lexLt (a (n+1)) (a (Ig a n))=true then n+1 else Ig a n
def Ol(a:Nat->A0 Int):∀n,Ig a n<=n
 | 0=>Nat.le_refl _
 | n+1=>by
  unfold Ig;split
  .exact Nat.le_refl _
  .exact Nat.le_succ_of_le (Ol a n)
section
variable{X:Cx}{pins:A0 (A4×Obj)}{σ:St}{l I S f:A4}{cs:A0 A4}{xs:A0 V}{kf:Nat->A0 Int}{G:Hp->Prop}{R:Result->A5->Prop}
def zDn(X:Cx)(cs:A0 A4)(σ:St)(f:A4)(xs:A0 V)(kf:Nat->A0 Int)(G:Hp->Prop):Prop:=∀(j:Nat) (x:V) (u:A3) (pins:A0 (A4×Obj)) (s:A5) (H:Hp),xs[j]?=some x->RelV x u->Inv X pins σ H s->G H ->
 wpAny (model X.prog X.w) X.A (call (.ref f) [u]) (EP X pins σ fun v b=>∃a,v = .ref a/\a∉cs/\Sm cs H b/\G b/\JM X.K b a ((kf j).map V.int)) X.xe s
theorem z9{X:Cx}{pins:A0 (A4×Obj)}{σ:St}{H:Hp}{s:A5}{S I:A4}{a oI:Obj}(J:Inv X ((S,a) ::(I,oI)::pins) σ H s) :
  (s.heap.get? S=some a/\H S=none/\S≠X.env.locals/\S∉X.fs/\∀v,a.data≠ .cell v)/\(s.heap.get? I=some oI/\H I=none/\I≠X.env.locals/\I∉X.fs/\∀v,oI.data≠ .cell v)/\Inv X pins σ H s :=
 ⟨J.pin (S,a) (BI _ (.head _)),J.pin (I,oI) (BI _ (.tail _ (.head _))),J.pins_of fun p b=>J.pin p (BI _ (.tail _ (.tail _ b)))⟩
theorem Uq{X:Cx}{pins:A0 (A4×Obj)}{σ:St}{H:Hp}{s:A5}{S I:A4}{a oI:Obj}(J:Inv X pins σ H s)(b:s.heap.get? S=some a/\H S=none/\S≠X.env.locals/\S∉X.fs/\∀v,a.data≠ .cell v)
  (c:s.heap.get? I=some oI/\H I=none/\I≠X.env.locals/\I∉X.fs/\∀v,oI.data≠ .cell v):Inv X ((S,a) ::(I,oI)::pins) σ H s:=J.pins_of fun p hp=>by
 rcases AU.mp hp with rfl | hp
 .exact b
 rcases AU.mp hp with rfl | hp
 .exact c
 exact J.pin p (BI _ hp)
theorem Op(hc:X.calm=true)(hu:X.A.units+1<cLine)(turn:zDn X.i1 cs σ f xs kf G)(hG:∀H,G H->IG X.K H l xs)(oI:M_ X pins I)(oS:M_ X pins S)(y:S≠I)(U:l≠I) :
  ∀(r j:Nat) (s:A5) (H:Hp) (P:A3) (b:A4) (c:Nat) (ob:Obj),xs.length-(j+1)=r->j+1<=xs.length->Inv X.i1 ((S,seqObj "list" #[P,.ref b] c) ::(I,ob)::pins) σ H s->s.heap.IsListIter I l (j+1) ->
   RelV (xs.getD (Ig kf j) .non) P->b∉cs->JM X.K H b ((kf (Ig kf j)).map V.int)->G H ->
   (∀u Q H',Inv X pins σ H' Q->RelV (xs.getD (Ig kf (xs.length-1)) .non) u->Sm cs H H'->G H'->R (.ok (.ret u)) Q) ->
   codeAny (model X.prog X.w) X.A (.builtin "min.loop" ⟨[.ref I,.ref f,.ref S],[]⟩) R s:=by
 have n:(toString "min" ++ toString ".loop":String) = "min.loop":=by decide
 intro r
 induction r with
 | zero =>
  intro j s H P b c ob hr hj J L rb nb x g hR;have ej:j=xs.length-1:=by omega
  obtain⟨D,E,Y⟩:=z9 J;obtain⟨m,rv,pl,hz⟩:=J.list (hG H g);have p:m.toArray.size=xs.length:=by rw[AS];exact rv.length.symm
  have W:=Walks.list (prog:=X.prog) (w:=X.w) (A:=X.A.in1) (show X.A.in1.handled=none from Y.o1.ok.hd hc) I l U m.toArray;refine DN PySem.F.entry_min_loop ?_;rw[Around.under_plainId PySem.F.plain_min_loop _];show wpAny _ X.A.in1 (seqItems? (.ref S) >>= _) _ _ _;refine AA (EV D.1 rfl ?_);show wpAny _ X.A.in1 (tryCatch (pyNext (.ref I)) _ >>= _) _ _ _;refine AA (FV (W.done _ _ _ ⟨by rw[p,show xs.length=j+1 by omega];exact L,pl.isList⟩ fun h' M q=>?_));have J1:Inv X.i1 pins σ H { s with heap:=h',toks:=M }:=M_.turned (X:=X.i1) oI Y E.2.1 E.2.2.1 fun b o x e=>q b o (by simpa using x) e;have hS':=q S _ (by simpa using y) D.1;show wpAny _ X.A.in1 (updateSeq S (fun _=>#[]) >>= _) _ _ _;refine AA ?_;refine EJ hS' rfl (AA (wpAny_letGo (AE ?_)));refine hR P _ H (M_.turned (X:=X.i1) oS J1 D.2.1 D.2.2.1 fun b o x e=>(BQ _ _ (Ne.symm x)).trans e).o1 (by rw[<-ej];exact rb) (Sm.refl _ _) g
 | succ r ih =>
  intro j s H P b c ob hr hj J L rb nb x g hR;have B:j+1<xs.length:=by omega
  obtain⟨D,E,Y⟩:=z9 J;obtain⟨m,rv,pl,hz⟩:=J.list (hG H g);have p:m.toArray.size=xs.length:=by rw[AS];exact rv.length.symm
  have W:=Walks.list (prog:=X.prog) (w:=X.w) (A:=X.A.in1) (show X.A.in1.handled=none from Y.o1.ok.hd hc) I l U m.toArray;refine DN PySem.F.entry_min_loop ?_;rw[Around.under_plainId PySem.F.plain_min_loop _];show wpAny _ X.A.in1 (seqItems? (.ref S) >>= _) _ _ _;refine AA (EV D.1 rfl ?_);show wpAny _ X.A.in1 (tryCatch (pyNext (.ref I)) _ >>= _) _ _ _;refine AA (FV (W.item (j+1) _ _ _ (by rw[p];exact B) ⟨L,pl.isList⟩ fun v h' M hP Z q=>?_));have hv:m[j+1]?=some v:=by simpa using hP
  have ex:xs[j+1]?=some xs[j+1]:=AC B;obtain⟨v',hv',rx⟩:=rv.get ex;rw[hv]at hv';cases hv';obtain⟨t,hob',hoc,N⟩:=id Z.1;have J1:Inv X.i1 pins σ H { s with heap:=h',toks:=M }:=M_.turned (X:=X.i1) oI Y E.2.1 E.2.2.1 fun b o x e=>q b o (by simpa using x) e;have J2:=Uq J1 (S:=S) (I:=I) (oI:=t) ⟨q S _ (by simpa using y) D.1,D.2⟩ ⟨hob',E.2.1,E.2.2.1,E.2.2.2.1,fun v z=>by rw[N]at z;cases z⟩;show wpAny _ X.A.in1 (tryCatch (holding [v] (call (.ref f) [v])) _ >>= _) _ _ _;refine AA (FV (BS (CK (turn (j+1) _ v _ _ _ ex rx J2 g) (fun u2 s2 he=>?_) fun _ _ hF=>False.elim hF)));obtain⟨v2,H2,J3,r2,a,rfl,na,sm,g2,ha⟩:=he;cases r2;have hb2:JM X.K H2 b ((kf (Ig kf j)).map V.int):=x.imp (fun h=>h.imp (fun e=>sm _ _ e nb) fun⟨o,e⟩=>⟨o,sm _ _ e nb⟩) id;show wpAny _ X.A.in1 (tryCatch (holding [v,.ref a] (richCompare .Lt (.ref a) (.ref b) >>= _)) _ >>= _) _ _ _;refine AA (FV (BS (AA (CK (zCt (X:=X.i1) hu _ s2 σ H2 (.ref a) (.ref b) (.ref a) (.ref b) (fun v H'=>v = .bl (HT.lexLt (kf (j+1)) (kf (Ig kf j)))/\H'=H2) J3 rfl rfl ⟨a,b,_,_,rfl,rfl,ha,hb2,rfl,rfl⟩) (fun u3 s3 he=>?_) fun _ _ hF=>False.elim hF))));obtain⟨v3,H3,J4,r3,rfl,rfl⟩:=he;cases r3;refine AA (BS (DG ?_));refine AA (wpAny_letGo (AE ?_));obtain⟨d,C,J5⟩:=z9 J4;have T:Ig kf (j+1)=if HT.lexLt (kf (j+1)) (kf (Ig kf j))=true then j+1 else Ig kf j:=rfl
  cases hb':HT.lexLt (kf (j+1)) (kf (Ig kf j))with
  | true =>
   rw[hb',AK rfl]at T;simp only[EZ];refine AA ?_;refine EJ d.1 rfl (AA (wpAny_letGo ?_));rw[n];have k:∀b o,b≠S->s3.heap.get? b=some o->(s3.heap.update S (Obj.mapSeq fun _=>#[v,.ref a])).get? b=some o:=fun b o x e=>(BQ _ _ (Ne.symm x)).trans e;have J6:=M_.turned (X:=X.i1) (t':=s3.toks) oS J5 d.2.1 d.2.2.1 k;obtain⟨c2,hc2⟩:∃c2,(s3.heap.update S (Obj.mapSeq fun _=>#[v,.ref a])).get? S=some (seqObj "list" #[v,.ref a] c2):=⟨_,get?_update_seq d.1 fun _=>#[v,.ref a]⟩;refine AE ⟨plainId_quiet PySem.F.plain_min_loop _,ih (j+1) _ H3 v a c2 t (by omega) B (Uq J6 ⟨hc2,d.2.1,d.2.2.1,d.2.2.2.1,fun v z=>by cases z⟩ ⟨k _ _ (Ne.symm y) C.1,C.2⟩) ⟨t,k _ _ (Ne.symm y) C.1,hoc,N⟩ ?_ na ?_ g2 fun u Q H' i r' O g'=>hR u Q H' i r' (sm.trans O) g'⟩
   .rw[T,AQ,ex];exact rx
   .rw[T];exact ha
  | false =>
   rw[hb',AJ (by simp)]at T;simp only[AW,CN];refine AA (wpAny_letGo ?_);rw[n];refine AE ⟨plainId_quiet PySem.F.plain_min_loop _,ih (j+1) _ H3 P b c t (by omega) B J4 ⟨t,C.1,hoc,N⟩ ?_ nb ?_ g2 fun u Q H' i r' O g'=>hR u Q H' i r' (sm.trans O) g'⟩
   .rw[T];exact rb
   .rw[T];exact hb2
theorem Ra(a v:A3):argsOk "min" ⟨[a],[("key",v)]⟩:=by unfold argsOk;kernel_rfl
theorem Rz{H:Hp}{s:A5}{Q:VK}(hc:X.calm=true)(hu:X.A.units+1<cLine)(turn:zDn X.i1 cs σ f xs kf G)(hG:∀H,G H->IG X.K H l xs)(J:Inv X pins σ H s)(g:G H)(hx:xs≠[])
  (h:∀H',Sm cs H H'->G H'->Q (xs.getD (Ig kf (xs.length-1)) .non) H'):wpAny (model X.prog X.w) X.A (call (.builtin "min") [.ref l] [("key",.ref f)]) (EP X pins σ Q) X.xe s:=by
 have j:(toString "min" ++ toString ".loop":String) = "min.loop":=by decide
 obtain⟨n,rv,pl,hz⟩:=J.list (hG H g);have t:=pl.isList;obtain⟨ol,U,_⟩:=id t;have V:l<s.heap.objs.size:=AI U;have E:n.toArray.size=xs.length:=by rw[AS];exact rv.length.symm
 have m:0<xs.length:=List.length_pos_iff.mpr hx;refine Gg PySem.F.kind_min PySem.F.plain_min PySem.F.entry_min (Ra _ _) ?_;show wpAny _ X.A.in1 (Builtin.Builtins.bindParams "min" ["key", "default"] 0 ⟨[],[("key",.ref f)]⟩ >>= _) _ _ s;refine AA (FZ (show Builtin.Builtins.bindParams "min" ["key", "default"] 0 ⟨[],[("key",.ref f)]⟩=pure [some (.ref f),none]from rfl) ?_);refine AA (AE ?_);refine AA (FO t ?_);refine AA (HV ?_ (CF _));rw[j];have hS:(s.heap.push { cls:=.type "list_iterator",data:=.fields #[.ref l,.int 0 0] }).objs.size=s.heap.objs.size+1:=DH ..;have d:(s.heap.push { cls:=.type "list_iterator",data:=.fields #[.ref l,.int 0 0] }).objs.size≠s.heap.objs.size:=by omega
 have x:l≠s.heap.objs.size:=BA V;have y:s.heap.objs.size<=(s.heap.push { cls:=.type "list_iterator",data:=.fields #[.ref l,.int 0 0] }).objs.size:=by omega
 have hle0:s.heap.objs.size<=s.heap.objs.size:=Nat.le_refl _;generalize Y:(s.heap.push { cls:=.type "list_iterator",data:=.fields #[.ref l,.int 0 0] }).objs.size=S at d y⊢;obtain⟨I,Z⟩:∃I,s.heap.objs.size=I:=⟨_,rfl⟩;rw[Z]at d x;have p:s.heap.objs.size<=I:=by omega
 rw[show(Value.ref s.heap.objs.size)=Value.ref I by rw[Z]];refine AE ⟨plainId_quiet PySem.F.plain_min_loop _,?_⟩;have kk:∀b o,s.heap.get? b=some o->((s.heap.push { cls:=.type "list_iterator",data:=.fields #[.ref l,.int 0 0] }).push (seqObj "list" #[] 0)).get? b=some o:=fun b o e=>AD _ (AD _ e);have gI:((s.heap.push { cls:=.type "list_iterator",data:=.fields #[.ref l,.int 0 0] }).push (seqObj "list" #[] 0)).get? I=some { cls:=.type "list_iterator",data:=.fields #[.ref l,.int 0 0] } :=
  Z▸AD _ (AN _ rfl)
 have gS:((s.heap.push { cls:=.type "list_iterator",data:=.fields #[.ref l,.int 0 0] }).push (seqObj "list" #[] 0)).get? S=some (seqObj "list" #[] 0):=Y▸AN _ rfl;have q:=J.fpOk (H':=H) (b:=I) p (J.hok.fresh p);have D:=J.fpOk (H':=H) (b:=S) y (J.hok.fresh y);have oI:M_ X pins I:=⟨q.2.2.2.1,q.2.2.2.2.1,q.2.2.2.2.2⟩;have oS:M_ X pins S:=⟨D.2.2.2.1,D.2.2.2.2.1,D.2.2.2.2.2⟩;have W:=Walks.list (prog:=X.prog) (w:=X.w) (A:=X.A.in1) (show X.A.in1.handled=none from J.ok.hd hc) I l x n.toArray;have J0:=(J.kept (t':=s.toks) kk).i1;have L:((s.heap.push { cls:=.type "list_iterator",data:=.fields #[.ref l,.int 0 0] }).push (seqObj "list" #[] 0)).IsList l n.toArray:=by
  obtain⟨o,e,r⟩:=t;exact⟨o,kk _ _ e,r⟩
 refine DN PySem.F.entry_min_loop ?_;rw[Around.under_plainId PySem.F.plain_min_loop _];show wpAny _ X.A.in1 (seqItems? (.ref S) >>= _) _ _ _;refine AA (EV gS rfl ?_);show wpAny _ X.A.in1 (tryCatch (pyNext (.ref I)) _ >>= _) _ _ _;refine AA (FV (W.item 0 _ _ _ (by rw[E];exact m) ⟨⟨_,gI,rfl,rfl⟩,L⟩ fun v h' tk' hP M N=>?_));have hv:n[0]?=some v:=by simpa using hP
 have ex:xs[0]?=some xs[0]:=AC m;obtain⟨v',O,rx⟩:=rv.get ex;rw[hv]at O;cases O;obtain⟨B,P,hoc,R⟩:=id M.1;have J1:=M_.turned (X:=X.i1) (h':=h') (t':=tk') oI J0 q.1 q.2.1 fun b o hb e=>N b o (by simpa using hb) e;have J2:=Uq J1 (S:=S) (I:=I) (oI:=B) ⟨N S _ (by simpa using d) gS,D.1,D.2.1,D.2.2.1,fun v z=>by cases z⟩ ⟨P,q.1,q.2.1,q.2.2.1,fun v z=>by rw[R]at z;cases z⟩;show wpAny _ X.A.in1 (tryCatch (holding [v] (call (.ref f) [v])) _ >>= _) _ _ _;refine AA (FV (BS (CK (turn 0 _ v _ _ _ ex rx J2 g) (fun u2 T he=>?_) fun _ _ hF=>False.elim hF)));obtain⟨v2,H2,J3,r2,a,rfl,na,sm,g2,ha⟩:=he;cases r2;obtain⟨c,C,J5⟩:=z9 J3;show wpAny _ X.A.in1 (updateSeq S (fun _=>#[v,.ref a]) >>= _) _ _ _;refine AA ?_;refine EJ c.1 rfl ?_;rw[j];have k:∀b o,b≠S->T.heap.get? b=some o->(T.heap.update S (Obj.mapSeq fun _=>#[v,.ref a])).get? b=some o:=fun b o hb e=>(BQ _ _ (Ne.symm hb)).trans e;have J6:=M_.turned (X:=X.i1) (t':=T.toks) oS J5 c.2.1 c.2.2.1 k;obtain⟨c2,hc2⟩:∃c2,(T.heap.update S (Obj.mapSeq fun _=>#[v,.ref a])).get? S=some (seqObj "list" #[v,.ref a] c2):=⟨_,get?_update_seq c.1 fun _=>#[v,.ref a]⟩;refine AE ⟨plainId_quiet PySem.F.plain_min_loop _,Op hc hu turn hG oI oS d x _ 0 _ H2 v a c2 B rfl m (Uq J6 ⟨hc2,c.2.1,c.2.2.1,c.2.2.2.1,fun v z=>by cases z⟩ ⟨k _ _ (Ne.symm d) C.1,C.2⟩) ⟨B,k _ _ (Ne.symm d) C.1,hoc,R⟩ ?_ na ha g2 fun u s' H' i r' sm' g'=>⟨_,H',i,r',h H' (sm.trans sm') g'⟩⟩;show RelV (xs.getD 0 .non) v;rw[AQ,ex];exact rx
end
def QV(X:Cx)(k:Nat)(cs:A0 A4)(σ:St)(f:A4)(xs:A0 V)(h:Nat->A0 Int)(G:Hp->Prop):Prop:=∀b:IA,MF X b σ->X.K.In b->∃(d:IU) (e:A0 Str) (g:Sp),IP X.prog X.w X.K X.mg b I_ k f d e g/\Binds X.K d e [] /\
 ∀(j:Nat) (x:V) (H:Hp),xs[j]?=some x->G H->g [x] H (fun v c=>∃a,v = .ref a/\a∉cs/\Sm cs H c/\G c/\JM X.K c a ((h j).map V.int)) E0
def zEp(X:Cx)(k:Nat)(h:TA)(i:TE):TE:=fun σ H Q=>h σ H fun j m=>i σ m fun d c=>∃(l f:A4) (e:A0 A4) (a:A0 V) (g:Nat->A0 Int) (G:Hp->Prop),j = [.ref l]/\d = .ref f/\a≠[]/\G c/\(∀H,G H->IG X.K H l a)/\QV X k e σ f a g G /\
 ∀b,Sm e c b->G b->Q (a.getD (Ig g (a.length-1)) .non) b
section
variable{X:Cx}{k:Nat}{e ed:IH}{ta:TA}{td:TE}{p kp pos:Pos}
theorem QV.keyR{cs:A0 A4}{σ:St}{f:A4}{xs:A0 V}{l:Nat->A0 Int}{G:Hp->Prop}(h:QV X k cs σ f xs l G)(n:∀x,X.fn x=true)(d:JF (k+1) X.A):zDn X.i1 cs σ f xs l G:=by
 intro j x u m s H o p I g;have cs:MF X.i1 (Bu X.i1 s.heap) σ:=I.wcells n;obtain⟨y,q,z,F,c,t⟩:=h (Bu X.i1 s.heap) ⟨cs.val,cs.inj,cs.has⟩ I.wmod.kin;have a:=t j x H o g;have r:IK [x] [u]:=.cons p .nil;have v:[u].length=q.length:=by rw[<-r.length];exact F.len _ _ _ _ a
 have c:=c s [u] I.kIn (by rw[CJ];exact v);rw[CJ]at c;have i:JF k X.A.in1:=⟨d.hd,by have:=d.dp;show X.A.depth+3*k+5<_;omega,by have:=d.un;show X.A.units+1+16*k+200<_;omega⟩;refine wpAny_call (GO (F.run X.A.in1 X.stack s H ⟨[u],[]⟩ [u] [x] _ E0 i I.wenv c r a) fun r B b=>?_);cases r with
 | error e=>exact b.elim
 | ok w =>
  cases w with
  | ret u=>exact I.after b
  | next=>exact False.elim b
  | brk=>exact False.elim b
  | cont=>exact False.elim b
theorem Yn(d:∀x,X.fn x=true)(b:JF (k+1) X.A)(i:X.mg "min" = none)(j:PA X [e] ta)(m:PE X ed td)(n:X.calm=true:=by rfl)(o:Gl X "min":=by rfl)
  (c:starEach [e] X.env = [(false,eval e X.env)]:=by rfl):PE X (.Call (.Name "min" p) [e] [⟨some "key",ed,kp⟩] pos) (zEp X k ta td):=by
 intro a s σ H Q I h;refine D_ (Z8 I o i Wo ?_ (by decide) (by decide));refine callWith_kw (IY (j pos a s σ H _ I h) fun L q ⟨M,r,t,v,w⟩=>kws_cons (IY (m a q σ r _ t w) fun N O ⟨P,R,y,z,l,f,S,T,U,G,B,C,D,g,E,F,J⟩=>kws_nil ?_)) (by rw[c];rfl) (by rw[c];rfl);subst B C;obtain⟨u,rfl,K⟩:=V8 v;cases K;cases z;have:=b.un;exact Rz n (by omega) (F.keyR d b) E y g D J
end
end L2
namespace TS
open PySem
section
variable{prog:F8}{w:H_}{A:II}{E:A3->A5->Prop}{s:A5}
theorem Jy{a:A4}{Q:A6 Obj->A5->Prop}(h:Q (s.heap.get? a) s):wpAny (model prog w) A (loadIfAlive a) Q E s:=fun Γ p _=>(Sem.wp_loadIfAlive (M:=model prog w) (Γ:=Γ) (a:=a) ..).mpr h
abbrev MQ(h:IA)(z TI TO:A4)(a:A3)(b:Bool):Prop :=
 h.get? z=some { cls:=.type "zip",dict:=none,data:=.fields #[a,.bool b,.bool false,.ref TI,.ref TO],slots:=#[] }
theorem Mj{z TI TO T:A4}{b:Bool}{o:Obj}{Q:Bool->A5->Prop}(hz:MQ s.heap z TI TO (rawInt T) b)(c:s.heap.get? T=some o)
  (a:∀h',MQ h' z TI TO (rawInt T) true->Heap.SameBut z s.heap h'->Q false { s with heap:=h' }):wpAny (model prog w) A (Builtin.SmallTypes.ownedTupleIsFree (.ref z)) Q E s:=by
 unfold Builtin.SmallTypes.ownedTupleIsFree;refine AA (HX hz rfl (x:=rawInt T) rfl ?_);show wpAny _ _ (loadIfAlive T >>= _) _ _ _;refine AA (Jy ?_);rw[c];show wpAny _ _ (field (.ref z) 1 >>= _) _ _ _;refine AA (HX hz rfl (x:=.bool b) rfl ?_);cases b with
 | true=>exact AE (a s.heap hz ⟨rfl,fun _ _=>rfl⟩)
 | false =>
  show wpAny _ _ (setField (.ref z) 1 (.bool true) >>= _) _ _ _;refine AA (wpAny_setField_rec hz (by simp) fun h₁ hz₁ d₁=>?_);exact AE (a h₁ hz₁ d₁)
theorem Ot{z TI TO d f i l2 T:A4}{b:Bool}{o:Obj}{j k:Nat}{xs p:CM A3}{x y:A3}{Q:A3->A5->Prop}(D:ZipApart z TI TO d f i l2)
  (hz:MQ s.heap z TI TO (rawInt T) b) (r:s.heap.get? T=some o) (l:IsPair s.heap TI (.ref d) (.ref f))
  (h1:s.heap.IsListIter d i j) (h2:s.heap.IsListIter f l2 k) (m:s.heap.IsList i xs) (n:s.heap.IsList l2 p) (t:xs[j]?=some x) (u:p[k]?=some y)
  (B:∀h',MQ h' z TI TO (rawInt T) true->h'.IsListIter d i (j+1)->h'.IsListIter f l2 (k+1)->IsPair h' s.heap.objs.size x y->h'.objs.size=s.heap.objs.size+1 ->
   (∀c o,c≠z->c≠d->c≠f->s.heap.get? c=some o->h'.get? c=some o)->Q (.ref s.heap.objs.size) { s with heap:=h' }) :
  wpAny (model prog w) A (Builtin.«zip.__next__» ⟨[.ref z],[]⟩) (fun fin C=>∃v,fin = .done (.ret v)/\Q v C) E s:=by
 show wpAny _ _ (field (.ref z) 2 >>= _) _ _ _;refine AA (HX hz rfl (x:=.bool false) rfl ?_);show wpAny _ _ (field (.ref z) 3 >>= _) _ _ _;refine AA (HX hz rfl (x:=.ref TI) rfl ?_);refine AA (EV l rfl ?_);show wpAny _ _ (Builtin.SmallTypes.ownedTupleIsFree (.ref z) >>= _) _ _ _;refine AA (Mj hz r fun h₁ hz₁ a₁=>?_);show wpAny _ _ (forIn (#[Value.ref d,.ref f]) _ _ >>= _) _ _ _;refine AA ?_;simp only[<-HA,List.forIn_cons,List.forIn_nil];refine AA (AA (BS ?_));show wpAny _ _ (Builtin.SmallTypes.nextOf (.ref d) >>= _) _ _ _;refine AA (HK (h1.extBut a₁.extBut D.i1z) (m.extBut a₁.extBut D.l1z) t fun h₂ h1₂ a₂=>AE (AE ?_));refine AA (AA (BS ?_));show wpAny _ _ (Builtin.SmallTypes.nextOf (.ref f) >>= _) _ _ _;refine AA (HK ((h2.extBut a₁.extBut D.i2z).extBut a₂.extBut D.i12.symm) ((n.extBut a₁.extBut D.l2z).extBut a₂.extBut D.l2i1) u fun h₃ h2₃ a₃=>AE (AE (AE ?_)));show wpAny _ _ (newTuple [x,y] >>= _) _ _ _;refine AA (wpAny_newTuple ?_);have g:h₃.objs.size=s.heap.objs.size:=by rw[a₃.1,a₂.1,a₁.1]
 refine AE ⟨_,rfl,?_⟩;show Q (.ref h₃.objs.size) _;have F:∀c o,c≠z->c≠d->c≠f->s.heap.get? c=some o->(h₃.push { cls:=.type "tuple",data:=.seq #[x,y] }).get? c=some o:=fun c o G H I e=>AD _ (a₃.extBut _ _ I (a₂.extBut _ _ H (a₁.extBut _ _ G e)));have q:=B (h₃.push { cls:=.type "tuple",data:=.seq #[x,y] }) (AD _ (a₃.extBut _ _ D.i2z.symm (a₂.extBut _ _ D.i1z.symm hz₁)))
  (((h1₂.extBut a₃.extBut D.i12)).at fun o e=>AD _ e) (h2₃.at fun o e=>AD _ e) (by rw[<-g];exact AN _ rfl) (by rw[DH,g]) F
 rw[g];exact q
theorem Dy{z TI TO d f j l2 T:A4}{b:Bool}{o:Obj}{k l:Nat}{xs m:CM A3}{Q:PySem.Fin->A5->Prop}(v:A.handled=none)(D:ZipApart z TI TO d f j l2)
  (hz:MQ s.heap z TI TO (rawInt T) b) (B:s.heap.get? T=some o) (n:IsPair s.heap TI (.ref d) (.ref f))
  (h1:s.heap.IsListIter d j k) (h2:s.heap.IsListIter f l2 l) (g:s.heap.IsList j xs) (p:s.heap.IsList l2 m) (i:xs[k]?=none\/m[l]?=none)
  (y:∀h' e,(∀c o,c≠z->c≠d->c≠f->s.heap.get? c=some o->h'.get? c=some o)->(∃o,h'.get? e=some o/\o.cls = .type "StopIteration")->E (.ref e) { s with heap:=h' }) :
  wpAny (model prog w) A (Builtin.«zip.__next__» ⟨[.ref z],[]⟩) Q E s:=by
 show wpAny _ _ (field (.ref z) 2 >>= _) _ _ _;refine AA (HX hz rfl (x:=.bool false) rfl ?_);show wpAny _ _ (field (.ref z) 3 >>= _) _ _ _;refine AA (HX hz rfl (x:=.ref TI) rfl ?_);refine AA (EV n rfl ?_);show wpAny _ _ (Builtin.SmallTypes.ownedTupleIsFree (.ref z) >>= _) _ _ _;refine AA (Mj hz B fun h₁ hz₁ a₁=>?_);show wpAny _ _ (forIn (#[Value.ref d,.ref f]) _ _ >>= _) _ _ _;refine AA ?_;simp only[<-HA,List.forIn_cons,List.forIn_nil];refine AA (AA (BS ?_));show wpAny _ _ (Builtin.SmallTypes.nextOf (.ref d) >>= _) _ _ _;cases q:xs[k]? with
 | none =>
  exact AA (wpAny_nextOf_list_end v (h1.extBut a₁.extBut D.i1z) (g.extBut a₁.extBut D.l1z) q fun h₂ e a₂ r=>y h₂ e (fun c o t u _ x=>a₂ _ _ u (a₁.extBut _ _ t x)) r)
 | some x =>
  have C:m[l]?=none:=by rcases i with h | h;rw[q]at h;cases h;exact h
  refine AA (HK (h1.extBut a₁.extBut D.i1z) (g.extBut a₁.extBut D.l1z) q fun h₂ h1₂ a₂=>AE (AE ?_));refine AA (AA (BS ?_));show wpAny _ _ (Builtin.SmallTypes.nextOf (.ref f) >>= _) _ _ _;exact AA (wpAny_nextOf_list_end v ((h2.extBut a₁.extBut D.i2z).extBut a₂.extBut D.i12.symm) ((p.extBut a₁.extBut D.l2z).extBut a₂.extBut D.l2i1) C fun h₃ e a₃ r=>y h₃ e (fun c o t u F x=>a₃ _ _ F (a₂.extBut _ _ u (a₁.extBut _ _ t x))) r)
structure QK(z TI TO i1 i2 l1 l2:A4)(xs ys:CM A3)(i:Nat)(h:IA):Prop where
 own:(IsZip h z TI TO .none/\∃a b,IsPair h TO a b)\/∃(T:A4) (b:Bool) (o:Obj),MQ h z TI TO (rawInt T) b/\h.get? T=some o/\T≠z
 ti:IsPair h TI (.ref i1) (.ref i2)
 a1:h.IsListIter i1 l1 i
 a2:h.IsListIter i2 l2 i
 h1:h.IsList l1 xs
 h2:h.IsList l2 ys
theorem QK.at{z TI TO d f g l2 S:A4}{xs l:CM A3}{i:Nat}{h h':IA}(x:QK z TI TO d f g l2 xs l i h)(k:∀b o,b≠S->h.get? b=some o->h'.get? b=some o)(q:∃o,h'.get? S=some o)(n:S≠z/\S≠TI/\S≠TO/\S≠d/\S≠f/\S≠g/\S≠l2):QK z TI TO d f g l2 xs l i h':=by
 obtain⟨j,r,s,t,u,v,w⟩:=n;refine⟨?_,k _ _ r.symm x.ti,x.a1.at fun o e=>k _ o t.symm e,x.a2.at fun o e=>k _ o u.symm e,x.h1.at fun o e=>k _ o v.symm e,x.h2.at fun o e=>k _ o w.symm e⟩;rcases x.own with⟨e,a,b,p⟩ | ⟨T,b,o,e,y,m⟩
 .exact .inl ⟨k _ _ j.symm e,a,b,k _ _ s.symm p⟩
 .by_cases c:T=S
  .obtain⟨A,B⟩:=q;exact .inr ⟨T,b,A,k _ _ j.symm e,by rw[c];exact B,m⟩
  .exact .inr ⟨T,b,o,k _ _ j.symm e,k _ _ c y,m⟩
theorem zEg{z TI TO d f j l2:A4}{xs l:CM A3}{i:Nat}{x y:A3}{Q:A6 A3->A5->Prop}(D:ZipApart z TI TO d f j l2)(st:QK z TI TO d f j l2 xs l i s.heap)(K:xs[i]?=some x)(L:l[i]?=some y)
  (M:∀h',QK z TI TO d f j l2 xs l (i+1) h'->IsPair h' s.heap.objs.size x y->h'.objs.size=s.heap.objs.size+1->(∀c o,c≠z->c≠TO->c≠d->c≠f->s.heap.get? c=some o->h'.get? c=some o)->Q (some (.ref s.heap.objs.size)) { s with heap:=h' }) :
  wpAny (model prog w) A (pyNext (.ref z)) Q E s:=by
 have N:∀{h':IA},(∀c o,c≠z->c≠TO->c≠d->c≠f->s.heap.get? c=some o->h'.get? c=some o)->h'.IsList j xs/\h'.IsList l2 l/\IsPair h' TI (.ref d) (.ref f):=fun k =>
  ⟨st.h1.at fun o e=>k _ o D.l1z D.l1TO D.l1i1 D.l1i2 e,st.h2.at fun o e=>k _ o D.l2z D.l2TO D.l2i1 D.l2i2 e,k _ _ D.TIz D.TITO D.TIi1 D.TIi2 st.ti⟩
 rcases st.own with⟨e,a,b,p⟩ | ⟨T,b,o,e,v,m⟩
 .have O:=(BA (AI e)).symm;refine wpAny_pyNext_zip_item D e st.ti p st.a1 st.a2 st.h1 st.h2 K L fun h' g S n q r B k=>?_;obtain⟨C,G,H⟩:=N k;exact M h' ⟨.inr ⟨_,false,_,g,r,O⟩,H,n,q,C,G⟩ r B k
 .have h:s.TypeIs (.ref z) "zip":=⟨_,e,rfl⟩;have O:=(BA (AI e)).symm;have U:=AI v;unfold pyNext;refine AA (HU (FX (name:=Str.ofString "__next__") h F.slot_zip_next (EC F.slot_zip_next h F.entry_zip_next
   (Ot D e v st.ti st.a1 st.a2 st.h1 st.h2 K L fun h' g n q r B k=>AE ?_) (F.args_zip_next_1 _))))
  have P:∀c o,c≠z->c≠TO->c≠d->c≠f->s.heap.get? c=some o->h'.get? c=some o:=fun c o R _ t u x=>k c o R t u x;obtain⟨C,G,H⟩:=N P;refine M h' ⟨.inr ?_,H,n,q,C,G⟩ r B P;by_cases t:T=d
  .obtain⟨I,J,_⟩:=n;exact⟨T,true,I,g,by rw[t];exact J,m⟩
  by_cases u:T=f
  .obtain⟨I,J,_⟩:=q;exact⟨T,true,I,g,by rw[u];exact J,m⟩
  exact⟨T,true,o,g,k _ _ m t u v,m⟩
theorem zFp{z TI TO g h j l2:A4}{xs l:CM A3}{i:Nat}{Q:A6 A3->A5->Prop}(m:A.handled=none)(D:ZipApart z TI TO g h j l2)(st:QK z TI TO g h j l2 xs l i s.heap)(d:xs[i]?=none\/l[i]?=none)
  (n:∀h',(∀c o,c≠z->c≠TO->c≠g->c≠h->s.heap.get? c=some o->h'.get? c=some o)->Q none { s with heap:=h' }) :
  wpAny (model prog w) A (pyNext (.ref z)) Q E s:=by
 rcases st.own with⟨e,a,b,p⟩ | ⟨T,b,o,e,q,G⟩
 .exact wpAny_pyNext_zip_end m D e st.ti p st.a1 st.a2 st.h1 st.h2 d n
 .have f:s.TypeIs (.ref z) "zip":=⟨_,e,rfl⟩;unfold pyNext;refine AA (HU (FX (name:=Str.ofString "__next__") f F.slot_zip_next (EC F.slot_zip_next f F.entry_zip_next
   (Dy m D e q st.ti st.a1 st.a2 st.h1 st.h2 d fun h' H k r=>?_) (F.args_zip_next_1 _))))
  obtain⟨t,u,v⟩:=r;refine AA (HQ (T := "StopIteration") (b:=true) ⟨t,u,v⟩ isSubtype_stop ?_);exact AE (n _ fun c o y _ B C x=>k c o y B C x)
structure PSt(base:Nat)(xs ys:CM A3)(acc:CM A3)(i:Nat)(h:IA)(ps:A0 (A4×A3×A3)):Prop where
 len:ps.length=i
 acc:acc.toList=ps.map fun p=>Value.ref p.1
 get:∀(j:Nat) (p:A4×A3×A3),ps[j]?=some p->xs[j]?=some p.2.1/\ys[j]?=some p.2.2
 at_:∀p∈ps,base<=p.1/\IsPair h p.1 p.2.1 p.2.2
 nd:(ps.map fun p=>p.1).Nodup
theorem zEk{R:Result->A5->Prop}{z TI TO C E T l2 S:A4}{xs q:CM A3}{base:Nat}(hh:A.handled=none)(D:ZipApart z TI TO C E T l2)(n:S≠z/\S≠TI/\S≠TO/\S≠C/\S≠E/\S≠T/\S≠l2)(lt:S<base/\z<base/\TO<base/\C<base/\E<base){m:Nat}(m1:m<=xs.size)(m2:m<=q.size)(me:xs[m]?=none\/q[m]?=none)(hn:m<=sizeLine)(res:A3) :
  ∀(k i:Nat) (s:A5) (d:CM A3) (c:Nat) (G:A0 (A4×A3×A3)),m-i=k->i<=m->QK z TI TO C E T l2 xs q i s.heap->s.heap.get? S=some { cls:=.type "list",dict:=none,data:=.seq d c,slots:=#[] }->base<=s.heap.objs.size->PSt base xs q d i s.heap G ->
  (∀h' U g V t,(∀b o,b<base->b≠S->b≠z->b≠TO->b≠C->b≠E->s.heap.get? b=some o->h'.get? b=some o)->h'.get? S=some { cls:=.type "list",dict:=none,data:=.seq g V,slots:=#[] }->PSt base xs q g m h' t->R (.ok (.ret res)) { s with heap:=h',toks:=U }) ->
  codeAny (model prog w) A (.builtin "list.extend.loop" ⟨[.ref S,.ref z,res],[]⟩) R s:=by
 obtain⟨n1,n2,n3,n4,n5,n6,n7⟩:=id n;obtain⟨t1,t2,t3,t4,t5⟩:=lt;have l:∀{a b:Nat},base<=a->b<base->a≠b:=fun{a b} u P=>(BA (BE P u)).symm;intro k
 induction k with
 | zero =>
  intro i s d c G hk hi v W H f X;have Y:i=m:=by omega
  subst Y;refine DN F.entry_extend_loop ?_;rw[Around.under_plainId F.plain_extend_loop _];show wpAny _ A.in1 (pyNext (.ref z) >>= _) _ _ s;refine AA (zFp hh D v me fun h' k=>?_);refine AE (X h' s.toks d c G (fun b o _ _ I J K L e=>k b o I J K L e) (k _ _ n1 n3 n4 n5 W) ⟨f.len,f.acc,f.get,fun p hp=>?_,f.nd⟩);obtain⟨h,Z⟩:=f.at_ p hp;exact⟨h,k _ _ (l h t2) (l h t3) (l h t4) (l h t5) Z⟩
 | succ k ih =>
  intro i s d c G hk hi v W H f X;have hlt:i<m:=by omega
  have hx:xs[i]?=some (xs[i]'(by omega)):=Array.getElem?_eq_getElem _;have hy:q[i]?=some (q[i]'(by omega)):=Array.getElem?_eq_getElem _;generalize (xs[i]'(by omega))=x at hx;generalize (q[i]'(by omega))=y at hy;refine DN F.entry_extend_loop ?_;rw[Around.under_plainId F.plain_extend_loop _];show wpAny _ A.in1 (pyNext (.ref z) >>= _) _ _ s;refine AA (zEg D v hx hy fun u st1 pr hsz k1=>?_);have M:=k1 _ _ n1 n3 n4 n5 W;show wpAny _ A.in1 (updateSeq S (·.push (.ref s.heap.objs.size)) >>= _) _ _ _;refine AA ?_;have N:d.size=i:=by have:=congrArg List.length f.acc;rw[AB,f.len,AL]at this;exact this
  refine EJ M rfl (AE ⟨plainId_quiet F.plain_extend_loop _,?_⟩) (by rw[N];omega) (by show(d.push (Value.ref s.heap.objs.size)).size<=sizeLine+1;rw[Array.size_push,N];omega);have B:=CD (Obj.mapSeq (·.push (.ref s.heap.objs.size))) M rfl;have Q:∀b o,b≠S->u.get? b=some o->(u.update S (Obj.mapSeq (·.push (.ref s.heap.objs.size)))).get? b=some o:=fun b o H e=>(BQ _ _ (Ne.symm H)).trans e;have r:(u.update S (Obj.mapSeq (·.push (.ref s.heap.objs.size)))).objs.size=u.objs.size:=(CV ..).1;generalize u.update S (Obj.mapSeq (·.push (.ref s.heap.objs.size)))=P at B Q r⊢;have O:∀b o,b≠S->b≠z->b≠TO->b≠C->b≠E->s.heap.get? b=some o->P.get? b=some o:=fun b o b0 I J K L e=>Q b o b0 (k1 b o I J K L e);refine ih (i+1) _ (d.push (.ref s.heap.objs.size)) _ (G ++ [(s.heap.objs.size,x,y)]) (by omega) hlt (st1.at Q ⟨_,B⟩ n) B (by show base<=P.objs.size;rw[r,hsz];exact Nat.le_succ_of_le H) ⟨by rw[AV,f.len];rfl,by rw[DB,f.acc,AO];rfl,fun j p e=>?_,fun p hp=>?_,?_⟩ fun h' U g V t kk hS' hP'=>?_
  .rcases Nat.lt_or_ge j G.length with c | c
   .rw[DR c]at e;exact f.get j p e
   .rw[DM c]at e;have:j=i:=by have:=(AG.mp e).1;rw[f.len]at this c;simp at this;omega
    subst this;rw[f.len,Nat.sub_self]at e;cases e;exact⟨hx,hy⟩
  .rcases A_.mp hp with hp | hp
   .obtain⟨h,Z⟩:=f.at_ p hp;exact⟨h,O _ _ (l h t1) (l h t2) (l h t3) (l h t4) (l h t5) Z⟩
   .rw[AF.mp hp];exact⟨H,Q _ _ (l H t1) pr⟩
  .rw[AO,DX];refine⟨f.nd,CL.mpr ⟨BX,FY⟩,fun a ha b hb'=>?_⟩;obtain⟨p,hp,rfl⟩:=AR.mp ha;have:=AI (f.at_ p hp).2;rw[AF.mp hb'];exact BA this
  .exact X h' U g V t (fun b o b0 I J K L b5 e=>kk b o b0 I J K L b5 (O b o I J K L b5 e)) hS' hP'
theorem Nt:typeLookup (.type "zip") "__len__" = pure none:=by rw[typeLookup_type,builtinLookup_eq_fast];kernel_rfl
theorem Je:typeLookup (.type "zip") "__length_hint__" = pure none:=by rw[typeLookup_type,builtinLookup_eq_fast];kernel_rfl
theorem Tq{z:A4}{Q:Bool->A5->Prop}(a:s.TypeIs (.ref z) "zip")(h:Q true s):wpAny (model prog w) A (Builtin.List.listLengthHint (.ref z)) Q E s:=by
 unfold Builtin.List.listLengthHint;refine AA (GF a Nt ?_);show wpAny _ A (specialOf (Value.ref z) (Str.ofString "__length_hint__") >>= _) _ _ _;refine AA (GF a Je ?_);exact AE h
theorem NM{Q:A3->A5->Prop}{z TI TO u v B l2:A4}{xs C:CM A3}(hh:A.handled=none)(D:ZipApart z TI TO u v B l2)(hz:IsZip s.heap z TI TO .none)(G:IsPair s.heap TO .none .none)(H:IsPair s.heap TI (.ref u) (.ref v))(Y:s.heap.IsListIter u B 0)(Z:s.heap.IsListIter v l2 0)(h1:s.heap.IsList B xs)(h2:s.heap.IsList l2 C){m:Nat}(m1:m<=xs.size)(m2:m<=C.size)(me:xs[m]?=none\/C[m]?=none)(hn:m<=sizeLine)
  (hQ:∀h' x a P i,(∀b o,b≠z->b≠TO->b≠u->b≠v->s.heap.get? b=some o->h'.get? b=some o) ->
   h'.get? s.heap.objs.size=some { cls:=.type "list",dict:=none,data:=.seq a P,slots:=#[] }->PSt (s.heap.objs.size+1) xs C a m h' i->Q (.ref s.heap.objs.size) { s with heap:=h',toks:=x }) :
  wpAny (model prog w) A (call (.type "list") [.ref z]) Q E s:=by
 have I:=AI hz;have k:=AI G;have J:=AI H;have l:u<s.heap.objs.size:=by obtain⟨_,e,_⟩:=Y;exact AI e
 have n:v<s.heap.objs.size:=by obtain⟨_,e,_⟩:=Z;exact AI e
 have K:B<s.heap.objs.size:=by obtain⟨_,e,_⟩:=h1;exact AI e
 have L:l2<s.heap.objs.size:=by obtain⟨_,e,_⟩:=h2;exact AI e
 have d:∀{b:Nat},b<s.heap.objs.size->s.heap.objs.size≠b:=fun h=>(BA h).symm;refine callType_codes (Q₁:=fun M s₁=>M = .ref s.heap.objs.size/\s₁ ={ s with heap:=s.heap.push { cls:=.type "list",data:=.seq #[] } }) F.called_list (F.typeCall_list_1 _) F.entry_list_init
  (code_list_new _ ⟨rfl,rfl⟩) fun M s₁ h₁=>?_
 obtain⟨rfl,rfl⟩:=h₁;have f:(s.heap.push { cls:=.type "list",data:=.seq #[] }).get? s.heap.objs.size=some { cls:=.type "list",data:=.seq #[] }:=AN _ rfl;refine⟨⟨_,f,rfl⟩,F.args_list_init_2 _ _,?_⟩;have k1:∀b o,s.heap.get? b=some o->(s.heap.push { cls:=.type "list",data:=.seq #[] }).get? b=some o:=fun b o e=>AD _ e;have R:(s.heap.push { cls:=.type "list",data:=.seq #[] }).objs.size=s.heap.objs.size+1:=DH ..;show wpAny _ _ (do let S <-Builtin.List.listItems (.ref s.heap.objs.size);Builtin.List.listUpdate (.ref s.heap.objs.size) (fun _=>#[]);letGo S.toList.reverse;Builtin.List.listExtendWith (.ref s.heap.objs.size) (.ref z) .none) _ _ _;refine AA ?_;unfold Builtin.List.listItems;refine AA (EV f rfl (AE ?_));show wpAny _ _ (updateSeq s.heap.objs.size (fun _=>#[]) >>= fun _=>letGo (#[]:CM A3).toList.reverse >>= fun _=>Builtin.List.listExtendWith (.ref s.heap.objs.size) (.ref z) .none) _ _ _;refine AA (EJ f rfl ?_);have f₂:=CD (Obj.mapSeq (fun _=>(#[]:CM A3))) f rfl;have O:∀b o,b≠s.heap.objs.size->s.heap.get? b=some o->((s.heap.push { cls:=.type "list",data:=.seq #[] }).update s.heap.objs.size (Obj.mapSeq (fun _=>(#[]:CM A3)))).get? b=some o :=
  fun b o q e=>(BQ _ _ (Ne.symm q)).trans (k1 b o e)
 have N:((s.heap.push { cls:=.type "list",data:=.seq #[] }).update s.heap.objs.size (Obj.mapSeq (fun _=>(#[]:CM A3)))).objs.size=s.heap.objs.size+1:=(CV ..).1.trans R;refine AA (wpAny_letGo ?_);generalize (s.heap.push { cls:=.type "list",data:=.seq #[] }).update s.heap.objs.size (Obj.mapSeq (fun _=>(#[]:CM A3)))=y at f₂ O N⊢;have zp:IsZip y z TI TO .none:=O _ _ (d I).symm hz;have hT:∀{x:Nat},Shared.TypeIs { s with heap:=y,toks:=x } (.ref z) "zip":=fun{x}=>⟨_,zp,rfl⟩;unfold Builtin.List.listExtendWith;refine AA (wpAny_typeOf (T := "zip") hT ?_);have e1:Builtin.List.listSameRef (.ref s.heap.objs.size) (.ref z)=false:=by simp[Builtin.List.listSameRef,d I]
 have e2:(Value.type "zip" == Value.type "list")=false:=by decide
 have e3:(Value.type "zip" == Value.type "tuple")=false:=by decide
 simp only[e1,e2,e3,HW,AW,CN];refine AA (wpAny_pyIter_zip zp ?_);refine AA (BS (Tq hT ?_));have U:∀{h':IA},(∀b o,b≠s.heap.objs.size->y.get? b=some o->h'.get? b=some o)->QK z TI TO u v B l2 xs C 0 h':=fun{h'} kk=>by
  have t:∀b o,b<s.heap.objs.size->s.heap.get? b=some o->h'.get? b=some o:=fun b o q e=>kk b o (d q).symm (O b o (d q).symm e);exact⟨.inl ⟨t _ _ I hz,_,_,t _ _ k G⟩,t _ _ J H,Y.at fun o e=>t _ o l e,Z.at fun o e=>t _ o n e,h1.at fun o e=>t _ o K e,h2.at fun o e=>t _ o L e⟩
 have g:∀{b:Nat},b<s.heap.objs.size->b<s.heap.objs.size+1:=fun h=>DC h;have V:∀(h:IA) (c₁:Nat),(∀b o,b≠s.heap.objs.size->y.get? b=some o->h.get? b=some o)->h.objs.size=s.heap.objs.size+1->h.get? s.heap.objs.size=some { cls:=.type "list",data:=.seq #[] c₁ } ->
   codeAny (model prog w) A.in1 (.builtin "list.extend.loop" ⟨[.ref s.heap.objs.size,.ref z,.none],[]⟩) (wants (fun r s₂=>r=Value.none/\Q (.ref s.heap.objs.size) s₂) E) { s with heap:=h }:=by
  intro h c₁ kk sz hc;refine zEk (A:=A.in1) hh D ⟨d I,d J,d k,d l,d n,d K,d L⟩ ⟨ED _,g I,g k,g l,g n⟩ m1 m2 me hn .none _ 0 _ #[] c₁ [] rfl (CF _) (U kk) hc (Nat.le_of_eq sz.symm) ⟨rfl,rfl,fun j p e=>by simp at e,fun p y=>absurd y BX,FY⟩ fun h' x a P i k4 W hP=>⟨rfl,?_⟩;exact hQ h' x a P i (fun b o b1 b2 b3 b4 e=>k4 b o (g (AI e)) (d (AI e)).symm b1 b2 b3 b4 (kk b o (d (AI e)).symm (O b o (d (AI e)).symm e))) W hP
 refine wpAny_ite_split (fun _=>?_) (fun X=>absurd rfl X);refine AA (EO ?_);refine AA ?_;show wpAny _ _ (updateSeq s.heap.objs.size (·.push .none) >>= fun _=>updateSeq s.heap.objs.size (·.pop)) _ _ _;refine AA (EJ f₂ rfl ?_);have f₃:=CD (Obj.mapSeq (·.push Value.none)) f₂ rfl;refine EJ (hz:=by seq_fits) f₃ rfl ?_;have f₄:=CD (Obj.mapSeq (·.pop)) f₃ rfl;refine AE ⟨plainId_quiet F.plain_extend_loop _,V _ _ (fun b o q e=>?_) ?_ f₄⟩
 .exact(BQ _ _ (Ne.symm q)).trans ((BQ _ _ (Ne.symm q)).trans e)
 .rw[(CV ..).1,(CV ..).1];exact N
end
end TS
namespace L2
open PySem PySem.Spec PyProof.Rows
section
variable{X:Cx}{H:Hp}
def Zr(H:Hp):A0 (A4×V×V)->Hp
 | []=>H
 | q::l=>IB (Zr H l) q.1 (.tup [q.2.1,q.2.2])
theorem Du{b:A4}:∀{a:A0 (A4×V×V)},b∉a.map (fun p=>p.1)->Zr H a b=H b
 | [],_=>rfl
 | q::l,h=>by
  rw[BB,AU,not_or]at h;show IB (Zr H l) q.1 _ b=_;rw[B6 h.1,Du h.2]
theorem Jv:∀{a:A0 (A4×V×V)},(a.map fun p=>p.1).Nodup->∀p∈a,Zr H a p.1=some (.tup [p.2.1,p.2.2])
 | [],_,p,h=>absurd h BX
 | q::l,b,p,h=>by
  rw[BB,CL]at b;show IB (Zr H l) q.1 _ p.1=_;rcases AU.mp h with rfl | h
  .exact A9
  .rw[B6 fun e=>b.1 (by rw[<-e];exact AR.mpr ⟨p,h,rfl⟩)];exact Jv b.2 p h
theorem Inv.more{a:A0 (A4×Obj)}{σ:St}{H':Hp}{s:A5}{h':IA}{t':Nat}(I:Inv X a σ H s)(k:∀b u,s.heap.get? b=some u->h'.get? b=some u)(d:∀b,b<s.heap.objs.size->H' b=H b)(g:∀b o,s.heap.objs.size<=b->H' b=some o->IR X.prog X.w H' h' b o):Inv X a σ H' { s with heap:=h',toks:=t' }:=by
 have f:∀b o,H b=some o->H' b=some o:=fun b o e=>(d b (I.hok.lt e)).trans e;refine I.un ⟨fun b o q _ _ _=>k b o q,fun b o q _ _ _=>⟨o.slots,k b o q⟩,fun b o q n _=>(d b (AI q)).trans n,fun b o q _=>⟨o,k b o q⟩,fun b h q=>f _ _ q,fun b o u q=>f _ _ q,fun b i q=>⟨#[],by rw[f _ _ q];simp⟩⟩ fun b o e=>?_;by_cases c:b<s.heap.objs.size
 .rw[d b c]at e;exact(I.hok b o e).stay (fun b u _ q=>k b u q) (fun b q=>f _ _ q) fun b h q=>f _ _ q
 .exact g b o (Nat.le_of_not_lt c) e
def zCb(K:PySem.W.Frag)(h:TA):TE:=fun σ H Q=>h σ H fun i c=>∃a b f g,i = [.ref a,.ref b]/\IG K c a f/\IG K c b g /\
 ∀(e:A0 (A4×V×V)) l d,HY c d->c l=none->d l=some (.lst (e.map fun p=>.ref p.1))->(e.map fun p=>p.2)=f.zip g->(∀p∈e,c p.1=none/\d p.1=some (.tup [p.2.1,p.2.2]))->Q (.ref l) d
theorem Zh{a b:IH}{ta:TA}{p g pos d:Pos}(G:X.mg "list" = none)(Y:X.mg "zip" = none)(ha:PA X [a,b] ta)(hc:X.calm=true:=by rfl)(hg:Gl X "list":=by rfl)(Z:Gl X "zip":=by rfl)
  (hs:starEach [a,b] X.env =(false,eval a X.env)::starEach [b] X.env:=by rfl) (hpl:(backTo d (starEach [b] X.env)).any (·.1)=false:=by rfl) (M:starEach [Expr.Call (.Name "zip" g) [a,b] [] d] X.env =(false,eval (.Call (.Name "zip" g) [a,b] [] d) X.env)::starEach [] X.env:=by rfl):PE X (.Call (.Name "list" p) [.Call (.Name "zip" g) [a,b] [] d] [] pos) (zCb X.K ta):=by
 intro N s σ H Q I h;refine D_ (Z8 I hg G Q7 ?_ (by decide) (by decide));refine callWith_type1 ?_ M rfl;rw[M];refine Calls.spliced_cons ?_;refine Call_ (Z8 I Z Y Xk (PyProof.Rows.callWith_type1 (IY (ha d N s σ H _ I h) fun us s1 ⟨vs,U,F,r1,l,m,xs,ys,e,hq,hr,q⟩=>?_) hs hpl));subst e;obtain⟨u,v,rfl,ru,rv⟩:=r1.two;cases ru;cases rv;obtain⟨n,rx,pl,hz⟩:=F.list hq;obtain⟨t,ry,pm,hz'⟩:=F.list hr;have a1:l<s1.heap.objs.size:=by obtain⟨_,e,_⟩:=pl.isList;exact AI e
 have a2:m<s1.heap.objs.size:=by obtain⟨_,e,_⟩:=pm.isList;exact AI e
 refine call_zip_2 pl.isList pm.isList fun C g1 g2 g3 g4 g5 D k=>Calls.spliced_nil ?_;have lx:=rx.length;have ly:=ry.length;have me:(n.toArray)[min n.length t.length]?=none\/(t.toArray)[min n.length t.length]?=none:=by
  rcases Nat.le_total n.length t.length with h | h
  .exact .inl (by rw[GE h];simp)
  .exact .inr (by rw[Nat.min_eq_right h];simp)
 refine TS.NM (s:={ s1 with heap:=C }) (m:=min n.length t.length) (F.ok.hd hc) (zipApart_new a1 a2) g1 g3 g2 g4 g5 (pl.isList.at fun o e=>k _ o e) (pm.isList.at fun o e=>k _ o e) (by simp;exact Nat.min_le_left ..) (by simp;exact Nat.min_le_right ..) me (by have:=Nat.min_le_left n.length t.length;omega) fun h2 tk O c y k2 hS L=>?_;have kk:∀b o,s1.heap.get? b=some o->h2.get? b=some o:=fun b o e=>by
  have lt:=AI e;have W:∀j:Nat,b≠s1.heap.objs.size+j:=fun j=>BA (BE lt (FT _ _));exact k2 b o (W 4) (W 3) (W 0) (W 1) (k b o e)
 have D:C.objs.size=s1.heap.objs.size+5:=D;have hb:∀p∈y,s1.heap.objs.size<=p.1/\p.1≠C.objs.size:=fun p i=>by
  have:=(L.at_ p i).1;have this:C.objs.size+1<=p.1:=this;exact⟨Nat.le_trans (by rw[D];exact FT _ 6) this,(BA this).symm⟩
 have MM:=L.len;have lz:(xs.zip ys).length=y.length:=by rw[MM,List.length_zip,lx,ly]
 generalize J:(y.map fun p=>p.1).zip (xs.zip ys)=w;have P:(w.map fun p=>p.1)=y.map fun p=>p.1:=by rw[<-J];exact List.map_fst_zip (by rw[AB,lz];exact Nat.le_refl _)
 have f2:(w.map fun p=>p.2)=xs.zip ys:=by rw[<-J];exact List.map_snd_zip (by rw[AB,lz];exact Nat.le_refl _)
 have nd:(w.map fun p=>p.1).Nodup:=by rw[P];exact L.nd
 have bp:∀p∈w,∃g∈y,g.1=p.1/\RelV p.2.1 g.2.1/\RelV p.2.2 g.2.2:=fun p i=>by
  obtain⟨j,hj⟩:=CU.mp i;rw[<-J,GS,AH]at hj;obtain⟨j1,E⟩:=hj;obtain⟨g,A,e'⟩:=BL.mp j1;obtain⟨q1,q2⟩:=L.get j g A;rw[show p.2 =(p.2.1,p.2.2)from rfl,GS]at E;rw[GJ]at q1 q2;refine⟨g,AM A,e',?_,?_⟩
  .rcases Aa rx j with⟨z,_⟩ | ⟨x,u,z1,z2,r⟩
   .rw[z]at E;cases E.1
   .rw[z1]at E;rw[z2]at q1;cases E.1;cases q1;exact r
  .rcases Aa ry j with⟨z,_⟩ | ⟨x,u,z1,z2,r⟩
   .rw[z]at E;cases E.2
   .rw[z1]at E;rw[z2]at q2;cases E.2;cases q2;exact r
 have R:s1.heap.objs.size<=C.objs.size:=by rw[D];exact FT ..
 have Sn:C.objs.size∉w.map fun p=>p.1:=fun G=>by
  rw[P]at G;obtain⟨p,i,e⟩:=AR.mp G;exact(hb p i).2 e
 have S:∀b,b<s1.heap.objs.size->b∉w.map fun p=>p.1:=fun b B G=>by
  rw[P]at G;obtain⟨p,i,e⟩:=AR.mp G;have:=(hb p i).1;rw[e]at this;exact absurd B (Nat.not_lt.mpr this)
 have fr:∀p∈w,U p.1=none:=fun p i=>by
  obtain⟨g,A,e,_⟩:=bp p i;exact F.hok.fresh (by rw[<-e];exact(hb g A).1)
 have hv:IK (w.map fun p=>V.ref p.1) O.toList:=by
  rw[L.acc,show(w.map fun p=>V.ref p.1) =(w.map fun p=>p.1).map V.ref by rw[CB];rfl,P,CB];generalize y=l
  induction l with
  | nil=>exact .nil
  | cons p l ih=>exact .cons rfl ih
 have hl:U C.objs.size=none:=F.hok.fresh R;have T:∀b,b<s1.heap.objs.size->IB (Zr U w) C.objs.size (.lst (w.map fun p=>V.ref p.1)) b=U b:=fun b B=>by
  rw[B6 (BA (BE B R)),Du (S b B)]
 refine⟨.ref C.objs.size,_,F.more (t':=tk) kk T fun b o B e=>?_,rfl,q w _ _ (fun b o e=>(T b (F.hok.lt e)).trans e) hl A9 f2 fun p i=>⟨fr p i,?_⟩⟩
 .by_cases c1:b=C.objs.size
  .subst c1;rw[A9]at e;cases e;exact⟨by rw[AB,<-AB (f:=fun p:A4×V×V=>p.1),P,AB,MM];have:=Nat.min_le_left n.length t.length;omega,O.toList,c,hv,by simpa using hS⟩
  rw[B6 c1]at e;by_cases c2:b∈w.map fun p=>p.1
  .obtain⟨p,i,rfl⟩:=AR.mp c2;rw[Jv nd p i]at e;cases e;obtain⟨g,A,e',r1,r2⟩:=bp p i;have ip:=(L.at_ g A).2;rw[e']at ip;exact⟨by show 2<=sizeLine;decide,[g.2.1,g.2.2],.cons r1 (.cons r2 .nil),⟨_,ip,rfl,_,rfl⟩⟩
  .rw[Du c2,F.hok.fresh B]at e;cases e
 .rw[B6 fun e=>Sn (by rw[<-e];exact AR.mpr ⟨p,i,rfl⟩)];exact Jv nd p i
theorem Ws{a b:IH}{i:TA}{p d pos c:Pos}(K:PySem.W.Frag)(j:X.mg "list" = none)(e:X.mg "zip" = none)(k:PA X [a,b] i)(l:X.calm=true:=by rfl)(m:Gl X "list":=by rfl)(f:Gl X "zip":=by rfl)
  (n:starEach [a,b] X.env =(false,eval a X.env)::starEach [b] X.env:=by rfl) (g:(backTo c (starEach [b] X.env)).any (·.1)=false:=by rfl) (h:starEach [Expr.Call (.Name "zip" d) [a,b] [] c] X.env =(false,eval (.Call (.Name "zip" d) [a,b] [] c) X.env)::starEach [] X.env:=by rfl) (o:X.K=K:=by rfl):PE X (.Call (.Name "list" p) [.Call (.Name "zip" d) [a,b] [] c] [] pos) (zCb K i):=by subst o;exact Zh j e k l m f n g h
end
def R4{α:Type}(a:A0 Nat)(xs:A0 α):A0 α:=a.filterMap fun k=>xs[k]?
def m8(n:Nat)(lo hi st:A6 Int):A0 Nat:=sliceRange (sliceBounds lo hi st n).1 (sliceBounds lo hi st n).2.1 (sliceBounds lo hi st n).2.2
def Fj{α:Type}{xs:A0 α}:∀{a:A0 Nat},(∀r∈a,r<xs.length)->∀j:Nat,(R4 a xs)[j]?=a[j]?.bind fun k=>xs[k]?
 | [],_,j=>rfl
 | r::a,h,j=>by
  have e:=AC (h r (.head _));unfold R4;rw[DD e];cases j with
  | zero=>exact e.symm
  | succ j=>exact Fj (fun r b=>h r (.tail _ b)) j
def o8{xs:A0 V}{us:A0 A3}(r:IK xs us):∀l:A0 Nat,IK (R4 l xs) (R4 l us)
 | []=>.nil
 | k::l=>by
  unfold R4;rcases Aa r k with⟨a,b⟩ | ⟨x,u,a,b,c⟩
  .rw[ES a,ES b];exact o8 r l
  .rw[DD a,DD b];exact .cons c (o8 r l)
def zGg(K:PySem.W.Frag)(e:TE)(f g ts:TO):TE:=fun σ H Q=>e σ H fun x h=>f σ h fun l i=>g σ i fun u j=>ts σ j fun c d=>c≠some 0/\∃a b,x = .ref a/\IG K d a b/\(R4 (m8 b.length l u c) b).length<=sizeLine/\∀p,d p=none->Q (.ref p) (IB d p (.lst (R4 (m8 b.length l u c) b)))
def Hf{X:Cx}(K:PySem.W.Frag){e:IH}{p:TE}{lo hi:A6 IH}{st:IH}{t y ts:TO}{pos p2:Pos}(B:PE X e p)(C:PO X lo t)(D:PO X hi y)(i:PO X (some st) ts)(E:X.K=K:=by rfl):PE X (.Subscript e (.Slice lo hi (some st) p2) pos) (zGg K p t y ts):=by
 subst E;intro d s σ H Q I h;refine Subscript_ (IY (B d s σ H _ I h) fun v F ⟨x,G,J,L,M⟩=>?_);refine wpAny_Slice (IY (C d F σ G _ J M) fun j N ⟨l,O,P,R,S⟩=>?_);refine IY (D d N σ O _ P S) fun vu T ⟨u,U,V,Y,Z⟩=>IY (i d T σ U _ V Z) fun k s4 ⟨c,H4,I4,ps,hc,a,m,ex,hx,hn,q⟩=>?_;subst ex;cases L;have n:Inv X d σ H4 { s4 with heap:=s4.heap.push { cls:=.type "slice",data:=.fields #[j,vu,k] } }:=I4.kept (t':=s4.toks) fun b ob q=>AD _ q;obtain⟨f,r,z,hz⟩:=n.list hx;have g:=r.length;have hg:wpAny (model X.prog X.w) X.A (getItem (.ref a) (.ref s4.heap.objs.size)) (EP X d σ Q) X.xe { s4 with heap:=s4.heap.push { cls:=.type "slice",data:=.fields #[j,vu,k] } }:=by
  refine wpAny_getItem_list_slice z.isList (Heap.IsSliceOf.new ..) R Y ps hc ?_ (by rw[AS]<;>omega);have es:slicePick f.toArray l u c =(R4 (m8 m.length l u c) f).toArray:=by
   unfold slicePick R4 m8;rw[AS,<-g];congr 1;simp
  rw[es];refine⟨.ref _,_,n.laid (t':=s4.toks) (o:=.lst (R4 (m8 m.length l u c) m)) (fun b ob q=>AD _ q) (Nat.le_refl _) ?_,rfl,q _ (n.hok.fresh (Nat.le_refl _))⟩;exact⟨hn,_,0,o8 r _,AN _ rfl⟩
 show wpAny (model X.prog X.w) X.A (subscriptTail e (.Slice lo hi (some st) p2) (.ref a) (.ref s4.heap.objs.size)) (EP X d σ Q) X.xe { s4 with heap:=s4.heap.push { cls:=.type "slice",data:=.fields #[j,vu,k] } };exact tail_any (ops:=[.ref a,.ref s4.heap.objs.size]) z.isList.typeIs slot_list_getitem.lookup hg (by with_unfolding_all rfl)
end L2
namespace Sw
open PySem L2
def JT(i:Nat):IS:=PySem.Challenge.pw_strikeweave_k30_a_standing_set_with_some.main.body.getD i (.Pass ⟨0,0,0,0⟩)
abbrev N_:IS:=JT 8
abbrev MX:IS:=JT 9
abbrev KR:IS:=JT 11
abbrev KS:IS:=JT 12
abbrev NP:IS:=JT 13
abbrev NH:IS:=JT 14
abbrev KB:IS:=JT 15
abbrev JW:IS:=JT 16
abbrev LZ:IS:=JT 17
abbrev MA:IS:=JT 18
abbrev L_:IS:=JT 19
abbrev NS:IS:=JT 24
abbrev LQ:IS:=JT 25
abbrev KY:IS:=JT 26
abbrev MW:IS:=JT 27
abbrev NQ:IS:=JT 29
abbrev NF:IS:=JT 30
abbrev NE:IS:=JT 31
abbrev MS:IS:=JT 32
abbrev ND:IS:=JT 33
abbrev LO:IS:=JT 34
abbrev MT:IS:=JT 35
abbrev LP:IS:=JT 36
abbrev L0:IS:=JT 37
abbrev NR:IS:=JT 38
abbrev NG:IS:=JT 39
abbrev LE:IS:=JT 40
abbrev Le:IS:=JT 41
abbrev JY:IS:=JT 42
abbrev MU:IS:=JT 43
abbrev KW:IS:=JT 44
abbrev NC:IS:=JT 45
abbrev KJ:IS:=JT 46
abbrev KU:IS:=JT 47
abbrev KI:IS:=JT 48
abbrev MV:IS:=JT 49
abbrev KM:IS:=K8 (JT 7) 0
abbrev LA:IS:=K8 (JT 7) 1
abbrev KL:IS:=K8 (JT 7) 2
abbrev JZ:IS:=K8 (JT 7) 3
abbrev LJ:IS:=K8 (JT 7) 4
abbrev KD:IS:=K8 (JT 7) 5
abbrev JV:IS:=K8 (JT 7) 6
abbrev JU:IS:=K8 (JT 7) 7
abbrev NW:IS:=K8 (JT 7) 8
abbrev LH:IS:=K8 (JT 23) 0
abbrev K_:IS:=K8 (JT 23) 1
abbrev KC:IS:=K8 (JT 23) 2
abbrev LF:IS:=K8 (JT 23) 3
abbrev MC:IS:=K8 (JT 23) 4
abbrev KZ:IS:=K8 (JT 23) 5
def Hk:Str:=("best_split":Str) ++ ".<locals>." ++ "<lambda>"
def C1:A0 (Pos×Str):=[(⟨94,27,94,74⟩,Hk)]
set_option genInjectivity false in
structure Tx(K:PySem.W.Frag)(mg:Str->A6 A3) where
 bd:Fn K mg "joined" N_ ["sets"]
 a1:Fn K mg "first_bit" MX ["some"]
 ap:Fn K mg "standing_with" KR ["web", "some"]
 ak:Fn K mg "standing_from" KS ["marks", "held"]
 aw:Fn K mg "tree_at" NP ["marks", "splits_at", "sets", "held", "known"]
 ax:Fn K mg "clash_at" NH ["marks", "held"]
 ai:Fn K mg "standing_splits" KB ["marks", "sets", "held"]
 aq:Fn K mg "best_split" JW ["marks", "held", "splits"]
 bJ:A4
 aa:A4
 bg:TabAt K mg bJ aa
 bu:aq.fd.code = .ref bJ
 aW:Fn K mg "split_cost" LZ ["marks", "held", "added"]
 aA:Fn K mg "answers_at" MA ["marks", "held"]
 aF:Fn K mg "beyonds_at" L_ ["marks", "sets", "held"]
 be:Fn K mg "is_name" NS ["thing"]
 aU:Fn K mg "check_names" LQ ["names"]
 aO:Fn K mg "check_strikes" KY ["names", "strikes"]
 a2:Fn K mg "is_strike" MW ["names", "thing"]
 a7:Fn K mg "_law_mix" NQ ["_law_cell", "_law_k"]
 a9:Fn K mg "_law_left" NF ["_law_script", "_law_k"]
 aj:Fn K mg "_law_pick" NE ["_law_left_here", "_law_many"]
 a3:Fn K mg "_law_names" MS ["_law_left_here", "_law_many"]
 ba:Fn K mg "_law_size" ND ["_law_left_here"]
 aV:Fn K mg "_law_strikes" LO ["_law_left_here", "_law_names_here"]
 a4:Fn K mg "_law_masks" MT ["_law_names_here", "_law_strikes_here"]
 aL:Fn K mg "_law_mask_of" LP ["_law_view", "_law_some_here"]
 aX:Fn K mg "_law_set_of" L0 ["_law_view", "_law_mask"]
 a8:Fn K mg "_law_hit" NR ["_law_view", "_law_mask"]
 aT:Fn K mg "_law_kept" NG ["_law_view", "_law_mask"]
 aG:Fn K mg "_law_is_quiet" LE ["_law_view", "_law_mask"]
 aY:Fn K mg "_law_stands" Le ["_law_view", "_law_mask"]
 aD:Fn K mg "_law_all_standing" JY ["_law_view"]
 a5:Fn K mg "_law_least" MU ["_law_view"]
 aP:Fn K mg "_law_web_drawn" KW ["_law_left_here"]
 bb:Fn K mg "_law_some" NC ["_law_left_here", "_law_names_here"]
 aK:Fn K mg "_law_is_name_of" KJ ["_law_view", "_law_thing"]
 aQ:Fn K mg "_law_wide_some" KU ["_law_left_here", "_law_view"]
 au:Fn K mg "_law_told_right" KI ["_law_view", "_law_masks_here", "_law_web", "_law_some_here"]
 ab:A4
 ad:PH K ab
 bC:mg "Marks" = some (.ref ab)
 aH:JH K ab "names"
 bj:JH K ab "full"
 a0:JH K ab "bit_of"
 ay:JH K ab "strikers_of"
 bc:JH K ab "struck_of"
 bi:JH K ab "loops"
 bl:A4
 bk:IU
 bm:OT K "__init__" "Marks.__init__" KM bl bk
 bn:Binds K bk ["self", "web"] []
 bD:Mk K ab bl
 ac:Mt K ab "bits_in" "Marks.bits_in" LA ["self", "some"]
 al:Mt K ab "names_in" "Marks.names_in" KL ["self", "some"]
 ag:Mt K ab "first_name" "Marks.first_name" JZ ["self", "some"]
 aB:Mt K ab "set_of" "Marks.set_of" LJ ["self", "some"]
 ah:Mt K ab "struck_by" "Marks.struck_by" KD ["self", "some"]
 ae:Mt K ab "strikers_at" "Marks.strikers_at" JV ["self", "some"]
 ar:Mt K ab "unstruck_by" "Marks.unstruck_by" JU ["self", "some"]
 bK:Mt K ab "kept" "Marks.kept" NW ["self", "some"]
 af:A4
 am:PH K af
 bE:mg "Web" = some (.ref af)
 aR:JH K af "names"
 a6:JH K af "strikes"
 aE:JH K af "strikers_by_name"
 aJ:JH K af "struck_by_name"
 bq:A4
 bp:IU
 br:OT K "__init__" "Web.__init__" LH bq bp
 bs:Binds K bp ["self", "names", "strikes"] []
 bF:Mk K af bq
 an:Mt K af "all_names" "Web.all_names" K_ ["self"]
 av:Mt K af "all_strikes" "Web.all_strikes" KC ["self"]
 aC:Mt K af "strikers" "Web.strikers" LF ["self", "name"]
 aM:Mt K af "struck" "Web.struck" MC ["self", "name"]
 ao:Mt K af "check_has" "Web.check_has" KZ ["self", "name"]
 bB:∃t,mg "LETTERS" = some (.str "abcdefghijklmnopqrstuvwxyz" t)
 bt:∃t,mg "LONGEST_NAME" = some (.int 8 t)
 as:mg "len" = none
 aS:mg "range" = none
 aN:mg "enumerate" = none
 bv:mg "zip" = none
 bw:mg "min" = none
 bG:mg "max" = none
 bh:mg "sum" = none
 bx:mg "abs" = none
 aZ:mg "sorted" = none
 bH:mg "int" = none
 bz:mg "str" = none
 az:mg "list" = none
 bf:mg "tuple" = none
 bo:mg "set" = none
 aI:mg "isinstance" = none
 bA:mg "all" = none
 bI:mg "any" = none
 bL:mg "ValueError" = none
end Sw
namespace L2
open PySem
def JX{N b:A0 Str}{a:JB}(h1:a.kind = .function:=by rfl)(h2:a.isCoroutine=false:=by rfl)(c:a.isGenerator=false:=by rfl)(d:N.Nodup:=by decide +kernel)(e:N.take b.length=b:=by rfl)(f:∀x∈b,a.names.lookup x=some .local\/a.names.lookup x=some .cell:=by decide +kernel)(g:∀y∈a.names,y.2≠ .free:=by decide +kernel):IC N b a:=⟨h1,h2,c,d,e,f,g⟩
def Rm{j k:Nat}{A:II}(h:JF k A)(e:j<=k:=by decide):JF j A:=h.mono e
def R8{J:It}{xs:A0 V}{a:A4}{d:Hp}(as:LB J xs a d){g:TG}{e:TS}{D:Ends}{σ:St}{H:Hp}(Pv:Nat->St->Hp->Prop)(h:Pv 0 σ H)(j:∀i σ H,i<=xs.length->Pv i σ H->JQ a d H)
  (k:∀i σ H x,xs[i]?=some x->Pv i σ H->∀b:Ends,(∀σ' H',Pv (i+1) σ' H'->b.nx σ' H')->b.rt=D.rt->g x σ H fun σ2 c=>e b σ2 c) (l:∀σ H,Pv xs.length σ H->D.nx σ H) :
  ∃W:Nat->Nat->St->Hp->Prop,(∃m,W 0 m σ H)/\∀i m σ H,W i m σ H ->
   (J.stop i H/\D.nx σ H)\/(J.go i H/\∃N:St->Hp->Prop,(∀σ' H',N σ' H'->∃f,f < m/\W (i+1) f σ' H')/\∀x H',J.yld i H x H'->g x σ H' fun σ2 c=>e { D with nx:=N,ct:=N,bk:=D.nx } σ2 c) :=
 zCz as Pv h j (fun i σ H x n o=>k i σ H x n o _ (fun _ _ z=>z) rfl) l
def O7{lo:Int}{n:Nat}{g:TG}{c:TS}{D:Ends}{σ:St}{H:Hp}(Pv:Nat->St->Hp->Prop)(e:Pv 0 σ H)
  (f:∀i σ H,i<n->Pv i σ H->∀a:Ends,(∀σ' H',Pv (i+1) σ' H'->a.nx σ' H')->a.rt=D.rt->g (.int (lo+i)) σ H fun σ2 b=>c a σ2 b) (h:∀σ H,Pv n σ H->D.nx σ H) :
  ∃W:Nat->Nat->St->Hp->Prop,(∃m,W 0 m σ H)/\∀i m σ H,W i m σ H ->
   ((QH lo n).stop i H/\D.nx σ H)\/((QH lo n).go i H/\∃N:St->Hp->Prop,(∀σ' H',N σ' H'->∃d,d < m/\W (i+1) d σ' H')/\∀x H',(QH lo n).yld i H x H'->g x σ H' fun σ2 b=>c { D with nx:=N,ct:=N,bk:=D.nx } σ2 b) :=
 Pj Pv e (fun i σ H j k=>f i σ H j k _ (fun _ _ z=>z) rfl) h
def A7{α:Type}{A C:α->Prop}{a:α}(e:A a)(h:C a):∃v,A v/\C v:=⟨a,e,h⟩
def Y7{α0 α1 α2:Type}{d e f g h i:α0->α1->α2->Prop}{a:α0}{b:α1}{c:α2}(j:d a b c)(h1:e a b c)(h2:f a b c)(k:g a b c)(l:h a b c)(m:i a b c):∃a b c,d a b c/\e a b c/\f a b c/\g a b c/\h a b c/\i a b c:=⟨a,b,c,j,h1,h2,k,l,m⟩
def Xg{α0 α1 α2 α3 α4 α5 α6:Type}{h i j k:α0->α1->α2->α3->α4->α5->α6->Prop}{a:α0}{b:α1}{c:α2}{d:α3}{e:α4}{f:α5}{g:α6}(l:h a b c d e f g)(h1:i a b c d e f g)(h2:j a b c d e f g)(m:k a b c d e f g):∃a b c d e f g,h a b c d e f g/\i a b c d e f g/\j a b c d e f g/\k a b c d e f g:=⟨a,b,c,d,e,f,g,l,h1,h2,m⟩
def zDs{α0 α1 α2 α3 α4 α5:Type}{g h i j k l m n:α0->α1->α2->α3->α4->α5->Prop}{a:α0}{b:α1}{c:α2}{d:α3}{e:α4}{f:α5}(o:g a b c d e f)(h1:h a b c d e f)(h2:i a b c d e f)(p:j a b c d e f)(q:k a b c d e f)(r:l a b c d e f)(s:m a b c d e f)(t:n a b c d e f):∃a b c d e f,g a b c d e f/\h a b c d e f/\i a b c d e f/\j a b c d e f/\k a b c d e f/\l a b c d e f/\m a b c d e f/\n a b c d e f:=⟨a,b,c,d,e,f,o,h1,h2,p,q,r,s,t⟩
def zEq{α0 α1 α2 α3:Type}{e f g h i j k:α0->α1->α2->α3->Prop}{a:α0}{b:α1}{c:α2}{d:α3}(l:e a b c d)(h1:f a b c d)(h2:g a b c d)(m:h a b c d)(n:i a b c d)(o:j a b c d)(p:k a b c d):∃a b c d,e a b c d/\f a b c d/\g a b c d/\h a b c d/\i a b c d/\j a b c d/\k a b c d:=⟨a,b,c,d,l,h1,h2,m,n,o,p⟩
def C0{α0 α1:Type}{c d e:α0->α1->Prop}{a:α0}{b:α1}(f:c a b)(h1:d a b)(h2:e a b):∃a b,c a b/\d a b/\e a b:=⟨a,b,f,h1,h2⟩
def B9{t u:TS}{D:Ends}{σ:St}{H:Hp}(h:∀N:St->Hp->Prop,(∀σ' H',u D σ' H'->N σ' H')->t { D with nx:=N } σ H):RG t u D σ H:=h _ fun _ _ z=>z
def Vg{i:Nat}{v:V}{t u:TS}{D:Ends}{σ:St}{H:Hp}(h:∀N:St->Hp->Prop,(∀σ' H',u D σ' H'->N σ' H')->t { D with nx:=N } (σ.set i (some v)) H):V7 i v σ H (fun σ2 a=>RG t u D σ2 a):=h _ fun _ _ z=>z
end L2
namespace Sw
open PySem L2
section
variable{P:F8}{w:H_}{K:PySem.W.Frag}{mg:Str->A6 A3}{base:IA}
def Yb(c:Nat):Bool:=decide (97<=c)&&decide (c<=122)
def Q0(x:Str):Bool:=decide (1<=x.length)&&decide (x.length<=8)&&x.cps.toList.all Yb
theorem Kh:("abcdefghijklmnopqrstuvwxyz":Str).cps.toList=List.range' 97 26:=by decide +kernel
theorem Xi(c:Nat):decide (c∈("abcdefghijklmnopqrstuvwxyz":Str).cps.toList)=Yb c:=by
 rw[Kh];unfold Yb;by_cases a:97<=c
 .by_cases b:c<=122
  .rw[BD (List.mem_range'_1.mpr (by omega)),BD a,BD b];rfl
  .rw[BC (fun z=>by have:=List.mem_range'_1.mp z;omega),BC b,HH]
 .rw[BC (fun z=>by have:=List.mem_range'_1.mp z;omega),BC a,EE]
theorem Nr:IC ["thing"] ["thing"] (B8 NS):=JX
def Nh:Sp:=fun b H Q _=>∃x,b = [.str x]/\x.length<=1000/\∀a,HY H a->Q (.bl (Q0 x)) a
theorem Nn(T:Tx K mg):IP P w K mg base I_ 1 T.be.f T.be.fd ["thing"] Nh:=by
 refine T.be.F.ok Nr (fun r H Q E h=>?_) (fun t A b s H r Q E C h=>?_)
 .obtain⟨x,rfl,_⟩:=h;rfl
 .obtain⟨x,rfl,G,k⟩:=h;refine⟨_,(B4 (K3 (PW.pt (Ev (U7 (W0 (E8 (Bp K) T.aI O1 (A8 (pv 0) (A8 (Os T.bz Wf) B3))))) (j4 (U7 (Tk zBf zBf B7 (E8 Fx T.as O8 (A8 (pv 0) B3)) (zEi T.bt)))))) (B5 (C2 Hi)) C8)
   (B5 (C2 (E8 (Wn K) T.bA Wk (A8 (X0 (N':=["letter"]) (cap:=[none]) (cl:=[]) (P9 trivial trivial) rfl (zBn (pv 0)) (fun _ _ _ _=>by exact⟨(MI 0),K1,(P1 Oj (pv 0) (zDl T.bB) rfl)⟩)) B3))))),?_⟩
  have d:x.length<=sizeLine:=by rw[sizeLine_eq];omega
  have m:x.cps.size=x.length:=rfl;refine A7 rfl ⟨.str x, "str",_,true,rfl,.str x,rfl,A7 rfl ?_⟩;refine u0 ?_;refine A7 rfl ⟨x,rfl,d,C0 rfl rfl (A7 rfl ?_)⟩;refine T8 (fun a=>?_) (fun a=>?_)
  .have a:(1:Int)<=(x.length:Int):=CC a;refine C0 rfl rfl (A7 rfl ?_);by_cases o:(x.length:Int)<=8
   .rw[BD o];refine u0 ?_;refine A7 rfl ⟨x,rfl,fun D p=>?_⟩;refine As (n:=x.cps.size) (fun i σ g=>(∃v,σ = [v])/\HY H g/\g D=some (.lst ((x.cps.toList.take i).map fun c=>V.bl (Yb c)))) ⟨⟨_,rfl⟩,HY.new p,A9⟩ (fun i _ _ q _=>q) (fun _ _ _=>rfl) ?_ ?_
    .rintro i σ u v g N q ⟨⟨I,rfl⟩,j,l⟩ ⟨rfl,c,y,rfl⟩ B;refine Mc ?_;refine A7 rfl (C0 rfl rfl ⟨_,l,?_,?_⟩)
     .rw[AB,AX,sizeLine_eq];omega
     .rw[PySem.StrLaws.found_one,Xi];refine B _ _ ⟨⟨_,rfl⟩,j.upd p,?_⟩;rw[A9];have:x.cps.toList[i]?=some c:=by rw[BK];exact y
      rw[List.take_add_one,this,AO];rfl
    .rintro σ u ⟨_,j,l⟩;refine⟨D,x.cps.toList.map Yb,rfl,IG.of ?_,?_⟩
     .rw[l,<-AL,CI,CB];rfl
     .have e:(x.cps.toList.map Yb).all id=Q0 x:=by
       unfold Q0;rw[BD (show 1<=x.length by omega),BD (show x.length<=8 by omega),List.all_map];rfl
      rw[e];exact k _ j
   .rw[BC o];refine Yp ?_;have e:Q0 x=false:=by
     unfold Q0;rw[BC (show ¬x.length<=8 by omega),HH,EE]
    have:=k H (HY.refl H);rw[e]at this;exact this
  .have a:¬(1:Int)<=(x.length:Int):=fun z=>a (BD z);refine A7 rfl ?_;refine Yp ?_;have e:Q0 x=false:=by
    unfold Q0;rw[BC (show ¬1<=x.length by omega),EE,EE]
   have:=k H (HY.refl H);rw[e]at this;exact this
theorem IT{α:Type}{l:A0 α}{i:Nat}{x:α}(h:l[i]?=some x):l.take (i+1)=l.take i ++ [x]:=by
 rw[List.take_add_one,h];rfl
theorem Cl{α:Type}{l:A0 α}{i:Nat}{x:α}(a:l.Nodup)(h:l[i]?=some x):x∉l.take i:=by
 intro b;obtain⟨j,c,e⟩:=List.getElem_of_mem b;have d:j<i:=by rw[AX]at c;omega
 rw[List.getElem_take]at e;obtain⟨g,f⟩:=AG.mp h;have:=(List.getElem_inj a).mp (e.trans f.symm);omega
theorem X9:IC ["names", "seen", "place", "name"] ["names"] (B8 LQ):=JX
def W3(a:A0 Str):Prop:=(∀x∈a,Q0 x=true)/\a.Nodup/\a.length<=100
def Ci(K:PySem.W.Frag):Sp:=fun c H Q _=>∃(p:A4) (a:A0 Str),c = [.ref p]/\IG K H p (a.map V.str)/\W3 a/\∀b,HY H b->Q .non b
theorem Ri{x:Str}(h:Q0 x=true):1<=x.length/\x.length<=8:=by
 unfold Q0 at h;rw[BT,BT]at h;exact⟨CC h.1.1,CC h.1.2⟩
theorem Ck(T:Tx K mg):IP P w K mg base I_ 2 T.aU.f T.aU.fd ["names"] (Ci K):=by
 have b:=Nn (P:=P) (w:=w) (base:=base) T;have D:=X9;refine T.aU.F.ok X9 (fun W H Q E h=>?_) (fun X A G s H W Q E M h=>?_)
 .obtain⟨p,c,rfl,_⟩:=h;rfl
 .obtain⟨a,c,rfl,u,⟨Y,Z,hL⟩,k⟩:=h;have hu:=Y9 M;refine⟨_,(B4 (C5 (i:=1) D.nd rfl (.inl rfl) (Dg (Xf P w) (by rfl) T.bo Rg))
   (B5 (O4 PassesOwn.never rfl (RM K T.aN (A8 (pv 0) B3)) (PR K (n:=2) (E2 (D4 (i:=2) D.nd rfl (.inl rfl)) (E2 (D4 (i:=3) D.nd rfl (.inl rfl)) S4)))
   (B4 (K3 (PW.pt (Ev (U7 (W0 (C9 T.be b (Rm M) (A8 (pv 3) B3)))) (j4 (C6 (zDz P w) (pv 3) (pv 1) rfl)))) (B5 Fi) C8)
   (B5 (J7 (Wc P w (Zx P w) (pv 1) (A8 (pv 3) B3)))))))),?_⟩
  refine⟨rfl,fun p N=>?_⟩;have O:HY H (IB H p (Oh P w p [])):=HY.new N;refine A7 rfl ⟨a,A7 rfl ⟨(O.at a).seqL u,Zp (n:=c.length) (fun i σ j=>∃m o,σ = [some (.ref a),some (.ref p),m,o]/\HY H j/\j p=some (Oh P w p ((c.take i).map Sum.inr))) ⟨_,_,rfl,O,A9⟩ ?_ ?_ ?_ ?_⟩⟩
  .rintro i σ j B ⟨m,o,rfl,d,q⟩;exact⟨_,_,(d.at a).seqL u,by rw[AH,AC B];rfl⟩
  .rintro σ j ⟨m,o,rfl,d,q⟩;exact⟨_,(d.at a).seqL u,by rw[AB]⟩
  .rintro i σ j v H' B ⟨m,o,rfl,d,q⟩ ⟨t,x,rfl,R,rfl,C⟩;have C:=C _ ((d.at a).seqL u);have l:c[i]?=some c[i]:=AC B;rw[AH,l]at C;cases C;have hm:c[i]∈c:=FU B;have r:=Y _ hm;have S:=Ri r;have I:p≠t:=B0 q R;refine⟨t,A7 rfl ⟨JM.of A9,rfl,_,A7 rfl (C0 rfl rfl ?_)⟩⟩;refine A7 rfl ⟨c[i],rfl,by omega,fun U V=>⟨_,rfl,?_⟩⟩;rw[r];refine u0 ?_;have J:HY H U:=(d.trans (HY.new R)).trans V;have L:U p=some (Oh P w p ((c.take i).map Sum.inr)):=V _ _ (by rw[B6 I];exact q);have g:¬(Sum.inr c[i]:IW)∈(c.take i).map Sum.inr:=fun z=>by
    obtain⟨y,hy,e⟩:=AR.mp z;cases e;exact Cl Z l hy
   refine A7 rfl (A7 rfl ⟨p,_,Sum.inr c[i],rfl,rfl,L,A7 rfl ?_⟩);rw[AJ (by decide),BC g];refine u0 ?_;refine A7 rfl ⟨⟨p,rfl,.inl ⟨_,L⟩⟩,A7 rfl ⟨p,_,Sum.inr c[i],rfl,rfl,L,?_,?_⟩⟩
   .rw[AB,AX];omega
   .refine⟨_,A7 rfl ⟨J.upd N,?_⟩⟩;rw[A9];unfold zDd;rw[AJ g,IT l,AO];rfl
  .rintro σ j ⟨m,o,rfl,d,q⟩;exact k j d
end
def Hy(a:A0 Str):(a.map V.str).all Bz=true:=by
 rw[EQ];intro v b;obtain⟨x,_,rfl⟩:=AR.mp b;rfl
def Sq(x:Str)(a:A0 Str):RB (.str x) (a.map V.str)=decide (x∈a):=by
 unfold RB;rw[List.any_map]
 induction a with
 | nil=>rfl
 | cons y r b =>
  rw[FP,b];show((y == x)||decide (x∈r))=decide (x∈y::r);by_cases e:x=y
  .subst e;simp
  .have:(y == x)=false:=by simpa using fun z=>e z.symm
   rw[this,Bool.false_or];by_cases h:x∈r
   .rw[BD h,BD (AY _ h)]
   .rw[BC h,BC (fun z=>(AU.mp z).elim e h)]
def Kd{K:PySem.W.Frag}{H:Hp}{p:A4}{x:Str}{a:A0 Str}{Q:VK}(h:PF K H p (a.map V.str))(q:Q (.bl (decide (x∈a))) H):QZ K false (.str x) (.ref p) H Q :=
 ⟨p,_,rfl,h,rfl,Hy a,by rw[AJ (by decide),Sq];exact q⟩
def Cr{K:PySem.W.Frag}{H:Hp}{p:A4}{x:Str}{a:A0 Str}{Q:VK}(h:PF K H p (a.map V.str))(q:Q (.bl (!decide (x∈a))) H):QZ K true (.str x) (.ref p) H Q :=
 ⟨p,_,rfl,h,rfl,Hy a,by rw[AK rfl,Sq];exact q⟩
section
variable{P:F8}{w:H_}{K:PySem.W.Frag}{mg:Str->A6 A3}{base:IA}
theorem Hm:IC ["names", "thing"] ["names", "thing"] (B8 MW):=JX
def Fq(K:PySem.W.Frag):Sp:=fun b H Q _=>∃(p:A4) (a:A0 Str) (t:A4) (x y:Str),b = [.ref p,.ref t]/\IG K H p (a.map V.str)/\H t=some (.tup [.str x,.str y])/\x∈a/\y∈a/\Q (.bl true) H
theorem Hr(T:Tx K mg):IP P w K mg base I_ 1 T.a2.f T.a2.fd ["names", "thing"] (Fq K):=by
 refine T.a2.F.ok Hm (fun e H Q E h=>?_) (fun g A c s H e Q E m h=>?_)
 .obtain⟨p,i,t,x,y,rfl,_⟩:=h;rfl
 .obtain⟨p,i,t,x,y,rfl,d,b,j,l,k⟩:=h;refine⟨_,(B4 (K3 (PW.pt (Ev (U7 (W0 (E8 (Bp K) T.aI O1 (A8 (pv 1) (A8 (Os T.bf z7) B3))))) (j4 (C6 Rt (E8 (P4 K) T.as O8 (A8 (pv 1) B3)) B7 (D8 _))))) (B5 (C2 Hi)) C8)
   (B5 (C2 (Gp (P1 (Uy K) (E7 (QA K) (pv 1) B7 (fun _ _=>rfl)) (pv 0) rfl) (Lu (P1 (Uy K) (E7 (QA K) (pv 1) B7 (fun _ _=>rfl)) (pv 0) rfl)))))),?_⟩
  refine A7 rfl ⟨_, "tuple",_,true,rfl,.tup b,rfl,A7 rfl ?_⟩;refine u0 ?_;refine A7 rfl (C0 (a:=t) rfl (.inr (JM.of b)) ⟨rfl,A7 rfl ?_⟩);refine u0 ?_;refine A7 rfl ⟨t,_,C0 rfl rfl ⟨JM.of b,rfl,A7 rfl (Kd (.inl d) ⟨_,rfl,?_⟩)⟩⟩;rw[BD j];refine Yp ?_;refine A7 rfl ⟨t,_,C0 rfl rfl ⟨JM.of b,rfl,A7 rfl (Kd (.inl d) ?_)⟩⟩;rw[BD l];exact k
structure LW(ss:A0 Str)(ps:A0 JD):Prop where
 nm:∀q∈ps,q.2.1∈ss/\q.2.2∈ss
 nd:(ps.map fun q=>q.2).Nodup
 len:ps.length<=200
def G8(a:A0 JD):A0 V:=a.map fun q=>V.ref q.1
def Jm(a:A0 JD):A0 (A0 IW×A4):=a.map fun q=>([.inr q.2.1,.inr q.2.2],q.1)
theorem Ux{H:Hp}{a:A0 JD}(h:∀q∈a,E1 H q):Mo H (Jm a):=fun k b=>by
 obtain⟨q,c,rfl⟩:=AR.mp b;exact h q c
theorem E5{H H':Hp}{a:A0 JD}(s:HY H H')(h:∀q∈a,E1 H q):∀q∈a,E1 H' q:=fun q b=>s _ _ (h q b)
theorem V1:IC ["names", "strikes", "seen", "place", "strike"] ["names", "strikes"] (B8 KY):=JX
def y8(K:PySem.W.Frag):Sp:=fun e H Q _=>∃(p:A4) (c:A0 Str) (a:A4) (b:A0 JD),e = [.ref p,.ref a]/\IG K H p (c.map V.str)/\IG K H a (G8 b)/\(∀q∈b,E1 H q)/\LW c b/\∀d,HY H d->Q .non d
theorem y3(T:Tx K mg):IP P w K mg base I_ 2 T.aO.f T.aO.fd ["names", "strikes"] (y8 K):=by
 have c:=Hr (P:=P) (w:=w) (base:=base) T;have G:=V1;refine T.aO.F.ok V1 (fun vs H Q E h=>?_) (fun cdv A I s H vs Q E R h=>?_)
 .obtain⟨p,S,t,x,rfl,_⟩:=h;rfl
 .obtain⟨n,S,a,b,rfl,hS,B,U,⟨hN,hD,hL⟩,k⟩:=h;have V:=Y9 R;refine⟨_,(B4 (C5 (i:=2) G.nd rfl (.inl rfl) (Dg (Tm P w) (by rfl) T.bo Rg))
   (B5 (O4 PassesOwn.never rfl (RM K T.aN (A8 (pv 1) B3)) (PR K (n:=2) (E2 (D4 (i:=3) G.nd rfl (.inl rfl)) (E2 (D4 (i:=4) G.nd rfl (.inl rfl)) S4)))
   (B4 (K3 (PW.pt (Ev (U7 (W0 (C9 T.a2 c (Rm R) (A8 (pv 0) (A8 (pv 4) B3))))) (j4 (C6 (zEr P w V) (pv 4) (pv 2) rfl)))) (B5 Fi) C8)
   (B5 (J7 (Wc P w (zCu P w V) (pv 2) (A8 (pv 4) B3)))))))),?_⟩
  refine⟨rfl,fun p W=>?_⟩;have X:HY H (IB H p (Oi P w p [])):=HY.new W;refine A7 rfl ⟨a,A7 rfl ⟨(X.at a).seqL B,Zp (n:=b.length) (fun i σ d=>∃m v4,σ = [some (.ref n),some (.ref a),some (.ref p),m,v4]/\HY H d/\d p=some (Oi P w p (Jm (b.take i)))) ⟨_,_,rfl,X,A9⟩ ?_ ?_ ?_ ?_⟩⟩
  .rintro i σ d C ⟨J,m,rfl,g,o⟩;exact⟨_,_,(g.at a).seqL B,by unfold G8;rw[AH,AC C];rfl⟩
  .rintro σ d ⟨J,m,rfl,g,o⟩;exact⟨_,(g.at a).seqL B,by unfold G8;rw[AB]⟩
  .rintro i σ d v H' C ⟨J,m,rfl,g,o⟩ ⟨t,x,rfl,Y,rfl,r⟩;have r:=r _ ((g.at a).seqL B);have j:b[i]?=some b[i]:=AC C;unfold G8 at r;rw[AH,j]at r;cases r;have Z:b[i]∈b:=FU C;obtain⟨L,M⟩:=hN _ Z;have N:p≠t:=B0 o Y;have D:HY H (IB d t (.tup [.int i,.ref b[i].1])):=g.trans (HY.new Y);have l:=D _ _ (U _ Z);refine⟨t,A7 rfl ⟨JM.of A9,rfl,_,A7 rfl (C0 rfl rfl ?_)⟩⟩;refine A7 rfl (A7 rfl ⟨n,S,b[i].1,b[i].2.1,b[i].2.2,rfl,(D.at n).seqL hS,l,L,M,A7 rfl ?_⟩);refine u0 ?_;have O:(IB d t (.tup [.int i,.ref b[i].1])) p=some (Oi P w p (Jm (b.take i))):=by rw[B6 N];exact o
   have u:Mo (IB d t (.tup [.int i,.ref b[i].1])) (Jm (b.take i)):=Ux (E5 D fun q l=>U q (C_ l));have y:∀q∈Jm (b.take i),q.1≠[.inr b[i].2.1,.inr b[i].2.2]:=fun q l e=>by
    obtain⟨z,hz,rfl⟩:=AR.mp l;have e':z.2=b[i].2:=by
     obtain⟨z1,z2,z3⟩:=z;simp only[List.cons.injEq,Sum.inr.injEq,and_true]at e;exact Prod.ext e.1 e.2
    have h1:(b.map fun q=>q.2)[i]?=some b[i].2:=by rw[AH,j];rfl
    refine Cl hD h1 ?_;rw[<-List.map_take,<-e'];exact AR.mpr ⟨z,hz,rfl⟩
   refine A7 rfl (A7 rfl ⟨p,b[i].1,_,[.inr b[i].2.1,.inr b[i].2.2],rfl,rfl,O,l,u,y,A7 rfl ?_⟩);refine u0 ?_;refine A7 rfl ⟨⟨p,rfl,.inr (.inr ⟨_,O⟩)⟩,A7 rfl ⟨p,b[i].1,_,[.inr b[i].2.1,.inr b[i].2.2],rfl,rfl,O,l,u,y,?_,?_⟩⟩
   .unfold Jm;rw[AB,AX];omega
   .refine⟨_,A7 rfl ⟨D.upd W,?_⟩⟩;rw[A9,IT j];unfold Jm;rw[AO];rfl
  .rintro σ d ⟨J,m,rfl,g,o⟩;exact k d g
end
def la(a:A0 (IW×V))(n:Str):A4:=match U2 a (.inr n)with | some (.ref l)=>l | _=>0
def Qh(a:A0 (IW×V))(n m:Str)(v:V):U2 (By a (Sum.inr n:IW) v) (.inr m)=if m=n then some v else U2 a (.inr m):=by
 rw[z8];by_cases e:m=n
 .rw[AK e,AK (by rw[e])]
 .rw[AJ e,AJ (fun z=>e (Sum.inr.inj z))]
def Dj(a:A0 (IW×V))(n m:Str)(p:A4):la (By a (.inr n) (.ref p)) m=if m=n then p else la a m:=by
 unfold la;rw[Qh];by_cases e:m=n
 .rw[AK e,AK e]
 .rw[AJ e,AJ e]
structure DOk(H0:Hp)(kvs:A0 (IW×V))(ns:A0 Str):Prop where
 val:∀n∈ns,U2 kvs (.inr n)=some (.ref (la kvs n))
 inj:∀n∈ns,∀m∈ns,la kvs n=la kvs m->n=m
 fr:∀n∈ns,H0 (la kvs n)=none
def Wl{K:PySem.W.Frag}{J:It}{a:A4}{ns:A0 Str}{H:Hp}{σ:St}{Q:St->Hp->Prop}(as:LB J (ns.map V.str) a H)(hσ:∃v,σ = [v])(I:ns.Nodup)(L:ns.length<=1000){D:A4}(A:H D=none)
  (q:∀σ b H',HY H H'->H' D=some (.dK b)->DOk H b ns->(∀n∈ns,H' (la b n)=some (.lst []))->(∀n∈ns,la b n≠D)->Q σ H') :
  Jx (V7 0) Cb (Tz D (Tr 0) (zFg Zs)) J σ (IB H D (.dK [])) Q:=by
 obtain⟨v,rfl⟩:=hσ;refine Y3 as (fun i σ f=>(∃v,σ = [v])/\∃b,HY H f/\f D=some (.dK b)/\b.length<=i/\DOk H b (ns.take i)/\(∀n∈ns.take i,f (la b n)=some (.lst []))/\∀n∈ns.take i,la b n≠D)
  ⟨⟨v,rfl⟩,[],HY.new A,A9,CF _,⟨fun n h=>by simp at h,fun n h=>by simp at h,fun n h=>by simp at h⟩,fun n h=>by simp at h,fun n h=>by simp at h⟩ (fun i σ f _ ⟨_,b,l,_⟩=>l.at a) ?_ ?_
 .rintro i σ f x N s ⟨⟨v,rfl⟩,b,l,w,C,t,o,y⟩ E;rw[AH]at s;have F:i<ns.length:=by
   rcases Nat.lt_or_ge i ns.length with z | z
   .exact z
   .rw[EN z]at s;cases s
  have u:ns[i]?=some ns[i]:=AC F;rw[u]at s;cases s;refine Mc ?_;refine A7 rfl ⟨CF _,fun p r=>?_⟩;have g:D≠p:=B0 w r;refine⟨b,.inr ns[i],by rw[B6 g];exact w,rfl,by rw[sizeLine_eq];omega,E _ _ ⟨⟨_,rfl⟩,By b (.inr ns[i]) (.ref p),?_,A9,?_,⟨?_,?_,?_⟩,?_,?_⟩⟩
  .exact(l.trans (HY.new r)).upd A
  .have:=U0 b (Sum.inr ns[i]:IW) (.ref p);omega
  all_goals rw[IT u]
  .intro n c;rw[Qh,Dj];by_cases e:n=ns[i]
   .rw[AK e,AK e]
   .rw[AJ e,AJ e];rcases A_.mp c with z | z
    .exact t.val n z
    .exact absurd (AF.mp z) e
  .intro n c m B;rw[Dj,Dj];have d:∀k∈ns.take i ++ [ns[i]],k≠ns[i]->k∈ns.take i:=fun k G e=>(A_.mp G).elim id fun z=>absurd (AF.mp z) e;by_cases e:n=ns[i]
   .by_cases j:m=ns[i]
    .exact fun _=>e.trans j.symm
    .rw[AK e,AJ j];intro z;have:=o m (d m B j);rw[<-z,r]at this;cases this
   .by_cases j:m=ns[i]
    .rw[AJ e,AK j];intro z;have:=o n (d n c e);rw[z,r]at this;cases this
    .rw[AJ e,AJ j];exact t.inj n (d n c e) m (d m B j)
  .intro n c;rw[Dj];by_cases e:n=ns[i]
   .rw[AK e];exact l.free r
   .rw[AJ e];rcases A_.mp c with z | z
    .exact t.fr n z
    .exact absurd (AF.mp z) e
  .intro n c;rw[Dj];by_cases e:n=ns[i]
   .rw[AK e,B6 g.symm,A9]
   .rw[AJ e];rcases A_.mp c with z | z
    .rw[B6 (y n z),B6 (B0 (o n z) r)];exact o n z
    .exact absurd (AF.mp z) e
  .intro n c;rw[Dj];by_cases e:n=ns[i]
   .rw[AK e];exact g.symm
   .rw[AJ e];rcases A_.mp c with z | z
    .exact y n z
    .exact absurd (AF.mp z) e
 .rintro σ f ⟨_,b,l,w,C,t,o,y⟩;rw[AB]at *;rw[CI]at *;exact q σ b f l w t o y
def C3(a:A0 JD)(n:Str):A0 Str:=(a.filter fun q=>decide (q.2.2=n)).map fun q=>q.2.1
def D9(a:A0 JD)(n:Str):A0 Str:=(a.filter fun q=>decide (q.2.1=n)).map fun q=>q.2.2
def Bt(a:A0 JD)(q:JD)(n:Str):C3 (a ++ [q]) n=C3 a n ++(if q.2.2=n then [q.2.1]else []):=by
 unfold C3;rw[EA,AO];by_cases e:q.2.2=n
 .rw[AK e,DQ,AK (BD e)];rfl
 .rw[AJ e,DQ,AJ (by simp[e])];rfl
def Eh(a:A0 JD)(q:JD)(n:Str):D9 (a ++ [q]) n=D9 a n ++(if q.2.1=n then [q.2.2]else []):=by
 unfold D9;rw[EA,AO];by_cases e:q.2.1=n
 .rw[AK e,DQ,AK (BD e)];rfl
 .rw[AJ e,DQ,AJ (by simp[e])];rfl
def wf(a b c d:A4):A0 (Str×V):=[("names",.ref a),("strikes",.ref b),("strikers_by_name",.ref c),("struck_by_name",.ref d)]
structure RO(ns:A0 Str)(qs:A0 JD):Prop where
 nd:ns.Nodup
 len:ns.length<=100
 srt:ns.Pairwise ON
 mem:∀q∈qs,q.2.1∈ns/\q.2.2∈ns
 ndq:(qs.map fun q=>q.2).Nodup
 lenq:qs.length<=200
 srq:qs.Pairwise QI
structure JL(C:A4)(H:Hp)(x:A4)(ns:A0 Str)(qs:A0 JD):Prop where
 ok:RO ns qs
 ex:∃dx a b c d kc kd,H x=some (.ins C dx (wf a b c d))/\H a=some (.lst (ns.map V.str))/\H b=some (.lst (G8 qs))/\(∀q∈qs,E1 H q)/\H c=some (.dK kc)/\H d=some (.dK kd) /\
  (∀n∈ns,∃l,U2 kc (.inr n)=some (.ref l)/\H l=some (.lst ((C3 qs n).map V.str)))/\∀n∈ns,∃l,U2 kd (.inr n)=some (.ref l)/\H l=some (.lst ((D9 qs n).map V.str))
section
variable{P:F8}{w:H_}{K:PySem.W.Frag}{mg:Str->A6 A3}{base:IA}
theorem V6:IC ["self", "names", "strikes", "one", "other"] ["self", "names", "strikes"] (B8 LH):=JX
def Kg(K:PySem.W.Frag)(C:A4):Sp:=fun g H Q _=>∃(x h n:A4) (b:A0 Str) (a:A4) (c:A0 JD),g = [.ref x,.ref n,.ref a]/\H x=some (.ins C h [])/\H n=some (.lst (b.map V.str))/\W3 b /\
 H a=some (.lst (G8 c))/\(∀q∈c,E1 H q)/\LW b c/\∀d e f,d.Perm b->d.Pairwise ON->e.Perm c->e.Pairwise QI->Sm [x] H f->JL C f x d e->Q .non f
theorem Jc(T:Tx K mg):IP P w K mg base I_ 3 T.bq T.bp ["self", "names", "strikes"] (Kg K T.af):=by
 have y:=Ck (P:=P) (w:=w) (base:=base) T;have r:=y3 (P:=P) (w:=w) (base:=base) T;have sc:=V6;refine T.br.ok V6 (fun vs H Q E h=>?_) (fun cdv A outer s H vs Q E hr h=>?_)
 .obtain⟨x,g,n,ss,a,ps,rfl,_⟩:=h;rfl
 .obtain⟨x,g,n,ss,a,ps,rfl,hx,hS,hN,hP,hI,hO,k⟩:=h;have hu:=Y9 hr;refine⟨_,(B4 (J7 (C9 T.aU y (Rm hr) (A8 (pv 1) B3)))
   (B4 (J7 (C9 T.aO r (Rm hr) (A8 (pv 1) (A8 (pv 2) B3))))
   (B4 (PQ K (pv 0) (E8 (Lx K) T.aZ W7 (A8 (pv 1) B3)))
   (B4 (PQ K (pv 0) (E8 (Kw K) T.aZ W7 (A8 (pv 2) B3)))
   (B4 (PQ K (pv 0) (Ox (N':=["name"]) (cap:=[none]) (cl:=[]) (P9 trivial trivial) rfl (MZ K (NJ K (pv 0))) (fun _ _ _ _=>by exact⟨(MI 0),K1,(pv 0),(M8 B3)⟩)))
   (B4 (PQ K (pv 0) (Ox (N':=["name"]) (cap:=[none]) (cl:=[]) (P9 trivial trivial) rfl (MZ K (NJ K (pv 0))) (fun _ _ _ _=>by exact⟨(MI 0),K1,(pv 0),(M8 B3)⟩)))
   (B5 (O4 PassesOwn.never rfl (MZ K (NJ K (pv 0))) (PR K (n:=2) (E2 (D4 (i:=3) sc.nd rfl (.inl rfl)) (E2 (D4 (i:=4) sc.nd rfl (.inl rfl)) S4)))
   (B4 (J7 (Hl K PySem.F.plainAttrs_list PySem.F.slot_list_append PySem.F.type_list_append K4 (K7 hu (NJ K (pv 0)) (pv 4) (fun _ _=>rfl)) (A8 (pv 3) B3)))
   (B5 (J7 (Hl K PySem.F.plainAttrs_list PySem.F.slot_list_append PySem.F.type_list_append K4 (K7 hu (NJ K (pv 0)) (pv 3) (fun _ _=>rfl)) (A8 (pv 4) B3))))))))))))),?_⟩
  obtain⟨hN1,hN2,hN3⟩:=id hN;obtain⟨hO1,hO2,hO3⟩:=id hO;refine B9 fun Z1 hZ1=>?_;refine A7 rfl ⟨n,ss,rfl,IG.of hS,hN,fun H1 s1=>?_⟩;refine hZ1 _ _ (B9 fun Z2 hZ2=>?_);refine A7 rfl (A7 rfl ⟨n,ss,a,ps,rfl,IG.of (s1 _ _ hS),IG.of (s1 _ _ hP),E5 s1 hI,hO,fun H2 s2=>?_⟩);refine hZ2 _ _ (B9 fun Z3 hZ3=>?_);have s12:=s1.trans s2;refine A7 rfl ⟨n,ss,rfl,IG.of (s12 _ _ hS),fun j p hl1 p1 w1=>?_⟩;have O:x≠j:=B0 (s12 _ _ hx) hl1;refine A7 rfl ⟨x,T.af,g,[],rfl,by rw[B6 O];exact s12 _ _ hx,T.am,T.aR,by decide,?_⟩;have hxa:a≠x:=R9 hP hx (by intro z;cases z);have k3:Sm [x] H (IB (IB H2 j (.lst (p.map V.str))) x (.ins T.af g (P8 "names" (.ref j) []))):=(Sm.new s12.sm hl1).upd (by simp);have e3:(IB (IB H2 j (.lst (p.map V.str))) x (.ins T.af g (P8 "names" (.ref j) []))) j=some (.lst (p.map V.str)):=by rw[B6 O.symm,A9]
  generalize hH3:IB (IB H2 j (.lst (p.map V.str))) x (.ins T.af g (P8 "names" (.ref j) []))=H3 at k3 e3⊢;refine hZ3 _ _ (B9 fun Z4 hZ4=>?_);have x3:H3 x=some (.ins T.af g [("names",.ref j)]):=by rw[<-hH3,A9];rfl
  have t:∀{b:A4},b≠x->b∉[x]:=fun h z=>h (AF.mp z);have X:∀q∈ps,E1 H3 q:=fun q I=>k3 _ _ (hI q I) (t (R9 (hI q I) hx (by intro z;cases z)));refine A7 rfl ⟨a,ps,rfl,IG.of (k3 _ _ hP (t hxa)),X,fun u C hl2 p2 w2=>?_⟩;have R:x≠u:=B0 x3 hl2;refine A7 rfl ⟨x,T.af,g,[("names",.ref j)],rfl,by rw[B6 R];exact x3,T.am,T.a6,by simp,?_⟩;have k4:Sm [x] H3 (IB (IB H3 u (.lst (G8 C))) x (.ins T.af g (P8 "strikes" (.ref u) [("names",.ref j)]))):=(Sm.new (Sm.refl _ _) hl2).upd (by simp);have e4:(IB (IB H3 u (.lst (G8 C))) x (.ins T.af g (P8 "strikes" (.ref u) [("names",.ref j)]))) u=some (.lst (G8 C)):=by rw[B6 R.symm,A9]
  have U:(IB (IB H3 u (.lst (G8 C))) x (.ins T.af g (P8 "strikes" (.ref u) [("names",.ref j)]))) x=some (.ins T.af g [("names",.ref j),("strikes",.ref u)]):=by rw[A9];rfl
  refine hZ4 _ _ ?_;show RG _ _ _ _ (IB (IB H3 u (.lst (G8 C))) x (.ins T.af g (P8 "strikes" (.ref u) [("names",.ref j)])));generalize IB (IB H3 u (.lst (G8 C))) x (.ins T.af g (P8 "strikes" (.ref u) [("names",.ref j)]))=H4 at k4 e4 U⊢;have f4:H4 j=some (.lst (p.map V.str)):=k4 _ _ e3 (t O.symm);have B:∀q∈C,E1 H4 q:=fun q I=>k4 _ _ (X q (p2.mem_iff.mp I)) (t (R9 (X q (p2.mem_iff.mp I)) x3 (by intro z;cases z)));have ndn:p.Nodup:=p1.nodup_iff.mpr hN2;have lnn:p.length<=1000:=by rw[p1.length_eq];omega
  refine B9 fun Z5 hZ5=>?_;refine A7 rfl ⟨x,T.af,g,_,A7 rfl ⟨U,T.am,T.aR,rfl,j,rfl,⟨_,IG.of f4⟩,fun c hc=>Wl (K:=K) (MN (IG.of f4)) ⟨_,rfl⟩ ndn lnn hc fun _ L H5 s5 e5 D5 c5 n5=>?_⟩⟩;have x5:=s5 _ _ U;refine A7 rfl ⟨x,T.af,g,A7 rfl ⟨x5,T.am,T.aE,by simp,?_⟩⟩;have k6:Sm [x] H5 (IB H5 x (.ins T.af g (P8 "strikers_by_name" (.ref c) [("names",.ref j),("strikes",.ref u)]))):=(Sm.refl _ _).upd (by simp);have x6:(IB H5 x (.ins T.af g (P8 "strikers_by_name" (.ref c) [("names",.ref j),("strikes",.ref u)]))) x=some (.ins T.af g [("names",.ref j),("strikes",.ref u),("strikers_by_name",.ref c)]):=by rw[A9];rfl
  generalize IB H5 x (.ins T.af g (P8 "strikers_by_name" (.ref c) [("names",.ref j),("strikes",.ref u)]))=H6 at k6 x6⊢;refine hZ5 _ _ (B9 fun Z6 hZ6=>?_);have Y:∀{b:A4} {o:HO},H4 b=some o->b≠x->H6 b=some o:=fun e D=>k6 _ _ (s5 _ _ e) (t D);have f6:=Y f4 O.symm;have g6:=Y e4 R.symm;have c6:H6 c=some (.dK L):=k6 _ _ e5 (t (B0 U hc).symm);have cl6:∀n∈p,H6 (la L n)=some (.lst []):=fun n f=>k6 _ _ (c5 n f) (t (B0 U (D5.fr n f)).symm);refine A7 rfl ⟨x,T.af,g,_,A7 rfl ⟨x6,T.am,T.aR,rfl,j,rfl,⟨_,IG.of f6⟩,fun d hd=>Wl (K:=K) (MN (IG.of f6)) ⟨_,rfl⟩ ndn lnn hd fun _ N H7 s7 e7 D7 c7 n7=>?_⟩⟩;have x7:=s7 _ _ x6;refine A7 rfl ⟨x,T.af,g,A7 rfl ⟨x7,T.am,T.aJ,by simp,?_⟩⟩;have k8:Sm [x] H7 (IB H7 x (.ins T.af g (P8 "struck_by_name" (.ref d) [("names",.ref j),("strikes",.ref u),("strikers_by_name",.ref c)]))):=(Sm.refl _ _).upd (by simp);have x8:(IB H7 x (.ins T.af g (P8 "struck_by_name" (.ref d) [("names",.ref j),("strikes",.ref u),("strikers_by_name",.ref c)]))) x=some (.ins T.af g (wf j u c d)):=by rw[A9];rfl
  generalize IB H7 x (.ins T.af g (P8 "struck_by_name" (.ref d) [("names",.ref j),("strikes",.ref u),("strikers_by_name",.ref c)]))=H8 at k8 x8⊢;refine hZ6 _ _ ?_;have S:∀{b:A4} {o:HO},H6 b=some o->b≠x->H8 b=some o:=fun e D=>k8 _ _ (s7 _ _ e) (t D);have f8:=S f6 O.symm;have g8:=S g6 R.symm;have c8:=S c6 (B0 U hc).symm;have d8:H8 d=some (.dK N):=k8 _ _ e7 (t (B0 x6 hd).symm);have cl8:∀n∈p,H8 (la L n)=some (.lst []):=fun n f=>S (cl6 n f) (B0 U (D5.fr n f)).symm;have dl8:∀n∈p,H8 (la N n)=some (.lst []):=fun n f=>k8 _ _ (c7 n f) (t (B0 x6 (D7.fr n f)).symm);have pin8:∀q∈C,E1 H8 q:=fun q I=>S (Y (B q I) (R9 (B q I) U (by intro z;cases z))) (R9 (B q I) U (by intro z;cases z));have dif:∀n∈p,∀m∈p,la L n≠la N m:=fun n f m J=>B0 (cl6 n f) (D7.fr m J);have G:∀{b:A4} {o:HO},H4 b=some o->b≠x->(∀n∈p,b≠la L n)/\∀n∈p,b≠la N n:=fun e D=>⟨fun n f=>B0 e (D5.fr n f),fun n f=>B0 (Y e D) (D7.fr n f)⟩;have kall:Sm [x] H H8:=fun b o e D=>by
   have hb':b≠x:=fun z=>D (by simp[z]);exact S (Y (k4 _ _ (k3 _ _ e D) D) hb') hb'
  have odif:∀{b:A4} {o:HO},H b=some o->b≠x->(∀n∈p,b≠la L n)/\∀n∈p,b≠la N n:=fun e D=>G (k4 _ _ (k3 _ _ e (t D)) (t D)) D;have Z:(∀n∈p,x≠la L n)/\∀n∈p,x≠la N n:=⟨fun n f=>B0 U (D5.fr n f),fun n f=>B0 x6 (D7.fr n f)⟩;have cdif:(∀n∈p,c≠la L n)/\∀n∈p,c≠la N n:=⟨fun n f=>(n5 n f).symm,fun n f=>B0 c6 (D7.fr n f)⟩;have ddif:(∀n∈p,d≠la L n)/\∀n∈p,d≠la N n:=⟨fun n f=>(B0 (cl6 n f) hd).symm,fun n f=>(n7 n f).symm⟩;refine⟨_,rfl,x,T.af,g,_,_,rfl,x8,T.am,T.a6,rfl,u,rfl,⟨_,IG.of g8⟩,R8 (MN (IG.of g8)) (fun i σ W=>(∃v3 v4,σ = [some (.ref x),some (.ref n),some (.ref a),v3,v4]) /\
   (∀b o,H8 b=some o->((∀n∈p,b≠la L n)/\∀n∈p,b≠la N n)->W b=some o)/\(∀n∈p,W (la L n)=some (.lst ((C3 (C.take i) n).map V.str)))/\∀n∈p,W (la N n)=some (.lst ((D9 (C.take i) n).map V.str)))
   ⟨⟨_,_,rfl⟩,fun b o e _=>e,cl8,dl8⟩ ?_ ?_ ?_⟩
  .rintro i σ W _ ⟨_,M,_⟩ o e;exact M _ _ e (G e4 R.symm)
  .rintro i σ W v hv ⟨⟨v3,v4,rfl⟩,M,h2,h3⟩ D1 hD1 _;unfold G8 at hv;rw[AH]at hv;cases I:C[i]? with
   | none=>rw[I]at hv;cases hv
   | some q =>
    rw[I]at hv;cases hv;have J:q∈C:=AM I;have hq9:E1 W q:=M _ _ (pin8 q J) (G (B q J) (R9 (B q J) U (by intro z;cases z)));obtain⟨m1,m2⟩:=hO1 q (p2.mem_iff.mp J);have m1:q.2.1∈p:=p1.mem_iff.mpr m1;have m2:q.2.2∈p:=p1.mem_iff.mpr m2;have hlen:∀l:A0 JD,l.length<=200->∀n,(C3 l n).length<=200/\(D9 l n).length<=200:=fun l hl n=>by
     unfold C3 D9;rw[AB,AB];exact⟨Nat.le_trans (BP ..) hl,Nat.le_trans (BP ..) hl⟩
    have hl200:(C.take i).length<=200:=by
     rw[AX];have:=p2.length_eq;omega
    have x9:W x=some (.ins T.af g (wf j u c d)):=M _ _ x8 Z;refine⟨q.1,A7 rfl ⟨JM.of hq9,rfl,_,A7 rfl (C0 rfl rfl ?_)⟩⟩;refine A7 rfl ⟨x,T.af,g,_,A7 rfl ⟨x9,T.am,T.aE,rfl,A7 rfl ⟨c,.ref (la L q.2.2),rfl,by rw[<-D5.val _ m2];exact NA.k (k:=Sum.inr q.2.2) (M _ _ c8 cdif),.inl ⟨rfl,_,IG.of (h2 _ m2)⟩,A7 rfl ⟨_,C0 rfl rfl ⟨h2 _ m2,?_,?_⟩⟩⟩⟩⟩
    .rw[AB,sizeLine_eq];have:=(hlen _ hl200 q.2.2).1;omega
    have x10:(IB W (la L q.2.2) (.lst ((C3 (C.take i) q.2.2).map V.str ++ [.str q.2.1]))) x=some (.ins T.af g (wf j u c d)):=by rw[B6 (Z.1 _ m2)];exact x9
    have d10:(IB W (la L q.2.2) (.lst ((C3 (C.take i) q.2.2).map V.str ++ [.str q.2.1]))) d=some (.dK N):=by rw[B6 (ddif.1 _ m2)];exact M _ _ d8 ddif
    have l10:(IB W (la L q.2.2) (.lst ((C3 (C.take i) q.2.2).map V.str ++ [.str q.2.1]))) (la N q.2.1)=some (.lst ((D9 (C.take i) q.2.1).map V.str)):=by rw[B6 (dif _ m2 _ m1).symm];exact h3 _ m1
    refine A7 rfl ⟨x,T.af,g,_,A7 rfl ⟨x10,T.am,T.aJ,rfl,A7 rfl ⟨d,.ref (la N q.2.1),rfl,by rw[<-D7.val _ m1];exact NA.k (k:=Sum.inr q.2.1) d10,.inl ⟨rfl,_,IG.of l10⟩,A7 rfl ⟨_,C0 rfl rfl ⟨l10,?_,?_⟩⟩⟩⟩⟩
    .rw[AB,sizeLine_eq];have:=(hlen _ hl200 q.2.1).2;omega
    refine hD1 _ _ ⟨⟨_,_,rfl⟩,fun b o e D=>?_,fun m J=>?_,fun m J=>?_⟩
    .rw[B6 (D.2 _ m1),B6 (D.1 _ m2)];exact M b o e D
    .rw[B6 (dif m J _ m1),IT I,Bt];by_cases e:q.2.2=m
     .rw[<-e,A9,AK rfl,AO];rfl
     .rw[AJ e,CJ,B6 (fun z=>e (D5.inj _ J _ m2 z).symm)];exact h2 m J
    .rw[IT I,Eh];by_cases e:q.2.1=m
     .rw[<-e,A9,AK rfl,AO];rfl
     .rw[AJ e,CJ,B6 (fun z=>e (D7.inj _ J _ m1 z).symm),B6 (dif _ m2 _ J).symm];exact h3 m J
  .rintro σ W ⟨_,M,h2,h3⟩;have hlq:(G8 C).length=C.length:=by unfold G8;rw[AB]
   rw[hlq,CI]at h2 h3;refine k p C W p1 w1 p2 w2 (fun b o e D=>?_) ⟨⟨ndn,by rw[p1.length_eq];exact hN3,w1,fun q I=>⟨p1.mem_iff.mpr (hO1 q (p2.mem_iff.mp I)).1,p1.mem_iff.mpr (hO1 q (p2.mem_iff.mp I)).2⟩,(p2.map _).nodup_iff.mpr hO2,by rw[p2.length_eq];exact hO3,w2⟩,g,j,u,c,d,L,N,M _ _ x8 Z,M _ _ f8 (G f4 O.symm),M _ _ g8 (G e4 R.symm),fun q J=>M _ _ (pin8 q J) (G (B q J) (R9 (B q J) U (by intro z;cases z))),M _ _ c8 cdif,M _ _ d8 ddif,fun n f=>⟨_,D5.val n f,h2 n f⟩,fun n f=>⟨_,D7.val n f,h3 n f⟩⟩;have hb':b≠x:=fun z=>D (by simp[z]);exact M _ _ (kall b o e D) (odif e hb')
end
def JL.same{C:A4}{H H':Hp}{x:A4}{ns:A0 Str}{g:A0 JD}(h:JL C H x ns g)(s:HY H H'):JL C H' x ns g:=by
 obtain⟨i,j,a,b,c,d,k,m,o,p,q,r,t,u,w,y⟩:=h;exact⟨i,j,a,b,c,d,k,m,s _ _ o,s _ _ p,s _ _ q,E5 s r,s _ _ t,s _ _ u,fun n f=>let⟨l,v,e⟩:=w n f;⟨l,v,s _ _ e⟩,fun n f=>let⟨l,v,e⟩:=y n f;⟨l,v,s _ _ e⟩⟩
section
variable{P:F8}{w:H_}{K:PySem.W.Frag}{mg:Str->A6 A3}{base:IA}
theorem y7:IC ["self"] ["self"] (B8 K_):=JX
def Ht(C:A4):Sp:=fun b H Q _=>∃(x:A4) (a:A0 Str) (c:A0 JD),b = [.ref x]/\JL C H x a c/\∀l,H l=none->Q (.ref l) (IB H l (.lst (a.map V.str)))
theorem V0(T:Tx K mg):IP P w K mg base I_ 1 T.an.f T.an.fd ["self"] (Ht T.af):=by
 refine T.an.F.ok y7 (fun g H Q E h=>?_) (fun i A e s H g Q E p h=>?_)
 .obtain⟨x,j,l,rfl,_⟩:=h;rfl
 .obtain⟨x,j,l,rfl,⟨q,m,a,b,c,d,r,t,n,o,u,v,y,z,B,C⟩,k⟩:=h;refine⟨_,(B5 (C2 (o0 (T9 K) T.az Q7 (A8 (NJ K (pv 0)) B3)))),?_⟩;exact⟨_,rfl,x,T.af,m,_,_,rfl,n,T.am,T.aR,rfl,a,_,rfl,.inl (IG.of o),k⟩
theorem y0:IC ["self", "name"] ["self", "name"] (B8 KZ):=JX
def Hz(C:A4):Sp:=fun b H Q _=>∃(x:A4) (n:Str) (a:A0 Str) (c:A0 JD),b = [.ref x,.str n]/\JL C H x a c/\n∈a/\Q .non H
theorem V5(T:Tx K mg):IP P w K mg base I_ 1 T.ao.f T.ao.fd ["self", "name"] (Hz T.af):=by
 refine T.ao.F.ok y0 (fun g H Q E h=>?_) (fun i A e s H g Q E r h=>?_)
 .obtain⟨x,n,j,l,rfl,_⟩:=h;rfl
 .obtain⟨x,n,j,l,rfl,⟨t,m,a,b,c,d,u,v,o,p,y,z,B,C,D,G⟩,q,k⟩:=h;refine⟨_,(B5 (K3 (C6 (Ma K) (pv 1) (NJ K (pv 0)) rfl) (B5 Fi) C8)),?_⟩;refine A7 rfl (A7 rfl ⟨x,T.af,m,_,A7 rfl ⟨o,T.am,T.aR,rfl,Cr (.inl (IG.of p)) ⟨_,rfl,?_⟩⟩⟩);rw[BD q];exact u0 k
theorem Dv:IC ["self", "name"] ["self", "name"] (B8 MC):=JX
def Ry(C:A4):Sp:=fun c H Q _=>∃(x:A4) (n:Str) (a:A0 Str) (b:A0 JD),c = [.ref x,.str n]/\JL C H x a b/\n∈a/\∀l,H l=none->Q (.ref l) (IB H l (.lst ((D9 b n).map V.str)))
theorem Fk(T:Tx K mg):IP P w K mg base I_ 2 T.aM.f T.aM.fd ["self", "name"] (Ry T.af):=by
 have g:=V5 (P:=P) (w:=w) (base:=base) T;refine T.aM.F.ok Dv (fun y H Q E h=>?_) (fun z A i s H y Q E j h=>?_)
 .obtain⟨x,n,o,p,rfl,_⟩:=h;rfl
 .obtain⟨x,n,o,p,rfl,q,r,k⟩:=h;have B:=Y9 j;obtain⟨G,t,a,b,c,d,I,J,u,L,M,N,O,C,R,D⟩:=id q;refine⟨_,(B4 (J7 (D6 (pv 0) T.am T.ao.m g (Rm j) T.ao.b .nil J8 (A8 (pv 1) B3)))
   (B5 (C2 (o0 (T9 K) T.az Q7 (A8 (K7 B (NJ K (pv 0)) (pv 1) (fun _ _=>rfl)) B3))))),?_⟩
  refine A7 rfl ⟨x,t,A7 rfl ⟨u,rfl,A7 rfl ⟨x,n,o,p,rfl,q,r,?_⟩⟩⟩;obtain⟨l,v,e⟩:=D n r;exact⟨_,rfl,x,T.af,t,_,_,rfl,u,T.am,T.aJ,rfl,_,rfl,d,_,rfl,by rw[<-v];exact NA.k (k:=Sum.inr n) C,l,_,rfl,.inl (IG.of e),k⟩
theorem At:IC ["self", "name"] ["self", "name"] (B8 LF):=JX
def Iq(C:A4):Sp:=fun c H Q _=>∃(x:A4) (n:Str) (a:A0 Str) (b:A0 JD),c = [.ref x,.str n]/\JL C H x a b/\n∈a/\∀l,H l=none->Q (.ref l) (IB H l (.lst ((C3 b n).map V.str)))
theorem Bn(T:Tx K mg):IP P w K mg base I_ 2 T.aC.f T.aC.fd ["self", "name"] (Iq T.af):=by
 have g:=V5 (P:=P) (w:=w) (base:=base) T;refine T.aC.F.ok At (fun y H Q E h=>?_) (fun z A i s H y Q E j h=>?_)
 .obtain⟨x,n,o,p,rfl,_⟩:=h;rfl
 .obtain⟨x,n,o,p,rfl,q,r,k⟩:=h;have B:=Y9 j;obtain⟨G,t,a,b,c,d,I,J,u,L,M,N,C,O,D,R⟩:=id q;refine⟨_,(B4 (J7 (D6 (pv 0) T.am T.ao.m g (Rm j) T.ao.b .nil J8 (A8 (pv 1) B3)))
   (B5 (C2 (o0 (T9 K) T.az Q7 (A8 (K7 B (NJ K (pv 0)) (pv 1) (fun _ _=>rfl)) B3))))),?_⟩
  refine A7 rfl ⟨x,t,A7 rfl ⟨u,rfl,A7 rfl ⟨x,n,o,p,rfl,q,r,?_⟩⟩⟩;obtain⟨l,v,e⟩:=D n r;exact⟨_,rfl,x,T.af,t,_,_,rfl,u,T.am,T.aE,rfl,_,rfl,c,_,rfl,by rw[<-v];exact NA.k (k:=Sum.inr n) C,l,_,rfl,.inl (IG.of e),k⟩
theorem Df:IC ["_law_cell", "_law_k", "_law_m"] ["_law_cell", "_law_k"] (B8 NQ):=JX
def zCl:Sp:=fun b H Q _=>∃(a k:Int),b = [.int a,.int k]/\0<=k/\k<=2000000/\∀m:Int,0<=m->m<1999999973->Q (.int m) H
theorem Mz(T:Tx K mg):IP P w K mg base I_ 1 T.a7.f T.a7.fd ["_law_cell", "_law_k"] zCl:=by
 have e:=Df;refine T.a7.F.ok Df (fun g H Q E h=>?_) (fun j A b s H g Q E l h=>?_)
 .obtain⟨c,k,rfl,_⟩:=h;rfl
 .obtain⟨a,k,rfl,n,o,q⟩:=h;refine⟨_,(B4 (C5 (i:=2) e.nd rfl (.inl rfl) (C7 Gx (C7 Dl (C7 u8 (C7 u8 (C7 Gx (pv 0) B7) (C7 Dl (C7 Dl (pv 1) (pv 1)) B7)) B7) B7) B7))
   (B5 (C2 (C7 Gx (C7 Dl (pv 2) (pv 2)) B7)))),?_⟩
  refine A7 rfl (C0 rfl rfl ⟨(show(0:Int)<2147483629 by decide),A7 rfl (A7 rfl (C0 rfl rfl ⟨.inl ⟨by omega,by omega⟩,C0 rfl rfl ⟨.inr ⟨by decide,by decide⟩,C0 rfl rfl (C0 rfl rfl (C0 rfl rfl ⟨.inr ⟨by decide,by decide⟩,C0 rfl rfl ⟨(show(0:Int)<2147483647 by decide),?_⟩⟩))⟩⟩))⟩);generalize d:(a % 2147483629+k*k*7919+11)*48271 % 2147483647=m;have p:0<=m:=by rw[<-d];exact GG _ (by decide)
  have r:m<2147483647:=by rw[<-d];exact FE _ (by decide)
  exact⟨_,rfl,_,rfl,_,_,rfl,rfl,.inl ⟨by omega,by omega⟩,_,_,rfl,rfl,(show(0:Int)<1999999973 by decide),q _ (GG _ (by decide)) (FE _ (by decide))⟩
def IL(H:Hp)(p:A4)(c:Int):Prop:=∃a b:Int,H p=some (.lst [.int a,.int b,.int c])/\0<=c
theorem IL.isS{H:Hp}{p:A4}{c:Int}(h:IL H p c):(H p).isSome=true:=by
 obtain⟨_,_,e,_⟩:=h;rw[e];rfl
theorem IL.get{H:Hp}{p:A4}{c:Int}(h:IL H p c):H p=some ((H p).get h.isS):=(Option.some_get _).symm
theorem IL.cast{H:Hp}{p:A4}{c a:Int}(h:IL H p c)(e:c=a):IL H p a:=e▸h
theorem IL.upd{H:Hp}{p a:A4}{c:Int}{o:HO}(h:IL H p c)(n:p≠a):IL (L2.IB H a o) p c:=by
 obtain⟨x,y,e,z⟩:=h;exact⟨x,y,by rw[B6 n];exact e,z⟩
theorem IL.same{H H':Hp}{p:A4}{c:Int}(h:IL H p c)(s:HY H H'):IL H' p c:=by
 obtain⟨x,y,e,z⟩:=h;exact⟨x,y,s _ _ e,z⟩
theorem zEx(c:Bool):-(2^64) <(if c=true then(1:Int)else 0)/\(if c=true then(1:Int)else 0)<2^64:=by cases c<;>exact⟨by decide,by decide⟩
theorem Bl:IC ["_law_script", "_law_k", "_law_cell"] ["_law_script", "_law_k"] (B8 NF):=JX
def Zd(K:PySem.W.Frag):Sp:=fun b H Q _=>∃(p:A4) (c:A0 Int) (k:Nat),b = [.ref p,.int (k:Int)]/\IG K H p (c.map V.int)/\k<=1000/\∀l a,H l=none->HY H a->IL a l 0->Q (.ref l) a
theorem Jd(T:Tx K mg):IP P w K mg base I_ 1 T.a9.f T.a9.fd ["_law_script", "_law_k"] (Zd K):=by
 have o:=Bl;refine T.a9.F.ok Bl (fun r H Q E h=>?_) (fun t A g s H r Q E v h=>?_)
 .obtain⟨p,b,k,rfl,_⟩:=h;rfl
 .obtain⟨p,b,k,rfl,n,x,q⟩:=h;refine⟨_,(B4 (C5 (i:=2) o.nd rfl (.inl rfl) (Ul (C6 zBb (pv 1) (E8 (P4 K) T.as O8 (A8 (pv 0) B3)) (D8 _)) (E7 (LT K) (pv 0) (pv 1) (fun _ _=>rfl)) B7))
   (B5 (C2 (M8 (A8 (C7 Dl (E8 Lj T.bx Vz (A8 (pv 2) B3)) (o0 Rc T.bH zBw (A8 (P1 zEt (E8 Lj T.bx Vz (A8 (pv 2) B3)) (C7 zCx B7 B7) (D8 _)) B3))) (A8 (C7 u8 (pv 2) (C7 Dl B7 (pv 1))) (A8 B7 B3))))))),?_⟩
  refine A7 rfl (A7 rfl (C0 (a:=p) rfl (.inl n) (C0 rfl rfl (A7 rfl ?_))));have j:decide ((k:Int) <((b.map V.int).length:Int))=true->∃c:Int,OK (b.map V.int) (k:Int)=some (.int c):=fun d=>by
   have d:(k:Int) <((b.map V.int).length:Int):=CC d;rw[AB]at d;have m:b[k]?=some (b[k]'(by omega)):=AC (by omega);exact⟨_,K0 (by rw[AH,m];rfl)⟩
  refine T8 (fun d=>?_) (fun d=>?_)
  .obtain⟨c,u⟩:=j d;refine A7 rfl (A7 rfl ⟨p,_,C0 rfl rfl ⟨n,u,?_⟩⟩)
   (repeat first | refine⟨_,rfl,?_⟩ | refine⟨_,_,rfl,rfl,?_⟩)
   refine⟨⟨by decide,by decide,by decide⟩,?_⟩
   (repeat first | refine⟨_,rfl,?_⟩ | refine⟨_,_,rfl,rfl,?_⟩)
   refine .inr ⟨_,rfl,?_⟩
   (repeat first | refine⟨_,rfl,?_⟩ | refine⟨_,_,rfl,rfl,?_⟩)
   refine⟨.inr ?_,?_⟩
   .exact zEx _
   (repeat first | refine⟨_,rfl,?_⟩ | refine⟨_,_,rfl,rfl,?_⟩)
   refine⟨.inl ⟨by decide,by decide⟩,?_⟩
   (repeat first | refine⟨_,rfl,?_⟩ | refine⟨_,_,rfl,rfl,?_⟩)
   exact⟨by show 3<=sizeLine;decide,fun l e=>q l _ e (HY.new e) ⟨_,_,A9,by decide⟩⟩
  .skip;(repeat first | refine⟨_,rfl,?_⟩ | refine⟨_,_,rfl,rfl,?_⟩)
   refine⟨⟨by decide,by decide,by decide⟩,?_⟩
   (repeat first | refine⟨_,rfl,?_⟩ | refine⟨_,_,rfl,rfl,?_⟩)
   refine .inr ⟨_,rfl,?_⟩
   (repeat first | refine⟨_,rfl,?_⟩ | refine⟨_,_,rfl,rfl,?_⟩)
   refine⟨.inr ?_,?_⟩
   .exact zEx _
   (repeat first | refine⟨_,rfl,?_⟩ | refine⟨_,_,rfl,rfl,?_⟩)
   refine⟨.inl ⟨by decide,by decide⟩,?_⟩
   (repeat first | refine⟨_,rfl,?_⟩ | refine⟨_,_,rfl,rfl,?_⟩)
   exact⟨by show 3<=sizeLine;decide,fun l e=>q l _ e (HY.new e) ⟨_,_,A9,by decide⟩⟩
theorem Av:IC ["_law_left_here", "_law_many", "_law_digit"] ["_law_left_here", "_law_many"] (B8 NE):=JX
def Xm:Sp:=fun e H Q _=>∃(p:A4) (c a:Int),e = [.ref p,.int a]/\IL H p c/\c<=1000000/\0<a/\a<=1000000 /\
 ∀(d:Nat) b,(d:Int)<a->Sm [p] H b->IL b p (c+1)->Q (.int (d:Int)) b
theorem O6(T:Tx K mg):IP P w K mg base I_ 2 T.aj.f T.aj.fd ["_law_left_here", "_law_many"] Xm:=by
 have g:=Mz (P:=P) (w:=w) (base:=base) T;have x:=Av;refine T.aj.F.ok Av (fun y H Q E h=>?_) (fun z A t s H y Q E u h=>?_)
 .obtain⟨p,c,m,rfl,_⟩:=h;rfl
 .obtain⟨p,c,k,rfl,⟨a,b,e,C⟩,D,l,G,q⟩:=h;refine⟨_,(B4 (Cv (C7 u8 (E7 (LT K) (pv 0) B7 (fun _ _=>rfl)) B7) (Lw (pv 0) B7 Ad))
   (B4 (K3 (C6 zEu (E7 (LT K) (pv 0) B7 (fun _ _=>rfl)) B7 (D8 _)) (B4 (C5 (i:=2) x.nd rfl (.inl rfl) (C7 Gx (E7 (LT K) (pv 0) B7 (fun _ _=>rfl)) (pv 1)))
   (B4 (Cv (C7 Pk (E7 (LT K) (pv 0) B7 (fun _ _=>rfl)) (pv 1)) (Lw (pv 0) B7 Ad))
   (B5 (C2 (pv 2))))) C8)
   (B5 (C2 (C7 Gx (C7 Pk (C9 T.a7 g (Rm u) (A8 (C9 T.a7 g (Rm u) (A8 (E7 (LT K) (pv 0) B7 (fun _ _=>rfl)) (A8 (E7 (LT K) (pv 0) B7 (fun _ _=>rfl)) B3))) (A8 (C7 u8 (E7 (LT K) (pv 0) B7 (fun _ _=>rfl)) B7) B3))) B7) (pv 1)))))),?_⟩
  have v:∀d:Int,0<=d->d<k->∀o r,Q (.int d) (IB (IB H p (.lst [.int a,.int b,.int (c+1)])) p (.lst [.int o,.int r,.int (c+1)]))/\Q (.int d) (IB H p (.lst [.int o,.int r,.int (c+1)])):=fun d B j o r=>by
   obtain⟨n,rfl⟩:=Int.eq_ofNat_of_zero_le B;exact⟨q n _ j (((Sm.refl _ _).upd (by simp)).upd (by simp)) ⟨o,r,A9,by omega⟩,q n _ j ((Sm.refl _ _).upd (by simp)) ⟨o,r,A9,by omega⟩⟩
  refine A7 rfl ⟨p,_,C0 rfl rfl ⟨IG.of e,rfl,C0 rfl rfl (A7 rfl ⟨p,_,_,2,rfl,rfl,e,rfl,?_⟩)⟩⟩;refine A7 rfl ⟨p,_,C0 rfl rfl ⟨IG.of A9,rfl,C0 rfl rfl (A7 rfl ?_)⟩⟩;refine T8 (fun j=>?_) (fun j=>?_)
  .have j:(0:Int)<a:=CC j;refine A7 rfl ⟨p,_,C0 rfl rfl ⟨IG.of A9,rfl,A7 rfl (C0 rfl rfl ⟨l,?_⟩)⟩⟩;refine A7 rfl ⟨p,_,C0 rfl rfl ⟨IG.of A9,rfl,A7 rfl (C0 rfl rfl ⟨⟨l,by omega⟩,A7 rfl ⟨p,_,_,0,rfl,rfl,A9,rfl,?_⟩⟩)⟩⟩;exact⟨_,rfl,(v _ (GG _ (by omega)) (FE _ l) _ _).1⟩
  .refine A7 rfl ⟨p,_,C0 rfl rfl ⟨IG.of A9,rfl,A7 rfl ⟨p,_,C0 rfl rfl ⟨IG.of A9,rfl,_,A7 rfl ⟨by omega,by omega,fun I J L=>?_⟩⟩⟩⟩⟩;refine A7 rfl ⟨p,_,C0 rfl rfl ⟨IG.of A9,rfl,C0 rfl rfl ⟨_,A7 rfl ⟨by omega,by omega,fun M N O=>?_⟩⟩⟩⟩;refine C0 rfl rfl ⟨⟨by decide,by decide⟩,A7 rfl (C0 rfl rfl ⟨l,?_⟩)⟩;exact(v _ (GG _ (by omega)) (FE _ l) _ _).2
end
def six{d n:Nat}(h:d<n):seqIndex? (d:Int) n=some d:=by
 unfold seqIndex?;simp;omega
def JN{α:Type}{l:A0 α}{i:Nat}{x:α}(h:l[i]?=some x):(x::l.eraseIdx i).Perm l:=ST.JN h
def Al{α β:Type}(f:α->β):∀(l:A0 α) (i:Nat),(l.map f).eraseIdx i =(l.eraseIdx i).map f
 | [],_=>rfl
 | _::_,0=>rfl
 | a::l,i+1=>by
  show f a ::(l.map f).eraseIdx i=f a ::(l.eraseIdx i).map f;rw[Al f l i]
def Uc{a b c:A0 Str}(d:(b++c).Perm a)(h1:∀x∈a,Q0 x=true)(h2:a.Nodup)(f:a.length<=100):W3 c:=by
 refine⟨fun x e=>h1 x (d.mem_iff.mp (BI _ e)),?_,?_⟩
 .exact(DX.mp (d.nodup_iff.mpr h2)).2.1
 .have:=d.length_eq;rw[AV]at this;omega
def Kz{c a b:A0 Str}{d:Nat}{x:Str}(e:(a++b).Perm c)(h:a[d]?=some x):(a.eraseIdx d ++(b ++ [x])).Perm c:=by
 refine List.Perm.trans ?_ e;rw[<-BF];refine CT.trans ?_;rw[<-BF];exact(JN h).append_right b
def JR{p b:A4}{H H':Hp}{o:HO}(h:Sm [p] H H')(e:H b=some o)(n:b≠p):H' b=some o:=h b o e fun z=>n (AF.mp z)
section
variable{P:F8}{w:H_}{K:PySem.W.Frag}{mg:Str->A6 A3}{base:IA}
def OE:A0 Str:=["b", "aa", "zebra", "c", "quartzes", "ab", "m", "knows", "d", "mm", "likes", "z", "a", "ba", "abcdefgh", "y", "zz", "e", "x", "f"]
abbrev NN:Str := "b aa zebra c quartzes ab m knows d mm likes z a ba abcdefgh y zz e x f"
theorem Ya:Builtin.Str.partsBetween NN (Builtin.Str.occurrences NN " " 0 NN.length (NN.length+1)) (" ":Str).length=OE:=by decide +kernel
theorem OD:(∀x∈OE,Q0 x=true)/\OE.Nodup:=⟨by decide +kernel,by decide +kernel⟩
theorem Iy:∃a:A0 Str,a.length=20/\(∀x∈a,Q0 x=true)/\a.Nodup/\∀(Q:VK) (H:Hp),(∀l,H l=none->Q (.ref l) (IB H l (.lst (a.map V.str))))->Wv (.str NN) [.str " "] H Q :=
 ⟨OE,rfl,OD.1,OD.2,fun Q H h=>⟨NN, " ",OE,rfl,rfl,by decide +kernel,by decide +kernel,by decide +kernel,by decide +kernel,Ya,by decide +kernel,h⟩⟩
theorem t6:IC ["_law_left_here", "_law_many", "_law_some_here", "_law_names_here", "_law_k"] ["_law_left_here", "_law_many"] (B8 MS):=JX
def Ug:Sp:=fun e H Q _=>∃(p:A4) (c:Int) (a:Nat),e = [.ref p,.int (a:Int)]/\IL H p c/\c<=900000/\a<=20 /\
 ∀l (d:A0 Str) b,H l=none->Sm [p] H b->b l=some (.lst (d.map V.str))->d.length=a->W3 d->IL b p (c+a)->Q (.ref l) b
set_option maxHeartbeats 2000000 in
theorem Hc(T:Tx K mg):IP P w K mg base I_ 3 T.a3.f T.a3.fd ["_law_left_here", "_law_many"] Ug:=by
 have g:=O6 (P:=P) (w:=w) (base:=base) T;have G:=t6;refine T.a3.F.ok t6 (fun vs H Q E h=>?_) (fun cdv A I s H vs Q E hr h=>?_)
 .obtain⟨p,c,m,rfl,_⟩:=h;rfl
 .obtain⟨p,c,t,rfl,W,c1,m1,q⟩:=h;obtain⟨a0,b0,X,c0⟩:=id W;refine⟨_,(B4 (C5 (i:=2) G.nd rfl (.inl rfl) (Hl K PySem.F.plainAttrs_str PySem.F.slot_str_split PySem.F.type_str_split Uu W1 (A8 W1 B3)))
   (B4 (C5 (i:=3) G.nd rfl (.inl rfl) (M8 B3))
   (B4 (O4 PassesOwn.never rfl (Ze T.aS (A8 (pv 1) B3)) (D4 (i:=4) G.nd rfl (.inl rfl))
   (B5 (J7 (Hl K PySem.F.plainAttrs_list PySem.F.slot_list_append PySem.F.type_list_append K4 (pv 3) (A8 (Hl K PySem.F.plainAttrs_list PySem.F.slot_list_pop PySem.F.type_list_pop Ld (pv 2) (A8 (C9 T.aj g (Rm hr) (A8 (pv 0) (A8 (E8 (P4 K) T.as O8 (A8 (pv 2) B3)) B3))) B3)) B3)))))
   (B5 (C2 (pv 3)))))),?_⟩
  obtain⟨u,al,a1,a2,v⟩:=Iy;refine⟨rfl,?_⟩;dsimp only[Xv,tC,Zs];refine v _ _ fun a y=>?_;refine⟨CF _,fun b J=>?_⟩;have k:H b=none:=(HY.new y).free J;have l:a≠b:=B0 A9 J;have n:p≠a:=B0 X y;have o:p≠b:=B0 X k;refine A7 rfl (A7 rfl ⟨by omega,by omega,?_⟩);rw[CH];refine O7 (fun i σ r=>(∃L,σ = [some (.ref p),some (.int (t:Int)),some (.ref a),some (.ref b),L])/\Sm [p] H r/\IL r p (c+i)/\∃e j:A0 Str,r a=some (.lst (e.map V.str))/\r b=some (.lst (j.map V.str))/\(e++j).Perm u/\j.length=i) ?_ ?_ ?_
  .refine⟨⟨_,rfl⟩,((HY.new y).trans (HY.new J)).sm,((W.cast (by omega)).upd n).upd o,u,[],by rw[B6 l,A9],by rw[A9];rfl,by rw[CJ],rfl⟩
  .rintro i σ r hi ⟨⟨L,rfl⟩,M,N,e,j,z,B,C,D⟩ D1 O _;have Y:e.length=20-i:=by
    have:=C.length_eq;rw[AV,D,al]at this;omega
   refine A7 rfl ⟨.inl ⟨rfl,_,IG.of B⟩,A7 rfl ⟨.inl ⟨rfl,_,IG.of z⟩,A7 rfl (A7 rfl (C0 (a:=a) rfl (.inl (IG.of z)) (Y7 (a:=p) (b:=c+i) rfl N (by omega) ?_ ?_ fun d H2 hd R L2=>?_)))⟩⟩
   .rw[AB];omega
   .rw[AB];omega
   rw[AB]at hd;have x:d<e.length:=by omega
   have Z:e[d]?=some e[d]:=AC x;have S:=JR R z n.symm;have U:=JR R B o.symm;refine⟨a,_,_,d,.str e[d],rfl,rfl,S,by omega,by omega,six (by rw[AB];exact x),by rw[AH,Z];rfl,b,C0 rfl rfl ⟨by rw[B6 l.symm];exact U,?_,?_⟩⟩
   .rw[AB,sizeLine_eq];omega
   refine O _ _ ⟨⟨_,rfl⟩,?_,?_,e.eraseIdx d,j ++ [e[d]],?_,?_,Kz C Z,by rw[AV,D];rfl⟩
   .exact((M.trans R).updN y).updN k
   .exact((L2.cast (by omega)).upd n).upd o
   .rw[B6 l,A9,Al]
   .rw[A9,AO];rfl
  .rintro σ r ⟨⟨L,rfl⟩,M,N,e,j,z,B,C,D⟩;exact⟨_,rfl,q b j r k M B D (Uc C a1 a2 (by omega)) N⟩
end
def pd(k:Str×Str):PyData:=.tuple [.str k.1,.str k.2]
def l8{x:Str}(h:Q0 x=true):PySem.PyData.strOk x=true:=by
 unfold Q0 at h;rw[BT]at h;unfold PySem.PyData.strOk;rw[<-Array.all_toList,EQ];intro c a;have:=(EQ.mp h.2) c a;unfold Yb at this;rw[BT]at this;have:=CC this.2;exact BD (by omega)
def Pt{K:PySem.W.Frag}{H:Hp}{t:A4}{k:Str×Str}(h:H t=some (.tup [.str k.1,.str k.2])):Rp K H (pd k) (.ref t):=by
 unfold pd;simp only[Rp,NV];exact⟨t,_,rfl,JM.of h,_,_,rfl,rfl,_,_,rfl,rfl,rfl⟩
def Gq{K:PySem.W.Frag}{H:Hp}:∀{a:A0 JD},(∀q∈a,E1 H q)->NV K H (a.map fun q=>pd q.2) (G8 a)
 | [],_=>by simp[NV,G8]
 | q::r,h=>by
  show NV K H (pd q.2::r.map fun q=>pd q.2) (V.ref q.1::G8 r);simp only[NV];exact⟨_,_,rfl,Pt (h q (BH ..)),Gq fun z b=>h z (AY _ b)⟩
def Ep{K:PySem.W.Frag}{H:Hp}{l:A4}{a:A0 JD}(b:H l=some (.lst (G8 a)))(h:∀q∈a,E1 H q):Rp K H (.list (a.map fun q=>pd q.2)) (.ref l):=by
 simp only[Rp];exact⟨l,_,rfl,IG.of b,Gq h⟩
def zBi(a b:Str×Str):PyData.eqv (pd a) (pd b)=decide (a=b):=by
 unfold pd;rw[PyData.eqv,PyData.eqvAll,PyData.eqvAll,PyData.eqvAll,PyData.eqv,PyData.eqv];by_cases c:a.1=b.1
 .by_cases d:a.2=b.2
  .rw[BD (Prod.ext c d),c,d];simp
  .rw[BC fun z=>d (congrArg Prod.snd z)];simp[d]
 .rw[BC fun z=>c (congrArg Prod.fst z)];simp[c]
def Hg(k:Str×Str):∀a:A0 JD,((a.map fun q=>pd q.2).any fun z=>PyData.eqv z (pd k))=decide (k∈a.map fun q=>q.2)
 | []=>rfl
 | q::r=>by
  rw[BB,FP,Hg k r,zBi,BB];by_cases e:q.2=k
  .rw[BD e,Bool.true_or,BD (show k∈q.2::_ from by rw[<-e];exact BH ..)]
  .rw[BC e,Bool.false_or];by_cases h:k∈r.map fun q=>q.2
   .rw[BD h,BD (AY _ h)]
   .rw[BC h,BC fun z=>(AU.mp z).elim (fun z=>e z.symm) h]
def Vs{k:Str×Str}(h1:PySem.PyData.strOk k.1=true)(h2:PySem.PyData.strOk k.2=true):(pd k).canLay0=true:=by
 unfold pd;simp[PyData.canLay0,PyData.canLayAll0,h1,h2]
def Jk:∀{a:A0 JD},(∀q∈a,PySem.PyData.strOk q.2.1=true/\PySem.PyData.strOk q.2.2=true)->PyData.canLayAll0 (a.map fun q=>pd q.2)=true
 | [],_=>rfl
 | q::r,h=>by
  rw[BB,PyData.canLayAll0,Vs (h q (BH ..)).1 (h q (BH ..)).2,Jk fun z b=>h z (AY _ b)];rfl
def X2{K:PySem.W.Frag}{H:Hp}{t l:A4}{k:Str×Str}{a:A0 JD}{Q:VK}(c:H t=some (.tup [.str k.1,.str k.2]))(d:H l=some (.lst (G8 a)))(e:∀q∈a,E1 H q)
  (b:PySem.PyData.strOk k.1=true/\PySem.PyData.strOk k.2=true) (f:∀q∈a,PySem.PyData.strOk q.2.1=true/\PySem.PyData.strOk q.2.2=true) (q:Q (.bl (!decide (k∈a.map fun q=>q.2))) H):zEc K true (.ref t) (.ref l) H Q :=
 ⟨pd k,_,Pt c,.inl (Ep d e),⟨Vs b.1 b.2,by simp[pd,PyData.depth,PyData.depthAll]⟩,Jk f,by rw[AK rfl,Hg];exact q⟩
structure FL(H:Hp)(l:A4)(ps:A0 JD)(ss:A0 Str):Prop where
 at_:H l=some (.lst (G8 ps))
 pin:∀q∈ps,E1 H q
 nm:∀q∈ps,q.2.1∈ss/\q.2.2∈ss
 nd:(ps.map fun q=>q.2).Nodup
def FL.sm{H H':Hp}{p l:A4}{c:Int}{a:A0 JD}{b:A0 Str}(h:FL H l a b)(L:IL H p c)(n:l≠p)(s:Sm [p] H H'):FL H' l a b:=by
 obtain⟨x,y,e,_⟩:=L;exact⟨JR s h.at_ n,fun q d=>JR s (h.pin q d) (R9 (h.pin q d) e (by intro z;cases z)),h.nm,h.nd⟩
def FL.new{H:Hp}{l t:A4}{o:HO}{a:A0 JD}{b:A0 Str}(h:FL H l a b)(n:H t=none):FL (IB H t o) l a b :=
 ⟨by rw[B6 (B0 h.at_ n)];exact h.at_,fun q c=>by unfold E1;rw[B6 (B0 (h.pin q c) n)];exact h.pin q c,h.nm,h.nd⟩
def FL.put{H:Hp}{l t:A4}{a:A0 JD}{c:A0 Str}{x y:Str}(h:FL H l a c)(k:Nat)(d:H t=some (.tup [.str x,.str y]))(g:x∈c)(i:y∈c)(j:(x,y)∉a.map fun q=>q.2) :
  FL (IB H l (.lst ((G8 a).take k++V.ref t ::(G8 a).drop k))) l (a.take k ++(t,x,y)::a.drop k) c:=by
 have e:(a.take k ++(t,x,y)::a.drop k).Perm ((t,x,y)::a):=by
  refine List.perm_middle.trans (List.Perm.cons _ ?_);rw[BO]
 have f:∀q∈a.take k ++(t,x,y)::a.drop k,q =(t,x,y)\/q∈a:=fun q b=>AU.mp (e.mem_iff.mp b);refine⟨?_,fun q b=>?_,fun q b=>?_,?_⟩
 .rw[A9];unfold G8;rw[AO,List.map_take,BB,List.map_drop]
 .unfold E1;rcases f q b with rfl | z
  .rw[B6 (R9 d h.at_ (by intro z;cases z))];exact d
  .rw[B6 (R9 (h.pin q z) h.at_ (by intro z;cases z))];exact h.pin q z
 .rcases f q b with rfl | z
  .exact⟨g,i⟩
  .exact h.nm q z
 .rw[(e.map _).nodup_iff];show((x,y)::a.map fun q=>q.2).Nodup;exact CL.mpr ⟨j,h.nd⟩
def FL.app{H:Hp}{l t:A4}{a:A0 JD}{b:A0 Str}{x y:Str}(h:FL H l a b)(c:H t=some (.tup [.str x,.str y]))(d:x∈b)(f:y∈b)(g:(x,y)∉a.map fun q=>q.2) :
  FL (IB H l (.lst (G8 a ++ [V.ref t]))) l (a ++ [(t,x,y)]) b:=by
 have:=h.put a.length c d f g;have e:(G8 a).length=a.length:=by unfold G8;rw[AB]
 rw[<-e,CI,List.drop_length,e,CI,List.drop_length]at this;exact this
def Lp(c:A0 Str):∀tt:A0 Str,(tt.flatMap fun a=>c.map fun b=>(a,b)).length=tt.length*c.length
 | []=>by simp
 | a::r=>by rw[List.flatMap_cons,AV,AB,Lp c r,BJ,Nat.succ_mul];omega
def FL.len{H:Hp}{l:A4}{d:A0 JD}{c:A0 Str}(h:FL H l d c):d.length<=c.length*c.length:=by
 have:=h.nd.length_le_of_subset (l₂:=c.flatMap fun a=>c.map fun b=>(a,b)) (fun k e=>by
  obtain⟨q,f,rfl⟩:=AR.mp e;obtain⟨g,i⟩:=h.nm q f;exact List.mem_flatMap.mpr ⟨q.2.1,g,AR.mpr ⟨q.2.2,i,rfl⟩⟩)
 rw[Lp,AB]at this;exact this
section
variable{P:F8}{w:H_}{K:PySem.W.Frag}{mg:Str->A6 A3}{base:IA}
theorem Zj(a b d:Nat)(h1:a<5)(h2:b<4)(h:d<8):∃n:Nat,n<=12/\OK [V.int (8 +(a:Int)),V.int b,V.int 4,V.int 5,V.int 6,V.int 7,V.int 5,V.int 6] (d:Int)=some (.int (n:Int)):=by
 suffices ∃n:Nat,n<=12/\[V.int (8 +(a:Int)),V.int b,V.int 4,V.int 5,V.int 6,V.int 7,V.int 5,V.int 6][d]?=some (.int (n:Int)) by
  obtain⟨n,h,e⟩:=this;exact⟨n,h,K0 e⟩
 match d,h with
 | 0,_=>exact⟨8+a,by omega,by show some (V.int _)=_;rw[Int.natCast_add];rfl⟩
 | 1,_=>exact⟨b,by omega,rfl⟩
 | 2,_=>exact⟨4,by omega,rfl⟩
 | 3,_=>exact⟨5,by omega,rfl⟩
 | 4,_=>exact⟨6,by omega,rfl⟩
 | 5,_=>exact⟨7,by omega,rfl⟩
 | 6,_=>exact⟨5,by omega,rfl⟩
 | 7,_=>exact⟨6,by omega,rfl⟩
theorem Bc:IC ["_law_left_here", "_law_way"] ["_law_left_here"] (B8 ND):=JX
def Yc:Sp:=fun b H Q _=>∃(p:A4) (c:Int),b = [.ref p]/\IL H p c/\c<=900000 /\
 ∀(n:Nat) a,n<=12->Sm [p] H a->IL a p (c+3)->Q (.int (n:Int)) a
theorem Jp(T:Tx K mg):IP P w K mg base I_ 3 T.ba.f T.ba.fd ["_law_left_here"] Yc:=by
 have b:=O6 (P:=P) (w:=w) (base:=base) T;have o:=Bc;refine T.ba.F.ok Bc (fun r H Q E h=>?_) (fun t A g s H r Q E j h=>?_)
 .obtain⟨p,c,rfl,_⟩:=h;rfl
 .obtain⟨p,c,rfl,u,L,q⟩:=h;refine⟨_,(B4 (C5 (i:=1) o.nd rfl (.inl rfl) (C9 T.aj b (Rm j) (A8 (pv 0) (A8 B7 B3))))
   (@B5 _ _ _ (@C2 _ _ _ _ (@E7 _ _ _ _ _ _ _ (LT K) (@M8 _ _ _ _ (@A8 _ _ _ _ _ (C7 u8 B7 (C9 T.aj b (Rm j) (A8 (pv 0) (A8 B7 B3)))) (@A8 _ _ _ _ _ (C9 T.aj b (Rm j) (A8 (pv 0) (A8 B7 B3))) (@A8 _ _ _ _ _ B7 (@A8 _ _ _ _ _ B7 (@A8 _ _ _ _ _ B7 (@A8 _ _ _ _ _ B7 (@A8 _ _ _ _ _ B7 (@A8 _ _ _ _ _ B7 B3 (by rfl)) (by rfl)) (by rfl)) (by rfl)) (by rfl)) (by rfl)) (by rfl)) (by rfl))) (pv 1) (fun _ _=>rfl))))),?_⟩
  refine A7 rfl (Y7 (a:=p) rfl u (by omega) (by decide) (by decide) fun d M N v x=>?_);refine A7 rfl (Y7 (a:=p) rfl x (by omega) (by decide) (by decide) fun y O z B L2=>?_);refine C0 rfl rfl ?_;refine A7 rfl (Y7 (a:=p) rfl L2 (by omega) (by decide) (by decide) fun C R D G k=>?_);refine⟨by show 8<=sizeLine;decide,fun l m=>?_⟩;obtain⟨n,I,e⟩:=Zj y C d (by omega) (by omega) (by omega);have J:=k.get;refine A7 rfl ⟨l,_,C0 rfl rfl ⟨IG.of A9,e,?_⟩⟩;exact q n _ I (((v.trans B).trans G).new m) ((k.cast (by omega)).upd (B0 J m))
theorem IL.ne{H:Hp}{p n:A4}{c:Int}{d:A0 Str}(h:IL H p c)(f:H n=some (.lst (d.map V.str))):n≠p:=by
 rintro rfl;obtain⟨a,b,e,_⟩:=h;rw[f]at e;cases d with
 | nil=>cases e
 | cons x r=>cases e
theorem IL.neP{H:Hp}{p n:A4}{c:Int}{d:A0 JD}(h:IL H p c)(f:H n=some (.lst (G8 d))):n≠p:=by
 rintro rfl;obtain⟨a,b,e,_⟩:=h;rw[f]at e;cases d with
 | nil=>cases e
 | cons x r=>cases e
theorem Uz(d:Nat)(h:d<4):∃n:Nat,0<n/\n<=9/\OK [V.int 4,V.int 6,V.int 9,V.int 3] (d:Int)=some (.int (n:Int)):=by
 suffices ∃n:Nat,0<n/\n<=9/\[V.int 4,V.int 6,V.int 9,V.int 3][d]?=some (.int (n:Int)) by
  obtain⟨n,a,b,e⟩:=this;exact⟨n,a,b,K0 e⟩
 match d,h with
 | 0,_=>exact⟨4,by omega,by omega,rfl⟩
 | 1,_=>exact⟨6,by omega,by omega,rfl⟩
 | 2,_=>exact⟨9,by omega,by omega,rfl⟩
 | 3,_=>exact⟨3,by omega,by omega,rfl⟩
theorem X7:IC ["_law_left_here", "_law_names_here", "_law_found", "_law_often", "_law_one", "_law_other"] ["_law_left_here", "_law_names_here"] (B8 LO):=JX
def Np(K:PySem.W.Frag):Sp:=fun f H Q _=>∃(p n:A4) (c:Int) (b:A0 Str),f = [.ref p,.ref n]/\IL H p c/\c<=900000/\H n=some (.lst (b.map V.str))/\W3 b/\b.length<=12 /\
 ∀l (d:A0 JD) e a,H l=none->Sm [p] H a->a l=some (.lst (G8 d))->(∀q∈d,E1 a q)->LW b d->e<=c+1000->IL a p e->Q (.ref l) a
def SI(H:Hp)(p f:A4)(d:A0 Str)(b:Int)(a:Hp):Prop:=Sm [p] H a/\(∃c,c<=b/\IL a p c)/\∃e,FL a f e d
set_option maxHeartbeats 4000000 in
theorem Ce(T:Tx K mg):IP P w K mg base I_ 3 T.aV.f T.aV.fd ["_law_left_here", "_law_names_here"] (Np K):=by
 have l:=O6 (P:=P) (w:=w) (base:=base) T;have sc:=X7;refine T.aV.F.ok X7 (fun vs H Q E h=>?_) (fun cdv A outer s H vs Q E hr h=>?_)
 .obtain⟨p,n,c,v,rfl,_⟩:=h;rfl
 .obtain⟨p,n,c,v,rfl,hL,c1,hn,hN,r,q⟩:=h;obtain⟨a0,b0,e0,c0⟩:=id hL;refine⟨_,(B4 (C5 (i:=2) sc.nd rfl (.inl rfl) (M8 B3))
   (B4 (C5 (i:=3) sc.nd rfl (.inl rfl) (E7 (LT K) (M8 (A8 B7 (A8 B7 (A8 B7 (A8 B7 B3))))) (C9 T.aj l (Rm hr) (A8 (pv 0) (A8 B7 B3))) (fun _ _=>rfl)))
   (B4 (O4 PassesOwn.never rfl (MZ K (pv 1)) (D4 (i:=4) sc.nd rfl (.inl rfl))
   (B4 (O4 PassesOwn.never rfl (MZ K (pv 1)) (D4 (i:=5) sc.nd rfl (.inl rfl))
   (B5 (K3 (PW.pt (Mn (C6 Rt (pv 4) (pv 5) (D8 _)) (Mn (C6 X5 (C9 T.aj l (Rm hr) (A8 (pv 0) (A8 (pv 3) B3))) B7 (D8 _)) (Iw (C6 (Ae K hr.units) (G0 (A8 (pv 4) (A8 (pv 5) B3))) (pv 2) rfl))))) (B4 (J7 (Hl K PySem.F.plainAttrs_list PySem.F.slot_list_insert PySem.F.type_list_insert Hu (pv 2) (A8 (C9 T.aj l (Rm hr) (A8 (pv 0) (A8 (C7 u8 (E8 (P4 K) T.as O8 (A8 (pv 2) B3)) B7) B3))) (A8 (G0 (A8 (pv 4) (A8 (pv 5) B3))) B3))))
   (B5 (K3 (PW.pt (Mn (C6 X5 (C9 T.aj l (Rm hr) (A8 (pv 0) (A8 B7 B3))) B7 (D8 _)) (Iw (C6 (Ae K hr.units) (G0 (A8 (pv 5) (A8 (pv 4) B3))) (pv 2) rfl)))) (B5 (J7 (Hl K PySem.F.plainAttrs_list PySem.F.slot_list_append PySem.F.type_list_append K4 (pv 2) (A8 (G0 (A8 (pv 5) (A8 (pv 4) B3))) B3)))) C8))) C8)))
   (B5 (K3 (PW.pt (Mn (C6 X5 (C9 T.aj l (Rm hr) (A8 (pv 0) (A8 B7 B3))) B7 (D8 _)) (Iw (C6 (Ae K hr.units) (G0 (A8 (pv 4) (A8 (pv 4) B3))) (pv 2) rfl)))) (B5 (J7 (Hl K PySem.F.plainAttrs_list PySem.F.slot_list_append PySem.F.type_list_append K4 (pv 2) (A8 (G0 (A8 (pv 4) (A8 (pv 4) B3))) B3)))) C8))))
   (B5 (C2 (pv 2)))))),?_⟩
  refine⟨CF _,fun f hf=>?_⟩;have B:p≠f:=B0 e0 hf;have nnf:n≠f:=B0 hn hf;have nnp:n≠p:=hL.ne hn;have nnD:n∉[p]:=by simpa using nnp
  have O:∀x∈v,PySem.PyData.strOk x=true:=fun x M=>l8 (hN.1 x M);refine⟨by show 4<=sizeLine;decide,fun t ht=>?_⟩;have s1:HY H (IB (IB H f (.lst [])) t (.lst [.int 4,.int 6,.int 9,.int 3])):=(HY.new hf).trans (HY.new ht);have ef:(IB (IB H f (.lst [])) t (.lst [.int 4,.int 6,.int 9,.int 3])) f=some (.lst []):=by rw[B6 (B0 A9 ht),A9]
  refine A7 rfl (Y7 (a:=p) (b:=c) rfl (hL.same s1) (by omega) (by decide) (by decide) fun d D hd R X=>?_);obtain⟨U,o1,o2,eo⟩:=Uz d (by omega);have hpt:p≠t:=B0 ((HY.new hf) _ _ e0) ht;refine⟨t,_,C0 rfl rfl ⟨IG.of (JR R A9 hpt.symm),eo,?_⟩⟩;have i0:SI H p f v (c+1) D:=⟨s1.sm.trans R,⟨_,Int.le_refl _,X⟩,[],JR R ef B.symm,by simp,by simp,by simp⟩;have hseq:∀{D b},SI H p f v b D->IG K D n (v.map V.str):=fun h=>(h.1.at nnD).seqL (IG.of hn);refine A7 rfl ⟨n,rfl,⟨_,hseq i0⟩,?_⟩;refine R8 (MN (K:=K) (IG.of hn)) (fun i σ D=>(∃v4 v5,σ = [some (.ref p),some (.ref n),some (.ref f),some (.int (U:Int)),v4,v5])/\SI H p f v (c+1+37*i) D) ?_ ?_ ?_ ?_
  .exact⟨⟨_,_,rfl⟩,by simpa using i0⟩
  .rintro i σ D hi ⟨_,Y⟩;exact Y.1.at nnD
  .rintro i σ D x M ⟨⟨v4,v5,rfl⟩,Y⟩ D1 hD1 _;rw[AH]at M;obtain⟨g,ho,rfl⟩:∃y,v[i]?=some y/\V.str y=x:=by
    cases e:v[i]? with
    | none=>rw[e]at M;cases M
    | some y=>rw[e]at M;exact⟨y,rfl,by injection M⟩
   have u:g∈v:=AM ho;have hi:i<v.length:=(AG.mp ho).1;refine A7 rfl ⟨n,rfl,⟨_,hseq Y⟩,?_⟩;refine R8 (MN (K:=K) (IG.of hn)) (fun j σ D=>(∃v5,σ = [some (.ref p),some (.ref n),some (.ref f),some (.int (U:Int)),some (.str g),v5])/\SI H p f v (c+1+37*i+3*j) D) ?_ ?_ ?_ ?_
   .exact⟨⟨_,rfl⟩,by simpa using Y⟩
   .rintro i σ D hi ⟨_,Y⟩;exact Y.1.at nnD
   .rintro j σ D x M ⟨⟨v5,rfl⟩,Y⟩ D2 N _;rw[AH]at M;obtain⟨m,ho,rfl⟩:∃y,v[j]?=some y/\V.str y=x:=by
     cases e:v[j]? with
     | none=>rw[e]at M;cases M
     | some y=>rw[e]at M;exact⟨y,rfl,by injection M⟩
    have L:m∈v:=AM ho;have hj:j<v.length:=(AG.mp ho).1;obtain⟨R,⟨c',hc',X⟩,z,Z⟩:=Y;have done:∀{S c2 G},Sm [p] H S->c2<=c'+3->IL S p c2->FL S f G v->SI H p f v (c+1+37*i+3 *((j+1:Nat):Int)) S:=fun{S c2 G} a b d e=>⟨a,⟨c2,by omega,d⟩,G,e⟩;refine A7 rfl (A7 rfl ⟨rfl,A7 rfl ?_⟩);refine T8 (fun Y=>?_) (fun Y=>u0 (N _ _ ⟨⟨_,rfl⟩,done R (by omega) X Z⟩));refine A7 rfl (A7 rfl (Y7 (a:=p) (b:=c') rfl X (by omega) (by omega) (by omega) fun d1 S hd1 k2 L2=>⟨rfl,_,rfl,?_⟩));have F2:=Z.sm X B.symm k2;refine T8 (fun h2=>?_) (fun h2=>u0 (N _ _ ⟨⟨_,rfl⟩,done (R.trans k2) (by omega) L2 F2⟩));refine A7 rfl (A7 rfl ⟨by show 2<=sizeLine;decide,fun t2 ht2=>?_⟩);have F3:=F2.new (o:=.tup [.str g,.str m]) ht2;have e2:=L2.get;have L3:=L2.upd (o:=.tup [.str g,.str m]) (B0 e2 ht2);have k3:=(R.trans k2).new (o:=.tup [.str g,.str m]) ht2;refine A7 rfl (X2 (k:=(g,m)) A9 F3.at_ F3.pin ⟨O _ u,O _ L⟩ (fun q hq=>⟨O _ (F3.nm q hq).1,O _ (F3.nm q hq).2⟩) ⟨_,rfl,?_⟩);refine T8 (fun h3=>?_) (fun h3=>N _ _ ⟨⟨_,rfl⟩,done k3 (by omega) L3 F3⟩);have h3':(g,m)∉z.map fun q=>q.2:=by simpa using h3
    have MM:=F3.len;have W:z.length<=150:=Nat.le_trans MM (Nat.le_trans (Nat.mul_le_mul r r) (by decide));have rl:(G8 z).length=z.length:=by unfold G8;rw[AB]
    refine A7 rfl ⟨.inl ⟨rfl,_,IG.of F3.at_⟩,A7 rfl (A7 rfl (C0 (a:=f) rfl (.inl (IG.of F3.at_)) (C0 rfl rfl (Y7 (a:=p) (b:=c'+1) rfl L3 (by omega) (by omega) (by omega) fun d2 H4 hd2 k4 L4=>?_))))⟩;have F4:=F3.sm L3 B.symm k4;refine A7 rfl (A7 rfl ⟨by show 2<=sizeLine;decide,fun t3 ht3=>?_⟩);have F5:=F4.new (o:=.tup [.str g,.str m]) ht3;have e4:=L4.get;have L5:=L4.upd (o:=.tup [.str g,.str m]) (B0 e4 ht3);have k5:=(k3.trans k4).new (o:=.tup [.str g,.str m]) ht3;refine⟨f,_,_,d2,A7 rfl ⟨rfl,rfl,F5.at_,by omega,by rw[sizeLine_eq];omega,?_⟩⟩;have F6:=F5.put d2 A9 u L h3';have L6:=L5.upd (o:=.lst ((G8 z).take d2++V.ref t3 ::(G8 z).drop d2)) B;have k6:=k5.updN (o:=.lst ((G8 z).take d2++V.ref t3 ::(G8 z).drop d2)) hf;generalize hps:z.take d2 ++(t3,g,m)::z.drop d2=ps' at F6;refine A7 rfl (Y7 (a:=p) rfl L6 (by omega) (by decide) (by decide) fun d3 H7 hd3 k7 L7=>⟨rfl,_,rfl,?_⟩);have F7:=F6.sm L6 B.symm k7;refine T8 (fun h4=>?_) (fun h4=>u0 (N _ _ ⟨⟨_,rfl⟩,done (k6.trans k7) (by omega) L7 F7⟩));refine A7 rfl (A7 rfl ⟨by show 2<=sizeLine;decide,fun t4 I=>?_⟩);have C:=F7.new (o:=.tup [.str m,.str g]) I;have e7:=L7.get;have L8:=L7.upd (o:=.tup [.str m,.str g]) (B0 e7 I);have k8:=(k6.trans k7).new (o:=.tup [.str m,.str g]) I;refine A7 rfl (X2 (k:=(m,g)) A9 C.at_ C.pin ⟨O _ L,O _ u⟩ (fun q hq=>⟨O _ (C.nm q hq).1,O _ (C.nm q hq).2⟩) ⟨_,rfl,?_⟩);refine T8 (fun h5=>?_) (fun h5=>N _ _ ⟨⟨_,rfl⟩,done k8 (by omega) L8 C⟩);have h5':(m,g)∉ps'.map fun q=>q.2:=by simpa using h5
    have MM:=C.len;have W:ps'.length<=150:=Nat.le_trans MM (Nat.le_trans (Nat.mul_le_mul r r) (by decide));have rl:(G8 ps').length=ps'.length:=by unfold G8;rw[AB]
    refine A7 rfl ⟨.inl ⟨rfl,_,IG.of C.at_⟩,A7 rfl (A7 rfl ⟨by show 2<=sizeLine;decide,fun t5 J=>?_⟩)⟩;have F9:=C.new (o:=.tup [.str m,.str g]) J;have e8:=L8.get;have L9:=L8.upd (o:=.tup [.str m,.str g]) (B0 e8 J);have k9:=k8.new (o:=.tup [.str m,.str g]) J;refine⟨f,C0 rfl rfl ⟨F9.at_,by rw[sizeLine_eq];omega,N _ _ ⟨⟨_,rfl⟩,done (k9.updN hf) (by omega) (L9.upd B) (F9.app A9 L u h5')⟩⟩⟩
   .rintro σ D ⟨⟨v5,rfl⟩,R,⟨c',hc',X⟩,z,Z⟩;simp only[AB]at hc';have done:∀{S c2 G},Sm [p] H S->c2<=c'+1->IL S p c2->FL S f G v->SI H p f v (c+1+37 *((i+1:Nat):Int)) S:=fun{S c2 G} a b d e=>⟨a,⟨c2,by omega,d⟩,G,e⟩;refine A7 rfl (Y7 (a:=p) (b:=c') rfl X (by omega) (by decide) (by decide) fun d3 H7 hd3 k7 L7=>⟨rfl,_,rfl,?_⟩);have F7:=Z.sm X B.symm k7;refine T8 (fun h4=>?_) (fun h4=>u0 (hD1 _ _ ⟨⟨_,_,rfl⟩,done (R.trans k7) (by omega) L7 F7⟩));refine A7 rfl (A7 rfl ⟨by show 2<=sizeLine;decide,fun t4 I=>?_⟩);have C:=F7.new (o:=.tup [.str g,.str g]) I;have e7:=L7.get;have L8:=L7.upd (o:=.tup [.str g,.str g]) (B0 e7 I);have k8:=(R.trans k7).new (o:=.tup [.str g,.str g]) I;refine A7 rfl (X2 (k:=(g,g)) A9 C.at_ C.pin ⟨O _ u,O _ u⟩ (fun q hq=>⟨O _ (C.nm q hq).1,O _ (C.nm q hq).2⟩) ⟨_,rfl,?_⟩);refine T8 (fun h5=>?_) (fun h5=>hD1 _ _ ⟨⟨_,_,rfl⟩,done k8 (by omega) L8 C⟩);have h5':(g,g)∉z.map fun q=>q.2:=by simpa using h5
    have MM:=C.len;have W:z.length<=150:=Nat.le_trans MM (Nat.le_trans (Nat.mul_le_mul r r) (by decide));have rl:(G8 z).length=z.length:=by unfold G8;rw[AB]
    refine A7 rfl ⟨.inl ⟨rfl,_,IG.of C.at_⟩,A7 rfl (A7 rfl ⟨by show 2<=sizeLine;decide,fun t5 J=>?_⟩)⟩;have F9:=C.new (o:=.tup [.str g,.str g]) J;have e8:=L8.get;have L9:=L8.upd (o:=.tup [.str g,.str g]) (B0 e8 J);have k9:=k8.new (o:=.tup [.str g,.str g]) J;refine⟨f,C0 rfl rfl ⟨F9.at_,by rw[sizeLine_eq];omega,hD1 _ _ ⟨⟨_,_,rfl⟩,done (k9.updN hf) (by omega) (L9.upd B) (F9.app A9 u u h5')⟩⟩⟩
  .rintro σ D ⟨⟨v4,v5,rfl⟩,R,⟨c',hc',X⟩,z,Z⟩;simp only[AB]at hc';have MM:=Z.len;have W:z.length<=150:=Nat.le_trans MM (Nat.le_trans (Nat.mul_le_mul r r) (by decide));exact⟨_,rfl,q f z c' D hf R Z.at_ Z.pin ⟨Z.nm,Z.nd,by omega⟩ (by omega) X⟩
end
def OX(x y:Nat):Builtin.bitOr (x:Int) (y:Int) =((x ||| y:Nat):Int):=by
 have b:¬0<=Builtin.bitNot (x:Int):=by unfold Builtin.bitNot;omega
 have c:¬0<=Builtin.bitNot (y:Int):=by unfold Builtin.bitNot;omega
 have a:∀z:Int,Builtin.bitNot (Builtin.bitNot z)=z:=fun z=>by unfold Builtin.bitNot;omega
 rw[Builtin.bitOr,PyProof.Rows.bitAnd_nn b c,a,a,a];rfl
def Ta(x y:Nat):Builtin.bitAnd (x:Int) (y:Int) =((x &&& y:Nat):Int):=by simp[Builtin.bitAnd]
def Wq(k:Nat):(1:Int)*2 ^((k:Int).toNat) =((2^k:Nat):Int):=by rw[Int.one_mul,CH,Int.natCast_pow];rfl
def Vu(m k:Nat):decide (V.int (Builtin.bitAnd ((m:Int) / 2 ^((k:Int).toNat)) 1)=V.int 1)=m.testBit k:=by
 have a:(m:Int) / 2 ^((k:Int).toNat) =((m / 2^k:Nat):Int):=by rw[CH,Int.natCast_ediv,Int.natCast_pow];rfl
 have b:Builtin.bitAnd ((m / 2^k:Nat):Int) 1 =((m / 2^k % 2:Nat):Int):=by
  rw[show(1:Int) =((1:Nat):Int)from rfl,Ta,Nat.and_one_is_mod]
 rw[a,b,Nat.testBit_eq_decide_div_mod_eq];refine decide_eq_decide.mpr ⟨fun h=>?_,fun h=>?_⟩
 .injection h with h;omega
 .rw[h];rfl
def I0(m:Nat):V:=.int (m:Int)
structure MB(ns:A0 Str)(ks:A0 (Str×Str))(B:A0 Nat):Prop where
 len:B.length=ns.length
 bit:∀i j,(B.getD i 0).testBit j=true↔∃k∈ks,ns[i]?=some k.1/\ns[j]?=some k.2
def MB.zero(ns:A0 Str):MB ns [] (List.replicate ns.length 0):=by
 refine⟨List.length_replicate,fun i j=>?_⟩;have e:(List.replicate ns.length 0).getD i 0=0:=by
  rw[AQ,List.getElem?_replicate];by_cases h:i<ns.length
  .rw[AK h];rfl
  .rw[AJ h];rfl
 rw[e,CS];simp
def O0{α:Type}{l:A0 α}(h:l.Nodup){i j:Nat}{x:α}(hi:l[i]?=some x)(c:l[j]?=some x):i=j:=by
 obtain⟨a,e⟩:=AG.mp hi;obtain⟨b,d⟩:=AG.mp c;exact(List.getElem_inj h).mp (e.trans d.symm)
def MB.step{ns:A0 Str}{ks:A0 (Str×Str)}{B:A0 Nat}(h:MB ns ks B)(l:ns.Nodup){a b:Nat}{x y:Str}(f:ns[a]?=some x)(m:ns[b]?=some y):MB ns (ks ++ [(x,y)]) (B.set a (B.getD a 0 ||| 2^b)):=by
 have g:a<B.length:=by rw[h.len];exact(AG.mp f).1
 refine⟨by rw[List.length_set];exact h.len,fun i j=>?_⟩;by_cases e:a=i
 .subst e;have e:(B.set a (B.getD a 0 ||| 2^b)).getD a 0=B.getD a 0 ||| 2^b:=by
   rw[AQ,HF g];rfl
  rw[e,EF,EK,h.bit,DK,BU];constructor
  .rintro(⟨k,hk,c,d⟩ | rfl)
   .exact⟨k,EU _ hk,c,d⟩
   .exact⟨(x,y),BI _ (AF.mpr rfl),f,m⟩
  .rintro⟨k,hk,c,d⟩;rcases A_.mp hk with hk | hk
   .exact .inl ⟨k,hk,c,d⟩
   .rw[AF.mp hk]at d;exact .inr (O0 l m d)
 .have n:(B.set a (B.getD a 0 ||| 2^b)).getD i 0=B.getD i 0:=by
   rw[AQ,List.getElem?_set_ne e,<-AQ]
  rw[n,h.bit];constructor
  .rintro⟨k,hk,c,d⟩;exact⟨k,EU _ hk,c,d⟩
  .rintro⟨k,hk,c,d⟩;rcases A_.mp hk with hk | hk
   .exact⟨k,hk,c,d⟩
   .rw[AF.mp hk]at c;exact absurd (O0 l f c) e
def MB.mono{ns:A0 Str}{ks ks':A0 (Str×Str)}{B:A0 Nat}(h:MB ns ks B)(e:∀k,k∈ks↔k∈ks'):MB ns ks' B :=
 ⟨h.len,fun i j=>by rw[h.bit];exact⟨fun⟨k,a,b⟩=>⟨k,(e k).mp a,b⟩,fun⟨k,a,b⟩=>⟨k,(e k).mpr a,b⟩⟩⟩
def Qs{x y:Str}(h:x.cps.toList=y.cps.toList):x=y:=by
 cases x;cases y;exact congrArg Str.mk (Array.toList_inj.mp h)
def Vd{x y:Str}(h1:ON x y)(h2:ON y x):x=y:=Qs (HM (as:=x.cps.toList) (bs:=y.cps.toList) h1 h2)
def Cq{a b:A0 Str}(h1:a.Pairwise ON)(h2:b.Pairwise ON)(h:a.Perm b):a=b:=List.Perm.eq_of_pairwise (fun _ _ _ _=>Vd) h1 h2 h
def leK(k l:Str×Str):Prop:=QI (0,k) (0,l)
def Vm{k l:Str×Str}(h1:leK k l)(h2:leK l k):k=l:=by
 have h1:¬TS.JP (Tf (0,l)) (Tf (0,k))=true:=fun z=>by rw[show TS.JP (Tf (0,l)) (Tf (0,k))=false from h1]at z;cases z
 have h2:¬TS.JP (Tf (0,k)) (Tf (0,l))=true:=fun z=>by rw[show TS.JP (Tf (0,k)) (Tf (0,l))=false from h2]at z;cases z
 rw[TS.JA]at h1 h2;have a:k.1.cps.toList=l.1.cps.toList:=HM (as:=k.1.cps.toList) (bs:=l.1.cps.toList) (fun z=>h1 (.inl z)) (fun z=>h2 (.inl z));have b:k.2.cps.toList=l.2.cps.toList:=HM (as:=k.2.cps.toList) (bs:=l.2.cps.toList) (fun z=>h1 (.inr ⟨a.symm,z⟩)) (fun z=>h2 (.inr ⟨a,z⟩));exact Prod.ext (Qs a) (Qs b)
def Ji{a b:A0 JD}(h1:a.Pairwise QI)(h2:b.Pairwise QI)(h:a.Perm b):(a.map fun q=>q.2)=b.map fun q=>q.2 :=
 List.Perm.eq_of_pairwise (le:=leK) (fun _ _ _ _=>Vm) (CA.mpr h1) (CA.mpr h2) (h.map _)
structure I7(H:Hp)(p v:A4)(ns:A0 Str)(ks:A0 (Str×Str))(A B:A0 Nat):Prop where
 ex:∃a s t,H v=some (.lst [.ref a,.ref s,.ref t])/\H a=some (.lst (ns.map V.str))/\H s=some (.lst (A.map I0))/\H t=some (.lst (B.map I0))/\v≠p/\a≠p/\s≠p/\t≠p
 mA:MB ns (ks.map fun k=>(k.2,k.1)) A
 mB:MB ns ks B
def I7.sm{H H':Hp}{p v:A4}{ns:A0 Str}{ks:A0 (Str×Str)}{A B:A0 Nat}(h:I7 H p v ns ks A B)(s:Sm [p] H H'):I7 H' p v ns ks A B:=by
 obtain⟨⟨a,b,c,i,j,k,l,d,e,f,g⟩,m,n⟩:=h;exact⟨⟨a,b,c,JR s i d,JR s j e,JR s k f,JR s l g,d,e,f,g⟩,m,n⟩
def I7.same{H H':Hp}{p v:A4}{ns:A0 Str}{ks:A0 (Str×Str)}{A B:A0 Nat}(h:I7 H p v ns ks A B)(s:HY H H'):I7 H' p v ns ks A B:=h.sm s.sm
def On{n j:Nat}(h:j<n):PM n (j:Int)=some j:=by
 unfold PM;rw[AK (by omega),AK (by omega),CH]
def El{B:A0 Nat}{a:Nat}(h:a<B.length):OK (B.map I0) (a:Int)=some (.int ((B.getD a 0:Nat):Int)):=by
 refine K0 ?_;rw[AH,AC h,AQ,AC h];rfl
def Mp(n:Nat):(List.replicate ((n:Int).toNat) [V.int 0]).flatten =(List.replicate n 0).map I0:=by
 rw[CH]
 induction n with
 | zero=>rfl
 | succ n a =>
  rw[EG,GL,a,EG,BB];rfl
def Kq(B:A0 Nat)(a m:Nat):(B.map I0).set a (.int (m:Int)) =(B.set a m).map I0:=by
 rw[List.map_set];rfl
section
variable{P:F8}{w:H_}{K:PySem.W.Frag}{mg:Str->A6 A3}{base:IA}
theorem u9:IC ["_law_names_here", "_law_strikes_here", "_law_strikers", "_law_struck", "_law_one", "_law_other", "_law_a", "_law_b"] ["_law_names_here", "_law_strikes_here"] (B8 MT):=JX
def Ut:Sp:=fun f H Q _=>∃(n a:A4) (b:A0 Str) (c:A0 JD),f = [.ref n,.ref a]/\H n=some (.lst (b.map V.str))/\W3 b/\H a=some (.lst (G8 c))/\(∀q∈c,E1 H q)/\LW b c /\
 ∀v d A B e,H v=none->HY H e->d.Perm b->d.Pairwise ON->(∀p o,H p=some o->I7 e p v d (c.map fun q=>q.2) A B)->Q (.ref v) e
set_option maxHeartbeats 2000000 in
theorem Gz(T:Tx K mg):IP P w K mg base I_ 1 T.a4.f T.a4.fd ["_law_names_here", "_law_strikes_here"] Ut:=by
 have G:=u9;refine T.a4.F.ok u9 (fun vs H Q E h=>?_) (fun cdv A outer s H vs Q E hr h=>?_)
 .obtain⟨n,a,ss,r,rfl,_⟩:=h;rfl
 .obtain⟨n,a,ss,r,rfl,hn,hN,ha,hP,hO,q⟩:=h;refine⟨_,(B4 (C5 (i:=0) G.nd rfl (.inl rfl) (E8 (Lx K) T.aZ W7 (A8 (pv 0) B3)))
   (B4 (Vq (i:=2) (j:=3) rfl G.nd rfl rfl (by decide) rfl rfl (A8 (C7 Wi (M8 (A8 B7 B3)) (E8 (P4 K) T.as O8 (A8 (pv 0) B3))) (A8 (C7 Wi (M8 (A8 B7 B3)) (E8 (P4 K) T.as O8 (A8 (pv 0) B3))) B3)) rfl)
   (B4 (O4 PassesOwn.never rfl (MZ K (pv 1)) (PR K (n:=2) (E2 (D4 (i:=4) G.nd rfl (.inl rfl)) (E2 (D4 (i:=5) G.nd rfl (.inl rfl)) S4)))
   (B4 (Vq (i:=6) (j:=7) rfl G.nd rfl rfl (by decide) rfl rfl (A8 (Hl K PySem.F.plainAttrs_list PySem.F.slot_list_index PySem.F.type_list_index (Ek K) (pv 0) (A8 (pv 4) B3)) (A8 (Hl K PySem.F.plainAttrs_list PySem.F.slot_list_index PySem.F.type_list_index (Ek K) (pv 0) (A8 (pv 5) B3)) B3)) rfl)
   (B4 (Cv (C7 Am (E7 (LT K) (pv 2) (pv 7) (fun _ _=>rfl)) (C7 Ay B7 (pv 6))) (Lw (pv 2) (pv 7) Ad))
   (B5 (Cv (C7 Am (E7 (LT K) (pv 3) (pv 6) (fun _ _=>rfl)) (C7 Ay B7 (pv 7))) (Lw (pv 3) (pv 6) Ad))))))
   (B5 (C2 (M8 (A8 (pv 0) (A8 (pv 2) (A8 (pv 3) B3))))))))),?_⟩
  refine A7 rfl ⟨n,ss,rfl,IG.of hn,fun l b hl I srt=>?_⟩;have U:b.Nodup:=I.nodup_iff.mpr hN.2.1;have W:(b.map V.str).length=b.length:=AB ..;have ln:b.length<=100:=by rw[I.length_eq];exact hN.2.2
  have s1:HY H (IB H l (.lst (b.map V.str))):=HY.new hl;refine⟨by show 1<=sizeLine;decide,fun X d=>?_⟩;have s2:=s1.trans (HY.new (o:=.lst [V.int 0]) d);refine A7 rfl (C0 (a:=l) rfl (.inl (IG.of ((HY.new d) _ _ A9))) ⟨X,C0 rfl rfl ⟨A9,by omega,by omega,by rw[W,CH,sizeLine_eq];show 1*b.length<=_;omega,fun s Y=>?_⟩⟩);rw[W,Mp];have hs1:IB H l (.lst (b.map V.str)) s=none:=(HY.new d).free Y;have J:H s=none:=s2.free Y;have nls:l≠s:=B0 A9 hs1;have s3:=s2.trans (HY.new (o:=.lst ((List.replicate b.length 0).map I0)) Y);refine⟨by show 1<=sizeLine;decide,fun L u=>?_⟩;have s4:=s3.trans (HY.new (o:=.lst [V.int 0]) u);have Z:(IB (IB (IB (IB H l (.lst (b.map V.str))) X (.lst [V.int 0])) s (.lst ((List.replicate b.length 0).map I0))) L (.lst [V.int 0])) l=some (.lst (b.map V.str)) :=
   (HY.new u) _ _ ((HY.new Y) _ _ ((HY.new d) _ _ A9))
  have es:(IB (IB (IB (IB H l (.lst (b.map V.str))) X (.lst [V.int 0])) s (.lst ((List.replicate b.length 0).map I0))) L (.lst [V.int 0])) s=some (.lst ((List.replicate b.length 0).map I0)):=(HY.new u) _ _ A9;generalize hG:IB (IB (IB (IB H l (.lst (b.map V.str))) X (.lst [V.int 0])) s (.lst ((List.replicate b.length 0).map I0))) L (.lst [V.int 0])=H4 at s4 Z es⊢;have et2:H4 L=some (.lst [V.int 0]):=by rw[<-hG];exact A9
  refine A7 rfl (C0 (a:=l) rfl (.inl (IG.of Z)) ⟨L,C0 rfl rfl ⟨et2,by omega,by omega,by rw[W,CH,sizeLine_eq];show 1*b.length<=_;omega,fun t ht=>?_⟩⟩);rw[W,Mp];have M:l≠t:=B0 Z ht;have e:s≠t:=B0 es ht;have s5:=s4.trans (HY.new (o:=.lst ((List.replicate b.length 0).map I0)) ht);have N:H t=none:=s4.free ht;refine⟨_,A7 rfl (A7 rfl ⟨a,rfl,⟨_,IG.of (s5 _ _ ha)⟩,?_⟩)⟩;refine R8 (MN (K:=K) (IG.of ha)) (fun i σ x=>(∃v4 v5 v6 v7,σ = [some (.ref l),some (.ref a),some (.ref s),some (.ref t),v4,v5,v6,v7])/\HY H x/\x l=some (.lst (b.map V.str)) /\
   ∃A B:A0 Nat,x s=some (.lst (A.map I0))/\x t=some (.lst (B.map I0))/\MB b ((r.take i).map fun q=>(q.2.2,q.2.1)) A/\MB b ((r.take i).map fun q=>q.2) B) ?_ ?_ ?_ ?_
  .exact⟨⟨_,_,_,_,rfl⟩,s5,by rw[B6 M];exact Z,_,_,by rw[B6 e];exact es,A9,MB.zero b,MB.zero b⟩
  .rintro i σ x hi ⟨_,g,_⟩;exact g.at a
  .rintro i σ x v c ⟨⟨v4,v5,v6,v7,rfl⟩,g,y,A,B,h3,h4,C,D⟩ D1 hD1 _;unfold G8 at c;rw[AH]at c;cases O:r[i]? with
   | none=>rw[O]at c;cases c
   | some q =>
    rw[O]at c;cases c;have hm:q∈r:=AM O;obtain⟨m1,m2⟩:=hO.nm q hm;have m1:q.2.1∈b:=I.mem_iff.mpr m1;have m2:q.2.2∈b:=I.mem_iff.mpr m2;obtain⟨j,R⟩:=CU.mp m1;obtain⟨k,S⟩:=CU.mp m2;have lj:j<b.length:=(AG.mp R).1;have lk:k<b.length:=(AG.mp S).1;refine⟨q.1,A7 rfl ⟨JM.of (g _ _ (hP q hm)),rfl,_,A7 rfl (C0 rfl rfl ?_)⟩⟩;refine A7 rfl ⟨.inl ⟨rfl,_,IG.of y⟩,A7 rfl ⟨l,b,q.2.1,j,rfl,rfl,IG.of y,R,fun m hm z=>by have:=O0 U z R;omega,?_⟩⟩;refine A7 rfl ⟨.inl ⟨rfl,_,IG.of y⟩,A7 rfl ⟨l,b,q.2.2,k,rfl,rfl,IG.of y,S,fun m hm z=>by have:=O0 U z S;omega,?_⟩⟩;refine⟨_,A7 rfl ?_⟩;refine A7 rfl (A7 rfl ⟨s,_,C0 rfl rfl ⟨IG.of h3,El (by rw[C.len];exact lk),A7 rfl (C0 rfl rfl ⟨⟨by omega,by omega,by decide⟩,C0 rfl rfl ?_⟩)⟩⟩);dsimp only;rw[Wq,OX];refine A7 rfl (A7 rfl ⟨s,_,_,k,rfl,rfl,h3,On (by rw[AB,C.len];exact lk),?_⟩);rw[Kq];refine A7 rfl (A7 rfl ⟨t,_,C0 rfl rfl ⟨IG.of (by rw[B6 e.symm];exact h4),El (by rw[D.len];exact lj),A7 rfl (C0 rfl rfl ⟨⟨by omega,by omega,by decide⟩,C0 rfl rfl ?_⟩)⟩⟩);dsimp only;rw[Wq,OX];refine A7 rfl (A7 rfl ⟨t,_,_,j,rfl,rfl,by rw[B6 e.symm];exact h4,On (by rw[AB,D.len];exact lj),?_⟩);rw[Kq];refine hD1 _ _ ⟨⟨_,_,_,_,rfl⟩,(g.upd J).upd N,?_,A.set k (A.getD k 0 ||| 2^j),_,?_,A9,?_,?_⟩
    .rw[B6 M,B6 nls];exact y
    .rw[B6 e,A9]
    .rw[IT O,AO];exact C.step U S R
    .rw[IT O,AO];exact D.step U R S
  .rintro σ x ⟨⟨v4,v5,v6,v7,rfl⟩,g,y,A,B,h3,h4,C,D⟩;have lr:(G8 r).length=r.length:=by unfold G8;rw[AB]
   rw[lr,CI]at C D;refine A7 rfl (A7 rfl (A7 rfl ⟨by show 3<=sizeLine;decide,fun v c=>?_⟩));have s9:=HY.new (o:=.lst [.ref l,.ref s,.ref t]) c;refine q v b A B _ (g.free c) (g.trans s9) I srt fun p o hp=>⟨⟨l,s,t,A9,s9 _ _ y,s9 _ _ h3,s9 _ _ h4,(B0 (g _ _ hp) c).symm,(B0 hp hl).symm,(B0 hp J).symm,(B0 hp N).symm⟩,?_,D⟩;rw[CB];exact C
end
def Em(ns:A0 Str)(m i:Nat):A0 Str:=(List.range i).filterMap fun k=>if m.testBit k=true then ns[k]? else none
def IQ(ns:A0 Str)(m:Nat):A0 Str:=Em ns m ns.length
def T0{ns:A0 Str}{m i:Nat}{x:Str}(h:ns[i]?=some x):Em ns m (i+1)=Em ns m i++if m.testBit i=true then [x]else []:=by
 unfold Em;rw[EI,List.filterMap_append];congr 1;by_cases e:m.testBit i=true
 .rw[AK e];simp[e,h]
 .rw[AJ e];simp[e]
def NT{ns:A0 Str}{m:Nat}{x:Str}:x∈IQ ns m↔∃k,m.testBit k=true/\ns[k]?=some x:=by
 unfold IQ Em;rw[List.mem_filterMap];constructor
 .rintro⟨k,a,e⟩;by_cases h:m.testBit k=true
  .rw[AK h]at e;exact⟨k,h,e⟩
  .rw[AJ h]at e;cases e
 .rintro⟨k,h,e⟩;exact⟨k,BW.mpr (AG.mp e).1,by rw[AK h];exact e⟩
def d6(ns:A0 Str)(m:Nat):∀i,i<=ns.length->(Em ns m i).Sublist (ns.take i)
 | 0,_=>by simp[Em]
 | i+1,h=>by
  have a:ns[i]?=some ns[i]:=AC (by omega);rw[T0 a,IT a];refine(d6 ns m i (by omega)).append ?_;by_cases e:m.testBit i=true
  .rw[AK e];exact List.Sublist.refl _
  .rw[AJ e];exact List.nil_sublist _
def Gi(ns:A0 Str)(m:Nat):(IQ ns m).Sublist ns:=by
 have:=d6 ns m ns.length (Nat.le_refl _)
 rwa [CI]at this
section
variable{P:F8}{w:H_}{K:PySem.W.Frag}{mg:Str->A6 A3}{base:IA}
theorem Z7:IC ["_law_view", "_law_mask"] ["_law_view", "_law_mask"] (B8 L0):=JX
def Rq:Sp:=fun c H Q _=>∃(p v:A4) (m:Nat) (a:A0 Str) (d:A0 (Str×Str)) (A B:A0 Nat),c = [.ref v,.int (m:Int)]/\I7 H p v a d A B/\a.length<=100 /\
 ∀l b,H l=none->HY H b->b l=some (.lst ((IQ a m).map V.str))->Q (.ref l) b
theorem Ex(T:Tx K mg):IP P w K mg base I_ 1 T.aX.f T.aX.fd ["_law_view", "_law_mask"] Rq:=by
 have U:=Z7;refine T.aX.F.ok Z7 (fun M H Q E h=>?_) (fun O A o s H M Q E W h=>?_)
 .obtain⟨p,n,a,X,Y,A,B,rfl,_⟩:=h;rfl
 .obtain⟨p,v,m,g,Z,A,B,rfl,R,ln,q⟩:=h;obtain⟨⟨a,s,t,S,k,e3,e4,_⟩,mA,mB⟩:=id R;refine⟨_,(B5 (C2 (X0 (N':=["_law_k", "_law_name", "_law_mask"]) (cap:=[none,none,some 1]) (cl:=[("_law_mask",_)]) (P9 ⟨⟨rfl,rfl,rfl,rfl⟩,trivial⟩ ⟨rfl,trivial⟩) rfl (RM K T.aN (A8 (E7 (LT K) (pv 0) B7 (fun _ _=>rfl)) B3)) (fun _ _ _ _=>by exact⟨(PR K (n:=2) (E2 (MI 0) (E2 (MI 1) S4))),(W2 (C6 X5 (C7 O9 (C7 Vy (pv 2) (pv 0)) B7) B7 (D8 _))),(pv 1)⟩)))),?_⟩;dsimp only[RG,zDa,V7,zFk,QY,Xv,Zs];refine A7 rfl ⟨v,_,C0 rfl rfl ⟨IG.of S,rfl,a,A7 rfl ⟨IG.of k,fun D r=>?_⟩⟩⟩;refine As (n:=g.length) (fun i σ b=>(∃C G,σ = [C,G,some (.int (m:Int))])/\HY H b/\b D=some (.lst ((Em g m i).map V.str))) ⟨⟨_,_,rfl⟩,HY.new r,A9⟩ ?_ ?_ ?_ ?_
  .rintro i σ b u ⟨_,c,d⟩;exact⟨_,_,(c.at a).seqL (IG.of k),by rw[AH,AC u];rfl⟩
  .rintro σ b ⟨_,c,d⟩;exact⟨_,(c.at a).seqL (IG.of k),by rw[AB]⟩
  .rintro i σ b x H' N u ⟨⟨C,G,rfl⟩,c,d⟩ ⟨t,x,rfl,I,rfl,l⟩ J;have l:=l _ ((c.at a).seqL (IG.of k));have e:g[i]?=some g[i]:=AC u;rw[AH,e]at l;cases l;refine⟨t,A7 rfl ⟨JM.of A9,rfl,_,A7 rfl (C0 rfl rfl ?_)⟩⟩;have j:D≠t:=B0 d I;have L:HY H (IB b t (.tup [.int i,.str g[i]])):=c.trans (HY.new I);refine A7 rfl (A7 rfl (C0 rfl rfl ⟨(show(0:Int)<=(i:Int) by omega),C0 rfl rfl ⟨rfl,A7 rfl ?_⟩⟩));dsimp only;rw[Vu];have y:=(d6 g m i (by omega)).length_le;rw[AX]at y;refine T8 (fun z=>?_) (fun z=>?_)
   .refine A7 rfl ⟨_,by rw[B6 j];exact d,by rw[AB,sizeLine_eq];omega,J _ _ ⟨⟨_,_,rfl⟩,L.upd r,?_⟩⟩;rw[A9,T0 e,AK z,AO];rfl
   .refine J _ _ ⟨⟨_,_,rfl⟩,L,?_⟩;rw[B6 j,T0 e,AJ z,CJ];exact d
  .rintro σ b ⟨_,c,d⟩;exact q D b r c d
end
def w4(B:A0 Nat)(m j:Nat):Prop:=∃k,m.testBit k=true/\(B.getD k 0).testBit j=true
def LR(n:Nat)(A B:A0 Nat)(m j:Nat):Prop:=j<n/\∀b,(A.getD j 0).testBit b=true->w4 B m b
def JC(B:A0 Nat)(m:Nat):Prop:=∀i j,m.testBit i=true->m.testBit j=true->¬(B.getD i 0).testBit j=true
def Q8(a h:Nat):decide (V.int (Builtin.bitAnd (a:Int) (Builtin.bitNot (h:Int)))=V.int 0)=true↔∀b,a.testBit b=true->h.testBit b=true:=by
 rw[BU,PyProof.Rows.bitAnd_not,Ta];constructor
 .intro e b c;injection e with e;have e:a=a &&& h:=by omega
  rw[e,CY,BT]at c;exact c.2
 .intro k;have e:a &&& h=a:=BR fun b=>by
   rw[CY];cases c:a.testBit b with
   | false=>rfl
   | true=>rw[k b c];rfl
  rw[e,Int.sub_self]
def Ty(a m:Nat):decide (V.int (Builtin.bitAnd (a:Int) (m:Int))=V.int 0)=true↔∀b,a.testBit b=true->¬m.testBit b=true:=by
 rw[BU,Ta];constructor
 .intro e b c d;injection e with e;have e:a &&& m=0:=by omega
  have:(a &&& m).testBit b=true:=by rw[CY,c,d];rfl
  rw[e,CS]at this;cases this
 .intro k;have e:a &&& m=0:=BR fun b=>by
   rw[CY,CS];cases c:a.testBit b with
   | false=>rfl
   | true =>
    have:=k b c;cases d:m.testBit b with
    | false=>rfl
    | true=>exact absurd d this
  rw[e];rfl
def U4(d k j:Nat):(d ||| 2^k).testBit j=true↔d.testBit j=true\/j=k:=by
 rw[EF,EK,DK,BU];exact⟨fun h=>h.imp id Eq.symm,fun h=>h.imp id Eq.symm⟩
section
variable{P:F8}{w:H_}{K:PySem.W.Frag}{mg:Str->A6 A3}{base:IA}
theorem Di:IC ["_law_view", "_law_mask", "_law_hit_here", "_law_k"] ["_law_view", "_law_mask"] (B8 NR):=JX
def zBv:Sp:=fun b H Q _=>∃(p v:A4) (m:Nat) (a:A0 Str) (c:A0 (Str×Str)) (A B:A0 Nat),b = [.ref v,.int (m:Int)]/\I7 H p v a c A B/\a.length<=100 /\
 ∀h:Nat,(∀j,h.testBit j=true↔w4 B m j)->Q (.int (h:Int)) H
theorem Cs(T:Tx K mg):IP P w K mg base I_ 1 T.a8.f T.a8.fd ["_law_view", "_law_mask"] zBv:=by
 have g:=Di;refine T.a8.F.ok Di (fun C H Q E h=>?_) (fun D A l s H C Q E N h=>?_)
 .obtain⟨p,n,a,O,R,A,B,rfl,_⟩:=h;rfl
 .obtain⟨p,v,m,S,U,A,B,rfl,G,W,q⟩:=h;obtain⟨⟨a,s,t,x,I,X,J,_⟩,Y,y⟩:=id G;refine⟨_,(B4 (C5 (i:=2) g.nd rfl (.inl rfl) B7)
   (B4 (O4 PassesOwn.never rfl (Ze T.aS (A8 (E8 (P4 K) T.as O8 (A8 (E7 (LT K) (pv 0) B7 (fun _ _=>rfl)) B3)) B3)) (D4 (i:=3) g.nd rfl (.inl rfl))
   (B5 (K3 (C6 X5 (C7 O9 (C7 Vy (pv 1) (pv 3)) B7) B7 (D8 _)) (B5 (C5 (i:=2) g.nd rfl (.inl rfl) (C7 Am (pv 2) (E7 (LT K) (E7 (LT K) (pv 0) B7 (fun _ _=>rfl)) (pv 3) (fun _ _=>rfl))))) C8)))
   (B5 (C2 (pv 2))))),?_⟩
  refine A7 rfl ⟨v,_,C0 rfl rfl ⟨IG.of x,rfl,C0 (a:=a) rfl (.inl (IG.of I)) (A7 rfl ⟨?_,?_,?_⟩)⟩⟩
  .omega
  .rw[AB];omega
  rw[AB,CH];refine O7 (fun i σ o=>o=H/\∃(h:Nat) (r:A6 V),σ = [some (.ref v),some (.int (m:Int)),some (.int (h:Int)),r]/\∀j,h.testBit j=true↔∃k,k<i/\m.testBit k=true/\(B.getD k 0).testBit j=true) ?_ ?_ ?_
  .exact⟨rfl,0,_,rfl,fun j=>by rw[CS];simp⟩
  .rintro i σ o L ⟨rfl,h,r,rfl,d⟩ Z c _;rw[Int.zero_add];refine A7 rfl (A7 rfl (C0 rfl rfl ⟨(show(0:Int)<=(i:Int) by omega),C0 rfl rfl ⟨rfl,A7 rfl ?_⟩⟩));dsimp only;rw[Vu];refine T8 (fun u=>?_) (fun u=>?_)
   .refine A7 rfl (A7 rfl ⟨v,_,C0 rfl rfl ⟨IG.of x,rfl,A7 rfl ⟨t,_,C0 rfl rfl ⟨IG.of J,El (by rw[y.len];exact L),C0 rfl rfl ?_⟩⟩⟩⟩);dsimp only;rw[OX];refine c _ _ ⟨rfl,_,_,rfl,fun j=>?_⟩;rw[EF,EK,d];constructor
    .rintro(⟨k,b,h2⟩ | h2)
     .exact⟨k,by omega,h2⟩
     .exact⟨i,by omega,u,h2⟩
    .rintro⟨k,b,h2⟩;by_cases e:k=i
     .rw[e]at h2;exact .inr h2.2
     .exact .inl ⟨k,by omega,h2⟩
   .refine c _ _ ⟨rfl,h,_,rfl,fun j=>?_⟩;rw[d];constructor
    .rintro⟨k,b,h2⟩;exact⟨k,by omega,h2⟩
    .rintro⟨k,b,h2⟩;by_cases e:k=i
     .rw[e]at h2;exact absurd h2.1 u
     .exact⟨k,by omega,h2⟩
  .rintro σ o ⟨rfl,h,r,rfl,d⟩;refine A7 rfl (q h fun j=>?_);rw[d];constructor
   .rintro⟨k,b,h2⟩;exact⟨k,h2⟩
   .rintro⟨k,b,h2⟩;refine⟨k,?_,b,h2⟩;obtain⟨z,_,M,_⟩:=(y.bit k j).mp h2;exact(AG.mp M).1
theorem Ag:IC ["_law_view", "_law_mask", "_law_hit_here", "_law_kept_here", "_law_k"] ["_law_view", "_law_mask"] (B8 NG):=JX
def Xt:Sp:=fun b H Q _=>∃(p v:A4) (m:Nat) (a:A0 Str) (c:A0 (Str×Str)) (A B:A0 Nat),b = [.ref v,.int (m:Int)]/\I7 H p v a c A B/\a.length<=100 /\
 ∀h:Nat,(∀j,h.testBit j=true↔LR a.length A B m j)->Q (.int (h:Int)) H
theorem Be(T:Tx K mg):IP P w K mg base I_ 2 T.aT.f T.aT.fd ["_law_view", "_law_mask"] Xt:=by
 have k:=Cs (P:=P) (w:=w) (base:=base) T;have y:=Ag;refine T.aT.F.ok Ag (fun R H Q E h=>?_) (fun S A D s H R Q E U h=>?_)
 .obtain⟨p,n,a,ss,ps,A,B,rfl,_⟩:=h;rfl
 .obtain⟨p,v,m,W,X,A,B,rfl,M,Y,q⟩:=h;obtain⟨⟨a,s,t,N,Z,e3,e4,_⟩,mA,mB⟩:=id M;refine⟨_,(B4 (C5 (i:=2) y.nd rfl (.inl rfl) (C9 T.a8 k (Rm U) (A8 (pv 0) (A8 (pv 1) B3))))
   (B4 (C5 (i:=3) y.nd rfl (.inl rfl) B7)
   (B4 (O4 PassesOwn.never rfl (Ze T.aS (A8 (E8 (P4 K) T.as O8 (A8 (E7 (LT K) (pv 0) B7 (fun _ _=>rfl)) B3)) B3)) (D4 (i:=4) y.nd rfl (.inl rfl))
   (B5 (K3 (C6 X5 (C7 O9 (E7 (LT K) (E7 (LT K) (pv 0) B7 (fun _ _=>rfl)) (pv 4) (fun _ _=>rfl)) (Jf Ks (pv 2))) B7 (D8 _)) (B5 (C5 (i:=3) y.nd rfl (.inl rfl) (C7 Am (pv 3) (C7 Ay B7 (pv 4))))) C8)))
   (B5 (C2 (pv 3)))))),?_⟩
  refine A7 rfl (A7 rfl (Xg (a:=p) (b:=v) (c:=m) (d:=W) (e:=X) (f:=A) (g:=B) rfl M Y fun u l=>?_));refine A7 rfl ⟨v,_,C0 rfl rfl ⟨IG.of N,rfl,C0 (a:=a) rfl (.inl (IG.of Z)) (A7 rfl ⟨?_,?_,?_⟩)⟩⟩
  .omega
  .rw[AB];omega
  rw[AB,CH];refine O7 (fun i σ G=>G=H/\∃(h:Nat) (I:A6 V),σ = [some (.ref v),some (.int (m:Int)),some (.int (u:Int)),some (.int (h:Int)),I]/\∀j,h.testBit j=true↔LR i A B m j) ?_ ?_ ?_
  .exact⟨rfl,0,_,rfl,fun j=>by rw[CS];exact⟨fun z=>(by cases z),fun z=>absurd z.1 (FI _)⟩⟩
  .rintro i σ G hi ⟨rfl,h,I,rfl,C⟩ D1 x _;rw[Int.zero_add];refine A7 rfl ⟨v,_,C0 rfl rfl ⟨IG.of N,rfl,A7 rfl ⟨s,_,C0 rfl rfl ⟨IG.of e3,El (by rw[mA.len];exact hi),A7 rfl (A7 rfl (C0 rfl rfl ⟨rfl,A7 rfl ?_⟩))⟩⟩⟩⟩;dsimp only;have O:=Q8 (A.getD i 0) u;refine T8 (fun J=>?_) (fun J=>?_)
   .refine A7 rfl (A7 rfl (C0 rfl rfl ⟨⟨by omega,by omega,by decide⟩,C0 rfl rfl ?_⟩));dsimp only;rw[Wq,OX];refine x _ _ ⟨rfl,_,_,rfl,fun j=>?_⟩;rw[U4,C];constructor
    .rintro(⟨L,o⟩ | rfl)
     .exact⟨by omega,o⟩
     .exact⟨by omega,fun b r=>(l b).mp (O.mp J b r)⟩
    .rintro⟨L,o⟩;by_cases e:j=i
     .exact .inr e
     .exact .inl ⟨by omega,o⟩
   .refine x _ _ ⟨rfl,h,_,rfl,fun j=>?_⟩;rw[C];constructor
    .rintro⟨L,o⟩;exact⟨by omega,o⟩
    .rintro⟨L,o⟩;by_cases e:j=i
     .subst e;exact absurd (O.mpr fun b r=>(l b).mpr (o b r)) J
     .exact⟨by omega,o⟩
  .rintro σ G ⟨rfl,h,I,rfl,C⟩;exact⟨_,rfl,q h C⟩
theorem W8:IC ["_law_view", "_law_mask"] ["_law_view", "_law_mask"] (B8 LE):=JX
def Pc:Sp:=fun c H Q _=>∃(p v:A4) (m:Nat) (a:A0 Str) (d:A0 (Str×Str)) (A B:A0 Nat),c = [.ref v,.int (m:Int)]/\I7 H p v a d A B/\a.length<=100 /\
 ∀b:Bool,(b=true↔JC B m)->Q (.bl b) H
theorem W5(T:Tx K mg):IP P w K mg base I_ 2 T.aG.f T.aG.fd ["_law_view", "_law_mask"] Pc:=by
 have k:=Cs (P:=P) (w:=w) (base:=base) T;have M:=W8;refine T.aG.F.ok W8 (fun x H Q E h=>?_) (fun y A o s H x Q E z h=>?_)
 .obtain⟨p,n,a,N,O,A,B,rfl,_⟩:=h;rfl
 .obtain⟨p,v,m,C,D,A,B,rfl,G,I,q⟩:=h;refine⟨_,(B5 (C2 (P1 X5 (C7 O9 (C9 T.a8 k (Rm z) (A8 (pv 0) (A8 (pv 1) B3))) (pv 1)) B7 (D8 _)))),?_⟩;refine A7 rfl (A7 rfl (Xg (a:=p) (b:=v) (c:=m) (d:=C) (e:=D) (f:=A) (g:=B) rfl G I fun J l=>?_));refine A7 rfl (C0 rfl rfl ⟨rfl,?_⟩);refine q _ ?_;dsimp only;rw[Ty];constructor
  .intro h i j r t u;exact h j ((l j).mpr ⟨i,r,u⟩) t
  .intro h j t L;obtain⟨i,r,u⟩:=(l j).mp t;exact h i j r L u
end
def Td{H H':Hp}{p:A4}{c:Int}{q:JD}(h:E1 H q)(L:IL H p c)(s:Sm [p] H H'):E1 H' q:=by
 obtain⟨x,y,e,_⟩:=L;exact JR s h (R9 h e (by intro z;cases z))
def JL.sm{C:A4}{H H':Hp}{x p:A4}{c:Int}{ns:A0 Str}{g:A0 JD}(h:JL C H x ns g)(L:IL H p c)(s:Sm [p] H H'):JL C H' x ns g:=by
 obtain⟨m,r,a,b,c,d,t,u,w,i,j,A,B,D,E,F⟩:=h;obtain⟨y,z,G,_⟩:=id L;have k:∀{b:A4} {o:HO},H b=some o->o≠ .lst [.int y,.int z,.int _]->H' b=some o:=fun e n=>JR s e (R9 e G n);exact⟨m,r,a,b,c,d,t,u,k w (by intro z;cases z),JR s i (L.ne i),JR s j (L.neP j),fun q I=>Td (A q I) L s,k B (by intro z;cases z),k D (by intro z;cases z),fun n f=>let⟨l,v,e⟩:=E n f;⟨l,v,JR s e (L.ne e)⟩,fun n f=>let⟨l,v,e⟩:=F n f;⟨l,v,JR s e (L.ne e)⟩⟩
def sd(a:A0 Str):PyData:=.list (a.map PyData.str)
def La{K:PySem.W.Frag}{H:Hp}:∀a:A0 Str,NV K H (a.map PyData.str) (a.map V.str)
 | []=>by simp[NV]
 | x::r=>by
  simp only[BB,NV,Rp];exact⟨_,_,rfl,rfl,La r⟩
def U1{K:PySem.W.Frag}{H:Hp}{l:A4}{a:A0 Str}(h:IG K H l (a.map V.str)):Rp K H (sd a) (.ref l):=by
 unfold sd;simp only[Rp];exact⟨l,_,rfl,h,La a⟩
def n8:∀a:A0 Str,PyData.depthAll (a.map PyData.str)<=1
 | []=>by simp[PyData.depthAll]
 | x::r=>by
  have:=n8 r;simp only[BB,PyData.depthAll,PyData.depth];omega
def Bb:∀a:A0 JD,PyData.depthAll (a.map fun q=>pd q.2)<=3
 | []=>by simp[PyData.depthAll]
 | x::r=>by
  have:=Bb r;have e:(pd x.2).depth<=3:=by simp[pd,PyData.depth,PyData.depthAll]
  rw[BB,PyData.depthAll];omega
def Lr:∀{a:A0 Str},(∀x∈a,PySem.PyData.strOk x=true)->PyData.canLayAll0 (a.map PyData.str)=true
 | [],_=>rfl
 | x::r,h=>by
  rw[BB,PyData.canLayAll0,Lr fun z b=>h z (AY _ b)];simp[PyData.canLay0,h x (BH ..)]
def o9{a:A0 Str}(h:∀x∈a,Q0 x=true):Pl (sd a):=by
 refine⟨?_,?_⟩
 .unfold sd;rw[PyData.canLay0];exact Lr fun x b=>l8 (h x b)
 .unfold sd;rw[PyData.depth];have:=n8 a;omega
def To{a:A0 JD}(h:∀q∈a,Q0 q.2.1=true/\Q0 q.2.2=true):Pl (.list (a.map fun q=>pd q.2)):=by
 refine⟨?_,?_⟩
 .rw[PyData.canLay0];exact Jk fun q b=>⟨l8 (h q b).1,l8 (h q b).2⟩
 .rw[PyData.depth];have:=Bb a;omega
def Fh{K:PySem.W.Frag}{x y:V}{d:PyData}{H:Hp}{Q:VK}(h1:Rp K H d x)(h2:Rp K H d y)(p:Pl d)(q:Q (.bl false) H):zEm K x y H Q :=
 ⟨d,d,h1,h2,p,p,by rw[PySem.SeqAt.eqv_refl d p.1];exact q⟩
def Yk{K:PySem.W.Frag}{x y:V}{d:PyData}{H:Hp}{Q:VK}(h1:Rp K H d x)(h2:Rp K H d y)(p:Pl d)(q:Q (.bl true) H):zEh K x y H Q :=
 ⟨d,d,h1,h2,p,p,by rw[PySem.SeqAt.eqv_refl d p.1];exact q⟩
def pB(p:Prop):Bool:=@decide p (Classical.propDecidable p)
def MK{p:Prop}:pB p=true↔p:=@BU p (Classical.propDecidable p)
def Zl{p:Prop}{b:Bool}(h:b=true↔p):b=pB p:=BZ.mpr (h.trans MK.symm)
def Ro:∀(j a b:Nat),(∀j,a.testBit j=true->¬b.testBit j=true)->(a+b).testBit j =(a.testBit j||b.testBit j)
 | 0,a,b,h=>by
  have c:=h 0;rw[CZ,CZ,BU,BU]at c;rw[CZ,CZ,CZ,<-Bool.decide_or];exact decide_eq_decide.mpr ⟨fun z=>by omega,fun z=>by omega⟩
 | j+1,a,b,h=>by
  have c:=h 0;rw[CZ,CZ,BU,BU]at c;rw[DJ,DJ,DJ,show(a+b) / 2=a / 2+b / 2 by omega];exact Ro j (a / 2) (b / 2) fun i=>by have:=h (i+1);rw[DJ,DJ]at this;exact this
def Fe:∀{l:A0 Nat},l.Nodup->∀j,((l.map fun k=>2^k).sum).testBit j=true↔j∈l
 | [],_,j=>by simp
 | k::l,b,j=>by
  obtain⟨c,d⟩:=CL.mp b;have a:=Fe d;rw[BB,GX,Nat.add_comm,Ro j _ _ fun i z y=>?_,EK,a,DK,BU,AU];rotate_left
  .rw[DK,BU]at y;exact c (y▸(a i).mp z)
  exact⟨fun h=>h.elim .inr fun e=>.inl e.symm,fun h=>h.elim (fun e=>.inr e.symm) .inl⟩
def Za:∀(s:Nat),0<s->∃k,s.testBit k=true/\s-(s &&&(s-1))=2^k:=by
 intro s
 induction s using Nat.strongRecOn with
 | _ s a =>
  intro h;by_cases o:s % 2=1
  .refine⟨0,by rw[CZ];exact BD o,?_⟩;have e:s &&&(s-1)=s-1:=BR fun i=>by
    rw[CY];cases i with
    | zero=>rw[CZ,CZ,BC (by omega:¬(s-1) % 2=1),HH]
    | succ i=>rw[DJ,DJ,show(s-1) / 2=s / 2 by omega,Bool.and_self]
   rw[e];omega
  .obtain⟨k,b,c⟩:=a (s / 2) (by omega) (by omega);refine⟨k+1,by rw[DJ];exact b,?_⟩;have e:s &&&(s-1)=2 *(s / 2 &&&(s / 2-1)):=BR fun i=>by
    rw[CY];cases i with
    | zero=>rw[CZ,CZ,BC o,EE,CZ,BC (by omega)]
    | succ i=>rw[DJ,DJ,DJ,Nat.mul_div_cancel_left _ (by decide),CY,show(s-1) / 2=s / 2-1 by omega]
   have:s / 2 &&&(s / 2-1)<=s / 2:=Nat.and_le_left;rw[e,Nat.pow_succ];omega
def LC(n m:Nat):Prop:=∀j,m.testBit j=true->j<n
def LC.or{n m k:Nat}(h:LC n m)(b:k<n):LC n (m ||| 2^k):=fun j a=>((U4 m k j).mp a).elim (h j) fun e=>by omega
def LC.zero(n:Nat):LC n 0:=fun j a=>by rw[CS]at a;cases a
def LC.lt{n m:Nat}(h:LC n m):m<2^n:=Nat.lt_pow_two_of_testBit m fun i a=>B_.mpr fun z=>by have:=h i z;omega
structure QU(n:Nat)(A B:A0 Nat):Prop where
 tr:∀i j,(A.getD i 0).testBit j=true↔(B.getD j 0).testBit i=true
 lt:∀i j,(B.getD i 0).testBit j=true->i<n/\j<n
def MB.net{ns:A0 Str}{ks:A0 (Str×Str)}{A B:A0 Nat}(a:MB ns (ks.map fun k=>(k.2,k.1)) A)(b:MB ns ks B):QU ns.length A B:=by
 refine⟨fun i j=>?_,fun i j h=>?_⟩
 .rw[a.bit,b.bit];constructor
  .rintro⟨_,e,c,d⟩;obtain⟨k,f,rfl⟩:=AR.mp e;exact⟨k,f,d,c⟩
  .rintro⟨k,e,c,d⟩;exact⟨_,AR.mpr ⟨k,e,rfl⟩,d,c⟩
 .obtain⟨k,_,c,d⟩:=(b.bit i j).mp h;exact⟨(AG.mp c).1,(AG.mp d).1⟩
def Mw(n:Nat)(A B:A0 Nat)(m:Nat):Prop:=LC n m/\JC B m/\∀j,m.testBit j=true->LR n A B m j
def Sub(c a:Nat):Prop:=∀j,c.testBit j=true->a.testBit j=true
def Iv(m i:Nat):((Builtin.bitAnd ((2^i:Nat):Int) (m:Int)) != 0)=m.testBit i:=by
 rw[Ta];have e:(2^i &&& m)=if m.testBit i=true then 2^i else 0:=BR fun j=>by
  rw[CY,DK];by_cases h:m.testBit i=true
  .rw[AK h,DK];by_cases c:i=j
   .subst c;rw[h,Bool.and_true]
   .rw[BC c,EE]
  .rw[AJ h,CS];by_cases c:i=j
   .subst c;rw[B_.mpr h,HH]
   .rw[BC c,EE]
 rw[e];have p:0<2^i:=Nat.pow_pos (by decide);by_cases h:m.testBit i=true
 .rw[AK h,h,bne_iff_ne];omega
 .rw[AJ h,B_.mpr h];rfl
def zFt(x y:Nat)(h:∀j,y.testBit j=true->x.testBit j=true):∃z:Nat,Builtin.bitXor (x:Int) (y:Int) =(z:Int)/\∀j,z.testBit j=true↔x.testBit j=true/\¬y.testBit j=true:=by
 have b:∀j,(x ^^^ y).testBit j=true↔x.testBit j=true/\¬y.testBit j=true:=fun j=>by
  rw[Nat.testBit_xor];cases d:x.testBit j<;>cases f:y.testBit j<;>simp;exact absurd (h j f) (by rw[d];decide)
 refine⟨x ^^^ y,?_,b⟩;have e:(x ^^^ y)+y=x:=BR fun j=>by
  rw[Ro j _ _ fun i z=>((b i).mp z).2,BZ,EK,b];exact⟨fun z=>z.elim (·.1) (h j),fun z=>by by_cases c:y.testBit j=true<;>simp[z,c]⟩
 have a:x &&& y=y:=BR fun j=>by
  rw[CY,BZ,BT];exact⟨(·.2),fun z=>⟨h j z,z⟩⟩
 rw[PyProof.Rows.bitXor_and,Ta,a];omega
def bK(M:A0 Nat)(n:Nat):A0 (IW×V):=(List.range n).map fun i=>((Sum.inl ((2^i:Nat):Int):IW),I0 (M.getD i 0))
def Pw{i j:Nat}(h:((2^i:Nat):Int) =((2^j:Nat):Int)):i=j:=(Nat.pow_right_inj (by decide)).mp (Int.ofNat_inj.mp h)
def Mm(M:A0 Nat):∀{n i:Nat},i<n->U2 (bK M n) (.inl ((2^i:Nat):Int))=some (I0 (M.getD i 0))
 | n+1,i,h=>by
  unfold U2 bK;rw[EI,AO,List.find?_append];by_cases c:i<n
  .have a:=Mm M c;unfold U2 bK at a;cases e:(List.find? (fun b:IW×V=>decide (b.1=Sum.inl ((2^i:Nat):Int))) ((List.range n).map fun i=>((Sum.inl ((2^i:Nat):Int):IW),I0 (M.getD i 0))))with
   | none=>rw[e]at a;cases a
   | some q=>rw[e]at a;rw[Option.some_or];exact a
  .have e:i=n:=by omega
   subst e;rw[List.find?_eq_none.mpr fun q d z=>?_,Option.none_or]
   .rw[BB,EX,BD rfl];rfl
   .obtain⟨k,f,rfl⟩:=AR.mp d;have:=Pw (Sum.inl.inj (CC z));have:=BW.mp f;omega
def mf(a b c d:A4)(n L:Nat):A0 (Str×V):=[("names",.ref a),("full",I0 (2^n-1)),("bit_of",.ref b),("strikers_of",.ref c),("struck_of",.ref d),("loops",I0 L)]
structure IE(C:A4)(H:Hp)(x c:A4)(ns:A0 Str)(A B:A0 Nat)(L:Nat):Prop where
 ex:∃dx a b d kb,H x=some (.ins C dx (mf a b c d ns.length L))/\H a=some (.lst (ns.map V.str))/\Rd H b (.dK kb)/\(∀i n,ns[i]?=some n->U2 kb (.inr n)=some (I0 (2^i)))/\Rd H c (.dK (bK A ns.length))/\H d=some (.dK (bK B ns.length))/\d≠c/\b≠c
 net:QU ns.length A B
 nd:ns.Nodup
 len:ns.length<=100
 loops:∀j,L.testBit j=true↔(A.getD j 0).testBit j=true
def Zy{H:Hp}{a c:A4}{b:A0 (IW×V)}{o:HO}(r:Rd H c (.dK b))(h:H a=some o)(e:∀b,o≠ .dK b)(f:∀d u,o≠ .frz d u):a≠c:=by
 rintro rfl;rcases r with r | ⟨d,r⟩
 .rw[h]at r;exact e _ (BG r)
 .rw[h]at r;exact f _ _ (BG r)
def zEe{H H':Hp}{b c:A4}{u:HO}(r:Rd H b u)(s:Sm [c] H H')(n:b≠c):Rd H' b u:=r.imp (fun h=>JR s h n) fun⟨o,h⟩=>⟨o,JR s h n⟩
def IE.fz{C:A4}{H H':Hp}{x c:A4}{ns:A0 Str}{A B:A0 Nat}{L:Nat}(h:IE C H x c ns A B L)(s:Sm [c] H H')(r:Rd H' c (.dK (bK A ns.length))):IE C H' x c ns A B L:=by
 obtain⟨⟨k,a,b,d,l,e,f,m,n,g,o,i,j⟩,p,q,t,u⟩:=h;exact⟨⟨k,a,b,d,l,JR s e (Zy g e (fun _ z=>by cases z) fun _ _ z=>by cases z),JR s f (Zy g f (fun _ z=>by cases z) fun _ _ z=>by cases z),zEe m s j,n,r,JR s o i,i,j⟩,p,q,t,u⟩
def IE.same{C:A4}{H H':Hp}{x c:A4}{ns:A0 Str}{A B:A0 Nat}{L:Nat}(h:IE C H x c ns A B L)(s:HY H H'):IE C H' x c ns A B L :=
 h.fz s.sm (let⟨_,_,_,_,_,_,_,_,_,a,_⟩:=h.ex;a.imp (s _ _) fun⟨o,e⟩=>⟨o,s _ _ e⟩)
def D0(m i:Nat):A0 Nat:=(List.range i).filter fun k=>m.testBit k
def Q2(m i:Nat):D0 m (i+1)=D0 m i++if m.testBit i=true then [i]else []:=by
 unfold D0;rw[EI,EA,DQ,GH]
def M6(m i:Nat):(D0 m i).length<=i:=Nat.le_trans (BP ..) (by rw[BV];exact Nat.le_refl _)
section
variable{P:F8}{w:H_}{K:PySem.W.Frag}{mg:Str->A6 A3}{base:IA}
theorem V2:IC ["self", "some"] ["self", "some"] (B8 LA):=JX
def r8(C:A4):Sp:=fun d H Q _=>∃(x c:A4) (b:A0 Str) (A B:A0 Nat) (L m:Nat),d = [.ref x,.int (m:Int)]/\IE C H x c b A B L/\∀l a,H l=none->Sm [c] H a->IE C a x c b A B L->a l=some (.lst ((D0 m b.length).map fun k=>I0 (2^k)))->Q (.ref l) a
theorem E6(T:Tx K mg):IP P w K mg base I_ 1 T.ac.f T.ac.fd ["self", "some"] (r8 T.ab):=by
 have sc:=V2;refine T.ac.F.ok V2 (fun W H Q E h=>?_) (fun X A p s H W Q E hr h=>?_)
 .obtain⟨x,c,e,A,B,L,m,rfl,_⟩:=h;rfl
 .obtain⟨x,c,e,A,B,L,m,rfl,r,q⟩:=h;obtain⟨Y,a,b,d,kb,Z,e2,e3,e4,e5,e6,n1,n2⟩:=r.ex;have ln:=r.len;refine⟨_,(B5 (C2 (X0 (N':=["bit", "some"]) (cap:=[none,some 1]) (cl:=[("some",_)]) (P9 ⟨⟨rfl,rfl,rfl,rfl⟩,trivial⟩ ⟨rfl,trivial⟩) rfl (Yl (NJ K (pv 0))) (fun _ _ _ _=>by exact⟨(MI 0),(W2 (RL K (C7 O9 (pv 0) (pv 1)))),(pv 0)⟩)))),?_⟩;refine A7 rfl ⟨x,T.ab,Y,_,A7 rfl ⟨Z,T.ad,T.ay,rfl,c,_,rfl,e5,fun o D j=>?_⟩⟩;have t:D≠c:=fun z=>by rw[z,A9]at j;cases j
  have u:Sm [c] H (IB H c (.frz o (.dK (bK A e.length)))):=(Sm.refl _ _).upd (by simp);have O:Rd (IB H c (.frz o (.dK (bK A e.length)))) c (.dK (bK A e.length)):=.inr ⟨o,A9⟩;have C:(IB H c (.frz o (.dK (bK A e.length)))) c=some (.frz o (.dK (bK A e.length))):=A9;have I:H D=none:=by rw[B6 t]at j;exact j
  have R:=r.fz u O;generalize IB H c (.frz o (.dK (bK A e.length)))=H1 at j u O C R⊢;have S:(bK A e.length).length=e.length:=by unfold bK;rw[AB,BV]
  refine As (n:=e.length) (fun i σ G=>(∃U,σ = [U,some (.int (m:Int))])/\HY H1 G/\G D=some (.lst ((D0 m i).map fun k=>I0 (2^k)))) ⟨⟨_,rfl⟩,HY.new j,A9⟩ ?_ ?_ ?_ ?_
  .rintro i σ G J ⟨_,g,_⟩;exact⟨g _ _ C,by rw[S];exact J⟩
  .rintro σ G ⟨_,g,_⟩;exact⟨g _ _ C,by rw[S];exact Nat.le_refl _⟩
  .rintro i σ G y H' N J ⟨⟨U,rfl⟩,g,l⟩ ⟨rfl,k,v,M,rfl⟩ V;unfold bK at M;rw[AH,List.getElem?_range J]at M;obtain⟨rfl,rfl⟩:=Prod.mk.inj (BG M);refine A7 rfl (A7 rfl (C0 rfl rfl ⟨_,rfl,?_⟩));dsimp only;rw[Iv];have hl:=M6 m i;refine T8 (fun z=>A7 rfl ⟨_,l,by rw[AB,sizeLine_eq];omega,V _ _ ⟨⟨_,rfl⟩,g.upd j,?_⟩⟩) (fun z=>V _ _ ⟨⟨_,rfl⟩,g,?_⟩)
   .rw[A9,Q2,AK z,AO];rfl
   .rw[Q2,AJ z,CJ];exact l
  .rintro σ G ⟨_,g,l⟩;exact q D G I (u.trans g.sm) (R.same g) l
end
def zDh{α:Type}{J:It}{b:A0 α}{r:α->V}(f:α->V){a D:A4}{H:Hp}(as:LB J (b.map r) a H){j:TT}{k:TE}{c:St}{l:A6 V}{Q:St->Hp->Prop}(p:α->Bool)(z:b.length<=5000)(m:H D=none)
  (A:∀y∈b,∀G,HY H G->∀M:Bool->Hp->Prop,(∀e,HY G e->M (p y) e)->j (some (r y)::c) G M) (B:∀y∈b,∀G,HY H G->∀M:VK,(∀e,HY G e->M (f y) e)->k (some (r y)::c) G M)
  (q:∀σ G,HY H G->G D=some (.lst ((b.filter p).map f))->Q σ G):Jx (V7 0) j (Cg D k) J (l::c) (IB H D (.lst [])) Q:=by
 refine Y3 as (fun i σ G=>(∃v,σ=v::c)/\HY H G/\G D=some (.lst (((b.take i).filter p).map f))) ⟨⟨_,rfl⟩,HY.new m,A9⟩ (fun i σ G _ h=>h.2.1.at a) ?_ ?_
 .rintro i σ G v N n ⟨⟨l,rfl⟩,d,g⟩ o;rw[AH]at n;obtain⟨y,s,rfl⟩:=BL.mp n;have t:=AM s;refine A y t G d _ fun e u=>?_;have g:=u _ _ g;have d:=d.trans u;have w:(b.take (i+1)).filter p =(b.take i).filter p++if p y=true then [y]else []:=by
   rw[IT s,EA,DQ,GH]
  have C:=BP p (b.take i);rw[AX]at C;refine T8 (fun c=>B y t e d _ fun E x=>⟨_,x _ _ g,by rw[AB,sizeLine_eq];omega,o _ _ ⟨⟨_,rfl⟩,(d.trans x).upd m,?_⟩⟩) (fun c=>o _ _ ⟨⟨_,rfl⟩,d,?_⟩)
  .rw[A9,w,AK c,AO];rfl
  .rw[w,AJ c,CJ];exact g
 .rintro σ G ⟨_,d,g⟩;rw[AB,CI]at g;exact q σ G d g
def Ea{α:Type}{J:It}{d:A0 α}{r:α->V}(f:α->V){a D:A4}{H:Hp}(as:LB J (d.map r) a H){h:TT}{i:TE}{c:St}{k:A6 V}{Q:St->Hp->Prop}(p:α->Bool)(g:d.length<=5000)(l:H D=none)
  (m:∀y∈d,∀G,HY H G->∀M:Bool->Hp->Prop,(∀j,HY G j->M (p y) j)->h (some (r y)::c) G M) (n:∀y∈d,∀G,HY H G->∀M:VK,M (f y) G->i (some (r y)::c) G M)
  (q:∀σ G,HY H G->G D=some (.lst ((d.filter p).map f))->Q σ G):Jx (V7 0) h (Cg D i) J (k::c) (IB H D (.lst [])) Q :=
 zDh f as p g l m (fun y t G s M u=>n y t G s M (u G fun b o e=>e)) q
def JG{m n k:Nat}:k∈D0 m n↔k<n/\m.testBit k=true:=by
 unfold D0;rw[BM,BW]
def Lh(n j:Nat):(2^n-1).testBit j=true↔j<n:=by rw[Nat.testBit_two_pow_sub_one,BU]
section
variable{P:F8}{w:H_}{K:PySem.W.Frag}{mg:Str->A6 A3}{base:IA}
theorem S6:IC ["self", "some"] ["self", "some"] (B8 KL):=JX
def Jr(C:A4):Sp:=fun d H Q _=>∃(x c:A4) (b:A0 Str) (A B:A0 Nat) (L m:Nat),d = [.ref x,.int (m:Int)]/\IE C H x c b A B L/\∀l a,H l=none->HY H a->a l=some (.lst ((IQ b m).map V.str))->Q (.ref l) a
theorem S7(T:Tx K mg):IP P w K mg base I_ 1 T.al.f T.al.fd ["self", "some"] (Jr T.ab):=by
 have sc:=S6;refine T.al.F.ok S6 (fun S H Q E h=>?_) (fun U A l s H S Q E W h=>?_)
 .obtain⟨x,c,p,A,B,L,m,rfl,_⟩:=h;rfl
 .obtain⟨x,c,p,A,B,L,m,rfl,u,q⟩:=h;have X:=Y9 W;obtain⟨v,a,b,d,C,I,J,Y,Z,e5,e6,n1,n2⟩:=u.ex;have ln:=u.len;refine⟨_,(B5 (C2 (X0 (N':=["name", "some", "self"]) (cap:=[none,some 1,some 0]) (cl:=[("some",_),("self",_)]) (P9 ⟨⟨rfl,rfl,rfl,rfl⟩,⟨⟨rfl,rfl,rfl,rfl⟩,trivial⟩⟩ ⟨rfl,⟨rfl,trivial⟩⟩) rfl (MZ K (NJ K (pv 0))) (fun _ _ _ _=>by exact⟨(MI 0),(W2 (RL K (C7 O9 (K7 X (NJ K (pv 2)) (pv 0) (fun _ _=>rfl)) (pv 1)))),(pv 0)⟩)))),?_⟩;refine A7 rfl ⟨x,T.ab,v,_,A7 rfl ⟨I,T.ad,T.aH,rfl,a,rfl,⟨_,IG.of J⟩,fun D r=>?_⟩⟩;refine Y3 (MN (IG.of J)) (fun i σ G=>(∃M,σ = [M,some (.int (m:Int)),some (.ref x)])/\HY H G/\G D=some (.lst ((Em p m i).map V.str))) ⟨⟨_,rfl⟩,HY.new r,A9⟩ (fun i σ G _ h=>h.2.1.at a) ?_ ?_
  .rintro i σ G y N O ⟨⟨M,rfl⟩,g,j⟩ R;rw[AH]at O;obtain⟨n,k,rfl⟩:=BL.mp O;have li:=(AG.mp k).1;have rb:Rd G b (.dK C):=Y.imp (g _ _) fun⟨o,e⟩=>⟨o,g _ _ e⟩;refine A7 rfl ⟨x,T.ab,v,_,A7 rfl ⟨g _ _ I,T.ad,T.a0,rfl,A7 rfl ⟨b,_,rfl,.inl ⟨C,.inr n,rb,rfl,(Z i n k).symm⟩,A7 rfl (C0 rfl rfl ⟨_,rfl,?_⟩)⟩⟩⟩;dsimp only;rw[Iv];have t:=(d6 p m i (by omega)).length_le;rw[AX]at t;refine T8 (fun z=>A7 rfl ⟨_,j,by rw[AB,sizeLine_eq];omega,R _ _ ⟨⟨_,rfl⟩,g.upd r,?_⟩⟩) (fun z=>R _ _ ⟨⟨_,rfl⟩,g,?_⟩)
   .rw[A9,T0 k,AK z,AO];rfl
   .rw[T0 k,AJ z,CJ];exact j
  .rintro σ G ⟨_,g,j⟩;rw[AB]at j;exact q D G r g j
theorem Gs:IC ["sets", "whole", "one"] ["sets"] (B8 N_):=JX
def Re(K:PySem.W.Frag):Sp:=fun b H Q _=>∃(l:A4) (a:A0 Nat),b = [.ref l]/\H l=some (.lst (a.map I0))/\∀r:Nat,(∀j,r.testBit j=true↔∃z∈a,z.testBit j=true)->Q (.int (r:Int)) H
theorem Gj(T:Tx K mg):IP P w K mg base I_ 1 T.bd.f T.bd.fd ["sets"] (Re K):=by
 have c:=Gs;refine T.bd.F.ok Gs (fun x H Q E h=>?_) (fun B A d s H x Q E a h=>?_)
 .obtain⟨l,t,rfl,_⟩:=h;rfl
 .obtain⟨l,t,rfl,u,q⟩:=h;refine⟨_,(B4 (C5 (i:=1) c.nd rfl (.inl rfl) B7)
   (B4 (O4 PassesOwn.never rfl (MZ K (pv 0)) (D4 (i:=2) c.nd rfl (.inl rfl))
   (B5 (zCf (i:=1) c.nd rfl (Or.inl rfl) (pv 2) zEf)))
   (B5 (C2 (pv 1))))),?_⟩
  refine B9 fun D g=>?_;refine g _ _ (B9 fun I k=>?_);refine A7 rfl ⟨l,rfl,⟨_,IG.of u⟩,?_⟩;refine R8 (MN (K:=K) (IG.of u)) (fun i σ G=>G=H/\∃(r:Nat) (m:A6 V),σ = [some (.ref l),some (.int (r:Int)),m]/\∀j,r.testBit j=true↔∃z∈t.take i,z.testBit j=true) ⟨rfl,0,_,rfl,fun j=>by simp⟩ (fun i σ G _ h=>by rw[h.1];exact fun o e=>e) ?_ ?_
  .rintro i σ G y v ⟨rfl,r,m,rfl,a⟩ J n _;rw[AH]at v;obtain⟨z,C,rfl⟩:=BL.mp v;refine A7 rfl (A7 rfl (C0 rfl rfl ?_));dsimp only;rw[OX];refine n _ _ ⟨rfl,_,_,rfl,fun j=>?_⟩;rw[EF,EK,a,IT C];constructor
   .rintro(⟨p,h1,b⟩ | h)
    .exact⟨p,EU _ h1,b⟩
    .exact⟨z,BI _ (AF.mpr rfl),h⟩
   .rintro⟨p,h1,b⟩;rcases A_.mp h1 with h1 | h1
    .exact .inl ⟨p,h1,b⟩
    .rw[AF.mp h1]at b;exact .inr b
  .rintro σ G ⟨rfl,r,m,rfl,a⟩;rw[AB,CI]at a;exact k _ _ (A7 rfl (q r a))
def Qg(C:A4)(f:A0 Nat->A0 Nat->A0 Nat):Sp:=fun d H Q _=>∃(x c:A4) (b:A0 Str) (A B:A0 Nat) (L m:Nat),d = [.ref x,.int (m:Int)]/\IE C H x c b A B L/\∀(r:Nat) a,Sm [c] H a->IE C a x c b A B L->(∀j,r.testBit j=true↔w4 (f A B) m j)->Q (.int (r:Int)) a
theorem Qc{n m r:Nat}{M:A0 Nat}(b:∀k j,(M.getD k 0).testBit j=true->k<n)(h:∀j,r.testBit j=true↔∃z∈(D0 m n).map (fun k=>M.getD k 0),z.testBit j=true)(j:Nat):r.testBit j=true↔w4 M m j:=by
 rw[h];constructor
 .rintro⟨z,c,e⟩;obtain⟨k,a,rfl⟩:=AR.mp c;exact⟨k,(JG.mp a).2,e⟩
 .rintro⟨k,a,e⟩;exact⟨_,AR.mpr ⟨k,JG.mpr ⟨b k j e,a⟩,rfl⟩,e⟩
theorem R0:IC ["self", "some"] ["self", "some"] (B8 KD):=JX
theorem G7(T:Tx K mg):IP P w K mg base I_ 2 T.ah.f T.ah.fd ["self", "some"] (Qg T.ab fun _ B=>B):=by
 have g:=E6 (P:=P) (w:=w) (base:=base) T;have i:=Gj (P:=P) (w:=w) (base:=base) T;have Y:=R0;refine T.ah.F.ok R0 (fun O H Q E h=>?_) (fun R A v s H O Q E t h=>?_)
 .obtain⟨x,c,y,A,B,L,m,rfl,_⟩:=h;rfl
 .obtain⟨x,c,y,A,B,L,m,rfl,n,q⟩:=h;have S:=Y9 t;obtain⟨z,a,b,d,U,C,_⟩:=n.ex;have Z:=n.len;refine⟨_,(B5 (C2 (C9 T.bd i (Rm t) (A8 (X0 (N':=["bit", "self"]) (cap:=[none,some 0]) (cl:=[("self",_)]) (P9 ⟨⟨rfl,rfl,rfl,rfl⟩,trivial⟩ ⟨rfl,trivial⟩) rfl (MZ K (D6 (pv 0) T.ad T.ac.m g (Rm t) T.ac.b .nil J8 (A8 (pv 1) B3))) (fun _ _ _ _=>by exact⟨(MI 0),K1,(K7 S (NJ K (pv 1)) (pv 0) (fun _ _=>rfl))⟩)) B3)))),?_⟩;refine A7 rfl ⟨x,z,A7 rfl ⟨C,rfl,A7 rfl ⟨x,c,y,A,B,L,m,rfl,n,fun l H1 hl V I J=>?_⟩⟩⟩;obtain⟨z,a,b,d,U,C,e2,e3,e4,e5,W,n1,n2⟩:=I.ex;refine⟨l,rfl,⟨_,IG.of J⟩,fun D X=>?_⟩;refine Ea (fun k=>I0 (B.getD k 0)) (MN (IG.of J)) (fun _=>true) (Nat.le_trans (M6 ..) (by omega)) X (fun k N G p M n=>n G fun b o e=>e) (fun k N G p M n=>?_) fun σ' G p u=>?_
  .exact A7 rfl ⟨x,T.ab,z,_,A7 rfl ⟨p _ _ C,T.ad,T.bc,rfl,A7 rfl ⟨d,_,rfl,.inl ⟨_,.inl ((2^k:Nat):Int),.inl (p _ _ W),rfl,(Mm B (JG.mp N).1).symm⟩,n⟩⟩⟩
  rw[DU.mpr fun _ _=>rfl]at u;have u:G D=some (.lst (((D0 m y.length).map fun k=>B.getD k 0).map I0)):=by rw[u,CB];rfl
  refine⟨D,_,rfl,u,fun r t=>q r G (V.trans p.sm) (I.same p) (Qc (fun k j e=>(n.net.lt k j e).1) t)⟩
theorem P5:IC ["self", "some"] ["self", "some"] (B8 JV):=JX
theorem J9(T:Tx K mg):IP P w K mg base I_ 2 T.ae.f T.ae.fd ["self", "some"] (Qg T.ab fun A _=>A):=by
 have g:=E6 (P:=P) (w:=w) (base:=base) T;have i:=Gj (P:=P) (w:=w) (base:=base) T;have Y:=P5;refine T.ae.F.ok P5 (fun O H Q E h=>?_) (fun R A v s H O Q E t h=>?_)
 .obtain⟨x,c,y,A,B,L,m,rfl,_⟩:=h;rfl
 .obtain⟨x,c,y,A,B,L,m,rfl,n,q⟩:=h;have S:=Y9 t;obtain⟨z,a,b,d,U,C,_⟩:=n.ex;have Z:=n.len;refine⟨_,(B5 (C2 (C9 T.bd i (Rm t) (A8 (X0 (N':=["bit", "self"]) (cap:=[none,some 0]) (cl:=[("self",_)]) (P9 ⟨⟨rfl,rfl,rfl,rfl⟩,trivial⟩ ⟨rfl,trivial⟩) rfl (MZ K (D6 (pv 0) T.ad T.ac.m g (Rm t) T.ac.b .nil J8 (A8 (pv 1) B3))) (fun _ _ _ _=>by exact⟨(MI 0),K1,(K7 S (NJ K (pv 1)) (pv 0) (fun _ _=>rfl))⟩)) B3)))),?_⟩;refine A7 rfl ⟨x,z,A7 rfl ⟨C,rfl,A7 rfl ⟨x,c,y,A,B,L,m,rfl,n,fun l H1 hl V I J=>?_⟩⟩⟩;obtain⟨z,a,b,d,U,C,e2,e3,e4,W,e6,n1,n2⟩:=I.ex;refine⟨l,rfl,⟨_,IG.of J⟩,fun D X=>?_⟩;refine Ea (fun k=>I0 (A.getD k 0)) (MN (IG.of J)) (fun _=>true) (Nat.le_trans (M6 ..) (by omega)) X (fun k N G p M n=>n G fun b o e=>e) (fun k N G p M n=>?_) fun σ' G p u=>?_
  .exact A7 rfl ⟨x,T.ab,z,_,A7 rfl ⟨p _ _ C,T.ad,T.ay,rfl,A7 rfl ⟨c,_,rfl,.inl ⟨_,.inl ((2^k:Nat):Int),W.imp (p _ _) fun⟨o,e⟩=>⟨o,p _ _ e⟩,rfl,(Mm A (JG.mp N).1).symm⟩,n⟩⟩⟩
  rw[DU.mpr fun _ _=>rfl]at u;have u:G D=some (.lst (((D0 m y.length).map fun k=>A.getD k 0).map I0)):=by rw[u,CB];rfl
  refine⟨D,_,rfl,u,fun r t=>q r G (V.trans p.sm) (I.same p) (Qc (fun k j e=>(n.net.lt j k ((n.net.tr k j).mp e)).2) t)⟩
theorem P3:IC ["self", "some"] ["self", "some"] (B8 JU):=JX
def Ix(C:A4):Sp:=fun d H Q _=>∃(x c:A4) (a:A0 Str) (A B:A0 Nat) (L m:Nat),d = [.ref x,.int (m:Int)]/\IE C H x c a A B L/\∀(r:Nat) b,Sm [c] H b->IE C b x c a A B L->(∀j,r.testBit j=true↔j<a.length/\¬w4 B m j)->Q (.int (r:Int)) b
theorem X6(T:Tx K mg):IP P w K mg base I_ 3 T.ar.f T.ar.fd ["self", "some"] (Ix T.ab):=by
 have g:=G7 (P:=P) (w:=w) (base:=base) T;have M:=P3;refine T.ar.F.ok P3 (fun u H Q E h=>?_) (fun v A l s H u Q E i h=>?_)
 .obtain⟨x,c,n,A,B,L,m,rfl,_⟩:=h;rfl
 .obtain⟨x,c,n,A,B,L,m,rfl,o,q⟩:=h;obtain⟨p,a,b,d,N,t,_⟩:=o.ex;refine⟨_,(B5 (C2 (C7 Wh (NJ K (pv 0)) (D6 (pv 0) T.ad T.ah.m g (Rm i) T.ah.b .nil J8 (A8 (pv 1) B3))))),?_⟩;refine A7 rfl ⟨x,T.ab,p,_,A7 rfl ⟨t,T.ad,T.bj,rfl,A7 rfl ⟨x,p,A7 rfl ⟨t,rfl,A7 rfl ⟨x,c,n,A,B,L,m,rfl,o,fun r y C D i=>?_⟩⟩⟩⟩⟩;obtain⟨z,G,I⟩:=zFt (2^n.length-1) r fun j J=>by
   obtain⟨k,_,e⟩:=(i j).mp J;exact(Lh _ _).mpr (o.net.lt k j e).2
  refine⟨_,_,rfl,rfl,?_⟩;dsimp only;rw[G];exact q z y C D fun j=>by rw[I,Lh,i]
theorem t8:IC ["some"] ["some"] (B8 MX):=JX
def Vh:Sp:=fun a H Q _=>∃s:Nat,a = [.int (s:Int)]/\0<s/\∀k:Nat,s.testBit k=true->Q (.int ((2^k:Nat):Int)) H
theorem Fr(T:Tx K mg):IP P w K mg base I_ 1 T.a1.f T.a1.fd ["some"] Vh:=by
 have j:=t8;refine T.a1.F.ok t8 (fun b H Q E h=>?_) (fun c A a s H b Q E l h=>?_)
 .obtain⟨s,rfl,_⟩:=h;rfl
 .obtain⟨s,rfl,d,q⟩:=h;refine⟨_,(B5 (C2 (C7 O9 (pv 0) (Jf Sg (pv 0))))),?_⟩;refine A7 rfl (A7 rfl ⟨_,rfl,C0 rfl rfl ?_⟩);obtain⟨k,g,m⟩:=Za s d;have e:-(s:Int)=Builtin.bitNot (((s-1:Nat)):Int):=by unfold Builtin.bitNot;omega
  have:=q k g;dsimp only;rw[e,PyProof.Rows.bitAnd_not,Ta];have i:(s:Int)-((s &&&(s-1):Nat):Int) =((2^k:Nat):Int):=by
   have:s &&&(s-1)<=s:=Nat.and_le_left;omega
  rw[i];exact this
end
def Ki(κ:Nat->IW)(v:Nat->V){N:Nat}(b:∀i j,i<N->j<N->κ i=κ j->i=j):∀n,n<=N->∀i,i<N->U2 ((List.range n).map fun k=>(κ k,v k)) (κ i)=if i<n then some (v i)else none
 | 0,_,i,_=>rfl
 | n+1,h,i,f=>by
  have a:=Ki κ v b n (by omega) i f;unfold U2 at a⊢;rw[EI,AO,List.find?_append];by_cases c:i<n
  .rw[AK c]at a;rw[AK (by omega)];cases e:(List.find? (fun d:IW×V=>decide (d.1=κ i)) ((List.range n).map fun k=>(κ k,v k)))with
   | none=>rw[e]at a;cases a
   | some q=>rw[e]at a;rw[Option.some_or];exact a
  .rw[AJ c]at a;cases e:(List.find? (fun d:IW×V=>decide (d.1=κ i)) ((List.range n).map fun k=>(κ k,v k)))with
   | some q=>rw[e]at a;cases a
   | none =>
    rw[Option.none_or,BB,EX];by_cases g:i=n
    .subst g;rw[BD rfl,AK (by omega)];rfl
    .rw[BC fun z=>g (b n i (by omega) f z).symm,AJ (by omega)];rfl
def Qf(κ:Nat->IW)(v:Nat->V){N:Nat}(a:∀i j,i<N->j<N->κ i=κ j->i=j){n:Nat}(h:n<N):By ((List.range n).map fun k=>(κ k,v k)) (κ n) (v n) =(List.range (n+1)).map fun k=>(κ k,v k):=by
 rw[Tn _ (by rw[Ki κ v a n (by omega) n h,AJ (by omega)]),EI,AO];rfl
def Lf:∀n,(((List.range n).map fun k=>((2^k:Nat):Int)).sum) =((2^n-1:Nat):Int)
 | 0=>rfl
 | n+1=>by
  rw[EI,AO,List.sum_append,Lf n];have:0<2^n:=Nat.pow_pos (by decide);simp only[BB,HG,GX,List.sum_nil,Nat.pow_succ];omega
def Lz(l:A0 Nat):((l.map fun k=>((2^k:Nat):Int)).sum) =(((l.map fun k=>2^k).sum:Nat):Int):=by
 induction l with
 | nil=>rfl
 | cons a r b=>rw[BB,GX,b,BB,GX];omega
def Hn{ns:A0 Str}{y:Str}(h:y∈ns):ns[ns.idxOf y]?=some y:=by
 rw[AC (List.idxOf_lt_length_of_mem h),List.getElem_idxOf]
def ML(ns:A0 Str)(g:Str->A0 Str):A0 Nat:=ns.map fun n=>((g n).map fun y=>2^ns.idxOf y).sum
def Wx{ns:A0 Str}{g:Str->A0 Str}{i:Nat}{n:Str}(h:ns[i]?=some n):(ML ns g).getD i 0 =(((g n).map fun y=>ns.idxOf y).map fun k=>2^k).sum:=by
 unfold ML;rw[AQ,AH,h,CB];rfl
def zAw{ns:A0 Str}{g:Str->A0 Str}{ks:A0 (Str×Str)}(p:ns.Nodup)(q:∀n∈ns,(g n).Nodup)(h:∀n∈ns,∀y,y∈g n↔(n,y)∈ks)(c:∀k∈ks,k.1∈ns/\k.2∈ns):MB ns ks (ML ns g):=by
 refine⟨by unfold ML;rw[AB],fun i j=>?_⟩;cases l:ns[i]? with
 | none =>
  have e:(ML ns g).getD i 0=0:=by unfold ML;rw[AQ,AH,l];rfl
  rw[e,CS];exact⟨fun z=>(by cases z),fun⟨k,_,z,_⟩=>(by cases z)⟩
 | some n =>
  have d:=AM l;have r:((g n).map fun y=>ns.idxOf y).Nodup:=by
   refine CA.mpr (FQ (fun{a b} s t u e=>u ?_) (q n d));have o:=Hn (c _ ((h n d a).mp s)).2;have v:=Hn (c _ ((h n d b).mp t)).2;rw[e,v]at o;exact(BG o).symm
  rw[Wx l,Fe r,AR];constructor
  .rintro⟨y,w,rfl⟩;have f:=(h n d y).mp w;exact⟨_,f,rfl,Hn (c _ f).2⟩
  .rintro⟨k,f,m,x⟩;have m:=BG m;refine⟨k.2,(h n d k.2).mpr (by rw[m];exact f),?_⟩;exact O0 p (Hn (c _ f).2) x
def Km{J:It}{a D:A4}{ns:A0 Str}{H:Hp}{Q:St->Hp->Prop}(as:LB J (ns.map V.str) a H){j l:TE}{r:St}{m:A6 V}(M:A0 Nat)(t:ns.length<=1000)(o:H D=none)
  (u:∀i n G (R:VK),ns[i]?=some n->HY H G->R (I0 (2^i)) G->j (some (.str n)::r) G R)
  (w:∀i n G (R:VK),ns[i]?=some n->HY H G->(∀f,HY G f->R (I0 (M.getD i 0)) f)->l (some (.str n)::r) G R)
  (q:∀σ G,HY H G->G D=some (.dK (bK M ns.length))->Q σ G):Jx (V7 0) Cb (Tz D j l) J (m::r) (IB H D (.dK [])) Q:=by
 refine Y3 as (fun i σ G=>(∃v,σ=v::r)/\HY H G/\G D=some (.dK (bK M i))) ⟨⟨_,rfl⟩,HY.new o,A9⟩ (fun i σ G _ h=>h.2.1.at a) ?_ ?_
 .rintro i σ G v N p ⟨⟨m,rfl⟩,c,d⟩ x;rw[AH]at p;obtain⟨n,g,rfl⟩:=BL.mp p;have y:=(AG.mp g).1;refine Mc (u i n G _ g c (w i n G _ g c fun f s=>?_));refine⟨bK M i,.inl ((2^i:Nat):Int),s _ _ d,rfl,by unfold bK;rw[AB,BV,sizeLine_eq];omega,x _ _ ⟨⟨_,rfl⟩,(c.trans s).upd o,?_⟩⟩;rw[A9];unfold bK;rw[Qf (fun k=>(Sum.inl ((2^k:Nat):Int):IW)) (fun k=>I0 (M.getD k 0)) (N:=i+1) (fun a b _ _ e=>Pw (Sum.inl.inj e)) (ED i)]
 .rintro σ G ⟨_,c,d⟩;rw[AB]at d;exact q σ G c d
def JL.smx{C M:A4}{H H':Hp}{x w g:A4}{ns:A0 Str}{i:A0 JD}(h:JL C H w ns i)(j:H x=some (.ins M g []))(s:Sm [x] H H'):JL C H' w ns i:=by
 obtain⟨m,p,a,b,c,d,r,t,u,y,A,B,D,E,F,G⟩:=h;have k:∀{b:A4} {o:HO},H b=some o->o≠ .ins M g []->H' b=some o:=fun e n=>s _ _ e fun z=>n (by rw[AF.mp z,j]at e;exact(BG e).symm);exact⟨m,p,a,b,c,d,r,t,k u (by unfold wf;intro z;cases z),k y (by intro z;cases z),k A (by intro z;cases z),fun q I=>k (B q I) (by intro z;cases z),k D (by intro z;cases z),k E (by intro z;cases z),fun n f=>let⟨l,v,e⟩:=F n f;⟨l,v,k e (by intro z;cases z)⟩,fun n f=>let⟨l,v,e⟩:=G n f;⟨l,v,k e (by intro z;cases z)⟩⟩
def Gd{a:A0 JD}{n y:Str}:y∈C3 a n↔(n,y)∈(a.map fun q=>q.2).map fun k=>(k.2,k.1):=by
 unfold C3;rw[CB,AR,AR];constructor
 .rintro⟨q,h,rfl⟩;obtain⟨b,c⟩:=BM.mp h;exact⟨q,b,Prod.ext (CC c) rfl⟩
 .rintro⟨q,h,e⟩;exact⟨q,BM.mpr ⟨h,BD (congrArg Prod.fst e)⟩,congrArg Prod.snd e⟩
def Kf{a:A0 JD}{n y:Str}:y∈D9 a n↔(n,y)∈a.map fun q=>q.2:=by
 unfold D9;rw[AR,AR];constructor
 .rintro⟨q,h,rfl⟩;obtain⟨b,c⟩:=BM.mp h;exact⟨q,b,Prod.ext (CC c) rfl⟩
 .rintro⟨q,h,e⟩;exact⟨q,BM.mpr ⟨h,BD (congrArg Prod.fst e)⟩,congrArg Prod.snd e⟩
def Jh{c:A0 JD}(h:(c.map fun q=>q.2).Nodup)(n:Str):(C3 c n).Nodup:=by
 unfold C3;refine CA.mpr (FQ (fun{a b} d f g e=>g ?_) ((CA.mp h).sublist EH));exact Prod.ext e ((CC (BM.mp d).2).trans (CC (BM.mp f).2).symm)
def Py{c:A0 JD}(h:(c.map fun q=>q.2).Nodup)(n:Str):(D9 c n).Nodup:=by
 unfold D9;refine CA.mpr (FQ (fun{a b} d f g e=>g ?_) ((CA.mp h).sublist EH));exact Prod.ext ((CC (BM.mp d).2).trans (CC (BM.mp f).2).symm) e
def OJ(ns:A0 Str)(i:Nat):A0 (IW×V):=(List.range i).map fun k=>((Sum.inr (ns.getD k ""):IW),I0 (2^k))
def Ff{ns:A0 Str}{i:Nat}{n:Str}(h:ns[i]?=some n):ns.getD i "" = n:=by rw[AQ,h];rfl
def Wd{ns:A0 Str}(c:ns.Nodup):∀i j,i<ns.length->j<ns.length->(Sum.inr (ns.getD i ""):IW)=Sum.inr (ns.getD j "")->i=j:=fun i j a b e=>by
 have e:=Sum.inr.inj e;rw[Ff (AC a),Ff (AC b)]at e;exact O0 c (AC a) (by rw[AC b,e])
def Kr{ns:A0 Str}(b:ns.Nodup){i:Nat}{n:Str}(h:ns[i]?=some n):U2 (OJ ns ns.length) (.inr n)=some (I0 (2^i)):=by
 have a:=(AG.mp h).1;have:=Ki (fun k=>(Sum.inr (ns.getD k ""):IW)) (fun k=>I0 (2^k)) (Wd b) ns.length (Nat.le_refl _) i a;rw[AK a]at this;rw[Ff h]at this;exact this
section
variable{P:F8}{w:H_}{K:PySem.W.Frag}{mg:Str->A6 A3}{base:IA}
theorem Lk{G:Hp}{b l:A4}{ns a:A0 Str}{R:VK}(m:ns.Nodup)(n:G b=some (.dK (OJ ns ns.length)))(q:G l=some (.lst (a.map V.str)))(r:∀y∈a,y∈ns)(s:a.length<=1000)(t:∀g,HY G g->R (.int ((((a.map fun y=>ns.idxOf y).map fun k=>2^k).sum:Nat):Int)) g) :
  ∀D,G D=none->Jx (V7 0) Cb (Cg D (Tw (Tr 1) (Tr 0))) (RD K l) [none,some (.ref b)] (IB G D (.lst [])) fun _ h=>∃(p:A4) (zs:A0 Int),[V.ref D] = [.ref p]/\IG K h p (zs.map V.int)/\R (.int zs.sum) h:=fun D u=>by
 refine Ea (fun y=>I0 (2^ns.idxOf y)) (MN (IG.of q)) (fun _=>true) (by omega) u (fun y i c d M f=>f c fun b o e=>e) (fun y i c d M f=>?_) fun σ c d j=>?_
 .exact A7 rfl (A7 rfl ⟨b,_,rfl,.inl ⟨_,.inr y,.inl (d _ _ n),rfl,(Kr m (Hn (r y i))).symm⟩,f⟩)
 .rw[DU.mpr fun _ _=>rfl]at j;refine⟨D,(a.map fun y=>ns.idxOf y).map fun k=>((2^k:Nat):Int),rfl,IG.of (by rw[j,CB,CB];rfl),?_⟩;rw[Lz];exact t c d
theorem S5:IC ["self", "web", "bits"] ["self", "web"] (B8 KM):=JX
def Fc(e g:A4):Sp:=fun h H Q _=>∃(x i f:A4) (a:A0 Str) (b:A0 JD),h = [.ref x,.ref f]/\H x=some (.ins e i [])/\JL g H f a b /\
 ∀(c:A4) (A B:A0 Nat) (L:Nat) d,H c=none->Sm [x] H d->IE e d x c a A B L->MB a ((b.map fun q=>q.2).map fun k=>(k.2,k.1)) A->MB a (b.map fun q=>q.2) B->Q .non d
set_option maxHeartbeats 4000000 in
theorem Eg(T:Tx K mg):IP P w K mg base I_ 3 T.bl T.bk ["self", "web"] (Fc T.ab T.af):=by
 have p:=V0 (P:=P) (w:=w) (base:=base) T;have r:=Bn (P:=P) (w:=w) (base:=base) T;have F:=Fk (P:=P) (w:=w) (base:=base) T;have sc:=S5;refine T.bm.ok S5 (fun vs H Q E h=>?_) (fun cdv A outer s H vs Q E hr h=>?_)
 .obtain⟨x,e,wb,ns,C,rfl,_⟩:=h;rfl
 .obtain⟨x,e,wb,ns,C,rfl,hx,hW,q⟩:=h;have hu:=Y9 hr;have I:=hW.ok;have ln:=I.len;have Y:=I.nd;refine⟨_,(B4 (PQ K (pv 0) (En (pv 1) T.am T.an.m p (Rm hr) T.an.b .nil J8))
   (B4 (C5 (i:=2) sc.nd rfl (.inr rfl) (Ox (N':=["place", "name"]) (cap:=[none,none]) (cl:=[]) (P9 trivial trivial) rfl (RM K T.aN (A8 (NJ K (pv 0)) B3)) (fun _ _ _ _=>by exact⟨(PR K (n:=2) (E2 (MI 0) (E2 (MI 1) S4))),K1,(pv 1),(C7 Ay B7 (pv 0))⟩)))
   (B4 (PQ K (pv 0) (E8 Yw T.bh Hx (A8 (Qo (pv 2)) B3)))
   (B4 (PQ K (pv 0) (pv 2))
   (B4 (PQ K (pv 0) (Ox (N':=["name", "bits", "web"]) (cap:=[none,some 2,some 1]) (cl:=[("web",_),("bits",_)]) (P9 ⟨⟨rfl,rfl,rfl,rfl⟩,⟨⟨rfl,rfl,rfl,rfl⟩,trivial⟩⟩ ⟨rfl,⟨rfl,trivial⟩⟩) rfl (MZ K (NJ K (pv 0))) (fun _ _ _ _=>by exact⟨(MI 0),K1,(K7 hu (pv 1) (pv 0) (fun _ _=>rfl)),(E8 (Ml K) T.bh Hx (A8 (X0 (N':=["one", "bits"]) (cap:=[none,some 1]) (cl:=[("bits",_)]) (P9 ⟨⟨rfl,rfl,rfl,rfl⟩,trivial⟩ ⟨rfl,trivial⟩) rfl (MZ K (D6 (pv 2) T.am T.aC.m r (Rm hr) T.aC.b .nil J8 (A8 (pv 0) B3))) (fun _ _ _ _=>by exact⟨(MI 0),K1,(K7 hu (pv 1) (pv 0) (fun _ _=>rfl))⟩)) B3))⟩)))
   (B4 (PQ K (pv 0) (Ox (N':=["name", "bits", "web"]) (cap:=[none,some 2,some 1]) (cl:=[("web",_),("bits",_)]) (P9 ⟨⟨rfl,rfl,rfl,rfl⟩,⟨⟨rfl,rfl,rfl,rfl⟩,trivial⟩⟩ ⟨rfl,⟨rfl,trivial⟩⟩) rfl (MZ K (NJ K (pv 0))) (fun _ _ _ _=>by exact⟨(MI 0),K1,(K7 hu (pv 1) (pv 0) (fun _ _=>rfl)),(E8 (Ml K) T.bh Hx (A8 (X0 (N':=["one", "bits"]) (cap:=[none,some 1]) (cl:=[("bits",_)]) (P9 ⟨⟨rfl,rfl,rfl,rfl⟩,trivial⟩ ⟨rfl,trivial⟩) rfl (MZ K (D6 (pv 2) T.am T.aM.m F (Rm hr) T.aM.b .nil J8 (A8 (pv 0) B3))) (fun _ _ _ _=>by exact⟨(MI 0),K1,(K7 hu (pv 1) (pv 0) (fun _ _=>rfl))⟩)) B3))⟩)))
   (B5 (PQ K (pv 0) (E8 (Ml K) T.bh Hx (A8 (X0 (N':=["bit", "self"]) (cap:=[none,some 0]) (cl:=[("self",_)]) (P9 ⟨⟨rfl,rfl,rfl,rfl⟩,trivial⟩ ⟨rfl,trivial⟩) rfl (zBg (Qo (pv 2))) (fun _ _ _ _=>by exact⟨(MI 0),(W2 (RL K (C7 O9 (pv 0) (K7 hu (NJ K (pv 1)) (pv 0) (fun _ _=>rfl))))),(pv 0)⟩)) B3)))))))))),?_⟩
  have f:∀{b:A4},b≠x->b∉[x]:=fun h z=>h (AF.mp z);refine B9 fun Z1 hZ1=>?_;obtain⟨_,dw,_,_,_,_,_,_,ew,_⟩:=id hW;refine A7 rfl ⟨wb,dw,A7 rfl ⟨ew,rfl,wb,ns,C,rfl,hW,fun a hl1=>?_⟩⟩;have J:x≠a:=B0 hx hl1;refine A7 rfl ⟨x,T.ab,e,[],rfl,(B6 J).trans hx,T.ad,T.aH,by decide,?_⟩;have k1:Sm [x] H (IB (IB H a (.lst (ns.map V.str))) x (.ins T.ab e (P8 "names" (.ref a) []))):=(Sm.new (Sm.refl _ _) hl1).upd (by simp);have a1:(IB (IB H a (.lst (ns.map V.str))) x (.ins T.ab e (P8 "names" (.ref a) []))) a=some (.lst (ns.map V.str)):=(B6 J.symm).trans A9;have x1:(IB (IB H a (.lst (ns.map V.str))) x (.ins T.ab e (P8 "names" (.ref a) []))) x=some (.ins T.ab e [("names",.ref a)]):=by rw[A9];rfl
  generalize IB (IB H a (.lst (ns.map V.str))) x (.ins T.ab e (P8 "names" (.ref a) []))=H1 at k1 a1 x1⊢;refine hZ1 _ _ (B9 fun Z2 hZ2=>?_);refine A7 rfl ⟨x,T.ab,e,_,A7 rfl ⟨x1,T.ad,T.aH,rfl,a,A7 rfl ⟨IG.of a1,fun b hb=>?_⟩⟩⟩;refine As (n:=ns.length) (fun i σ G=>(∃v0 v1,σ = [v0,v1])/\HY H1 G/\G b=some (.dK (OJ ns i))) ⟨⟨_,_,rfl⟩,HY.new hb,A9⟩ ?_ ?_ ?_ ?_
  .rintro i σ G Z ⟨_,u,_⟩;exact⟨_,_,(u.at a).seqL (IG.of a1),by rw[AH,AC Z];rfl⟩
  .rintro σ G ⟨_,u,_⟩;exact⟨_,(u.at a).seqL (IG.of a1),by rw[AB]⟩
  .rintro i σ G y H' N Z ⟨⟨v0,v1,rfl⟩,u,eG⟩ ⟨t,y,rfl,ht,rfl,W⟩ hN;have W:=W _ ((u.at a).seqL (IG.of a1));have hi':ns[i]?=some ns[i]:=AC Z;rw[AH,hi']at W;cases W;refine⟨t,A7 rfl ⟨JM.of A9,rfl,_,A7 rfl (C0 rfl rfl (Ye ?_))⟩⟩;refine A7 rfl (A7 rfl (C0 rfl rfl ⟨⟨by omega,by omega,by decide⟩,?_⟩));dsimp only;rw[Wq];have st:=u.trans (HY.new (o:=.tup [.int i,.str ns[i]]) ht);refine⟨OJ ns i,.inr ns[i],(B6 (B0 eG ht)).trans eG,rfl,by unfold OJ;rw[AB,BV,sizeLine_eq];omega,hN _ _ ⟨⟨_,_,rfl⟩,st.upd hb,?_⟩⟩;rw[A9];have:=Qf (fun k=>(Sum.inr (ns.getD k ""):IW)) (fun k=>I0 (2^k)) (Wd Y) Z;rw[Ff hi']at this;exact congrArg (fun z=>some (HO.dK z)) this
  rintro σ2 H2 ⟨_,s2,b2⟩;have M:x≠b:=B0 x1 hb;have x2:=s2 _ _ x1;have a2:=s2 _ _ a1;have k2:=k1.trans s2.sm;refine hZ2 _ _ (B9 fun Z3 hZ3=>?_);refine A7 rfl ⟨b,_,rfl,b2,fun v hv=>?_⟩;have O:=HY.new (o:=Mr v b) hv;have fv:(IB H2 v (Mr v b)) v=some (Mr v b):=A9;generalize IB H2 v (Mr v b)=H2' at O fv⊢;refine⟨v,b,OJ ns ns.length,(List.range ns.length).map fun k=>((2^k:Nat):Int),rfl,fv,O _ _ b2,by unfold OJ;rw[CB,CB];rfl,?_⟩;rw[Lf];have x2:=O _ _ x2;have a2:=O _ _ a2;have b2:=O _ _ b2;have k2:=k2.trans O.sm;refine A7 rfl ⟨x,T.ab,e,_,rfl,x2,T.ad,T.bj,by simp,?_⟩;have k3:Sm [x] H2' (IB H2' x (.ins T.ab e (P8 "full" (.int ((2^ns.length-1:Nat):Int)) [("names",.ref a)]))):=(Sm.refl _ _).upd (by simp);have x3:(IB H2' x (.ins T.ab e (P8 "full" (.int ((2^ns.length-1:Nat):Int)) [("names",.ref a)]))) x=some (.ins T.ab e [("names",.ref a),("full",I0 (2^ns.length-1))]):=by rw[A9];rfl
  generalize IB H2' x (.ins T.ab e (P8 "full" (.int ((2^ns.length-1:Nat):Int)) [("names",.ref a)]))=H3 at k3 x3⊢;have a3:=k3 _ _ a2 (f J.symm);have b3:=k3 _ _ b2 (f M.symm);have k3:=k2.trans k3;refine hZ3 _ _ (B9 fun Z4 hZ4=>?_);refine A7 rfl (A7 rfl ⟨x,T.ab,e,_,rfl,x3,T.ad,T.a0,by simp,?_⟩);have k4:Sm [x] H3 (IB H3 x (.ins T.ab e (P8 "bit_of" (.ref b) [("names",.ref a),("full",I0 (2^ns.length-1))]))):=(Sm.refl _ _).upd (by simp);have x4:(IB H3 x (.ins T.ab e (P8 "bit_of" (.ref b) [("names",.ref a),("full",I0 (2^ns.length-1))]))) x=some (.ins T.ab e [("names",.ref a),("full",I0 (2^ns.length-1)),("bit_of",.ref b)]):=by rw[A9];rfl
  generalize IB H3 x (.ins T.ab e (P8 "bit_of" (.ref b) [("names",.ref a),("full",I0 (2^ns.length-1))]))=H4 at k4 x4⊢;have a4:=k4 _ _ a3 (f J.symm);have b4:=k4 _ _ b3 (f M.symm);have k4:=k3.trans k4;refine hZ4 _ _ (B9 fun Z5 hZ5=>?_);have mA:=zAw (ns:=ns) (g:=C3 C) (ks:=(C.map fun q=>q.2).map fun k=>(k.2,k.1)) Y (fun n _=>Jh I.ndq n) (fun n _ y=>Gd) fun k hk=>by
   rw[CB]at hk;obtain⟨q,hq,rfl⟩:=AR.mp hk;exact⟨(I.mem q hq).2,(I.mem q hq).1⟩
  have mB:=zAw (ns:=ns) (g:=D9 C) (ks:=C.map fun q=>q.2) Y (fun n _=>Py I.ndq n) (fun n _ y=>Kf) fun k hk=>by
   obtain⟨q,hq,rfl⟩:=AR.mp hk;exact I.mem q hq
  have X:QU ns.length (ML ns (C3 C)) (ML ns (D9 C)):=MB.net mA mB;have W4:=hW.smx hx k4;have ins1:∀{n:Str} (y:Str),y∈C3 C n->y∈ns:=fun y W=>by
   obtain⟨q,hq,rfl⟩:=AR.mp W;exact(I.mem q (BM.mp hq).1).1
  have ins2:∀{n:Str} (y:Str),y∈D9 C n->y∈ns:=fun y W=>by
   obtain⟨q,hq,rfl⟩:=AR.mp W;exact(I.mem q (BM.mp hq).1).2
  have lq:=I.lenq;have PL:∀n,(C3 C n).length<=1000:=fun n=>by unfold C3;rw[AB];have:=BP (fun q:JD=>decide (q.2.2=n)) C;omega
  have OV:∀n,(D9 C n).length<=1000:=fun n=>by unfold D9;rw[AB];have:=BP (fun q:JD=>decide (q.2.1=n)) C;omega
  refine A7 rfl ⟨x,T.ab,e,_,A7 rfl ⟨x4,T.ad,T.aH,rfl,a,rfl,⟨_,IG.of a4⟩,fun c hc=>?_⟩⟩;refine Km (MN (IG.of a4)) (ML ns (C3 C)) (by omega) hc (fun i n G R hn u hR=>?_) (fun i n G R hn u hR=>?_) fun σ5 H5 s5 c5=>?_
  .exact A7 rfl (A7 rfl ⟨b,_,rfl,.inl ⟨_,.inr n,.inl (u _ _ b4),rfl,(Kr Y hn).symm⟩,hR⟩)
  .have WG:=W4.same u;obtain⟨_,dw,_,_,_,_,_,_,ew,_⟩:=id WG;refine A7 rfl ⟨wb,dw,A7 rfl ⟨ew,rfl,A7 rfl ⟨wb,n,ns,C,rfl,WG,AM hn,fun l hl=>?_⟩⟩⟩;have ul:=HY.new (o:=.lst ((C3 C n).map V.str)) hl;refine⟨l,rfl,⟨_,IG.of A9⟩,Lk Y (ul _ _ (u _ _ b4)) A9 (fun y W=>ins1 y W) (PL n) fun G' s'=>?_⟩;have:=hR G' (ul.trans s');rw[Wx hn]at this;exact this
  generalize ML ns (C3 C)=A at mA X c5;have hc0:H c=none:=k4.none (f (B0 x4 hc).symm) hc;have nxc:x≠c:=B0 x4 hc;have x5:=s5 _ _ x4;have a5:=s5 _ _ a4;have b5:=s5 _ _ b4;have bc:b≠c:=B0 b4 hc;have k5:=k4.trans s5.sm;refine A7 rfl ⟨x,T.ab,e,_,rfl,x5,T.ad,T.ay,by simp,?_⟩;have k6:Sm [x] H5 (IB H5 x (.ins T.ab e (P8 "strikers_of" (.ref c) [("names",.ref a),("full",I0 (2^ns.length-1)),("bit_of",.ref b)]))):=(Sm.refl _ _).upd (by simp);have x6:(IB H5 x (.ins T.ab e (P8 "strikers_of" (.ref c) [("names",.ref a),("full",I0 (2^ns.length-1)),("bit_of",.ref b)]))) x=some (.ins T.ab e [("names",.ref a),("full",I0 (2^ns.length-1)),("bit_of",.ref b),("strikers_of",.ref c)]):=by rw[A9];rfl
  generalize IB H5 x (.ins T.ab e (P8 "strikers_of" (.ref c) [("names",.ref a),("full",I0 (2^ns.length-1)),("bit_of",.ref b)]))=H6 at k6 x6⊢;have a6:=k6 _ _ a5 (f J.symm);have b6:=k6 _ _ b5 (f M.symm);have c6:=k6 _ _ c5 (f nxc.symm);have k6:=k5.trans k6;have W6:=hW.smx hx k6;refine hZ5 _ _ (B9 fun Z6 hZ6=>?_);refine A7 rfl ⟨x,T.ab,e,_,A7 rfl ⟨x6,T.ad,T.aH,rfl,a,rfl,⟨_,IG.of a6⟩,fun d hd=>?_⟩⟩;refine Km (MN (IG.of a6)) (ML ns (D9 C)) (by omega) hd (fun i n G R hn u hR=>?_) (fun i n G R hn u hR=>?_) fun σ7 H7 s7 d7=>?_
  .exact A7 rfl (A7 rfl ⟨b,_,rfl,.inl ⟨_,.inr n,.inl (u _ _ b6),rfl,(Kr Y hn).symm⟩,hR⟩)
  .have WG:=W6.same u;obtain⟨_,dw,_,_,_,_,_,_,ew,_⟩:=id WG;refine A7 rfl ⟨wb,dw,A7 rfl ⟨ew,rfl,A7 rfl ⟨wb,n,ns,C,rfl,WG,AM hn,fun l hl=>?_⟩⟩⟩;have ul:=HY.new (o:=.lst ((D9 C n).map V.str)) hl;refine⟨l,rfl,⟨_,IG.of A9⟩,Lk Y (ul _ _ (u _ _ b6)) A9 (fun y W=>ins2 y W) (OV n) fun G' s'=>?_⟩;have:=hR G' (ul.trans s');rw[Wx hn]at this;exact this
  generalize ML ns (D9 C)=B at mB X d7;have nxd:x≠d:=B0 x6 hd;have x7:=s7 _ _ x6;have a7:=s7 _ _ a6;have b7:=s7 _ _ b6;have c7:=s7 _ _ c6;have dc:d≠c:=(B0 c6 hd).symm;have k7:=k6.trans s7.sm;refine A7 rfl ⟨x,T.ab,e,_,rfl,x7,T.ad,T.bc,by simp,?_⟩;have k8:Sm [x] H7 (IB H7 x (.ins T.ab e (P8 "struck_of" (.ref d) [("names",.ref a),("full",I0 (2^ns.length-1)),("bit_of",.ref b),("strikers_of",.ref c)]))):=(Sm.refl _ _).upd (by simp);have x8:(IB H7 x (.ins T.ab e (P8 "struck_of" (.ref d) [("names",.ref a),("full",I0 (2^ns.length-1)),("bit_of",.ref b),("strikers_of",.ref c)]))) x=some (.ins T.ab e [("names",.ref a),("full",I0 (2^ns.length-1)),("bit_of",.ref b),("strikers_of",.ref c),("struck_of",.ref d)]):=by rw[A9];rfl
  generalize IB H7 x (.ins T.ab e (P8 "struck_of" (.ref d) [("names",.ref a),("full",I0 (2^ns.length-1)),("bit_of",.ref b),("strikers_of",.ref c)]))=H8 at k8 x8⊢;have a8:=k8 _ _ a7 (f J.symm);have b8:=k8 _ _ b7 (f M.symm);have c8:=k8 _ _ c7 (f nxc.symm);have d8:=k8 _ _ d7 (f nxd.symm);have k8:=k7.trans k8;refine hZ6 _ _ ?_;refine A7 rfl ⟨b,_,rfl,b8,fun v hv=>?_⟩;have O:=HY.new (o:=Mr v b) hv;have fv:(IB H8 v (Mr v b)) v=some (Mr v b):=A9;generalize IB H8 v (Mr v b)=H9 at O fv⊢;refine⟨v,b,_,rfl,fv,O _ _ b8,fun o D hD=>?_⟩;have nDb:D≠b:=fun z=>by rw[z,A9]at hD;cases hD
  have kz:Sm [b] H9 (IB H9 b (.frz o (.dK (OJ ns ns.length)))):=(Sm.refl _ _).upd (by simp);have fz:(IB H9 b (.frz o (.dK (OJ ns ns.length)))) b=some (.frz o (.dK (OJ ns ns.length))):=A9;have hb0:H b=none:=k1.none (f M.symm) hb;have kx:Sm [x] H (IB H9 b (.frz o (.dK (OJ ns ns.length)))):=(k8.trans O.sm).updN hb0;have nb:∀{b':A4},b'≠b->b'∉[b]:=fun h z=>h (AF.mp z);have nab:a≠b:=B0 a1 hb;have x9:=kz _ _ (O _ _ x8) (nb M);have a9:=kz _ _ (O _ _ a8) (nb nab);have c9:=kz _ _ (O _ _ c8) (nb bc.symm);have nbd:d≠b:=(B0 b6 hd).symm;have d9:=kz _ _ (O _ _ d8) (nb nbd);generalize IB H9 b (.frz o (.dK (OJ ns ns.length)))=H10 at kz fz kx hD x9 a9 c9 d9⊢;have lb:(OJ ns ns.length).length=ns.length:=by unfold OJ;rw[AB,BV]
  refine As (n:=ns.length) (fun i σ G=>(∃v0,σ = [v0,some (.ref x)])/\HY H10 G/\G D=some (.lst (((List.range i).filter fun k=>(A.getD k 0).testBit k).map fun k=>I0 (2^k)))) ⟨⟨_,rfl⟩,HY.new hD,A9⟩ ?_ ?_ ?_ ?_
  .rintro i σ G Z ⟨_,u,_⟩;exact⟨u _ _ fz,by rw[lb];exact Z⟩
  .rintro σ G ⟨_,u,_⟩;exact⟨u _ _ fz,by rw[lb];exact Nat.le_refl _⟩
  .rintro i σ G y H' N Z ⟨⟨v0,rfl⟩,u,eG⟩ ⟨rfl,k,hk⟩ hN;unfold OJ at hk;rw[AH,List.getElem?_range Z]at hk;obtain⟨_,rfl⟩:=Prod.mk.inj (BG hk);refine A7 rfl (A7 rfl ⟨x,T.ab,e,_,A7 rfl ⟨u _ _ x9,T.ad,T.ay,rfl,A7 rfl ⟨c,_,rfl,.inl ⟨_,.inl ((2^i:Nat):Int),.inl (u _ _ c9),rfl,(Mm A Z).symm⟩,C0 rfl rfl ⟨_,rfl,?_⟩⟩⟩⟩);dsimp only;rw[Iv];have hl:=BP (fun k=>(A.getD k 0).testBit k) (List.range i);rw[BV]at hl;refine T8 (fun z=>A7 rfl ⟨_,eG,by rw[AB,sizeLine_eq];omega,hN _ _ ⟨⟨_,rfl⟩,u.upd hD,?_⟩⟩) (fun z=>hN _ _ ⟨⟨_,rfl⟩,u,?_⟩)
   .rw[A9,EI,EA,DQ,AK z,AO];rfl
   .rw[EI,EA,DQ,AJ z,GH,CJ];exact eG
  rintro σ11 H11 ⟨_,S,e11⟩;generalize hLl:(List.range ns.length).filter (fun k=>(A.getD k 0).testBit k)=Ll at e11;refine⟨D,Ll.map fun k=>((2^k:Nat):Int),rfl,IG.of (by rw[e11,CB];rfl),?_⟩;rw[Lz];have hL:∀j,((Ll.map fun k=>2^k).sum).testBit j=true↔(A.getD j 0).testBit j=true:=fun j=>by
   rw[Fe (by rw[<-hLl];exact EH.nodup HP),<-hLl,BM,BW];exact⟨(·.2),fun h=>⟨(X.lt j j ((X.tr j j).mp h)).1,h⟩⟩
  generalize (Ll.map fun k=>2^k).sum=L at hL;have x11:=S _ _ x9;refine A7 rfl ⟨x,T.ab,e,_,rfl,x11,T.ad,T.bi,by simp,?_⟩;have U:Sm [x] H11 (IB H11 x (.ins T.ab e (P8 "loops" (.int (L:Int)) [("names",.ref a),("full",I0 (2^ns.length-1)),("bit_of",.ref b),("strikers_of",.ref c),("struck_of",.ref d)]))):=(Sm.refl _ _).upd (by simp);have x12:(IB H11 x (.ins T.ab e (P8 "loops" (.int (L:Int)) [("names",.ref a),("full",I0 (2^ns.length-1)),("bit_of",.ref b),("strikers_of",.ref c),("struck_of",.ref d)]))) x=some (.ins T.ab e (mf a b c d ns.length L)):=by rw[A9];rfl
  generalize IB H11 x (.ins T.ab e (P8 "loops" (.int (L:Int)) [("names",.ref a),("full",I0 (2^ns.length-1)),("bit_of",.ref b),("strikers_of",.ref c),("struck_of",.ref d)]))=H12 at U x12⊢;refine q c A B L H12 hc0 ((kx.trans S.sm).trans U) ⟨⟨e,a,b,d,OJ ns ns.length,x12,U _ _ (S _ _ a9) (f J.symm),.inr ⟨o,U _ _ (S _ _ fz) (f M.symm)⟩,fun i n h=>Kr Y h,.inl (U _ _ (S _ _ c9) (f nxc.symm)),U _ _ (S _ _ d9) (f nxd.symm),dc,bc⟩,X,Y,ln,hL⟩ mA mB
end
def Ve{ns:A0 Str}{m j:Nat}(a:j<ns.length)(h:m.testBit j=true):IQ ns m≠[]:=fun z=>by
 have:ns[j]∈IQ ns m:=NT.mpr ⟨j,h,AC a⟩;rw[z]at this;cases this
section
variable{P:F8}{w:H_}{K:PySem.W.Frag}{mg:Str->A6 A3}{base:IA}
theorem Q1:IC ["self", "some"] ["self", "some"] (B8 JZ):=JX
def Es(C:A4):Sp:=fun d H Q _=>∃(x c:A4) (a:A0 Str) (A B:A0 Nat) (L m j:Nat),d = [.ref x,.int (m:Int)]/\IE C H x c a A B L/\j<a.length/\m.testBit j=true/\∀(n:Str) b,HY H b->Q (.str n) b
theorem Q5(T:Tx K mg):IP P w K mg base I_ 2 T.ag.f T.ag.fd ["self", "some"] (Es T.ab):=by
 have e:=S7 (P:=P) (w:=w) (base:=base) T;have J:=Q1;refine T.ag.F.ok Q1 (fun t H Q E h=>?_) (fun u A g s H t Q E v h=>?_)
 .obtain⟨x,c,i,A,B,L,m,j,rfl,_⟩:=h;rfl
 .obtain⟨x,c,i,A,B,L,m,j,rfl,k,y,z,q⟩:=h;obtain⟨C,a,b,d,M,D,_⟩:=k.ex;refine⟨_,(B5 (C2 (E7 (LT K) (D6 (pv 0) T.ad T.al.m e (Rm v) T.al.b .nil J8 (A8 (pv 1) B3)) B7 (fun _ _=>rfl)))),?_⟩;refine A7 rfl ⟨x,C,A7 rfl ⟨D,rfl,A7 rfl ⟨x,c,i,A,B,L,m,rfl,k,fun l G N I o=>?_⟩⟩⟩;cases p:IQ i m with
  | nil=>exact absurd p (Ve y z)
  | cons n r =>
   rw[p]at o;exact⟨l,_,C0 rfl rfl ⟨IG.of o,(show OK (V.str n::r.map V.str) ((0:Nat):Int)=_ from K0 rfl),q n G I⟩⟩
end
def q0{C:A4}{H:Hp}{x c:A4}{ns:A0 Str}{A B:A0 Nat}{L:Nat}(h:IE C H x c ns A B L):H c≠none:=fun z=>by
 obtain⟨_,_,_,_,_,_,_,_,_,a,_⟩:=h.ex;rcases a with e | ⟨o,e⟩<;>rw[z]at e<;>cases e
section
variable{P:F8}{w:H_}{K:PySem.W.Frag}{mg:Str->A6 A3}{base:IA}
theorem Au:IC ["marks", "held", "hit"] ["marks", "held"] (B8 NH):=JX
def Ej(C:A4):Sp:=fun e H Q _=>∃(x c:A4) (d:A0 Str) (A B:A0 Nat) (L m:Nat),e = [.ref x,.int (m:Int)]/\IE C H x c d A B L/\(∀j,m.testBit j=true->j<d.length)/\∀b,Sm [c] H b->IE C b x c d A B L ->
 ((∀j,m.testBit j=true->¬w4 B m j)->Q .non b)/\∀(j:Nat) (a:A4) (f g h:Str),m.testBit j=true->w4 B m j->H a=none->b a=some (.tup [.str f,.str g,.str h])->Q (.ref a) b
theorem Bk(T:Tx K mg):IP P w K mg base I_ 3 T.ax.f T.ax.fd ["marks", "held"] (Ej T.ab):=by
 have l:=G7 (P:=P) (w:=w) (base:=base) T;have g:=J9 (P:=P) (w:=w) (base:=base) T;have e:=Q5 (P:=P) (w:=w) (base:=base) T;have n:=Fr (P:=P) (w:=w) (base:=base) T;have sc:=Au;refine T.ax.F.ok Au (fun vs H Q E h=>?_) (fun cdv A J s H vs Q E o h=>?_)
 .obtain⟨x,c,v,A,B,L,m,rfl,_⟩:=h;rfl
 .obtain⟨x,c,v,A,B,L,m,rfl,M,X,q⟩:=h;obtain⟨t,a,b,d,Y,u,_⟩:=M.ex;refine⟨_,(B4 (C5 (i:=2) sc.nd rfl (.inl rfl) (C7 O9 (pv 1) (D6 (pv 0) T.ad T.ah.m l (Rm o) T.ah.b .nil J8 (A8 (pv 1) B3))))
   (B4 (K3 (U7 (RL K (pv 2))) (B5 (C2 Bh)) C8)
   (B5 (C2 (G0 (A8 W1 (A8 (D6 (pv 0) T.ad T.ag.m e (Rm o) T.ag.b .nil J8 (A8 (C7 O9 (D6 (pv 0) T.ad T.ae.m g (Rm o) T.ae.b .nil J8 (A8 (C9 T.a1 n (Rm o) (A8 (pv 2) B3)) B3)) (pv 1)) B3)) (A8 (D6 (pv 0) T.ad T.ag.m e (Rm o) T.ag.b .nil J8 (A8 (pv 2) B3)) B3)))))))),?_⟩
  refine B9 fun N1 N=>?_;refine A7 rfl (A7 rfl ⟨x,t,A7 rfl ⟨u,rfl,A7 rfl ⟨x,c,v,A,B,L,m,rfl,M,fun r H1 Z O o=>?_⟩⟩⟩);refine C0 rfl rfl ?_;dsimp only;rw[Ta];refine N _ _ ?_;have R:∀j,(m &&& r).testBit j=true↔m.testBit j=true/\w4 B m j:=fun j=>by rw[CY,BT,o]
  refine B9 fun N2 S=>?_;refine A7 rfl ⟨_,rfl,?_⟩;dsimp only;refine T8 (fun z=>?_) (fun z=>?_)
  .have D:m &&& r=0:=by
    by_cases y:m &&& r=0
    .exact y
    .exact absurd z (by simp;omega)
   exact(q H1 Z O).1 fun j G I=>by
    have:=(R j).mpr ⟨G,I⟩;rw[D,CS]at this;cases this
  .have D:m &&& r≠0:=fun y=>by
    rw[y]at z;exact z rfl
   obtain⟨j,hj⟩:=Nat.exists_testBit_of_ne_zero D;obtain⟨G,I⟩:=(R j).mp hj;refine S _ _ ?_;obtain⟨t,a,b,d,Y,u,_⟩:=O.ex;obtain⟨i,U,ei⟩:=id I;refine A7 rfl ⟨x,t,A7 rfl ⟨u,rfl,A7 rfl ⟨x,t,A7 rfl ⟨u,rfl,A7 rfl ⟨_,rfl,Nat.pos_of_ne_zero D,fun k hk=>?_⟩⟩⟩⟩⟩;obtain⟨h3,i,U,ei⟩:=(R k).mp hk;refine⟨x,c,v,A,B,L,2^k,rfl,O,fun r2 H2 k2 M2 V=>?_⟩;refine A7 rfl (C0 rfl rfl ?_);dsimp only;rw[Ta];refine⟨x,c,v,A,B,L,r2 &&& m,i,rfl,M2,X i U,by rw[CY,BT,V];exact⟨⟨k,FR,(M.net.tr k i).mpr ei⟩,U⟩,fun n1 H3 s3=>?_⟩;have W:=M2.same s3;obtain⟨t,a,b,d,Y,u,_⟩:=W.ex;refine A7 rfl ⟨x,t,A7 rfl ⟨u,rfl,A7 rfl ⟨x,c,v,A,B,L,m &&& r,j,rfl,W,X j G,hj,fun n2 H4 s4=>?_⟩⟩⟩;refine⟨by show 3<=sizeLine;decide,fun p C=>?_⟩;have M4:=W.same s4;have k4:Sm [c] H H4:=(Z.trans k2).trans (s3.sm.trans s4.sm);exact(q _ (k4.new C) (M4.same (HY.new C))).2 j p _ _ _ G I (k4.none (fun y=>by rw[AF.mp y]at C;exact q0 M4 C) C) A9
end
def Hh(A B:A0 Nat)(n L m ad:Nat):A0 Nat:=(List.range n).filter fun j=>ad.testBit j && @decide (L.testBit j=true\/w4 B m j\/w4 A m j) (Classical.propDecidable _)
def Sh{A B:A0 Nat}{n L m ad z:Nat}(h:∀j,z.testBit j=true↔L.testBit j=true\/w4 B m j\/w4 A m j):D0 (ad &&& z) n=Hh A B n L m ad:=by
 unfold D0 Hh;refine List.filter_congr fun j _=>?_;rw[CY];congr 1;rw[BZ,h];exact⟨fun y=>@BD _ (Classical.propDecidable _) y,fun y=>@CC _ (Classical.propDecidable _) y⟩
def Jn(A B:A0 Nat)(n L m ad:Nat):A0 Int :=
 [((D0 ad n).length:Int)-((Hh A B n L m ad).length:Int),((D0 ad n).length:Int)]
section
variable{P:F8}{w:H_}{K:PySem.W.Frag}{mg:Str->A6 A3}{base:IA}
theorem g7:IC ["marks", "held", "added", "clashing", "many"] ["marks", "held", "added"] (B8 LZ):=JX
def Sf(C:A4):Sp:=fun e H Q _=>∃(x c:A4) (d:A0 Str) (A B:A0 Nat) (L m ad:Nat),e = [.ref x,.int (m:Int),.int (ad:Int)]/\IE C H x c d A B L/\∀a b,H a=none->Sm [c] H b->IE C b x c d A B L ->
 b a=some (.tup ((Jn A B d.length L m ad).map V.int))->Q (.ref a) b
theorem j9(T:Tx K mg):IP P w K mg base I_ 3 T.aW.f T.aW.fd ["marks", "held", "added"] (Sf T.ab):=by
 have n:=G7 (P:=P) (w:=w) (base:=base) T;have k:=J9 (P:=P) (w:=w) (base:=base) T;have g:=E6 (P:=P) (w:=w) (base:=base) T;have N:=g7;refine T.aW.F.ok g7 (fun X H Q E h=>?_) (fun Y A z s H X Q E v h=>?_)
 .obtain⟨x,c,t,A,B,L,m,ad,rfl,_⟩:=h;rfl
 .obtain⟨x,c,t,A,B,L,m,ad,rfl,O,q⟩:=h;obtain⟨o,a,b,d,C,r,_⟩:=O.ex;refine⟨_,(B4 (C5 (i:=3) N.nd rfl (.inl rfl) (C7 Am (C7 Am (NJ K (pv 0)) (D6 (pv 0) T.ad T.ah.m n (Rm v) T.ah.b .nil J8 (A8 (pv 1) B3))) (D6 (pv 0) T.ad T.ae.m k (Rm v) T.ae.b .nil J8 (A8 (pv 1) B3))))
   (B4 (C5 (i:=4) N.nd rfl (.inl rfl) (E8 (P4 K) T.as O8 (A8 (D6 (pv 0) T.ad T.ac.m g (Rm v) T.ac.b .nil J8 (A8 (pv 2) B3)) B3)))
   (B5 (C2 (G0 (A8 (C7 zBs (pv 4) (E8 (P4 K) T.as O8 (A8 (D6 (pv 0) T.ad T.ac.m g (Rm v) T.ac.b .nil J8 (A8 (C7 O9 (pv 2) (pv 3)) B3)) B3))) (A8 (pv 4) B3))))))),?_⟩
  refine B9 fun N1 D=>?_;refine A7 rfl ⟨x,T.ab,o,_,A7 rfl ⟨r,T.ad,T.bi,rfl,A7 rfl ⟨x,o,A7 rfl ⟨r,rfl,A7 rfl ⟨x,c,t,A,B,L,m,rfl,O,fun r1 H1 Z R G=>?_⟩⟩⟩⟩⟩;refine C0 rfl rfl ?_;obtain⟨o,a,b,d,C,r,_⟩:=R.ex;refine A7 rfl ⟨x,o,A7 rfl ⟨r,rfl,A7 rfl ⟨x,c,t,A,B,L,m,rfl,R,fun r2 H2 k2 S I=>?_⟩⟩⟩;refine C0 rfl rfl ?_;dsimp only;rw[OX,OX];refine D _ _ (B9 fun N2 J=>?_);obtain⟨o,a,b,d,C,r,_⟩:=S.ex;refine A7 rfl ⟨x,o,A7 rfl ⟨r,rfl,A7 rfl ⟨x,c,t,A,B,L,ad,rfl,S,fun l H3 hl k3 U el=>?_⟩⟩⟩;refine⟨l,_,rfl,.inl (IG.of el),?_⟩;rw[AB];refine J _ _ ?_;obtain⟨o,a,b,d,C,r,_⟩:=U.ex;refine A7 rfl (A7 rfl ⟨x,o,A7 rfl ⟨r,rfl,A7 rfl (A7 rfl (C0 rfl rfl ?_))⟩⟩);dsimp only;rw[Ta];refine⟨x,c,t,A,B,L,ad &&&(L ||| r1 ||| r2),rfl,U,fun l2 H4 hl2 k4 V M=>?_⟩;refine⟨l2,_,rfl,.inl (IG.of M),?_⟩;rw[AB];refine C0 rfl rfl (A7 rfl ?_);refine⟨by show 2<=sizeLine;decide,fun p u=>?_⟩;have W:Sm [c] H H4:=((Z.trans k2).trans k3).trans k4;refine q p _ (W.none (fun y=>by rw[AF.mp y]at u;exact q0 V u) u) (W.new u) (V.same (HY.new u)) ?_;rw[A9];have e:D0 (ad &&&(L ||| r1 ||| r2)) t.length=Hh A B t.length L m ad:=Sh fun j=>by rw[EF,EF,EK,EK,G,I,or_assoc]
  rw[e];rfl
end
def I9(A B:A0 Nat)(n m:Nat):A0 Nat:=(List.range n).filter fun j=>@decide (w4 A m j/\¬w4 B m j) (Classical.propDecidable _)
def KO{A B:A0 Nat}{n m j:Nat}:j∈I9 A B n m↔j<n/\w4 A m j/\¬w4 B m j:=by
 unfold I9;rw[BM,BW];exact⟨fun h=>⟨h.1,@CC _ (Classical.propDecidable _) h.2⟩,fun h=>⟨h.1,@BD _ (Classical.propDecidable _) h.2⟩⟩
def Rl{A B:A0 Nat}{n m z:Nat}(h:∀j,z.testBit j=true↔w4 A m j/\j<n/\¬w4 B m j):D0 z n=I9 A B n m:=by
 unfold D0 I9;refine List.filter_congr fun j a=>?_;rw[BZ,h];exact⟨fun y=>@BD _ (Classical.propDecidable _) ⟨y.1,y.2.2⟩,fun y=>let h:=@CC _ (Classical.propDecidable _) y;⟨h.1,BW.mp a,h.2⟩⟩
def y4(A B:A0 Nat)(n m:Nat):A0 Nat:=(I9 A B n m).map fun j=>A.getD j 0
def w8(A B:A0 Nat)(n L m:Nat)(ads:A0 Nat):Nat:=Ig (fun j=>Jn A B n L m (ads.getD j 0)) (ads.length-1)
def K9(A B:A0 Nat)(n L m:Nat):Nat:=(y4 A B n m).getD (w8 A B n L m (y4 A B n m)) 0
def X8(B:A0 Nat)(m:Nat):Prop:=∃j,m.testBit j=true/\w4 B m j
def M0(A B:A0 Nat)(n L:Nat):Nat->Nat->A6 Nat
 | 0,_=>none
 | k+1,m=>@ite _ (X8 B m) (Classical.propDecidable _) none (if I9 A B n m = []then some m else(D0 (K9 A B n L m) n).findSome? fun j=>M0 A B n L k (m ||| 2^j))
def Ao{A B:A0 Nat}{n L m:Nat}{ads:A0 Nat}(h:ads≠[]):w8 A B n L m ads<ads.length:=by
 have:=Ol (fun j=>Jn A B n L m (ads.getD j 0)) (ads.length-1);have a:=List.length_pos_iff.mpr h;unfold w8;omega
def Ar{A B:A0 Nat}{n L m:Nat}(h:I9 A B n m≠[]):∃d∈I9 A B n m,K9 A B n L m=A.getD d 0:=by
 have b:y4 A B n m≠[]:=fun z=>h (EY.mp z);have a:=Ao (A:=A) (B:=B) (n:=n) (L:=L) (m:=m) b;have c:K9 A B n L m∈y4 A B n m:=by
  unfold K9;rw[AQ,AC a];exact FU a
 obtain⟨d,f,e⟩:=AR.mp c;exact⟨d,f,e.symm⟩
def Kl{m j:Nat}(h:¬m.testBit j=true):∀n,(D0 (m ||| 2^j) n).length =(D0 m n).length+if j<n then 1 else 0
 | 0=>rfl
 | n+1=>by
  rw[Q2,Q2,AV,AV,Kl h n];by_cases e:n=j
  .subst e;rw[AK ((U4 m n n).mpr (.inr rfl)),AJ h,AJ (CQ _),AK (ED _)];rfl
  .have a:(m ||| 2^j).testBit n=m.testBit n:=by
    rw[BZ,U4];exact⟨fun z=>z.resolve_right e,.inl⟩
   rw[a];by_cases l:j<n
   .rw[AK l,AK (DC l)];omega
   .rw[AJ l,AJ (show ¬j<n+1 by omega)];rfl
def q9{A B:A0 Nat}{n L:Nat}(a:QU n A B):∀(k m r:Nat),LC n m->M0 A B n L k m=some r->Mw n A B r/\∀j,m.testBit j=true->r.testBit j=true
 | 0,m,r,_,h=>by cases h
 | k+1,m,r,lo,h=>by
  unfold M0 at h;by_cases c:X8 B m
  .rw[AK c]at h;cases h
  rw[AJ c]at h;by_cases d:I9 A B n m = []
  .rw[AK d]at h;cases h;refine⟨⟨lo,fun i j g f z=>c ⟨j,f,i,g,z⟩,fun j f=>⟨lo j f,fun b o=>?_⟩⟩,fun _ h=>h⟩;have l:b<n:=(a.lt b j ((a.tr j b).mp o)).1;by_cases z:w4 B m b
   .exact z
   .have:b∈I9 A B n m:=KO.mpr ⟨l,⟨j,f,o⟩,z⟩;rw[d]at this;cases this
  rw[AJ d]at h;obtain⟨j,f,e⟩:=List.exists_of_findSome?_eq_some h;obtain⟨p,q⟩:=q9 a k _ r (lo.or (JG.mp f).1) e;exact⟨p,fun i g=>q i ((U4 m j i).mpr (.inl g))⟩
def Bq{A B:A0 Nat}{n L m j:Nat}(a:QU n A B)(h:I9 A B n m≠[])(b:(K9 A B n L m).testBit j=true):j<n/\¬m.testBit j=true:=by
 obtain⟨d,f,e⟩:=Ar (L:=L) h;rw[e]at b;have c:=(a.tr d j).mp b;exact⟨(a.lt j d c).1,fun z=>(KO.mp f).2.2 ⟨j,z,c⟩⟩
def Dm{A B:A0 Nat}{n L S:Nat}(a:QU n A B)(st:Mw n A B S):∀(k m:Nat),(∀j,m.testBit j=true->S.testBit j=true)->n<k +(D0 m n).length->M0 A B n L k m≠none
 | 0,m,_,l=>by
  have:=M6 m n;omega
 | k+1,m,sub,l=>by
  unfold M0;have c:¬X8 B m:=fun⟨j,h,i,o,z⟩=>st.2.1 i j (sub i o) (sub j h) z;rw[AJ c];by_cases d:I9 A B n m = []
  .rw[AK d];exact fun z=>by cases z
  rw[AJ d];obtain⟨b,s,e⟩:=Ar (L:=L) d;obtain⟨t,⟨i,o,p⟩,w⟩:=KO.mp s;obtain⟨j,h,q⟩:=(st.2.2 i (sub i o)).2 b p;have f:(K9 A B n L m).testBit j=true:=by rw[e];exact(a.tr b j).mpr q
  obtain⟨g,r⟩:=Bq a d f;have u:=Dm (L:=L) a st k (m ||| 2^j) (fun x v=>((U4 m j x).mp v).elim (sub x) fun e=>e▸h) (by rw[Kl r,AK g];omega);intro z;exact u (FF.mp z j (JG.mpr ⟨g,f⟩))
def er(H:Hp)(l:A4):Hp:=fun b=>if b=l then none else H b
def Oa{H:Hp}{l b:A4}(n:b≠l):er H l b=H b:=AJ n
def Ak(H:Hp)(l:A4):HY (er H l) H:=fun b o e=>by
 unfold er at e;by_cases c:b=l
 .rw[AK c]at e;cases e
 .rw[AJ c]at e;exact e
def Pm(H:Hp)(l:A4)(o:HO):er (IB H l o) l=er H l:=funext fun b=>by
 unfold er;by_cases c:b=l
 .rw[AK c,AK c]
 .rw[AJ c,AJ c,B6 c]
def IE.er{C:A4}{H H':Hp}{x c l:A4}{ns:A0 Str}{A B:A0 Nat}{L:Nat}(h:IE C (er H l) x c ns A B L)(k:Sm [c] H H')(h':IE C H' x c ns A B L)(n:l≠c):IE C (Sw.er H' l) x c ns A B L:=by
 refine h.fz (fun b o e a=>?_) ?_
 .have:b≠l:=fun z=>by subst z;unfold Sw.er at e;rw[AK rfl]at e;cases e
  rw[Oa this];exact k b o (Ak H l b o e) a
 .obtain⟨_,_,_,_,_,_,_,_,_,d,_⟩:=h'.ex;unfold Rd;rw[Oa n.symm];exact d
abbrev QN:=A4×A4×A0 Str×Nat
def JS(H:Hp)(t:QN):Prop:=H t.1=some (.tup [.ref t.2.1,.int (t.2.2.2:Int)])/\H t.2.1=some (.tup (t.2.2.1.map V.str))/\t.2.2.1.length<=5
def JS.same{H H':Hp}{t:QN}(h:JS H t)(s:HY H H'):JS H' t:=⟨s _ _ h.1,s _ _ h.2.1,h.2.2⟩
def X1{C:A4}{H:Hp}{x c a:A4}{o:HO}{ns:A0 Str}{A B:A0 Nat}{L:Nat}(h:IE C H x c ns A B L)(e:H a=some o)(d:∀k,o≠ .dK k)(f:∀u v,o≠ .frz u v):a≠c:=fun z=>by
 obtain⟨_,_,_,_,_,_,_,_,_,g,_⟩:=h.ex;rw[z]at e;rcases g with b | ⟨u,b⟩<;>rw[e]at b<;>cases b
 .exact d _ rfl
 .exact f _ _ rfl
def K5{C:A4}{H:Hp}{x c a:A4}{xs:A0 V}{ns:A0 Str}{A B:A0 Nat}{L:Nat}(h:IE C H x c ns A B L)(e:H a=some (.lst xs)):a≠c:=X1 h e (fun _ y=>by cases y) fun _ _ y=>by cases y
def i7{C:A4}{H:Hp}{x c a:A4}{xs:A0 V}{ns:A0 Str}{A B:A0 Nat}{L:Nat}(h:IE C H x c ns A B L)(e:H a=some (.tup xs)):a≠c:=X1 h e (fun _ y=>by cases y) fun _ _ y=>by cases y
def JS.sm{C:A4}{H H':Hp}{x c:A4}{ns:A0 Str}{A B:A0 Nat}{L:Nat}{t:QN}(h:JS H t)(M:IE C H x c ns A B L)(k:Sm [c] H H'):JS H' t:=⟨JR k h.1 (i7 M h.1),JR k h.2.1 (i7 M h.2.1),h.2.2⟩
def JS.upd{H:Hp}{l:A4}{o:HO}{xs:A0 V}{t:QN}(h:JS H t)(e:H l=some (.lst xs)):JS (IB H l o) t:=⟨(B6 (R9 h.1 e (by intro y;cases y))).trans h.1,(B6 (R9 h.2.1 e (by intro y;cases y))).trans h.2.1,h.2.2⟩
def Pd{M:A0 Nat}{k j:Nat}:w4 M (2^k) j↔(M.getD k 0).testBit j=true:=by
 constructor
 .rintro⟨i,a,e⟩;rw[DK,BU]at a;rw[a];exact e
 .exact fun h=>⟨k,FR,h⟩
section
variable{P:F8}{w:H_}{K:PySem.W.Frag}{mg:Str->A6 A3}{base:IA}
theorem l7:IC ["marks", "held", "splits", "doubt", "doubted"] ["marks", "held"] (B8 MA):=JX
def Cu(C:A4):Sp:=fun e H Q _=>∃(x c:A4) (b:A0 Str) (A B:A0 Nat) (L m:Nat),e = [.ref x,.int (m:Int)]/\IE C H x c b A B L/\(∀j,m.testBit j=true->j<b.length) /\
 ∀l (d:A0 QN) a,H l=none->Sm [c] H a->IE C a x c b A B L->a l=some (.lst (d.map fun t=>V.ref t.1))->(∀t∈d,JS a t)->(d.map fun t=>t.2.2.2)=y4 A B b.length m->Q (.ref l) a
set_option maxHeartbeats 2000000 in
theorem d0(T:Tx K mg):IP P w K mg base I_ 4 T.aA.f T.aA.fd ["marks", "held"] (Cu T.ab):=by
 have v:=E6 (P:=P) (w:=w) (base:=base) T;have u:=G7 (P:=P) (w:=w) (base:=base) T;have g:=J9 (P:=P) (w:=w) (base:=base) T;have r:=X6 (P:=P) (w:=w) (base:=base) T;have k:=Q5 (P:=P) (w:=w) (base:=base) T;have sc:=l7;refine T.aA.F.ok l7 (fun vs H Q E h=>?_) (fun cdv A outer s H vs Q E Y h=>?_)
 .obtain⟨x,c,C,A,B,L,m,rfl,_⟩:=h;rfl
 .obtain⟨x,c,C,A,B,L,m,rfl,hM,hm,q⟩:=h;refine⟨_,(B4 (C5 (i:=2) sc.nd rfl (.inl rfl) (M8 B3))
   (B4 (O4 PassesOwn.never rfl (MZ K (D6 (pv 0) T.ad T.ac.m v (Rm Y) T.ac.b .nil J8 (A8 (C7 O9 (D6 (pv 0) T.ad T.ae.m g (Rm Y) T.ae.b .nil J8 (A8 (pv 1) B3)) (D6 (pv 0) T.ad T.ar.m r (Rm Y) T.ar.b .nil J8 (A8 (pv 1) B3))) B3))) (D4 (i:=3) sc.nd rfl (.inl rfl))
   (B4 (C5 (i:=4) sc.nd rfl (.inl rfl) (D6 (pv 0) T.ad T.ag.m k (Rm Y) T.ag.b .nil J8 (A8 (C7 O9 (D6 (pv 0) T.ad T.ah.m u (Rm Y) T.ah.b .nil J8 (A8 (pv 3) B3)) (pv 1)) B3)))
   (B5 (J7 (Hl K PySem.F.plainAttrs_list PySem.F.slot_list_append PySem.F.type_list_append K4 (pv 2) (A8 (G0 (A8 (G0 (A8 W1 (A8 (pv 4) (A8 (D6 (pv 0) T.ad T.ag.m k (Rm Y) T.ag.b .nil J8 (A8 (pv 3) B3)) B3)))) (A8 (D6 (pv 0) T.ad T.ae.m g (Rm Y) T.ae.b .nil J8 (A8 (pv 3) B3)) B3))) B3))))))
   (B5 (C2 (pv 2))))),?_⟩
  refine B9 fun N1 hN1=>?_;refine⟨CF _,fun l hl=>?_⟩;have ul:=HY.new (o:=.lst []) hl;have hMe:IE T.ab (Sw.er (IB H l (.lst [])) l) x c C A B L:=by
   rw[Pm];exact hM.same fun b o e=>by rw[Oa (B0 e hl)];exact e
  have M1:=hM.same ul;have el:(IB H l (.lst [])) l=some (.lst []):=A9;have k1:Sm [c] H (IB H l (.lst [])):=ul.sm;generalize IB H l (.lst [])=H1 at M1 el k1 hMe⊢;refine hN1 _ _ (B9 fun N2 hN2=>?_);obtain⟨M,a,b,d,kb,N,_⟩:=M1.ex;refine A7 rfl ⟨x,M,A7 rfl ⟨N,rfl,A7 rfl ⟨x,M,A7 rfl ⟨N,rfl,A7 rfl ⟨x,c,C,A,B,L,m,rfl,M1,fun r1 H2 k2 M2 hr1=>?_⟩⟩⟩⟩⟩;obtain⟨M,a,b,d,kb,N,_⟩:=M2.ex;refine A7 rfl ⟨x,M,A7 rfl ⟨N,rfl,A7 rfl ⟨x,c,C,A,B,L,m,rfl,M2,fun r2 H3 k3 M3 hr2=>?_⟩⟩⟩;refine C0 rfl rfl ?_;dsimp only;rw[Ta];refine⟨x,c,C,A,B,L,r1 &&& r2,rfl,M3,fun D H4 hD k4 M4 eD=>?_⟩;have eds:D0 (r1 &&& r2) C.length=I9 A B C.length m:=Rl fun j=>by rw[CY,BT,hr1,hr2]
  rw[eds]at eD;have Z:Sm [c] H1 H4:=(k2.trans k3).trans k4;have el4:=JR Z el (K5 M1 el);have Me4:=hMe.er Z M4 (K5 M1 el);have nDl:D≠l:=fun z=>by
   have:=JR (k2.trans k3) el (K5 M1 el);rw[<-z,hD]at this;cases this
  have k04:Sm [c] H H4:=k1.trans Z;have nDc:=K5 M4 eD;have nlc:=K5 M4 el4;refine⟨D,rfl,⟨_,IG.of eD⟩,R8 (D:={ nx:=N2,rt:=Q }) (MN (IG.of eD)) (fun i σ G=>(∃v3 v4,σ = [some (.ref x),some (.int (m:Int)),some (.ref l),v3,v4])/\Sm [c] H G/\Sm [c,l] H4 G/\IE T.ab (Sw.er G l) x c C A B L/\IE T.ab G x c C A B L/\∃R:A0 QN,G l=some (.lst (R.map fun t=>V.ref t.1))/\(∀t∈R,JS G t)/\(R.map fun t=>t.2.2.2) =((I9 A B C.length m).take i).map fun j=>A.getD j 0) ⟨⟨_,_,rfl⟩,k04,Sm.refl _ _,Me4,M4,[],el4,fun t ht=>absurd ht BX,rfl⟩ (fun i σ G _ h o e=>by rw[eD]at e;cases e;exact h.2.2.1 _ _ eD (by simp[nDl,nDc])) ?_ ?_⟩
  .rintro i σ G y hy ⟨⟨v3,v4,rfl⟩,kG,kG4,MeG,MG,R,eG,aG,mG⟩ D1 hD1 _;rw[AH]at hy;obtain⟨j,hj,rfl⟩:=BL.mp hy;obtain⟨hjn,⟨p,hp,hpj⟩,nh⟩:=KO.mp (AM hj);refine Vg fun N3 hN3=>?_;obtain⟨M,a,b,d,kb,N,_⟩:=MG.ex;refine A7 rfl ⟨x,M,A7 rfl ⟨N,rfl,A7 rfl ⟨x,M,A7 rfl ⟨N,rfl,A7 rfl ⟨x,c,C,A,B,L,2^j,rfl,MG,fun r3 G1 S MG1 hr3=>?_⟩⟩⟩⟩⟩;refine A7 rfl (C0 rfl rfl ?_);dsimp only;rw[Ta];refine⟨x,c,C,A,B,L,r3 &&& m,p,rfl,MG1,hm p hp,by rw[CY,BT,hr3,Pd];exact⟨(hM.net.tr p j).mp hpj,hp⟩,fun U G2 O=>?_⟩;have I:=MG1.same O;refine hN3 _ _ ?_;have eG2:=O _ _ (JR S eG (K5 MG eG));have MeG2:=(MeG.er S MG1 nlc).er (O.sm (D:=[c])) I nlc;have aG2:∀t∈R,JS G2 t:=fun t ht=>((aG t ht).sm MG S).same O;have kG2:Sm [c] G G2:=S.trans O.sm;have lts:R.length<=100:=by
    have h1:=congrArg List.length mG;rw[AB,AB,AX]at h1;have h2:(I9 A B C.length m).length<=C.length:=by
     unfold I9;exact Nat.le_trans (BP ..) (by rw[BV];exact Nat.le_refl _)
    have:=hM.len;omega
   obtain⟨M,a,b,d,kb,N,_⟩:=I.ex;refine A7 rfl ⟨.inl ⟨rfl,_,IG.of eG2⟩,?_⟩;refine A7 rfl (A7 rfl ⟨x,M,A7 rfl ⟨N,rfl,A7 rfl ⟨x,c,C,A,B,L,2^j,j,rfl,I,hjn,FR,fun W G3 sg3=>?_⟩⟩⟩);refine⟨by show 3<=sizeLine;decide,fun h hh=>?_⟩;have uh:=HY.new (o:=.tup [.str "answer",.str U,.str W]) hh;have eh:(IB G3 h (.tup [.str "answer",.str U,.str W])) h=some (.tup ([("answer":Str),U,W].map V.str)):=A9;have sg4:=sg3.trans uh;generalize IB G3 h (.tup [.str "answer",.str U,.str W])=G4 at sg4 eh⊢;have MG4:=I.same sg4;obtain⟨M,a,b,d,kb,N,_⟩:=MG4.ex;refine A7 rfl ⟨x,M,A7 rfl ⟨N,rfl,A7 rfl ⟨x,c,C,A,B,L,2^j,rfl,MG4,fun r4 G5 kg5 MG5 hr4=>?_⟩⟩⟩;have er4:r4=A.getD j 0:=BR fun i=>BZ.mpr ((hr4 i).trans Pd);subst er4;refine⟨by show 2<=sizeLine;decide,fun t ht=>?_⟩;have ut:=HY.new (o:=.tup [.ref h,.int ((A.getD j 0:Nat):Int)]) ht;have st:JS (IB G5 t (.tup [.ref h,.int ((A.getD j 0:Nat):Int)])) (t,h,[("answer":Str),U,W],A.getD j 0):=⟨A9,ut _ _ (JR kg5 eh (i7 MG4 eh)),by show 3<=5;decide⟩;have J:Sm [c] G2 (IB G5 t (.tup [.ref h,.int ((A.getD j 0:Nat):Int)])):=(sg4.sm.trans kg5).trans ut.sm;have MG6:=MG5.same ut;generalize IB G5 t (.tup [.ref h,.int ((A.getD j 0:Nat):Int)])=G6 at ut st J MG6⊢;have eG6:=JR J eG2 (K5 I eG2);have MeG6:=MeG2.er J MG6 nlc;refine⟨l,_,_,rfl,rfl,eG6,by rw[AB,sizeLine_eq];omega,?_⟩;have X:IE T.ab (Sw.er (L2.IB G6 l (.lst ((R.map fun t=>V.ref t.1) ++ [.ref t]))) l) x c C A B L:=by rw[Pm];exact MeG6
   refine hD1 _ _ ⟨⟨_,_,rfl⟩,fun b o e n=>?_,fun b o e n=>?_,X,X.same (Ak _ _),R ++ [(t,h,[("answer":Str),U,W],A.getD j 0)],?_,fun t' ht'=>?_,?_⟩
   .rw[B6 (B0 e hl)];exact(kG.trans (kG2.trans J)) b o e n
   .have U:b≠c:=fun z=>n (by rw[z];exact .head _);have W:b≠l:=fun z=>n (by rw[z];exact .tail _ (.head _));rw[B6 W];exact(kG2.trans J) b o (kG4 b o e n) (by simpa using U)
   .rw[A9,AO];rfl
   .rcases A_.mp ht' with z | z
    .exact((aG2 t' z).sm I J).upd eG6
    .rw[AF.mp z];exact st.upd eG6
   .rw[AO,mG,IT hj,AO];rfl
  .rintro σ G ⟨⟨v3,v4,rfl⟩,kG,kG4,MeG,MG,R,eG,aG,mG⟩;rw[AB,CI]at mG;exact hN2 _ _ (A7 rfl (q l R G hl kG MG eG aG mG))
end
def Y8{C:A4}{H H':Hp}{x c p:A4}{ns:A0 Str}{A B:A0 Nat}{L:Nat}{ls:A0 (Pos×Str)}(h:E9 H p ls)(M:IE C H x c ns A B L)(k:Sm [c] H H'):E9 H' p ls:=by
 obtain⟨b,e,t,q⟩:=h;exact⟨b,JR k e (X1 M e (fun _ y=>by cases y) fun _ _ y=>by cases y),t,fun l f=>(q l f).imp id fun⟨d,e,a⟩=>⟨d,e,JR k a (X1 M a (fun _ y=>by cases y) fun _ _ y=>by cases y)⟩⟩
section
variable{P:F8}{w:H_}{K:PySem.W.Frag}{mg:Str->A6 A3}{base:IA}
def Zc(f c:A4)(q:Str)(b:Arguments)(d:IH)(a:JB)(cl:A0 (Str×A4))(g:V->Hp->VK->Prop):Sp:=fun e H Q _=>∃u,e = [u]/\H f=some (MP f c q b d a cl)/\H c=some (KE c q)/\g u H Q
theorem Qp{f c:A4}{q:Str}{i:Arguments}{e:IH}{b:JB}{cl:A0 (Str×A4)}{fr:A0 Str}{gs:A0 V}{k:Nat}{g:V->Hp->VK->Prop}(S:ME ("split" :: fr) ["split"] fr b)(C:OI base cl fr gs)
  (d:∀(A:II) (a:A0 OU) (s:A5) (H:Hp) (u:V) (Q:VK),JF k (A.deeper (PySem.W.envX q b s.heap.objs.size f (.ref c) cl))->g u H Q ->
   ∃t,PE (No P w K mg base ("split" :: fr) q b f (.ref c) cl A a s H) e t/\t (some u::gs.map some) H Q) :
  IP P w K mg base I_ (k+1) f (PySem.W.kla_fn "<lambda>" q i e b cl .none (.ref c) .none) ["split"] (Zc f c q i e b cl g):=by
 refine zAy S C (fun j H Q E h=>?_) (fun j H Q E h=>?_) fun A a s H j Q E l h=>?_
 .obtain⟨u,rfl,_⟩:=h;rfl
 .obtain⟨u,rfl,m,n,_⟩:=h;exact⟨m,n⟩
 .obtain⟨u,rfl,_,_,h⟩:=h;exact d A a s H u Q l h
theorem Zg{e:Hp}{f c:A4}{q:Str}{j:Arguments}{i:IH}{a:JB}{cl:A0 (Str×A4)}{fr:A0 Str}{gs:A0 V}{k:Nat}{g:V->Hp->VK->Prop}(n:e f=some (MP f c q j i a cl))(o:e c=some (KE c q))(S:ME ("split" :: fr) ["split"] fr a)(C:OI base cl fr gs)
  (p:Binds K (PySem.W.kla_fn "<lambda>" q j i a cl .none (.ref c) .none) ["split"] [])
  (b:∀(A:II) (d:A0 OU) (s:A5) (H:Hp) (u:V) (Q:VK),JF k (A.deeper (PySem.W.envX q a s.heap.objs.size f (.ref c) cl))->g u H Q ->
   ∃t,PE (No P w K mg base ("split" :: fr) q a f (.ref c) cl A d s H) i t/\t (some u::gs.map some) H Q) :
  ∃(l:IU) (m:A0 Str) (sp:Sp),IP P w K mg base I_ (k+1) f l m sp/\Binds K l m []/\∀u H Q,H f=e f->H c=e c->g u H Q->sp [u] H Q E0 :=
 ⟨_,_,_,Qp S C b,p,fun u H Q r v h=>⟨u,rfl,r.trans n,v.trans o,h⟩⟩
theorem j7:IC ["marks", "held", "splits"] ["marks", "held", "splits"] (B8 JW):=JX
def Jl(C d:A4):Sp:=fun f H Q _=>∃(x c l:A4) (e:A0 Str) (A B:A0 Nat) (L m:Nat) (a:A0 QN),f = [.ref x,.int (m:Int),.ref l]/\IE C H x c e A B L/\H l=some (.lst (a.map fun t=>V.ref t.1))/\a≠[]/\(∀t∈a,JS H t)/\E9 H d C1 /\
 ∀b,Sm [c,d] H b->IE C b x c e A B L->E9 b d C1->(∀t∈a,JS b t)->Q ((a.map fun t=>V.ref t.1).getD (w8 A B e.length L m (a.map fun t=>t.2.2.2)) .non) b
set_option maxHeartbeats 2000000 in
theorem Z9(T:Tx K mg)(hB:base.BuiltinsAt mg T.aa):IP P w K mg base I_ 7 T.aq.f T.aq.fd ["marks", "held", "splits"] (Jl T.ab T.aa):=by
 have D:=j9 (P:=P) (w:=w) (base:=base) T;have sc:=j7;refine T.aq.F.okC j7 (fun vs H Q E h=>?_) (fun cdv A O s H vs Q E hcd hr h=>?_)
 .obtain⟨x,c,l,ns,A,B,L,m,X,rfl,_⟩:=h;rfl
 .obtain⟨x,c,l,ns,A,B,L,m,X,rfl,hM,hl,hne,hS,hT,q⟩:=h;have hu:=Y9 hr;refine⟨_,(B5 (C2 (Yn (k:=5) (fun _=>rfl) (Rm hr) T.bw (A8 (pv 2) B3) (zCe (ls:=C1) T.bg hB (hcd.symm.trans T.bu) rfl rfl (by show ∀x:Str×JO,x∈_->x.2=NameKind.free->(B8 JW).names.lookup x.1=some NameKind.cell;decide +kernel) (by first | exact .head _ | exact .tail _ (.head _) | exact .tail _ (.tail _ (.head _))) (by decide +kernel))))),?_⟩;refine A7 rfl ⟨hT,fun f cc H2 hf T2 G I nfp J=>?_⟩;have p:∀{z:A4} {o:HO},H z=some o->(∀u,o≠ .tbl u)->z≠T.aa:=fun{z o} e n y=>by
   obtain⟨ps,e',_⟩:=hT;rw[y,e']at e;cases e;exact n _ rfl
  have M2:IE T.ab H2 x c ns A B L:=by
   obtain⟨⟨dx,a,b,d,kb,e1,e2,e3,e4,e5,e6,n1,n2⟩,M,h3,h4,h5⟩:=hM;have kR:∀{z:A4} {o:HO},(∀u,o≠ .tbl u)->Rd H z o->Rd H2 z o:=fun{z o} n r=>r.imp (fun e=>J _ _ e (p e n)) fun⟨u,e⟩=>⟨u,J _ _ e (p e fun _ y=>by cases y)⟩;exact⟨⟨dx,a,b,d,kb,J _ _ e1 (p e1 fun _ y=>by cases y),J _ _ e2 (p e2 fun _ y=>by cases y),kR (fun _ y=>by cases y) e3,e4,kR (fun _ y=>by cases y) e5,J _ _ e6 (p e6 fun _ y=>by cases y),n1,n2⟩,M,h3,h4,h5⟩
  have hl2:=J _ _ hl (p hl fun _ y=>by cases y);have S2:∀t∈X,JS H2 t:=fun t Y=>by
   obtain⟨a1,a2,a3⟩:=hS t Y;exact⟨J _ _ a1 (p a1 fun _ y=>by cases y),J _ _ a2 (p a2 fun _ y=>by cases y),a3⟩
  refine⟨l,f,[c],_,fun j=>Jn A B ns.length L m ((X.map fun t=>t.2.2.2).getD j 0),fun C=>IE T.ab C x c ns A B L/\C l=some (.lst (X.map fun t=>V.ref t.1))/\(∀t∈X,JS C t)/\E9 C T.aa C1/\C f=H2 f/\C cc=H2 cc,rfl,rfl,by simpa using hne,⟨M2,hl2,S2,T2,rfl,rfl⟩,fun C g=>IG.of g.2.1,?K,fun C k' g=>?R⟩
  case R =>
   have:=q C (fun b o e n=>k' b o (J b o e fun z=>n (by rw[z];exact .tail _ (.head _))) fun z=>n (by rw[AF.mp z];exact .head _)) g.1 g.2.2.2.1 g.2.2.1;unfold w8 at this;rw[AB]at this⊢;exact this
  case K =>
   intro S U kin;obtain⟨fd,ps,sp,N,M,h3⟩:=Zg (P:=P) (w:=w) (K:=K) (mg:=mg) (base:=S) (k:=4) (fr:=["marks", "held"]) (gs:=[.ref x,.int (m:Int)]) (g:=fun v C Q'=>∃ad:Nat,(∃t:A4,v = .ref t/\∃hd:A4,C t=some (.tup [.ref hd,.int (ad:Int)]))/\Sf T.ab [.ref x,.int (m:Int),.int (ad:Int)] C Q' E0) I G ⟨rfl,rfl,rfl,rfl,by decide +kernel,by decide +kernel,by decide +kernel,by decide +kernel,by decide +kernel⟩ (U.clos (by decide +kernel) (by decide +kernel) (by show ∀x∈_,(B8 JW).names.lookup x=some NameKind.cell;decide +kernel) rfl fun i x v N M=>by
    match i,N,M with
    | 0,N,M=>cases N;cases M;exact⟨0,rfl,rfl⟩
    | 1,N,M=>cases N;cases M;exact⟨1,rfl,rfl⟩
    | n+2,N,_=>cases N) (Binds.all fun us hl=>by match us,hl with | [_],_=>rfl) (fun A O s H u Q hr h=>by
    obtain⟨ad,⟨t,rfl,hd,et⟩,h⟩:=h;refine⟨_,C9 T.aW (j9 T) (Rm hr) (A8 (pv 1) (A8 (pv 2) (A8 (E7 (QA K) (pv 0) B7 (fun _ _=>rfl)) B3))),?_⟩;exact A7 rfl (A7 rfl (A7 rfl ⟨t,_,C0 rfl rfl ⟨JM.of et,rfl,h⟩⟩)))
   .refine⟨fd,ps,sp,N,M,fun j v C ev g=>h3 v C _ g.2.2.2.2.1 g.2.2.2.2.2 ?_⟩;rw[AH]at ev;obtain⟨t,Y,rfl⟩:=BL.mp ev;obtain⟨W,gl,gS,gT,gf,gc⟩:=g;refine⟨t.2.2.2,⟨t.1,rfl,t.2.1,(gS t (AM Y)).1⟩,x,c,ns,A,B,L,m,t.2.2.2,rfl,W,fun a H3 ha Z M3 e3=>⟨a,rfl,fun z=>?_,Z,⟨M3,JR Z gl (K5 W gl),fun t Y=>(gS t Y).sm W Z,Y8 gT W Z,?_,?_⟩,JM.of ?_⟩⟩
    .rw[AF.mp z]at ha;exact q0 W ha
    .exact(JR Z (gf.trans I) (X1 W (gf.trans I) (fun _ y=>by cases y) fun _ _ y=>by cases y)).trans I.symm
    .exact(JR Z (gc.trans G) (X1 W (gc.trans G) (fun _ y=>by cases y) fun _ _ y=>by cases y)).trans G.symm
    .have:(X.map fun t=>t.2.2.2).getD j 0=t.2.2.2:=by rw[AQ,AH,Y];rfl
     rw[e3];dsimp only;rw[this]
end
def RJ:A6 Nat->V
 | some r=>.int (r:Int)
 | none=>.non
def Wy{α:Type}{f:Nat->A6 α}{l:A0 Nat}{i j:Nat}{r:α}(h:l[i]?=some j)(h1:∀x∈l.take i,f x=none)(h2:f j=some r):l.findSome? f=some r:=by
 have a:=(AG.mp h).1;have e:l=l.take i++j::l.drop (i+1):=by
  conv=>lhs;rw[<-BO i l]
  rw[EL a];congr 2;exact BG ((AC a).symm.trans h)
 rw[e,List.findSome?_append,FF.mpr h1,List.findSome?_cons,h2];rfl
def Dk{H:Hp}{p a:A4}{o:HO}{ls:A0 (Pos×Str)}(h:E9 H p ls)(e:H a=some o)(n:∀u,o≠ .tbl u):a≠p:=fun y=>by
 obtain⟨c,b,_⟩:=h;rw[y,b]at e;cases e;exact n _ rfl
section
variable{P:F8}{w:H_}{K:PySem.W.Frag}{mg:Str->A6 A3}{base:IA}
theorem U9:IC ["marks", "held", "splits", "bit", "found"] ["marks", "held"] (B8 KS):=JX
def Ab(C d:A4)(k:Nat):Sp:=fun e H Q _=>∃(x c:A4) (a:A0 Str) (A B:A0 Nat) (L m:Nat),e = [.ref x,.int (m:Int)]/\IE C H x c a A B L/\LC a.length m/\E9 H d C1/\a.length<k +(D0 m a.length).length /\
 ∀b,Sm [c,d] H b->IE C b x c a A B L->E9 b d C1->Q (RJ (M0 A B a.length L k m)) b
set_option maxHeartbeats 4000000 in
theorem w5(T:Tx K mg)(hB:base.BuiltinsAt mg T.aa){n k:Nat}{S:Sp}(h1:7<=n)(g:IP P w K mg base I_ n T.ak.f T.ak.fd ["marks", "held"] S)(hS:∀J,k=J+1->S=Ab T.ab T.aa J) :
  IP P w K mg base I_ (n+1) T.ak.f T.ak.fd ["marks", "held"] (Ab T.ab T.aa k):=by
 have I:IP P w K mg base I_ n T.ax.f T.ax.fd ["marks", "held"] (Ej T.ab):=(Bk T).mono (by omega);have v:IP P w K mg base I_ n T.aA.f T.aA.fd ["marks", "held"] (Cu T.ab):=(d0 T).mono (by omega);have C:IP P w K mg base I_ n T.aq.f T.aq.fd ["marks", "held", "splits"] (Jl T.ab T.aa):=(Z9 T hB).mono h1;have p:IP P w K mg base I_ n T.ac.f T.ac.fd ["self", "some"] (r8 T.ab):=(E6 T).mono (by omega);have sc:=U9;refine T.ak.F.ok U9 (fun vs H Q E h=>?_) (fun cdv A outer s H vs Q E Y h=>?_)
 .obtain⟨x,c,u,A,B,L,m,rfl,_⟩:=h;rfl
 .obtain⟨x,c,u,A,B,L,m,rfl,hM,lo,hT,hk,q⟩:=h;refine⟨_,(B4 (K3 (C6 Iz (C9 T.ax I (Y.mono (Nat.le_refl _)) (A8 (pv 0) (A8 (pv 1) B3))) Bh (D8 _)) (B5 (C2 Bh)) C8)
   (B4 (C5 (i:=2) sc.nd rfl (.inl rfl) (C9 T.aA v (Y.mono (Nat.le_refl _)) (A8 (pv 0) (A8 (pv 1) B3))))
   (B4 (K3 (U7 (RL K (pv 2))) (B5 (C2 (pv 1))) C8)
   (B4 (O4 PassesOwn.never rfl (MZ K (D6 (pv 0) T.ad T.ac.m p (Y.mono (Nat.le_refl _)) T.ac.b .nil J8 (A8 (E7 (QA K) (C9 T.aq C (Y.mono (Nat.le_refl _)) (A8 (pv 0) (A8 (pv 1) (A8 (pv 2) B3)))) B7 (fun _ _=>rfl)) B3))) (D4 (i:=3) sc.nd rfl (.inl rfl))
   (B4 (C5 (i:=4) sc.nd rfl (.inl rfl) (C9 T.ak g (Y.mono (Nat.le_refl _)) (A8 (pv 0) (A8 (C7 Am (pv 1) (pv 3)) B3))))
   (B5 (K3 (C6 Iz (pv 4) Bh (D8 _)) (B5 (C2 (pv 4))) C8))))
   (B5 (C2 Bh)))))),?_⟩
  obtain⟨J,rfl⟩:∃J,k=J+1:=⟨k-1,by have:=M6 m u.length;omega⟩;have eS:=hS J rfl;subst eS;have up:∀{G G':Hp},Sm [c] G G'->Sm [c,T.aa] G G':=fun k b o e n=>k b o e fun z=>n (by rw[AF.mp z];exact .head _);refine B9 fun N1 hN1=>?_;refine A7 rfl (A7 rfl ⟨x,c,u,A,B,L,m,rfl,hM,lo,fun H1 k1 M1=>⟨fun nc=>?_,fun j a s1 s2 s3 N hh ha et=>?_⟩⟩);rotate_left
  .refine⟨rfl,_,rfl,T8 (fun _=>?_) fun z=>absurd (by simp) z⟩;have e:M0 A B u.length L (J+1) m=none:=by
    unfold M0;rw[AK (show X8 B m from⟨j,N,hh⟩)]
   have:=q H1 (up k1) M1 (Y8 hT hM k1);rw[e]at this;exact this
  have Z:¬X8 B m:=fun⟨j,N,hh⟩=>nc j N hh;have T1:=Y8 hT hM k1;refine⟨rfl,_,rfl,T8 (fun z=>absurd z (by simp)) fun _=>hN1 _ _ (B9 fun N2 hN2=>?_)⟩;refine A7 rfl (A7 rfl ⟨x,c,u,A,B,L,m,rfl,M1,lo,fun l R H2 hl k2 M2 el aS mS=>?_⟩);have T2:=Y8 T1 M1 k2;refine hN2 _ _ (B9 fun N3 hN3=>?_);refine A7 rfl ⟨_,.inl ⟨_,IG.of el,rfl⟩,?_⟩;have k02:=up (k1.trans k2);cases O:R with
  | nil =>
   subst O;refine T8 (fun _=>A7 rfl ?_) fun z=>absurd rfl z;have e:M0 A B u.length L (J+1) m=some m:=by
    unfold M0;rw[AJ Z,AK (EY.mp (show y4 A B u.length m = []from mS.symm))]
   have:=q H2 k02 M2 T2;rw[e]at this;exact this
  | cons t0 ts0 =>
   rw[<-O];have U:R≠[]:=by rw[O];exact List.cons_ne_nil _ _
   have dne:I9 A B u.length m≠[]:=fun z=>U (EY.mp (mS.trans (by unfold y4;rw[z];rfl)));have W:M0 A B u.length L (J+1) m =(D0 (K9 A B u.length L m) u.length).findSome? fun j=>M0 A B u.length L J (m ||| 2^j):=by
    conv=>lhs;unfold M0
    rw[AJ Z,AJ dne]
   refine T8 (fun z=>absurd z (by rw[O];exact fun y=>by cases y)) fun _=>hN3 _ _ (B9 fun N4 hN4=>?_);obtain⟨dx,a,b,d,kb,e1,_⟩:=M2.ex;refine A7 rfl ⟨x,dx,A7 rfl ⟨e1,rfl,A7 rfl (A7 rfl (A7 rfl ⟨x,c,l,u,A,B,L,m,R,rfl,M2,el,U,aS,T2,fun H3 k3 M3 T3 S3=>?_⟩))⟩⟩;have hb:=Ao (A:=A) (B:=B) (n:=u.length) (L:=L) (m:=m) (ads:=R.map fun t=>t.2.2.2) (fun z=>U (EY.mp z));rw[AB]at hb;have M:=AC hb;generalize hbi:w8 A B u.length L m (R.map fun t=>t.2.2.2)=bi at hb M⊢;generalize hti:R[bi]=t at M;have ead:K9 A B u.length L m=t.2.2.2:=by
    unfold K9;rw[<-mS,hbi,AQ,AH,M];rfl
   have ev:(R.map fun t=>V.ref t.1).getD bi .non = .ref t.1:=by rw[AQ,AH,M];rfl
   rw[ev];refine⟨t.1,_,C0 rfl rfl ⟨JM.of (S3 t (AM M)).1,rfl,?_⟩⟩;refine⟨x,c,u,A,B,L,t.2.2.2,rfl,M3,fun D H4 hD k4 M4 X=>?_⟩;have T4:=Y8 T3 M3 k4;have k04:Sm [c,T.aa] H H4:=(k02.trans k3).trans (up k4);have nDc:=K5 M4 X;have nDp:=Dk T4 X fun _ y=>by cases y
   rw[ead]at W;refine⟨D,rfl,⟨_,IG.of X⟩,R8 (D:={ nx:=N4,rt:=Q }) (MN (IG.of X)) (fun i σ G=>(∃v3 v4,σ = [some (.ref x),some (.int (m:Int)),some (.ref l),v3,v4])/\Sm [c,T.aa] H4 G/\IE T.ab G x c u A B L/\E9 G T.aa C1/\∀j∈(D0 t.2.2.2 u.length).take i,M0 A B u.length L J (m ||| 2^j)=none) ⟨⟨_,_,rfl⟩,Sm.refl _ _,M4,T4,fun j N=>absurd N BX⟩ (fun i σ G _ h o e=>by rw[X]at e;cases e;exact h.2.1 _ _ X (by simp[nDc,nDp])) ?_ ?_⟩
   .rintro i σ G y hy ⟨⟨v3,v4,rfl⟩,kG,MG,TG,nG⟩ D1 hD1 hrt;rw[AH]at hy;obtain⟨j,N,rfl⟩:=BL.mp hy;obtain⟨hjn,hjb⟩:=JG.mp (AM N);have hjm:=(Bq (L:=L) hM.net dne (by rw[ead];exact hjb)).2;refine Vg fun N5 hN5=>?_;refine A7 rfl (A7 rfl (A7 rfl (C0 rfl rfl ?_)));dsimp only;rw[OX];refine⟨x,c,u,A,B,L,m ||| 2^j,rfl,MG,lo.or hjn,TG,by rw[Kl hjm,AK hjn];omega,fun G1 k1' M1' T1'=>?_⟩;refine hN5 _ _ ?_;cases ho:M0 A B u.length L J (m ||| 2^j)with
    | some r =>
     refine A7 rfl ⟨rfl,_,rfl,T8 (fun _=>A7 rfl ?_) fun z=>absurd (by simp[RJ]) z⟩;have:=q G1 (k04.trans (kG.trans k1')) M1' T1';rw[W,Wy (f:=fun j=>M0 A B u.length L J (m ||| 2^j)) N nG ho]at this;rw[hrt];exact this
    | none =>
     refine A7 rfl ⟨rfl,_,rfl,T8 (fun z=>absurd z (by simp[RJ])) fun _=>hD1 _ _ ⟨⟨_,_,rfl⟩,kG.trans k1',M1',T1',fun j' hj'=>?_⟩⟩;rw[IT N]at hj';rcases A_.mp hj' with z | z
     .exact nG j' z
     .rw[AF.mp z];exact ho
   .rintro σ G ⟨_,kG,MG,TG,nG⟩;rw[AB,CI]at nG;have:=q G (k04.trans kG) MG TG;rw[W,FF.mpr nG]at this;exact hN4 _ _ this
theorem V3(T:Tx K mg)(a:base.BuiltinsAt mg T.aa):∀k,IP P w K mg base I_ (8+k) T.ak.f T.ak.fd ["marks", "held"] (Ab T.ab T.aa k)
 | 0=>w5 (n:=7) T a (by decide) (S:=fun _ _ _ _=>False) ⟨fun _ _ _ _ h=>h.elim,fun _ _ _ _ _ _ _ _ _ _ _ _ _ h=>h.elim⟩ fun b e=>by omega
 | k+1=>w5 (n:=8+k) T a (by omega) (V3 T a k) fun b e=>by cases e;rfl
end
def Va(l:A0 Nat):((l.map fun k=>((2^k:Nat):Int)).sum) =(((l.map fun k=>2^k).sum:Nat):Int):=by
 induction l with
 | nil=>rfl
 | cons k l a=>rw[BB,GX,BB,GX,a];omega
def Bg{ns:A0 Str}{y:Str}(h:y∈ns):ns[ns.idxOf y]?=some y:=by
 have l:=GY.mpr h;rw[AC l,List.getElem_idxOf l]
section
variable{P:F8}{w:H_}{K:PySem.W.Frag}{mg:Str->A6 A3}{base:IA}
theorem V9:IC ["self", "some"] ["self", "some"] (B8 LJ):=JX
def Nd(K:PySem.W.Frag)(C:A4):Sp:=fun f H Q _=>∃(x c a:A4) (d:A0 Str) (A B:A0 Nat) (L:Nat) (b:A0 Str),f = [.ref x,.ref a]/\IE C H x c d A B L/\PF K H a (b.map V.str)/\(∀y∈b,y∈d)/\b.Nodup/\b.length<=100/\∀(m:Nat) e,HY H e->LC d.length m->(∀(j:Nat) y,d[j]?=some y->(m.testBit j=true↔y∈b))->Q (.int (m:Int)) e
theorem Az(T:Tx K mg):IP P w K mg base I_ 1 T.aB.f T.aB.fd ["self", "some"] (Nd K T.ab):=by
 have sc:=V9;refine T.aB.F.ok V9 (fun vs H Q E h=>?_) (fun cdv A U s H vs Q E hr h=>?_)
 .obtain⟨x,c,a,t,A,B,L,u,rfl,_⟩:=h;rfl
 .obtain⟨x,c,a,t,A,B,L,u,rfl,v,ha,sub,nd,W,q⟩:=h;have hu:=Y9 hr;refine⟨_,(B5 (C2 (E8 (Ml K) T.bh Hx (A8 (X0 (N':=["name", "self"]) (cap:=[none,some 0]) (cl:=[("self",_)]) (P9 ⟨⟨rfl,rfl,rfl,rfl⟩,trivial⟩ ⟨rfl,trivial⟩) rfl (piS K (pv 1)) (fun _ _ _ _=>by exact⟨(MI 0),K1,(K7 hu (NJ K (pv 1)) (pv 0) (fun _ _=>rfl))⟩)) B3)))),?_⟩;obtain⟨dx,a',b,d,kb,e1,e2,e3,e4,e5,e6,n1,n2⟩:=v.ex;have I:∀{J:It} (X:St->Hp->Prop),LB J (u.map V.str) a H->∀D,H D=none->(∀σ' G (m:Nat) (i:A0 Int),HY H G->G D=some (.lst (i.map V.int))->i.sum =(m:Int)->LC t.length m->(∀(j:Nat) y,t[j]?=some y->(m.testBit j=true↔y∈u))->X σ' G) ->
    Jx (V7 0) Cb (Cg D (Tw (zDe K (Tr 1) ("bit_of":Str)) (Tr 0))) J [none,some (.ref x)] (IB H D (.lst [])) X:=by
   intro J X Y D l hQ;refine Ea (r:=V.str) (fun y=>I0 (2^t.idxOf y)) Y (fun _=>true) (Nat.le_trans W (by decide)) l (fun y g G C M v=>v G fun b o e=>e) (fun y g G C M v=>?_) fun σ' G C O=>?_
   .have rb:Rd G b (.dK kb):=e3.imp (C _ _) fun⟨o,e⟩=>⟨o,C _ _ e⟩;exact A7 rfl ⟨x,T.ab,dx,_,A7 rfl ⟨C _ _ e1,T.ad,T.a0,rfl,A7 rfl ⟨b,_,rfl,.inl ⟨kb,.inr y,rb,rfl,(e4 _ y (Bg (sub y g))).symm⟩,v⟩⟩⟩
   rw[DU.mpr fun _ _=>rfl]at O;have O:G D=some (.lst (((u.map fun y=>t.idxOf y).map fun k=>((2^k:Nat):Int)).map V.int)):=by rw[O,CB,CB];rfl
   have Z:(u.map fun y=>t.idxOf y).Nodup:=by
    refine CA.mpr (nd.imp_of_mem fun{y z} g R n e=>n ?_);have h1:=Bg (sub y g);rw[e,Bg (sub z R)]at h1;exact(BG h1).symm
   have hb:=Fe Z;refine hQ σ' G _ _ C O (Va _) (fun j S=>?_) fun j y S=>?_
   .obtain⟨y,g,e⟩:=AR.mp ((hb j).mp S);rw[<-e];exact GY.mpr (sub y g)
   .rw[hb,AR];constructor
    .rintro⟨z,R,e⟩;have:=Bg (sub z R);rw[e,S]at this;rw[BG this];exact R
    .intro g;exact⟨y,g,(List.getElem?_inj (GY.mpr (sub y g)) v.nd).mp ((Bg (sub y g)).trans S.symm)⟩
  have N:∀{J:It},LB J (u.map V.str) a H->∀D,H D=none->Jx (V7 0) Cb (Cg D (Tw (zDe K (Tr 1) ("bit_of":Str)) (Tr 0))) J [none,some (.ref x)] (IB H D (.lst [])) fun _ G=>∃(p:A4) (i:A0 Int),[V.ref D] = [.ref p]/\IG K G p (i.map V.int)/\Q (.int i.sum) G:=fun Y D l=>I _ Y D l fun σ' G m i s e es lo b=>⟨D,i,rfl,IG.of e,by rw[es];exact q m G s lo b⟩;exact A7 rfl ⟨a,rfl,ha.elim (fun h=>.inl ⟨⟨_,h⟩,fun D l=>N (MN h) D l⟩) fun h=>.inr ⟨⟨_,h⟩,fun D l=>N (asT h) D l⟩⟩
theorem i9:IC ["marks", "sets", "held"] ["marks", "sets", "held"] (B8 L_):=JX
def Bf(C:A4):Sp:=fun d H Q _=>∃(x c a:A4) (e:A0 Str) (A B:A0 Nat) (L m:Nat),d = [.ref x,.ref a,.int (m:Int)]/\IE C H x c e A B L/\H a=some (.lst [])/\∀l b,H l=none->HY H b->b l=some (.lst [])->Q (.ref l) b
theorem Ds(T:Tx K mg):IP P w K mg base I_ 1 T.aF.f T.aF.fd ["marks", "sets", "held"] (Bf T.ab):=by
 have t:=i9;refine T.aF.F.ok i9 (fun k H Q E h=>?_) (fun l A b s H k Q E o h=>?_)
 .obtain⟨x,c,a,p,A,B,L,m,rfl,_⟩:=h;rfl
 .obtain⟨x,c,a,p,A,B,L,m,rfl,u,j,q⟩:=h;have v:=Y9 o;refine⟨_,(B5 (C2 (X0 (N':=["at", "some", "marks", "held"]) (cap:=[none,none,some 0,some 2]) (cl:=[("marks",_),("held",_)]) (P9 ⟨⟨rfl,rfl,rfl,rfl⟩,⟨⟨rfl,rfl,rfl,rfl⟩,trivial⟩⟩ ⟨rfl,⟨rfl,trivial⟩⟩) rfl (RM K T.aN (A8 (pv 1) B3)) (fun _ _ _ _=>by exact⟨(PR K (n:=2) (E2 (MI 0) (E2 (MI 1) S4))),(W2 (C6 X5 (C7 O9 (pv 3) (pv 1)) (pv 3) (D8 _))),(G0 (A8 (G0 (A8 W1 (A8 (pv 0) B3))) (A8 (C7 Wh (NJ K (pv 2)) (pv 1)) B3)))⟩)))),?_⟩;refine A7 rfl ⟨a,[],rfl,IG.of j,fun D d=>?_⟩;have r:(IB H D (.lst [])) a=some (.lst []):=HY.new d _ _ j;refine As (n:=0) (fun i σ G=>G=IB H D (.lst [])) rfl (fun i σ G g _=>absurd g (FI _)) (fun σ G e=>?_) (fun i σ G y z N g _ _ _=>absurd g (FI _)) fun σ G e=>?_
  .subst e;exact⟨[],IG.of r,rfl⟩
  .subst e;exact q D _ d (HY.new d) A9
theorem R1:IC ["marks", "sets", "held"] ["marks", "sets", "held"] (B8 KB):=JX
def Da(C:A4):Sp:=fun f H Q _=>∃(x c a:A4) (d:A0 Str) (A B:A0 Nat) (L m:Nat),f = [.ref x,.ref a,.int (m:Int)]/\IE C H x c d A B L/\H a=some (.lst [])/\(∀j,m.testBit j=true->j<d.length) /\
 ∀l (e:A0 QN) b,H l=none->Sm [c] H b->IE C b x c d A B L->b l=some (.lst (e.map fun t=>V.ref t.1))->(∀t∈e,JS b t)->(e.map fun t=>t.2.2.2)=y4 A B d.length m->Q (.ref l) b
theorem Q9(T:Tx K mg):IP P w K mg base I_ 5 T.ai.f T.ai.fd ["marks", "sets", "held"] (Da T.ab):=by
 have b:=d0 (P:=P) (w:=w) (base:=base) T;have d:IP P w K mg base I_ 4 T.aF.f T.aF.fd ["marks", "sets", "held"] (Bf T.ab):=(Ds T).mono (by decide);have sc:=R1;refine T.ai.F.ok R1 (fun N H Q E h=>?_) (fun O A n s H N Q E r h=>?_)
 .obtain⟨x,c,a,i,A,B,L,m,rfl,_⟩:=h;rfl
 .obtain⟨x,c,a,i,A,B,L,m,rfl,u,I,R,q⟩:=h;have hu:=Y9 r;refine⟨_,(B5 (C2 (C7 Mv (C9 T.aA b (Rm r) (A8 (pv 0) (A8 (pv 2) B3))) (C9 T.aF d (Rm r) (A8 (pv 0) (A8 (pv 1) (A8 (pv 2) B3))))))),?_⟩;refine A7 rfl (A7 rfl ⟨x,c,i,A,B,L,m,rfl,u,R,fun l g H1 hl v z S U J=>?_⟩);have C:=JR v I (K5 u I);refine A7 rfl (A7 rfl (A7 rfl ⟨x,c,a,i,A,B,L,m,rfl,z,C,fun W X Y e Z=>?_⟩));have lts:g.length<=100:=by
   have M:=congrArg List.length J;unfold y4 I9 at M;rw[AB,AB]at M;have h2:=BP (fun j=>@decide (w4 A m j/\¬w4 B m j) (Classical.propDecidable _)) (List.range i.length);rw[BV]at h2;have:=u.len;omega
  refine⟨l,W,_,_,rfl,rfl,e _ _ S,Z,by rw[AB,sizeLine_eq];show g.length+0<=_;omega,fun p k=>?_⟩;rw[CJ];have G:=HY.new (o:=.lst (g.map fun t=>V.ref t.1)) k;have k3:Sm [c] H (IB X p (.lst (g.map fun t=>V.ref t.1))):=v.trans (e.trans G).sm;have M3:=z.same (e.trans G);exact q p g _ ((v.trans (e.sm (D:=[c]))).none (fun y=>by rw[AF.mp y]at k;exact q0 (z.same e) k) k) k3 M3 A9 (fun t ht=>(U t ht).same (e.trans G)) J
end
def zFq{n:Nat}{a:A0 Nat}(b:a.Nodup)(h:∀m∈a,LC n m):a.length<=2^n:=by
 classical
 have c:a.Perm ((List.range (2^n)).filter fun m=>decide (m∈a)):=(List.perm_ext_iff_of_nodup b (EH.nodup HP)).mpr fun m=>by
  rw[BM,BW,BU];exact⟨fun z=>⟨(h m z).lt,z⟩,(·.2)⟩
 rw[c.length_eq];exact Nat.le_trans (BP _ _) (by rw[BV];exact Nat.le_refl _)
structure Kn(kvs:A0 (IW×V))(n:Nat)(b:Nat->Prop):Prop where
 ks:∃ms:A0 Nat,(kvs.map fun q=>q.1)=ms.map (fun k:Nat=>(.inl (k:Int):IW))/\ms.Nodup/\∀k∈ms,LC n k
 vs:∀(k:Nat) v,U2 kvs (.inl (k:Int))=some v->(v = .non/\b k)\/∃r,v = .ref r
def Kn.len{a:A0 (IW×V)}{n:Nat}{b:Nat->Prop}(h:Kn a n b):a.length<=2^n:=by
 obtain⟨d,e,c,lo⟩:=h.ks;have:=congrArg List.length e;rw[AB,AB]at this;rw[this];exact zFq c lo
def Kn.put{d:A0 (IW×V)}{n k:Nat}{b g:Nat->Prop}{v:V}(h:Kn d n b)(lo:LC n k)(w:(v = .non/\g k)\/∃r,v = .ref r)(p:∀j,j≠k->b j->g j):Kn (By d (.inl (k:Int)) v) n g:=by
 refine⟨?_,fun j u f=>?_⟩
 .obtain⟨i,e,m,o⟩:=h.ks;unfold By;by_cases a:(d.any fun s=>decide (s.1 =(.inl (k:Int):IW)))=true
  .rw[AK a];refine⟨i,?_,m,o⟩;rw[CB,<-e];refine GU fun q _=>?_;show(if q.1 =(.inl (k:Int):IW)then(q.1,v)else q).1=q.1;split<;>rfl
  .rw[AJ a];refine⟨i ++ [k],by rw[AO,e,AO];rfl,DX.mpr ⟨m,HB _ _,fun x t y A z=>a ?_⟩,fun j f=>?_⟩
   .rw[AF.mp A]at z;subst z;have:(.inl (x:Int):IW)∈d.map fun q=>q.1:=e▸AR.mpr ⟨x,t,rfl⟩;obtain⟨q,B,C⟩:=AR.mp this;exact HS.mpr ⟨q,B,BD C⟩
   .rcases A_.mp f with z | z
    .exact o j z
    .rw[AF.mp z];exact lo
 .rw[z8]at f;by_cases c:(.inl (j:Int):IW) = .inl (k:Int)
  .rw[AK c]at f;cases f;have:j=k:=by
    have:=Sum.inl.inj c;omega
   rw[this];exact w
  .rw[AJ c]at f;exact(h.vs j u f).imp (fun⟨z,l⟩=>⟨z,p j (fun z=>c (by rw[z])) l⟩) id
def Nk{C:A4}{H H':Hp}{x c:A4}{ns:A0 Str}{A B:A0 Nat}{L:Nat}(h:IE C H x c ns A B L)(k:∀b o,H b=some o->b≠c->(∀u,o≠ .tbl u)->H' b=some o)(r:Rd H' c (.dK (bK A ns.length))):IE C H' x c ns A B L:=by
 obtain⟨⟨m,a,b,d,n,f,g,p,q,j,s,l,i⟩,t,v,w,D⟩:=h;have E:x≠c:=fun z=>by
  rw[z]at f;rcases j with e | ⟨o,e⟩<;>rw[f]at e<;>cases e
 have F:a≠c:=fun z=>by
  rw[z]at g;rcases j with e | ⟨o,e⟩<;>rw[g]at e<;>cases e
 exact⟨⟨m,a,b,d,n,k _ _ f E (fun _ y=>by cases y),k _ _ g F (fun _ y=>by cases y),p.imp (fun e=>k _ _ e i (fun _ y=>by cases y)) (fun⟨o,e⟩=>⟨o,k _ _ e i (fun _ y=>by cases y)⟩),q,r,k _ _ s l (fun _ y=>by cases y),l,i⟩,t,v,w,D⟩
def Dx{C:A4}{H:Hp}{x c:A4}{ns:A0 Str}{A B:A0 Nat}{L:Nat}(h:IE C H x c ns A B L):Rd H c (.dK (bK A ns.length)):=by
 obtain⟨⟨f,a,b,d,g,i,j,k,l,e,_⟩,_⟩:=h;exact e
def Lm{C:A4}{H G:Hp}{x c d p:A4}{ns:A0 Str}{A B:A0 Nat}{L:Nat}{ls:A0 (Pos×Str)}(h:IE C (Sw.er H d) x c ns A B L)(i:E9 H p ls)(k:Sm [c,p,d] H G)(r:Rd G c (.dK (bK A ns.length))):IE C (Sw.er G d) x c ns A B L:=by
 have a:d≠c:=fun z=>q0 h (by unfold Sw.er;rw[AK z.symm]);refine Nk h (fun b o e j l=>?_) (by unfold Rd;rw[Oa a.symm];exact r);have f:b≠d:=fun z=>by subst z;unfold Sw.er at e;rw[AK rfl]at e;cases e
 rw[Oa f];have g:=Ak H d b o e;refine k b o g fun z=>?_;rcases AU.mp z with z | z
 .exact j z
 rcases AU.mp z with z | z
 .exact Dk i g l z
 .exact f (AF.mp z)
section
variable{P:F8}{w:H_}{K:PySem.W.Frag}{mg:Str->A6 A3}{base:IA}
theorem Cp:IC ["marks", "splits_at", "sets", "held", "known", "head", "added", "trees"] ["marks", "splits_at", "sets", "held", "known"] (B8 NP):=JX
def Et(C i f:A4)(k:Nat):Sp:=fun n H Q _=>∃(x c a d:A4) (b:A0 Str) (A B:A0 Nat) (L m:Nat) (g:A0 (IW×V)) (l:Nat->Prop),n = [.ref x,.ref f,.ref a,.int (m:Int),.ref d]/\IE C (Sw.er H d) x c b A B L/\LC b.length m/\b.length<=12/\E9 H i C1/\H a=some (.lst [])/\H d=some (.dK g)/\(∀j,l j->j<m)/\Kn g b.length l/\b.length<k +(D0 m b.length).length/\M0 A B b.length L k m=none /\
 ∀(r:A4) (e:A0 (IW×V)) h,Sm [c,i,d] H h->Rd h c (.dK (bK A b.length))->E9 h i C1->h d=some (.dK e)->Kn e b.length l->Q (.ref r) h
set_option maxHeartbeats 4000000 in
theorem Ku(T:Tx K mg)(hB:base.BuiltinsAt mg T.aa){n k:Nat}{f:A4}{fd:IU}{S:Sp}(h1:7<=n)(R:IP P w K mg base I_ n f fd ["marks", "sets", "held"] (Da T.ab))(I:PySem.W.keepIn K (.ref f)=true)(J:Binds K fd ["marks", "sets", "held"] [])
  (X:IP P w K mg base I_ n T.aw.f T.aw.fd ["marks", "splits_at", "sets", "held", "known"] S) (hS:∀k',k=k'+1->S=Et T.ab T.aa f k') :
  IP P w K mg base I_ (n+1) T.aw.f T.aw.fd ["marks", "splits_at", "sets", "held", "known"] (Et T.ab T.aa f k):=by
 have U:IP P w K mg base I_ n T.ax.f T.ax.fd ["marks", "held"] (Ej T.ab):=(Bk T).mono (by omega);have M:IP P w K mg base I_ n T.aq.f T.aq.fd ["marks", "held", "splits"] (Jl T.ab T.aa):=(Z9 T hB).mono h1;have g:IP P w K mg base I_ n T.ac.f T.ac.fd ["self", "some"] (r8 T.ab):=(E6 T).mono (by omega);have sc:=Cp;refine T.aw.F.ok Cp (fun vs H Q E h=>?_) (fun cdv A outer s H vs Q E hr h=>?_)
 .obtain⟨x,c,a,d,C,A,B,L,m,kvs,bp,rfl,_⟩:=h;rfl
 .obtain⟨x,c,a,d,C,A,B,L,m,kvs,bp,rfl,hR,lo,l12,hT,ha,hd,hbp,hK,hk,hs,q⟩:=h;have hu:=Y9 hr;refine⟨_,(B4 (K3 (zCh (Rb hu (pv 3) (pv 4))) (B5 (Po hu (pv 4) (pv 3) (C9 T.ax U (hr.mono (Nat.le_refl _)) (A8 (pv 0) (A8 (pv 3) B3))) rfl)) C8)
   (B4 (K3 (C6 zCw (K7 hu (pv 4) (pv 3) (fun _ _=>rfl)) Bh (D8 _)) (B4 (Cv (C9 T.aq M (hr.mono (Nat.le_refl _)) (A8 (pv 0) (A8 (pv 3) (A8 (Vf (i:=1) R (hr.mono (Nat.le_refl _)) I J J8 (A8 (pv 0) (A8 (pv 2) (A8 (pv 3) B3)))) B3)))) (PR K (n:=2) (E2 (D4 (i:=5) sc.nd rfl (.inl rfl)) (E2 (D4 (i:=6) sc.nd rfl (.inl rfl)) S4))))
   (B4 (Lg (i:=7) (N':=["bit", "marks", "splits_at", "sets", "known", "held"]) (cap:=[none,some 0,some 1,some 2,some 4,some 3]) (cl:=[("splits_at",_),("sets",_),("marks",_),("known",_),("held",_)]) sc.nd rfl (.inl rfl) (P9 ⟨⟨rfl,rfl,rfl,rfl⟩,⟨⟨rfl,rfl,rfl,rfl⟩,⟨⟨rfl,rfl,rfl,rfl⟩,⟨⟨rfl,rfl,rfl,rfl⟩,⟨⟨rfl,rfl,rfl,rfl⟩,trivial⟩⟩⟩⟩⟩ ⟨rfl,⟨rfl,⟨rfl,⟨rfl,⟨rfl,trivial⟩⟩⟩⟩⟩) rfl (MZ K (D6 (pv 0) T.ad T.ac.m g (hr.mono (Nat.le_refl _)) T.ac.b .nil J8 (A8 (pv 6) B3))) (fun _ _ _ _=>by exact⟨(MI 0),K1,(C9 T.aw X (hr.mono (Nat.le_refl _)) (@A8 _ _ _ _ _ (pv 1) (@A8 _ _ _ _ _ (pv 2) (@A8 _ _ _ _ _ (pv 3) (@A8 _ _ _ _ _ (C7 Am (pv 5) (pv 0)) (@A8 _ _ _ _ _ (pv 4) B3 (by rfl)) (by rfl)) (by rfl)) (by rfl)) (by rfl)))⟩))
   (B5 (Po hu (pv 4) (pv 3) (C7 (Xd K) (pv 5) (G0 (A8 (o0 (Kx K) T.bf z7 (A8 (pv 7) B3)) B3))) rfl)))) C8)
   (B5 (C2 (K7 hu (pv 4) (pv 3) (fun _ _=>rfl)))))),?_⟩
  obtain⟨k',rfl⟩:∃k',k=k'+1:=⟨k-1,by have:=M6 m C.length;omega⟩;have eS:=hS k' rfl;subst eS;have p12:2^C.length<=2^12:=Nat.pow_le_pow_right (by decide) l12;have hM:=hR.same (Ak H d);have ndc:d≠c:=fun z=>q0 hR (by unfold Sw.er;rw[AK z.symm]);have up:∀{G Y:Hp},Sm [c] G Y->Sm [c,T.aa,d] G Y:=fun k b o e n=>k b o e fun z=>n (by rw[AF.mp z];exact .head _);have upd_:∀{G:Hp} {o:HO},Sm [c,T.aa,d] G (IB G d o):=fun{G o} b u e n=>by
   rw[B6 fun z=>n (by rw[z];exact .tail _ (.tail _ (.head _)))];exact e
  have tabU:∀{G:Hp} {o:HO} {O:A0 (IW×V)},G d=some (.dK O)->E9 G T.aa C1->E9 (IB G d o) T.aa C1:=fun{G o O} e h=>by
   obtain⟨ps,e1,t,h2⟩:=h;exact⟨ps,(B6 (R9 e1 e (by intro y;cases y))).trans e1,t,fun l hl=>(h2 l hl).imp id fun⟨cc,e,hc⟩=>⟨cc,e,(B6 (R9 hc (by assumption) (by intro y;cases y))).trans hc⟩⟩
  have rdU:∀{G:Hp} {o:HO},Rd G c (.dK (bK A C.length))->Rd (IB G d o) c (.dK (bK A C.length)):=fun{G o} r=>by unfold Rd;rw[B6 ndc.symm];exact r
  refine B9 fun N1 hN1=>?_;have key:∀(G:Hp) (O:A0 (IW×V)) (v:V),Sm [c,T.aa,d] H G->Rd G c (.dK (bK A C.length))->E9 G T.aa C1->G d=some (.dK O)->Kn O C.length (fun j=>bp j\/j=m)->U2 O (.inl (m:Int))=some v->((v = .non/\¬X8 B m)\/∃r,v = .ref r)->N1 [some (.ref x),some (.ref f),some (.ref a),some (.int (m:Int)),some (.ref d),none,none,none] G:=by
   intro G O v kG rG TG ed KG ev hv;refine hN1 _ _ (B9 fun N2 hN2=>?_);have get:∀{G:Hp} {O:A0 (IW×V)} {v:V},G d=some (.dK O)->U2 O (.inl (m:Int))=some v->NA G d (.int (m:Int)) (some v):=fun{G O v} e h=>.inl ⟨O,.inl (m:Int),.inl e,rfl,h.symm⟩;have fin:∀(G:Hp) (O:A0 (IW×V)) (r:A4) (v5 v6 v7:A6 V),Sm [c,T.aa,d] H G->Rd G c (.dK (bK A C.length))->E9 G T.aa C1->G d=some (.dK O)->Kn O C.length bp->U2 O (.inl (m:Int))=some (.ref r)->N2 [some (.ref x),some (.ref f),some (.ref a),some (.int (m:Int)),some (.ref d),v5,v6,v7] G:=fun G O r v5 v6 v7 kG rG TG ed KG ev=>hN2 _ _ (A7 rfl (A7 rfl ⟨d,_,rfl,get ed ev,q r O G kG rG TG ed KG⟩));refine A7 rfl (A7 rfl ⟨d,v,rfl,get ed ev,?_⟩);rcases hv with⟨rfl,nc⟩ | ⟨r,rfl⟩;rotate_left
   .refine⟨rfl,_,rfl,T8 (fun z=>absurd z (by simp)) fun _=>fin G O r _ _ _ kG rG TG ed ⟨KG.ks,fun j u hj=>?_⟩ ev⟩;rcases KG.vs j u hj with⟨e,l | rfl⟩ | h
    .exact .inl ⟨e,l⟩
    .rw[ev,e]at hj;cases hj
    .exact .inr h
   refine⟨rfl,_,rfl,T8 (fun _=>?_) fun z=>absurd (by simp) z⟩;have MeG:=Lm hR hT kG rG;have MG:=MeG.same (Ak G d);have ne3:∀{b:A4} {xs:A0 V},H b=some (.lst xs)->b∉[c,T.aa,d]:=fun{b xs} e z=>by
    rcases AU.mp z with z | z
    .exact K5 hM e z
    rcases AU.mp z with z | z
    .exact Dk hT e (fun _ y=>by cases y) z
    .rw[AF.mp z,hd]at e;cases e
   have haG:=kG _ _ ha (ne3 ha);have dne:I9 A B C.length m≠[]:=fun z=>by
    unfold M0 at hs;rw[AJ nc,AK z]at hs;cases hs
   have kids:∀j∈D0 (K9 A B C.length L m) C.length,M0 A B C.length L k' (m ||| 2^j)=none:=by
    unfold M0 at hs;rw[AJ nc,AJ dne]at hs;exact FF.mp hs
   refine B9 fun N3 hN3=>?_;refine A7 rfl (A7 rfl ⟨rfl,A7 rfl (A7 rfl (A7 rfl ⟨x,c,a,C,A,B,L,m,rfl,MG,haG,lo,fun l ts H2 hl k2 M2 el aS mS=>?_⟩))⟩);have T2:=Y8 TG MG k2;have hne:ts≠[]:=fun z=>dne (EY.mp (show(I9 A B C.length m).map _ = []from mS.symm.trans (by rw[z];rfl)));refine⟨x,c,l,C,A,B,L,m,ts,rfl,M2,el,hne,aS,T2,fun H3 k3 M3 T3 S3=>?_⟩;have hb:=Ao (A:=A) (B:=B) (n:=C.length) (L:=L) (m:=m) (ads:=ts.map fun t=>t.2.2.2) (fun z=>hne (EY.mp z));rw[AB]at hb;have hb2:=AC hb;generalize hbi:w8 A B C.length L m (ts.map fun t=>t.2.2.2)=bi at hb hb2⊢;generalize hti:ts[bi]=t at hb2;have ead:K9 A B C.length L m=t.2.2.2:=by
    unfold K9;rw[<-mS,hbi,AQ,AH,hb2];rfl
   have ev2:(ts.map fun t=>V.ref t.1).getD bi .non = .ref t.1:=by rw[AQ,AH,hb2];rfl
   rw[ev2];obtain⟨et,eh,lh⟩:=S3 t (AM hb2);refine⟨t.1,_,rfl,JM.of et,rfl,_,_,rfl,_,_,rfl,rfl,?_⟩;rw[ead]at kids;refine hN3 _ _ (B9 fun N4 hN4=>?_);obtain⟨dx,a',b,d',kb,e1,_⟩:=M3.ex;refine A7 rfl ⟨x,dx,A7 rfl ⟨e1,rfl,A7 rfl ⟨x,c,C,A,B,L,t.2.2.2,rfl,M3,fun D H4 hD k4 M4 eD=>?_⟩⟩⟩;have T4:=Y8 T3 M3 k4;have up2:∀{G Y:Hp},Sm [c,T.aa] G Y->Sm [c,T.aa,d] G Y:=fun k b o e n=>k b o e fun z=>n (by
    rcases AU.mp z with z | z
    .rw[z];exact .head _
    .rw[AF.mp z];exact .tail _ (.head _))
   have kG4:Sm [c,T.aa,d] G H4:=((up k2).trans (up2 k3)).trans (up k4);have ed4:H4 d=some (.dK O):=by
    have nd2:d∉[c]:=fun z=>ndc (AF.mp z);have ndp:d≠T.aa:=Dk TG ed fun _ y=>by cases y
    exact k4 _ _ (k3 _ _ (k2 _ _ ed nd2) (by simp[ndc,ndp])) nd2
   have rd4:=Dx M4;have nDc:=K5 M4 eD;have nDp:=Dk T4 eD fun _ y=>by cases y
   have nDd:D≠d:=R9 eD ed4 (by intro y;cases y);have eh4:=JR k4 eh (i7 M3 eh);have nhc:=i7 M4 eh4;have nhp:=Dk T4 eh4 fun _ y=>by cases y
   have nhd:t.2.1≠d:=R9 eh4 ed4 (by intro y;cases y);refine⟨D,rfl,⟨_,IG.of eD⟩,fun Z hZ=>?_⟩;have nZc:c≠Z:=fun z=>by
    rcases rd4 with e | ⟨o,e⟩<;>rw[z,hZ]at e<;>cases e
   have nZd:d≠Z:=B0 ed4 hZ;have kH4:Sm [c,T.aa,d] H H4:=kG.trans kG4;have sZ:=HY.new (o:=.lst []) hZ;have lb:(D0 t.2.2.2 C.length).length<=12:=Nat.le_trans (M6 ..) l12;refine Y3 (MN (IG.of eD)) (fun i σ Y=>(∃v0,σ = [v0,some (.ref x),some (.ref f),some (.ref a),some (.ref d),some (.int (m:Int))])/\Sm [c,T.aa,d] H4 Y/\Rd Y c (.dK (bK A C.length))/\E9 Y T.aa C1/\(∃rs:A0 A4,rs.length=i/\Y Z=some (.lst (rs.map V.ref)))/\∃kv',Y d=some (.dK kv')/\Kn kv' C.length fun j=>bp j\/j=m) ⟨⟨_,rfl⟩,sZ.sm,rd4.imp (sZ _ _) (fun⟨o,e⟩=>⟨o,sZ _ _ e⟩),Y8 T4 M4 (sZ.sm (D:=[c])),⟨[],rfl,A9⟩,O,sZ _ _ ed4,KG⟩ (fun i σ Y _ h o e=>by rw[eD]at e;cases e;exact h.2.1 _ _ eD (by simp[nDc,nDp,nDd])) ?_ ?_
   .rintro i σ Y y N hx ⟨⟨v0,rfl⟩,kG',rG',TG',⟨rs,lrs,eZ⟩,kv',ed',K'⟩ hN;have li:=(AG.mp hx).1;rw[AB]at li;rw[AH]at hx;obtain⟨j,hj,rfl⟩:=BL.mp hx;have mj:=AM hj;obtain⟨hjn,hjb⟩:=JG.mp mj;have hjm:=(Bq (L:=L) hM.net dne (by rw[ead];exact hjb)).2;have gt:m<m ||| 2^j:=FD Nat.left_le_or fun z=>hjm (by
     have:=(U4 m j j).mpr (.inr rfl);rw[<-z]at this;exact this)
    refine Mc ?_;refine A7 rfl (A7 rfl (A7 rfl (A7 rfl (A7 rfl (C0 rfl rfl ?_)))));dsimp only;rw[OX];have kHG':=kH4.trans kG';refine A7 rfl ⟨x,c,a,d,C,A,B,L,m ||| 2^j,kv',_,rfl,Lm hR hT kHG' rG',lo.or hjn,l12,TG',kHG' _ _ ha (ne3 ha),ed',fun i hi=>?_,K',by rw[Kl hjm,AK hjn];omega,kids j mj,fun r kv2 G2 k2' r2 T2' ed2 K2=>?_⟩
    .rcases hi with h | rfl
     .exact Nat.lt_trans (hbp i h) gt
     .exact gt
    have nZ3:Z∉[c,T.aa,d]:=fun z=>by
     rcases AU.mp z with z | z
     .exact nZc z.symm
     rcases AU.mp z with z | z
     .obtain⟨ps,e,_⟩:=T4;rw[<-z,hZ]at e;cases e
     .exact nZd (AF.mp z).symm
    have eZ2:=k2' _ _ eZ nZ3;refine⟨_,eZ2,by rw[AB,sizeLine_eq];omega,hN _ _ ⟨⟨_,rfl⟩,fun b o e n=>?_,?_,?_,⟨rs ++ [r],by rw[AV,lrs];rfl,by rw[A9,AO];rfl⟩,kv2,by rw[B6 nZd];exact ed2,K2⟩⟩
    .rw[B6 (B0 e hZ)];exact(kG'.trans k2') b o e n
    .unfold Rd;rw[B6 nZc];exact r2
    .obtain⟨ps,e1,tr,h2⟩:=T2';exact⟨ps,(B6 (R9 e1 eZ2 (by intro y;cases y))).trans e1,tr,fun l hl=>(h2 l hl).imp id fun⟨cc,e,hc⟩=>⟨cc,e,(B6 (R9 hc eZ2 (by intro y;cases y))).trans hc⟩⟩
   .rintro σ Y ⟨_,kG',rG',TG',⟨rs,lrs,eZ⟩,kv',ed',K'⟩;rw[AB]at lrs;refine hN4 _ _ ?_;have eh5:=kG' _ _ eh4 (by simp[nhc,nhp,nhd]);refine A7 rfl (A7 rfl ⟨Z,_,rfl,.inl ⟨IG.of eZ,fun l2 hl2=>?_⟩⟩);refine⟨by show 1<=sizeLine;decide,fun p hp=>?_⟩;have u1:=HY.new (o:=.tup (rs.map V.ref)) hl2;have u2:=HY.new (o:=.tup [.ref l2]) hp;have s12:=u1.trans u2;have eh6:=s12 _ _ eh5;have last:∀(G2:Hp) (r:A4),HY (IB (IB Y l2 (.tup (rs.map V.ref))) p (.tup [.ref l2])) G2->∃H5,zDc G2 d (.int (m:Int)) (.ref r) H5/\∀v5 v6 v7,N2 [some (.ref x),some (.ref f),some (.ref a),some (.int (m:Int)),some (.ref d),v5,v6,v7] H5:=fun G2 r sG2=>by
     have sG:=s12.trans sG2;have ed2:=sG _ _ ed';refine⟨_,.inl ⟨kv',.inl (m:Int),ed2,rfl,by have:=K'.len;rw[sizeLine_eq];omega,rfl⟩,fun v5 v6 v7=>?_⟩;refine fin _ _ r v5 v6 v7 ((kH4.trans kG').trans (sG.sm.trans upd_)) (rdU (rG'.imp (sG _ _) fun⟨o,e⟩=>⟨o,sG _ _ e⟩)) (tabU ed2 ?_) A9 (K'.put lo (.inr ⟨r,rfl⟩) fun j nj hj=>hj.resolve_right nj) (by rw[z8,AK rfl]);obtain⟨ps,e1,tr,h2⟩:=TG';exact⟨ps,sG _ _ e1,tr,fun l hl=>(h2 l hl).imp id fun⟨cc,e,hc⟩=>⟨cc,e,sG _ _ hc⟩⟩
    refine⟨t.2.1,p,_,_,rfl,rfl,JM.of eh6,JM.of A9,List.cons_ne_nil _ _,by rw[AB,sizeLine_eq];show t.2.2.1.length+1<=_;omega,fun _=>?_,fun _ z hz=>?_⟩
    .obtain⟨H5,hp5,hn⟩:=last _ p (HY.refl _);exact A7 rfl (A7 rfl ⟨d,H5,rfl,hp5,hn _ _ _⟩)
    .obtain⟨H5,hp5,hn⟩:=last _ z (HY.new hz);exact A7 rfl (A7 rfl ⟨d,H5,rfl,hp5,hn _ _ _⟩)
  have kn1:Kn kvs C.length fun j=>bp j\/j=m:=⟨hK.ks,fun j u hj=>(hK.vs j u hj).imp (fun h=>⟨h.1,.inl h.2⟩) id⟩;refine A7 rfl (A7 rfl ⟨d,_,rfl,.inl ⟨kvs,.inl (m:Int),.inl hd,rfl,rfl⟩,?_⟩);refine⟨_,rfl,T8 (fun z=>?_) fun z=>?_⟩
  .have putd:∀(H1:Hp) (v:V),Sm [c] H H1->IE T.ab H1 x c C A B L->((v = .non/\¬X8 B m)\/∃r,v = .ref r)->∃H5,zDc H1 d (.int (m:Int)) v H5/\N1 [some (.ref x),some (.ref f),some (.ref a),some (.int (m:Int)),some (.ref d),none,none,none] H5:=fun H1 v k1 M1 hv=>by
    have ed1:=JR k1 hd ndc;refine⟨_,.inl ⟨kvs,.inl (m:Int),ed1,rfl,by have:=hK.len;rw[sizeLine_eq];omega,rfl⟩,?_⟩;exact key _ _ v ((up k1).trans upd_) (rdU (Dx M1)) (tabU ed1 (Y8 hT hM k1)) A9 (kn1.put lo (hv.imp (fun h=>⟨h.1,.inr rfl⟩) id) fun j _ h=>h) (by rw[z8,AK rfl]) hv
   refine A7 rfl (A7 rfl ⟨x,c,C,A,B,L,m,rfl,hM,lo,fun H1 k1 M1=>⟨fun nc=>?_,fun j a' s1 s2 s3 hj hh _ et=>?_⟩⟩)
   .obtain⟨H5,hp,hn⟩:=putd H1 .non k1 M1 (.inl ⟨rfl,fun⟨j,h1,h2⟩=>nc j h1 h2⟩);exact A7 rfl (A7 rfl ⟨d,H5,rfl,hp,hn⟩)
   .obtain⟨H5,hp,hn⟩:=putd H1 (.ref a') k1 M1 (.inr ⟨a',rfl⟩);exact A7 rfl (A7 rfl ⟨d,H5,rfl,hp,hn⟩)
  .cases hv:U2 kvs (.inl (m:Int))with
   | none =>
    rw[hv]at z;exact absurd rfl z
   | some v =>
    refine key H kvs v (Sm.refl _ _) (Dx hM) hT hd kn1 hv ?_;rcases hK.vs m v hv with⟨_,l⟩ | h
    .exact absurd (hbp m l) (CQ _)
    .exact .inr h
theorem Db(T:Tx K mg)(a:base.BuiltinsAt mg T.aa):∀k,IP P w K mg base I_ (8+k) T.aw.f T.aw.fd ["marks", "splits_at", "sets", "held", "known"] (Et T.ab T.aa T.ai.f k)
 | 0=>Ku (n:=7) T a (by decide) ((Q9 T).mono (by decide)) T.ai.F.kp T.ai.b (S:=fun _ _ _ _=>False) ⟨fun _ _ _ _ h=>h.elim,fun _ _ _ _ _ _ _ _ _ _ _ _ _ h=>h.elim⟩ fun c e=>by omega
 | k+1=>Ku (n:=8+k) T a (by omega) ((Q9 T).mono (by omega)) T.ai.F.kp T.ai.b (Db T a k) fun c e=>by cases e;rfl
end
section
variable{A A' B B':A0 Nat}{n L L':Nat}
theorem Bv(h:∀i,A.getD i 0=A'.getD i 0):w4 A=w4 A':=funext fun m=>funext fun j=>by unfold w4;simp only[h]
theorem Co(a:∀i,A.getD i 0=A'.getD i 0)(b:∀i,B.getD i 0=B'.getD i 0):I9 A B=I9 A' B':=funext fun n=>funext fun m=>by unfold I9;rw[Bv a,Bv b]
theorem Xy(a:∀i,A.getD i 0=A'.getD i 0)(b:∀i,B.getD i 0=B'.getD i 0):y4 A B=y4 A' B':=funext fun n=>funext fun m=>by unfold y4;rw[Co a b];exact GU fun j _=>a j
theorem Vp(a:∀i,A.getD i 0=A'.getD i 0)(b:∀i,B.getD i 0=B'.getD i 0):Jn A B=Jn A' B':=funext fun n=>funext fun l=>funext fun m=>funext fun ad=>by unfold Jn Hh;rw[Bv a,Bv b]
theorem Qm(a:∀i,A.getD i 0=A'.getD i 0)(b:∀i,B.getD i 0=B'.getD i 0):K9 A B=K9 A' B':=funext fun n=>funext fun l=>funext fun m=>by unfold K9 w8;rw[Xy a b,Vp a b]
theorem He(b:∀i,A.getD i 0=A'.getD i 0)(a:∀i,B.getD i 0=B'.getD i 0):∀k,M0 A B n L k=M0 A' B' n L k
 | 0=>rfl
 | k+1=>funext fun m=>by
  unfold M0;rw[He b a k,Qm b a,Co b a,show X8 B=X8 B' from funext fun m=>by unfold X8;rw[Bv a]]
end
section
variable{P:F8}{w:H_}{K:PySem.W.Frag}{mg:Str->A6 A3}{base:IA}
theorem U5:IC ["web", "some", "marks", "held", "found"] ["web", "some"] (B8 KR):=JX
def Si(K:PySem.W.Frag)(h d:A4):Sp:=fun i H Q _=>∃(g a:A4) (b:A0 Str) (f:A0 JD) (e:A0 Str),i = [.ref g,.ref a]/\JL h H g b f/\b.length<=12/\PF K H a (e.map V.str)/\(∀y∈e,y∈b)/\e.Nodup/\e.length<=100/\E9 H d C1 /\
 ∀(A B:A0 Nat) (L m:Nat),MB b ((f.map fun q=>q.2).map fun k=>(k.2,k.1)) A->MB b (f.map fun q=>q.2) B->(∀j,L.testBit j=true↔(A.getD j 0).testBit j=true)->LC b.length m->(∀(j:Nat) y,b[j]?=some y->(m.testBit j=true↔y∈e)) ->
  (∀r,M0 A B b.length L 13 m=some r->∀t l c,Sm [d] H c->E9 c d C1->H t=none->H l=none->c t=some (.tup [.str "told",.ref l])->c l=some (.lst ((IQ b r).map V.str))->Q (.ref t) c) /\
  (M0 A B b.length L 13 m=none->∀t l c,Sm [d] H c->E9 c d C1->H t=none->c t=some (.tup [.str "none",.ref l])->Q (.ref t) c)
set_option maxHeartbeats 4000000 in
theorem w9(T:Tx K mg)(hB:base.BuiltinsAt mg T.aa):IP P w K mg base I_ 22 T.ap.f T.ap.fd ["web", "some"] (Si K T.af T.aa):=by
 have g:=Eg (P:=P) (w:=w) (base:=base) T;have u:=Az (P:=P) (w:=w) (base:=base) T;have j:=S7 (P:=P) (w:=w) (base:=base) T;have p:IP P w K mg base I_ 21 T.ak.f T.ak.fd ["marks", "held"] (Ab T.ab T.aa 13):=V3 T hB 13;have D:IP P w K mg base I_ 21 T.aw.f T.aw.fd ["marks", "splits_at", "sets", "held", "known"] (Et T.ab T.aa T.ai.f 13):=Db T hB 13;have sc:=U5;refine T.ap.F.ok U5 (fun vs H Q E h=>?_) (fun cdv A outer s H vs Q E R h=>?_)
 .obtain⟨wb,a,M,qs,ss,rfl,_⟩:=h;rfl
 .obtain⟨wb,a,M,qs,ss,rfl,hW,l12,ha,sub,nd,len,hT,q⟩:=h;refine⟨_,(B4 (C5 (i:=2) sc.nd rfl (.inl rfl) (Qr T.bD g (Rm R) rfl T.bC T.bn .nil J8 (A8 (pv 0) B3)))
   (B4 (C5 (i:=3) sc.nd rfl (.inl rfl) (D6 (pv 2) T.ad T.aB.m u (Rm R) T.aB.b .nil J8 (A8 (pv 1) B3)))
   (B4 (C5 (i:=4) sc.nd rfl (.inl rfl) (C9 T.ak p (Rm R) (A8 (pv 2) (A8 (pv 3) B3))))
   (B4 (K3 (C6 Iz (pv 4) Bh (D8 _)) (B5 (C2 (G0 (A8 W1 (A8 (D6 (pv 2) T.ad T.al.m j (Rm R) T.al.b .nil J8 (A8 (pv 4) B3)) B3))))) C8)
   (B5 (C2 (G0 (A8 W1 (A8 (C9 T.aw D (Rm R) (@A8 _ _ _ _ _ (pv 2) (@A8 _ _ _ _ _ (zDq T.ai.m) (@A8 _ _ _ _ _ (M8 B3) (@A8 _ _ _ _ _ (pv 3) (@A8 _ _ _ _ _ Uv B3 (by rfl)) (by rfl)) (by rfl)) (by rfl)) (by rfl))) B3))))))))),?_⟩
  have C:∀{G G':Hp},HY G G'->E9 G T.aa C1->E9 G' T.aa C1:=fun{G G'} k ⟨ps,e,t,h⟩=>⟨ps,k _ _ e,t,fun l hl=>(h l hl).imp id fun⟨c,e,hc⟩=>⟨c,e,k _ _ hc⟩⟩;refine B9 fun N1 hN1=>?_;refine A7 rfl ?_;intro x dx nx ndx nex;have s0:HY H (IB (IB H dx (.own x)) x (.ins T.ab dx [])):=fun b o e=>by
   rw[B6 (B0 e nx),B6 (B0 e ndx)];exact e
  refine⟨x,dx,wb,M,qs,rfl,A9,hW.same s0,fun c A B L H1 hc k1 X mA mB=>⟨rfl,?_⟩⟩;have s1:HY H H1:=fun b o e=>k1 b o (s0 b o e) (by simpa using B0 e nx);have S:H c=none:=s0.free hc;refine hN1 _ _ (B9 fun N2 hN2=>?_);obtain⟨dx1,a1,b1,d1,kb1,e1,_⟩:=X.ex;refine A7 rfl ⟨x,dx1,A7 rfl ⟨e1,rfl,A7 rfl ⟨x,c,a,M,A,B,L,ss,rfl,X,(s1.at a).seq ha,sub,nd,len,fun m H2 s2 lo hm=>?_⟩⟩⟩;have M2:=X.same s2;have T2:=C (s1.trans s2) hT;refine hN2 _ _ (B9 fun N3 hN3=>?_);refine A7 rfl (A7 rfl ⟨x,c,M,A,B,L,m,rfl,M2,lo,T2,by omega,fun H3 k3 M3 Y=>?_⟩);obtain⟨q1,q2⟩:=q A B L m mA mB X.loops lo hm;have J:Sm [T.aa] H H3:=fun b o e n=>k3 b o (s2 _ _ (s1 _ _ e)) fun z=>by
   rcases AU.mp z with z | z
   .rw[z,S]at e;cases e
   .exact n z
  have I:∀{G:Hp} {z:A4},Sm [T.aa] H G->E9 G T.aa C1->G z=none->H z=none:=fun{G z} k t U=>k.none (fun y=>by
   obtain⟨ps,e,_⟩:=t;rw[AF.mp y,e]at U;cases U) U
  refine hN3 _ _ (B9 fun N4 hN4=>?_);cases ho:M0 A B M.length L 13 m with
  | some r =>
   refine A7 rfl ⟨rfl,_,rfl,T8 (fun _=>?_) fun z=>absurd (by simp[RJ]) z⟩;obtain⟨dx3,a3,b3,d3,kb3,e3,_⟩:=M3.ex;refine A7 rfl ⟨x,dx3,A7 rfl ⟨e3,rfl,A7 rfl ⟨x,c,M,A,B,L,r,rfl,M3,fun l H4 hl s4 el=>?_⟩⟩⟩;refine⟨by show 2<=sizeLine;decide,fun t V=>?_⟩;have N:=HY.new (o:=.tup [.str "told",.ref l]) V;have s5:=s4.trans N;have T4:=C s4 Y;exact q1 r ho t l _ (J.trans s5.sm) (C N T4) (I (J.trans s4.sm) T4 V) (I J Y hl) A9 (N _ _ el)
  | none =>
   refine A7 rfl ⟨rfl,_,rfl,T8 (fun z=>absurd z (by simp[RJ])) fun _=>hN4 _ _ ?_⟩;refine A7 rfl ⟨CF _,fun z U=>A7 rfl fun d Z=>?_⟩;have O:=HY.new (o:=.lst []) U;have ez:(IB H3 z (.lst [])) z=some (.lst []):=A9;generalize IB H3 z (.lst [])=H4 at O ez Z⊢;have ud:=HY.new (o:=.dK []) Z;have M4:=M3.same O;have Me:IE T.ab (Sw.er (IB H4 d (.dK [])) d) x c M A B L:=by
    rw[Pm];exact M4.same fun b o e=>by rw[Oa (B0 e Z)];exact e
   have T5:=C (O.trans ud) Y;refine⟨x,c,z,d,M,A,B,L,m,[],fun _=>False,rfl,Me,lo,l12,T5,ud _ _ ez,A9,fun _ h=>h.elim,⟨⟨[],rfl,FY,fun k h=>absurd h BX⟩,fun k v h=>by cases h⟩,by omega,ho,fun r kvs' H6 k6 r6 T6 ed6 K6=>?_⟩;refine⟨by show 2<=sizeLine;decide,fun t V=>?_⟩;have N:=HY.new (o:=.tup [.str "none",.ref r]) V;have hdH:H d=none:=I (J.trans O.sm) (C O Y) Z;have W:Sm [T.aa] H H6:=fun b o e n=>k6 b o (ud _ _ (O _ _ (J b o e n))) fun z=>by
    rcases AU.mp z with z | z
    .rw[z,S]at e;cases e
    rcases AU.mp z with z | z
    .exact n (by rw[z];exact .head _)
    .rw[AF.mp z,hdH]at e;cases e
   exact q2 ho t r _ (W.trans N.sm) (C N T6) (I W T6 V) A9
end
def zEw{ns b:A0 Str}{z:Str}{i j m:Nat}(d:ns.Nodup)(hz:b[i]?=some z)(c:ns[j]?=some z)(f:∀(j:Nat) y,ns[j]?=some y->(m.testBit j=true↔y∈b.take i))(k:Nat)(y:Str)(a:ns[k]?=some y):(m ||| 2^j).testBit k=true↔y∈b.take (i+1):=by
 rw[U4,f k y a,IT hz,A_,AF];refine or_congr Iff.rfl ⟨fun e=>?_,fun e=>?_⟩
 .rw[e,c]at a;exact(BG a).symm
 .rw[e]at a;exact(List.getElem?_inj (AG.mp a).1 d).mp (a.trans c.symm)
section
variable{P:F8}{w:H_}{K:PySem.W.Frag}{mg:Str->A6 A3}{base:IA}
theorem Y0:IC ["_law_view", "_law_some_here", "_law_mask", "_law_name"] ["_law_view", "_law_some_here"] (B8 LP):=JX
def Qn(K:PySem.W.Frag):Sp:=fun d H Q _=>∃(p v a:A4) (b:A0 Str) (e:A0 (Str×Str)) (A B:A0 Nat) (c:A0 Str),d = [.ref v,.ref a]/\I7 H p v b e A B/\b.Nodup/\b.length<=100/\PF K H a (c.map V.str)/\(∀y∈c,y∈b) /\
 ∀m:Nat,LC b.length m->(∀(j:Nat) y,b[j]?=some y->(m.testBit j=true↔y∈c))->Q (.int (m:Int)) H
theorem Cj(T:Tx K mg):IP P w K mg base I_ 1 T.aL.f T.aL.fd ["_law_view", "_law_some_here"] (Qn K):=by
 have I:=Y0;refine T.aL.F.ok Y0 (fun S H Q E h=>?_) (fun U A J s H S Q E hr h=>?_)
 .obtain⟨p,v,a,d,W,A,B,L,rfl,_⟩:=h;rfl
 .obtain⟨p,v,a,d,W,A,B,L,rfl,X,x,Y,Z,sub,q⟩:=h;obtain⟨⟨n,s',u,O,C,e3,e4,_⟩,mA,mB⟩:=id X;refine⟨_,(B4 (C5 (i:=2) I.nd rfl (.inl rfl) B7)
   (B4 (O4 PassesOwn.never rfl (piS K (pv 1)) (D4 (i:=3) I.nd rfl (.inl rfl))
   (B5 (C5 (i:=2) I.nd rfl (.inl rfl) (C7 Am (pv 2) (C7 Ay B7 (Hl K PySem.F.plainAttrs_list PySem.F.slot_list_index PySem.F.type_list_index (Ek K) (E7 (LT K) (pv 0) B7 (fun _ _=>rfl)) (A8 (pv 3) B3)))))))
   (B5 (C2 (pv 2))))),?_⟩
  refine B9 fun N1 M=>?_;refine M _ _ (B9 fun R l=>?_);rcases Z with h | h
  .refine A7 rfl ⟨a,rfl,.inl ⟨⟨_,h⟩,R8 (D:={ nx:=R,rt:=Q }) (MN h) (fun i σ G=>G=H/\∃(m:Nat) (g:A6 V),σ = [some (.ref v),some (.ref a),some (.int (m:Int)),g]/\LC d.length m/\∀(j:Nat) y,d[j]?=some y->(m.testBit j=true↔y∈L.take i)) ⟨rfl,0,_,rfl,LC.zero _,fun j y _=>by rw[CS];simp⟩ (fun i σ G _ h o e=>by rw[h.1];exact e) ?_ ?_⟩⟩
   .rintro i σ G y r ⟨rfl,m,g,rfl,lo,b⟩ D1 k _;rw[AH]at r;obtain⟨z,t,rfl⟩:=BL.mp r;obtain⟨j,c⟩:=CU.mp (sub z (AM t));have N:=(AG.mp c).1;refine A7 rfl (A7 rfl ⟨v,_,C0 rfl rfl ⟨IG.of O,rfl,.inl ⟨rfl,_,IG.of C⟩,A7 rfl ⟨n,d,z,j,rfl,rfl,IG.of C,c,fun m b z=>by have:=O0 x z c;omega,C0 rfl rfl ⟨⟨by omega,by omega,by decide⟩,C0 rfl rfl ?_⟩⟩⟩⟩);dsimp only;rw[Wq,OX];exact k _ _ ⟨rfl,m ||| 2^j,_,rfl,lo.or N,zEw x t c b⟩
   .rintro σ G ⟨rfl,m,g,rfl,lo,b⟩;rw[AB,CI]at b;exact l _ _ (A7 rfl (q m lo b))
  .refine A7 rfl ⟨a,rfl,.inr ⟨⟨_,h⟩,R8 (D:={ nx:=R,rt:=Q }) (asT h) (fun i σ G=>G=H/\∃(m:Nat) (g:A6 V),σ = [some (.ref v),some (.ref a),some (.int (m:Int)),g]/\LC d.length m/\∀(j:Nat) y,d[j]?=some y->(m.testBit j=true↔y∈L.take i)) ⟨rfl,0,_,rfl,LC.zero _,fun j y _=>by rw[CS];simp⟩ (fun i σ G _ h o e=>by rw[h.1];exact e) ?_ ?_⟩⟩
   .rintro i σ G y r ⟨rfl,m,g,rfl,lo,b⟩ D1 k _;rw[AH]at r;obtain⟨z,t,rfl⟩:=BL.mp r;obtain⟨j,c⟩:=CU.mp (sub z (AM t));have N:=(AG.mp c).1;refine A7 rfl (A7 rfl ⟨v,_,C0 rfl rfl ⟨IG.of O,rfl,.inl ⟨rfl,_,IG.of C⟩,A7 rfl ⟨n,d,z,j,rfl,rfl,IG.of C,c,fun m b z=>by have:=O0 x z c;omega,C0 rfl rfl ⟨⟨by omega,by omega,by decide⟩,C0 rfl rfl ?_⟩⟩⟩⟩);dsimp only;rw[Wq,OX];exact k _ _ ⟨rfl,m ||| 2^j,_,rfl,lo.or N,zEw x t c b⟩
   .rintro σ G ⟨rfl,m,g,rfl,lo,b⟩;rw[AB,CI]at b;exact l _ _ (A7 rfl (q m lo b))
def Qj(f:A0 Str->A0 Nat->A0 Nat->Nat->Prop):Sp:=fun c H Q _=>∃(p v:A4) (m:Nat) (a:A0 Str) (d:A0 (Str×Str)) (A B:A0 Nat),c = [.ref v,.int (m:Int)]/\I7 H p v a d A B/\a.length<=100 /\
 ∀b:Bool,(b=true↔f a A B m)->Q (.bl b) H
theorem i6:IC ["_law_view", "_law_mask"] ["_law_view", "_law_mask"] (B8 Le):=⟨rfl,rfl,rfl,by decide +kernel,rfl,by decide +kernel,by decide +kernel⟩
theorem Dp(T:Tx K mg):IP P w K mg base I_ 3 T.aY.f T.aY.fd ["_law_view", "_law_mask"] (Qj fun ns A B m=>JC B m/\∀j,m.testBit j=true->LR ns.length A B m j):=by
 have i:=W5 (P:=P) (w:=w) (base:=base) T;have k:=Be (P:=P) (w:=w) (base:=base) T;have I:=i6;refine T.aY.F.ok i6 (fun D H Q E h=>?_) (fun G A l s H D Q E r h=>?_)
 .obtain⟨p,n,a,J,L,A,B,rfl,_⟩:=h;rfl
 .obtain⟨p,v,m,ns,t,A,B,rfl,u,x,q⟩:=h;refine⟨_,(B5 (C2 (Gp (C9 T.aG i (r.mono (by decide)) (A8 (pv 0) (A8 (pv 1) B3))) (Lu (P1 X5 (C7 O9 (pv 1) (Jf Ks (C9 T.aT k (r.mono (by decide)) (A8 (pv 0) (A8 (pv 1) B3))))) B7 (D8 _)))))),?_⟩;refine A7 rfl (A7 rfl ⟨p,v,m,ns,t,A,B,rfl,u,x,fun b y=>⟨b,rfl,?_⟩⟩);refine T8 (fun c=>?_) (fun c=>?_)
  .refine A7 rfl (A7 rfl (A7 rfl (Xg (a:=p) (b:=v) (c:=m) (d:=ns) (e:=t) (f:=A) (g:=B) rfl u x fun M C=>?_)));refine A7 rfl (C0 rfl rfl ⟨rfl,?_⟩);refine q _ ?_;dsimp only;rw[Q8];exact⟨fun h=>⟨y.mp c,fun j o=>(C j).mp (h j o)⟩,fun h j o=>(C j).mpr (h.2 j o)⟩
  .exact q false ⟨fun z=>(by cases z),fun h=>absurd (y.mpr h.1) c⟩
end
def JC.sub{B:A0 Nat}{m a:Nat}(h:JC B m)(s:Sub a m):JC B a:=fun i j b c=>h i j (s i b) (s j c)
def zBj{i m a:Nat}(h:LC i m)(h':LC i a)(e:m ||| 2^i=a ||| 2^i):m=a:=BR fun j=>by
 by_cases c:j=i
 .subst c;rw[B_.mpr fun z=>CQ _ (h j z),B_.mpr fun z=>CQ _ (h' j z)]
 .have:=congrArg (fun z=>z.testBit j) e;rw[EF,EF,DK,BC fun z=>c z.symm,HW,HW]at this;exact this
def Ob{B f:A0 Nat}{i:Nat}(p:f.Nodup)(g:∀m,m∈f↔LC i m/\JC B m):(f ++(f.filter fun m=>pB (JC B (m ||| 2^i))).map fun m=>m ||| 2^i).Nodup/\∀m,m∈(f ++(f.filter fun m=>pB (JC B (m ||| 2^i))).map fun m=>m ||| 2^i)↔LC (i+1) m/\JC B m:=by
 have r:∀m,(m ||| 2^i).testBit i=true:=fun m=>by rw[EF,FR,Bool.or_true]
 constructor
 .refine DX.mpr ⟨p,CA.mpr (FQ (fun{a b} l n s e=>s (zBj ((g a).mp (BM.mp l).1).1 ((g b).mp (BM.mp n).1).1 e)) (p.sublist EH)),fun a l b n e=>?_⟩;obtain⟨c,_,rfl⟩:=AR.mp n;have:=((g a).mp l).1 i (by rw[e];exact r c);omega
 .intro m;rw[A_,g,AR];constructor
  .rintro(⟨k,d⟩ | ⟨q,h,rfl⟩)
   .exact⟨fun j o=>DC (k j o),d⟩
   .obtain⟨k,d⟩:=BM.mp h;refine⟨fun j o=>?_,MK.mp d⟩;rcases(U4 q i j).mp o with z | z
    .exact DC (((g q).mp k).1 j z)
    .omega
  .rintro⟨k,d⟩;by_cases c:m.testBit i=true
   .have e:m % 2^i ||| 2^i=m:=BR fun j=>by
     rw[EF,HD,DK,BZ,EK,BT,BU,BU];constructor
     .rintro(⟨_,z⟩ | rfl)
      .exact z
      .exact c
     .intro z;by_cases t:j<i
      .exact .inl ⟨t,z⟩
      .have:=k j z;exact .inr (by omega)
    have u:Sub (m % 2^i) m:=fun j z=>by
     rw[HD,BT]at z;exact z.2
    refine .inr ⟨m % 2^i,BM.mpr ⟨(g _).mpr ⟨fun j z=>?_,d.sub u⟩,MK.mpr (by rw[e];exact d)⟩,e⟩;rw[HD,BT,BU]at z;exact z.1
   .refine .inl ⟨fun j z=>?_,d⟩;have:=k j z;rcases Nat.lt_or_ge j i with y | y
    .exact y
    .exact absurd (show m.testBit i=true by rw[show i=j by omega];exact z) c
section
variable{P:F8}{w:H_}{K:PySem.W.Frag}{mg:Str->A6 A3}{base:IA}
theorem Q4:IC ["_law_view", "_law_found", "_law_k", "_law_mask"] ["_law_view"] (B8 JY):=JX
def Aq:Sp:=fun d H Q _=>∃(p v:A4) (b:A0 Str) (e:A0 (Str×Str)) (A B:A0 Nat),d = [.ref v]/\I7 H p v b e A B/\b.length<=12 /\
 ∀l (a:A0 Nat) c,H l=none->HY H c->c l=some (.lst (a.map I0))->a.Nodup->(∀m,m∈a↔Mw b.length A B m)->a.length<=4096->Q (.ref l) c
set_option maxHeartbeats 2000000 in
theorem Y5(T:Tx K mg):IP P w K mg base I_ 4 T.aD.f T.aD.fd ["_law_view"] Aq:=by
 have d:=W5 (P:=P) (w:=w) (base:=base) T;have g:=Dp (P:=P) (w:=w) (base:=base) T;have X:=Q4;refine T.aD.F.ok Q4 (fun vs H Q E h=>?_) (fun cdv A Y s H vs Q E hr h=>?_)
 .obtain⟨p,v,J,Z,A,B,rfl,_⟩:=h;rfl
 .obtain⟨p,v,J,Z,A,B,rfl,hV,ln,q⟩:=h;obtain⟨⟨a,s,u,e1,e2,e3,e4,_⟩,mA,mB⟩:=id hV;refine⟨_,(B4 (C5 (i:=1) X.nd rfl (.inl rfl) (M8 (A8 B7 B3)))
   (B4 (O4 PassesOwn.never rfl (Ze T.aS (A8 (E8 (P4 K) T.as O8 (A8 (E7 (LT K) (pv 0) B7 (fun _ _=>rfl)) B3)) B3)) (D4 (i:=2) X.nd rfl (.inl rfl))
   (B5 (O4 PassesOwn.never rfl (MZ K (o0 (T9 K) T.az Q7 (A8 (pv 1) B3))) (D4 (i:=3) X.nd rfl (.inl rfl))
   (B5 (K3 (W0 (C9 T.aG d (Rm hr) (A8 (pv 0) (A8 (C7 Am (pv 3) (C7 Ay B7 (pv 2))) B3)))) (B5 (J7 (Hl K PySem.F.plainAttrs_list PySem.F.slot_list_append PySem.F.type_list_append K4 (pv 1) (A8 (C7 Am (pv 3) (C7 Ay B7 (pv 2))) B3)))) C8)))))
   (B5 (C2 (X0 (N':=["_law_mask", "_law_view"]) (cap:=[none,some 0]) (cl:=[("_law_view",_)]) (P9 ⟨⟨rfl,rfl,rfl,rfl⟩,trivial⟩ ⟨rfl,trivial⟩) rfl (MZ K (pv 1)) (fun _ _ _ _=>by exact⟨(MI 0),(W2 (W0 (C9 T.aY g (Rm hr) (A8 (pv 1) (A8 (pv 0) B3))))),(pv 0)⟩)))))),?_⟩
  refine B9 fun N1 hN1=>?_;refine⟨by show 1<=sizeLine;decide,fun l S=>?_⟩;have hl0:=S;have U:=HY.new (o:=.lst [.int 0]) S;have fl:(IB H l (.lst [.int 0])) l=some (.lst ([0].map I0)):=A9;generalize IB H l (.lst [.int 0])=H1 at U fl⊢;refine hN1 _ _ (B9 fun N2 hN2=>?_);refine A7 rfl ⟨v,_,C0 rfl rfl ⟨IG.of (U _ _ e1),rfl,C0 (a:=a) rfl (.inl (IG.of (U _ _ e2))) (A7 rfl ⟨?_,?_,?_⟩)⟩⟩
  .omega
  .rw[AB];omega
  rw[AB,CH];have lz:∀m,m∈[0]↔LC 0 m/\JC B m:=fun m=>by
   rw[AF];constructor
   .rintro rfl;exact⟨LC.zero _,fun i j h=>by rw[CS]at h;cases h⟩
   .rintro⟨h,_⟩;exact BR fun j=>by rw[CS];exact B_.mpr fun z=>absurd (h j z) (FI _)
  refine O7 (fun i σ G=>(∃v2 n,σ = [some (.ref v),some (.ref l),v2,n])/\HY H G/\∃k:A0 Nat,G l=some (.lst (k.map I0))/\k.Nodup/\(∀m,m∈k↔LC i m/\JC B m)/\k.length<=2^i) ⟨⟨_,_,rfl⟩,U,[0],fl,HB _ _,lz,by decide⟩ ?_ ?_
  .rintro i σ G hi ⟨⟨v2,n,rfl⟩,r,k,t,nG,mG,lG⟩ D1 hD1 _;rw[Int.zero_add];have p2:2^i<=2^11:=Nat.pow_le_pow_right (by decide) (by omega);refine A7 rfl ⟨l,_,rfl,.inl (IG.of t),fun c hc=>?_⟩;have uc:=HY.new (o:=.lst (k.map I0)) hc;have L:(IB G c (.lst (k.map I0))) c=some (.lst (k.map I0)):=A9;have ncl:c≠l:=(B0 t hc).symm;generalize IB G c (.lst (k.map I0))=N at uc L⊢;have x:=r.trans uc;have hc0:H c=none:=r.free hc;refine⟨c,rfl,⟨_,IG.of L⟩,R8 (MN (IG.of L)) (fun j σ C=>(∃n,σ = [some (.ref v),some (.ref l),some (.int (i:Int)),n])/\HY H C/\C c=some (.lst (k.map I0))/\C l=some (.lst ((k ++((k.take j).filter fun m=>pB (JC B (m ||| 2^i))).map fun m=>m ||| 2^i).map I0))) ⟨⟨_,rfl⟩,x,L,by rw[List.take_zero,GH,HG,CJ];exact uc _ _ t⟩ (fun j σ C _ h o e=>by rw[L]at e;cases e;exact h.2.2.1) ?_ ?_⟩
   .rintro j σ C y hy ⟨⟨n,rfl⟩,O,c2,I⟩ D2 R _;rw[AH]at hy;obtain⟨m,W,rfl⟩:=BL.mp hy;have lj:=(AG.mp W).1;refine A7 rfl (A7 rfl (A7 rfl (C0 rfl rfl ⟨⟨by omega,by omega,by decide⟩,C0 rfl rfl ?_⟩)));dsimp only;rw[Wq,show I0 m=V.int (m:Int)from rfl];refine⟨p,v,m ||| 2^i,J,Z,A,B,by rw[OX];rfl,hV.same O,by omega,fun b hb=>⟨_,rfl,?_⟩⟩;have eb:=Zl hb;have hs:(k.take (j+1)).filter (fun m=>pB (JC B (m ||| 2^i))) =(k.take j).filter (fun m=>pB (JC B (m ||| 2^i)))++if pB (JC B (m ||| 2^i))=true then [m]else []:=by
     rw[IT W,EA,DQ,GH]
    have S:=BP (fun m=>pB (JC B (m ||| 2^i))) (k.take j);rw[AX]at S;refine T8 (fun z=>?_) (fun z=>R _ _ ⟨⟨_,rfl⟩,O,c2,?_⟩)
    .refine A7 rfl ⟨.inl ⟨rfl,_,IG.of I⟩,A7 rfl (A7 rfl (C0 rfl rfl ⟨⟨by omega,by omega,by decide⟩,C0 rfl rfl ?_⟩))⟩;dsimp only;rw[Wq];refine⟨l,_,_,rfl,by rw[OX],I,by rw[AB,AV,AB,sizeLine_eq];omega,R _ _ ⟨⟨_,rfl⟩,O.upd hl0,(B6 ncl).trans c2,?_⟩⟩;rw[A9,hs,AK (by rw[<-eb];exact z)];simp only[AO,BB,HG,BF];rfl
    .rw[hs,AJ (by rw[<-eb];exact z),CJ];exact I
   .rintro σ C ⟨⟨n,rfl⟩,O,c2,I⟩;rw[AB,CI]at I;obtain⟨n2,m2⟩:=Ob nG mG;refine hD1 _ _ ⟨⟨_,_,rfl⟩,O,_,I,n2,m2,?_⟩;have:=BP (fun m=>pB (JC B (m ||| 2^i))) k;rw[AV,AB,Nat.pow_succ];omega
  .rintro σ G ⟨⟨v2,n,rfl⟩,r,k,t,nG,mG,lG⟩;have p2:2^J.length<=2^12:=Nat.pow_le_pow_right (by decide) ln;refine hN2 _ _ ?_;refine A7 rfl ⟨l,rfl,⟨_,IG.of t⟩,fun D hD=>?_⟩;refine Ea I0 (MN (IG.of t)) (fun m=>pB (JC B m/\∀j,m.testBit j=true->LR J.length A B m j)) (by omega) hD (fun m W N x M hM=>?_) (fun m W N x M hM=>A7 rfl hM) fun σ' N x e1=>?_
   .exact A7 rfl (A7 rfl ⟨p,v,m,J,Z,A,B,rfl,(hV.same r).same x,by omega,fun b hb=>⟨_,rfl,by rw[Zl hb];exact hM N fun b o e=>e⟩⟩)
   .refine q D _ N (r.free hD) (r.trans x) e1 (nG.sublist EH) (fun m=>?_) (Nat.le_trans (BP ..) (by omega));rw[BM,mG,MK];exact⟨fun h=>⟨h.1.1,h.2⟩,fun h=>⟨⟨h.1,h.2.1⟩,h.2⟩⟩
end
def Wt{m r:Nat}(s:Sub m r):∀n,(D0 m n).length<=(D0 r n).length/\((D0 m n).length =(D0 r n).length->∀j,j<n->m.testBit j=r.testBit j)
 | 0=>⟨Nat.le_refl _,fun _ j h=>absurd h (FI _)⟩
 | n+1=>by
  obtain⟨b,d⟩:=Wt s n;have f:∀z,(D0 z (n+1)).length =(D0 z n).length+if z.testBit n=true then 1 else 0:=fun z=>by
   rw[Q2,AV];split<;>rfl
  rw[f,f];cases a:m.testBit n with
  | true =>
   rw[s n a];refine⟨by simp;exact b,fun e j g=>?_⟩;by_cases c:j=n
   .rw[c,a,s n a]
   .exact d (by simpa using e) j (by omega)
  | false =>
   cases i:r.testBit n with
   | true=>exact⟨by simp;omega,fun e=>by simp at e;omega⟩
   | false =>
    refine⟨by simp;exact b,fun e j g=>?_⟩;by_cases c:j=n
    .rw[c,a,i]
    .exact d (by simpa using e) j (by omega)
def zAe{n m r:Nat}(s:Sub m r)(lo:LC n r)(a:m≠r):(D0 m n).length <(D0 r n).length:=by
 obtain⟨b,d⟩:=Wt s n;refine FD b fun e=>a (BR fun j=>?_);by_cases c:j<n
 .exact d e j c
 .rw[B_.mpr fun z=>c (lo j z),B_.mpr fun z=>c (lo j (s j z))]
def LR.up{n:Nat}{A B:A0 Nat}{m r j:Nat}(s:Sub m r)(h:LR n A B m j):LR n A B r j:=⟨h.1,fun b a=>let⟨k,c,d⟩:=h.2 b a;⟨k,s k c,d⟩⟩
section
variable{P:F8}{w:H_}{K:PySem.W.Frag}{mg:Str->A6 A3}{base:IA}
theorem u6:IC ["_law_view", "_law_mask", "_law_more"] ["_law_view"] (B8 MU):=JX
def Pb:Sp:=fun b H Q _=>∃(p v:A4) (a:A0 Str) (c:A0 (Str×Str)) (A B:A0 Nat),b = [.ref v]/\I7 H p v a c A B/\a.length<=100/\∀m:Nat,LC a.length m->Q (.int (m:Int)) H
theorem Hb(T:Tx K mg):IP P w K mg base I_ 3 T.a5.f T.a5.fd ["_law_view"] Pb:=by
 have a:=Be (P:=P) (w:=w) (base:=base) T;have g:=u6;refine T.a5.F.ok u6 (fun O H Q E h=>?_) (fun R A k s H O Q E I h=>?_)
 .obtain⟨p,v,b,l,A,B,rfl,_⟩:=h;rfl
 .obtain⟨p,v,b,l,A,B,rfl,J,L,q⟩:=h;refine⟨_,(B4 (C5 (i:=1) g.nd rfl (.inl rfl) B7)
   (B4 (C5 (i:=2) g.nd rfl (.inl rfl) (C9 T.aT a (Rm I) (A8 (pv 0) (A8 B7 B3))))
   (B4 (Uf PassesOwn.never (C6 Rt (pv 2) (pv 1) (D8 _)) (B4 (C5 (i:=1) g.nd rfl (.inl rfl) (pv 2))
   (B5 (C5 (i:=2) g.nd rfl (.inl rfl) (C9 T.aT a (Rm I) (A8 (pv 0) (A8 (pv 1) B3)))))))
   (B5 (C2 (pv 1)))))),?_⟩
  refine B9 fun V n=>?_;refine n _ _ (B9 fun W o=>?_);refine A7 rfl ⟨p,v,0,b,l,A,B,rfl,J,L,fun r u=>?_⟩;refine o _ _ (B9 fun X x=>?_);refine⟨fun t σ G=>G=H/\∃m r:Nat,σ = [some (.ref v),some (.int (m:Int)),some (.int (r:Int))]/\LC b.length m/\(∀j,r.testBit j=true↔LR b.length A B m j)/\Sub m r/\t +(D0 m b.length).length=b.length,⟨b.length-(D0 0 b.length).length,rfl,0,r,rfl,LC.zero _,u,(fun j h=>by rw[CS]at h;cases h),by have:=M6 0 b.length;omega⟩,?_⟩;rintro t σ G ⟨rfl,m,r,rfl,lo,M,sub,Y⟩;have d:LC b.length r:=fun j y=>((M j).mp y).1;refine A7 rfl (A7 rfl ⟨rfl,_,rfl,T8 (fun z=>?_) fun z=>x _ _ (A7 rfl (q m lo))⟩);have S:m≠r:=fun e=>by
   rw[e]at z;simp at z
  refine⟨fun σ' N=>N=G/\∃c:Nat,σ' = [some (.ref v),some (.int (r:Int)),some (.int (c:Int))]/\∀j,c.testBit j=true↔LR b.length A B r j,fun σ' N ⟨e,c,U,h⟩=>?_,?_⟩
  .have:=zAe sub d S;have:=M6 r b.length;exact⟨b.length-(D0 r b.length).length,by omega,e,r,c,U,d,h,fun j y=>(h j).mpr (((M j).mp y).up sub),by omega⟩
  .refine B9 fun Z C=>?_;refine A7 rfl (C _ _ ?_);exact A7 rfl (A7 rfl ⟨p,v,r,b,l,A,B,rfl,J,L,fun c D=>⟨rfl,c,rfl,D⟩⟩)
theorem S8:IC ["_law_view", "_law_thing"] ["_law_view", "_law_thing"] (B8 KJ):=JX
def Ii:Sp:=fun b H Q _=>∃(p v:A4) (a:A0 Str) (c:A0 (Str×Str)) (A B:A0 Nat) (y:Str),b = [.ref v,.str y]/\I7 H p v a c A B/\Q (.bl (decide (y∈a))) H
theorem p8(T:Tx K mg):IP P w K mg base I_ 1 T.aK.f T.aK.fd ["_law_view", "_law_thing"] Ii:=by
 have k:=S8;refine T.aK.F.ok S8 (fun b H Q E h=>?_) (fun c A a s H b Q E l h=>?_)
 .obtain⟨p,v,d,e,A,B,y,rfl,_⟩:=h;rfl
 .obtain⟨p,v,d,e,A,B,y,rfl,g,q⟩:=h;obtain⟨⟨n,m,u,i,j,o,r,_⟩,t,x⟩:=id g;refine⟨_,(B5 (C2 (Gp (E8 (Bp K) T.aI O1 (A8 (pv 1) (A8 (Os T.bz Wf) B3))) (Lu (P1 (Uy K) (pv 1) (E7 (LT K) (pv 0) B7 (fun _ _=>rfl)) rfl))))),?_⟩;refine A7 rfl ⟨.str y, "str",_,true,rfl,.str y,rfl,⟨_,rfl,?_⟩⟩;rw[AK rfl];refine A7 rfl (A7 rfl ⟨v,_,C0 rfl rfl ⟨IG.of i,rfl,?_⟩⟩);exact Kd (.inl (IG.of j)) q
end
def Ga{α β:Type}(f:α->β)(a:A0 Nat)(xs:A0 α):R4 a (xs.map f) =(R4 a xs).map f:=by
 unfold R4;rw[List.map_filterMap];congr 1;funext k;rw[AH]
def Ah{H:Hp}:∀{c:A0 (A4×V×V)} {as bs:A0 Str},(c.map fun p=>p.2) =(as.map V.str).zip (bs.map V.str)->(∀p∈c,H p.1=some (.tup [p.2.1,p.2.2]))->∃d:A0 JD,(c.map fun p=>V.ref p.1)=G8 d/\(d.map fun q=>q.2)=as.zip bs/\∀q∈d,E1 H q
 | [],[],bs,e,_=>⟨[],rfl,rfl,fun q h=>absurd h BX⟩
 | [],a::as,[],e,_=>⟨[],rfl,rfl,fun q h=>absurd h BX⟩
 | [],a::as,b::bs,e,_=>by cases e
 | p::c,[],bs,e,_=>by cases e
 | p::c,a::as,[],e,_=>by cases e
 | p::c,a::as,b::bs,e,h=>by
  obtain⟨g,i⟩:=GW e;obtain⟨d,j,k,l⟩:=Ah i fun p f=>h p (.tail _ f);have f:=h p (.head _);have g:p.2 =(V.str a,V.str b):=g;rw[g]at f;refine⟨(p.1,a,b)::d,?_,?_,fun q hq=>?_⟩
  .show V.ref p.1 ::(c.map fun p=>V.ref p.1)=V.ref p.1::G8 d;rw[j]
  .show(a,b) ::(d.map fun q=>q.2) =(a,b)::as.zip bs;rw[k]
  .rcases AU.mp hq with e | hq
   .rw[e];exact f
   .exact l q hq
def zAv{α:Type}{J:It}{d:A0 α}{r:α->V}{a D:A4}{H:Hp}(as:LB J (d.map r) a H){u:TT}{w:TE}{c:St}{x:A6 V}{Q:St->Hp->Prop}(p:α->Bool)(g:α->Str×Str)(P:d.length<=1000)(A:H D=none)
  (R:∀y∈d,∀G,HY H G->∀M:Bool->Hp->Prop,(∀j,HY G j->M (p y) j)->u (some (r y)::c) G M)
  (S:∀y∈d,∀G,HY H G->∀M:VK,(∀t,G t=none->M (.ref t) (IB G t (.tup [.str (g y).1,.str (g y).2])))->w (some (r y)::c) G M)
  (q:∀σ G (b:A0 JD),HY H G->G D=some (.lst (G8 b))->(∀z∈b,E1 G z)->(b.map fun z=>z.2) =(d.filter p).map g->Q σ G):Jx (V7 0) u (Cg D w) J (x::c) (IB H D (.lst [])) Q:=by
 refine Y3 as (fun i σ G=>(∃v,σ=v::c)/\HY H G/\∃b:A0 JD,G D=some (.lst (G8 b))/\(∀z∈b,z.1≠D/\E1 G z)/\(b.map fun z=>z.2) =((d.take i).filter p).map g) ⟨⟨_,rfl⟩,HY.new A,[],A9,fun z h=>absurd h BX,rfl⟩ (fun i σ G _ h=>h.2.1.at a) ?_ ?_
 .rintro i σ G v N B ⟨⟨x,rfl⟩,f,b,k,e,l⟩ C;rw[AH]at B;obtain⟨y,E,rfl⟩:=BL.mp B;have F:=AM E;refine R y F G f _ fun j n=>?_;have k:=n _ _ k;have f:=f.trans n;have e:∀z∈b,z.1≠D/\E1 j z:=fun z m=>⟨(e z m).1,n _ _ (e z m).2⟩;have I:(d.take (i+1)).filter p =(d.take i).filter p++if p y=true then [y]else []:=by
   rw[IT E,EA,DQ,GH]
  have T:b.length<=d.length:=by
   have:=congrArg List.length l;rw[AB,AB]at this;rw[this];exact Nat.le_trans (BP ..) (by rw[AX];exact Nat.min_le_right ..)
  refine T8 (fun s=>S y F j f _ fun t K=>?_) (fun s=>C _ _ ⟨⟨_,rfl⟩,f,b,k,e,?_⟩)
  .have st:=HY.new (o:=.tup [.str (g y).1,.str (g y).2]) K;have L:t≠D:=(B0 k K).symm;have O:(IB j t (.tup [.str (g y).1,.str (g y).2])) t=some (.tup [.str (g y).1,.str (g y).2]):=A9;generalize IB j t (.tup [.str (g y).1,.str (g y).2])=U at st O⊢;refine⟨_,st _ _ k,by unfold G8;rw[AB,sizeLine_eq];omega,C _ _ ⟨⟨_,rfl⟩,(f.trans st).upd A,b ++ [(t,g y)],by rw[A9];unfold G8;rw[AO];rfl,fun z m=>?_,by rw[AO,l,I,AK s,AO];rfl⟩⟩;rcases A_.mp m with h | h
   .exact⟨(e z h).1,(B6 (e z h).1).trans (st _ _ (e z h).2)⟩
   .rw[AF.mp h];exact⟨L,(B6 L).trans O⟩
  .rw[I,AJ s,CJ];exact l
 .rintro σ G ⟨_,f,b,k,e,l⟩;rw[AB,CI]at l;exact q σ G b f k (fun z m=>(e z m).2) l
def zBc{K:PySem.W.Frag}{b D:A4}{d:A0 JD}{H:Hp}{c:St}{k l:A6 V}{s:TE}{Q:St->Hp->Prop}(g:JD->Str×Str)(E:H b=some (.lst (G8 d)))(F:∀q∈d,E1 H q)(I:d.length<=1000)(u:H D=none)
  (J:∀y∈d,∀G,HY H G->∀M:VK,(∀t,G t=none->M (.ref t) (IB G t (.tup [.str (g y).1,.str (g y).2])))->s (some (.str y.2.1)::some (.str y.2.2)::c) G M)
  (q:∀σ G (a:A0 JD),HY H G->G D=some (.lst (G8 a))->(∀z∈a,E1 G z)->(a.map fun z=>z.2)=d.map g->Q σ G) :
  Jx (zDu K 2 (Zf (V7 0) (Zf (V7 1) zFe))) Cb (Cg D s) (RD K b) (k::l::c) (IB H D (.lst [])) Q:=by
 refine Y3 (MN (IG.of E)) (fun i σ G=>(∃k l,σ=k::l::c)/\HY H G/\∃a:A0 JD,G D=some (.lst (G8 a))/\(∀z∈a,z.1≠D/\E1 G z)/\(a.map fun z=>z.2) =(d.take i).map g) ⟨⟨_,_,rfl⟩,HY.new u,[],A9,fun z h=>absurd h BX,rfl⟩ (fun i σ G _ h=>h.2.1.at b) ?_ ?_
 .rintro i σ G v N n ⟨⟨k,l,rfl⟩,f,a,m,j,e⟩ L;unfold G8 at n;rw[AH]at n;obtain⟨r,w,rfl⟩:=BL.mp n;have x:=AM w;refine⟨r.1,_,rfl,JM.of (f _ _ (F r x)),rfl,⟨_,_,rfl,⟨_,_,rfl,⟨rfl,?_⟩⟩⟩⟩;have O:a.length<=d.length:=by
   have:=congrArg List.length e;rw[AB,AB,AX]at this;omega
  dsimp only[Cb];refine Yp (J r x G f _ fun t A=>?_);have st:=HY.new (o:=.tup [.str (g r).1,.str (g r).2]) A;have B:t≠D:=(B0 m A).symm;have C:(IB G t (.tup [.str (g r).1,.str (g r).2])) t=some (.tup [.str (g r).1,.str (g r).2]):=A9;generalize IB G t (.tup [.str (g r).1,.str (g r).2])=P at st C⊢;refine⟨_,st _ _ m,by unfold G8;rw[AB,sizeLine_eq];omega,L _ _ ⟨⟨_,_,rfl⟩,(f.trans st).upd u,a ++ [(t,g r)],by rw[A9];unfold G8;rw[AO];rfl,fun z p=>?_,by rw[AO,e,IT w,AO];rfl⟩⟩;rcases A_.mp p with h | h
  .exact⟨(j z h).1,(B6 (j z h).1).trans (st _ _ (j z h).2)⟩
  .rw[AF.mp h];exact⟨B,(B6 B).trans C⟩
 .rintro σ G ⟨_,f,a,m,j,e⟩;unfold G8 at e;rw[AB,CI]at e;exact q σ G a f m (fun z p=>(j z p).2) e
def Iu:∀n:Nat,n<=12->(m8 n none (some 10) (some 2)).length<=12/\(m8 n (some 1) (some 10) (some 2)).length<=12/\(∀r∈m8 n none (some 10) (some 2),r<n)/\(∀r∈m8 n (some 1) (some 10) (some 2),r<n)/\(∀j:Fin 12,(m8 n none (some 10) (some 2))[j.1]?=none\/(m8 n none (some 10) (some 2))[j.1]?=some (2*j.1))/\∀j:Fin 12,(m8 n (some 1) (some 10) (some 2))[j.1]?=none\/(m8 n (some 1) (some 10) (some 2))[j.1]?=some (2*j.1+1):=by
 suffices h:∀n:Fin 13,(m8 n none (some 10) (some 2)).length<=12/\(m8 n (some 1) (some 10) (some 2)).length<=12/\(∀r∈m8 n none (some 10) (some 2),r<n.1)/\(∀r∈m8 n (some 1) (some 10) (some 2),r<n.1)/\(∀j:Fin 12,(m8 n none (some 10) (some 2))[j.1]?=none\/(m8 n none (some 10) (some 2))[j.1]?=some (2*j.1))/\∀j:Fin 12,(m8 n (some 1) (some 10) (some 2))[j.1]?=none\/(m8 n (some 1) (some 10) (some 2))[j.1]?=some (2*j.1+1)from
  fun n a=>h ⟨n,Nat.lt_succ_of_le a⟩
 decide +kernel
def zBx{c:A0 Str}(d:c.length<=12){j:Nat}{a b:Str}(h:((R4 (m8 c.length none (some 10) (some 2)) c).zip (R4 (m8 c.length (some 1) (some 10) (some 2)) c))[j]?=some (a,b)):c[2*j]?=some a/\c[2*j+1]?=some b:=by
 obtain⟨m,u,n,o,p,q⟩:=Iu _ d;rw[GS,Fj n,Fj o]at h;obtain⟨r,s⟩:=h;obtain⟨v,g,i⟩:=HC.mp r;obtain⟨w,t,k⟩:=HC.mp s;have l:j<12:=BE (AG.mp g).1 m;have e:=p ⟨j,l⟩;have f:=q ⟨j,l⟩;simp only[g,t]at e f;simp at e f;rw[e]at i;rw[f]at k;exact⟨i,k⟩
def zCm{c:A0 Str}(p:c.Nodup)(k:c.length<=12){zs:A0 (Str×Str)}(e:zs =(R4 (m8 c.length none (some 10) (some 2)) c).zip (R4 (m8 c.length (some 1) (some 10) (some 2)) c)) :
  (zs++zs.map fun z=>(z.2,z.1)).Nodup/\zs.length<=12/\∀z∈zs,z.1∈c/\z.2∈c:=by
 have d:∀(j:Nat) z,zs[j]?=some z->c[2*j]?=some z.1/\c[2*j+1]?=some z.2:=fun j z h=>zBx k (by rw[<-e];exact h);have q:zs.Nodup:=GQ.mpr fun i j l m w n=>by
  have f:=d i _ (AC l);have g:=d j _ (AC m);rw[<-n]at g;have:=O0 p f.1 g.1;omega
 refine⟨DX.mpr ⟨q,?_,fun z o y r n=>?_⟩,?_,fun z o=>?_⟩
 .refine CA.mpr (q.imp fun{a b} h e=>h ?_);injection e with s t;exact Prod.ext t s
 .obtain⟨x,u,rfl⟩:=AR.mp r;obtain⟨i,l⟩:=CU.mp o;obtain⟨j,m⟩:=CU.mp u;have f:=(d i _ l).1;have g:=(d j _ m).2;rw[n]at f;have:=O0 p f g;omega
 .obtain⟨v,_⟩:=Iu _ k;have A:(R4 (m8 c.length none (some 10) (some 2)) c).length<=12:=Nat.le_trans (List.length_filterMap_le ..) v;rw[e,List.length_zip];omega
 .obtain⟨i,l⟩:=CU.mp o;obtain⟨f,g⟩:=d i _ l;exact⟨AM f,AM g⟩
def zCr{as:A0 Str}:as.Nodup->∀bs:A0 Str,(as.zip bs).Nodup/\∀z∈as.zip bs,z.1∈as/\z.2∈bs:=fun c bs=>by
 refine⟨?_,fun z d=>FH d⟩
 induction as generalizing bs with
 | nil=>rw[List.zip_nil_left];exact FY
 | cons a as e =>
  cases bs with
  | nil=>rw[List.zip_nil_right];exact FY
  | cons b bs =>
   rw[GC];exact CL.mpr ⟨fun h=>(CL.mp c).1 (FH h).1,e (CL.mp c).2 bs⟩
def Qy(a:A0 Str)(lo hi:A6 Int):∃bs:A0 Str,Th (a.map V.str) lo hi=bs.map V.str/\(∀y∈bs,y∈a)/\bs.length<=a.length:=by
 unfold Th;rw[<-List.map_drop,<-List.map_take];exact⟨_,rfl,fun y h=>EB (C_ h),by rw[AX,DE];omega⟩
def Ti(b:A0 Str):∃a:Str,∀y∈b,OK (b.map V.str) 0=some (.str a)/\a∈b:=by
 cases b with
 | nil=>exact⟨"",fun y h=>absurd h BX⟩
 | cons a c=>exact⟨a,fun y h=>⟨K0 (j:=0) rfl,.head _⟩⟩
def Yu(b:A0 Str):∃a:Str,∀y∈b,OK (b.map V.str) (-1)=some (.str a)/\a∈b:=by
 rcases List.eq_nil_or_concat b with e | ⟨c,a,e⟩
 .exact⟨"",fun y h=>by rw[e]at h;exact absurd h BX⟩
 .refine⟨a,fun y h=>⟨?_,by rw[e,List.concat_eq_append];exact BI _ (.head _)⟩⟩;rw[e,List.concat_eq_append,AO];exact Vb _ _
section
variable{P:F8}{w:H_}{K:PySem.W.Frag}{mg:Str->A6 A3}{base:IA}
theorem U6:IC ["_law_left_here", "_law_names_here", "_law_way", "_law_twos", "_law_strikes_here"] ["_law_left_here"] (B8 KW):=JX
def Vj:Sp:=fun g H Q _=>∃(p:A4) (c:Int),g = [.ref p]/\IL H p c/\c<=700000 /\
 ∀t n a (d:A0 Str) (e:A0 JD) f b,Sm [p] H b->b t=some (.tup [.ref n,.ref a])->b n=some (.lst (d.map V.str))->W3 d->d.length<=12->b a=some (.lst (G8 e))->(∀q∈e,E1 b q)->LW d e->f<=c+1100->IL b p f->Q (.ref t) b
theorem y9(T:Tx K mg):IP P w K mg base I_ 4 T.aP.f T.aP.fd ["_law_left_here"] Vj:=by
 have C:=Hc (P:=P) (w:=w) (base:=base) T;have R:=Jp (P:=P) (w:=w) (base:=base) T;have S:=O6 (P:=P) (w:=w) (base:=base) T;have j:=Ce (P:=P) (w:=w) (base:=base) T;have sc:=U6;refine T.aP.F.ok U6 (fun vs H Q E h=>?_) (fun cdv A outer s H vs Q E hr h=>?_)
 .obtain⟨p,c,rfl,_⟩:=h;rfl
 .obtain⟨p,c,rfl,L1,c1,q⟩:=h;refine⟨_,(B4 (C5 (i:=1) sc.nd rfl (.inr rfl) (C9 T.a3 C (Rm hr) (A8 (pv 0) (A8 (C9 T.ba R (Rm hr) (A8 (pv 0) B3)) B3))))
   (B4 (C5 (i:=2) sc.nd rfl (.inl rfl) (C9 T.aj S (Rm hr) (A8 (pv 0) (A8 B7 B3))))
   (B4 (K3 (C6 X5 (pv 2) B7 (D8 _)) (B5 (C2 (G0 (A8 (pv 1) (A8 (M8 B3) B3))))) C8)
   (B4 (K3 (C6 X5 (pv 2) B7 (D8 _)) (B4 (C5 (i:=3) sc.nd rfl (.inl rfl) (Ws K T.az T.bv (A8 (Hf K (pv 1) Jz (Y6 B7) (Y6 B7)) (A8 (Hf K (pv 1) (Y6 B7) (Y6 B7) (Y6 B7)) B3))))
   (B5 (C2 (G0 (A8 (pv 1) (A8 (C7 Mv (pv 3) (X0 (N':=["_law_one", "_law_other"]) (cap:=[none,none]) (cl:=[]) (P9 trivial trivial) rfl (MZ K (pv 3)) (fun _ _ _ _=>by exact⟨(PR K (n:=2) (E2 (MI 0) (E2 (MI 1) S4))),K1,(G0 (A8 (pv 1) (A8 (pv 0) B3)))⟩))) B3)))))) C8)
   (B4 (K3 (C6 X5 (pv 2) B7 (D8 _)) (B5 (C2 (G0 (A8 (pv 1) (A8 (Ws K T.az T.bv (A8 (pv 1) (A8 (C7 Mv (Ky (slL K) (pv 1) (Y6 B7) Jz) (Ky (slL K) (pv 1) Jz (Y6 B7))) B3))) B3))))) C8)
   (B4 (K3 (C6 X5 (pv 2) B7 (D8 _)) (B4 (C5 (i:=4) sc.nd rfl (.inr rfl) (X0 (N':=["_law_one", "_law_names_here"]) (cap:=[none,some 1]) (cl:=[("_law_names_here",_)]) (P9 ⟨⟨rfl,rfl,rfl,rfl⟩,trivial⟩ ⟨rfl,trivial⟩) rfl (MZ K (pv 1)) (fun _ _ _ _=>by exact⟨(MI 0),K1,(G0 (A8 (pv 0) (A8 (E7 (LT K) (pv 1) B7 (fun _ _=>rfl)) B3)))⟩)))
   (B5 (C2 (G0 (A8 (pv 1) (A8 (C7 Mv (pv 4) (X0 (N':=["_law_one", "_law_names_here", "_law_strikes_here"]) (cap:=[none,some 1,some 4]) (cl:=[("_law_strikes_here",_),("_law_names_here",_)]) (P9 ⟨⟨rfl,rfl,rfl,rfl⟩,⟨⟨rfl,rfl,rfl,rfl⟩,trivial⟩⟩ ⟨rfl,⟨rfl,trivial⟩⟩) rfl (MZ K (pv 1)) (fun _ _ _ _=>by exact⟨(MI 0),(W2 (C6 (Ae K hr.units) (G0 (A8 (E7 (LT K) (pv 1) (Jf Sg B7) (fun _ _=>rfl)) (A8 (pv 0) B3))) (pv 2) rfl)),(G0 (A8 (E7 (LT K) (pv 1) (Jf Sg B7) (fun _ _=>rfl)) (A8 (pv 0) B3)))⟩))) B3)))))) C8)
   (B5 (C2 (G0 (A8 (pv 1) (A8 (C9 T.aV j (Rm hr) (A8 (pv 0) (A8 (pv 1) B3))) B3))))))))))),?_⟩
  refine B9 fun N1 hN1=>?_;refine A7 rfl (A7 rfl ⟨p,_,rfl,L1,by omega,fun sz H2 hsz k2 L2=>?_⟩);refine⟨p,_,sz,rfl,L2,by omega,by omega,fun n g H3 hn k3 e3 l3 N3 L3=>?_⟩;refine hN1 _ _ (B9 fun N2 hN2=>?_);refine A7 rfl (Y7 (a:=p) rfl L3 (by omega) (by decide) (by decide) fun d H4 hd k4 L4=>?_);have I:=JR k4 e3 (L3.ne e3);have k4:=k2.trans (k3.trans k4);have l12:g.length<=12:=by omega
  clear e3 L3 L2 L1 hN1;have Z:∀(a:A4) (W:A0 JD) (Y:Hp) (c5:Int),Sm [p] H Y->Y n=some (.lst (g.map V.str))->IL Y p c5->c5<=c+1100->Y a=some (.lst (G8 W))->(∀q∈W,E1 Y q)->LW g W->2<=sizeLine/\∀t,Y t=none->Q (.ref t) (IB Y t (.tup [.ref n,.ref a])):=fun a W Y c5 k e L hc ea pin O=>⟨by decide,fun t ht=>by
   have ut:=HY.new (o:=.tup [.ref n,.ref a]) ht;exact q t n a g W c5 _ (k.trans ut.sm) A9 (ut _ _ e) N3 l12 (ut _ _ ea) (E5 ut pin) O hc (L.same ut)⟩
  have nmO:∀{zs:A0 (Str×Str)} {W:A0 JD},(W.map fun q=>q.2)=zs->zs.Nodup->(∀z∈zs,z.1∈g/\z.2∈g)->zs.length<=200->LW g W:=fun{zs W} e nd m l=>⟨fun z U=>m z.2 (by rw[<-e];exact AR.mpr ⟨z,U,rfl⟩),by rw[e];exact nd,by rw[<-e,AB]at l;exact l⟩;refine hN2 _ _ (B9 fun N3' hN3=>?_);refine A7 rfl ⟨rfl,_,rfl,T8 (fun c1=>?_) fun c1=>?_⟩
  .exact A7 rfl ⟨CF _,fun a ha=>Z a [] _ _ (k4.new ha) (HY.new ha _ _ I) (L4.same (HY.new ha)) (by omega) A9 (fun q h=>absurd h BX) (nmO rfl FY (fun q h=>absurd h BX) (CF _))⟩
  refine hN3 _ _ (B9 fun N4 hN4=>?_);refine A7 rfl ⟨rfl,_,rfl,T8 (fun c2=>?_) fun c2=>?_⟩
  .obtain⟨b1,b2,_⟩:=Iu _ l12;have lm:(g.map V.str).length=g.length:=AB ..;have pk:∀rs:A0 Nat,rs.length<=12->(R4 rs (g.map V.str)).length<=sizeLine:=fun rs h=>Nat.le_trans (List.length_filterMap_le ..) (Nat.le_trans h (by decide));refine B9 fun M1 hM1=>?_;refine A7 rfl (A7 rfl (A7 rfl ⟨by decide,n,_,rfl,IG.of I,pk _ (by rw[lm];exact b1),fun u hu=>?_⟩));have su:=HY.new (o:=.lst (R4 (m8 (g.map V.str).length none (some 10) (some 2)) (g.map V.str))) hu;refine A7 rfl (A7 rfl (A7 rfl (A7 rfl ⟨by decide,n,_,rfl,IG.of (su _ _ I),pk _ (by rw[lm];exact b2),fun v hv=>?_⟩)));have sv:=HY.new (o:=.lst (R4 (m8 (g.map V.str).length (some 1) (some 10) (some 2)) (g.map V.str))) hv;refine⟨u,v,_,_,rfl,IG.of (sv _ _ A9),IG.of A9,fun W l Y s5 hl el mp at_=>?_⟩;have s5:=(su.trans sv).trans s5;rw[lm,Ga,Ga]at mp;obtain⟨J,q1,q2,q3⟩:=Ah mp fun p hp=>(at_ p hp).2;rw[q1]at el;obtain⟨nd,lz,mz⟩:=zCm N3.2.1 l12 q2;have lq:J.length<=12:=by rw[AB]at lz;exact lz
   refine hM1 _ _ (A7 rfl (A7 rfl (A7 rfl ⟨l,rfl,⟨_,IG.of el⟩,fun D hD=>zBc (fun q=>(q.2.2,q.2.1)) el q3 (by omega) hD (fun y my G X M hM=>A7 rfl (A7 rfl ⟨by show 2<=sizeLine;decide,hM⟩)) fun σ G B X eG pG mG=>?_⟩)));have lr:(G8 J).length=J.length:=AB ..;have lr2:(G8 B).length=J.length:=by have:=congrArg List.length mG;rw[AB,AB]at this;unfold G8;rw[AB,this]
   refine⟨l,D,_,_,rfl,rfl,X _ _ el,eG,by rw[lr,lr2,sizeLine_eq];omega,fun x hx=>?_⟩;have sx:=HY.new (o:=.lst (G8 J++G8 B)) hx;have s6:=(s5.trans X).trans sx;refine Z x (J++B) _ _ (k4.trans s6.sm) (s6 _ _ I) (L4.same s6) (by omega) (by rw[A9];unfold G8;rw[AO]) (fun z U=>?_) (nmO (zs:=(J.map fun q=>q.2) ++(J.map fun q=>q.2).map fun z=>(z.2,z.1)) (by rw[AO,mG,CB];rfl) nd (fun z U=>?_) (by rw[AV,AB,AB];omega))
   .rcases A_.mp U with h | h
    .exact sx _ _ (X _ _ (q3 z h))
    .exact sx _ _ (pG z h)
   .rcases A_.mp U with h | h
    .exact mz z h
    .obtain⟨y,hy,rfl⟩:=AR.mp h;exact(mz y hy).symm
  refine hN4 _ _ (B9 fun N5 hN5=>?_);refine A7 rfl ⟨rfl,_,rfl,T8 (fun c3=>?_) fun c3=>?_⟩
  .obtain⟨as,ea,ma,la⟩:=Qy g (some 1) none;obtain⟨bs,eb,mb,lb⟩:=Qy g none (some 1);refine A7 rfl (A7 rfl (A7 rfl (A7 rfl ⟨n,_,rfl,IG.of I,fun u hu=>?_⟩)));have su:=HY.new (o:=.lst (Th (g.map V.str) (some 1) none)) hu;refine A7 rfl (A7 rfl ⟨n,_,rfl,IG.of (su _ _ I),fun v hv=>?_⟩);have sv:=HY.new (o:=.lst (Th (g.map V.str) none (some 1))) hv;refine⟨u,v,_,_,rfl,rfl,sv _ _ A9,A9,by rw[ea,eb,AB,AB,sizeLine_eq];omega,fun x hx=>?_⟩;have sx:=HY.new (o:=.lst (Th (g.map V.str) (some 1) none++Th (g.map V.str) none (some 1))) hx;have s5:=(su.trans sv).trans sx;refine⟨n,x,_,_,rfl,IG.of (s5 _ _ I),IG.of A9,fun W l Y s6 hl el mp at_=>?_⟩;have s5:=s5.trans s6;rw[ea,eb,<-AO]at mp;obtain⟨J,q1,q2,q3⟩:=Ah mp fun p hp=>(at_ p hp).2;rw[q1]at el;obtain⟨nd,mz⟩:=zCr N3.2.1 (as++bs);refine Z l J _ _ (k4.trans s5.sm) (s5 _ _ I) (L4.same s5) (by omega) el q3 (nmO q2 nd (fun z U=>⟨(mz z U).1,(A_.mp (mz z U).2).elim (ma _) (mb _)⟩) (by rw[List.length_zip];omega))
  refine hN5 _ _ (B9 fun N6 hN6=>?_);refine A7 rfl ⟨rfl,_,rfl,T8 (fun c4=>?_) fun c4=>?_⟩
  .obtain⟨a,ha⟩:=Ti g;obtain⟨b,hb⟩:=Yu g;have ok:∀y∈g,PySem.PyData.strOk y=true:=fun y hy=>l8 (N3.1 y hy);refine B9 fun M1 hM1=>?_;refine A7 rfl ⟨n,rfl,⟨_,IG.of I⟩,fun D hD=>zAv (r:=V.str) (MN (IG.of I)) (fun _=>true) (fun y=>(y,a)) (by omega) hD (fun y my G X M hM=>hM G fun b o e=>e) (fun y my G X M hM=>A7 rfl (A7 rfl ⟨n,_,C0 rfl rfl ⟨IG.of (X _ _ I),(ha y my).1,⟨by show 2<=sizeLine;decide,hM⟩⟩⟩)) fun σ G J X eG pG mG=>?_⟩;rw[DU.mpr fun _ _=>rfl]at mG;have lq:J.length=g.length:=by have:=congrArg List.length mG;rw[AB,AB]at this;exact this
   have mq:∀q∈J,q.2.1∈g/\q.2.2∈g:=fun q hq=>by
    have:q.2∈g.map fun y=>(y,a):=by rw[<-mG];exact AR.mpr ⟨q,hq,rfl⟩
    obtain⟨y,hy,e⟩:=AR.mp this;rw[<-e];exact⟨hy,(ha y hy).2⟩
   refine hM1 _ _ (A7 rfl (A7 rfl (A7 rfl ⟨n,rfl,⟨_,IG.of (X _ _ I)⟩,fun D2 hD2=>zAv (r:=V.str) (MN (IG.of (X _ _ I))) (fun y=>!decide ((b,y)∈J.map fun q=>q.2)) (fun y=>(b,y)) (by omega) hD2 (fun y my G2 N M hM=>?_) (fun y my G2 N M hM=>?_) fun σ2 G2 B N eG2 pG2 mG2=>?_⟩)))
   .refine A7 rfl (A7 rfl ⟨n,_,C0 rfl rfl ⟨IG.of (N _ _ (X _ _ I)),(hb y my).1,A7 rfl ⟨by show 2<=sizeLine;decide,fun t ht=>?_⟩⟩⟩);have st:=HY.new (o:=.tup [.str b,.str y]) ht;exact A7 rfl (X2 (k:=(b,y)) A9 (st _ _ (N _ _ eG)) (fun q hq=>st _ _ (N _ _ (pG q hq))) ⟨ok b (hb y my).2,ok y my⟩ (fun q hq=>⟨ok _ (mq q hq).1,ok _ (mq q hq).2⟩) ⟨_,rfl,hM _ st⟩)
   .exact A7 rfl (A7 rfl ⟨n,_,C0 rfl rfl ⟨IG.of (N _ _ (X _ _ I)),(hb y my).1,A7 rfl ⟨by show 2<=sizeLine;decide,hM⟩⟩⟩)
   have lp2:B.length<=g.length:=by have:=congrArg List.length mG2;rw[AB,AB]at this;rw[this];exact BP ..
   have lr:(G8 J).length=J.length:=AB ..;have lr2:(G8 B).length=B.length:=AB ..;refine⟨D,D2,_,_,rfl,rfl,N _ _ eG,eG2,by rw[lr,lr2,sizeLine_eq];omega,fun x hx=>?_⟩;have sx:=HY.new (o:=.lst (G8 J++G8 B)) hx;have s6:=(X.trans N).trans sx;refine Z x (J++B) _ _ (k4.trans s6.sm) (s6 _ _ I) (L4.same s6) (by omega) (by rw[A9];unfold G8;rw[AO]) (fun z U=>?_) (nmO (zs:=(J.map fun q=>q.2)++B.map fun q=>q.2) (by rw[AO]) (DX.mpr ⟨?_,?_,fun z U y hy e=>?_⟩) (fun z U=>?_) (by rw[AV,AB,AB];omega))
   .rcases A_.mp U with h | h
    .exact sx _ _ (N _ _ (pG z h))
    .exact sx _ _ (pG2 z h)
   .rw[mG];exact CA.mpr (N3.2.1.imp fun{x y} h e=>h (congrArg Prod.fst e))
   .rw[mG2];exact CA.mpr ((N3.2.1.sublist EH).imp fun{x y} h e=>h (congrArg Prod.snd e))
   .rw[mG2]at hy;obtain⟨w,hw,rfl⟩:=AR.mp hy;have:=(BM.mp hw).2;rw[Bool.not_eq_true',decide_eq_false_iff_not]at this;exact this (by rw[<-e];exact U)
   .rcases A_.mp U with h | h
    .obtain⟨q,hq,rfl⟩:=AR.mp h;exact mq q hq
    .rw[mG2]at h;obtain⟨w,hw,rfl⟩:=AR.mp h;have:=(BM.mp hw).1;exact⟨(hb w this).2,this⟩
  refine hN6 _ _ ?_;exact A7 rfl (A7 rfl (A7 rfl ⟨p,n,_,g,rfl,L4,by omega,I,N3,by omega,fun a W c5 Y ha k5 e5 pin5 O5 hc5 L5=>Z a W Y c5 (k4.trans k5) (JR k5 I (L4.ne I)) L5 (by omega) e5 pin5 O5⟩))
end
def Ly:∀a:A0 Str,PyData.eqv (sd a) (.list [])=decide (a = [])
 | []=>by unfold sd;simp[PyData.eqv,PyData.eqvAll]
 | x::a=>by unfold sd;rw[BB];simp[PyData.eqv,PyData.eqvAll]
section
variable{P:F8}{w:H_}{K:PySem.W.Frag}{mg:Str->A6 A3}{base:IA}
theorem U8:IC ["_law_left_here", "_law_view", "_law_some_here", "_law_rest"] ["_law_left_here", "_law_view"] (B8 KU):=JX
def Xh:Sp:=fun f H Q _=>∃(p v:A4) (c:Int) (a:A0 Str) (g:A0 (Str×Str)) (A B:A0 Nat),f = [.ref p,.ref v]/\IL H p c/\c<=800000/\I7 H p v a g A B/\a.Nodup/\a.length<=12/\(∀y∈a,Q0 y=true) /\
 ∀l (d:A0 Str) e b,H l=none->Sm [p] H b->b l=some (.lst (d.map V.str))->(∀y∈d,y∈a)->d.Nodup->e<=c+5->IL b p e->Q (.ref l) b
theorem y6(T:Tx K mg):IP P w K mg base I_ 4 T.aQ.f T.aQ.fd ["_law_left_here", "_law_view"] Xh:=by
 have d:=O6 (P:=P) (w:=w) (base:=base) T;have k:=Hb (P:=P) (w:=w) (base:=base) T;have j:=Ex (P:=P) (w:=w) (base:=base) T;have sc:=U8;refine T.aQ.F.ok U8 (fun vs H Q E h=>?_) (fun cdv A outer s H vs Q E O h=>?_)
 .obtain⟨p,v,c,g,ks,A,B,rfl,_⟩:=h;rfl
 .obtain⟨p,v,c,g,ks,A,B,rfl,hL,hc,hV,nd,ln,nm,q⟩:=h;obtain⟨⟨n,s',u,e1,e2,e3,e4,_⟩,mA,mB⟩:=id hV;refine⟨_,(B4 (C5 (i:=2) sc.nd rfl (.inr rfl) (C9 T.aX j (Rm O) (A8 (pv 1) (A8 (C9 T.a5 k (Rm O) (A8 (pv 1) B3)) B3))))
   (B4 (Lg (i:=3) (N':=["_law_name", "_law_some_here"]) (cap:=[none,some 2]) (cl:=[("_law_some_here",_)]) sc.nd rfl (.inl rfl) (P9 ⟨⟨rfl,rfl,rfl,rfl⟩,trivial⟩ ⟨rfl,trivial⟩) rfl (MZ K (E7 (LT K) (pv 1) B7 (fun _ _=>rfl))) (fun _ _ _ _=>by exact⟨(MI 0),(W2 (C6 (Ma K) (pv 0) (pv 1) rfl)),(pv 0)⟩))
   (B4 (K3 (C6 (Ng K O.units) (pv 3) (M8 B3) (D8 _)) (B5 (J7 (Hl K PySem.F.plainAttrs_list PySem.F.slot_list_insert PySem.F.type_list_insert Hu (pv 2) (A8 (C9 T.aj d (Rm O) (A8 (pv 0) (A8 (C7 u8 (E8 (P4 K) T.as O8 (A8 (pv 2) B3)) B7) B3))) (A8 (E7 (LT K) (pv 3) (C9 T.aj d (Rm O) (A8 (pv 0) (A8 (E8 (P4 K) T.as O8 (A8 (pv 3) B3)) B3))) (fun _ _=>rfl)) B3))))) C8)
   (B5 (C2 (pv 2)))))),?_⟩
  refine B9 fun N1 hN1=>?_;refine A7 rfl (A7 rfl ⟨p,v,g,ks,A,B,rfl,hV,by omega,fun m lo=>?_⟩);refine⟨p,v,m,g,ks,A,B,rfl,hV,by omega,fun l H1 hl s1 el=>?_⟩;have sub:=Gi g m;refine hN1 _ _ (B9 fun N2 hN2=>?_);refine A7 rfl ⟨v,_,C0 rfl rfl ⟨IG.of (s1 _ _ e1),rfl,n,rfl,⟨_,IG.of (s1 _ _ e2)⟩,fun D hD=>?_⟩⟩;refine Ea (r:=V.str) V.str (MN (IG.of (s1 _ _ e2))) (fun y=>!decide (y∈IQ g m)) (by omega) hD (fun y t G R M hM=>A7 rfl (A7 rfl (Cr (.inl (IG.of (R _ _ el))) ⟨_,rfl,hM G fun b o e=>e⟩))) (fun y t G R M hM=>A7 rfl hM) fun σ' G R S=>?_;have S:G D=some (.lst ((g.filter fun y=>!decide (y∈IQ g m)).map V.str)):=S;have I:∀y∈g.filter (fun y=>!decide (y∈IQ g m)),y∈g/\y∉IQ g m:=fun y t=>by
   obtain⟨a,b⟩:=BM.mp t;exact⟨a,by simpa using b⟩
  have lrs:(g.filter fun y=>!decide (y∈IQ g m)).length<=12:=Nat.le_trans (BP ..) ln;generalize (g.filter fun y=>!decide (y∈IQ g m))=C at S I lrs;refine hN2 _ _ (B9 fun N3 U=>?_);refine A7 rfl ⟨CF _,fun z N=>⟨sd C,.list [],U1 (IG.of ((HY.new N) _ _ S)),by simp only[Rp,NV];exact⟨z,_,rfl,IG.of A9,rfl⟩,o9 (fun y t=>nm y (I y t).1),⟨rfl,by simp[PyData.depth,PyData.depthAll]⟩,?_⟩⟩;rw[Ly];have s2:=(s1.trans R).trans (HY.new (o:=.lst []) N);have J:=HY.new (o:=.lst []) N _ _ S;have x:=HY.new (o:=.lst []) N _ _ (R _ _ el);generalize IB G z (.lst [])=G2 at s2 J x⊢;have L2:=hL.same s2;have ls:=sub.length_le;have W:((IQ g m).map V.str).length =(IQ g m).length:=AB ..;have lr:(C.map V.str).length=C.length:=AB ..;refine⟨_,rfl,T8 (fun c1=>?_) fun c1=>U _ _ (A7 rfl (q l _ c G2 hl s2.sm x (fun y t=>sub.subset t) (nd.sublist sub) (by omega) L2))⟩;have hne:0<C.length:=by
   cases C with
   | nil=>exact absurd c1 (by decide)
   | cons a b=>exact Nat.succ_pos _
  have L:p≠l:=B0 hL.get hl;have X:p≠D:=fun e=>by
   obtain⟨_,_,Y,_⟩:=L2;rw[e,J]at Y;have Y:=HO.lst.inj (BG Y);cases C with
   | nil=>cases Y
   | cons a b=>cases(GW Y).1
  refine A7 rfl ⟨.inl ⟨rfl,_,IG.of x⟩,A7 rfl (A7 rfl (C0 (a:=l) rfl (.inl (IG.of x)) (C0 rfl rfl (Y7 (a:=p) rfl L2 (by omega) (by rw[W];omega) (by rw[W];omega) fun Z H3 hd1 k3 L3=>?_))))⟩;rw[W]at hd1;have el3:=JR k3 x L.symm;have eD3:=JR k3 J X.symm;refine A7 rfl (A7 rfl (A7 rfl (C0 (a:=D) rfl (.inl (IG.of eD3)) (Y7 (a:=p) rfl L3 (by omega) (by rw[lr];omega) (by rw[lr];omega) fun d2 H4 hd2 k4 L4=>?_))));rw[lr]at hd2;have el4:=JR k4 el3 L.symm;have eD4:=JR k4 eD3 X.symm;have h2:d2<C.length:=by omega
  have t:=AC h2;generalize C[d2]=y at t;obtain⟨y1,y2⟩:=I y (AM t);refine⟨D,_,C0 rfl rfl ⟨IG.of eD4,K0 (show(C.map V.str)[d2]?=some (.str y) by rw[AH,t];rfl),?_⟩⟩;refine⟨l,_,_,Z,A7 rfl ⟨rfl,rfl,el4,by rw[W];omega,by rw[W,sizeLine_eq];omega,?_⟩⟩;have pm:((IQ g m).take Z++y ::(IQ g m).drop Z).Perm (y::IQ g m):=List.perm_middle.trans (by rw[BO]);refine U _ _ (A7 rfl (q l ((IQ g m).take Z++y ::(IQ g m).drop Z) (c+1+1) _ hl ((s2.sm.trans (k3.trans k4)).updN hl) ?_ (fun z N=>?_) ?_ (by omega) (L4.upd L)))
  .rw[A9,AO,BB,List.map_take,List.map_drop]
  .rcases AU.mp (pm.mem_iff.mp N)with e | e
   .rw[e];exact y1
   .exact sub.subset e
  .rw[pm.nodup_iff];exact CL.mpr ⟨y2,nd.sublist sub⟩
theorem zCj(d:Nat)(h:d<6):∃n:Nat,n<=4/\OK [V.int 0,V.int 1,V.int 1,V.int 2,V.int 3,V.int 4] (d:Int)=some (.int (n:Int)):=by
 suffices ∃n:Nat,n<=4/\[V.int 0,V.int 1,V.int 1,V.int 2,V.int 3,V.int 4][d]?=some (.int (n:Int)) by
  obtain⟨n,a,e⟩:=this;exact⟨n,a,K0 e⟩
 match d,h with
 | 0,_=>exact⟨0,by omega,rfl⟩
 | 1,_=>exact⟨1,by omega,rfl⟩
 | 2,_=>exact⟨1,by omega,rfl⟩
 | 3,_=>exact⟨2,by omega,rfl⟩
 | 4,_=>exact⟨3,by omega,rfl⟩
 | 5,_=>exact⟨4,by omega,rfl⟩
theorem Bs:IC ["_law_left_here", "_law_names_here", "_law_rest", "_law_some_here", "_law_k"] ["_law_left_here", "_law_names_here"] (B8 NC):=JX
def Yx(K:PySem.W.Frag):Sp:=fun g H Q _=>∃(p n:A4) (c:Int) (b:A0 Str),g = [.ref p,.ref n]/\IL H p c/\c<=800000/\H n=some (.lst (b.map V.str))/\W3 b/\b.length<=12 /\
 ∀a (e:A0 Str) f d,H a=none->Sm [p] H d->PF K d a (e.map V.str)->(∀y∈e,y∈b)->e.Nodup->f<=c+6->IL d p f->Q (.ref a) d
theorem Io(T:Tx K mg):IP P w K mg base I_ 3 T.bb.f T.bb.fd ["_law_left_here", "_law_names_here"] (Yx K):=by
 have g:=O6 (P:=P) (w:=w) (base:=base) T;have sc:=Bs;refine T.bb.F.ok Bs (fun vs H Q E h=>?_) (fun cdv A outer s H vs Q E D h=>?_)
 .obtain⟨p,n,c,u,rfl,_⟩:=h;rfl
 .obtain⟨p,n,c,u,rfl,hL,hc,en,hN,l12,q⟩:=h;refine⟨_,(B4 (C5 (i:=2) sc.nd rfl (.inl rfl) (o0 (T9 K) T.az Q7 (A8 (pv 1) B3)))
   (B4 (C5 (i:=3) sc.nd rfl (.inl rfl) (M8 B3))
   (@B4 _ _ _ _ _ (@O4 _ _ _ _ _ _ _ _ PassesOwn.never rfl (Ze T.aS (@A8 _ _ _ _ _ (@E7 _ _ _ _ _ _ _ (LT K) (@M8 _ _ _ _ (@A8 _ _ _ _ _ B7 (@A8 _ _ _ _ _ B7 (@A8 _ _ _ _ _ B7 (@A8 _ _ _ _ _ B7 (@A8 _ _ _ _ _ B7 (@A8 _ _ _ _ _ B7 B3 (by rfl)) (by rfl)) (by rfl)) (by rfl)) (by rfl)) (by rfl))) (C9 T.aj g (Rm D) (A8 (pv 0) (A8 B7 B3))) (fun _ _=>rfl)) B3 (by rfl))) (D4 (i:=4) sc.nd rfl (.inl rfl))
   (B5 (K3 (C6 (Ng K D.units) (pv 2) (M8 B3) (D8 _)) (B5 (J7 (Hl K PySem.F.plainAttrs_list PySem.F.slot_list_append PySem.F.type_list_append K4 (pv 3) (A8 (Hl K PySem.F.plainAttrs_list PySem.F.slot_list_pop PySem.F.type_list_pop Ld (pv 2) (A8 (C9 T.aj g (Rm D) (A8 (pv 0) (A8 (E8 (P4 K) T.as O8 (A8 (pv 2) B3)) B3))) B3)) B3)))) C8)) (fun _=>rfl))
   (B5 (C2 (E7 (LT K) (M8 (A8 (pv 3) (A8 (o0 (Kx K) T.bf z7 (A8 (pv 3) B3)) B3))) (C9 T.aj g (Rm D) (A8 (pv 0) (A8 B7 B3))) (fun _ _=>rfl))))))),?_⟩
  refine B9 fun N1 hN1=>?_;refine A7 rfl ⟨n,_,rfl,.inl (IG.of en),fun r D=>?_⟩;have M:p≠r:=B0 hL.get D;have s1:=HY.new (o:=.lst (u.map V.str)) D;refine hN1 _ _ (B9 fun N2 hN2=>?_);refine⟨CF _,fun b hb=>?_⟩;have N:H b=none:=s1.free hb;have v:p≠b:=B0 hL.get N;have O:r≠b:=B0 A9 hb;have S:=s1.trans (HY.new (o:=.lst []) hb);have er:(IB (IB H r (.lst (u.map V.str))) b (.lst [])) r=some (.lst (u.map V.str)):=by rw[B6 O,A9]
  have l:(IB (IB H r (.lst (u.map V.str))) b (.lst [])) b=some (.lst []):=A9;generalize IB (IB H r (.lst (u.map V.str))) b (.lst [])=H2 at S er l⊢;refine hN2 _ _ (B9 fun N3 hN3=>?_);refine⟨by show 6<=sizeLine;decide,fun t ht=>?_⟩;have U:=HY.new (o:=.lst [.int 0,.int 1,.int 1,.int 2,.int 3,.int 4]) ht;have B:p≠t:=B0 (hL.same S).get ht;refine A7 rfl (Y7 (a:=p) (b:=c) rfl (hL.same (S.trans U)) (by omega) (by decide) (by decide) fun d H3 hd R L3=>?_);obtain⟨W,o1,eo⟩:=zCj d (by omega);refine⟨t,_,C0 rfl rfl ⟨IG.of (JR R A9 B.symm),eo,?_⟩⟩;refine A7 (a:=(W:Int)) rfl ⟨by omega,by omega,?_⟩;rw[CH];have er:=JR R (U _ _ er) M.symm;have l:=JR R (U _ _ l) v.symm;have R:=(S.trans U).sm.trans R;clear U ht B S s1;refine O7 (fun i σ G=>(∃v4,σ = [some (.ref p),some (.ref n),some (.ref r),some (.ref b),v4])/\Sm [p] H G/\(∃I,I<=c+1+i/\IL G p I)/\∃e k:A0 Str,G r=some (.lst (e.map V.str))/\G b=some (.lst (k.map V.str))/\(e++k).Perm u) ?_ ?_ ?_
  .exact⟨⟨_,rfl⟩,R,⟨_,by omega,L3⟩,u,[],er,l,by rw[CJ]⟩
  .rintro i σ G hi ⟨⟨v4,rfl⟩,J,⟨I,hc',m⟩,e,k,er,l,L⟩ D1 X _;have lp:=L.length_eq;rw[AV]at lp;have lr:(e.map V.str).length=e.length:=AB ..;have nm:∀y∈e,Q0 y=true:=fun y hy=>hN.1 y (L.mem_iff.mp (EU _ hy));refine A7 rfl ⟨CF _,fun z hz=>⟨sd e,.list [],U1 (IG.of ((HY.new hz) _ _ er)),by simp only[Rp,NV];exact⟨z,_,rfl,IG.of A9,rfl⟩,o9 nm,⟨rfl,by simp[PyData.depth,PyData.depthAll]⟩,?_⟩⟩;rw[Ly];have uz:=HY.new (o:=.lst []) hz;have er:=uz _ _ er;have l:=uz _ _ l;have m:=m.same uz;have J:=J.trans uz.sm;generalize IB G z (.lst [])=G1 at er l m J⊢;refine⟨_,rfl,T8 (fun c1=>?_) fun c1=>X _ _ ⟨⟨_,rfl⟩,J,⟨I,by omega,m⟩,e,k,er,l,L⟩⟩;have hne:0<e.length:=by
    cases e with
    | nil=>exact absurd c1 (by decide)
    | cons a b=>exact Nat.succ_pos _
   refine A7 rfl ⟨.inl ⟨rfl,_,IG.of l⟩,A7 rfl ⟨.inl ⟨rfl,_,IG.of er⟩,A7 rfl (A7 rfl (C0 (a:=r) rfl (.inl (IG.of er)) (Y7 (a:=p) (b:=I) rfl m (by omega) (by omega) (by omega) fun d H2 hd k2 L2=>?_)))⟩⟩;rw[lr]at hd;have Y:d<e.length:=by omega
   have hx:=AC Y;generalize e[d]=x at hx;have er2:=JR k2 er M.symm;have eb2:=JR k2 l v.symm;refine⟨r,_,_,d,.str x,rfl,rfl,er2,by omega,by omega,six (by rw[lr];exact Y),by rw[AH,hx];rfl,b,C0 rfl rfl ⟨by rw[B6 O.symm];exact eb2,by rw[AB,sizeLine_eq];omega,?_⟩⟩;refine X _ _ ⟨⟨_,rfl⟩,?_,⟨I+1,by omega,?_⟩,e.eraseIdx d,k ++ [x],?_,?_,Kz L hx⟩
   .exact((J.trans k2).updN D).updN N
   .exact(L2.upd M).upd v
   .rw[B6 O,A9,Al]
   .rw[A9,AO];rfl
  .rintro σ G ⟨⟨v4,rfl⟩,J,⟨I,hc',m⟩,e,k,er,l,L⟩;refine hN3 _ _ ?_;have lp:=L.length_eq;rw[AV]at lp;have sub:∀y∈k,y∈u:=fun y hy=>L.mem_iff.mp (BI _ hy);have nd:k.Nodup:=(DX.mp (L.nodup_iff.mpr hN.2.1)).2.1;refine A7 rfl (A7 rfl ⟨b,_,rfl,.inl ⟨IG.of l,fun tu C=>?_⟩⟩);have u1:=HY.new (o:=.tup (k.map V.str)) C;have Z:H tu=none:=J.none (fun y=>B0 m.get C (AF.mp y).symm) C;refine⟨by show 2<=sizeLine;decide,fun ls hls=>?_⟩;have u2:=HY.new (o:=.lst [.ref b,.ref tu]) hls;have npl:p≠ls:=B0 ((m.same u1).get) hls;have B:p≠tu:=B0 m.get C;refine A7 rfl (Y7 (a:=p) (b:=I) rfl (m.same (u1.trans u2)) (by omega) (by decide) (by decide) fun d H5 hd k5 L5=>?_);have eb5:=JR k5 (u2 _ _ (u1 _ _ l)) v.symm;have et5:=JR k5 (u2 _ _ A9) B.symm;have k6:=(J.trans (u1.trans u2).sm).trans k5;rcases(show d=0\/d=1 by omega)with rfl | rfl
   .exact⟨ls,_,C0 rfl rfl ⟨IG.of (JR k5 A9 npl.symm),K0 (j:=0) rfl,q b k _ H5 N k6 (.inl (IG.of eb5)) sub nd (by omega) L5⟩⟩
   .exact⟨ls,_,C0 rfl rfl ⟨IG.of (JR k5 A9 npl.symm),K0 (j:=1) rfl,q tu k _ H5 Z k6 (.inr (JM.of et5)) sub nd (by omega) L5⟩⟩
end
def MB.one{ns:A0 Str}{ks:A0 (Str×Str)}{A a:A0 Nat}(h:MB ns ks A)(h':MB ns ks a)(i:Nat):A.getD i 0=a.getD i 0:=BR fun j=>BZ.mpr ((h.bit i j).trans (h'.bit i j).symm)
def KP(H H':Hp):Prop:=∀b o,H b=some o->(∀a,o≠ .tbl a)->H' b=some o
def KP.of{H H':Hp}{a:A4}{ls:A0 (Pos×Str)}(t:E9 H a ls)(k:Sm [a] H H'):KP H H':=fun b o e n=>k b o e fun z=>by
 obtain⟨c,d,_⟩:=t;rw[AF.mp z,d]at e;cases e;exact n c rfl
def KP.trans{H H' c:Hp}(a:KP H H')(b:KP H' c):KP H c:=fun x o e n=>b x o (a x o e n) n
def KP.same{H H':Hp}(a:HY H H'):KP H H':=fun x o e _=>a x o e
def KP.web{C:A4}{H H':Hp}{x:A4}{ns:A0 Str}{g:A0 JD}(k:KP H H')(h:JL C H x ns g):JL C H' x ns g:=by
 obtain⟨i,j,a,b,c,d,m,o,p,r,s,t,u,w,y,A⟩:=h;exact⟨i,j,a,b,c,d,m,o,k _ _ p (fun _ z=>by cases z),k _ _ r (fun _ z=>by cases z),k _ _ s (fun _ z=>by cases z),fun q B=>k _ _ (t q B) (fun _ z=>by cases z),k _ _ u (fun _ z=>by cases z),k _ _ w (fun _ z=>by cases z),fun n f=>let⟨l,v,e⟩:=y n f;⟨l,v,k _ _ e (fun _ z=>by cases z)⟩,fun n f=>let⟨l,v,e⟩:=A n f;⟨l,v,k _ _ e (fun _ z=>by cases z)⟩⟩
def KP.view{H H':Hp}{p v:A4}{ns:A0 Str}{ks:A0 (Str×Str)}{A B:A0 Nat}(k:KP H H')(h:I7 H p v ns ks A B):I7 H' p v ns ks A B:=by
 obtain⟨⟨a,b,c,d,e,f,g,i,j,l,m⟩,n,o⟩:=h;exact⟨⟨a,b,c,k _ _ d (fun _ z=>by cases z),k _ _ e (fun _ z=>by cases z),k _ _ f (fun _ z=>by cases z),k _ _ g (fun _ z=>by cases z),i,j,l,m⟩,n,o⟩
def KP.sqs{K:PySem.W.Frag}{H H':Hp}{a:A4}{xs:A0 V}(k:KP H H')(h:PF K H a xs):PF K H' a xs:=by
 rcases h with((h | ⟨o,h⟩) | h) | ((h | ⟨o,h⟩) | h)
 .exact .inl (.inl (.inl (k _ _ h (fun _ z=>by cases z))))
 .exact .inl (.inl (.inr ⟨o,k _ _ h (fun _ z=>by cases z)⟩))
 .exact .inl (.inr h)
 .exact .inr (.inl (.inl (k _ _ h (fun _ z=>by cases z))))
 .exact .inr (.inl (.inr ⟨o,k _ _ h (fun _ z=>by cases z)⟩))
 .exact .inr (.inr h)
def Dn{H H':Hp}{a:A4}{ls:A0 (Pos×Str)}(k:HY H H')(t:E9 H a ls):E9 H' a ls:=by
 obtain⟨b,e,t,h⟩:=t;exact⟨b,k _ _ e,t,fun l d=>(h l d).imp id fun⟨c,e,f⟩=>⟨c,e,k _ _ f⟩⟩
def Zk{H:Hp}{d l:A4}{ls:A0 (Pos×Str)}{xs:A0 V}{o:HO}(e:H l=some (.lst xs))(t:E9 H d ls):E9 (IB H l o) d ls:=by
 obtain⟨f,a,t,h⟩:=t;exact⟨f,(B6 (fun z=>by rw[z,e]at a;cases a)).trans a,t,fun x g=>(h x g).imp id fun⟨c,i,b⟩=>⟨c,i,(B6 (fun z=>by rw[z,e]at b;cases b)).trans b⟩⟩
def Xl(x:Nat)(a:A0 Nat):RB (.int (x:Int)) (a.map I0)=decide (x∈a):=by
 unfold RB;rw[List.any_map]
 induction a with
 | nil=>rfl
 | cons y r b =>
  rw[FP,b];show(((y:Int) ==(x:Int))||decide (x∈r))=decide (x∈y::r);by_cases e:x=y
  .subst e;simp
  .have:((y:Int) ==(x:Int))=false:=by rw[beq_eq_false_iff_ne];omega
   rw[this,Bool.false_or];simp[e]
def Rx(a:A0 Nat):(a.map I0).all Bz=true:=by
 rw[EQ];intro v b;obtain⟨x,_,rfl⟩:=AR.mp b;rfl
def Sv(a:A0 Str):PyData:=.tuple [.str "told",sd a]
def Oq{K:PySem.W.Frag}{H:Hp}{t l:A4}{a:A0 Str}(e:H t=some (.tup [.str "told",.ref l]))(b:H l=some (.lst (a.map V.str))):Rp K H (Sv a) (.ref t):=by
 unfold Sv;simp only[Rp,NV];exact⟨t,_,rfl,JM.of e,_,_,rfl,rfl,_,_,rfl,U1 (IG.of b),rfl⟩
def Xc{a:A0 Str}(h:∀x∈a,Q0 x=true):Pl (Sv a):=by
 have p:=o9 h;have d:=n8 a;refine⟨?_,?_⟩
 .unfold Sv;rw[PyData.canLay0,PyData.canLayAll0,PyData.canLayAll0,p.1];decide +kernel
 .unfold Sv sd;simp only[PyData.depth,PyData.depthAll];omega
section
variable{P:F8}{w:H_}{K:PySem.W.Frag}{mg:Str->A6 A3}{base:IA}
theorem T7:IC ["_law_view", "_law_masks_here", "_law_web", "_law_some_here", "_law_mask", "_law_found", "_law_kept_here", "_law_told"] ["_law_view", "_law_masks_here", "_law_web", "_law_some_here"] (B8 KI):=JX
def Fv(K:PySem.W.Frag)(i c:A4):Sp:=fun j H Q _=>∃(p v m h a:A4) (b:A0 Str) (l:A0 (Str×Str)) (A B:A0 Nat) (d:A0 JD) (e:A0 Nat) (f:A0 Str),j = [.ref v,.ref m,.ref h,.ref a]/\I7 H p v b l A B/\H m=some (.lst (e.map I0))/\(∀m,m∈e↔Mw b.length A B m)/\e.length<=4096 /\
 JL i H h b d/\MB b ((d.map fun q=>q.2).map fun k=>(k.2,k.1)) A/\MB b (d.map fun q=>q.2) B/\b.length<=12/\b.Nodup/\b.Pairwise ON/\(∀y∈b,Q0 y=true)/\PF K H a (f.map V.str)/\(∀y∈f,y∈b)/\f.Nodup/\E9 H c C1 /\
 ∀g,Sm [c] H g->E9 g c C1->Q (.bl true) g
set_option maxHeartbeats 4000000 in
theorem n0(T:Tx K mg)(hB:base.BuiltinsAt mg T.aa):IP P w K mg base I_ 23 T.au.f T.au.fd ["_law_view", "_law_masks_here", "_law_web", "_law_some_here"] (Fv K T.af T.aa):=by
 have g:=Cj (P:=P) (w:=w) (base:=base) T;have n:=p8 (P:=P) (w:=w) (base:=base) T;have d:IP P w K mg base I_ 22 T.ap.f T.ap.fd ["web", "some"] (Si K T.af T.aa):=w9 T hB;have sc:=T7;refine T.au.F.ok T7 (fun vs H Q E h=>?_) (fun cdv A outer s H vs Q E N h=>?_)
 .obtain⟨p,v,m,wb,a,c,ks,A,B,qs,Ms,ss,rfl,_⟩:=h;rfl
 .obtain⟨p,v,m,wb,a,c,ks,A,B,qs,Ms,ss,rfl,hV,em,mm,lM,hW,mA,mB,Y,nd,srt,nmn,ha,sub,nds,hT,q⟩:=h;refine⟨_,(B4 (C5 (i:=4) sc.nd rfl (.inr rfl) (C9 T.aL g (Rm N) (A8 (pv 0) (A8 (pv 3) B3))))
   (B4 (C5 (i:=5) sc.nd rfl (.inl rfl) (C9 T.ap d (Rm N) (A8 (pv 2) (A8 (pv 3) B3))))
   (B4 (K3 (PW.pt (Ev (U7 (W0 (E8 (Bp K) T.aI O1 (A8 (pv 5) (A8 (Os T.bf z7) B3))))) (j4 (C6 Rt (E8 (P4 K) T.as O8 (A8 (pv 5) B3)) B7 (D8 _))))) (B5 (C2 Hi)) C8)
   (B4 (K3 (U7 (W0 (E8 (zCa K) T.bI zAg (A8 (X0 (N':=["_law_one", "_law_mask"]) (cap:=[none,some 4]) (cl:=[("_law_mask",_)]) (P9 ⟨⟨rfl,rfl,rfl,rfl⟩,trivial⟩ ⟨rfl,trivial⟩) rfl (MZ K (pv 1)) (fun _ _ _ _=>by exact⟨(MI 0),K1,(P1 X5 (C7 O9 (pv 1) (Jf Ks (pv 0))) B7 (D8 _))⟩)) B3)))) (B5 (C2 (P1 X5 (E7 (QA K) (pv 5) B7 (fun _ _=>rfl)) W1 (D8 _)))) C8)
   (B4 (K3 (PW.pt (Ev (C6 Rt (E7 (QA K) (pv 5) B7 (fun _ _=>rfl)) W1 (D8 _)) (j4 (U7 (W0 (E8 (Bp K) T.aI O1 (A8 (E7 (QA K) (pv 5) B7 (fun _ _=>rfl)) (A8 (Os T.az Q7) B3)))))))) (B5 (C2 Hi)) C8)
   (B4 (C5 (i:=6) sc.nd rfl (.inl rfl) (o0 (T9 K) T.az Q7 (A8 (E7 (QA K) (pv 5) B7 (fun _ _=>rfl)) B3)))
   (B4 (K3 (PW.pt (Ev (C6 (Ng K N.units) (pv 6) (E8 (Tu w) T.aZ W7 (A8 (o0 (Yt K w) T.bo Rg (A8 (pv 6) B3)) B3)) (D8 _)) (j4 (U7 (W0 (E8 (Wn K) T.bA Wk (A8 (X0 (N':=["_law_name", "_law_view"]) (cap:=[none,some 0]) (cl:=[("_law_view",_)]) (P9 ⟨⟨rfl,rfl,rfl,rfl⟩,trivial⟩ ⟨rfl,trivial⟩) rfl (MZ K (pv 6)) (fun _ _ _ _=>by exact⟨(MI 0),K1,(C9 T.aK n (Rm N) (A8 (pv 1) (A8 (pv 0) B3)))⟩)) B3))))))) (B5 (C2 Hi)) C8)
   (B4 (C5 (i:=7) sc.nd rfl (.inl rfl) (C9 T.aL g (Rm N) (A8 (pv 0) (A8 (pv 6) B3))))
   (B4 (J7 (Hl K PySem.F.plainAttrs_list PySem.F.slot_list_append PySem.F.type_list_append K4 (E7 (QA K) (pv 5) B7 (fun _ _=>rfl)) (A8 W1 B3)))
   (B5 (C2 (Gp (P1 (Uy K) (pv 7) (pv 1) rfl) (Gp (P1 X5 (C7 O9 (pv 4) (Jf Ks (pv 7))) B7 (D8 _)) (Lu (P1 (zDj K N.units) (C9 T.ap d (Rm N) (A8 (pv 2) (A8 (pv 3) B3))) (G0 (A8 W1 (A8 (pv 6) B3))) (D8 _)))))))))))))))),?_⟩
  have net:QU c.length A B:=by
   have:=MB.net mA mB;exact this
  have lss:ss.length<=12:=Nat.le_trans (nds.length_le_of_subset sub) Y;refine B9 fun N1 hN1=>?_;refine A7 rfl (A7 rfl ⟨p,v,a,c,ks,A,B,ss,rfl,hV,nd,by omega,ha,sub,fun mk lo hm=>?_⟩);refine hN1 _ _ (B9 fun N2 hN2=>?_);have go:∀{A1 B1:A0 Nat} {L1 m1:Nat},MB c ((qs.map fun q=>q.2).map fun k=>(k.2,k.1)) A1->MB c (qs.map fun q=>q.2) B1->LC c.length m1->(∀(j:Nat) y,c[j]?=some y->(m1.testBit j=true↔y∈ss))->m1=mk/\M0 A1 B1 c.length L1 13 m1=M0 A B c.length L1 13 mk:=fun{A1 B1 L1 m1} a1 b1 l1 h1=>by
   have e:m1=mk:=BR fun j=>by
    by_cases O:j<c.length
    .exact BZ.mpr ((h1 j _ (AC O)).trans (hm j _ (AC O)).symm)
    .rw[B_.mpr fun z=>O (l1 j z),B_.mpr fun z=>O (lo j z)]
   subst e;exact⟨rfl,by rw[He (a1.one mA) (b1.one mB)]⟩
  have R:∀L1,(∃S,S∈Ms/\Sub mk S)↔M0 A B c.length L1 13 mk≠none:=fun L1=>by
   refine⟨fun⟨S,hS,s⟩=>Dm net ((mm S).mp hS) 13 mk s (by omega),fun h=>?_⟩;cases e:M0 A B c.length L1 13 mk with
   | none=>exact absurd e h
   | some r =>
    obtain⟨h1,h2⟩:=q9 net 13 mk r lo e;exact⟨r,(mm r).mpr h1,h2⟩
  have bitE:∀(S:Nat) {M:VK} {G:Hp},M (.bl (pB (Sub mk S))) G->M (.bl (decide (V.int (Builtin.bitAnd (mk:Int) (Builtin.bitNot (S:Int)))=V.int 0))) G:=fun S M G h=>by
   rw[<-Zl (show decide (V.int (Builtin.bitAnd (mk:Int) (Builtin.bitNot (S:Int)))=V.int 0)=true↔Sub mk S from Q8 mk S)]at h;exact h
  have anyE:∀(L1:Nat),(Ms.map fun S=>pB (Sub mk S)).any id =(M0 A B c.length L1 13 mk).isSome:=fun L1=>BZ.mpr (by
   rw[HS,Option.isSome_iff_ne_none,<-R L1];constructor
   .rintro⟨_,hb,z⟩;obtain⟨S,hS,rfl⟩:=AR.mp hb;exact⟨S,hS,MK.mp z⟩
   .rintro⟨S,hS,z⟩;exact⟨_,AR.mpr ⟨S,hS,rfl⟩,MK.mpr z⟩)
  refine A7 rfl (A7 rfl ⟨wb,a,c,qs,ss,rfl,hW,Y,ha,sub,nds,by omega,hT,fun A1 B1 L1 m1 mA1 mB1 hL1 lo1 hm1=>?_⟩);obtain⟨e1,es⟩:=go (L1:=L1) mA1 mB1 lo1 hm1;rw[es];have tupIs:∀{G:Hp} {t:A4} {xs:A0 V},G t=some (.tup xs)->LU K G (.ref t) (.type "tuple"):=fun e=>.tup e;refine⟨fun r N t l H1 Z T1 ht hl J X=>?_,fun hn t l H1 Z T1 ht J=>?_⟩
  .have kp:=KP.of hT Z;have u:H1 m=some (.lst (Ms.map I0)):=kp _ _ em (fun _ z=>by cases z);refine hN2 _ _ (B9 fun N3 hN3=>?_);refine A7 rfl ⟨.ref t, "tuple",_,true,rfl,.tup J,rfl,⟨_,rfl,u0 (A7 rfl ⟨t,_,rfl,.inr (JM.of J),rfl,_,rfl,u0 (hN3 _ _ (B9 fun N4 hN4=>?_))⟩)⟩⟩;refine A7 rfl ⟨m,rfl,⟨_,IG.of u⟩,fun D hD=>Ea (r:=I0) (fun S=>V.bl (pB (Sub mk S))) (MN (IG.of u)) (fun _=>true) (by omega) hD (fun y _ G I M U=>U G fun b o e=>e) (fun S hS G I M U=>A7 rfl (A7 rfl ⟨_,rfl,C0 rfl rfl ⟨rfl,bitE S U⟩⟩)) fun σ' G I eG=>⟨D,Ms.map fun S=>pB (Sub mk S),rfl,IG.of (by rw[eG,DU.mpr fun _ _=>rfl,CB];rfl),?_⟩⟩;rw[anyE L1,N];refine⟨_,rfl,u0 (hN4 _ _ (B9 fun N5 hN5=>?_))⟩;have Z:=Z.trans I.sm;have kp:=kp.trans (KP.same I);have T1:=Dn I T1;have J:=I _ _ J;have X:=I _ _ X;have u:=I _ _ u;clear eG hD σ' D;obtain⟨rst,rsub⟩:=q9 net 13 mk r lo N;have rlo:LC c.length r:=rst.1;have L:=Gi c r;have klen:(IQ c r).length<=12:=Nat.le_trans L.length_le Y;have knd:(IQ c r).Nodup:=nd.sublist L;have ksr:(IQ c r).Pairwise ON:=srt.sublist L;have W:∀y∈IQ c r,y∈c:=fun y hy=>L.subset hy;have knm:∀y∈IQ c r,Q0 y=true:=fun y hy=>nmn y (W y hy);have kbit:∀(j:Nat) y,c[j]?=some y->(r.testBit j=true↔y∈IQ c r):=fun j y O=>by
    rw[NT];exact⟨fun z=>⟨j,z,O⟩,fun⟨k,z,hk⟩=>by rw[O0 nd O hk];exact z⟩
   refine A7 rfl ⟨t,_,C0 rfl rfl ⟨JM.of J,K0 (j:=0) rfl,rfl,_,rfl,u0 (A7 rfl ⟨t,_,C0 rfl rfl ⟨JM.of J,K0 (j:=1) rfl,.ref l, "list",_,true,rfl,.lst X,rfl,_,rfl,u0 (hN5 _ _ (B9 fun N6 hN6=>?_))⟩⟩)⟩⟩;refine A7 rfl ⟨t,_,C0 rfl rfl ⟨JM.of J,K0 (j:=1) rfl,l,_,rfl,.inl (IG.of X),fun k hk=>?_⟩⟩;have uk:=HY.new (o:=.lst ((IQ c r).map V.str)) hk;have ek:(IB G k (.lst ((IQ c r).map V.str))) k=some (.lst ((IQ c r).map V.str)):=A9;have nkl:k≠l:=(B0 X hk).symm;generalize IB G k (.lst ((IQ c r).map V.str))=G1 at uk ek⊢;refine hN6 _ _ (B9 fun N7 hN7=>?_);refine A7 rfl (A7 rfl ⟨k,IQ c r,rfl,.inl (IG.of ek),knd,by omega,fun S1 hS1=>⟨S1,IQ c r,rfl,A9,fun so ss' hso pm' srt'=>?_⟩⟩);have e':ss'=IQ c r:=Cq srt' ksr pm';subst e';have u2:=uk.trans ((HY.new (o:=Ph w S1 (IQ c r)) hS1).trans (HY.new (o:=.lst ((IQ c r).map V.str)) hso));have x:=HY.new (o:=.lst ((IQ c r).map V.str)) hso _ _ (HY.new (o:=Ph w S1 (IQ c r)) hS1 _ _ ek);have eso:(IB (IB G1 S1 (Ph w S1 (IQ c r))) so (.lst ((IQ c r).map V.str))) so=some (.lst ((IQ c r).map V.str)):=A9;generalize IB (IB G1 S1 (Ph w S1 (IQ c r))) so (.lst ((IQ c r).map V.str))=G2 at u2 x eso⊢;refine Fh (U1 (IG.of x)) (U1 (IG.of eso)) (o9 knm) ⟨_,rfl,u0 ?_⟩;refine A7 rfl ⟨k,rfl,⟨_,IG.of x⟩,fun D hD=>Ea (r:=V.str) (fun y=>V.bl true) (MN (IG.of x)) (fun _=>true) (by omega) hD (fun y _ G I M U=>U G fun b o e=>e) (fun y hy G3 s3 M U=>A7 rfl (A7 rfl ⟨p,v,c,ks,A,B,y,rfl,(kp.trans (KP.same (u2.trans s3))).view hV,by rw[BD (W y hy)];exact U⟩)) fun σ' G3 s3 e3=>⟨D,(IQ c r).map fun _=>true,rfl,IG.of (by rw[e3,DU.mpr fun _ _=>rfl,CB];rfl),?_⟩⟩;rw[show((IQ c r).map fun _=>true).all id=true from EQ.mpr fun b hb=>by obtain⟨_,_,rfl⟩:=AR.mp hb;rfl];refine⟨_,rfl,u0 (hN7 _ _ (B9 fun N8 hN8=>?_))⟩;have s4:=u2.trans s3;have ek:=s3 _ _ x;have Z:=Z.trans s4.sm;have kp:=kp.trans (KP.same s4);have T1:=Dn s4 T1;have J:=s4 _ _ J;have X:=s4 _ _ X;have u:=s4 _ _ u;clear e3 hD σ' D s3 s4 u2 x eso hso pm' srt' hS1 uk;refine A7 rfl (A7 rfl ⟨p,v,k,c,ks,A,B,IQ c r,rfl,kp.view hV,nd,by omega,.inl (IG.of ek),W,fun C lo2 hm2=>?_⟩);have e2:C=r:=BR fun j=>by
    by_cases O:j<c.length
    .exact BZ.mpr ((hm2 j _ (AC O)).trans (kbit j _ (AC O)).symm)
    .rw[B_.mpr fun z=>O (lo2 j z),B_.mpr fun z=>O (rlo j z)]
   subst e2;refine hN8 _ _ (B9 fun N9 hN9=>?_);refine A7 rfl ⟨t,_,C0 rfl rfl ⟨JM.of J,K0 (j:=1) rfl,.inl ⟨rfl,_,IG.of X⟩,l,C0 rfl rfl ⟨X,by rw[AB,sizeLine_eq];omega,?_⟩⟩⟩;have T2:=Zk (o:=.lst ((IQ c C).map V.str ++ [V.str "q"])) X T1;have k2:Sm [T.aa] H (IB G3 l (.lst ((IQ c C).map V.str ++ [V.str "q"]))):=Z.updN hl;have kp2:=KP.of hT k2;have x:(IB G3 l (.lst ((IQ c C).map V.str ++ [V.str "q"]))) k=some (.lst ((IQ c C).map V.str)):=(B6 nkl).trans ek;generalize IB G3 l (.lst ((IQ c C).map V.str ++ [V.str "q"]))=G4 at T2 k2 kp2 x⊢;refine hN9 _ _ ?_;refine A7 rfl (A7 rfl ⟨m,_,rfl,.inl (IG.of (kp2 _ _ em (fun _ z=>by cases z))),rfl,Rx Ms,?_⟩);rw[AJ (by decide),Xl,BD ((mm C).mpr rst)];refine⟨true,rfl,Yp (A7 rfl (A7 rfl ⟨_,rfl,C0 rfl rfl ⟨rfl,?_⟩⟩))⟩;dsimp only;rw[show decide (V.int (Builtin.bitAnd (mk:Int) (Builtin.bitNot (C:Int)))=V.int 0)=true from(Q8 mk C).mpr rsub];refine⟨true,rfl,Yp ?_⟩;refine A7 rfl (A7 rfl ⟨wb,a,c,qs,ss,rfl,kp2.web hW,Y,kp2.sqs ha,sub,nds,by omega,T2,fun A2 B2 L2 m2 mA2 mB2 hL2 lo2' hm2'=>?_⟩);obtain⟨e3,es2⟩:=go (L1:=L2) mA2 mB2 lo2' hm2';have eL:L2=L1:=BR fun j=>BZ.mpr ((hL2 j).trans (by rw[mA2.one mA1 j];exact(hL1 j).symm));rw[es2,eL];refine⟨fun r2 hr2 t2 l2 H5 k5 T5 ht2 hl2 et2 el2=>?_,fun hn2=>absurd hn2 (by rw[N];intro z;cases z)⟩;rw[N]at hr2;obtain rfl:=BG hr2;refine A7 rfl ⟨by show 2<=sizeLine;decide,fun t3 ht3=>?_⟩;have u3:=HY.new (o:=.tup [.str "told",.ref k]) ht3;have ek5:=KP.of T2 k5 _ _ x (fun _ z=>by cases z);refine Yk (Oq (u3 _ _ et2) (u3 _ _ el2)) (Oq A9 (u3 _ _ ek5)) (Xc knm) ?_;exact q _ ((k2.trans k5).trans u3.sm) (Dn u3 T5)
  .have kp:=KP.of hT Z;have u:H1 m=some (.lst (Ms.map I0)):=kp _ _ em (fun _ z=>by cases z);refine hN2 _ _ (B9 fun N3 hN3=>?_);refine A7 rfl ⟨.ref t, "tuple",_,true,rfl,.tup J,rfl,⟨_,rfl,u0 (A7 rfl ⟨t,_,rfl,.inr (JM.of J),rfl,_,rfl,u0 (hN3 _ _ (B9 fun N4 hN4=>?_))⟩)⟩⟩;refine A7 rfl ⟨m,rfl,⟨_,IG.of u⟩,fun D hD=>Ea (r:=I0) (fun S=>V.bl (pB (Sub mk S))) (MN (IG.of u)) (fun _=>true) (by omega) hD (fun y _ G I M U=>U G fun b o e=>e) (fun S hS G I M U=>A7 rfl (A7 rfl ⟨_,rfl,C0 rfl rfl ⟨rfl,bitE S U⟩⟩)) fun σ' G I eG=>⟨D,Ms.map fun S=>pB (Sub mk S),rfl,IG.of (by rw[eG,DU.mpr fun _ _=>rfl,CB];rfl),?_⟩⟩;rw[anyE L1,hn];refine⟨_,rfl,Yp ?_⟩;refine A7 rfl ⟨t,_,C0 rfl rfl ⟨JM.of (I _ _ J),K0 (j:=0) rfl,rfl,?_⟩⟩;exact q _ (Z.trans I.sm) (Dn I T1)
theorem Z0:IC ["self"] ["self"] (B8 KC):=JX
def Ch(C:A4):Sp:=fun b H Q _=>∃(x:A4) (c:A0 Str) (a:A0 JD),b = [.ref x]/\JL C H x c a/\∀l,H l=none->Q (.ref l) (IB H l (.lst (G8 a)))
theorem j0(T:Tx K mg):IP P w K mg base I_ 1 T.av.f T.av.fd ["self"] (Ch T.af):=by
 refine T.av.F.ok Z0 (fun g H Q E h=>?_) (fun i A e s H g Q E p h=>?_)
 .obtain⟨x,j,l,rfl,_⟩:=h;rfl
 .obtain⟨x,j,l,rfl,⟨q,m,a,b,c,d,r,t,n,u,o,v,y,z,B,C⟩,k⟩:=h;refine⟨_,(B5 (C2 (o0 (T9 K) T.az Q7 (A8 (NJ K (pv 0)) B3)))),?_⟩;exact⟨_,rfl,x,T.af,m,_,_,rfl,n,T.am,T.a6,rfl,b,_,rfl,.inl (IG.of o),k⟩
end
def Il{H:Hp}{p d:A4}{c:Int}{ls:A0 (Pos×Str)}(L:IL H p c)(t:E9 H d ls):p≠d:=fun z=>by
 obtain⟨a,b,e,_⟩:=L;obtain⟨g,f,_⟩:=t;rw[z,f]at e;cases e
def Xu{H H':Hp}{p f:A4}{c:Int}{ls:A0 (Pos×Str)}(L:IL H p c)(s:Sm [p] H H')(t:E9 H f ls):E9 H' f ls:=by
 have n:=Il L t;obtain⟨a,b,e,_⟩:=L;obtain⟨g,i,t,h⟩:=t;exact⟨g,JR s i n.symm,t,fun x j=>(h x j).imp id fun⟨c,k,d⟩=>⟨c,k,JR s d (fun z=>by rw[z,e]at d;cases d)⟩⟩
def Yj{H H':Hp}{p:A4}{c:Int}(L:IL H p c)(k:KP H H'):IL H' p c:=by
 obtain⟨a,b,e,r⟩:=L;exact⟨a,b,k _ _ e (fun _ z=>by cases z),r⟩
structure PD(CW:A4)(H G:Hp)(pt p v m n a x:A4)(ls:A0 (Pos×Str))(ns ss:A0 Str)(ks:A0 (Str×Str))(A B Ms:A0 Nat)(ps qs:A0 JD):Prop where
 h:Sm [pt] H G
 t:E9 G pt ls
 v:I7 G p v ns ks A B
 m:G m=some (.lst (Ms.map I0))
 n:G n=some (.lst (ss.map V.str))
 a:G a=some (.lst (G8 ps))
 p:∀q∈ps,E1 G q
 w:JL CW G x ns qs
def PD.kp{d:A4}{H G c:Hp}{b p v m n a x:A4}{ls:A0 (Pos×Str)}{ns e:A0 Str}{ks:A0 (Str×Str)}{A B f:A0 Nat}{g i:A0 JD}(t:PD d H G b p v m n a x ls ns e ks A B f g i)(k:Sm [b] G c)(t':E9 c b ls):PD d H c b p v m n a x ls ns e ks A B f g i:=by
 have kk:=KP.of t.t k;exact⟨t.h.trans k,t',kk.view t.v,kk _ _ t.m (fun _ z=>by cases z),kk _ _ t.n (fun _ z=>by cases z),kk _ _ t.a (fun _ z=>by cases z),fun q j=>kk _ _ (t.p q j) (fun _ z=>by cases z),kk.web t.w⟩
def PD.same{b:A4}{H G c:Hp}{d p v m n a x:A4}{ls:A0 (Pos×Str)}{ns e:A0 Str}{ks:A0 (Str×Str)}{A B f:A0 Nat}{g h:A0 JD}(t:PD b H G d p v m n a x ls ns e ks A B f g h)(k:HY G c):PD b H c d p v m n a x ls ns e ks A B f g h:=t.kp k.sm (Dn k t.t)
def PD.sm{d:A4}{H G f:Hp}{g p v m n a x:A4}{c:Int}{ls:A0 (Pos×Str)}{ns i:A0 Str}{ks:A0 (Str×Str)}{A B j:A0 Nat}{l r:A0 JD}(t:PD d H G g p v m n a x ls ns i ks A B j l r)(L:IL G p c)(s:H p=none)(u:m≠p)(k:Sm [p] G f):PD d H f g p v m n a x ls ns i ks A B j l r :=
 ⟨fun b o e n=>JR k (t.h b o e n) (B0 e s),Xu L k t.t,t.v.sm k,JR k t.m u,JR k t.n (L.ne t.n),JR k t.a (L.neP t.a),fun q y=>Td (t.p q y) L k,t.w.sm L k⟩
section
variable{P:F8}{w:H_}{K:PySem.W.Frag}{mg:Str->A6 A3}{base:IA}
theorem Wb:IC ["_law_script", "_law_k", "_law_left_here", "_law_names_here", "_law_strikes_here", "_law_view", "_law_masks_here", "_law_web", "_law_turn", "_law_some_here", "_law_kept_here"] ["_law_script"] (B8 MV):=JX
def Li(K:PySem.W.Frag)(b:A4):Sp:=fun c H Q _=>∃(u:A4) (a:A0 Int),c = [.ref u]/\IG K H u (a.map V.int)/\a.length<=63/\E9 H b C1/\∀d,Q (.bl true) d
set_option maxHeartbeats 8000000 in
theorem zCi(T:Tx K mg)(hB:base.BuiltinsAt mg T.aa){f:A4}{fd:IU}(F:OT K "law" "law" MV f fd):IP P w K mg base I_ 24 f fd ["_law_script"] (Li K T.aa):=by
 have O:=Jd (P:=P) (w:=w) (base:=base) T;have D:=y9 (P:=P) (w:=w) (base:=base) T;have N:=Gz (P:=P) (w:=w) (base:=base) T;have g:=Y5 (P:=P) (w:=w) (base:=base) T;have I:=y6 (P:=P) (w:=w) (base:=base) T;have R:=Io (P:=P) (w:=w) (base:=base) T;have C:IP P w K mg base I_ 23 T.au.f T.au.fd ["_law_view", "_law_masks_here", "_law_web", "_law_some_here"] (Fv K T.af T.aa):=n0 T hB;have L:=Jc (P:=P) (w:=w) (base:=base) T;have J:=V0 (P:=P) (w:=w) (base:=base) T;have r:=j0 (P:=P) (w:=w) (base:=base) T;have sc:=Wb;refine F.ok Wb (fun vs H Q E h=>?_) (fun cdv A outer s H vs Q E U h=>?_)
 .obtain⟨u,xs,rfl,_⟩:=h;rfl
 .obtain⟨u,xs,rfl,hS,hlen,hT,q⟩:=h;refine⟨_,(B4 (O4 PassesOwn.never rfl (Ze T.aS (A8 (E8 (Pr rfl) T.bG zBm (A8 B7 (A8 (E8 (Ru rfl) T.bw Wo (A8 (E8 (P4 K) T.as O8 (A8 (pv 0) B3)) (A8 B7 B3))) B3))) B3)) (D4 (i:=1) sc.nd rfl (.inl rfl))
   (B4 (C5 (i:=2) sc.nd rfl (.inl rfl) (C9 T.a9 O (Rm U) (A8 (pv 0) (A8 (pv 1) B3))))
   (B4 (Cv (C9 T.aP D (Rm U) (A8 (pv 2) B3)) (PR K (n:=2) (E2 (D4 (i:=3) sc.nd rfl (.inl rfl)) (E2 (D4 (i:=4) sc.nd rfl (.inl rfl)) S4))))
   (B4 (C5 (i:=5) sc.nd rfl (.inl rfl) (C9 T.a4 N (Rm U) (A8 (pv 3) (A8 (pv 4) B3))))
   (B4 (C5 (i:=6) sc.nd rfl (.inl rfl) (C9 T.aD g (Rm U) (A8 (pv 5) B3)))
   (B4 (C5 (i:=7) sc.nd rfl (.inl rfl) (Qr T.bF L (Rm U) rfl T.bE T.bs .nil J8 (A8 (pv 3) (A8 (pv 4) B3))))
   (B4 (O4 PassesOwn.never rfl (Ze T.aS (A8 B7 B3)) (D4 (i:=8) sc.nd rfl (.inl rfl))
   (B4 (C5 (i:=9) sc.nd rfl (.inl rfl) (C9 T.aQ I (Rm U) (A8 (pv 2) (A8 (pv 5) B3))))
   (B4 (K3 (C6 zBb (pv 8) B7 (D8 _)) (B5 (C5 (i:=9) sc.nd rfl (.inl rfl) (C9 T.bb R (Rm U) (A8 (pv 2) (A8 (pv 3) B3))))) C8)
   (B4 (C5 (i:=10) sc.nd rfl (.inl rfl) (o0 (T9 K) T.az Q7 (A8 (pv 9) B3)))
   (B5 (K3 (PW.pt (Ev (U7 (W0 (C9 T.au C (Rm U) (A8 (pv 5) (A8 (pv 6) (A8 (pv 7) (A8 (pv 9) B3))))))) (j4 (C6 (Ng K U.units) (o0 (T9 K) T.az Q7 (A8 (pv 9) B3)) (pv 10) (D8 _))))) (B5 (C2 Hi)) C8))))))
   (B5 (K3 (PW.pt (Ev (C6 (Ng K U.units) (En (pv 7) T.am T.an.m J (Rm U) T.an.b .nil J8) (E7 (LT K) (pv 5) B7 (fun _ _=>rfl)) (D8 _)) (j4 (C6 (Ng K U.units) (En (pv 7) T.am T.av.m r (Rm U) T.av.b .nil J8) (E8 (Kw K) T.aZ W7 (A8 (pv 4) B3)) (D8 _))))) (B5 (C2 Hi)) C8)))))))))
   (B5 (C2 Hi))),?_⟩
  refine B9 fun N0 hN0=>?_;refine⟨_,rfl,u,_,rfl,.inl hS,_,_,rfl,_,_,rfl,?_⟩;have hz:∀l:Int,0<=l->∃z:Nat,(if(if(6:Int)<l then 6 else l) >(3:Int)then(if(6:Int)<l then 6 else l)else 3) =(z:Int)/\z<=6:=fun l h0=>by
   by_cases h1:(6:Int)<l
   .rw[AK h1];exact⟨6,rfl,by decide⟩
   .rw[AJ h1];by_cases h2:l>3
    .rw[AK h2];exact⟨l.toNat,by omega,by omega⟩
    .rw[AJ h2];exact⟨3,rfl,by decide⟩
  obtain⟨z,ez,hz⟩:=hz ((xs.map V.int).length:Int) (by omega);refine A7 (a:=(z:Int)) (congrArg (fun t=>[V.int t]) ez) ⟨by omega,by omega,?_⟩;rw[CH];refine O7 (fun i σ G=>(∃v1 v2 v3 v4 v5 v6 v7 v8 v9 S,σ = [some (.ref u),v1,v2,v3,v4,v5,v6,v7,v8,v9,S])/\Sm [T.aa] H G/\E9 G T.aa C1) ⟨⟨_,_,_,_,_,_,_,_,_,_,rfl⟩,(fun b o e _=>e),hT⟩ ?_ fun σ G _=>hN0 _ _ (q G);rintro i σ F0 hi ⟨⟨v1,v2,v3,v4,v5,v6,v7,v8,v9,S,rfl⟩,kF,TF⟩ D1 hD1 _;rw[Int.zero_add];have kpF:=KP.of hT kF;have hSF:IG K F0 u (xs.map V.int):=by
   rcases hS with(h | ⟨o,h⟩) | h
   .exact .inl (.inl (kpF _ _ h (fun _ z=>by cases z)))
   .exact .inl (.inr ⟨o,kpF _ _ h (fun _ z=>by cases z)⟩)
   .exact .inr h
  refine Vg fun N1 hN1=>?_;refine A7 rfl (A7 rfl ⟨u,xs,i,rfl,hSF,by omega,fun p H1 hp s1 L1=>?_⟩);refine hN1 _ _ (B9 fun N2 hN2=>?_);refine A7 rfl ⟨p,0,rfl,L1,by decide,fun t n a ss ps c' H2 k2 et e2 NO l12 a2 pin2 O2 hc2 L2=>?_⟩;have s2:HY F0 H2:=fun b o e=>k2 b o (s1 b o e) (by simpa using B0 e hp);have hpH:H p=none:=kF.none (fun y=>by
   obtain⟨pp,e,_⟩:=TF;rw[AF.mp y,e]at hp;cases hp) hp
  refine⟨t,_,rfl,JM.of et,rfl,_,_,rfl,_,_,rfl,rfl,?_⟩;refine hN2 _ _ (B9 fun N3 hN3=>?_);refine A7 rfl (A7 rfl (zEq (a:=n) (b:=a) (c:=ss) (d:=ps) rfl e2 NO a2 pin2 O2 fun v ns A B H4 hv s4 pm srt V4=>?_));have V4:=V4 p _ L2.get;have ln:ns.length<=12:=by rw[pm.length_eq];exact l12
  have W:∀y∈ns,Q0 y=true:=fun y hy=>NO.1 y (pm.mem_iff.mp hy);have nd:ns.Nodup:=pm.nodup_iff.mpr NO.2.1;have L4:=L2.same s4;refine hN3 _ _ (B9 fun N4 hN4=>?_);refine A7 rfl ⟨p,v,ns,_,A,B,rfl,V4,ln,fun m Ms H5 hm s5 em ndM mm lM=>?_⟩;have nmp:m≠p:=(B0 L4.get hm).symm;have s45:=s4.trans s5;refine hN4 _ _ (B9 fun N5 hN5=>?_);refine A7 rfl (A7 rfl ?_);intro x dx nx ndx nex;have sx:HY H5 (IB (IB H5 dx (.own x)) x (.ins T.af dx [])):=fun b o e=>by
   rw[B6 (B0 e nx),B6 (B0 e ndx)];exact e
  refine zDs (a:=x) (b:=dx) (c:=n) (d:=ss) (e:=a) (f:=ps) rfl A9 (sx _ _ (s45 _ _ e2)) NO (sx _ _ (s45 _ _ a2)) (E5 sx (E5 s45 pin2)) O2 fun M Y H6 pn srn pq srq k6 W6=>⟨rfl,?_⟩;have en:M=ns:=Cq srn srt (pn.trans pm.symm);subst en;have s6:HY H5 H6:=fun b o e=>k6 b o (sx b o e) (by simpa using B0 e nx);have X:=s45.trans s6;have kp:∀k,k∈ps.map (fun q=>q.2)↔k∈Y.map fun q=>q.2:=fun k=>(pq.map _).mem_iff.symm;have mA':=V4.mA.mono (ks':=(Y.map fun q=>q.2).map fun k=>(k.2,k.1)) fun k=>by rw[AR,AR];exact⟨fun⟨j,h,e⟩=>⟨j,(kp j).mp h,e⟩,fun⟨j,h,e⟩=>⟨j,(kp j).mpr h,e⟩⟩
  have mB':=V4.mB.mono kp;have TR:PD T.af H H6 T.aa p v m n a x C1 M ss (ps.map fun q=>q.2) A B Ms ps Y:=⟨kF.trans ((s2.trans X).sm),Dn (s2.trans X) TF,V4.same (s5.trans s6),s6 _ _ em,X _ _ e2,X _ _ a2,E5 X pin2,W6⟩;have L6:=L2.same X;refine hN5 _ _ (B9 fun N6 hN6=>?_);refine⟨_,rfl,by decide,by decide,?_⟩;refine O7 (fun j σ G=>(∃v8 v9 S,σ = [some (.ref u),some (.int (i:Int)),some (.ref p),some (.ref n),some (.ref a),some (.ref v),some (.ref m),some (.ref x),v8,v9,S])/\PD T.af H G T.aa p v m n a x C1 M ss (ps.map fun q=>q.2) A B Ms ps Y/\∃c,IL G p c/\c<=1100+20*j) ⟨⟨_,_,_,rfl⟩,TR,c',L6,by omega⟩ ?_ ?_
  .rintro j σ G hj ⟨⟨v8,v9,S,rfl⟩,TG,c,LG,hc⟩ D2 hD2 _;rw[Int.zero_add];refine Vg fun M1 hM1=>?_;refine A7 rfl (A7 rfl ⟨p,v,c,M,_,A,B,rfl,LG,by omega,TG.v,nd,ln,W,fun l Z c2 G2 hl k2 el sub nds hc2 L2=>?_⟩);have T2:=TG.sm LG hpH nmp k2;refine hM1 _ _ (B9 fun M2 hM2=>?_);have key:∀(b:A4) (Z:A0 Str) (G3:Hp) (c3:Int),PD T.af H G3 T.aa p v m n a x C1 M ss (ps.map fun q=>q.2) A B Ms ps Y->IL G3 p c3->c3<=1100+20*j+20->PF K G3 b (Z.map V.str)->(∀y∈Z,y∈M)->Z.Nodup->M2 [some (.ref u),some (.int (i:Int)),some (.ref p),some (.ref n),some (.ref a),some (.ref v),some (.ref m),some (.ref x),some (.int (j:Int)),some (.ref b),S] G3:=by
    intro b Z G3 c3 T3 L3 hc3 hb sub nds;refine hM2 _ _ (B9 fun M3 hM3=>?_);refine A7 rfl ⟨b,_,rfl,hb,fun k hk=>?_⟩;have uk:=HY.new (o:=.lst (Z.map V.str)) hk;have ek:(IB G3 k (.lst (Z.map V.str))) k=some (.lst (Z.map V.str)):=A9;have hb:=(uk.at b).seq hb;have T3:=T3.same uk;have L3:=L3.same uk;generalize IB G3 k (.lst (Z.map V.str))=G4 at ek hb T3 L3⊢;refine hM3 _ _ ?_;refine A7 rfl (A7 rfl (A7 rfl (A7 rfl ⟨p,v,m,x,b,M,_,A,B,Y,Ms,Z,rfl,T3.v,T3.m,mm,lM,T3.w,mA',mB',ln,nd,srt,W,hb,sub,nds,T3.t,fun G5 k5 T5=>⟨_,rfl,u0 ?_⟩⟩)));have kk:=KP.of T3.t k5;refine A7 rfl ⟨b,_,rfl,kk.sqs hb,fun k2 hk2=>?_⟩;have u2:=HY.new (o:=.lst (Z.map V.str)) hk2;refine A7 rfl (Fh (U1 (IG.of A9)) (U1 (IG.of (u2 _ _ (kk _ _ ek (fun _ z=>by cases z))))) (o9 fun y hy=>W y (sub y hy)) ⟨_,rfl,u0 ?_⟩);exact hD2 _ _ ⟨⟨_,_,_,rfl⟩,(T3.kp k5 T5).same u2,c3,(Yj L3 kk).same u2,by omega⟩
   refine A7 rfl (C0 rfl rfl ⟨_,rfl,T8 (fun c1=>?_) fun c1=>?_⟩)
   .refine A7 rfl (A7 rfl ⟨p,n,c2,ss,rfl,L2,by omega,T2.n,NO,l12,fun b rs2 c3 G3 hb k3 hs sub3 nd3 hc3 L3=>?_⟩);exact key b rs2 G3 c3 (T2.sm L2 hpH nmp k3) L3 (by omega) hs (fun y hy=>pm.mem_iff.mpr (sub3 y hy)) nd3
   .exact key l Z G2 c2 T2 L2 (by omega) (.inl (IG.of el)) sub nds
  .rintro σ G ⟨⟨v8,v9,S,rfl⟩,TG,c,LG,hc⟩;refine hN6 _ _ ?_;have WG:=TG.w;obtain⟨okw,dw,_,_,_,_,_,_,ew,_⟩:=id WG;obtain⟨⟨va,vb,vc,ev,eva,_⟩,_,_⟩:=id TG.v;refine A7 rfl ⟨x,dw,A7 rfl ⟨ew,rfl,x,M,Y,rfl,WG,fun l hl=>?_⟩⟩;have sl:=HY.new (o:=.lst (M.map V.str)) hl;refine A7 rfl ⟨v,_,C0 rfl rfl ⟨IG.of (sl _ _ ev),K0 (j:=0) rfl,?_⟩⟩;refine Fh (U1 (IG.of A9)) (U1 (IG.of (sl _ _ eva))) (o9 W) ⟨_,rfl,u0 ?_⟩;refine A7 rfl ⟨x,dw,A7 rfl ⟨sl _ _ ew,rfl,x,M,Y,rfl,WG.same sl,fun l4 hl4=>?_⟩⟩;have s7:=sl.trans (HY.new (o:=.lst (G8 Y)) hl4);refine A7 rfl ⟨a,ps,rfl,IG.of (s7 _ _ TG.a),E5 s7 TG.p,fun l5 ps' hl5 pp srp=>?_⟩;have s8:=HY.new (o:=.lst (G8 ps')) hl5;have ek:(Y.map fun q=>q.2)=ps'.map fun q=>q.2:=Ji srq srp (pq.trans pp.symm);have ek2:(Y.map fun q=>pd q.2)=ps'.map fun q=>pd q.2:=by
    have:=congrArg (List.map pd) ek;rw[CB,CB]at this;exact this
   have pinq:∀q∈Y,E1 G q:=fun q hq=>TG.p q (pq.mem_iff.mp hq);have rq:=Ep (K:=K) (s8 _ _ A9) (E5 s8 (E5 s7 pinq));have rp:=Ep (K:=K) (H:=IB _ l5 (.lst (G8 ps'))) A9 (E5 s8 (E5 s7 fun q hq=>TG.p q (pp.mem_iff.mp hq)));rw[<-ek2]at rp;refine Fh rq rp (To fun q hq=>⟨W _ (okw.mem q hq).1,W _ (okw.mem q hq).2⟩) ⟨_,rfl,u0 ?_⟩;have TE:=(TG.same s7).same s8;exact hD1 _ _ ⟨⟨_,_,_,_,_,_,_,_,_,_,rfl⟩,TE.h,TE.t⟩
end
section
variable{K:PySem.W.Frag}{h:IA}{mg:Str->A6 A3}
theorem PL{us:A0 A3}(h:us.length=1):∃a,us = [a]:=List.length_eq_one_iff.mp h
theorem OV{us:A0 A3}(h:us.length=2):∃a b,us = [a,b]:=by
 cases us with
 | nil=>cases h
 | cons a r=>obtain⟨b,rfl⟩:=PL (Nat.succ.inj h);exact⟨a,b,rfl⟩
theorem P7{us:A0 A3}(h:us.length=3):∃a b c,us = [a,b,c]:=by
 cases us with
 | nil=>cases h
 | cons a r=>obtain⟨b,c,rfl⟩:=OV (Nat.succ.inj h);exact⟨a,b,c,rfl⟩
theorem QQ{us:A0 A3}(h:us.length=4):∃a b c d,us = [a,b,c,d]:=by
 cases us with
 | nil=>cases h
 | cons a r=>obtain⟨b,c,d,rfl⟩:=P7 (Nat.succ.inj h);exact⟨a,b,c,d,rfl⟩
theorem RN{us:A0 A3}(h:us.length=5):∃a b c d e,us = [a,b,c,d,e]:=by
 cases us with
 | nil=>cases h
 | cons a r=>obtain⟨b,c,d,e,rfl⟩:=QQ (Nat.succ.inj h);exact⟨a,b,c,d,e,rfl⟩
def IV{x:Str}{st:IS}{m:A0 Str}{f:A4}{q:A3}{r n:A6 A4}{o:CM (A6 A3)}{kV i p g ct:A3}(X:K.In h)(G:h.Ns mainGlobals mg)(a:PySem.W.nsIn K mainGlobals x=some (some (.ref f)))
  (l:K.lookup f=some ⟨q,r,.func (PySem.W.fnOf x x (S0 st) (P0 st) (B8 st) .none kV i p n g ct),o⟩) (c:PySem.W.codeIn K g x=true) (k:PySem.W.keepIn K (.ref f)=true)
  (s:∀(kV i p:A3) (n:A6 A4) (g ct:A3) (us:A0 A3),us.length=m.length->bindArgs (PySem.W.fnOf x x (S0 st) (P0 st) (B8 st) .none kV i p n g ct) ⟨us,[]⟩=pure (m.zip us):=by intro _ _ _ _ _ _ us j;first | (obtain rfl:=FW.mp j;rfl) | (obtain⟨a,rfl⟩:=Sw.PL j;rfl) | (obtain⟨a,b,rfl⟩:=Sw.OV j;rfl) | (obtain⟨a,b,c,rfl⟩:=Sw.P7 j;rfl) | (obtain⟨a,b,c,d,rfl⟩:=Sw.QQ j;rfl) | (obtain⟨a,b,c,d,e,rfl⟩:=Sw.RN j;rfl)):Fn K mg x st m :=
 ⟨f,_,KQ l c k,(KQ l c k).binds s,PySem.W.mg_of X G a⟩
def KN{C:A4}{x q:Str}{st:IS}{m:A0 Str}{f:A4}{r:A3}{s n:A6 A4}{o:CM (A6 A3)}{kV h p g ct:A3}(a:PySem.W.findIn K (.ref C) x=some (some (.ref f)))(i:PySem.W.isFn K (.ref f)=true)
  (l:K.lookup f=some ⟨r,s,.func (PySem.W.fnOf x q (S0 st) (P0 st) (B8 st) .none kV h p n g ct),o⟩) (c:PySem.W.codeIn K g q=true) (k:PySem.W.keepIn K (.ref f)=true)
  (t:∀(kV h p:A3) (n:A6 A4) (g ct:A3) (us:A0 A3),us.length=m.length->bindArgs (PySem.W.fnOf x q (S0 st) (P0 st) (B8 st) .none kV h p n g ct) ⟨us,[]⟩=pure (m.zip us):=by intro _ _ _ _ _ _ us j;first | (obtain rfl:=FW.mp j;rfl) | (obtain⟨a,rfl⟩:=Sw.PL j;rfl) | (obtain⟨a,b,rfl⟩:=Sw.OV j;rfl) | (obtain⟨a,b,c,rfl⟩:=Sw.P7 j;rfl) | (obtain⟨a,b,c,d,rfl⟩:=Sw.QQ j;rfl) | (obtain⟨a,b,c,d,e,rfl⟩:=Sw.RN j;rfl)):Mt K C x q st m :=
 ⟨f,_,KQ l c k,(KQ l c k).binds t,⟨a,i,k⟩⟩
theorem QP{x z:Str}{v:A3}(X:K.In h)(G:h.Ns mainGlobals mg)(a:PySem.W.nsIn K mainGlobals x=some (some v))(e:∃t,v = .str z t):∃t,mg x=some (.str z t):=by
 obtain⟨t,rfl⟩:=e;exact⟨t,PySem.W.mg_of X G a⟩
theorem QR{x:Str}{z:Int}{v:A3}(X:K.In h)(G:h.Ns mainGlobals mg)(a:PySem.W.nsIn K mainGlobals x=some (some v))(e:∃t,v = .int z t):∃t,mg x=some (.int z t):=by
 obtain⟨t,rfl⟩:=e;exact⟨t,PySem.W.mg_of X G a⟩
def zAz(vs:CM A3)(c p:A4):Bool:=decide (vs[11]?=some (.ref p)) &&(match vs.getD 18 .none with | .str _ _=>true | _=>false) &&(match vs.getD 7 .none with | .int _ _=>true | _=>false) &&(match vs.getD 9 .none with | .bool _=>true | _=>false) &&(match vs.getD 10 .none with | .int _ _=>true | _=>false)&&decide (c≠p)&&decide (mainGlobals≠p)
theorem QO{c p:A4}{y:A6 A4}{vs:CM A3}{z:CM (A6 A3)}(l:K.lookup c=some ⟨.type "code",y,.fields vs,z⟩)(A:vs.getD 11 .none = .ref p)(e:zAz vs c p=true):TabAt K mg c p:=by
 unfold zAz at e;simp only[BT,decide_eq_true_eq]at e;obtain⟨⟨⟨⟨⟨⟨i,f⟩,w⟩,x⟩,h⟩,j⟩,m⟩:=e;have b:∃a t,vs.getD 18 .none = .str a t:=by cases q:vs.getD 18 .none<;>rw[q]at f<;>first | exact⟨_,_,rfl⟩ | cases f
 have n:∃a t,vs.getD 7 .none = .int a t:=by cases q:vs.getD 7 .none<;>rw[q]at w<;>first | exact⟨_,_,rfl⟩ | cases w
 have o:∃a,vs.getD 9 .none = .bool a:=by cases q:vs.getD 9 .none<;>rw[q]at x<;>first | exact⟨_,rfl⟩ | cases x
 have d:∃a t,vs.getD 10 .none = .int a t:=by cases q:vs.getD 10 .none<;>rw[q]at h<;>first | exact⟨_,_,rfl⟩ | cases h
 obtain⟨r,s,b⟩:=b;obtain⟨B,C,n⟩:=n;obtain⟨D,o⟩:=o;obtain⟨u,v,d⟩:=d;exact⟨fun g k=>⟨_,vs,r,s,B,C,D,u,v,k _ _ l,rfl,rfl,i,A,b,n,o,d,j⟩,m⟩
theorem JE{C:A4}{f:Str}(h:PySem.W.findIn K (.ref C) f=some none):JH K C f:=h
end
def QT{l:PySem.W.OpenLaw}{w:H_}{K:PySem.W.Frag}{h:IA}{mg:Str->A6 A3}{n f d:A4}{u:A3}{x q:A6 A4}{i:CM (A6 A3)}{kV g r b ct:A3}(X:K.In h)(G:h.Ns mainGlobals mg)(j:mg "law" = some (.ref n))
  (T:Tx K mg) (a:PySem.W.nsIn K mainGlobals "law" = some (some (.ref f))) (lk:K.lookup f=some ⟨u,x,.func (PySem.W.fnOf "law" "law" (S0 MV) (P0 MV) (B8 MV) .none kV g r q b ct),i⟩) (c:PySem.W.codeIn K b "law" = true) (k:PySem.W.keepIn K (.ref f)=true) (ep:T.aa=d) (y:K.lookup d=none) :
  (∀p∈[d],isCodeTable h p)/\(∀p∈[d],K.lookup p=none)/\∃t:IU,(∀(s:A5) (v:A3),BindsTo s t ⟨[v],[]⟩ [("_law_script",v)])/\∀base:IA,K.In base->base.Ns mainGlobals mg->(∀p∈[d],base.BuiltinsAt mg p)->IP l.prog w K mg base I_ 24 n t ["_law_script"] (Li K d):=by
 subst ep;have e:=j.symm.trans (PySem.W.mg_of X G a);cases e;refine⟨fun p m=>?_,fun p m=>by rw[AF.mp m];exact y,PySem.W.fnOf "law" "law" (S0 MV) (P0 MV) (B8 MV) .none kV g r q b ct,fun s v=>.of_eq rfl,fun base _ _ z=>zCi T (z _ (AF.mpr rfl)) (KQ lk c k)⟩;obtain⟨o,A,_,_,_,_,_,_,_,B,C,D,E,_⟩:=T.bg.hd h X;rw[AF.mp m];exact⟨_,o,A,B,C,D,E⟩
def walk{l:PySem.W.OpenLaw}{q:F8}{c:A0 Str}{o:(Str->A6 A3)->IA->Prop}{e:H_->IA->Prop}{d:DefRec}{K:Params->PySem.W.Frag}{b:A4}(r:l.most=some 63)(g:d.params.defaults = [])
  (t:∀(w:H_) (h:IA),e w h->(K w.params).In h) (i:∀(w:H_) (h:IA),e w h->∀p∈[b],h.get? p=some (PySem.W.tabObj #[]))
  (F:∀(w:H_) (mg:Str->A6 A3) (j:A4) (h:IA),(K w.params).In h->h.Ns mainGlobals mg->mg d.name=some (.ref j) ->
   (∀p∈[b],isCodeTable h p)/\(∀p∈[b],(K w.params).lookup p=none)/\∃m:IU,(∀(s:A5) (u:A3),BindsTo s m ⟨[u],[]⟩ [("_law_script",u)])/\∀base:IA,(K w.params).In base->base.Ns mainGlobals mg->(∀p∈[b],base.BuiltinsAt mg p)->IP l.prog w (K w.params) mg base I_ 24 j m ["_law_script"] (Li (K w.params) b)) :
  PySem.W.WalkO q c o e l.row.toRowW d [] (fun f vs=>PySem.call f vs) :=
 L2.PJ (n:=63) (k:=24) (x := "_law_script") (ts:=[b]) (sp:=fun w=>Li (K w.params) b) r (by decide) g ⟨rfl,by decide,by decide⟩ t i F (fun _ _ a v y z A=>⟨a,v,rfl,A,y,⟨#[],z b (AF.mpr rfl),trivial,fun _ _=>.inl rfl⟩,fun _=>rfl⟩)
end Sw
open PySem PySem.W PyProof.Rows
set_option maxRecDepth 100000 in
set_option maxHeartbeats 0 in
theorem PySem.Challenge.cw_strikeweave_k30_a_standing_set_with_some_holds : PySem.Challenge.rw_strikeweave_k30_a_standing_set_with_some.Holds := by
 w_on;o_law;k_head;(case hw=>w_witness2)
 k_fill
 refine Sw.walk (l:=PySem.Challenge.rw_strikeweave_k30_a_standing_set_with_some) rfl rfl (fun w h Y=>PySem.W.km_in_of Y) (fun w h Y=>PySem.W.km_tabs_of Y) ?F
 case F =>
  intro w mg fa h KX G hmg;refine' Sw.QT KX G hmg (Sw.Tx.mk (Sw.IV KX G ?a1 ?l2 ?c3 ?k4)
   (Sw.IV KX G ?a5 ?l6 ?c7 ?k8)
   (Sw.IV KX G ?a9 ?l10 ?c11 ?k12)
   (Sw.IV KX G ?a13 ?l14 ?c15 ?k16)
   (Sw.IV KX G ?a17 ?l18 ?c19 ?k20)
   (Sw.IV KX G ?a21 ?l22 ?c23 ?k24)
   (Sw.IV KX G ?a25 ?l26 ?c27 ?k28)
   (Sw.IV KX G ?a29 ?l30 ?c31 ?k32)
   _
   _
   (Sw.QO ?l34 ?r35 ?r36)
   ?r33
   (Sw.IV KX G ?a37 ?l38 ?c39 ?k40)
   (Sw.IV KX G ?a41 ?l42 ?c43 ?k44)
   (Sw.IV KX G ?a45 ?l46 ?c47 ?k48)
   (Sw.IV KX G ?a49 ?l50 ?c51 ?k52)
   (Sw.IV KX G ?a53 ?l54 ?c55 ?k56)
   (Sw.IV KX G ?a57 ?l58 ?c59 ?k60)
   (Sw.IV KX G ?a61 ?l62 ?c63 ?k64)
   (Sw.IV KX G ?a65 ?l66 ?c67 ?k68)
   (Sw.IV KX G ?a69 ?l70 ?c71 ?k72)
   (Sw.IV KX G ?a73 ?l74 ?c75 ?k76)
   (Sw.IV KX G ?a77 ?l78 ?c79 ?k80)
   (Sw.IV KX G ?a81 ?l82 ?c83 ?k84)
   (Sw.IV KX G ?a85 ?l86 ?c87 ?k88)
   (Sw.IV KX G ?a89 ?l90 ?c91 ?k92)
   (Sw.IV KX G ?a93 ?l94 ?c95 ?k96)
   (Sw.IV KX G ?a97 ?l98 ?c99 ?k100)
   (Sw.IV KX G ?a101 ?l102 ?c103 ?k104)
   (Sw.IV KX G ?a105 ?l106 ?c107 ?k108)
   (Sw.IV KX G ?a109 ?l110 ?c111 ?k112)
   (Sw.IV KX G ?a113 ?l114 ?c115 ?k116)
   (Sw.IV KX G ?a117 ?l118 ?c119 ?k120)
   (Sw.IV KX G ?a121 ?l122 ?c123 ?k124)
   (Sw.IV KX G ?a125 ?l126 ?c127 ?k128)
   (Sw.IV KX G ?a129 ?l130 ?c131 ?k132)
   (Sw.IV KX G ?a133 ?l134 ?c135 ?k136)
   (Sw.IV KX G ?a137 ?l138 ?c139 ?k140)
   (Sw.IV KX G ?a141 ?l142 ?c143 ?k144)
   _
   ⟨?g146,?g147,?g148,?g149⟩
   (PySem.W.mg_of KX G ?q145)
   (Sw.JE ?n150)
   (Sw.JE ?n151)
   (Sw.JE ?n152)
   (Sw.JE ?n153)
   (Sw.JE ?n154)
   (Sw.JE ?n155)
   _
   _
   (L2.KQ ?l158 ?c159 ?k160)
   (L2.OT.binds (L2.KQ ?l158 ?c159 ?k160) (fun _ _ _ _ _ _ us hl=>by obtain⟨a,b,rfl⟩:=Sw.OV hl;rfl))
   ⟨?g161,?a156,?i157,?k162⟩
   (Sw.KN ?a163 ?i164 ?l165 ?c166 ?k167)
   (Sw.KN ?a168 ?i169 ?l170 ?c171 ?k172)
   (Sw.KN ?a173 ?i174 ?l175 ?c176 ?k177)
   (Sw.KN ?a178 ?i179 ?l180 ?c181 ?k182)
   (Sw.KN ?a183 ?i184 ?l185 ?c186 ?k187)
   (Sw.KN ?a188 ?i189 ?l190 ?c191 ?k192)
   (Sw.KN ?a193 ?i194 ?l195 ?c196 ?k197)
   (Sw.KN ?a198 ?i199 ?l200 ?c201 ?k202)
   _
   ⟨?g204,?g205,?g206,?g207⟩
   (PySem.W.mg_of KX G ?q203)
   (Sw.JE ?n208)
   (Sw.JE ?n209)
   (Sw.JE ?n210)
   (Sw.JE ?n211)
   _
   _
   (L2.KQ ?l214 ?c215 ?k216)
   (L2.OT.binds (L2.KQ ?l214 ?c215 ?k216) (fun _ _ _ _ _ _ us hl=>by obtain⟨a,b,c,rfl⟩:=Sw.P7 hl;rfl))
   ⟨?g217,?a212,?i213,?k218⟩
   (Sw.KN ?a219 ?i220 ?l221 ?c222 ?k223)
   (Sw.KN ?a224 ?i225 ?l226 ?c227 ?k228)
   (Sw.KN ?a229 ?i230 ?l231 ?c232 ?k233)
   (Sw.KN ?a234 ?i235 ?l236 ?c237 ?k238)
   (Sw.KN ?a239 ?i240 ?l241 ?c242 ?k243)
   (Sw.QP KX G ?v244 ?e245)
   (Sw.QR KX G ?v246 ?e247)
   (PySem.W.mg_none_of KX G ?z248)
   (PySem.W.mg_none_of KX G ?z249)
   (PySem.W.mg_none_of KX G ?z250)
   (PySem.W.mg_none_of KX G ?z251)
   (PySem.W.mg_none_of KX G ?z252)
   (PySem.W.mg_none_of KX G ?z253)
   (PySem.W.mg_none_of KX G ?z254)
   (PySem.W.mg_none_of KX G ?z255)
   (PySem.W.mg_none_of KX G ?z256)
   (PySem.W.mg_none_of KX G ?z257)
   (PySem.W.mg_none_of KX G ?z258)
   (PySem.W.mg_none_of KX G ?z259)
   (PySem.W.mg_none_of KX G ?z260)
   (PySem.W.mg_none_of KX G ?z261)
   (PySem.W.mg_none_of KX G ?z262)
   (PySem.W.mg_none_of KX G ?z263)
   (PySem.W.mg_none_of KX G ?z264)
   (PySem.W.mg_none_of KX G ?z265)) ?aL ?lL ?cL ?kL ?rP ?tP
  case a1|l2|c3|k4|a5|l6|c7|k8|a9|l10|c11|k12|a13|l14|c15|k16|a17|l18|c19|k20|a21|l22|c23|k24|a25|l26|c27|k28|a29|l30|c31|k32=>k_is
  case r33=>rfl
  case l34=>k_is
  case r35=>rfl
  case r36=>rfl
  case a37|l38|c39|k40|a41|l42|c43|k44|a45|l46|c47|k48|a49|l50|c51|k52|a53|l54|c55|k56|a57|l58|c59|k60|a61|l62|c63|k64|a65|l66|c67|k68|a69|l70|c71|k72|a73|l74|c75|k76|a77|l78|c79|k80|a81|l82|c83|k84|a85|l86|c87|k88|a89|l90|c91|k92|a93|l94|c95|k96|a97|l98|c99|k100|a101|l102|c103|k104|a105|l106|c107|k108|a109|l110|c111|k112|a113|l114|c115|k116|a117|l118|c119|k120|a121|l122|c123|k124|a125|l126|c127|k128|a129|l130|c131|k132|a133|l134|c135|k136|a137|l138|c139|k140|a141|l142|c143|k144|q145|g146|g147|g148|g149|n150|n151|n152|n153|n154|n155|a156|i157|l158|c159|k160|g161|k162|a163|i164|l165|c166|k167|a168|i169|l170|c171|k172|a173|i174|l175|c176|k177|a178|i179|l180|c181|k182|a183|i184|l185|c186|k187|a188|i189|l190|c191|k192|a193|i194|l195|c196|k197|a198|i199|l200|c201|k202|q203|g204|g205|g206|g207|n208|n209|n210|n211|a212|i213|l214|c215|k216|g217|k218|a219|i220|l221|c222|k223|a224|i225|l226|c227|k228|a229|i230|l231|c232|k233|a234|i235|l236|c237|k238|a239|i240|l241|c242|k243|v244=>k_is
  case e245=>exact⟨_,rfl⟩
  case v246=>k_is
  case e247=>exact⟨_,rfl⟩
  case z248|z249|z250|z251|z252|z253|z254|z255|z256|z257|z258|z259|z260|z261|z262|z263|z264|z265|aL|lL|cL|kL=>k_is
  case rP=>rfl
  case tP=>kernel_rfl
