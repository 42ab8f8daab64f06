import PyProof.Rows.All
import Wide.All
import OpenK.AllK
import Wide.FinOn
import PyProof.Rows.SortShellK
import KE.KSortTup
import Lean
import PyProof.EqAt
import PyProof.EqKinds
import PyProof.TupleCall
import PyProof.SetRoads
import PyProof.DictRoadsH
import PyProof.IsRules
import PyProof.CollectWalk
import PyProof.FactsAll.set
import PyProof.NeData
import PyProof.P3In
import PyProof.TupleOfSeq
import PyProof.ZipIter
import PyProof.Rows.ZipGen
import KE.KDictOf
import PyProof.AttrMissHeap
import PyProof.Rows.SumAny
import PyProof.DictIter
import PyProof.DictWalks
import PyProof.DictValues
import PyProof.ListRange
import PyProof.ListStr
import PyProof.DictTruth
import PySem.Challenge.RW_strikeweave_k66_what_was_looked_at
set_option autoImplicit false
set_option genSizeOf false
set_option genSizeOfSpec false
set_option bootstrap.genMatcherCode false
set_option compiler.extract_closed false
set_option linter.all false
set_option maxRecDepth 100000
abbrev VA:=@PySem.W.Frag
def VB:=@False.elim
def VC:=@True.intro
def VD:=@Nat.le_refl
def VE:=@Nat.le_trans
def VF:=@Nat.le_of_eq
def VG:=@PySem.F.plainAttrs_list
def VH:=@PySem.F.slot_list_append
def VI:=@PySem.F.type_list_append
def VJ:=@PySem.F.slot_list_index
def VL:=@PySem.F.type_list_index
def VM:=@PySem.W.mg_none_of
def VN:=@PySem.F.slot_tuple_add
def VO:=@PySem.F.entry_tuple_add
def VP:=@PyProof.Rows.callWith_type1
def VQ:=@PySem.W.kia_one
def VR:=@PySem.W.kia_tup
section
open PySem PySem.Spec PyProof.Rows
abbrev A0:=@List
abbrev A2:=Value
abbrev A3:=Addr
def PySem.W.Fast:=Nat where
 tw18026373261063763760:=A3
 tw14040260879169995116:=A3
 tw3581178358347122110:=A3
 tw6283611571038865837:=A3
 tw16152286801451300017:=A3
 tw14349235325228210943:=A3
 tw5844243369254446262:=A3
 tw10376054670270353204:=A3
 tw4191966764752443355:=A3
 tw9637744588647626041:=A3
 tw8642467856183759416:=A3
 tw17578200815002246250:=A3
 tw1819098735115847239:=A3
 tw6184049246825048747:=A3
 tw2531593478825161051:=A3
 tw4164311413473539509:=A3
 tw7711277735080123447:=A3
 tw9317148616270434672:=A3
 tw7972498656268943157:=A3
 tw15746670258937020128:=A3
 tw17792006103018035402:=A3
 tw7132291801809828779:=A3
 tw12404008272822907937:=A3
 tw14750341768805244979:=A3
 tw584065355041255697:=A3
 tw446347951160142169:=A3
 tw12742890453439483436:=A3
 tw10807323046621039494:=A3
 tw7463540742595169356:=A3
 tw16011867405109777581:=A3
 tw736901446946322774:=A3
 tw16733326607141841853:=A3
 tw3245662531630469172:=A3
 tw14568297449075645012:=A3
 tw13818232801982714916:=A3
 tw10693659949075879158:=A3
 tw12233717225908049514:=A3
 tw2560463193370022083:=A3
 tw152280227052075397:=A3
 tw1281260101022973739:=A3
 tw1927516919117868624:=A3
 tw14469728116629240879:=A3
 tw2284396742946044787:=A3
 tw12703573938819735428:=A3
 tw4928832571489257694:=A3
 tw7577957013930399232:=A3
 tw5225942139007070470:=A3
 tw13101347801715443462:=A3
 tw10315938266304920454:=A3
 tw18014010473808377727:=A3
 tw450434119171658379:=A3
 tw13374790131185150061:=A3
 tw1804751177284347:=A3
 tw597231469613795455:=A3
 tw8069107379979009441:=A3
 tw8288494906402318671:=A3
 tw11833195249245334092:=A3
 tw15967743233867351346:=A3
 tw3713314613382133533:=A3
 tw3470496718731516338:=A3
 tw8482230622868167077:=A3
 tw13604159113763198485:=A3
 tw14435586566346028573:=A3
 tw11465738267361794902:=A3
 tw11433568617506723802:=A3
 tw7264433066475933110:=A3
 tw3734345302991086674:=A3
 tw12063642661967431936:=A3
 tw5144819694583830076:=A3
 tw7855722503152099917:=A3
 tw5664430104381628587:=A3
 tw2297852159599487581:=A3
 tw499419660790702788:=A3
 tw9438131663462183718:=A3
 tw5380662580389382937:=A3
 tw15970836162970737243:=A3
 tw889849608870725330:=A3
 tw3813858680447081304:=A3
 tw2733415661554694206:=A3
 tw7409554616004249302:=A3
 tw14558047109525400308:=A3
 tw7180447882178539556:=A3
 tw7446543260726243758:=A3
 tw14272381640691224850:=A3
 tw15052278263644317847:=A3
 tw2509126872975531507:=A3
 tw4950282333643142530:=A3
 tw17336083939784169196:=A3
 tw1154085047644977025:=A3
 tw18325327643736074168:=A3
 tw12353166011362869216:=A3
 tw5113354260825665052:=A3
 tw15347743245647565992:=A3
 tw2136882758566767674:=A3
 tw10865791425280900287:=A3
 tw8754828996711229588:=A3
 tw5840318200230856208:=A3
 tw1588244070596884699:=A3
 tw3117762196520706796:=A3
 tw14873108967819983112:=A3
 tw6862232120742357502:=A3
 tw11564826540239476620:=A3
 tw7478504464183569198:=A3
 tw15880041605583733623:=A3
 tw1167596963050975828:=A3
 tw13087902592169300770:=A3
 tw13024157757841934389:=A3
 tw18061115488555215805:=A3
 tw16748698141365491759:=A3
 tw342305803227751898:=A3
 tw16184648158493505947:=A3
 tw18389836654398568020:=A3
 tw5757048942642542290:=A3
 tw17290102825323332090:=A3
 tw11732705042692339826:=A3
 tw11300063586832411205:=A3
 tw7881964121664724638:=A3
 tw8237348254941884913:=A3
 tw10307622030443870680:=A3
 tw2062004675086161262:=A3
 tw4989730807118037968:=A3
 tw17679504177676169103:=A3
 tw5398831142412653221:=A3
 tw5220041446642775200:=A3
 tw18028301590636768456:=A3
 tw11437603688869673622:=A3
 tw9507727254668400554:=A3
 tw12239757310395001665:=A3
 tw4726565233096344472:=A3
 tw1674549565048149101:=A3
 tw8641473836013934213:=A3
 tw7491332046246478263:=A3
 tw17841110909486266231:=A3
 tw18126223466463823405:=A3
 tw17431448814791076936:=A3
 tw1349947457770612444:=A3
 tw8505857741707529848:=A3
 tw12029698326946862266:=A3
 tw15933010306380559801:=A3
 tw13781001477222002263:=A3
 tw9575968595076994137:=A3
 tw9438171643743399283:=A3
 tw12612561126769184404:=A3
 tw8890737714443723349:=A3
 tw16273100493499740382:=A3
 tw11019788320475473190:=A3
 tw16315530799159345165:=A3
 tw14536543194551957313:=A3
 tw7351739435170011960:=A3
 tw5806171388964287789:=A3
 tw16442292068043181788:=A3
 tw8534185733673994434:=A3
 tw1101660286310471044:=A3
 tw4586801031264498134:=A3
 tw5269327776263985308:=A3
 tw4203120647261906216:=A3
 tw13326077983132835534:=A3
 tw1113800929919674410:=A3
 tw12952170875668307892:=A3
 tw5586285935445258892:=A3
 tw6026026622925910892:=A3
 tw8737541935738750509:=A3
 tw6293200004244480050:=A3
 tw2247389142007364737:=A3
 tw10535492055106515910:=A3
 tw18142592466543641295:=A3
 tw14474946369031993665:=A3
 tw11746932606414471222:=A3
 tw10187270469546685196:=A3
 tw3909235160099330369:=A3
 tw10663922384158833071:=A3
 tw296445539098452040:=A3
 tw12051720565723739045:=A3
 tw11074061580494357010:=A3
 tw13151410667872821606:=A3
 tw15877794551306416110:=A3
 tw7120058277720542582:=A3
 tw6829193089433029005:=A3
 tw4015194344019313322:=A3
 tw12751240234848503809:=A3
 tw4568816016504615580:=A3
 tw6778530425151801453:=A3
 tw2532550321772100963:=A3
 tw7874820652327325652:=A3
 tw11355970211925136158:=A3
 tw9656378723631004208:=A3
 tw4464926401309650200:=A3
 tw11742889520727580320:=A3
 tw9904081108294731709:=A3
 tw7736613277377528460:=A3
 tw10910099813435568165:=A3
 tw6603522033080541313:=A3
 tw10686467245404213892:=A3
 tw11454845517338730422:=A3
 tw17775047833538814243:=A3
 tw13856519775542245321:=A3
 tw14158751342255250721:=A3
 tw18047441740410817747:=A3
 tw10487485031344320874:=A3
 tw18151807356561882092:=A3
 tw8805430263329617643:=A3
 tw11096042628051795231:=A3
 tw4477072554479414601:=A3
 tw4094666140945272877:=A3
 tw16317762329897021083:=A3
 tw2595129121880177141:=A3
 tw84965779059136470:=A3
 tw3788342536212677808:=A3
 tw3551687769369439073:=A3
 tw9910055533078528927:=A3
 tw8827121763622953337:=A3
 tw5476578538175263277:=A3
 tw2562386676404694654:=A3
 tw4861261253126639667:=A3
 tw10820710345242631960:=A3
 tw9042455539860371046:=A3
 tw15188773256017410572:=A3
 tw7357604846840768284:=A3
 tw3398372547378912833:=A3
 tw12827303807302266539:=A3
 tw7004128507051131529:=A3
 tw10530909106434296069:=A3
 tw5273576254745482110:=A3
 tw21901692822862763:=A3
 tw11710688826727031879:=A3
 tw6953623501311929855:=A3
 tw15970994645704283155:=A3
 tw12640983688302271450:=A3
 tw3441439829135564346:=A3
 tw15923124966230276410:=A3
 tw14328017443290280877:=A3
 tw10472954645427446852:=A3
 tw1457822559940700600:=A3
 tw6032569097169062616:=A3
 tw2639052285505141340:=A3
 tw5589057127981402159:=A3
 tw7555447721329145525:=A3
 tw4440721222286802253:=A3
 tw13946616171845609086:=A3
 tw13715465311095277379:=A3
 tw12053564092413671292:=A3
 tw4119645307133873248:=A3
 tw8837245514383749707:=A3
 tw10552579328362906035:=A3
 tw3202866518098364298:=A3
 tw4110213016108612097:=A3
 tw4117301515776121866:=A3
 tw1889209640607539879:=A3
 tw436555979882810527:=A3
 tw6320879245709102111:=A3
 tw4664824622623221781:=A3
 tw7616346194074820334:=A3
 tw11272444500205520949:=A3
 tw6258528607367553257:=A3
 tw15177220376089565146:=A3
 tw15131907587969712012:=A3
 tw9423868962308869695:=A3
 tw5185307220553763300:=A3
 tw3383720912345661160:=A3
 tw14055936108645665139:=A3
 tw6632673067551910058:=A3
 tw3590187290254895039:=A3
 tw11350968569964939764:=A3
 tw4092103864671239405:=A3
 tw4676605935668459598:=A3
 tw10572039827752291724:=A3
 tw17206846744699455590:=A3
 tw16786762991209695799:=A3
 tw10593098149880177186:=A3
 tw13430000830800910027:=A3
 tw13290182156985154919:=A3
 tw10841253849711183638:=A3
 tw5956524067696819963:=A3
 tw1818162749326673077:=A3
 tw607455638250547990:=A3
 tw10382295769482523068:=A3
 tw5843436832271300415:=A3
 tw6979787812714193247:=A3
 tw17788778162085790541:=A3
 tw11622473018300310961:=A3
 tw18003863079357537429:=A3
 tw16639056116967366033:=A3
 tw18035645742675044062:=A3
 tw6648083933938247696:=A3
 tw718354695627328759:=A3
 tw14453028400078085791:=A3
 tw9549468377554979603:=A3
 tw18158032147421966870:=A3
 tw11813342857224402967:=A3
 tw5448578151511827901:=A3
 tw8019972069966460487:=A3
 tw4335775714008907307:=A3
 tw2192972221265039789:=A3
 tw515310891215171926:=A3
 tw13747472353784545525:=A3
 tw16850787447612246701:=A3
 tw17337037667994992792:=A3
 tw16480082344445092516:=A3
 tw18283086764819218200:=A3
 tw16955797451630365828:=A3
 tw12427930891421769741:=A3
 tw13568490358248699072:=A3
 tw6444193991224115355:=A3
 tw2998218406608587017:=A3
 tw9077667761871877043:=A3
 tw8108845682136289082:=A3
 tw17960970835986954740:=A3
 tw7252465630636718953:=A3
 tw18335840879226945612:=A3
 tw4042408307794776320:=A3
 tw8230332749906215525:=A3
 tw15726536068137362321:=A3
 tw8769362895192074525:=A3
 tw16649472098533300728:=A3
 tw7145842566093685624:=A3
 tw14319681797757649229:=A3
 tw16228035857077660101:=A3
 tw16014968256615396345:=A3
 tw7143501810260878852:=A3
 tw4054029910544013745:=A3
 tw6689410970303063580:=A3
 tw4550003496624621515:=A3
 tw16149161201443501396:=A3
 tw14862402643324097915:=A3
 tw14684901676213008651:=A3
 tw12663301696845495019:=A3
 tw9513106563271965657:=A3
 tw5594173645501633356:=A3
 tw15164528446682800064:=A3
 tw15788587836202288035:=A3
 tw16654350948263479694:=A3
 tw3369343927600932920:=A3
 tw12794619594820911327:=A3
 tw8702980435616402505:=A3
 tw9308587915961809666:=A3
 tw12591288335261448862:=A3
 tw5141744018428189136:=A3
 tw5886126601820701934:=A3
 tw8374175572740016321:=A3
 tw18182814116593243341:=A3
 tw2762592778964106871:=A3
 tw14008830523606435169:=A3
 tw7348468158369116818:=A3
 tw7108992223821285017:=A3
 tw17506416183637720055:=A3
 tw18215781578398495874:=A3
 tw211882387322772655:=A3
 tw11429059103787177775:=A3
 tw4763723401176842754:=A3
 tw12815376477788450617:=A3
 tw17640616794444000498:=A3
 tw9803434522062493554:=A3
 tw11475587257689486551:=A3
 tw4025797955629052011:=A3
 tw5062764425678855970:=A3
 tw11483452462603664292:=A3
 tw16930742454417560520:=A3
 tw7094342697441489514:=A3
 tw16777827919682639533:=A3
 tw14370919514786123312:=A3
 tw7602675601488398878:=A3
 tw7871686368408702785:=A3
 tw16327882777427030944:=A3
 tw15881405506132043690:=A3
 tw7111684826090872562:=A3
 tw4554765717154471269:=A3
 tw14969154958344927456:=A3
 tw17976627950077789544:=A3
 tw17446921829825577905:=A3
 tw13467768129156961677:=A3
 tw7167658533387073222:=A3
 tw8679216520243259235:=A3
 tw2654813457832114629:=A3
 tw7674479617940641638:=A3
 tw17544034542183192115:=A3
 tw10553143120424253623:=A3
 tw564649672027873023:=A3
 tw11276076883761615957:=A3
 tw8391033515245312715:=A3
 tw919254055059259229:=A3
 tw10198655467900033635:=A3
 tw13164023278295899450:=A3
 tw9102107984733869524:=A3
 tw16401711942639973177:=A3
 tw1532736169387357794:=A3
 tw12644225928688928452:=A3
 tw11722612882724133565:=A3
 tw2935912032373303387:=A3
 tw1005754181918150356:=A3
 tw4277359252449799564:=A3
 tw4704670741567280608:=A3
 tw10553066541416006119:=A3
 tw3747498583235361749:=A3
 tw3660554599167025128:=A3
 tw4760709216051539410:=A3
 tw12186748614271539240:=A3
 tw7235333805439538799:=A3
 tw17495091155760813274:=A3
 tw14008022134948420680:=A3
 tw2930427209934267941:=A3
 tw4171588779133642334:=A3
 tw14388299199746817289:=A3
 tw2005824912663683573:=A3
 tw15626269540852552804:=A3
 tw2837921335218489253:=A3
 tw4010634490338094572:=A3
 tw6479331548968822864:=A3
 tw17154376306745337205:=A3
 tw1474273908970856718:=A3
 tw15661704069436862401:=A3
 tw6844944958884950386:=A3
 tw5835549121183609714:=A3
 tw2597874773597308744:=A3
 tw976875590595925467:=A3
 tw4587848547845801368:=A3
 tw11013756058672007281:=A3
 tw1832987574062498845:=A3
 tw18292693646058881933:=A3
 tw8137999033427601072:=A3
 tw7591488890141599014:=A3
 tw7111869236435832859:=A3
 tw7995521027728845501:=A3
 tw4787757847719574785:=A3
 tw11996475090240170317:=A3
 tw11069721347544897987:=A3
 tw5384501485789192317:=A3
 tw2915886232875356658:=A3
 tw7006316640043933641:=A3
 tw173599304306244329:=A3
 tw9307425992102516641:=A3
 tw11367548803252526032:=A3
 tw917796930492535765:=A3
 tw16885739906529619219:=A3
 tw316679125312461988:=A3
 tw15434659850418379860:=A3
 tw1194994698696724870:=A3
 tw8776857557209668771:=A3
 tw1233770033784681166:=A3
 tw2067673382750845119:=A3
 tw4135769579591387816:=A3
 tw16370501789006406278:=A3
 tw17038438100696786461:=A3
 tw1941404306961149562:=A3
 tw3829471094404670089:=A3
 tw4494333850259028161:=A3
 tw3729268038951036803:=A3
 tw6893073392171452623:=A3
 tw17044365594734976685:=A3
 tw15189374603501621034:=A3
 tw8691488075615082554:=A3
 tw6612365452938163546:=A3
 tw12683781123064897307:=A3
 tw1329846181225110449:=A3
 tw3219820336309163972:=A3
 tw4881082938202832531:=A3
 tw15944533401590931464:=A3
 tw6926925496476186241:=A3
 tw17662441466222619917:=A3
 tw3120480865594139099:=A3
 tw4068248049454652988:=A3
 tw4053205870131225438:=A3
 tw7423523868110453507:=A3
 tw933243094033605800:=A3
 tw9024196269680521811:=A3
 tw9301231143078764155:=A3
 tw8230695189961922700:=A3
 tw17596901560144477132:=A3
 tw9815355488960061796:=A3
 tw16677499992184405144:=A3
 tw1707726973222944135:=A3
 tw12345785972177048306:=A3
 tw15524705353458768592:=A3
 tw13613650249308455082:=A3
 tw8100244407177194678:=A3
 tw6825423261959398181:=A3
 tw11532754858867071900:=A3
 tw7389590167683496188:=A3
 tw6893743279324689458:=A3
 tw18103887313144074139:=A3
 tw8934613660061547111:=A3
 tw17884626671828667902:=A3
 tw5553834653324294072:=A3
 tw5789464533461537387:=A3
 tw6691968906810159802:=A3
 tw13119823740731755713:=A3
 tw9112943478612931003:=A3
 tw13751381307616571510:=A3
 tw5358677599000207193:=A3
 tw2103613166236367559:=A3
 tw16640025911985520433:=A3
 tw12119182230212583164:=A3
 tw17069604313705328817:=A3
 tw367254990277514324:=A3
abbrev A4:=Shared
abbrev A5:=@Option
abbrev HS:=@Array
abbrev HU:=Program
abbrev HV:=Keyed
abbrev HW:=World
abbrev HY:=SortSt
abbrev H_:=Heap
abbrev IA:=Around
abbrev IB:=Expr
abbrev IH:=SetTable
abbrev IK:=Stmt
abbrev IT:=FuncData
abbrev JO:=SortKind
abbrev KM:=Scope
abbrev NW:=NameKind
abbrev QQ:=Env
end
section
open PySem PySem.Spec PyProof.Rows
def AA:=@wpAny_bind
def AB:=@List.length_map
def AC:=@List.mem_singleton
def AD:=@Heap.get?_push_of_some
def AE:=@wpAny_pure
def AF:=@List.getElem?_eq_getElem
def AG:=@Heap.lt_size
def AH:=@List.getElem?_map
def AI:=@if_neg
def AJ:=@List.mem_append
def AK:=@decide_eq_false
def AL:=@List.map_append
def AM:=@List.getElem?_eq_some_iff
def AN:=@List.mem_cons_of_mem
def AO:=@if_pos
def AQ:=@List.not_mem_nil
def AR:=@List.size_toArray
def AS:=@List.length_append
def AU:=@decide_eq_true
def AV:=@List.mem_filter
def AW:=@List.mem_cons
def AX:=@Array.length_toList
def AY:=@Heap.get?_push_size
def AZ:=@List.mem_cons_self
def A_:=@List.length_take
def BA:=@Nat.ne_of_lt
def BB:=@List.mem_of_getElem?
def BC:=@List.length_filter_le
def BD:=@Bool.false_eq_true
def BE:=@Bool.false_ne_true
def BF:=@List.append_assoc
def BG:=@Heap.get?_update_other
def BH:=@Option.map_eq_some_iff
def BI:=@Nat.lt_of_lt_of_le
def BJ:=@List.mem_map
def BK:=@List.mem_append_right
def BL:=@Array.getElem?_toList
def BM:=@List.map_cons
def BN:=@List.take_length
def BO:=@wpAny_holding
def BP:=@Nat.zero_le
def BQ:=@List.length_cons
def BR:=@List.filter_cons
def BS:=@Array.toList_append
def BT:=@Option.some.inj
def BU:=@wpAny_newObj_type
def BV:=@of_decide_eq_true
def BW:=@List.map_map
def BX:=@List.take_append_drop
def BZ:=@Heap.get?_update_self
def B_:=@wpAny_mono
def CA:=@List.getD_eq_getElem?_getD
def CB:=@List.mem_append_left
def CC:=@List.append_nil
def CD:=@List.nodup_cons
def CF:=@wpAny_field
def CG:=@wpAny_setState_of
def CH:=@List.nodup_append
def CI:=@wpAny_call_entry
def CJ:=@wpAny_callSpecial?_slot
def CL:=@Int.toNat_natCast
def CM:=@Nat.le_of_ble_eq_true
def CN:=@Array.getD_eq_getD_getElem?
def CO:=@if_false
def CP:=@List.pairwise_append
def CQ:=@Heap.size_push
def CS:=@Array.getElem?_eq_some_iff
def CT:=@List.filter_append
def CU:=@List.perm_append_comm
def CV:=@List.Perm.append_left
def CY:=@wpAny_truthy_bool
def CZ:=@Nat.lt_irrefl
def C_:=@List.replicate_succ
def DA:=@List.mem_range
def DB:=@Bool.and_eq_true
def DC:=@List.nodup_nil
def DD:=@Array.toList_push
def DE:=@List.mem_of_mem_take
def DF:=@wpAny_rule
def DG:=@wpAny_setField_rec
def DH:=@codeAny_builtin
def DI:=@wpAny_ite_false
def DJ:=@List.length_drop
def DK:=@List.getElem?_take_of_lt
def DL:=@List.getElem_mem
def DM:=@Nat.le_succ
def DN:=@Heap.SameBut.update
def DP:=@Bool.false_and
def DQ:=@Nat.le_of_lt
def DR:=@List.Perm.append_right
def DT:=@List.take_of_length_le
def DU:=@List.drop_eq_getElem_cons
def DV:=@List.pairwise_map
def DW:=@List.length_range
def DX:=@List.length_singleton
def DY:=@List.getElem?_toArray
def DZ:=@wpAny_seqItems
def D_:=@List.filter_nil
def EA:=@List.mem_iff_getElem
def EB:=@wpAny_setField
def EC:=@Array.getElem?_eq_none
def ED:=@Nat.add_le_add_left
def EE:=@wpAny_of_eq
def EF:=@List.extract_eq_take_drop
def EG:=@Array.getElem?_eq_getElem
def EH:=@Nat.le_add_right
def EI:=@Nat.lt_succ_self
def EJ:=@List.all_eq_true
def EK:=@decide_eq_decide
def EL:=@Nat.zero_add
def EM:=@Bool.not_true
def EN:=@List.filterMap_cons_some
def EO:=@List.mem_of_mem_drop
def EQ:=@List.drop_zero
def ER:=@Array.toList_extract
def ES:=@List.take_sublist
def ET:=@Bool.eq_false_iff
def EU:=@Nat.lt_succ_of_lt
def EV:=@wpAny_execs_nil
def EW:=@List.filterMap_cons
def EX:=@List.drop_eq_nil_of_le
def EY:=@wpAny_typeOf
def EZ:=@wpAny_standAt
def E_:=@List.drop_drop
def FA:=@Int.emod_lt_of_pos
def FB:=@wpAny_ite_true
def FC:=@List.Pairwise.and_mem
def FD:=@List.Perm.of_eq
def FE:=@wpAny_passesOwn
def FF:=@List.drop_sublist
def FG:=@Array.toList_reverse
def FH:=@List.ext_getElem?
def FI:=@wpAny_pyIter_list
def FJ:=@codeAny_mono
def FK:=@List.flatten_cons
def FM:=@Option.isSome_iff_exists
def FN:=@Nat.succ_le_succ
def FO:=@List.length_eq_zero_iff
def FP:=@wpAny_isInstance
def FQ:=@Nat.zero_lt_succ
def FR:=@Nat.zero_testBit
def FS:=@Nat.lt_of_le_of_ne
def FT:=@Nat.eq_zero_of_not_pos
def FU:=@List.getElem?_drop
def FV:=@Array.size_extract
def FW:=@wpAny_pyIter_tuple
def FX:=@wpAny_Call_Name_kw
def FY:=@Nat.min_eq_left
def FZ:=@List.nil_append
def F_:=@Bool.eq_iff_iff
def GA:=@List.find?_cons
def GB:=@wpAny_specialOf
def GC:=@Int.emod_nonneg
def GD:=@wpAny_attempt
def GE:=@List.any_cons
def GF:=@List.getElem?_eq_none
def GG:=@List.length_replicate
def GH:=@if_true
def GI:=@Nat.lt_of_succ_lt
def GJ:=@List.drop_take
def GK:=@List.getElem?_append_right
def GL:=@wpAny_newTuple
def GM:=@List.getElem?_set_ne
def GN:=@Heap.size_update
def GO:=@Nat.ne_of_gt
def GP:=@List.any_eq_true
def GQ:=@wpAny_askSetting
def GR:=@List.getElem?_append_left
def GS:=@List.getElem?_eq_none_iff
def GT:=@List.reverse_append
def GU:=@List.map_eq_nil_iff
def GV:=@List.filter_sublist
def GX:=@Array.size_setIfInBounds
def GY:=@List.filterMap_cons_none
def GZ:=@Nat.zero_lt_one
def G_:=@List.foldl_cons
def HB:=@Option.map_some
def HC:=@List.filter_map
def HD:=@of_decide_eq_false
def HE:=@Nat.sub_pos_of_lt
def HF:=@Array.size_map
def HG:=@List.getElem?_set_self
def HH:=@Bool.and_false
def HI:=@List.map_nil
def HJ:=@Bool.not_false
def HK:=@wpAny_storeSet_of
def HL:=@wpAny_pyIter_enum
def HM:=@wpAny_execs_cons
def HN:=@Heap.ExtBut.push
def HP:=@wpAny_pyIter_zip
def HQ:=@List.drop_length
def HR:=@Bool.true_and
end
noncomputable section
namespace TS
def Za{k x l r:Nat}(h:l<r)(a:r-l<=k-x):(l+r) / 2-l<=k-(x+1) :=
 VE (Nat.le_pred_of_lt (Nat.sub_lt_sub_right ((Nat.le_div_iff_mul_le (by decide)).mpr (by rw[Nat.mul_two];exact ED (DQ h) l)) ((Nat.div_lt_iff_lt_mul (by decide)).mpr (by rw[Nat.mul_two];exact Nat.add_lt_add_right h r)))) (Nat.pred_le_pred a)
def Xn{n x l r m:Nat}(h:l<=m)(a:r-l<=n-x):r-(m+1)<=n-(x+1):=VE (Nat.sub_le_sub_left (FN h) r) (Nat.pred_le_pred a)
def Zk{k x l r:Nat}(h:l<r)(a:r-l<=k-x):r-((l+r) / 2+1)<=k-(x+1) :=
 Xn ((Nat.le_div_iff_mul_le (by decide)).mpr (by rw[Nat.mul_two];exact ED (DQ h) l)) a
def zCn{n x l r:Nat}(h:l<r)(a:r-l<=n-x):l +(r-l) / 2-l<=n-(x+1):=by
 rw[Nat.add_sub_cancel_left];exact VE (Nat.le_pred_of_lt (Nat.div_lt_self (HE h) (by decide))) (Nat.pred_le_pred a)
def zHo{lo x q k:Nat}(h:q+1<=x)(a:lo+x-(q+1)<=k):x-(q+1)<=k-lo:=Nat.le_sub_of_add_le' (by rw[Nat.add_sub_assoc h]at a;exact a)
open PySem PyProof.Rows
def kk(Z:KeyKind)(p:HV):Z.α:=(Z.keyOf p.1).getD Z.dflt
def Q_(Z:KeyKind)(p:HV):Prop:=∃a,Z.keyOf p.1=some a
def le(Z:KeyKind)(p q:HV):Prop:=Z.kle (kk Z p) (kk Z q)
def KW(Z:KeyKind)(l:A0 HV):Prop:=l.Pairwise (le Z)
structure QN(prog:HU)(w:HW)(A:IA)(s:A4)(Z:KeyKind)(kd:JO):Prop where
 lt:∀(x y:A2) (a b:Z.α) (Q:Bool->A4->Prop) (E:A2->A4->Prop),Z.keyOf x=some a->Z.keyOf y=some b->Q (Z.blt a b) s->wpAny (model prog w) A (keyLt' kd x y) Q E s
section
variable{prog:HU}{w:HW}{A:IA}{E:A2->A4->Prop}{s:A4}{Z:KeyKind}{kd:JO}
theorem Ic(C:QN prog w A s Z kd){st:HY}{x y:HV}{Q:A5 Bool->HY->Prop}(e:kindOf st=kd)(f:Q_ Z x)(g:Q_ Z y)
  (h:Q (some (Z.blt (kk Z x) (kk Z y))) st):wpS (model prog w) A E s (lt' x y) Q st:=by
 obtain⟨a,c⟩:=f;obtain⟨b,d⟩:=g;have i:kk Z x=a:=by unfold kk;rw[c];rfl
 have j:kk Z y=b:=by unfold kk;rw[d];rfl
 rw[i,j]at h;rw[lt'_eq];refine wpS_bind (wpS_get ?_);rw[e];refine wpS_bind (wpS_lift (GD (C.lt x.1 y.1 a b _ _ c d ⟨rfl,?_⟩)));exact wpS_pure h
theorem E8{st:HY}{a:HS HV}{i:Nat}{p:HV}{Q:HV->HY->Prop}(hi:a[i]?=some p)(h:Q p st):wpS (model prog w) A E s (elem' a i) Q st:=by
 rw[elem'_eq,hi];exact wpS_pure h
def U8:Bool->HV->HS HV->Nat->Nat->Nat->StateT HY Sem (A5 Nat):=sortPriv% PySem.Builtin.gallop
def SG(left:Bool)(a:HV)(b:HS HV)(bs:Nat)(i:Nat):StateT HY Sem (A5 Bool):=do
 let x <-elem' b (bs+i)
 if left then lt' x a else return(<-lt' a x).map (!·)
theorem Nb(left:Bool)(c:HV)(d:HS HV)(bs n b:Nat):U8 left c d bs n b =(do
  let mut la:=0
  let mut a:=1
  let mut lo:=0
  let mut hi:=0
  let some g <-SG left c d bs b | return none
  if g then
   let e:=n-b
   for _ in [0:n] do
    if a ≥ e then break
    let some f <-SG left c d bs (b+a) | return none
    if !f then break
    la:=a
    a:=2*a+1
   lo:=b+la+1
   hi:=b+min a e
  else
   let e:=b+1
   for _ in [0:n] do
    if a ≥ e then break
    let some h <-SG left c d bs (b-a) | return none
    if h then break
    la:=a
    a:=2*a+1
   lo:=b+1-min a e
   hi:=b-la
  for _ in [0:n] do
   if lo ≥ hi then break
   let m:=lo +(hi-lo) / 2
   let some f <-SG left c d bs m | return none
   if f then lo:=m+1 else hi:=m
  return some hi):=rfl
def PB(Z:KeyKind)(left:Bool)(a:HV)(p:HV):Bool:=if left then Z.blt (kk Z p) (kk Z a)else !Z.blt (kk Z a) (kk Z p)
theorem Yo(C:QN prog w A s Z kd){st:HY}{left:Bool}{b p:HV}{c:HS HV}{bs i:Nat}{Q:A5 Bool->HY->Prop}(d:kindOf st=kd)(a:Q_ Z b)(e:Q_ Z p)(hi:c[bs+i]?=some p)
  (h:Q (some (PB Z left b p)) st):wpS (model prog w) A E s (SG left b c bs i) Q st:=by
 unfold SG;refine wpS_bind (E8 hi ?_);cases left with
 | true=>exact Ic C d e a h
 | false =>
  simp only[BD,CO];refine wpS_bind (Ic C d a e ?_);exact wpS_pure h
theorem Nt(C:QN prog w A s Z kd){st:HY}{left:Bool}{L:HV}{O:HS HV}{bs n g:Nat}{Q:A5 Nat->HY->Prop}(hk:kindOf st=kd)(R:Q_ Z L)
  (P:Nat->Bool) (hP:∀i,i<n->∃p,O[bs+i]?=some p/\Q_ Z p/\PB Z left L p=P i) (o:∀i j,i<=j->j<n->P j=true->P i=true) (T:g<n)
  (h:∀k,k<=n->(∀i,i<k->P i=true)->(∀i,k<=i->i<n->P i=false)->Q (some k) st):wpS (model prog w) A E s (U8 left L O bs n g) Q st:=by
 have B:∀{a:HY} {i:Nat} {Q:A5 Bool->HY->Prop},a=st->i<n->Q (some (P i)) a->wpS (model prog w) A E s (SG left L O bs i) Q a:=by
  intro a i Q e hi q;subst e;obtain⟨p,U,V,W⟩:=hP i hi;exact Yo C hk R V U (by rw[W];exact q)
 have m:∀i j,i<=j->j<n->P i=false->P j=false:=by
  intro i j X hj hi;cases e:P j with
  | false=>rfl
  | true=>rw[o i j X hj e]at hi;cases hi
 rw[Nb];dsimp only;refine wpS_bind (B rfl T ?_);dsimp only;have S:∀{lo hi:Nat} {f:Nat->(A5 (A5 Nat)×Nat×Nat)->StateT HY Sem (ForInStep (A5 (A5 Nat)×Nat×Nat))},
   (∀x l h,wpS (model prog w) A E s (f x (none,l,h)) (λr a=>a=st/\(if h<=l then r = .done (none,l,h)else if P (l +(h-l) / 2)=true then r = .yield (none,l +(h-l) / 2+1,h)else r = .yield (none,l,l +(h-l) / 2))) st\/¬(h<=l\/l +(h-l) / 2<n)) ->
   lo<=hi->hi<=n->(∀i,i<lo->P i=true)->(∀i,hi<=i->i<n->P i=false) ->
   wpS (model prog w) A E s (forIn [0:n] (none,lo,hi) f) (λc a=>a=st/\∃k,c =(none,k,k)/\k<=n/\(∀i,i<k->P i=true)/\(∀i,k<=i->i<n->P i=false)) st:=by
  intro lo hi f hf U V W h4;refine wpS_forRange (I:=λx c a=>a=st/\∃l r,c =(none,l,r)/\l<=r/\r<=n/\r-l<=n-x/\(∀i,i<l->P i=true)/\(∀i,r<=i->i<n->P i=false)) ?_ ?_ ⟨rfl,lo,hi,rfl,U,V,by lia,W,h4⟩
  .rintro x c a _ hx ⟨rfl,l,r,rfl,hl,K,Y,M,N⟩;have hin:r<=l\/l +(r-l) / 2<n:=by lia
   rcases hf x l r with q | q
   .refine wpS_mono q λz st2 ⟨e,F⟩=>?_;subst e;by_cases b:r<=l
    .rw[AO b]at F;subst F;have:l=r:=by lia
     subst this;exact⟨rfl,l,rfl,K,M,N⟩
    .rw[AI b]at F;cases u:P (l +(r-l) / 2)with
     | true =>
      rw[AO u]at F;subst F;exact⟨rfl,_,_,rfl,by lia,by lia,Xn (EH ..) Y,λi hi=>o i (l +(r-l) / 2) (by lia) (by lia) u,N⟩
     | false =>
      rw[AI (by rw[u];exact BE)]at F;subst F;exact⟨rfl,_,_,rfl,by lia,by lia,zCn (Nat.lt_of_not_le b) Y,M,λi G y=>m (l +(r-l) / 2) i G y u⟩
   .exact absurd hin q
  .rintro c a ⟨rfl,l,r,rfl,hl,K,Y,M,N⟩;have:l=r:=by lia
   subst this;exact⟨rfl,l,rfl,K,M,N⟩
 cases K:P g with
 | true =>
  rw[AO rfl];refine wpS_bind (wpS_mono (wpS_forRange (I:=λx c a=>a=st/\∃la d,c =(none,la,d)/\la<d/\x+1<=d/\g+la<n/\P (g+la)=true)
   (Q:=λc a=>a=st/\∃la d,c =(none,la,d)/\la<d/\g+la<n/\P (g+la)=true/\(n-g<=d\/(g+d<n/\P (g+d)=false))) ?st ?en ⟨rfl,0,1,rfl,by lia,by lia,by lia,K⟩) ?po)
  case en =>
   rintro c a ⟨rfl,la,d,rfl,D,a2,v,t⟩;exact⟨rfl,la,d,rfl,D,v,t,.inl (by lia)⟩
  case st =>
   rintro x c a _ hx ⟨rfl,la,d,rfl,D,a2,v,t⟩;dsimp only;by_cases b:d ≥ n-g
   .rw[AO b];exact wpS_pure ⟨rfl,la,d,rfl,D,v,t,.inl b⟩
   .rw[AI b];refine wpS_bind (B rfl (show g+d<n by lia) ?_);cases u:P (g+d)with
    | true=>exact wpS_pure ⟨rfl,d,2*d+1,rfl,by lia,by lia,by lia,u⟩
    | false=>exact wpS_pure ⟨rfl,la,d,rfl,D,v,t,.inr ⟨by lia,u⟩⟩
  case po =>
   rintro c a ⟨rfl,la,d,rfl,D,v,t,H⟩;dsimp only;refine wpS_bind (wpS_mono (S (lo:=g+la+1) (hi:=g+min d (n-g)) (λx l J=>by
    dsimp only;by_cases b:J<=l
    .refine .inl ?_;rw[AO b];exact wpS_pure ⟨rfl,by rw[AO b]⟩
    .by_cases hn:l +(J - l) / 2<n
     .refine .inl ?_;rw[AI b];refine wpS_bind (B rfl hn ?_);dsimp only;cases u:P (l +(J - l) / 2)with
      | true =>
       simp only[GH];exact wpS_pure ⟨rfl,by rw[AI b]⟩
      | false =>
       simp only[BD,CO];exact wpS_pure ⟨rfl,by rw[AI b]⟩
     .exact .inr (by lia)) (by lia) (by lia) (λi hi=>o i (g+la) (by lia) v t) λi G y=>?_) λc a ⟨e,k,e2,b1,b2,b3⟩=>?_)
   .rcases H with H | ⟨H,a6⟩
    .lia
    .exact m (g+d) i (by lia) y a6
   .subst e e2;exact wpS_pure (h k b1 b2 b3)
 | false =>
  rw[AI BE];refine wpS_bind (wpS_mono (wpS_forRange (I:=λx c a=>a=st/\∃la d,c =(none,la,d)/\la<d/\x+1<=d/\la<=g/\P (g-la)=false)
   (Q:=λc a=>a=st/\∃la d,c =(none,la,d)/\la<d/\la<=g/\P (g-la)=false/\(g+1<=d\/(d<=g/\P (g-d)=true))) ?st ?en ⟨rfl,0,1,rfl,by lia,by lia,by lia,K⟩) ?po)
  case en =>
   rintro c a ⟨rfl,la,d,rfl,D,a2,v,t⟩;exact⟨rfl,la,d,rfl,D,v,t,.inl (by lia)⟩
  case st =>
   rintro x c a _ hx ⟨rfl,la,d,rfl,D,a2,v,t⟩;dsimp only;by_cases b:d ≥ g+1
   .rw[AO b];exact wpS_pure ⟨rfl,la,d,rfl,D,v,t,.inl b⟩
   .rw[AI b];refine wpS_bind (B rfl (show g-d<n by lia) ?_);cases u:P (g-d)with
    | false=>exact wpS_pure ⟨rfl,d,2*d+1,rfl,by lia,by lia,by lia,u⟩
    | true=>exact wpS_pure ⟨rfl,la,d,rfl,D,v,t,.inr ⟨by lia,u⟩⟩
  case po =>
   rintro c a ⟨rfl,la,d,rfl,D,v,t,H⟩;dsimp only;refine wpS_bind (wpS_mono (S (lo:=g+1-min d (g+1)) (hi:=g-la) (λx l J=>by
    dsimp only;by_cases b:J<=l
    .refine .inl ?_;rw[AO b];exact wpS_pure ⟨rfl,by rw[AO b]⟩
    .by_cases hn:l +(J - l) / 2<n
     .refine .inl ?_;rw[AI b];refine wpS_bind (B rfl hn ?_);dsimp only;cases u:P (l +(J - l) / 2)with
      | true =>
       simp only[GH];exact wpS_pure ⟨rfl,by rw[AI b]⟩
      | false =>
       simp only[BD,CO];exact wpS_pure ⟨rfl,by rw[AI b]⟩
     .exact .inr (by lia)) (by lia) (by lia) (λi hi=>?_) λi G y=>m (g-la) i (by lia) y t) λc a ⟨e,k,e2,b1,b2,b3⟩=>?_)
   .rcases H with H | ⟨H,a6⟩
    .lia
    .exact o i (g-d) (by lia) (by lia) a6
   .subst e e2;exact wpS_pure (h k b1 b2 b3)
end
end TS
namespace TS
open PySem PyProof.Rows
section
variable{Z:KeyKind}
theorem RJ(p:HV):le Z p p:=KeyOrd.kle_refl _
theorem I1{p q r:HV}(h1:le Z p q)(h2:le Z q r):le Z p r:=KeyOrd.kle_trans h1 h2
structure ML(Z:KeyKind)(a b:A0 HV)(o:A0 HV)(i j:Nat):Prop where
 perm:o.Perm (a.take i++b.take j)
 sor:KW Z o
 la:∀x∈o,∀y∈a.drop i,le Z x y
 lb:∀x∈o,∀y∈b.drop j,le Z x y
theorem ML.sym{a b o:A0 HV}{i j:Nat}(m:ML Z a b o i j):ML Z b a o j i:=⟨m.perm.trans CU,m.sor,m.lb,m.la⟩
theorem Ik{l:A0 HV}(k:Nat)(h:KW Z l):∀x∈l.take k,∀y∈l.drop k,le Z x y:=by
 have a:KW Z (l.take k++l.drop k):=by rw[BX];exact h
 exact(CP.mp a).2.2
theorem ML.addA{a b o:A0 HV}{i j:Nat}(m:ML Z a b o i j)(e:KW Z a)(k:Nat)(f:∀y∈(a.drop i).take k,∀z∈b.drop j,le Z y z):ML Z a b (o ++(a.drop i).take k) (i+k) j:=by
 have d:KW Z (a.drop i):=e.sublist (FF _ _);refine⟨?_,?_,λx hx y c=>?_,λx hx y c=>?_⟩
 .rw[List.take_add];refine(DR _ m.perm).trans ?_;rw[BF,BF];exact CV _ CU
 .refine CP.mpr ⟨m.sor,d.sublist (ES _ _),λx hx y c=>m.la x hx y (DE c)⟩
 .rw[<-E_]at c;rcases AJ.mp hx with hx | hx
  .exact m.la x hx y (EO c)
  .exact Ik k d x hx y c
 .rcases AJ.mp hx with hx | hx
  .exact m.lb x hx y c
  .exact f x hx y c
theorem ML.addB{a b o:A0 HV}{i j:Nat}(m:ML Z a b o i j)(c:KW Z b)(k:Nat)(d:∀y∈(b.drop j).take k,∀z∈a.drop i,le Z y z):ML Z a b (o ++(b.drop j).take k) i (j+k) :=
 (m.sym.addA c k d).sym
theorem ML.endA{a b o:A0 HV}{i j:Nat}(m:ML Z a b o i j)(e:KW Z a)(f:KW Z b)(h:∀y∈a.drop i,∀z∈b.drop j,le Z y z):KW Z (o++a.drop i++b.drop j)/\(o++a.drop i++b.drop j).Perm (a++b):=by
 refine⟨?_,?_⟩
 .refine CP.mpr ⟨CP.mpr ⟨m.sor,e.sublist (FF _ _),m.la⟩,f.sublist (FF _ _),λx hx y c=>?_⟩;rcases AJ.mp hx with hx | hx
  .exact m.lb x hx y c
  .exact h x hx y c
 .have g:(o++a.drop i++b.drop j).Perm ((a.take i++b.take j)++a.drop i++b.drop j):=DR _ (DR _ m.perm);refine g.trans ?_;have d:((a.take i++b.take j)++a.drop i++b.drop j).Perm ((a.take i++a.drop i) ++(b.take j++b.drop j)):=by
   rw[BF,BF,BF];refine CV _ ?_;rw[<-BF,<-BF];exact DR _ CU
  rw[BX,BX]at d;exact d
theorem ML.endB{a b o:A0 HV}{i j:Nat}(m:ML Z a b o i j)(c:KW Z a)(d:KW Z b)(h:∀y∈b.drop j,∀z∈a.drop i,le Z y z):KW Z (o++b.drop j++a.drop i)/\(o++b.drop j++a.drop i).Perm (a++b) :=
 ⟨(m.sym.endA d c h).1,(m.sym.endA d c h).2.trans CU⟩
structure MH(Z:KeyKind)(a b:A0 HV)(o:A0 HV)(i j:Nat):Prop where
 perm:o.Perm (a.drop i++b.drop j)
 sor:KW Z o
 la:∀x∈o,∀y∈a.take i,le Z y x
 lb:∀x∈o,∀y∈b.take j,le Z y x
theorem MH.sym{a b o:A0 HV}{i j:Nat}(m:MH Z a b o i j):MH Z b a o j i:=⟨m.perm.trans CU,m.sor,m.lb,m.la⟩
theorem MH.addA{a b o:A0 HV}{i j:Nat}(m:MH Z a b o i j)(g:KW Z a)(k:Nat)(d:k<=i)(h:∀y∈(a.take i).drop k,∀z∈b.take j,le Z z y):MH Z a b ((a.take i).drop k++o) k j:=by
 have f:KW Z (a.take i):=g.sublist (ES _ _);have e:a.drop k =(a.take i).drop k++a.drop i:=by
  conv=>lhs;rw[<-BX i a]
  rw[List.drop_append];by_cases l:i<=a.length
  .rw[A_,FY l,Nat.sub_eq_zero_of_le d,EQ]
  .have:a.drop i = []:=EX (by lia);rw[this,List.drop_nil]
 have n:(a.take i).take k=a.take k:=by rw[List.take_take,FY d]
 refine⟨?_,?_,λx hx y c=>?_,λx hx y c=>?_⟩
 .rw[e,BF];exact CV _ m.perm
 .exact CP.mpr ⟨f.sublist (FF _ _),m.sor,λx hx y c=>m.la y c x (EO hx)⟩
 .rw[<-n]at c;rcases AJ.mp hx with hx | hx
  .exact Ik k f y c x hx
  .exact m.la x hx y (DE c)
 .rcases AJ.mp hx with hx | hx
  .exact h x hx y c
  .exact m.lb x hx y c
theorem MH.addB{a b o:A0 HV}{i j:Nat}(m:MH Z a b o i j)(d:KW Z b)(k:Nat)(c:k<=j)(e:∀y∈(b.take j).drop k,∀z∈a.take i,le Z z y):MH Z a b ((b.take j).drop k++o) i k :=
 (m.sym.addA d k c e).sym
theorem MH.endA{a b o:A0 HV}{i j:Nat}(m:MH Z a b o i j)(e:KW Z a)(f:KW Z b)(h:∀y∈a.take i,∀z∈b.take j,le Z y z):KW Z (a.take i++b.take j++o)/\(a.take i++b.take j++o).Perm (a++b):=by
 refine⟨?_,?_⟩
 .refine CP.mpr ⟨CP.mpr ⟨e.sublist (ES _ _),f.sublist (ES _ _),h⟩,m.sor,λx hx y c=>?_⟩;rcases AJ.mp hx with hx | hx
  .exact m.la y c x hx
  .exact m.lb y c x hx
 .have g:(a.take i++b.take j++o).Perm (a.take i++b.take j ++(a.drop i++b.drop j)):=CV _ m.perm;refine g.trans ?_;have d:(a.take i++b.take j ++(a.drop i++b.drop j)).Perm ((a.take i++a.drop i) ++(b.take j++b.drop j)):=by
   rw[BF,BF];refine CV _ ?_;rw[<-BF,<-BF];exact DR _ CU
  rw[BX,BX]at d;exact d
theorem MH.endB{a b o:A0 HV}{i j:Nat}(m:MH Z a b o i j)(c:KW Z a)(d:KW Z b)(h:∀y∈b.take j,∀z∈a.take i,le Z y z):KW Z (b.take j++a.take i++o)/\(b.take j++a.take i++o).Perm (a++b) :=
 ⟨(m.sym.endA d c h).1,(m.sym.endA d c h).2.trans CU⟩
end
section
variable{prog:HU}{w:HW}{A:IA}{E:A2->A4->Prop}{s:A4}{Z:KeyKind}{kd:JO}
def Bn(g:Nat):StateT HY Sem Unit:=modify λs=>SortSt.mk' (kindOf s) (arrOf s) (pendingOf s) g (failedOf s)
def Ex:HS HV->HS HV->StateT HY Sem (HS HV):=sortPriv% PySem.Builtin.mergeLo
theorem Io(a b:HS HV):Ex a b =(do
  rule "list.sort.merge-lo"
  let e:=a.size+b.size
  let d (o:HS HV) (i j:Nat):=o++a.extract i a.size++b.extract j b.size
  let h (o:HS HV) (i j:Nat):=o++b.extract j b.size++a.extract i a.size
  let mut o:HS HV:=#[<-elem' b 0]
  let mut i:=0
  let mut j:=1
  if j == b.size then return d o i j
  if i+1 == a.size then return h o i j
  let mut c:=gallopOf (<-get)
  for _ in [0:e] do
   let mut f:=0
   let mut g:=0
   for _ in [0:e] do
    let some l <-lt' (<-elem' b j) (<-elem' a i) | return d o i j
    if l then
     o:=o.push (<-elem' b j);j:=j+1;g:=g+1;f:=0
     if j == b.size then return d o i j
     if g ≥ c then break
    else
     o:=o.push (<-elem' a i);i:=i+1;f:=f+1;g:=0
     if i+1 == a.size then return h o i j
     if f ≥ c then break
   rule "list.sort.gallop"
   c:=c+1
   for _ in [0:e] do
    if c>1 then c:=c-1
    Bn c
    let some k <-U8 false (<-elem' b j) a i (a.size-i) 0 | return d o i j
    f:=k
    if k>0 then
     o:=o++a.extract i (i+k);i:=i+k
     if i+1 == a.size then return h o i j
     if i == a.size then return d o i j
    o:=o.push (<-elem' b j);j:=j+1
    if j == b.size then return d o i j
    let some k <-U8 true (<-elem' a i) b j (b.size-j) 0 | return d o i j
    g:=k
    if k>0 then
     o:=o++b.extract j (j+k);j:=j+k
     if j == b.size then return d o i j
    o:=o.push (<-elem' a i);i:=i+1
    if i+1 == a.size then return h o i j
    if f<7&&g<7 then break
   c:=c+1
   Bn c
  unsupported "internal:list.sort.merge-bound"):=rfl
def Sm(st a:HY):Prop:=kindOf a=kindOf st/\arrOf a=arrOf st/\pendingOf a=pendingOf st/\failedOf a=failedOf st
theorem Sm.refl(st:HY):Sm st st:=⟨rfl,rfl,rfl,rfl⟩
theorem Y5{st st0:HY}{g:Nat}{Q:Unit->HY->Prop}(b:Sm st0 st)(h:∀a,Sm st0 a->Q () a):wpS (model prog w) A E s (Bn g) Q st :=
 wpS_modify (h _ ⟨b.1,b.2.1,b.2.2.1,b.2.2.2⟩)
theorem Dg{l:A0 HV}{i k:Nat}{y:HV}(h:y∈(l.drop i).take k):∃t,t<k/\l[i+t]?=some y:=by
 obtain⟨t,a,e⟩:=EA.mp h;rw[A_,DJ]at a;refine⟨t,by lia,?_⟩;rw[List.getElem_take,List.getElem_drop]at e;rw[<-e];exact AF (by lia)
theorem Jv{l:A0 HV}{i:Nat}{y:HV}(h:y∈l.drop i):∃t,i+t<l.length/\l[i+t]?=some y:=by
 obtain⟨t,a,e⟩:=EA.mp h;rw[DJ]at a;refine⟨t,by lia,?_⟩;rw[List.getElem_drop]at e;rw[<-e];exact AF (by lia)
theorem On{l:A0 HV}{i:Nat}{y:HV}(h:y∈l.take i):∃t,t<i/\t<l.length/\l[t]?=some y:=by
 obtain⟨t,a,e⟩:=EA.mp h;rw[A_]at a;refine⟨t,by lia,by lia,?_⟩;rw[List.getElem_take]at e;rw[<-e];exact AF (by lia)
theorem Xo{l:A0 HV}{i k:Nat}{y:HV}(h:y∈(l.take i).drop k):∃t,k<=t/\t<i/\l[t]?=some y:=by
 obtain⟨t,b,a⟩:=Jv h;rw[A_]at b;rw[DK (by lia)]at a;exact⟨k+t,by lia,by lia,a⟩
theorem y9{l:A0 HV}(h:KW Z l){i j:Nat}{p q:HV}(a:i<=j)(b:l[i]?=some p)(c:l[j]?=some q):le Z p q:=by
 obtain⟨d,rfl⟩:=AM.mp b;obtain⟨e,rfl⟩:=AM.mp c;rcases Nat.lt_or_eq_of_le a with z | z
 .exact List.pairwise_iff_getElem.mp h i j d e z
 .subst z;exact RJ _
theorem Eu{l:A0 HV}(h:KW Z l){i:Nat}{p:HV}(a:l[i]?=some p):∀z∈l.drop i,le Z p z:=λz b=>by
 obtain⟨t,_,e⟩:=Jv b;exact y9 h (EH _ _) a e
theorem IE{a:HS HV}{i:Nat}{p:HV}:a[i]?=some p↔a.toList[i]?=some p:=by rw[BL]
theorem j4{a:HS HV}{i:Nat}(h:i<a.size):∃p,a[i]?=some p:=⟨a[i],getElem?_pos a i h⟩
theorem Qd{l:A0 HV}{i:Nat}{p:HV}(h:l[i]?=some p):(l.drop i).take 1 = [p]:=by
 obtain⟨a,rfl⟩:=AM.mp h;rw[DU a];rfl
theorem Fg(a:HS HV)(i k:Nat):(a.extract i (i+k)).toList =(a.toList.drop i).take k:=by
 rw[ER,EF,Nat.add_sub_cancel_left]
theorem w8(a:HS HV)(i:Nat):(a.extract i a.size).toList=a.toList.drop i:=by
 rw[ER,EF,DT];rw[DJ,AX];exact VD _
theorem y7(a:HS HV)(i:Nat):(a.extract 0 i).toList=a.toList.take i:=by
 rw[ER,EF,EQ,Nat.sub_zero]
def Rm(Z:KeyKind)(a b r:HS HV):Prop:=KW Z r.toList/\r.toList.Perm (a.toList++b.toList)
structure M_(Z:KeyKind)(a b:HS HV):Prop where
 sa:KW Z a.toList
 sb:KW Z b.toList
 ka:∀(i:Nat) p,a[i]?=some p->Q_ Z p
 kb:∀(i:Nat) p,b[i]?=some p->Q_ Z p
 na:1<=a.size
 nb:1<=b.size
 first:∀q,b[0]?=some q->∀z∈a.toList,le Z q z
 last:∀p,a[a.size-1]?=some p->∀z∈b.toList,le Z z p
section
variable{a b o:HS HV}{i j k:Nat}{p q:HV}
theorem M_.pushB(P:M_ Z a b)(m:ML Z a.toList b.toList o.toList i j)(c:b[j]?=some q)(h:∀z∈a.toList.drop i,le Z q z):ML Z a.toList b.toList (o.push q).toList i (j+1):=by
 have d:=m.addB P.sb 1 (by rw[Qd (IE.mp c)];intro y e;rw[AC.mp e];exact h);rw[Qd (IE.mp c)]at d;rw[DD];exact d
theorem M_.pushA(P:M_ Z a b)(m:ML Z a.toList b.toList o.toList i j)(c:a[i]?=some p)(h:∀z∈b.toList.drop j,le Z p z):ML Z a.toList b.toList (o.push p).toList (i+1) j:=by
 have d:=m.addA P.sa 1 (by rw[Qd (IE.mp c)];intro y e;rw[AC.mp e];exact h);rw[Qd (IE.mp c)]at d;rw[DD];exact d
theorem M_.extA(P:M_ Z a b)(m:ML Z a.toList b.toList o.toList i j)(h:∀y∈(a.toList.drop i).take k,∀z∈b.toList.drop j,le Z y z):ML Z a.toList b.toList (o++a.extract i (i+k)).toList (i+k) j:=by
 rw[BS,Fg];exact m.addA P.sa k h
theorem M_.extB(P:M_ Z a b)(m:ML Z a.toList b.toList o.toList i j)(h:∀y∈(b.toList.drop j).take k,∀z∈a.toList.drop i,le Z y z):ML Z a.toList b.toList (o++b.extract j (j+k)).toList i (j+k):=by
 rw[BS,Fg];exact m.addB P.sb k h
theorem M_.doneB(P:M_ Z a b)(m:ML Z a.toList b.toList o.toList i j)(d:j=b.size):Rm Z a b (o++a.extract i a.size++b.extract j b.size):=by
 unfold Rm;rw[BS,BS,w8,w8];refine m.endA P.sa P.sb λy _ z c=>?_;rw[EX (by rw[AX];lia)]at c;exact absurd c (by simp)
theorem M_.doneA(P:M_ Z a b)(m:ML Z a.toList b.toList o.toList i j)(hi:i=a.size):Rm Z a b (o++a.extract i a.size++b.extract j b.size):=by
 unfold Rm;rw[BS,BS,w8,w8];refine m.endA P.sa P.sb λy c z _=>?_;rw[EX (by rw[AX];lia)]at c;exact absurd c (by simp)
theorem M_.lastA(P:M_ Z a b)(m:ML Z a.toList b.toList o.toList i j)(hi:i+1=a.size):Rm Z a b (o++b.extract j b.size++a.extract i a.size):=by
 unfold Rm;rw[BS,BS,w8,w8];refine m.endB P.sa P.sb λy d z f=>?_;obtain⟨t,g,c⟩:=Jv f;rw[AX]at g;have e:i+t=a.size-1:=by lia
 rw[e]at c;exact P.last z (IE.mpr c) y (EO d)
end
theorem Sm.knd{st a:HY}(h:Sm st a){k:JO}(b:kindOf st=k):kindOf a=k:=h.1.trans b
theorem w5(C:QN prog w A s Z kd){st:HY}{left:Bool}{d:HV}{b:HS HV}{bs n e:Nat}{Q:A5 Nat->HY->Prop}(D:kindOf st=kd)(f:Q_ Z d)
  (hsz:bs+n<=b.size) (F:∀(i:Nat) p,b[i]?=some p->Q_ Z p) (G:∀(u v:Nat) p q,u<=v->v<n->b[bs+u]?=some p->b[bs+v]?=some q->le Z p q) (g:e<n)
  (h:∀k,k<=n->(∀(t:Nat) p,t<k->b[bs+t]?=some p->PB Z left d p=true)->(∀(t:Nat) p,k<=t->t<n->b[bs+t]?=some p->PB Z left d p=false)->Q (some k) st) :
  wpS (model prog w) A E s (U8 left d b bs n e) Q st:=by
 have c:∀t,t<n->∃p,b[bs+t]?=some p:=λt e=>j4 (by lia);refine Nt C D f (λt=>match b[bs+t]? with | some p=>PB Z left d p | none=>false) (λi H=>?_) (λi j m y a=>?_) g λk o I J=>?_
 .obtain⟨p,a⟩:=c i H;exact⟨p,a,F _ p a,by rw[a]⟩
 .obtain⟨p,z⟩:=c i (by lia);obtain⟨q,B⟩:=c j y;rw[B]at a;rw[z];have l:=G i j p q m y z B;dsimp only at a⊢;unfold PB at a⊢;cases left with
  | true =>
   simp only[GH]at a⊢;exact KeyOrd.klt_of_kle_of_klt l a
  | false =>
   simp only[BD,CO,Bool.not_eq_true']at a⊢;exact KeyOrd.kle_trans l a
 .refine h k o (λt p e a=>?_) λt p r x a=>?_
  .have:=I t e;rw[a]at this;exact this
  .have:=J t r x;rw[a]at this;exact this
theorem Ei{a p:HV}(h:PB Z false a p=true):le Z p a:=by
 unfold PB at h;show Z.blt (kk Z a) (kk Z p)=false;simpa using h
theorem Cp{a p:HV}(h:PB Z false a p=false):Z.klt (kk Z a) (kk Z p):=by
 unfold PB at h;show Z.blt (kk Z a) (kk Z p)=true;simpa using h
theorem Jh{a p:HV}(h:PB Z true a p=true):Z.klt (kk Z p) (kk Z a):=by
 unfold PB at h;show Z.blt (kk Z p) (kk Z a)=true;simpa using h
theorem Fq{a p:HV}(h:PB Z true a p=false):le Z a p:=by
 unfold PB at h;show Z.blt (kk Z p) (kk Z a)=false;simpa using h
section
variable{α:Type}{Q:α->HY->Prop}{st:HY}
theorem U3{c:Prop}{_:Decidable c}{t e:StateT HY Sem α}(h1:c->wpS (model prog w) A E s t Q st)(h2:¬c->wpS (model prog w) A E s e Q st):wpS (model prog w) A E s (if c then t else e) Q st:=by
 split
 .rename_i h;exact h1 h
 .rename_i h;exact h2 h
theorem Q7{x y:Nat}{t e:StateT HY Sem α}(h1:x=y->wpS (model prog w) A E s t Q st)(h2:x≠y->wpS (model prog w) A E s e Q st):wpS (model prog w) A E s (if(x == y)=true then t else e) Q st :=
 U3 (λh=>h1 (eq_of_beq h)) λh=>h2 λz=>h (beq_iff_eq.mpr z)
theorem Ov{c:Prop}{_:Decidable c}{t:StateT HY Sem α}{F:Nat->StateT HY Sem α}(x:Nat){y:Nat}(h:∀g,wpS (model prog w) A E s (F g) Q st)(e:t=F x):wpS (model prog w) A E s (if c then t else F y) Q st:=by
 subst e;exact U3 (λ_=>h _) λ_=>h _
theorem Ep{c:Prop}{_:Decidable c}{t:StateT HY Sem α}{F:HS HV->Nat->StateT HY Sem α}{o:HS HV}{i:Nat}(R:HS HV->Nat->Prop)(h:∀o i,R o i->wpS (model prog w) A E s (F o i) Q st)
  (a:(∀o i,R o i->wpS (model prog w) A E s (F o i) Q st)->c->wpS (model prog w) A E s t Q st) (b:¬c->R o i):wpS (model prog w) A E s (if c then t else F o i) Q st:=U3 (a h) λz=>h _ _ (b z)
end
theorem Rq{α β:Type}{h:Sem Unit}{i:StateT HY Sem HV}{x0:HV}{b e:Prop}{_:Decidable b}{_:Decidable e}{j k:HV->StateT HY Sem α}{d:HV->HY->β}{n:Nat}{f:Nat->β->StateT HY Sem (ForInStep β)}{g:β->StateT HY Sem α}{Q:α->HY->Prop}{st:HY}
  (m:∀R:Unit->HY->Prop,R () st->wpS (model prog w) A E s (liftM h:StateT HY Sem Unit) R st) (o:∀R:HV->HY->Prop,R x0 st->wpS (model prog w) A E s i R st) (h1:b->wpS (model prog w) A E s (j x0) Q st) (h2:¬b->e->wpS (model prog w) A E s (k x0) Q st)
  (p:¬b->¬e->wpS (model prog w) A E s (forIn [0:n] (d x0 st) f) (λc a=>wpS (model prog w) A E s (g c) Q a) st) :
  wpS (model prog w) A E s ((liftM h:StateT HY Sem Unit) >>= λ_=>i >>= λx=>if b then j x else if e then k x else get >>= λa=>forIn [0:n] (d x a) f >>= g) Q st :=
 wpS_bind (m _ (wpS_bind (o _ (U3 h1 λl=>U3 (h2 l) λq=>wpS_bind (wpS_get (wpS_bind (p l q)))))))
def MR(Z:KeyKind)(a b:HS HV)(st:HY){β:Type}(c:A5 (HS HV)×β)(d:HY):Prop:=Sm st d/\∃r,c.1=some r/\Rm Z a b r
theorem MR.mk{a b r:HS HV}{st d:HY}{β:Type}{c:β}(e:Sm st d)(h:Rm Z a b r):MR Z a b st (some r,c) d:=⟨e,r,rfl,h⟩
structure PX(Z:KeyKind)(a b:HS HV)(n:Nat)(o:HS HV)(i j:Nat):Prop where
 m:ML Z a.toList b.toList o.toList i j
 hi:i+1<a.size
 hj:j<b.size
 hn:n<=i+j
theorem PX.putB{a b o c:HS HV}{n i j:Nat}(h:PX Z a b n o i j)(m:ML Z a.toList b.toList c.toList i (j+1))(e:j+1≠b.size):PX Z a b (n+1) c i (j+1):=⟨m,h.hi,FS h.hj e,FN h.hn⟩
theorem PX.putA{a b o c:HS HV}{n i j:Nat}(h:PX Z a b n o i j)(m:ML Z a.toList b.toList c.toList (i+1) j)(e:i+1+1≠a.size):PX Z a b (n+1) c (i+1) j:=⟨m,FS h.hi e,h.hj,by rw[Nat.add_right_comm];exact FN h.hn⟩
theorem PX.mono{a b o:HS HV}{n c i j:Nat}(h:PX Z a b n o i j)(l:c<=n):PX Z a b c o i j:=⟨h.m,h.hi,h.hj,VE l h.hn⟩
def zHs(Z:KeyKind)(a b:HS HV)(st:HY)(n:Nat)(c:A5 (HS HV)×HS HV×Nat×Nat×Nat)(d:HY):Prop:=Sm st d/\∃o i j e,c =(none,o,i,j,e)/\PX Z a b n o i j
def PH(Z:KeyKind)(a b:HS HV)(st:HY)(n:Nat)(c:A5 (HS HV)×HS HV×Nat×Nat×Nat×Nat)(d:HY):Prop:=Sm st d/\∃o i j e f,c =(none,o,i,j,e,f)/\PX Z a b n o i j
def PY(Z:KeyKind)(a b:HS HV)(st:HY)(n:Nat)(c:A5 (HS HV)×HS HV×Nat×Nat×Nat×Nat×Nat)(d:HY):Prop:=Sm st d/\∃o i j e f g,c =(none,o,i,j,e,f,g)/\PX Z a b n o i j
theorem PH.mk{a b o:HS HV}{st c:HY}{n i j d e:Nat}(f:Sm st c)(h:PX Z a b n o i j):PH Z a b st n (none,o,i,j,d,e) c:=⟨f,_,_,_,_,_,rfl,h⟩
theorem PY.mk{a b o:HS HV}{st c:HY}{n i j d e f:Nat}(g:Sm st c)(h:PX Z a b n o i j):PY Z a b st n (none,o,i,j,d,e,f) c:=⟨g,_,_,_,_,_,_,rfl,h⟩
theorem Iu(C:QN prog w A s Z kd){st:HY}{a b:HS HV}{Q:HS HV->HY->Prop}(hk:kindOf st=kd)(P:M_ Z a b)
  (h:∀r d,Sm st d->Rm Z a b r->Q r d):wpS (model prog w) A E s (Ex a b) Q st:=by
 rw[Io];obtain⟨b0,O⟩:=j4 (a:=b) (i:=0) P.nb;have m0:ML Z a.toList b.toList (#[]:HS HV).toList 0 0:=⟨by simp,List.Pairwise.nil,λx hx=>absurd hx (by simp),λx hx=>absurd hx (by simp)⟩;have m1:ML Z a.toList b.toList (#[b0]:HS HV).toList 0 1:=by
  have:=P.pushB m0 O (by rw[EQ];exact P.first b0 O);simpa using this
 apply Rq (x0:=b0) (λR z=>wpS_lift (DF ⟨rfl,z⟩)) (λR z=>E8 O z)
 case h1=>exact λS=>wpS_pure (h _ _ (Sm.refl _) (P.doneB m1 (eq_of_beq S)))
 case h2=>exact λ_ T=>wpS_pure (h _ _ (Sm.refl _) (P.lastA m1 (eq_of_beq T)))
 intro S T;have p1:PX Z a b 1 #[b0] 0 1:=⟨m1,FS P.na λz=>T (beq_iff_eq.mpr z),FS P.nb λz=>S (beq_iff_eq.mpr z),VD _⟩;refine wpS_mono (wpS_forRange (I:=λx=>zHs Z a b st (x+1)) (Q:=MR Z a b st) ?st ?en ⟨Sm.refl _,_,_,_,_,rfl,p1⟩) ?po
 case po =>
  rintro⟨c1,c2⟩ d ⟨sm,r,e,hr⟩;cases e;exact wpS_pure (h r d sm hr)
 case en =>
  rintro c d ⟨sm,o,i,j,mg,rfl,p⟩;obtain⟨_,h1,h2,h3⟩:=p;exfalso;lia
 case st =>
  rintro x c d _ hx ⟨sm,o,i,j,mg,rfl,p⟩;refine wpS_bind (wpS_mono (wpS_forRange (I:=λ_=>PH Z a b st (x+1)) (Q:=λc d=>MR Z a b st c d\/PH Z a b st (x+1) c d) ?st1 ?en1 (PH.mk sm p)) ?po1)
  case en1=>exact λc st2 z=>.inr z
  case st1 =>
   rintro x2 c st2 _ _ ⟨f,o,i',j',ac,bc,rfl,N⟩;obtain⟨bj,l⟩:=j4 (a:=b) (i:=j') N.hj;obtain⟨ai,n⟩:=j4 (a:=a) (i:=i') (GI N.hi);refine wpS_bind (E8 l (wpS_bind (E8 n (wpS_bind (Ic C (f.knd hk) (P.kb _ _ l) (P.ka _ _ n) ?_)))));refine U3 (λU=>wpS_bind (E8 l ?_)) λU=>wpS_bind (E8 n ?_)
   .have m3:=P.pushB N.m l λz H=>I1 (KeyOrd.kle_of_klt U) (Eu P.sa (IE.mp n) z H);refine Q7 (λG=>wpS_pure (.inl (MR.mk f (P.doneB m3 G)))) λG=>?_;have D:=(N.putB m3 G).mono (DM _);exact U3 (λ_=>wpS_pure (.inr (PH.mk f D))) λ_=>wpS_pure (PH.mk f D)
   .have m3:=P.pushA N.m n λz H=>I1 (show le Z ai bj from ET.mpr U) (Eu P.sb (IE.mp l) z H);refine Q7 (λG=>wpS_pure (.inl (MR.mk f (P.lastA m3 G)))) λG=>?_;have D:=(N.putA m3 G).mono (DM _);exact U3 (λ_=>wpS_pure (.inr (PH.mk f D))) λ_=>wpS_pure (PH.mk f D)
  case po1 =>
   rintro⟨c1,c2⟩ st2 (⟨f,r,e,hr⟩ | ⟨f,o2,i2,j2,ac,bc,e,N⟩)
   .cases e;exact wpS_pure (MR.mk f hr)
   .cases e;refine wpS_bind (wpS_lift (DF ⟨rfl,?_⟩));refine wpS_bind (wpS_mono (wpS_forRange (I:=λx3=>PY Z a b st (x+1+x3)) (Q:=λc d=>MR Z a b st c d\/PY Z a b st (x+1+1) c d) ?st2 ?en2 (PY.mk f N)) ?po2)
    case en2 =>
     rintro c st3 ⟨F,o',i',j',mg',ac,bc,rfl,D⟩;refine .inr (PY.mk F (D.mono ?_));have:=P.na;lia
    case po2 =>
     rintro⟨c1,c2⟩ st3 (⟨F,r,e,hr⟩ | ⟨F,o',i',j',mg',ac,bc,e,D⟩)
     .cases e;exact wpS_pure (MR.mk F hr)
     .cases e;refine wpS_bind (Y5 F λst4 B=>?_);exact wpS_pure ⟨B,_,_,_,_,rfl,D⟩
    case st2 =>
     rintro x3 c st3 _ _ ⟨F,o3,V,j3,mg3,ac3,bc3,rfl,D⟩;obtain⟨bj,l⟩:=j4 (a:=b) (i:=j3) D.hj;have hi3:V +(a.size-V)<=a.size:=by rw[Nat.add_sub_cancel' (DQ (GI D.hi))];exact VD _
     have hj3:=D.hj;apply Ov (mg3-1) (y:=mg3)
     case e=>exact rfl
     intro g;refine wpS_bind (Y5 F λst4 B=>?_);refine wpS_bind (E8 l (wpS_bind (w5 C (B.knd hk) (P.kb _ _ l) hi3 P.ka (λu v p q W _ G Y=>y9 P.sa (ED W _) (IE.mp G) (IE.mp Y)) (HE (GI D.hi)) λk hk1 k1 k2=>?_)));have m4:ML Z a.toList b.toList (o3++a.extract V (V+k)).toList (V+k) j3:=P.extA D.m λy hy z H=>by
      obtain⟨t,X,e⟩:=Dg hy;exact I1 (Ei (k1 t y X (IE.mpr e))) (Eu P.sb (IE.mp l) z H)
     have K:∀z∈a.toList.drop (V+k),le Z bj z:=λz H=>by
      obtain⟨t,X,e⟩:=Jv H;rw[AX]at X;exact KeyOrd.kle_of_klt (Cp (k2 (k+t) z (EH _ _) (by lia) (by rw[<-Nat.add_assoc];exact IE.mpr e)))
     apply Ep (o:=o3) (i:=V) (λo i=>PX Z a b (x+1+x3) o i j3/\∀z∈a.toList.drop i,le Z bj z)
     .rintro o4 i4 ⟨p4,K⟩;refine wpS_bind (E8 l ?_);have m5:=P.pushB p4.m l K;refine Q7 (λe3=>wpS_pure (.inl (MR.mk B (P.doneB m5 e3)))) λe3=>?_;have L:=p4.putB m5 e3;generalize o4.push bj=o5 at m5 L⊢;generalize j3+1=j5 at m5 L⊢;obtain⟨ai,n⟩:=j4 (a:=a) (i:=i4) (GI L.hi);refine wpS_bind (E8 n (wpS_bind (w5 C (B.knd hk) (P.ka _ _ n) (by rw[Nat.add_sub_cancel' (DQ L.hj)];exact VD _) P.kb (λu v p q W _ G Y=>y9 P.sb (ED W _) (IE.mp G) (IE.mp Y)) (HE L.hj) λk' hk1' k1' k2'=>?_)));have M:∀z∈b.toList.drop (j5+k'),le Z ai z:=λz H=>by
       obtain⟨t,X,e⟩:=Jv H;rw[AX]at X;exact Fq (k2' (k'+t) z (EH _ _) (by lia) (by rw[<-Nat.add_assoc];exact IE.mpr e))
      apply Ep (o:=o5) (i:=j5) (λo j=>PX Z a b (x+1+x3+1) o i4 j/\∀z∈b.toList.drop j,le Z ai z)
      .rintro o6 j6 ⟨p6,M⟩;refine wpS_bind (E8 n ?_);have m7:=P.pushA p6.m n M;refine Q7 (λe5=>wpS_pure (.inl (MR.mk B (P.lastA m7 e5)))) λe5=>?_;have p7:=p6.putA m7 e5;exact U3 (λ_=>wpS_pure (.inr (PY.mk B (p7.mono (by lia))))) λ_=>wpS_pure (PY.mk B (p7.mono (by lia)))
      .intro hF J;have m6:ML Z a.toList b.toList (o5++b.extract j5 (j5+k')).toList i4 (j5+k'):=P.extB m5 λy hy z H=>by
        obtain⟨t,X,e⟩:=Dg hy;exact I1 (KeyOrd.kle_of_klt (Jh (k1' t y X (IE.mpr e)))) (Eu P.sa (IE.mp n) z H)
       have hj5:=L.hj;exact Q7 (λe4=>wpS_pure (.inl (MR.mk B (P.doneB m6 e4)))) λe4=>hF _ _ ⟨⟨m6,L.hi,by lia,VE L.hn (by lia)⟩,M⟩
      .intro J;have z0:k'=0:=FT J;subst z0;exact⟨L,M⟩
     .intro hF J;have hi:=D.hi;exact Q7 (λG=>wpS_pure (.inl (MR.mk B (P.lastA m4 G)))) λG=>Q7 (λY=>wpS_pure (.inl (MR.mk B (P.doneA m4 Y)))) λY=>hF _ _ ⟨⟨m4,by lia,D.hj,VE D.hn (by lia)⟩,K⟩
     .intro J;have z0:k=0:=FT J;subst z0;exact⟨D,K⟩
def En:HS HV->HS HV->StateT HY Sem (HS HV):=sortPriv% PySem.Builtin.mergeHi
theorem Jl(a b:HS HV):En a b =(do
  rule "list.sort.merge-hi"
  let f:=a.size+b.size
  let e (o:HS HV) (i j:Nat):=a.extract 0 i++b.extract 0 j++o.reverse
  let l (o:HS HV) (i j:Nat):=b.extract 0 j++a.extract 0 i++o.reverse
  let mut i:=a.size-1
  let mut j:=b.size
  let mut o:HS HV:=#[<-elem' a i]
  if i == 0 then return e o i j
  if j == 1 then return l o i j
  let mut d:=gallopOf (<-get)
  for _ in [0:f] do
   let mut g:=0
   let mut h:=0
   for _ in [0:f] do
    let some m <-lt' (<-elem' b (j-1)) (<-elem' a (i-1)) | return e o i j
    if m then
     i:=i-1;o:=o.push (<-elem' a i);g:=g+1;h:=0
     if i == 0 then return e o i j
     if g ≥ d then break
    else
     j:=j-1;o:=o.push (<-elem' b j);h:=h+1;g:=0
     if j == 1 then return l o i j
     if h ≥ d then break
   rule "list.sort.gallop"
   d:=d+1
   for _ in [0:f] do
    if d>1 then d:=d-1
    Bn d
    let some c <-U8 false (<-elem' b (j-1)) a 0 i (i-1) | return e o i j
    let k:=i-c
    g:=k
    if k>0 then
     o:=o ++(a.extract c i).reverse;i:=c
     if i == 0 then return e o i j
    j:=j-1;o:=o.push (<-elem' b j)
    if j == 1 then return l o i j
    let some c <-U8 true (<-elem' a (i-1)) b 0 j (j-1) | return e o i j
    let k:=j-c
    h:=k
    if k>0 then
     o:=o ++(b.extract c j).reverse;j:=c
     if j == 1 then return l o i j
     if j == 0 then return e o i j
    i:=i-1;o:=o.push (<-elem' a i)
    if i == 0 then return e o i j
    if g<7&&h<7 then break
   d:=d+1
   Bn d
  unsupported "internal:list.sort.merge-bound"):=rfl
abbrev OJ(Z:KeyKind)(a b o:HS HV)(i j:Nat):Prop:=MH Z a.toList b.toList o.toList.reverse i j
section
variable{a b o:HS HV}{i j k:Nat}{p q:HV}
theorem td1{l:A0 HV}{i:Nat}{p:HV}(hi:1<=i)(h:l[i-1]?=some p):(l.take i).drop (i-1) = [p]:=by
 rw[GJ,show i-(i-1)=1 by lia];exact Qd h
theorem Je(a:HS HV)(k i:Nat):(a.extract k i).toList =(a.toList.take i).drop k:=by
 rw[ER,EF,GJ]
theorem Es{l:A0 HV}(h:KW Z l){i:Nat}{p:HV}(a:l[i-1]?=some p):∀z∈l.take i,le Z z p:=λz b=>by
 obtain⟨t,c,_,e⟩:=On b;exact y9 h (by lia) e a
theorem M_.hpA(P:M_ Z a b)(m:OJ Z a b o i j)(hi:1<=i)(c:a[i-1]?=some p)(h:∀z∈b.toList.take j,le Z z p):OJ Z a b (o.push p) (i-1) j:=by
 have d:=m.addA P.sa (i-1) (by lia) (by rw[td1 hi (IE.mp c)];intro y e;rw[AC.mp e];exact h);rw[td1 hi (IE.mp c)]at d;unfold OJ;rw[DD,GT];exact d
theorem M_.hpB(P:M_ Z a b)(m:OJ Z a b o i j)(c:1<=j)(d:b[j-1]?=some q)(h:∀z∈a.toList.take i,le Z z q):OJ Z a b (o.push q) i (j-1):=by
 have e:=m.addB P.sb (j-1) (by lia) (by rw[td1 c (IE.mp d)];intro y f;rw[AC.mp f];exact h);rw[td1 c (IE.mp d)]at e;unfold OJ;rw[DD,GT];exact e
theorem M_.heA(P:M_ Z a b)(m:OJ Z a b o i j)(c:k<=i)(h:∀y∈(a.toList.take i).drop k,∀z∈b.toList.take j,le Z z y):OJ Z a b (o ++(a.extract k i).reverse) k j:=by
 unfold OJ;rw[BS,FG,GT,List.reverse_reverse,Je];exact m.addA P.sa k c h
theorem M_.heB(P:M_ Z a b)(m:OJ Z a b o i j)(c:k<=j)(h:∀y∈(b.toList.take j).drop k,∀z∈a.toList.take i,le Z z y):OJ Z a b (o ++(b.extract k j).reverse) i k:=by
 unfold OJ;rw[BS,FG,GT,List.reverse_reverse,Je];exact m.addB P.sb k c h
theorem M_.hdA(P:M_ Z a b)(m:OJ Z a b o i j)(hi:i=0):Rm Z a b (a.extract 0 i++b.extract 0 j++o.reverse):=by
 unfold Rm;rw[BS,BS,FG,y7,y7];refine m.endA P.sa P.sb λy c z _=>?_;rw[hi,List.take_zero]at c;exact absurd c (by simp)
theorem M_.hdB(P:M_ Z a b)(m:OJ Z a b o i j)(d:j=0):Rm Z a b (a.extract 0 i++b.extract 0 j++o.reverse):=by
 unfold Rm;rw[BS,BS,FG,y7,y7];refine m.endA P.sa P.sb λy _ z c=>?_;rw[d,List.take_zero]at c;exact absurd c (by simp)
theorem M_.hfB(P:M_ Z a b)(m:OJ Z a b o i j)(g:j=1):Rm Z a b (b.extract 0 j++a.extract 0 i++o.reverse):=by
 unfold Rm;rw[BS,BS,FG,y7,y7];refine m.endB P.sa P.sb λy c z d=>?_;obtain⟨t,h,_,e⟩:=On c;have f:t=0:=by lia
 rw[f]at e;exact P.first y (IE.mpr e) z (DE d)
end
structure OI(Z:KeyKind)(a b:HS HV)(n:Nat)(o:HS HV)(i j:Nat):Prop where
 m:OJ Z a b o i j
 hi:1<=i
 hj:2<=j
 ia:i<=a.size
 jb:j<=b.size
 hn:n+i+j<=a.size+b.size
theorem OI.putA{a b o c:HS HV}{n i j:Nat}(h:OI Z a b n o i j)(m:OJ Z a b c (i-1) j)(e:i-1≠0):OI Z a b (n+1) c (i-1) j:=by
 obtain⟨_,g,d,k,f,l⟩:=h;exact⟨m,by lia,d,by lia,f,by lia⟩
theorem OI.putB{a b o c:HS HV}{n i j:Nat}(h:OI Z a b n o i j)(m:OJ Z a b c i (j-1))(e:j-1≠1):OI Z a b (n+1) c i (j-1):=by
 obtain⟨_,d,g,f,k,l⟩:=h;exact⟨m,d,by lia,f,by lia,by lia⟩
theorem OI.mono{a b o:HS HV}{n c i j:Nat}(h:OI Z a b n o i j)(l:c<=n):OI Z a b c o i j:=⟨h.m,h.hi,h.hj,h.ia,h.jb,VE (Nat.add_le_add_right (Nat.add_le_add_right l _) _) h.hn⟩
theorem OI.la{a b o:HS HV}{n i j:Nat}(h:OI Z a b n o i j):i-1<a.size:=BI (Nat.sub_lt h.hi (GZ)) h.ia
theorem OI.lb{a b o:HS HV}{n i j:Nat}(h:OI Z a b n o i j):j-1<b.size:=BI (Nat.sub_lt (GI h.hj) (GZ)) h.jb
theorem OI.hj1{a b o:HS HV}{n i j:Nat}(h:OI Z a b n o i j):1<=j:=Nat.le_of_succ_le h.hj
def zHp(Z:KeyKind)(a b:HS HV)(st:HY)(n:Nat)(c:A5 (HS HV)×Nat×Nat×HS HV×Nat)(d:HY):Prop:=Sm st d/\∃i j o e,c =(none,i,j,o,e)/\OI Z a b n o i j
def PJ(Z:KeyKind)(a b:HS HV)(st:HY)(n:Nat)(c:A5 (HS HV)×Nat×Nat×HS HV×Nat×Nat)(d:HY):Prop:=Sm st d/\∃i j o e f,c =(none,i,j,o,e,f)/\OI Z a b n o i j
def PZ(Z:KeyKind)(a b:HS HV)(st:HY)(n:Nat)(c:A5 (HS HV)×Nat×Nat×HS HV×Nat×Nat×Nat)(d:HY):Prop:=Sm st d/\∃i j o e f g,c =(none,i,j,o,e,f,g)/\OI Z a b n o i j
theorem PJ.mk{a b o:HS HV}{st c:HY}{n i j d e:Nat}(f:Sm st c)(h:OI Z a b n o i j):PJ Z a b st n (none,i,j,o,d,e) c:=⟨f,_,_,_,_,_,rfl,h⟩
theorem PZ.mk{a b o:HS HV}{st c:HY}{n i j d e f:Nat}(g:Sm st c)(h:OI Z a b n o i j):PZ Z a b st n (none,i,j,o,d,e,f) c:=⟨g,_,_,_,_,_,_,rfl,h⟩
theorem Jr(C:QN prog w A s Z kd){st:HY}{a b:HS HV}{Q:HS HV->HY->Prop}(hk:kindOf st=kd)(P:M_ Z a b)
  (h:∀r f,Sm st f->Rm Z a b r->Q r f):wpS (model prog w) A E s (En a b) Q st:=by
 rw[Jl];have hna:=P.na;have hnb:=P.nb;obtain⟨b0,U⟩:=j4 (a:=a) (i:=a.size-1) (Nat.sub_lt hna GZ);have m0:OJ Z a b (#[]:HS HV) a.size b.size:=⟨by simp,List.Pairwise.nil,λx hx=>absurd hx (by simp),λx hx=>absurd hx (by simp)⟩;have m1:OJ Z a b (#[b0]:HS HV) (a.size-1) b.size:=by
  have:=P.hpA m0 hna U (λz J=>P.last b0 U z (DE J));simpa using this
 apply Rq (x0:=b0) (λR z=>wpS_lift (DF ⟨rfl,z⟩)) (λR z=>E8 U z)
 case h1=>exact λN=>wpS_pure (h _ _ (Sm.refl _) (P.hdA m1 (eq_of_beq N)))
 case h2=>exact λ_ O=>wpS_pure (h _ _ (Sm.refl _) (P.hfB m1 (eq_of_beq O)))
 intro N O;have N:¬a.size-1=0:=λz=>N (beq_iff_eq.mpr z);have O:¬b.size=1:=λz=>O (beq_iff_eq.mpr z);have p1:OI Z a b 1 #[b0] (a.size-1) b.size:=⟨m1,by lia,by lia,by lia,by lia,by lia⟩;refine wpS_mono (wpS_forRange (I:=λx=>zHp Z a b st (x+1)) (Q:=MR Z a b st) ?st ?en ⟨Sm.refl _,_,_,_,_,rfl,p1⟩) ?po
 case po =>
  rintro⟨c1,c2⟩ f ⟨sm,r,e,hr⟩;cases e;exact wpS_pure (h r f sm hr)
 case en =>
  rintro c f ⟨sm,i,j,o,mg,rfl,p⟩;obtain⟨_,h1,h2,_,_,h3⟩:=p;exfalso;lia
 case st =>
  rintro x c f _ hx ⟨sm,i,j,o,mg,rfl,p⟩;refine wpS_bind (wpS_mono (wpS_forRange (I:=λ_=>PJ Z a b st (x+1)) (Q:=λc f=>MR Z a b st c f\/PJ Z a b st (x+1) c f) ?st1 ?en1 (PJ.mk sm p)) ?po1)
  case en1=>exact λc st2 z=>.inr z
  case st1 =>
   rintro x2 c st2 _ _ ⟨l,i',j',o,ac,bc,rfl,M⟩;obtain⟨bj,n⟩:=j4 (a:=b) (i:=j' - 1) M.lb;obtain⟨ai,B⟩:=j4 (a:=a) (i:=i' - 1) M.la;refine wpS_bind (E8 n (wpS_bind (E8 B (wpS_bind (Ic C (l.knd hk) (P.kb _ _ n) (P.ka _ _ B) ?_)))));refine U3 (λV=>wpS_bind (E8 B ?_)) λV=>wpS_bind (E8 n ?_)
   .have m3:=P.hpA M.m M.hi B λz J=>I1 (Es P.sb (IE.mp n) z J) (KeyOrd.kle_of_klt V);refine Q7 (λH=>wpS_pure (.inl (MR.mk l (P.hdA m3 H)))) λH=>?_;have F:=(M.putA m3 H).mono (DM _);exact U3 (λ_=>wpS_pure (.inr (PJ.mk l F))) λ_=>wpS_pure (PJ.mk l F)
   .have m3:=P.hpB M.m M.hj1 n λz J=>I1 (Es P.sa (IE.mp B) z J) (show le Z ai bj from ET.mpr V);refine Q7 (λH=>wpS_pure (.inl (MR.mk l (P.hfB m3 H)))) λH=>?_;have F:=(M.putB m3 H).mono (DM _);exact U3 (λ_=>wpS_pure (.inr (PJ.mk l F))) λ_=>wpS_pure (PJ.mk l F)
  case po1 =>
   rintro⟨c1,c2⟩ st2 (⟨l,r,e,hr⟩ | ⟨l,i2,j2,o2,ac,bc,e,M⟩)
   .cases e;exact wpS_pure (MR.mk l hr)
   .cases e;refine wpS_bind (wpS_lift (DF ⟨rfl,?_⟩));refine wpS_bind (wpS_mono (wpS_forRange (I:=λx3=>PZ Z a b st (x+1+x3)) (Q:=λc f=>MR Z a b st c f\/PZ Z a b st (x+1+1) c f) ?st2 ?en2 (PZ.mk l M)) ?po2)
    case en2 =>
     rintro c st3 ⟨G,i',j',o',mg',ac,bc,rfl,F⟩;exact .inr (PZ.mk G (F.mono (by lia)))
    case po2 =>
     rintro⟨c1,c2⟩ st3 (⟨G,r,e,hr⟩ | ⟨G,i',j',o',mg',ac,bc,e,F⟩)
     .cases e;exact wpS_pure (MR.mk G hr)
     .cases e;refine wpS_bind (Y5 G λst4 D=>?_);exact wpS_pure ⟨D,_,_,_,_,rfl,F⟩
    case st2 =>
     rintro x3 c st3 _ _ ⟨G,i3,j3,o3,mg3,ac3,bc3,rfl,F⟩;obtain⟨bj,n⟩:=j4 (a:=b) (i:=j3-1) F.lb;apply Ov (mg3-1) (y:=mg3)
     case e=>exact rfl
     intro g;refine wpS_bind (Y5 G λst4 D=>?_);refine wpS_bind (E8 n (wpS_bind (w5 C (D.knd hk) (P.kb _ _ n) (by rw[EL];exact F.ia) P.ka (λu v p q W _ H e2=>y9 P.sa (ED W _) (IE.mp H) (IE.mp e2)) (Nat.sub_lt F.hi GZ) λk X k1 k2=>?_)));dsimp only;have m4:OJ Z a b (o3 ++(a.extract k i3).reverse) k j3:=P.heA F.m X λy hy z J=>by
      obtain⟨t,Y,ht2,e⟩:=Xo hy;exact I1 (Es P.sb (IE.mp n) z J) (KeyOrd.kle_of_klt (Cp (k2 t y Y ht2 (by rw[EL];exact IE.mpr e))))
     have S:∀z∈a.toList.take k,le Z z bj:=λz J=>by
      obtain⟨t,ht,_,e⟩:=On J;exact Ei (k1 t z ht (by rw[EL];exact IE.mpr e))
     generalize hd:i3-k=d;apply Ep (o:=o3) (i:=i3) (λo i=>OI Z a b (x+1+x3) o i j3/\∀z∈a.toList.take i,le Z z bj)
     .rintro o4 i4 ⟨p4,S⟩;refine wpS_bind (E8 n ?_);have m5:=P.hpB p4.m p4.hj1 n S;refine Q7 (λe3=>wpS_pure (.inl (MR.mk D (P.hfB m5 e3)))) λe3=>?_;have p5:=p4.putB m5 e3;generalize o4.push bj=o5 at m5 p5⊢;generalize j3-1=j5 at m5 p5⊢;obtain⟨ai,B⟩:=j4 (a:=a) (i:=i4-1) p5.la;refine wpS_bind (E8 B (wpS_bind (w5 C (D.knd hk) (P.ka _ _ B) (by rw[EL];exact p5.jb) P.kb (λu v p q W _ H e2=>y9 P.sb (ED W _) (IE.mp H) (IE.mp e2)) (Nat.sub_lt p5.hj1 GZ) λk' K k1' k2'=>?_)));dsimp only;have T:∀z∈b.toList.take k',le Z z ai:=λz J=>by
       obtain⟨t,ht,_,e⟩:=On J;exact KeyOrd.kle_of_klt (Jh (k1' t z ht (by rw[EL];exact IE.mpr e)))
      generalize hd':j5-k'=d';apply Ep (o:=o5) (i:=j5) (λo j=>OI Z a b (x+1+x3+1) o i4 j/\∀z∈b.toList.take j,le Z z ai)
      .rintro o6 j6 ⟨p6,T⟩;refine wpS_bind (E8 B ?_);have m7:=P.hpA p6.m p6.hi B T;refine Q7 (λe5=>wpS_pure (.inl (MR.mk D (P.hdA m7 e5)))) λe5=>?_;have p7:=p6.putA m7 e5;exact U3 (λ_=>wpS_pure (.inr (PZ.mk D (p7.mono (by lia))))) λ_=>wpS_pure (PZ.mk D (p7.mono (by lia)))
      .intro hF L;have m6:OJ Z a b (o5 ++(b.extract k' j5).reverse) i4 k':=P.heB m5 K λy hy z J=>by
        obtain⟨t,Y,ht2,e⟩:=Xo hy;exact I1 (Es P.sa (IE.mp B) z J) (Fq (k2' t y Y ht2 (by rw[EL];exact IE.mpr e)))
       obtain⟨_,h1,h2,h3,h4,h5⟩:=p5;exact Q7 (λe4=>wpS_pure (.inl (MR.mk D (P.hfB m6 e4)))) λe4=>Q7 (λe5=>wpS_pure (.inl (MR.mk D (P.hdB m6 e5)))) λe5=>hF _ _ ⟨⟨m6,h1,by lia,h3,VE K h4,by lia⟩,T⟩
      .intro L;have z0:k'=j5:=Nat.le_antisymm K (Nat.le_of_sub_eq_zero (hd'.trans (FT L)));subst z0;exact⟨p5,T⟩
     .intro hF L;obtain⟨_,h1,h2,h3,h4,h5⟩:=F;exact Q7 (λH=>wpS_pure (.inl (MR.mk D (P.hdA m4 H)))) λH=>hF _ _ ⟨⟨m4,by lia,h2,VE X h3,h4,by lia⟩,S⟩
     .intro L;have z0:k=i3:=Nat.le_antisymm X (Nat.le_of_sub_eq_zero (hd.trans (FT L)));subst z0;exact⟨F,S⟩
def JH(l:A0 HV)(lo n:Nat):A0 HV:=(l.drop lo).take n
theorem Qk(m:A0 HV)(lo:Nat):∀(n:Nat) (a:HS HV),lo+n+m.length<=a.size ->
  ((m.zipIdx n).foldl (λa (x:HV×Nat)=>a.setIfInBounds (lo+x.2) x.1) a).size=a.size /\
  ∀t:Nat,((m.zipIdx n).foldl (λa (x:HV×Nat)=>a.setIfInBounds (lo+x.2) x.1) a)[t]?=if lo+n<=t/\t<lo+n+m.length then m[t-(lo+n)]? else a[t]?:=by
 induction m with
 | nil =>
  intro n a h;refine⟨rfl,λt=>?_⟩;rw[AI (by simp only[List.length_nil];lia)];rfl
 | cons p m d =>
  intro n a h;rw[BQ]at h;rw[List.zipIdx_cons,G_];obtain⟨e,f⟩:=d (n+1) (a.setIfInBounds (lo+n) p) (by rw[GX];lia);refine⟨e.trans GX,λt=>?_⟩;rw[f t,BQ];by_cases b:lo+n=t
  .subst b;rw[AI (by lia),AO (by lia),Array.getElem?_setIfInBounds_self_of_lt (by lia),Nat.sub_self];rfl
  .by_cases c:lo +(n+1)<=t/\t<lo +(n+1)+m.length
   .rw[AO c,AO (by lia),show t-(lo+n) =(t-(lo +(n+1)))+1 by lia,List.getElem?_cons_succ]
   .rw[AI c,AI (by lia),Array.getElem?_setIfInBounds_ne b]
theorem De(m:A0 HV)(lo:Nat)(a:HS HV)(h:lo+m.length<=a.size) :
  (m.zipIdx.foldl (λa (x:HV×Nat)=>a.setIfInBounds (lo+x.2) x.1) a).toList=a.toList.take lo++m++a.toList.drop (lo+m.length):=by
 obtain⟨e,c⟩:=Qk m lo 0 a (by lia);refine FH λt=>?_;rw[BL,c t];have b:(a.toList.take lo).length=lo:=by rw[A_,AX];lia
 by_cases d:t<lo
 .rw[AI (by lia),BF,GR (by lia),DK d,BL]
 .by_cases f:t<lo+m.length
  .rw[AO (by lia),GR (by rw[AS];lia),GK (by lia),b];rfl
  .rw[AI (by lia),GK (by rw[AS];lia),AS,b,FU,BL];congr 1;lia
theorem Ph(l:A0 HV)(lo n:Nat):l=l.take lo++JH l lo n++l.drop (lo+n):=by
 unfold JH;rw[BF,<-E_,BX,BX]
theorem Jd(l:A0 HV)(lo n m:Nat):JH l lo (n+m)=JH l lo n++JH l (lo+n) m:=by
 unfold JH;rw[List.take_add,E_]
structure LB(Z:KeyKind)(l l':A0 HV)(lo n:Nat):Prop where
 perm:l'.Perm l
 front:l'.take lo=l.take lo
 back:l'.drop (lo+n)=l.drop (lo+n)
theorem LB.refl(l:A0 HV)(lo n:Nat):LB Z l l lo n:=⟨List.Perm.refl _,rfl,rfl⟩
theorem LB.seg_front{l a:A0 HV}{lo n:Nat}(h:LB Z l a lo n){u m:Nat}(b:u+m<=lo):JH a u m=JH l u m:=by
 have:∀x:A0 HV,JH x u m =((x.take lo).drop u).take m:=λx=>by
  unfold JH;rw[GJ,List.take_take,FY (by lia)]
 rw[this,this,h.front]
theorem LB.seg_back{l a:A0 HV}{lo n:Nat}(h:LB Z l a lo n){u m:Nat}(b:lo+n<=u):JH a u m=JH l u m:=by
 have:∀x:A0 HV,JH x u m =((x.drop (lo+n)).drop (u-(lo+n))).take m:=λx=>by
  unfold JH;rw[E_,show lo+n +(u-(lo+n))=u by lia]
 rw[this,this,h.back]
theorem LB.of{l z:A0 HV}{lo n:Nat}(hz:z.Perm (JH l lo n))(c:lo+n<=l.length):LB Z l (l.take lo++z++l.drop (lo+n)) lo n/\JH (l.take lo++z++l.drop (lo+n)) lo n=z:=by
 have a:(l.take lo).length=lo:=by rw[A_];lia
 have b:z.length=n:=by
  rw[hz.length_eq];unfold JH;rw[A_,DJ];lia
 refine⟨⟨?_,?_,?_⟩,?_⟩
 .conv=>rhs;rw[Ph l lo n]
  exact DR _ (CV _ hz)
 .rw[BF,List.take_append_of_le_length (by lia),DT (by lia)]
 .rw[List.drop_append,EX (by rw[AS];lia),FZ,AS,a,b,Nat.sub_self,EQ]
 .unfold JH;rw[BF,List.drop_append,EX (by lia),FZ,a,Nat.sub_self,EQ,List.take_append_of_le_length (by lia),DT (by lia)]
structure St(Z:KeyKind)(kd:JO)(a₀:HS HV)(st:HY):Prop where
 perm:(arrOf st).toList.Perm a₀.toList
 kind:kindOf st=kd
 failed:failedOf st=none
theorem St.size{a₀:HS HV}{st:HY}(h:St Z kd a₀ st):(arrOf st).size=a₀.size:=by
 have:=h.perm.length_eq;simpa using this
theorem St.has{a₀:HS HV}{st:HY}(h:St Z kd a₀ st)(b:KeysOf Z a₀)(i:Nat)(p:HV)(e:(arrOf st)[i]?=some p):Q_ Z p :=
 b p (h.perm.mem_iff.mp (BB (IE.mp e)))
theorem S5{l:A0 HV}{lo n t:Nat}(a:t<n):(JH l lo n)[t]?=l[lo+t]?:=by
 unfold JH;rw[DK a,FU]
theorem Jz(i:Nat):mergeAt' i =(do
  let u <-get
  let(some (b,c,f),some (e,d,_)):=((pendingOf u)[i]?,(pendingOf u)[i+1]?) | unsupported "internal:list.sort.pending"
  set (setPending u (((pendingOf u).setIfInBounds i (b,c+d,f)).eraseIdxIfInBounds (i+1)))
  let some k <-U8 false (<-elem' (arrOf u) e) (arrOf u) b c 0 | return false
  let(b,c):=(b+k,c-k)
  if c == 0 then return true
  let some d <-U8 true (<-elem' (arrOf u) (b+c-1)) (arrOf u) e d (d-1) | return false
  if d == 0 then return true
  let x:=(arrOf u).extract b e
  let y:=(arrOf u).extract e (e+d)
  let g <-if c<=d then Ex x y else En x y
  modify λv=>setArr v (g.toList.zipIdx.foldl (λa (z:HV×Nat)=>a.setIfInBounds (b+z.2) z.1) (arrOf v))
  return(failedOf (<-get)).isNone):=rfl
theorem Zi{st st2:HY}{Q:PUnit->HY->Prop}(h:Q ⟨⟩ st2):wpS (model prog w) A E s (set st2:StateT HY Sem PUnit) Q st:=by
 unfold wpS;rw[StateT.run_set];exact AE ⟨rfl,h⟩
theorem Iy(C:QN prog w A s Z kd){a₀:HS HV}(L:KeysOf Z a₀){st:HY}{i b c pw sb f pw2:Nat}{Q:Bool->HY->Prop}(j:St Z kd a₀ st)
  (hi:(pendingOf st)[i]?=some (b,c,pw)) (hj:(pendingOf st)[i+1]?=some (sb,f,pw2)) (hsb:sb=b+c) (hsz:sb+f<=a₀.size) (hna:1<=c) (hnb:1<=f)
  (N:KW Z (JH (arrOf st).toList b c)) (O:KW Z (JH (arrOf st).toList sb f))
  (h:∀n,St Z kd a₀ n->LB Z (arrOf st).toList (arrOf n).toList b (c+f)->KW Z (JH (arrOf n).toList b (c+f)) ->
   pendingOf n =((pendingOf st).setIfInBounds i (b,c+f,pw)).eraseIdxIfInBounds (i+1)->Q true n):wpS (model prog w) A E s (mergeAt' i) Q st:=by
 subst hsb;have hL:(arrOf st).toList.length=a₀.size:=by rw[AX];exact j.size
 have hsz':=j.size;rw[Jz];refine wpS_bind (wpS_get ?_);rw[hi,hj];dsimp only;refine wpS_bind (Zi ?_);obtain⟨R,D⟩:=j4 (a:=arrOf st) (i:=b+c) (by lia);have S:∀u v p q,u<=v->v<c->(arrOf st)[b+u]?=some p->(arrOf st)[b+v]?=some q->le Z p q:=λu v p q H hv T F =>
  y9 N H (by rw[S5 (by lia)];exact IE.mp T) (by rw[S5 hv];exact IE.mp F)
 have U:∀u v p q,u<=v->v<f->(arrOf st)[b+c+u]?=some p->(arrOf st)[b+c+v]?=some q->le Z p q:=λu v p q H hv T F =>
  y9 O H (by rw[S5 (by lia)];exact IE.mp T) (by rw[S5 hv];exact IE.mp F)
 refine wpS_bind (E8 D (wpS_bind (w5 C j.kind (j.has L _ _ D) (by lia) (j.has L) S (by lia) λk hk1 k1 k2=>?_)));dsimp only;have V:∀z∈JH (arrOf st).toList (b+c) f,le Z R z:=λz I=>by
  obtain⟨t,l,e⟩:=Dg I;exact U 0 t R z (by lia) l D (IE.mpr e)
 have xk:∀x∈(JH (arrOf st).toList b c).take k,le Z x R:=λx hx=>by
  obtain⟨t,l,o,e⟩:=On hx;unfold JH at o;rw[A_]at o;rw[S5 (by lia)]at e;exact Ei (k1 t x l (IE.mpr e))
 have kx:∀x∈(JH (arrOf st).toList b c).drop k,le Z R x:=λx hx=>by
  obtain⟨t,l,e⟩:=Jv hx;unfold JH at l;rw[A_]at l;rw[S5 (by lia)]at e;exact KeyOrd.kle_of_klt (Cp (k2 (k+t) x (by lia) (by lia) (IE.mpr e)))
 have W:St Z kd a₀ (setPending st (((pendingOf st).setIfInBounds i (b,c+f,pw)).eraseIdxIfInBounds (i+1))):=⟨j.perm,j.kind,j.failed⟩;by_cases X:c-k=0
 .rw[AO (by simpa using X)];have hkk:k=c:=by lia
  refine wpS_pure (h _ W (LB.refl _ _ _) ?_ rfl);show KW Z (JH (arrOf st).toList b (c+f));rw[Jd];refine CP.mpr ⟨N,O,λx hx y hy=>I1 (xk x ?_) (V y hy)⟩;rw[DT (by unfold JH;rw[A_];lia)];exact hx
 rw[AI (by simpa using X)];obtain⟨M,J⟩:=j4 (a:=arrOf st) (i:=b+k +(c-k)-1) (by lia);refine wpS_bind (E8 J (wpS_bind (w5 C W.kind (j.has L _ _ J) (by lia) (j.has L) U (by lia) λg Y k1' k2'=>?_)));dsimp only;have G:(arrOf st)[b +(c-1)]?=some M:=by rw[show b +(c-1)=b+k +(c-k)-1 by lia];exact J
 have K:∀x∈JH (arrOf st).toList b c,le Z x M:=λx hx=>by
  obtain⟨t,l,e⟩:=Dg hx;exact S t (c-1) x M (by lia) (by lia) (IE.mpr e) G
 have yk:∀y∈(JH (arrOf st).toList (b+c) f).take g,le Z y M:=λy hy=>by
  obtain⟨t,l,o,e⟩:=On hy;unfold JH at o;rw[A_]at o;rw[S5 (by lia)]at e;exact KeyOrd.kle_of_klt (Jh (k1' t y l (IE.mpr e)))
 have ky:∀y∈(JH (arrOf st).toList (b+c) f).drop g,le Z M y:=λy hy=>by
  obtain⟨t,l,e⟩:=Jv hy;unfold JH at l;rw[A_]at l;rw[S5 (by lia)]at e;exact Fq (k2' (g+t) y (by lia) (by lia) (IE.mpr e))
 by_cases B:g=0
 .rw[AO (by simpa using B)];refine wpS_pure (h _ W (LB.refl _ _ _) ?_ rfl);show KW Z (JH (arrOf st).toList b (c+f));rw[Jd];refine CP.mpr ⟨N,O,λx hx y hy=>I1 (K x hx) (ky y ?_)⟩;rw[B,EQ];exact hy
 rw[AI (by simpa using B)];have ex:((arrOf st).extract (b+k) (b+c)).toList =(JH (arrOf st).toList b c).drop k:=by
  rw[Je];unfold JH;rw[GJ,GJ,E_];congr 1;lia
 have ey:((arrOf st).extract (b+c) (b+c+g)).toList =(JH (arrOf st).toList (b+c) f).take g:=by
  rw[Fg];unfold JH;rw[List.take_take,FY Y]
 have P:M_ Z ((arrOf st).extract (b+k) (b+c)) ((arrOf st).extract (b+c) (b+c+g)):=by
  refine⟨by rw[ex];exact N.sublist (FF _ _),by rw[ey];exact O.sublist (ES _ _),λt p e=>?_,λt p e=>?_,?_,?_,λq e z I=>?_,λp e z I=>?_⟩
  .have m:=BB (IE.mp e);rw[ex]at m;obtain⟨u,_,F⟩:=Dg (EO m);exact j.has L _ p (IE.mpr F)
  .have m:=BB (IE.mp e);rw[ey]at m;obtain⟨u,_,F⟩:=Dg (DE m);exact j.has L _ p (IE.mpr F)
  .rw[FV];lia
  .rw[FV];lia
  .have m:=IE.mp e;rw[ey,DK (by lia),S5 (by lia)]at m;have:q=R:=by
    have:=IE.mp D;rw[Nat.add_zero,this]at m;exact(BT m).symm
   subst this;rw[ex]at I;exact kx z I
  .have m:=IE.mp e;rw[ex,FV,FU,S5 (by lia)]at m;have:p=M:=by
    have q:=IE.mp G;rw[show k +(min (b+c) (arrOf st).size-(b+k)-1)=c-1 by lia,q]at m;exact(BT m).symm
   subst this;rw[ey]at I;exact yk z I
 have fin:∀(r:HS HV) (d:HY),Sm (setPending st (((pendingOf st).setIfInBounds i (b,c+f,pw)).eraseIdxIfInBounds (i+1))) d->Rm Z ((arrOf st).extract (b+k) (b+c)) ((arrOf st).extract (b+c) (b+c+g)) r ->
   Q (failedOf (setArr d (r.toList.zipIdx.foldl (λa (z:HV×Nat)=>a.setIfInBounds (b+k+z.2) z.1) (arrOf d)))).isNone (setArr d (r.toList.zipIdx.foldl (λa (z:HV×Nat)=>a.setIfInBounds (b+k+z.2) z.1) (arrOf d))):=by
  rintro r d ⟨q1,q2,q3,q4⟩ ⟨r1,r2⟩;rw[ex,ey]at r2;have hrl:r.toList.length =(c-k)+g:=by
   rw[r2.length_eq,AS];unfold JH;rw[DJ,A_,A_,DJ,A_,DJ];lia
  have q2':arrOf d=arrOf st:=q2;have ef:failedOf (setArr d (r.toList.zipIdx.foldl (λa (z:HV×Nat)=>a.setIfInBounds (b+k+z.2) z.1) (arrOf d)))=none:=q4.trans j.failed;rw[ef];have el:=De r.toList (b+k) (arrOf d) (by rw[q2'];lia);have eq:(r.toList.zipIdx.foldl (λa (z:HV×Nat)=>a.setIfInBounds (b+k+z.2) z.1) (arrOf d)).toList =(arrOf st).toList.take b ++((JH (arrOf st).toList b c).take k++r.toList ++(JH (arrOf st).toList (b+c) f).drop g) ++(arrOf st).toList.drop (b +(c+f)):=by
   rw[el,q2',hrl];have T:(arrOf st).toList.take (b+k) =(arrOf st).toList.take b ++(JH (arrOf st).toList b c).take k:=by
    unfold JH;rw[List.take_add,List.take_take,FY hk1]
   have F:(arrOf st).toList.drop (b+k +(c-k+g)) =(JH (arrOf st).toList (b+c) f).drop g ++(arrOf st).toList.drop (b +(c+f)):=by
    unfold JH;rw[GJ,E_,show b+k +(c-k+g)=b+c+g by lia]
    conv=>lhs;rw[<-BX (f-g) ((arrOf st).toList.drop (b+c+g))]
    rw[E_,show b+c+g +(f-g)=b +(c+f) by lia]
   rw[T,F];simp only[BF]
  have hp:((JH (arrOf st).toList b c).take k++r.toList ++(JH (arrOf st).toList (b+c) f).drop g).Perm (JH (arrOf st).toList b (c+f)):=by
   rw[Jd];have a1:((JH (arrOf st).toList b c).take k++r.toList ++(JH (arrOf st).toList (b+c) f).drop g).Perm ((JH (arrOf st).toList b c).take k ++((JH (arrOf st).toList b c).drop k ++(JH (arrOf st).toList (b+c) f).take g) ++(JH (arrOf st).toList (b+c) f).drop g) :=
    DR _ (CV _ r2)
   refine a1.trans (FD ?_);rw[<-BF,BX,BF,BX]
  obtain⟨pa,ps⟩:=LB.of (Z:=Z) hp (by rw[hL];lia);have hs:KW Z ((JH (arrOf st).toList b c).take k++r.toList ++(JH (arrOf st).toList (b+c) f).drop g):=by
   refine CP.mpr ⟨CP.mpr ⟨N.sublist (ES _ _),r1,λx hx y hy=>?_⟩,O.sublist (FF _ _),λx hx y hy=>?_⟩
   .rcases AJ.mp (r2.mem_iff.mp hy)with hy | hy
    .exact I1 (xk x hx) (kx y hy)
    .exact I1 (xk x hx) (V y (DE hy))
   .rcases AJ.mp hx with hx | hx
    .exact I1 (K x (DE hx)) (ky y hy)
    .rcases AJ.mp (r2.mem_iff.mp hx)with hx | hx
     .exact I1 (K x (EO hx)) (ky y hy)
     .exact I1 (yk x hx) (ky y hy)
  refine h _ ⟨?_,q1.trans j.kind,q4.trans j.failed⟩ ?_ ?_ q3
  .show(r.toList.zipIdx.foldl (λa (z:HV×Nat)=>a.setIfInBounds (b+k+z.2) z.1) (arrOf d)).toList.Perm a₀.toList;rw[eq];exact pa.perm.trans j.perm
  .show LB Z (arrOf st).toList (r.toList.zipIdx.foldl (λa (z:HV×Nat)=>a.setIfInBounds (b+k+z.2) z.1) (arrOf d)).toList b (c+f);rw[eq];exact pa
  .show KW Z (JH (r.toList.zipIdx.foldl (λa (z:HV×Nat)=>a.setIfInBounds (b+k+z.2) z.1) (arrOf d)).toList b (c+f));rw[eq,ps];exact hs
 by_cases hab:c-k<=g
 .rw[AO hab];refine wpS_bind (Iu C W.kind P λr d q r1=>?_);exact wpS_bind (wpS_modify (wpS_bind (wpS_get (wpS_pure (fin r d q r1)))))
 .rw[AI hab];refine wpS_bind (Jr C W.kind P λr d q r1=>?_);exact wpS_bind (wpS_modify (wpS_bind (wpS_get (wpS_pure (fin r d q r1)))))
section
variable{prog:HU}{w:HW}{A:IA}{E:A2->A4->Prop}{s:A4}{Z:KeyKind}{kd:JO}{a₀:HS HV}
theorem Ul{xs:HS HV}{i:Nat}{p:HV}(h:xs[i]?=some p):KK Z xs i=kk Z p:=by unfold KK kk;rw[h]
def SI(Z:KeyKind)(xs:HS HV)(lo m:Nat):Prop:=∀i j,i<=j->j<m->Z.kle (KK Z xs (lo+i)) (KK Z xs (lo+j))
def NI(Z:KeyKind)(xs:HS HV)(lo m:Nat):Prop:=∀i j,i<=j->j<m->Z.kle (KK Z xs (lo+j)) (KK Z xs (lo+i))
theorem SI.sor{xs:HS HV}{lo m:Nat}(h:SI Z xs lo m):KW Z (JH xs.toList lo m):=by
 refine List.pairwise_iff_getElem.mpr λi j a b c=>?_;unfold JH at a b;rw[A_]at a b;have d:xs[lo+i]?=some (JH xs.toList lo m)[i]:=by
  rw[IE,<-S5 (n:=m) (by lia)];exact AF _
 have e:xs[lo+j]?=some (JH xs.toList lo m)[j]:=by
  rw[IE,<-S5 (n:=m) (by lia)];exact AF _
 have:=h i j (by lia) (by lia);rw[Ul d,Ul e]at this;exact this
structure Lo(Z:KeyKind)(kd:JO)(a₀:HS HV)(st0:HY)(lo n:Nat)(st:HY):Prop where
 S:St Z kd a₀ st
 pend:pendingOf st=pendingOf st0
 out:∀t,t<lo\/lo+n<=t->(arrOf st)[t]? =(arrOf st0)[t]?
theorem Lo.part{st0 st:HY}{lo n:Nat}(h:Lo Z kd a₀ st0 lo n st)(c:St Z kd a₀ st0):LB Z (arrOf st0).toList (arrOf st).toList lo n:=by
 refine⟨h.S.perm.trans c.perm.symm,FH λt=>?_,FH λt=>?_⟩
 .by_cases b:t<lo
  .rw[DK b,DK b,BL,BL];exact h.out t (.inl b)
  .rw[GF (by rw[A_];lia),GF (by rw[A_];lia)]
 .rw[FU,FU,BL,BL];exact h.out _ (.inr (by lia))
theorem Lo.mirror{st0 st:HY}{lo n i j:Nat}(h:Lo Z kd a₀ st0 lo n st)(hi:lo<=i)(c:j<=lo+n)(d:lo+n<=a₀.size):Lo Z kd a₀ st0 lo n (setArr st (mirror (arrOf st) i j ((j-i) / 2))):=by
 refine⟨⟨(Array.perm_iff_toList_perm.mp (mirror_perm _ _ _ _)).trans h.S.perm,h.S.kind,h.S.failed⟩,h.pend,λt b=>?_⟩;show(PyProof.Rows.mirror (arrOf st) i j ((j-i) / 2))[t]?=_;have:=h.S.size;rw[getElem?_mirror_all (by lia),AI (by lia)];exact h.out t b
theorem T5(C:QN prog w A s Z kd)(e:KeysOf Z a₀){st:HY}(b:St Z kd a₀ st){i j:Nat}{Q:A5 Bool->HY->Prop}(hi:i<a₀.size)(f:j<a₀.size)
  (h:Q (some (Z.blt (KK Z (arrOf st) i) (KK Z (arrOf st) j))) st):wpS (model prog w) A E s (ltAt' i j) Q st:=by
 have:=b.size;obtain⟨p,c⟩:=j4 (a:=arrOf st) (i:=i) (by lia);obtain⟨q,d⟩:=j4 (a:=arrOf st) (i:=j) (by lia);rw[ltAt'_eq];refine wpS_bind (wpS_get ?_);refine wpS_bind (E8 c (wpS_bind (E8 d (Ic C b.kind (b.has e _ _ c) (b.has e _ _ d) ?_))));rw[Ul c,Ul d]at h;exact h
theorem TH{st:HY}{lo a b:Nat}{f:Nat->(A5 (A5 Nat)×Nat)->StateT HY Sem (ForInStep (A5 (A5 Nat)×Nat))}{Q:(A5 (A5 Nat)×Nat)->HY->Prop}
  (z:∀x n,1<=n->n<b->wpS (model prog w) A E s (f x (none,n)) (λr k=>k=st/\r=if Z.blt (KK Z (arrOf st) (lo+n)) (KK Z (arrOf st) (lo+n-1))=true then .done (none,n)else .yield (none,n+1)) st)
  (C:1<=a) (o:a<=b) (B:SI Z (arrOf st) lo a)
  (h:∀n,a<=n->n<=b->SI Z (arrOf st) lo n->(n=b\/Z.klt (KK Z (arrOf st) (lo+n)) (KK Z (arrOf st) (lo+n-1)))->Q (none,n) st):wpS (model prog w) A E s (forIn [a:b] (none,a) f) Q st:=by
 refine wpS_forRange (I:=λx c k=>k=st/\c =(none,x)/\SI Z (arrOf st) lo x) ?_ ?_ ⟨rfl,rfl,B⟩
 .rintro x c k p q ⟨rfl,rfl,g⟩;refine wpS_mono (z x x (by lia) q) λr l ⟨e,m⟩=>?_;subst e;cases d:Z.blt (KK Z (arrOf l) (lo+x)) (KK Z (arrOf l) (lo+x-1))
  .rw[d,AI BE]at m;subst m;refine⟨rfl,rfl,λi j t D=>?_⟩;by_cases u:j<x
   .exact g i j t u
   .have v:j=x:=by lia
    subst v;by_cases y:i=j
    .subst y;exact KeyOrd.kle_refl _
    .have:=g i (j-1) (by lia) (by lia);rw[show lo +(j-1)=lo+j-1 by lia]at this;exact KeyOrd.kle_trans this d
  .rw[d,AO rfl]at m;subst m;exact h x p (by lia) g (.inr d)
 .rintro c k ⟨rfl,rfl,g⟩;rw[show max a b=b by lia]at g⊢;exact h b o (VD _) g (.inl rfl)
theorem NI.step{xs e:HS HV}{lo x:Nat}(l:1<=x)(f:∀k,KK Z e k=KK Z xs k)(g:NI Z xs lo x)(h:Z.kle (KK Z xs (lo+x)) (KK Z xs (lo+x-1))):NI Z e lo (x+1):=by
 intro i j a m;rw[f,f];by_cases b:j<x
 .exact g i j a b
 .have c:j=x:=by lia
  subst c;by_cases d:i=j
  .subst d;exact KeyOrd.kle_refl _
  .have:=g i (j-1) (by lia) (by lia);rw[show lo +(j-1)=lo+j-1 by lia]at this;exact KeyOrd.kle_trans h this
abbrev DS:=A5 (A5 Nat)×Nat×Nat
theorem zDc{st0 st:HY}{lo n d:Nat}(hsz:lo+d<=a₀.size){f:Nat->DS->StateT HY Sem (ForInStep DS)}{Q:DS->HY->Prop}
  (J:∀x n q b,1<=n->n<d->Lo Z kd a₀ st0 lo d b->wpS (model prog w) A E s (f x (none,n,q)) (λr st2 =>
   if Z.blt (KK Z (arrOf b) (lo+n)) (KK Z (arrOf b) (lo+n-1))=true then(st2=if q>0 then setArr b (mirror (arrOf b) (lo+n-(q+1)) (lo+n) ((lo+n-(lo+n-(q+1))) / 2))else b)/\r = .yield (none,n+1,0)
   else st2=b/\r=if Z.blt (KK Z (arrOf b) (lo+n-1)) (KK Z (arrOf b) (lo+n))=true then .done (none,n,q)else .yield (none,n+1,q+1)) b)
  (h1:1<=n) (B:n<=d) (K:Lo Z kd a₀ st0 lo d st) (L:NI Z (arrOf st) lo n)
  (h:∀m q b,Lo Z kd a₀ st0 lo d b->n<=m->m<=d->NI Z (arrOf b) lo m->q+1<=m->(∀i,m-(q+1)<=i->i<m->KK Z (arrOf b) (lo+i)=KK Z (arrOf b) (lo+m-1))->Q (none,m,q) b) :
  wpS (model prog w) A E s (forIn [n:d] (none,n,0) f) Q st:=by
 refine wpS_forRange (I:=λx c b=>∃q,c =(none,x,q)/\Lo Z kd a₀ st0 lo d b/\NI Z (arrOf b) lo x/\q+1<=x /\
   (∀i,x-(q+1)<=i->i<x->KK Z (arrOf b) (lo+i)=KK Z (arrOf b) (lo+x-1))) ?_ ?_ ⟨0,rfl,K,L,by lia,λi h1 N=>by congr 1;lia⟩
 .rintro x c b C D ⟨q,rfl,j,l,y,p⟩;have M:=j.S.size;refine wpS_mono (J x x q b (by lia) D j) λr st2 z=>?_;cases g:Z.blt (KK Z (arrOf b) (lo+x)) (KK Z (arrOf b) (lo+x-1))
  .rw[g,AI BE]at z;obtain⟨e,t⟩:=z;subst e;cases o:Z.blt (KK Z (arrOf st2) (lo+x-1)) (KK Z (arrOf st2) (lo+x))
   .rw[o,AI BE]at t;subst t;have u:KK Z (arrOf st2) (lo+x)=KK Z (arrOf st2) (lo+x-1):=KeyOrd.kle_antisymm o g;refine⟨q+1,rfl,j,NI.step (by lia) (λ_=>rfl) l o,by lia,λi F G=>?_⟩;rw[show lo +(x+1)-1=lo+x by lia];by_cases H:i=x
    .subst H;rfl
    .rw[u];exact p i (by lia) (by lia)
   .rw[o,AO rfl]at t;subst t;exact h x q st2 j C (by lia) l y p
  .rw[g,AO rfl]at z;obtain⟨e,t⟩:=z;subst t;have o:Z.kle (KK Z (arrOf b) (lo+x)) (KK Z (arrOf b) (lo+x-1)):=KeyOrd.kle_of_klt g;by_cases v:q>0
   .rw[AO v]at e;subst e;refine⟨0,rfl,j.mirror (by lia) (by lia) hsz,NI.step (by lia) (KK_mirror_equal (by lia) λk F G=>?_) l o,by lia,λi F G=>by congr 1;lia⟩;have:=p (k-lo) (by lia) (by lia);rw[show lo +(k-lo)=k by lia]at this;exact this
   .rw[AI v]at e;subst e;exact⟨0,rfl,j,NI.step (by lia) (λ_=>rfl) l o,by lia,λi F G=>by congr 1;lia⟩
 .rintro c b ⟨q,rfl,j,l,y,p⟩;rw[show max n d=d by lia]at l y p⊢;exact h d q b j B (VD _) l y p
theorem NI.turn{xs:HS HV}{lo n:Nat}(a:lo+n<=xs.size)(h:NI Z xs lo n):SI Z (mirror xs lo (lo+n) ((lo+n-lo) / 2)) lo n:=by
 intro i j b c;rw[KK_mirror a,KK_mirror a,AO (by lia),AO (by lia)];have:=h (n-1-j) (n-1-i) (by lia) (by lia);rw[show lo +(n-1-i)=lo +(lo+n)-1-(lo+i) by lia,show lo +(n-1-j)=lo +(lo+n)-1-(lo+j) by lia]at this;exact this
theorem Ht(C:QN prog w A s Z kd)(D:KeysOf Z a₀){st:HY}{lo c:Nat}{Q:A5 Nat->HY->Prop}(W:St Z kd a₀ st)(hsz:lo+c<=a₀.size)(h1:1<=c)
  (h:∀m b,Lo Z kd a₀ st lo c b->1<=m->m<=c->SI Z (arrOf b) lo m->Q (some m) b):wpS (model prog w) A E s (countRun' lo c) Q st:=by
 have X:Lo Z kd a₀ st lo c st:=⟨W,rfl,λ_ _=>rfl⟩;rw[countRun'_eq];dsimp only;refine wpS_bind (TH (Z:=Z) (lo:=lo) (λx n G H=>?_) (VD 1) h1 (λi j p P=>by have:i=j:=(by lia);subst this;exact KeyOrd.kle_refl _) λn R T F Y=>?_)
 .dsimp only;refine wpS_bind (T5 C D W (by lia) (by lia) ?_);dsimp only;cases Z.blt (KK Z (arrOf st) (lo+n)) (KK Z (arrOf st) (lo+n-1))
  .exact wpS_pure ⟨rfl,rfl⟩
  .exact wpS_pure ⟨rfl,rfl⟩
 dsimp only;by_cases I:n=c
 .rw[AO (by simpa using I)];exact wpS_pure (h n st X R T F)
 rw[AI (by simpa using I)];have U:Z.klt (KK Z (arrOf st) (lo+n)) (KK Z (arrOf st) (lo+n-1)):=Y.resolve_left I;have hz:=W.size;by_cases V:n>1
 .rw[AO V];refine wpS_bind (T5 C D W (by lia) (by lia) ?_);dsimp only;cases J:Z.blt (KK Z (arrOf st) lo) (KK Z (arrOf st) (lo+n-1))with
  | true =>
   simp only[GH];exact wpS_pure (h n st X R T F)
  | false =>
   simp only[BD,CO];have r:∀k,lo<=k->k<lo+n->KK Z (arrOf st) k=KK Z (arrOf st) (lo+n-1):=by
    intro k hk1 hk2;have a1:=F 0 (k-lo) (by lia) (by lia);have a2:=F (k-lo) (n-1) (by lia) (by lia);rw[Nat.add_zero,show lo +(k-lo)=k by lia]at a1;rw[show lo +(k-lo)=k by lia,show lo +(n-1)=lo+n-1 by lia]at a2;exact KeyOrd.kle_antisymm a2 (KeyOrd.kle_trans J a1)
   have K:=KK_mirror_equal (κ:=Z) (xs:=arrOf st) (i:=lo) (j:=lo+n) (by lia) r;refine wpS_bind (wpS_reverse ?_);have L:=X.mirror (i:=lo) (j:=lo+n) (by lia) (by lia) hsz;have hN:NI Z (mirror (arrOf st) lo (lo+n) ((lo+n-lo) / 2)) lo (n+1):=by
    refine NI.step (by lia) K (λi j p P=>?_) (KeyOrd.kle_of_klt U);rw[r (lo+i) (by lia) (by lia),r (lo+j) (by lia) (by lia)];exact KeyOrd.kle_refl _
   refine wpS_bind (wpS_lift (DF ⟨rfl,?_⟩));refine wpS_bind (zDc (Z:=Z) (kd:=kd) (a₀:=a₀) (st0:=st) (lo:=lo) hsz (λx f q b G H t=>?_) (by lia) (by lia) L hN λm q b l hm1 u v y he=>?_)
   .dsimp only;refine wpS_bind (T5 C D t.S (by lia) (by lia) ?_);dsimp only;cases Z.blt (KK Z (arrOf b) (lo+f)) (KK Z (arrOf b) (lo+f - 1))
    .simp only[BD,CO];refine wpS_bind (T5 C D t.S (by lia) (by lia) ?_);dsimp only;cases Z.blt (KK Z (arrOf b) (lo+f - 1)) (KK Z (arrOf b) (lo+f))
     .exact wpS_pure ⟨rfl,rfl⟩
     .exact wpS_pure ⟨rfl,rfl⟩
    .simp only[GH];by_cases y:q>0
     .rw[AO y,AO y];exact wpS_bind (wpS_reverse (wpS_pure ⟨rfl,rfl⟩))
     .rw[AI y,AI y];exact wpS_pure ⟨rfl,rfl⟩
   .dsimp only;have hz3:=l.S.size;by_cases z:q>0
    .rw[AO z];refine wpS_bind (wpS_reverse (wpS_bind (wpS_reverse ?_)));have g:=l.mirror (i:=lo+m-(q+1)) (j:=lo+m) (by lia) (by lia) hsz;have d:=g.mirror (i:=lo) (j:=lo+m) (by lia) (by lia) hsz;have hz4:=g.S.size;have M:NI Z (mirror (arrOf b) (lo+m-(q+1)) (lo+m) ((lo+m-(lo+m-(q+1))) / 2)) lo m:=by
      have K:=KK_mirror_equal (κ:=Z) (xs:=arrOf b) (i:=lo+m-(q+1)) (j:=lo+m) (by lia) (λk G H=>by
       have:=he (k-lo) (by lia) (by lia);rw[show lo +(k-lo)=k by lia]at this;exact this)
      intro i j p P;rw[K,K];exact v i j p P
     have N:=M.turn (Z:=Z) (lo:=lo) (n:=m) (by rw[mirror_size];lia);refine wpS_bind (TH (Z:=Z) (lo:=lo) (λx f G H=>?_) (by lia) u N λO B e o _=>wpS_pure (h O _ d (by lia) e o));dsimp only;refine wpS_bind (T5 C D d.S (by lia) (by lia) ?_);dsimp only;cases Z.blt (KK Z _ (lo+f)) (KK Z _ (lo+f - 1))
     .exact wpS_pure ⟨rfl,rfl⟩
     .exact wpS_pure ⟨rfl,rfl⟩
    .rw[AI z];refine wpS_bind (wpS_reverse ?_);have d:=l.mirror (i:=lo) (j:=lo+m) (by lia) (by lia) hsz;have N:=v.turn (Z:=Z) (lo:=lo) (n:=m) (by lia);refine wpS_bind (TH (Z:=Z) (lo:=lo) (λx f G H=>?_) (by lia) u N λO B e o _=>wpS_pure (h O _ d (by lia) e o));dsimp only;refine wpS_bind (T5 C D d.S (by lia) (by lia) ?_);dsimp only;cases Z.blt (KK Z _ (lo+f)) (KK Z _ (lo+f - 1))
     .exact wpS_pure ⟨rfl,rfl⟩
     .exact wpS_pure ⟨rfl,rfl⟩
 .rw[AI V];have hn1':n=1:=by lia
  have L:=X;have hN:NI Z (arrOf st) lo (n+1):=by
   refine NI.step (by lia) (λ_=>rfl) (λi j p P=>?_) (KeyOrd.kle_of_klt U);have:i=j:=by lia
   subst this;exact KeyOrd.kle_refl _
  refine wpS_bind (wpS_lift (DF ⟨rfl,?_⟩));refine wpS_bind (zDc (Z:=Z) (kd:=kd) (a₀:=a₀) (st0:=st) (lo:=lo) hsz (λx f q b G H t=>?_) (by lia) (by lia) L hN λm q b l hm1 u v y he=>?_)
  .dsimp only;refine wpS_bind (T5 C D t.S (by lia) (by lia) ?_);dsimp only;cases Z.blt (KK Z (arrOf b) (lo+f)) (KK Z (arrOf b) (lo+f - 1))
   .simp only[BD,CO];refine wpS_bind (T5 C D t.S (by lia) (by lia) ?_);dsimp only;cases Z.blt (KK Z (arrOf b) (lo+f - 1)) (KK Z (arrOf b) (lo+f))
    .exact wpS_pure ⟨rfl,rfl⟩
    .exact wpS_pure ⟨rfl,rfl⟩
   .simp only[GH];by_cases y:q>0
    .rw[AO y,AO y];exact wpS_bind (wpS_reverse (wpS_pure ⟨rfl,rfl⟩))
    .rw[AI y,AI y];exact wpS_pure ⟨rfl,rfl⟩
  .dsimp only;have hz3:=l.S.size;by_cases z:q>0
   .rw[AO z];refine wpS_bind (wpS_reverse (wpS_bind (wpS_reverse ?_)));have g:=l.mirror (i:=lo+m-(q+1)) (j:=lo+m) (by lia) (by lia) hsz;have d:=g.mirror (i:=lo) (j:=lo+m) (by lia) (by lia) hsz;have hz4:=g.S.size;have M:NI Z (mirror (arrOf b) (lo+m-(q+1)) (lo+m) ((lo+m-(lo+m-(q+1))) / 2)) lo m:=by
     have K:=KK_mirror_equal (κ:=Z) (xs:=arrOf b) (i:=lo+m-(q+1)) (j:=lo+m) (by lia) (λk G H=>by
      have:=he (k-lo) (by lia) (by lia);rw[show lo +(k-lo)=k by lia]at this;exact this)
     intro i j p P;rw[K,K];exact v i j p P
    have N:=M.turn (Z:=Z) (lo:=lo) (n:=m) (by rw[mirror_size];lia);refine wpS_bind (TH (Z:=Z) (lo:=lo) (λx f G H=>?_) (by lia) u N λO B e o _=>wpS_pure (h O _ d (by lia) e o));dsimp only;refine wpS_bind (T5 C D d.S (by lia) (by lia) ?_);dsimp only;cases Z.blt (KK Z _ (lo+f)) (KK Z _ (lo+f - 1))
    .exact wpS_pure ⟨rfl,rfl⟩
    .exact wpS_pure ⟨rfl,rfl⟩
   .rw[AI z];refine wpS_bind (wpS_reverse ?_);have d:=l.mirror (i:=lo) (j:=lo+m) (by lia) (by lia) hsz;have N:=v.turn (Z:=Z) (lo:=lo) (n:=m) (by lia);refine wpS_bind (TH (Z:=Z) (lo:=lo) (λx f G H=>?_) (by lia) u N λO B e o _=>wpS_pure (h O _ d (by lia) e o));dsimp only;refine wpS_bind (T5 C D d.S (by lia) (by lia) ?_);dsimp only;cases Z.blt (KK Z _ (lo+f)) (KK Z _ (lo+f - 1))
    .exact wpS_pure ⟨rfl,rfl⟩
    .exact wpS_pure ⟨rfl,rfl⟩
theorem Lo.bubble{st0 st:HY}{lo n b d:Nat}(h:Lo Z kd a₀ st0 lo n st)(h1:lo+d<=b)(h2:b<lo+n)(e:lo+n<=a₀.size):Lo Z kd a₀ st0 lo n (setArr st (bubble (arrOf st) b d)):=by
 refine⟨⟨(Array.perm_iff_toList_perm.mp (bubble_perm _ _ _)).trans h.S.perm,h.S.kind,h.S.failed⟩,h.pend,λt c=>?_⟩;show(PyProof.Rows.bubble (arrOf st) b d)[t]?=_;have:=h.S.size;rw[getElem?_bubble (by lia) d (by lia),AI (by lia),AI (by lia)];exact h.out t c
theorem Cy(C:QN prog w A s Z kd)(H:KeysOf Z a₀){st0 st:HY}{lo g n v:Nat}{Q:Bool->HY->Prop}(J:Lo Z kd a₀ st0 lo g st)(hsz:lo+g<=a₀.size)(U:n<=g)(K:v<=n)(L:SI Z (arrOf st) lo v)
  (h:∀b,Lo Z kd a₀ st0 lo g b->SI Z (arrOf b) lo n->Q true b):wpS (model prog w) A E s (binarySort' lo n v) Q st:=by
 rw[binarySort'_eq];refine wpS_bind (wpS_mono (wpS_forRange (I:=λk c b=>c =(none,())/\Lo Z kd a₀ st0 lo g b/\SI Z (arrOf b) lo (min k n))
  (Q:=λc b=>c =(none,())/\Lo Z kd a₀ st0 lo g b/\SI Z (arrOf b) lo n) ?step ?fin ?init) ?post)
 case post =>
  rintro c b ⟨rfl,m,f⟩;exact wpS_pure (h b m f)
 case init =>
  refine⟨rfl,J,λi j y M=>?_⟩;by_cases B:v=0
  .have:i=j:=by lia
   subst this;exact KeyOrd.kle_refl _
  .exact L i j y (by lia)
 case fin =>
  rintro c b ⟨N,m,f⟩;refine⟨N,m,?_⟩
  rwa [show min (max (max v 1) n) n=n by lia]at f
 case step =>
  rintro k c b O P ⟨rfl,m,f⟩;rw[show min k n=k by lia]at f;dsimp only;refine wpS_bind (wpS_mono (wpS_forRange (I:=λx c d=>d=b/\∃l r,c =(none,l,r)/\l<=r/\r<=k/\r-l<=k-x /\
    (∀i,i<l->Z.kle (KK Z (arrOf b) (lo+i)) (KK Z (arrOf b) (lo+k)))/\(∀i,r<=i->i<k->Z.klt (KK Z (arrOf b) (lo+k)) (KK Z (arrOf b) (lo+i))))
   (Q:=λc d=>d=b/\∃l r,c =(none,l,r)/\l<=k /\
    (∀i,i<l->Z.kle (KK Z (arrOf b) (lo+i)) (KK Z (arrOf b) (lo+k)))/\(∀i,l<=i->i<k->Z.klt (KK Z (arrOf b) (lo+k)) (KK Z (arrOf b) (lo+i)))) ?istep ?ifin ?iinit) ?ipost)
  case iinit=>exact⟨rfl,0,k,rfl,by lia,by lia,by lia,λi V=>by lia,λi B G=>by lia⟩
  case ifin =>
   rintro c d ⟨rfl,l,r,rfl,D,u,F,o,p⟩;have:l=r:=by lia
   subst this;exact⟨rfl,l,l,rfl,u,o,p⟩
  case istep =>
   rintro x c d _ R ⟨rfl,l,r,rfl,D,u,F,o,p⟩;dsimp only;by_cases t:l ≥ r
   .rw[AO t];have:l=r:=by lia
    subst this;exact wpS_pure ⟨rfl,l,l,rfl,u,o,p⟩
   .rw[AI t];refine wpS_bind (T5 C H m.S (by lia) (by lia) ?_);dsimp only;cases q:Z.blt (KK Z (arrOf d) (lo+k)) (KK Z (arrOf d) (lo +(l+r) / 2))
    case true =>
     simp only[GH];refine wpS_pure ⟨rfl,l,(l+r) / 2,rfl,by lia,by lia,Za (Nat.lt_of_not_le t) F,o,λi B G=>?_⟩;exact KeyOrd.klt_of_klt_of_kle q (f _ _ B G)
    case false =>
     simp only[BD,CO];refine wpS_pure ⟨rfl,(l+r) / 2+1,r,rfl,by lia,by lia,Zk (Nat.lt_of_not_le t) F,λi B=>?_,p⟩;exact KeyOrd.kle_trans (f i ((l+r) / 2) (by lia) (by lia)) (show Z.kle _ _ from q)
  case ipost =>
   rintro c d ⟨rfl,l,r,rfl,T,o,p⟩;have W:=m.S.size;show wpS _ _ _ _ (do moveDown' (lo+k) (lo+l);pure (ForInStep.yield (none,()))) _ _;rw[moveDown'_eq];refine wpS_bind (wpS_modify (wpS_pure ⟨rfl,m.bubble (by lia) (by lia) hsz,?_⟩));rw[show min (k+1) n=k+1 by lia];intro i j y M;show Z.kle (KK Z (bubble (arrOf d) (lo+k) (lo+k-(lo+l))) (lo+i)) (KK Z (bubble (arrOf d) (lo+k) (lo+k-(lo+l))) (lo+j));rw[KK_bubble (by lia) (by lia),KK_bubble (by lia) (by lia),show lo+k-(lo+k-(lo+l))=lo+l by lia];have e:∀z,1<=z->lo+z-1=lo +(z-1):=λz _=>by lia
   repeat' split
   all_goals first
    | (exfalso;lia)
    | exact KeyOrd.kle_refl _
    | exact o _ (by lia)
    | exact KeyOrd.kle_of_klt (p _ (by lia) (by lia))
    | exact f _ _ (by lia) (by lia)
    | (rw[e j (by lia)];exact KeyOrd.kle_of_klt (p _ (by lia) (by lia)))
    | (rw[e i (by lia)];exact o _ (by lia))
    | (rw[e j (by lia)];exact f _ _ (by lia) (by lia))
    | (rw[e i (by lia),e j (by lia)];exact f _ _ (by lia) (by lia))
    | (rw[e i (by lia)];exact f _ _ (by lia) (by lia))
end
abbrev Run:=Nat×Nat×Nat
def MO:A0 Run->Nat->Nat->Prop
 | [],a,b=>a=b
 | x::r,a,b=>x.1=a/\1<=x.2.1/\MO r (a+x.2.1) b
def MO.app:∀{i l2:A0 Run} {a b:Nat},MO (i++l2) a b↔∃c,MO i a c/\MO l2 c b
 | [],l2,a,b=>⟨λh=>⟨a,rfl,h⟩,λ⟨c,d,e⟩=>by have:a=c:=d;subst this;exact e⟩
 | x::r,l2,a,b=>by
  constructor
  .rintro⟨d,e,j⟩;obtain⟨c,f,g⟩:=MO.app.mp j;exact⟨c,⟨d,e,f⟩,g⟩
  .rintro⟨c,⟨d,e,f⟩,g⟩;exact⟨d,e,MO.app.mpr ⟨c,f,g⟩⟩
def MO.le:∀{l:A0 Run} {a b:Nat},MO l a b->a+l.length<=b
 | [],a,b,h=>by have:a=b:=h;subst this;simp
 | x::r,a,b,⟨d,e,c⟩=>by have:=MO.le c;rw[BQ];lia
def MO.mem:∀{l:A0 Run} {a b:Nat} {x:Run},MO l a b->x∈l->a<=x.1/\x.1+x.2.1<=b
 | [],_,_,_,_,hx=>absurd hx (by simp)
 | y::r,a,b,x,⟨d,f,c⟩,hx=>by
  have g:=MO.le c;rcases AW.mp hx with e | hx
  .subst e;lia
  .have:=MO.mem c hx;lia
def zGs{l:A0 Run}{i:Nat}{x y:Run}(a:l[i]?=some x)(b:l[i+1]?=some y):l=l.take i++x::y::l.drop (i+2):=by
 obtain⟨c,rfl⟩:=AM.mp a;obtain⟨d,rfl⟩:=AM.mp b
 conv=>lhs;rw[<-BX i l]
 rw[DU c,DU d]
def zFy{l:A0 Run}{i:Nat}{x y:Run}(z:Run)(a:l[i]?=some x)(b:l[i+1]?=some y):(l.set i z).eraseIdx (i+1)=l.take i++z::l.drop (i+2):=by
 obtain⟨d,_⟩:=AM.mp a;obtain⟨f,_⟩:=AM.mp b;have e:=zGs a b;have c:(l.take i).length=i:=by rw[A_];lia
 generalize l.take i=p at *;generalize l.drop (i+2)=q at *;subst e;rw[List.set_append_right _ _ (by lia),c,Nat.sub_self,List.eraseIdx_append_of_length_le (by lia),c,show i+1-i=1 by lia];rfl
section
variable{prog:HU}{w:HW}{A:IA}{E:A2->A4->Prop}{s:A4}{Z:KeyKind}{kd:JO}{a₀:HS HV}
structure RI(Z:KeyKind)(kd:JO)(a₀:HS HV)(lo:Nat)(st:HY):Prop where
 S:St Z kd a₀ st
 cov:MO (pendingOf st).toList 0 lo
 sor:∀x∈(pendingOf st).toList,KW Z (JH (arrOf st).toList x.1 x.2.1)
theorem Jw(C:QN prog w A s Z kd)(I:KeysOf Z a₀){st:HY}{lo i:Nat}{Q:Bool->HY->Prop}(R:RI Z kd a₀ lo st)(J:lo<=a₀.size)(hi:i+1 <(pendingOf st).size)
  (h:∀b,RI Z kd a₀ lo b->(pendingOf b).size+1 =(pendingOf st).size->LB Z (arrOf st).toList (arrOf b).toList 0 lo->Q true b):wpS (model prog w) A E s (mergeAt' i) Q st:=by
 obtain⟨⟨g,d,q⟩,u⟩:∃x,(pendingOf st)[i]?=some x:=⟨_,getElem?_pos _ i (by lia)⟩;obtain⟨⟨K,f,r⟩,n⟩:∃x,(pendingOf st)[i+1]?=some x:=⟨_,getElem?_pos _ (i+1) hi⟩;have j:(pendingOf st).toList[i]?=some (g,d,q):=by rw[BL];exact u
 have k:(pendingOf st).toList[i+1]?=some (K,f,r):=by rw[BL];exact n
 have e:=zGs j k;have c:=R.cov;rw[e]at c;obtain⟨v,B,L⟩:=MO.app.mp c;obtain⟨D,F,M,G,o⟩:=L;dsimp only at D F M G o;have N:=MO.le o;refine Iy C I R.S u n (by lia) (by lia) F G (R.sor _ (BB j)) (R.sor _ (BB k)) λb O p P T=>?_;have t:(pendingOf b).toList =(pendingOf st).toList.take i ++(g,d+f,q) ::(pendingOf st).toList.drop (i+2):=by
  rw[T,<-zFy (g,d+f,q) j k];simp
 refine h b ⟨O,?_,λx l=>?_⟩ ?_ ?_
 .rw[t];exact MO.app.mpr ⟨v,B,D,(by show 1<=d+f;lia),(by show MO _ (v +(d+f)) lo;rw[<-Nat.add_assoc];exact o)⟩
 .rw[t]at l;have m:∀y∈(pendingOf st).toList,(y.1+y.2.1<=g\/g +(d+f)<=y.1)->KW Z (JH (arrOf b).toList y.1 y.2.1):=λy n ho=>by
   have:=R.sor y n;rcases ho with ho | ho
   .rw[p.seg_front ho];exact this
   .rw[p.seg_back ho];exact this
  rcases AJ.mp l with hm | hm
  .have:=MO.mem B hm;exact m x (DE hm) (.inl (by lia))
  .rcases AW.mp hm with hm | hm
   .subst hm;exact P
   .have:=MO.mem o hm;exact m x (EO hm) (.inr (by lia))
 .have:=congrArg List.length t;rw[AX,AS,BQ,A_,DJ,AX]at this;lia
 .have H:∀z:A0 HV,z.drop (0+lo) =(z.drop (g +(d+f))).drop (lo-(g +(d+f))):=λz=>by
   rw[E_];congr 1;lia
  exact⟨p.perm,rfl,by rw[H,H,p.back]⟩
theorem Ck{l:HS Run}{a:Nat}:(l.modify (l.size-1) λx=>(x.1,x.2.1,a)).toList.map (λx:Run=>(x.1,x.2.1))=l.toList.map λx:Run=>(x.1,x.2.1):=by
 refine FH λt=>?_;rw[AH,AH,BL,BL,Array.getElem?_modify];split
 .cases l[t]?<;>rfl
 .rfl
theorem MO.congr:∀{l c:A0 Run} {a b:Nat},c.map (λx:Run=>(x.1,x.2.1))=l.map (λx:Run=>(x.1,x.2.1))->MO l a b->MO c a b
 | [],[],_,_,_,h=>h
 | [],_::_,_,_,e,_=>by simp at e
 | _::_,[],_,_,e,_=>by simp at e
 | x::r,y::n,a,b,e,⟨f,g,i⟩=>by
  rw[BM,BM]at e;obtain⟨j,k⟩:=List.cons.inj e;obtain⟨m,d⟩:=Prod.mk.inj j;exact⟨m.trans f,by rw[d];exact g,by rw[d];exact MO.congr k i⟩
theorem RI.congr{lo:Nat}{st:HY}(R:RI Z kd a₀ lo st){p:HS Run}(e:p.toList.map (λx:Run=>(x.1,x.2.1)) =(pendingOf st).toList.map λx:Run=>(x.1,x.2.1)):RI Z kd a₀ lo (setPending st p):=by
 refine⟨⟨R.S.perm,R.S.kind,R.S.failed⟩,MO.congr e R.cov,λx b=>?_⟩;have:(x.1,x.2.1)∈(pendingOf st).toList.map λx:Run=>(x.1,x.2.1):=by
  rw[<-e];exact BJ.mpr ⟨x,b,rfl⟩
 obtain⟨y,c,d⟩:=BJ.mp this;obtain⟨f,g⟩:=Prod.mk.inj d;have:=R.sor y c;rw[f,g]at this;exact this
theorem Fv(C:QN prog w A s Z kd)(v:KeysOf Z a₀){st:HY}{Q:Unit->HY->Prop}(hS:St Z kd a₀ st)(hp:pendingOf st = #[])
  (h:∀d,St Z kd a₀ d->KW Z (arrOf d).toList->Q () d):wpS (model prog w) A E s sortRuns' Q st:=by
 rw[sortRuns'_eq];refine wpS_bind (wpS_get ?_);dsimp only;have hz:=hS.size;rw[hz];generalize minRun' a₀.size a₀.size 0=B;refine wpS_bind (wpS_mono (wpS_forRange (I:=λx c d=>∃lo,c =(none,lo)/\RI Z kd a₀ lo d/\lo<=a₀.size/\min x a₀.size<=lo)
  (Q:=λc d=>∃lo,c =(none,lo)/\RI Z kd a₀ lo d/\lo=a₀.size) ?st ?en ⟨0,rfl,⟨hS,by rw[hp];rfl,λx K=>by rw[hp]at K;exact absurd K (by simp)⟩,BP _,by lia⟩) ?po)
 case en =>
  rintro c d ⟨lo,rfl,R,P,h2⟩;exact⟨lo,rfl,R,by lia⟩
 case po =>
  rintro c d ⟨lo,rfl,R,rfl⟩;dsimp only;refine wpS_bind (wpS_mono (wpS_forRange (I:=λx c d=>c =(none,())/\RI Z kd a₀ a₀.size d/\(pendingOf d).size+x<=a₀.size+1)
   (Q:=λc d=>c =(none,())/\RI Z kd a₀ a₀.size d/\(pendingOf d).size<=1) ?st3 ?en3 ⟨rfl,R,?in3⟩) ?po3)
  case in3 =>
   have:=MO.le R.cov;rw[AX]at this;lia
  case en3 =>
   rintro c e ⟨rfl,R2,g⟩;exact⟨rfl,R2,by lia⟩
  case po3 =>
   rintro c e ⟨rfl,R2,g⟩;refine wpS_pure (h e R2.S ?_);have c:=R2.cov;have L:=R2.sor;have hz2:=R2.S.size;have M:(pendingOf e).toList.length<=1:=by rw[AX];exact g
   generalize (pendingOf e).toList=l at c L M
   match l,c,L,M with
   | [],c,_,_ =>
    have c':0=a₀.size:=c;have:(arrOf e).toList = []:=List.eq_nil_of_length_eq_zero (by rw[AX];lia);rw[this];exact List.Pairwise.nil
   | [x],⟨c1,c2,c3⟩,L,_ =>
    have c3':0+x.2.1=a₀.size:=c3;have:=L x (AC.mpr rfl);unfold JH at this;rw[c1,EQ,DT (by rw[AX];lia)]at this;exact this
   | _::_::_,_,_,M=>exact absurd M (by simp)
  case st3 =>
   rintro x c e _ K ⟨rfl,R2,g⟩
   try dsimp only
   refine wpS_bind (wpS_get ?_);by_cases r:(pendingOf e).size<=1
   .rw[AO r];exact wpS_pure ⟨rfl,R2,r⟩
   rw[AI r];refine wpS_bind (Jw C v R2 (VD _) ?_ λst3 R3 e3 _=>?_)
   .have T:∀{c:Prop} [Decidable c] {n:Nat},(if c then n-1 else n)+1<=n+1:=by intro c _ n;split<;>lia
    exact Nat.lt_of_le_of_lt T (by lia)
   .simp only[EM,BD,CO];exact wpS_pure ⟨rfl,R3,by lia⟩
 case st =>
  rintro x c d _ K ⟨lo,rfl,R,P,h2⟩;dsimp only;by_cases D:lo ≥ a₀.size
  .rw[AO D];exact wpS_pure ⟨lo,rfl,R,by lia⟩
  rw[AI D];refine wpS_bind (Ht C v R.S (by lia) (by lia) λm e L2 hm1 hm2 t=>?_);dsimp only;by_cases F:m<B
  .rw[AO F];refine wpS_bind (wpS_lift (DF ⟨rfl,?_⟩));refine wpS_bind (Cy C v L2 (by lia) (show min (a₀.size-lo) B<=a₀.size-lo by lia) (by lia) t λq O U=>?_);simp only[EM,BD,CO];have hN:1<=min (a₀.size-lo) B/\min (a₀.size-lo) B<=a₀.size-lo:=by lia
   generalize min (a₀.size-lo) B=N at hN U⊢;have G:RI Z kd a₀ lo q:=by
    refine⟨O.S,by rw[O.pend];exact R.cov,λy k=>?_⟩;rw[O.pend]at k;have hc:=MO.mem R.cov k;rw[(O.part R.S).seg_front (by lia)];exact R.sor y k
   refine wpS_bind (wpS_get ?_);have i:∀(b:HY),RI Z kd a₀ lo b->KW Z (JH (arrOf b).toList lo N)->RI Z kd a₀ (lo+N) (setPending b ((pendingOf b).push (lo,N,0))):=λb f V=>by
    refine⟨⟨f.S.perm,f.S.kind,f.S.failed⟩,?_,λy k=>?_⟩
    .show MO ((pendingOf b).push (lo,N,0)).toList 0 (lo+N);rw[DD];exact MO.app.mpr ⟨lo,f.cov,rfl,(by show 1<=N;lia),rfl⟩
    .have hy':y∈((pendingOf b).push (lo,N,0)).toList:=k;rw[DD]at hy';rcases AJ.mp hy' with hy' | hy'
     .exact f.sor y hy'
     .rw[AC.mp hy'];exact V
   cases W:(pendingOf q).back? with
   | none =>
    dsimp only;refine wpS_bind (wpS_modify (wpS_pure ⟨_,rfl,i _ G U.sor,by lia,by lia⟩))
   | some X =>
    obtain⟨H,u,pb⟩:=X;dsimp only;generalize power' a₀.size (2*H+u) (2*H+u+u+N) a₀.size=Y;refine wpS_bind (wpS_mono (wpS_forRange (I:=λx c b=>c =(none,())/\RI Z kd a₀ lo b/\LB Z (arrOf q).toList (arrOf b).toList 0 lo)
     (Q:=λc b=>c =(none,())/\RI Z kd a₀ lo b/\LB Z (arrOf q).toList (arrOf b).toList 0 lo) ?stc1 (λ_ _ z=>z) ⟨rfl,G,LB.refl _ _ _⟩) ?poc1)
    case stc1 =>
     rintro x' c b _ _ ⟨rfl,f,j⟩
     try dsimp only
     refine wpS_bind (wpS_get ?_);by_cases o:(pendingOf b).size>1
     .rw[AO o];obtain⟨⟨u1,u2,ol⟩,hu⟩:∃y,(pendingOf b)[(pendingOf b).size-2]?=some y:=⟨_,getElem?_pos _ _ (by lia)⟩;rw[hu];dsimp only;by_cases p:ol<=Y
      .rw[AO p];exact wpS_pure ⟨rfl,f,j⟩
      rw[AI p];refine wpS_bind (Jw C v f P (by lia) λst7 R7 _ J=>?_);simp only[EM,BD,CO];exact wpS_pure ⟨rfl,R7,⟨J.perm.trans j.perm,rfl,J.back.trans j.back⟩⟩
     .rw[AI o];exact wpS_pure ⟨rfl,f,j⟩
    case poc1 =>
     rintro c b ⟨rfl,f,j⟩;dsimp only;refine wpS_bind (wpS_modify (wpS_bind (wpS_modify (wpS_pure ⟨_,rfl,i _ (f.congr Ck) ?_,by lia,by lia⟩))));show KW Z (JH (arrOf b).toList lo N);rw[j.seg_back (by lia)];exact U.sor
  .rw[AI F];have G:RI Z kd a₀ lo e:=by
    refine⟨L2.S,by rw[L2.pend];exact R.cov,λy k=>?_⟩;rw[L2.pend]at k;have hc:=MO.mem R.cov k;rw[(L2.part R.S).seg_front (by lia)];exact R.sor y k
   refine wpS_bind (wpS_get ?_);have i:∀(b:HY),RI Z kd a₀ lo b->KW Z (JH (arrOf b).toList lo m)->RI Z kd a₀ (lo+m) (setPending b ((pendingOf b).push (lo,m,0))):=λb f V=>by
    refine⟨⟨f.S.perm,f.S.kind,f.S.failed⟩,?_,λy k=>?_⟩
    .show MO ((pendingOf b).push (lo,m,0)).toList 0 (lo+m);rw[DD];exact MO.app.mpr ⟨lo,f.cov,rfl,(by show 1<=m;lia),rfl⟩
    .have hy':y∈((pendingOf b).push (lo,m,0)).toList:=k;rw[DD]at hy';rcases AJ.mp hy' with hy' | hy'
     .exact f.sor y hy'
     .rw[AC.mp hy'];exact V
   cases W:(pendingOf e).back? with
   | none =>
    dsimp only;refine wpS_bind (wpS_modify (wpS_pure ⟨_,rfl,i _ G t.sor,by lia,by lia⟩))
   | some X =>
    obtain⟨H,u,pb⟩:=X;dsimp only;generalize power' a₀.size (2*H+u) (2*H+u+u+m) a₀.size=Y;refine wpS_bind (wpS_mono (wpS_forRange (I:=λx c b=>c =(none,())/\RI Z kd a₀ lo b/\LB Z (arrOf e).toList (arrOf b).toList 0 lo)
     (Q:=λc b=>c =(none,())/\RI Z kd a₀ lo b/\LB Z (arrOf e).toList (arrOf b).toList 0 lo) ?stc2 (λ_ _ z=>z) ⟨rfl,G,LB.refl _ _ _⟩) ?poc2)
    case stc2 =>
     rintro x' c b _ _ ⟨rfl,f,j⟩
     try dsimp only
     refine wpS_bind (wpS_get ?_);by_cases o:(pendingOf b).size>1
     .rw[AO o];obtain⟨⟨u1,u2,ol⟩,hu⟩:∃y,(pendingOf b)[(pendingOf b).size-2]?=some y:=⟨_,getElem?_pos _ _ (by lia)⟩;rw[hu];dsimp only;by_cases p:ol<=Y
      .rw[AO p];exact wpS_pure ⟨rfl,f,j⟩
      rw[AI p];refine wpS_bind (Jw C v f P (by lia) λst7 R7 _ J=>?_);simp only[EM,BD,CO];exact wpS_pure ⟨rfl,R7,⟨J.perm.trans j.perm,rfl,J.back.trans j.back⟩⟩
     .rw[AI o];exact wpS_pure ⟨rfl,f,j⟩
    case poc2 =>
     rintro c b ⟨rfl,f,j⟩;dsimp only;refine wpS_bind (wpS_modify (wpS_bind (wpS_modify (wpS_pure ⟨_,rfl,i _ (f.congr Ck) ?_,by lia,by lia⟩))));show KW Z (JH (arrOf b).toList lo m);rw[j.seg_back (by lia)];exact t.sor
end
def kd1(Z:KeyKind)(v:A2):Z.α:=(Z.keyOf v).getD Z.dflt
def TQ(a:A3)(s c:A4):Prop:=∀b o,b≠a->s.heap.get? b=some o->c.heap.get? b=some o
structure RT(prog:HU)(w:HW)(a:A3)(s:A4)(Z:KeyKind)(kd:JO)(vs:A0 A2):Prop where
 cmp:∀(A:IA) (s':A4),TQ a s s'->QN prog w A s' Z kd
 key:∀v∈vs,∃k,Z.keyOf v=some k
 kind:2<=vs.length->∀(A:IA) (E:A2->A4->Prop) (s':A4) (Q:JO->A4->Prop),TQ a s s'->Q kd s'->wpAny (model prog w) A (keyKind' vs.toArray) Q E s'
def Out(Z:KeyKind)(vs:A0 A2)(out:HS A2):Prop:=out.toList.Perm vs/\out.toList.Pairwise λu v=>Z.kle (kd1 Z u) (kd1 Z v)
theorem Xa{vs:A0 A2}{xs:HS HV}(a:xs.toList.Perm (pairsOf vs).toList)(b:KW Z xs.toList):Out Z vs (xs.map (·.2)):=by
 rw[pairsOf_toList]at a;have c:∀p∈xs.toList,p.1=p.2:=λp h=>(mem_zip_self (a.mem_iff.mp h)).1;have e:(xs.map (·.2)).toList=xs.toList.map (·.1):=by
  rw[Array.toList_map];exact List.map_congr_left λp h=>(c p h).symm
 refine⟨?_,?_⟩
 .rw[e];have:=a.map Prod.fst
  rwa [List.map_fst_zip (VD _)]at this
 .rw[e,DV];exact b
theorem Ff{a:A3}{vs:A0 A2}{n:Nat}{P:Fin->A4->Prop}(k:s.heap.get? a=some (seqObj "list" vs.toArray n))(hz:vs.length<=sizeLine)(K:RT prog w a s Z kd vs)
  (h:∀out:HS A2,Out Z vs out->P (.done (.ret .none)) { s with heap:=sortedHeap s.heap a vs out }) :
  wpAny (model prog w) A (Builtin.«list.sort» ⟨[.ref a],[]⟩) P E s:=by
 rw[list_sort_plain];have m:a<s.heap.objs.size:=AG k;have i:vs.toArray.size=vs.length:=by simp
 refine AA (listItems_at k rfl ?_);refine AA (listUpdate_at k rfl ?_ (by rw[i];exact hz) (by simp));obtain⟨l,j⟩:∃l,(s.heap.update a (Obj.mapSeq λ_=>#[])).get? a=some (seqObj "list" #[] l):=⟨_,get?_update_seq k (λ_=>#[])⟩;refine AA (seqEpoch_at j rfl ?_);refine AA (GL ?_ (by simpa using hz));refine AA (wpAny_newList ?_);refine BO ?_;have d:(((s.heap.update a (Obj.mapSeq λ_=>#[])).push (seqObj "tuple" vs.toArray 0)).push (seqObj "list" #[] 0)).get? a=some (seqObj "list" #[] l):=by
  rw[Heap.get?_push_ne _ _ _ (by rw[size_push',GN];exact BA (EU m)),Heap.get?_push_ne _ _ _ (by rw[GN];exact BA m)];exact j
 show wpAny (model prog w) A _ P E { s with heap:=((s.heap.update a (Obj.mapSeq λ_=>#[])).push (seqObj "tuple" vs.toArray 0)).push (seqObj "list" #[] 0) };dsimp only;have q:TQ a s { s with heap:=((s.heap.update a (Obj.mapSeq λ_=>#[])).push (seqObj "tuple" vs.toArray 0)).push (seqObj "list" #[] 0) }:=λb o r e =>
  AD _ (AD _ ((BG s.heap _ (Ne.symm r)).trans e))
 by_cases f:vs.toArray.size<2
 .rw[AO f,AO f];refine AA (AE ?_);rw[StateT.run_pure];refine AA (AE ?_);dsimp only;refine AA (seqEpoch_at d rfl ?_);refine AA (listUpdate_at d rfl ?_ (by simp) (by rw[HF];show(pairsOf vs).size<=_;rw[pairsOf_size];lia));simp only[bne_self_eq_false,BD,CO];refine AE (h _ (Xa (Z:=Z) (xs:=pairsOf vs) (List.Perm.refl _) ?_));rw[pairsOf_toList];rw[i]at f
  match vs,f with
  | [],_=>exact List.Pairwise.nil
  | [v],_=>exact List.pairwise_singleton _ _
  | _::_::_,f=>simp at f;lia
 .rw[AI f,AI f];refine AA (K.kind (by lia) A E _ _ q ?_);refine AA (B_ (Fv (K.cmp A _ q) (a₀:=pairsOf vs) (st:=SortSt.mk' kd (vs.toArray.zip vs.toArray) #[] 7 none)
   (Q:=λ_ c=>St Z kd (pairsOf vs) c/\KW Z (arrOf c).toList)
   (λp g=>?_) ⟨List.Perm.refl _,rfl,rfl⟩ rfl λc t u=>⟨t,u⟩) ?_ λ_ _ e=>e)
  .rw[pairsOf_toList]at g;exact K.key _ (mem_zip_self g).2
  rintro⟨⟨⟩,c⟩ y ⟨rfl,g,x⟩;dsimp only;refine AA (seqEpoch_at d rfl ?_);refine AA (listUpdate_at d rfl ?_ (by simp) (by rw[HF];show(arrOf c).size<=_;rw[g.size,pairsOf_size];lia));rw[show failedOf c=none from g.failed];simp only[bne_self_eq_false,BD,CO];exact AE (h _ (Xa g.perm x))
theorem KP{x:A2}{Q:A2->A4->Prop}
  (g:wpAny (model prog w) A.in1 (collect x) (λvs s1=>s1.os=s.os/\vs.length<=sizeLine/\(∃(Z:KeyKind) (kd:JO),(∀d:A4,TQ s1.heap.objs.size s1 d->RT prog w s1.heap.objs.size d Z kd vs) /\
   ∀(out:HS A2) (h':H_) (e:Nat),Out Z vs out->(∀b o,s1.heap.get? b=some o->h'.get? b=some o)->h'.get? s1.heap.objs.size=some (seqObj "list" out e)->Q (.ref s1.heap.objs.size) { s1 with heap:=h' })) E s) :
  wpAny (model prog w) A (call (.builtin "sorted") [x]) Q E s:=by
 refine Calls.call_function_entry kind_sorted plain_sorted entry_sorted (args_sorted1 _) ?_;unfold Builtin.«sorted»;refine AA (m:=checkCount "sorted" 1 1 _) (AE ?_);refine AA (B_ g (λvs s1 ⟨i,j,Z,kd,K,q⟩=>?_) λ_ _ z=>z);refine AA (wpAny_newList ?_);have a:(s1.heap.push (seqObj "list" vs.toArray 0)).get? s1.heap.objs.size=some (seqObj "list" vs.toArray 0):=AY _ rfl;show wpAny _ _ _ _ _ { s1 with heap:=s1.heap.push (seqObj "list" vs.toArray 0) };have k:TQ s1.heap.objs.size s1 { s1 with heap:=s1.heap.push (seqObj "list" vs.toArray 0) }:=λb o _ e=>AD _ e;refine AA (BO (CI slot_list_sort ⟨_,a,rfl⟩ entry_list_sort (Ff (s:={ s1 with heap:=s1.heap.push (seqObj "list" vs.toArray 0) }) a j (K _ k) λout l=>⟨_,rfl,?_⟩) (args_list_sort _)));obtain⟨e,n⟩:=sortedHeap_at (h:=s1.heap.push (seqObj "list" vs.toArray 0)) (out:=out) a;refine AE ⟨_,rfl,q out _ e l (λb o f=>?_) n⟩;have c:=AG f;rw[sortedHeap_old (BA c) (by rw[size_push'];exact EU c)];exact AD _ f
theorem MM{a:A3}{vs:A0 A2}{ss:A0 Str}(b:StrsAre vs ss):RT prog w a s strKind oneType' vs:=by
 refine⟨λA c _=>⟨λx y k l Q E d e q=>?_⟩,λv f=>?_,λg A E c Q _ q=>?_⟩
 .rw[keyLt'_oneType];exact strKind_oneLt prog w A E c x y k l d e q
 .obtain⟨x,t,rfl⟩:=b.all v f;exact⟨_,rfl⟩
 .match vs,g,b with
  | v1::h::r,_,b =>
   rw[keyKind_strs b];exact AE q
def K3(a b:A0 Nat×A0 Nat):Bool:=decide (a.1<b.1)||(decide (a.1=b.1)&&decide (a.2<b.2))
theorem JF{a b:A0 Nat×A0 Nat}:K3 a b=true↔a.1<b.1\/(a.1=b.1/\a.2<b.2):=by
 unfold K3;simp
theorem TJ(a b:A0 Nat):a<b\/a=b\/b<a:=by
 by_cases h:a<b
 .exact .inl h
 .by_cases c:b<a
  .exact .inr (.inr c)
  .exact .inr (.inl (List.le_antisymm (List.not_lt.mp c) (List.not_lt.mp h)))
def So:A0 A2->A5 (A0 Nat×A0 Nat)
 | [.str x _,.str y _]=>some (x.cps.toList,y.cps.toList)
 | _=>none
def Py(c:A2):Data->A5 (A0 Nat×A0 Nat)
 | .seq a _=>if c = .type "tuple" then So a.toList else none
 | _=>none
def NM(h:H_):A2->A5 (A0 Nat×A0 Nat)
 | .ref p=>(h.get? p).bind λo=>Py o.cls o.data
 | _=>none
@[reducible] def pairKind(h:H_):KeyKind where
 α:=A0 Nat×A0 Nat
 blt:=K3
 irrefl a:=by
  rw[ET];intro z;rcases JF.mp z with z | ⟨_,z⟩
  .exact List.lt_irrefl _ z
  .exact List.lt_irrefl _ z
 trans a b c e d:=by
  rw[JF]at *;rcases e with e | ⟨e,f⟩
  .rcases d with d | ⟨d,_⟩
   .exact .inl (List.lt_trans e d)
   .exact .inl (d▸e)
  .rcases d with d | ⟨d,g⟩
   .exact .inl (e▸d)
   .exact .inr ⟨e.trans d,List.lt_trans f g⟩
 negTrans a b c h:=by
  rw[JF]at h;simp only[JF];rcases h with h | ⟨h,i⟩
  .rcases TJ a.1 b.1 with q | q | q
   .exact .inl (.inl q)
   .exact .inr (.inl (q▸h))
   .exact .inr (.inl (List.lt_trans q h))
  .rcases TJ a.1 b.1 with q | q | q
   .exact .inl (.inl q)
   .rcases TJ a.2 b.2 with r | r | r
    .exact .inl (.inr ⟨q,r⟩)
    .exact .inr (.inr ⟨q▸h,r▸i⟩)
    .exact .inr (.inr ⟨q▸h,List.lt_trans r i⟩)
   .exact .inr (.inl (h▸q))
 total a b e d:=by
  rw[ET]at e d;rcases TJ a.1 b.1 with q | q | q
  .exact absurd (JF.mpr (.inl q)) e
  .rcases TJ a.2 b.2 with r | r | r
   .exact absurd (JF.mpr (.inr ⟨q,r⟩)) e
   .exact Prod.ext q r
   .exact absurd (JF.mpr (.inr ⟨q.symm,r⟩)) d
  .exact absurd (JF.mpr (.inl q)) d
 keyOf:=NM h
 dflt:=([],[])
def MG(h:H_)(v:A2)(x y:Str):Prop:=∃p o n t u,v = .ref p/\h.get? p=some o/\o.cls = .type "tuple"/\o.data = .seq #[.str x t,.str y u] n
theorem MG.key{h:H_}{v:A2}{x y:Str}(z:MG h v x y):NM h v=some (x.cps.toList,y.cps.toList):=by
 obtain⟨p,o,n,t,u,rfl,e,c,d⟩:=z;show(h.get? p).bind (λo=>Py o.cls o.data)=_;rw[e];show Py o.cls o.data=_;rw[d,c];unfold Py;exact(AO rfl).trans rfl
theorem zCv{l:A0 A2}{k:A0 Nat×A0 Nat}(e:So l=some k):∃x t y u,l = [.str x t,.str y u]:=by
 match l,e with
 | [.str x t,.str y u],_=>exact⟨x,t,y,u,rfl⟩
theorem Tu{h:H_}{v:A2}{k:A0 Nat×A0 Nat}(e:NM h v=some k):∃x y,MG h v x y:=by
 match v,e with
 | .ref p,e =>
  have g:(h.get? p).bind (λo=>Py o.cls o.data)=some k:=e;obtain⟨o,i,b⟩:=Option.bind_eq_some_iff.mp g;cases d:o.data with
  | seq f n =>
   rw[d]at b;have a:(if o.cls = .type "tuple" then So f.toList else none)=some k:=b;by_cases c:o.cls = .type "tuple"
   .rw[AO c]at a;obtain⟨x,t,y,u,j⟩:=zCv a;refine⟨x,y,p,o,n,t,u,rfl,i,c,?_⟩;rw[d];have:f = #[.str x t,.str y u]:=by rw[<-Array.toList_inj,j]
    rw[this]
   .rw[AI c]at a;cases a
  | _=>rw[d]at b;cases b
theorem Lk{h:H_}{v:A2}{k:A0 Nat×A0 Nat}{x y:Str}(z:MG h v x y)(e:NM h v=some k):k =(x.cps.toList,y.cps.toList):=by
 rw[z.key]at e;exact(BT e).symm
theorem QB{a:A3}{vs:A0 A2}{F:H_}(B:∀v∈vs,∃x y,MG F v x y)(C:∀b o,F.get? b=some o->b≠a/\s.heap.get? b=some o) :
  RT prog w a s (pairKind F) (tuples' true) vs:=by
 refine⟨λA G J=>⟨λx y k l Q E O P q=>?_⟩,λv K=>?_,λh2 A E G Q J q=>?_⟩
 .obtain⟨g,m,R⟩:=Tu O;obtain⟨f,i,S⟩:=Tu P;have Y:=Lk R O;have Z:=Lk S P;subst Y Z;obtain⟨px,ox,nx,t1,u1,rfl,U,_,d1⟩:=R;obtain⟨py,oy,ny,t2,u2,rfl,V,_,d2⟩:=S;have f1:=J _ _ (C _ _ U).1 (C _ _ U).2;have f2:=J _ _ (C _ _ V).1 (C _ _ V).2;refine PySem.W.kat_lt f1 d1 f2 d2 ?_;show PySem.W.KatLex prog w A true _ Q [(.str g t1,.str f t2),(.str m u1,.str i u2)] 0 G;refine PySem.W.kat_cons (wpAny_eqBool_str (PySem.W.kat_go (λj=>?_) λj=>?_))
  .have j:g=f:=by simpa using j
   refine PySem.W.kat_yes (PySem.W.kat_cons (wpAny_eqBool_str (PySem.W.kat_go (λh=>?_) λh=>?_)))
   .have h:m=i:=by simpa using h
    refine PySem.W.kat_yes (PySem.W.kat_nil ?_);have:K3 (g.cps.toList,m.cps.toList) (f.cps.toList,i.cps.toList)=decide (2<2):=by
     rw[j,h];exact(pairKind F).irrefl (f.cps.toList,i.cps.toList)
    show Q (decide (2<2)) G;rw[<-this];exact q
   .refine PySem.W.kat_no (PySem.W.kat_one _ _ (lt_str ?_));have:K3 (g.cps.toList,m.cps.toList) (f.cps.toList,i.cps.toList)=decide (m.cps.toList<i.cps.toList):=by
     rw[j];unfold K3;simp[List.lt_irrefl]
    show Q (decide (m.cps.toList<i.cps.toList)) G;rw[<-this];exact q
  .have j:¬g=f:=by simpa using j
   refine PySem.W.kat_no (oneLt_str ?_);have L:¬g.cps.toList=f.cps.toList:=λz=>j (by cases g;cases f;simp at z;simp[z]);have:K3 (g.cps.toList,m.cps.toList) (f.cps.toList,i.cps.toList)=decide (g.cps.toList<f.cps.toList):=by
    unfold K3;simp[L]
   rw[<-this];exact q
 .obtain⟨x,y,z⟩:=B v K;exact⟨_,z.key⟩
 .have hT:∀(H:A0 A2),(∀v∈H,∃x y,MG F v x y)->∃D,PySem.W.KatTups G.heap H D/\D.length=H.length/\∀v∈D,∃x t,v = .str x t:=by
   intro H
   induction H with
   | nil=>exact λ_=>⟨[],.nil,rfl,λv B=>by simp at B⟩
   | cons v r ih =>
    intro I;obtain⟨D,M,X,N⟩:=ih λu hu=>I u (AN _ hu);obtain⟨x,y,p,o,n,t,u,rfl,e,c,d⟩:=I v (AZ ..);refine⟨.str x t::D,.cons (J _ _ (C _ _ e).1 (C _ _ e).2) c d rfl M,by simp[X],λz hz=>?_⟩;rcases AW.mp hz with rfl | hz
    .exact⟨x,t,rfl⟩
    .exact N z hz
  obtain⟨D,M,X,N⟩:=hT vs B;refine PySem.W.kat_kind (T:=.type "str") M (by lia) (λv B=>?_) (by rfl) q;obtain⟨x,t,rfl⟩:=N v B;exact .now
end
end TS
set_option Elab.async false
namespace L2
open PySem PySem.Spec PyProof.Rows
abbrev IM:=Sum Int Str
def Dd:IM->A2->Bool
 | .inl k,v=>Value.isInt k v
 | .inr x,v=>Value.isStrOf x v
def zHj(w:HW):IM->Int
 | .inl k=>hashInt k
 | .inr x=>hashStr w x
def G7:∀{k:IM} {v:A2},Dd k v=true->(∃i t,k=Sum.inl i/\v=Value.int i t)\/(∃x t,k=Sum.inr x/\v=Value.str x t)
 | .inl i,v,h=>by
  obtain⟨t,e⟩:=Value.isInt_shape (k:=i) (v:=v) h;exact .inl ⟨i,t,rfl,e⟩
 | .inr x,v,h=>by
  obtain⟨t,e⟩:=Value.isStrOf_shape (x:=x) (v:=v) h;exact .inr ⟨x,t,rfl,e⟩
def Pe(i:Int)(t:Tok):Dd (.inl i) (.int i t)=true:=by simp[Dd,Value.isInt]
def X1(x:Str)(t:Tok):Dd (.inr x) (.str x t)=true:=by simp[Dd,Value.isStrOf]
def zDy(a b:Int):decide ((Sum.inl a:IM)=Sum.inl b) =(a == b):=by
 by_cases e:a=b
 .subst e;simp
 .have h:¬(Sum.inl a:IM)=Sum.inl b:=λq=>e (Sum.inl.inj q);rw[AK h];exact(beq_eq_false_iff_ne.mpr e).symm
def zBz(a b:Str):decide ((Sum.inr a:IM)=Sum.inr b)=decide (a=b):=by
 by_cases e:a=b
 .subst e;simp
 .have h:¬(Sum.inr a:IM)=Sum.inr b:=λq=>e (Sum.inr.inj q);rw[AK h,AK e]
def zEf(a:Int)(b:Str):decide ((Sum.inl a:IM)=Sum.inr b)=false:=AK (λq=>nomatch q)
def zDl(a:Str)(b:Int):decide ((Sum.inr a:IM)=Sum.inl b)=false:=AK (λq=>nomatch q)
def C8(prog:HU)(w:HW):PySem.KeyKind prog w IM where
 is:=Dd
 hash:=zHj w
 inj:=λv a b g f=>by
  rcases G7 g with⟨i,t,rfl,rfl⟩ | ⟨x,t,rfl,rfl⟩
  .rcases G7 f with⟨j,u,rfl,e⟩ | ⟨y,u,rfl,e⟩
   .injection e with c _;rw[c]
   .exact nomatch e
  .rcases G7 f with⟨j,u,rfl,e⟩ | ⟨y,u,rfl,e⟩
   .exact nomatch e
   .injection e with c _;rw[c]
 byValue:=λk v h=>by
  rcases G7 h with⟨i,t,rfl,rfl⟩ | ⟨x,t,rfl,rfl⟩<;>rfl
 pyHash:=λd h=>by
  rcases G7 d with⟨i,t,rfl,rfl⟩ | ⟨x,t,rfl,rfl⟩
  .exact wpAny_pyHash_int h
  .exact wpAny_pyHash_str h
 eqBool:=λl d h=>by
  rcases G7 l with⟨i,t,rfl,rfl⟩ | ⟨x,t,rfl,rfl⟩
  .rcases G7 d with⟨j,u,rfl,rfl⟩ | ⟨y,u,rfl,rfl⟩
   .rw[zDy]at h;exact wpAny_eqBool_int h
   .rw[zEf]at h;exact SeqAt.EqAt.int_str i t y u _ _ _ _ h
  .rcases G7 d with⟨j,u,rfl,rfl⟩ | ⟨y,u,rfl,rfl⟩
   .rw[zDl]at h;exact SeqAt.EqAt.str_int x t j u _ _ _ _ h
   .rw[zBz]at h;exact wpAny_eqBool_str h
 «strs»:=λk x t v h=>by
  rcases G7 h with⟨i,u,rfl,e⟩ | ⟨y,u,rfl,e⟩
  .exact nomatch e
  .injection e with c _;subst c;cases v<;>rfl
def Jc(prog:HU)(w:HW)(i:Int)(t:Tok):(C8 prog w).is (.inl i) (.int i t)=true:=Pe i t
def Iz(prog:HU)(w:HW)(x:Str)(t:Tok):(C8 prog w).is (.inr x) (.str x t)=true:=X1 x t
inductive V where
 | non | bl (b:Bool) | int (i:Int) | str (x:Str) | byt (b:HS UInt8) | flt (b:UInt64) | ref (a:A3) | ty (n:String)
 deriving DecidableEq
def RelV:V->A2->Prop
 | .non,u=>u=Value.none
 | .bl b,u=>u=Value.bool b
 | .int i,u=>∃t,u=Value.int i t
 | .str x,u=>∃t,u=Value.str x t
 | .byt b,u=>∃t,u=Value.bytes b t
 | .flt b,u=>∃t,u=Value.float b t
 | .ref a,u=>u=Value.ref a
 | .ty n,u=>u=Value.type n
abbrev IG:A0 V->A0 A2->Prop:=Paired RelV
def IG.length{xs:A0 V}{us:A0 A2}(r:IG xs us):xs.length=us.length:=Paired.length r
def IG.get:∀{xs:A0 V} {us:A0 A2} {i:Nat} {x:V},IG xs us->xs[i]?=some x->∃u,us[i]?=some u/\RelV x u
 | _,_,_,_,.nil,e=>by simp at e
 | _,_,0,_,.cons r _,e=>by simp at e;subst e;exact⟨_,rfl,r⟩
 | _,_,i+1,x,.cons _ t,e=>by
  obtain⟨u,a,b⟩:=IG.get (i:=i) (x:=x) t (by simpa using e);exact⟨u,by simpa using a,b⟩
def IG.set{x:V}{u:A2}(r:RelV x u):∀{xs:A0 V} {us:A0 A2} (i:Nat),IG xs us->IG (xs.set i x) (us.set i u)
 | _,_,_,.nil=>.nil
 | _,_,0,.cons _ t=>.cons r t
 | _,_,i+1,.cons q t=>.cons q (IG.set r i t)
def IG.append:∀{xs a:A0 V} {us b:A0 A2},IG xs us->IG a b->IG (xs++a) (us++b)
 | _,_,_,_,.nil,s=>s
 | _,_,_,_,.cons r t,s=>.cons r (IG.append t s)
def IG.take:∀{xs:A0 V} {us:A0 A2} (n:Nat),IG xs us->IG (xs.take n) (us.take n)
 | _,_,0,_=>.nil
 | _,_,_+1,.nil=>.nil
 | _,_,n+1,.cons r t=>.cons r (IG.take n t)
def IG.drop:∀{xs:A0 V} {us:A0 A2} (n:Nat),IG xs us->IG (xs.drop n) (us.drop n)
 | _,_,0,r=>r
 | _,_,_+1,.nil=>.nil
 | _,_,n+1,.cons _ t=>IG.drop n t
def IG.none_of:∀{xs:A0 V} {us:A0 A2} {i:Nat},IG xs us->xs[i]?=none->us[i]?=none:=fun{xs us i} r e=>by
 have a:=r.length;have b:xs.length<=i:=GS.mp e;exact GS.mpr (by lia)
def LW:A5 V->A5 A2->Prop
 | some v,some u=>RelV v u
 | none,none=>True
 | _,_=>False
def KV{Z:Type}:A0 (Z×V)->A0 (Z×A2)->Prop:=Paired λ(p:Z×V) (q:Z×A2)=>p.1=q.1/\RelV p.2 q.2
def kV:IM->V
 | .inl i=>.int i
 | .inr x=>.str x
inductive HO where
 | lst (xs:A0 V)
 | tup (xs:A0 V)
 | dK (kvs:A0 (IM×V)) | dT (kvs:A0 (A0 IM×V))
 | set (S:Int->Bool) (n:Nat)
 | ins (C dx:A3) (fs:A0 (Str×V))
 | own (x:A3)
 | xd (fs:A0 (Str×V))
 | met (f x:A3)
 | rng (lo hi:Int)
 | frz (o:Obj) (u:HO)
 | tbl (ps:HS A2)
 | ext (φ:H_->Prop)
set_option genInjectivity false
abbrev Hp:=A3->A5 HO
def HX(H:Hp)(a:A3)(o:HO):Hp:=λb=>if b=a then some o else H b
def A7{H:Hp}{a:A3}{o:HO}:HX H a o a=some o:=by unfold HX;rw[AO rfl]
def B7{H:Hp}{a b:A3}{o:HO}(h:b≠a):HX H a o b=H b:=by unfold HX;rw[AI h]
def J7{H:Hp}{a b:A3}{o u:HO}(h:H a=some o)(h':H b=some u)(d:o≠u):a≠b:=by
 intro e;subst e;rw[h]at h';exact d (BT h')
def A9{H:Hp}{a b:A3}{o:HO}(h:H a=some o)(h':H b=none):a≠b:=by
 intro e;subst e;rw[h]at h';cases h'
section
variable(P:HU)(w:HW)
def IR(H:Hp)(h:H_)(a:A3):HO->Prop
 | .lst d=>d.length<=sizeLine/\∃(b:A0 A2) (n:Nat),IG d b/\h.get? a=some { cls:=.type "list",data:=.seq b.toArray n }
 | .tup d=>d.length<=sizeLine/\∃b:A0 A2,IG d b/\IsTup h a b.toArray
 | .dK c=>c.length<=sizeLine/\(a == sysModules)=false/\∃j,KV c j/\h.DictOf (C8 P w) a j
 | .dT c=>c.length<=sizeLine/\(a == sysModules)=false/\∃d:A0 (A0 IM×A3×A2),
   Paired (λ(p:A0 IM×V) (q:A0 IM×A3×A2)=>p.1=q.1/\H q.2.1=some (.tup (p.1.map kV))/\RelV p.2 q.2.2) c d /\
   ∃o k r,h.get? a=some o/\o.ExactDict/\o.data = .dict k r/\k.toList=d.map (entryOfKey (tupleKind (C8 P w)))/\(d.map (·.1)).Nodup
 | .set S n=>h.SetOf (intKind P w) a S n
 | .ins C i g=>H i=some (.own a)/\g.length<=1000/\i≠a/\h.get? a=some (PySem.W.instObj C i) /\
   ∃e,h.Ns1 i e/\(∀f,LW (g.lookup f) (e f))/\PySem.Within e (g.map (·.1))
 | .own _=>∃o,h.get? a=some o
 | .xd g=>∃e,h.Ns1 a e/\∀f,LW (g.lookup f) (e f)
 | .rng lo s=>∃t u v,h.get? a=some { cls:=.type "range",data:=.fields #[.int lo t,.int s u,.int 1 v] }
 | .frz o u=>h.get? a=some o/\IR H h a u
 | .tbl ps=>h.get? a=some { cls:=.none,data:=.fields ps }
 | .met f x=>h.get? a=some (PySem.W.methodObj (.ref f) (.ref x))
 | .ext φ=>φ h/\(∃o,h.get? a=some o)/\∀l m:H_,φ l->(∀o,l.get? a=some o->m.get? a=some o)->φ m
def MX(H:Hp)(h:H_):Prop:=∀a o,H a=some o->IR P w H h a o
end
section
variable{P:HU}{w:HW}{H H':Hp}{h h':H_}{a:A3}{o:HO}
theorem IR.lt(x:IR P w H h a o):a<h.objs.size:=by
 cases o with
 | lst c=>obtain⟨_,_,_,_,e⟩:=x;exact AG e
 | tup c=>obtain⟨_,_,_,p⟩:=x;exact p.lt
 | dK b=>obtain⟨_,_,_,_,o,_,_,e,_⟩:=x;exact AG e
 | dT b=>obtain⟨_,_,_,_,o,_,_,e,_⟩:=x;exact AG e
 | set S n=>obtain⟨o,_,_,_,e,_⟩:=x;exact AG e
 | ins C g d=>obtain⟨_,_,_,e,_⟩:=x;exact AG e
 | own y=>obtain⟨_,e⟩:=x;exact AG e
 | xd d=>obtain⟨_,⟨_,_,_,e,_⟩,_⟩:=x;exact AG e
 | rng lo i=>obtain⟨_,_,_,e⟩:=x;exact AG e
 | frz j u=>obtain⟨e,_⟩:=x;exact AG e
 | tbl ps=>exact AG (show h.get? a=some _ from x)
 | met f y=>exact AG (show h.get? a=some _ from x)
 | ext φ=>obtain⟨_,⟨_,e⟩,_⟩:=x;exact AG e
theorem Paired.mapP{α β:Type}{F G:α->β->Prop}:∀{l₁:A0 α} {l₂:A0 β},Paired F l₁ l₂->(∀a b,F a b->G a b)->Paired G l₁ l₂
 | _,_,.nil,_=>.nil
 | _,_,.cons r t,f=>.cons (f _ _ r) (Paired.mapP t f)
theorem IR.stay(x:IR P w H h a o)(k:∀b u,(b=a\/H b=some (.own a))->h.get? b=some u->h'.get? b=some u)
  (B:∀b,H b=some (.own a)->H' b=some (.own a)) (D:∀b xs,H b=some (.tup xs)->H' b=some (.tup xs)):IR P w H' h' a o:=by
 induction o with
 | lst xs=>obtain⟨z,l,n,r,e⟩:=x;exact⟨z,l,n,r,k _ _ (.inl rfl) e⟩
 | tup xs=>obtain⟨z,l,r,g,e,c⟩:=x;exact⟨z,l,r,g,k _ _ (.inl rfl) e,c⟩
 | dK m=>obtain⟨z,y,E,r,g,i,j,e,c⟩:=x;exact⟨z,y,E,r,g,i,j,k _ _ (.inl rfl) e,c⟩
 | dT m =>
  obtain⟨z,y,xs,r,g,i,j,e,c⟩:=x;exact⟨z,y,xs,Paired.mapP r λp q z=>⟨z.1,D _ _ z.2.1,z.2.2⟩,g,i,j,k _ _ (.inl rfl) e,c⟩
 | set S n=>obtain⟨g,i,j,t,e,c⟩:=x;exact⟨g,i,j,t,k _ _ (.inl rfl) e,c⟩
 | ins C K F =>
  obtain⟨d,z,G,e,s,⟨A,i,j,I,c⟩,r⟩:=x;exact⟨B _ d,z,G,k _ _ (.inl rfl) e,s,⟨A,i,j,k _ _ (.inr d) I,c⟩,r⟩
 | own y=>obtain⟨g,e⟩:=x;exact⟨g,k _ _ (.inl rfl) e⟩
 | xd F=>obtain⟨s,⟨A,i,j,e,c⟩,r⟩:=x;exact⟨s,⟨A,i,j,k _ _ (.inl rfl) e,c⟩,r⟩
 | rng lo L=>obtain⟨t,u,v,e⟩:=x;exact⟨t,u,v,k _ _ (.inl rfl) e⟩
 | frz g u J=>obtain⟨e,q⟩:=x;exact⟨k _ _ (.inl rfl) e,J q⟩
 | tbl ps =>
  have e:h.get? a=some { cls:=.none,data:=.fields ps }:=x;show h'.get? a=some { cls:=.none,data:=.fields ps };exact k a _ (.inl rfl) e
 | met f y =>
  have e:h.get? a=some (PySem.W.methodObj (.ref f) (.ref y)):=x;show h'.get? a=some (PySem.W.methodObj (.ref f) (.ref y));exact k a _ (.inl rfl) e
 | ext φ=>obtain⟨p,⟨o,e⟩,st⟩:=x;exact⟨st _ _ p λo q=>k _ _ (.inl rfl) q,⟨o,k _ _ (.inl rfl) e⟩,st⟩
theorem MX.lt(x:MX P w H h)(e:H a=some o):a<h.objs.size:=(x a o e).lt
theorem MX.fresh(x:MX P w H h)(e:h.objs.size<=a):H a=none:=by
 cases q:H a with
 | none=>rfl
 | some u=>exact absurd (BI (x.lt q) e) (CZ _)
theorem MX.kept(x:MX P w H h)(k:∀b u,h.get? b=some u->h'.get? b=some u):MX P w H h':=λa o e =>
 (x a o e).stay (λb u _ q=>k b u q) (λ_ q=>q) λ_ _ q=>q
theorem MX.laid(x:MX P w H h)(k:∀b u,h.get? b=some u->h'.get? b=some u)(i:h.objs.size<=a)(d:IR P w (HX H a o) h' a o):MX P w (HX H a o) h':=λb u e=>by
 have f:=x.fresh i;by_cases g:b=a
 .subst g;rw[A7]at e;cases e;exact d
 .rw[B7 g]at e;exact(x b u e).stay (λc v _ q=>k c v q) (λc q=>by rw[B7 (A9 q f)];exact q) λc j q=>by rw[B7 (A9 q f)];exact q
end
def Rd(H:Hp)(a:A3)(u:HO):Prop:=H a=some u\/∃o,H a=some (.frz o u)
def Rd.ok{P:HU}{w:HW}{H:Hp}{h:H_}{a:A3}{u:HO}(r:Rd H a u)(x:MX P w H h):IR P w H h a u:=by
 rcases r with r | ⟨o,r⟩
 .exact x a u r
 .obtain⟨_,q⟩:=x a _ r;exact q
def TN:A5 HO->Prop
 | some (.lst _)=>True
 | some (.dK _)=>True
 | some (.dT _)=>True
 | some (.set _ _)=>True
 | some (.ins _ _ _)=>True
 | some (.ext _)=>True
 | _=>False
section
variable{P:HU}{w:HW}{H:Hp}{h h':H_}{x e:A3}{o':HO}
theorem MX.write(p:MX P w H h)(g:TN (H x))(n:e=x\/H e=some (.own x))(k:∀b u,b≠e->h.get? b=some u->h'.get? b=some u)(l:∃u,h'.get? e=some u)
  (m:IR P w (HX H x o') h' x o'):MX P w (HX H x o') h':=λb u q=>by
 have d:∀c y,H c=some (.own y)->c≠x:=λc y r z=>by subst z;rw[r]at g;exact g
 have f:∀c i,H c=some (.tup i)->c≠x:=λc i r z=>by subst z;rw[r]at g;exact g
 by_cases j:b=x
 .subst j;rw[A7]at q;cases q;exact m
 .rw[B7 j]at q;by_cases a:b=e
  .have o:H b=some (.own x):=by
    rcases n with z | z
    .exact absurd (a.trans z) j
    .rw[a];exact z
   rw[q]at o;cases o;obtain⟨v,s⟩:=l;exact⟨v,by rw[a];exact s⟩
  .refine(p b u q).stay (λc v hc r=>k c v ?_ r) (λc r=>by rw[B7 (d c b r)];exact r) λc i r=>by rw[B7 (f c i r)];exact r
   rcases hc with rfl | hc
   .exact a
   .rintro rfl;rcases n with z | z
    .exact d c b hc z
    .rw[hc]at z;cases z;exact j rfl
end
structure Un(fs ex:A0 A3)(H H':Hp)(h h':H_):Prop where
 keep:∀b o,h.get? b=some o->H b=none->b∉fs->b∉ex->h'.get? b=some o
 slot:∀b o,h.get? b=some o->H b=none->b∈fs->b∉ex->∃sl,h'.get? b=some { o with slots:=sl }
 free:∀b o,h.get? b=some o->H b=none->b∉ex->H' b=none
 there:∀b o,h.get? b=some o->b∉ex->∃o',h'.get? b=some o'
 tups:∀b xs,H b=some (.tup xs)->H' b=some (.tup xs)
 frzs:∀b o u,H b=some (.frz o u)->H' b=some (.frz o u)
 tbls:∀b ps,H b=some (.tbl ps)->∃more,H' b=some (.tbl (ps++more))
section
variable{fs fs' ex ex':A0 A3}{H H1 H2:Hp}{h h1 h2 h':H_}{a x e:A3}{o:HO}
theorem Un.any(u:Un fs ex H H1 h h1){b:A3}{ob:Obj}(q:h.get? b=some ob)(n:H b=none)(a:b∉ex):∃d,h1.get? b=some { ob with slots:=d }:=by
 by_cases c:b∈fs
 .exact u.slot b ob q n c a
 .exact⟨ob.slots,u.keep b ob q n c a⟩
theorem Un.kept(k:∀b u,h.get? b=some u->h'.get? b=some u):Un fs ex H H h h' :=
 ⟨λb a q _ _ _=>k b a q,λb a q _ _ _=>⟨a.slots,k b a q⟩,λ_ _ _ n _=>n,λb a q _=>⟨a,k b a q⟩,λ_ _ q=>q,λ_ _ _ q=>q,λ_ ps q=>⟨#[],by rw[q];simp⟩⟩
theorem Un.refl:Un fs ex H H h h:=Un.kept λ_ _ q=>q
theorem Un.laid(k:∀b u,h.get? b=some u->h'.get? b=some u)(d:h.objs.size<=a)(c:H a=none):Un fs ex H (HX H a o) h h' where
 keep:=λb u q _ _ _=>k b u q
 slot:=λb u q _ _ _=>⟨u.slots,k b u q⟩
 free:=λb u q n _=>by rw[B7 (BA (BI (AG q) d))];exact n
 there:=λb u q _=>⟨u,k b u q⟩
 tups:=λb e q=>by rw[B7 (A9 q c)];exact q
 frzs:=λb u e q=>by rw[B7 (A9 q c)];exact q
 tbls:=λb ps q=>⟨#[],by rw[B7 (A9 q c),q];simp⟩
theorem Un.write(c:TN (H x))(j:e=x\/H e=some (.own x))(k:∀b u,b≠e->h.get? b=some u->h'.get? b=some u)(d:∃u,h'.get? e=some u):Un fs ex H (HX H x o) h h':=by
 have g:∀b,H b=none->b≠x:=λb n z=>by subst z;rw[n]at c;exact c
 have i:∀b,H b=none->b≠e:=λb n z=>by
  subst z;rcases j with r | r
  .exact g b n r
  .rw[n]at r;cases r
 have f:∀b u,H b=some u->¬TN (some u)->b≠x:=λb u q l z=>by subst z;rw[q]at c;exact l c
 refine⟨λb u q n _ _=>k b u (i b n) q,λb u q n _ _=>⟨u.slots,k b u (i b n) q⟩,λb u q n _=>by rw[B7 (g b n)];exact n,λb u q _=>?_,
  λb m q=>by rw[B7 (f b _ q λz=>z)];exact q,λb u m q=>by rw[B7 (f b _ q λz=>z)];exact q,λb ps q=>⟨#[],by rw[B7 (f b _ q λz=>z),q];simp⟩⟩
 by_cases a:b=e
 .subst a;exact d
 .exact⟨u,k b u a q⟩
end
def R_(h:H_)(H:Hp):A0 A3:=(List.range h.objs.size).filter λa=>(H a).isSome
def Ua(h:H_)(H:Hp):H_:=PySem.W.hideAll h (R_ h H)
def Sb(h:H_)(H:Hp):(Ua h H).objs.size=h.objs.size:=PySem.W.hideAll_size _ _
def Wj{h:H_}{H:Hp}{b:A3}{o:Obj}(e:h.get? b=some o)(n:H b=none):(Ua h H).get? b=some o :=
 PySem.W.hideAll_get _ e λa=>by
  have q:(H b).isSome=true:=(AV.mp a).2;rw[n]at q;simp at q
def Zv{h:H_}{H:Hp}{b:A3}{o:Obj}(e:(Ua h H).get? b=some o):h.get? b=some o/\H b=none:=by
 have a:h.get? b=some o:=PySem.W.of_hideAll (R_ h H) e;refine⟨a,?_⟩;cases q:H b with
 | none=>rfl
 | some x =>
  have c:b∈R_ h H:=AV.mpr ⟨DA.mpr (AG a),by simp[q]⟩;have z:(Ua h H).get? b=none:=PySem.W.hideAll_none (R_ h H) c;rw[z]at e;cases e
structure Mod(K:VA)(mg:Str->A5 A2)(base:H_):Prop where
 kin:K.In base
 glob:base.Ns mainGlobals mg
 blt:∃mb,base.Ns builtinsNs mb/\∀x:Str,x≠ "__name__"->mb x=bootBuiltins x
 nolimit:base.NoLimit
set_option genInjectivity false in
structure Cx where
 prog:HU
 w:HW
 K:VA
 mg:Str->A5 A2
 base:H_
 A:IA
 N:A0 Str
 s₀:A4
 H₀:Hp
 env:QQ
 outer:A0 QQ
 stack:A0 QQ
 ex:A0 A3
 fn:Str->Bool
 calm:Bool
 pn:A0 (A3×Obj)
 xe:A2->A4->Prop
def NV(l:A0 QQ):A0 A3:=l.filterMap (·.frame)
abbrev Cx.fs(X:Cx):A0 A3:=NV X.outer
def Vis(a:KM)(x:Str):Prop:=a.names.lookup x=some .local\/a.names.lookup x=some .cell\/a.names.lookup x=some .free
def Loc(a:KM)(x:Str):Prop:=a.names.lookup x=some .local\/a.names.lookup x=some .cell
def zHt(a:QQ)(h:H_)(m:Str->A5 A2)(x:Str)(u:A2):Prop :=
 (a.kindOf x=some .local/\m x=some u)\/((a.kindOf x=some .cell\/a.kindOf x=some .free)/\∃c,a.cells.lookup x=some c/\h.IsCell c (some u))
structure Cx.Ok(X:Cx):Prop where
 mod:Mod X.K X.mg X.base
 kind:X.env.scope.kind = .function
 glob:X.env.globals=mainGlobals
 blt:X.env.builtins=builtinsNs
 above:X.s₀.heap.objs.size<=X.env.locals
 inj:∀x y c,X.env.cells.lookup x=some c->X.env.cells.lookup y=some c->x=y
 has:∀x,(X.env.kindOf x=some .cell\/X.env.kindOf x=some .free)->∃c,X.env.cells.lookup x=some c
 cab:∀x c,X.fn x=true->X.env.cells.lookup x=some c->X.s₀.heap.objs.size<=c
 hd:X.calm=true->X.A.handled=none
 frames:X.A.frames=some X.stack
 stk:X.stack=X.outer\/(X.stack=X.env::X.outer/\X.env.frame=some X.env.locals)
 exf:∀b∈X.ex,b≠X.env.locals/\∀x c,X.env.cells.lookup x=some c->c≠b
 bs:∀b o,X.base.get? b=some o->X.s₀.heap.get? b=some o/\X.H₀ b=none
 bsz:X.base.objs.size<=X.s₀.heap.objs.size
 noex:∀b o,X.base.get? b=some o->b∉X.ex
 exfs:∀b∈X.ex,b∉X.fs
 funs:X.s₀.heap.FunFrames X.base X.outer
 frf:∀b∈X.fs,X.H₀ b=none
structure Inv(X:Cx)(pins:A0 (A3×Obj))(σ:A0 (A5 V))(H:Hp)(s:A4):Prop where
 ok:X.Ok
 os:s.os=X.s₀.os
 bare:AllBare s.gens
 base:Un X.fs X.ex X.H₀ H X.s₀.heap s.heap
 loc:∃m,s.heap.Ns X.env.locals m/\∀(i:Nat) (x:Str) (v:V),X.N[i]?=some x->σ[i]?=some (some v)->Vis X.env.scope x->∃u,RelV v u/\zHt X.env s.heap m x u
 cell:∀x c,X.env.cells.lookup x=some c->∃v,s.heap.IsCell c v
 free:H X.env.locals=none
 freeC:∀x c,X.env.cells.lookup x=some c->H c=none
 pin:∀p∈X.pn++pins,s.heap.get? p.1=some p.2/\H p.1=none/\p.1≠X.env.locals/\p.1∉X.fs/\∀v,p.2.data≠ .cell v
 hok:MX X.prog X.w H s.heap
 len:σ.length=X.N.length
section
variable{X:Cx}{pins:A0 (A3×Obj)}{σ:A0 (A5 V)}{H H':Hp}{s:A4}{h':H_}
theorem Cx.Ok.nofr(a:X.Ok){b:A3}{o:Obj}(e:X.base.get? b=some o):b∉X.fs:=λc=>by
 have:=(a.funs.mem c).1;rw[e]at this;cases this
theorem Inv.bs(I:Inv X pins σ H s):∀b o,X.base.get? b=some o->s.heap.get? b=some o/\H b=none:=λb o e =>
 ⟨I.base.keep b o (I.ok.bs b o e).1 (I.ok.bs b o e).2 (I.ok.nofr e) (I.ok.noex b o e),I.base.free b o (I.ok.bs b o e).1 (I.ok.bs b o e).2 (I.ok.noex b o e)⟩
theorem Inv.bk(I:Inv X pins σ H s):∀b o,X.base.get? b=some o->s.heap.get? b=some o:=λb o e=>(I.bs b o e).1
theorem Inv.mod(I:Inv X pins σ H s):Mod X.K X.mg X.base:=I.ok.mod
theorem Inv.kIn(I:Inv X pins σ H s):X.K.In s.heap:=I.ok.mod.kin.keeps I.bk
theorem Inv.lt(I:Inv X pins σ H s):X.env.locals<s.heap.objs.size:=let⟨_,a,_⟩:=I.loc;a.lt
theorem Inv.sz(I:Inv X pins σ H s):X.s₀.heap.objs.size<=s.heap.objs.size:=VE I.ok.above (DQ I.lt)
theorem Inv.nofs(I:Inv X pins σ H s){a:A3}(h:s.heap.objs.size<=a):a∉X.fs:=λb=>by
 obtain⟨_,o,c,_⟩:=I.ok.funs.mem b;exact absurd (BI (AG c) (VE I.sz h)) (CZ _)
theorem Inv.cne(I:Inv X pins σ H s):∀x c,X.env.cells.lookup x=some c->c≠X.env.locals:=λx c e z=>by
 obtain⟨v,o,d,f⟩:=I.cell x c e;obtain⟨m,⟨g,h,i,a,b,_⟩,_⟩:=I.loc;rw[z,a]at d;cases d;rw[b]at f;cases f
theorem Inv.funs(I:Inv X pins σ H s):s.heap.FunFrames X.base X.outer:=by
 have a:∀(l:A0 QQ),(∀b∈NV l,b∈X.fs)->X.s₀.heap.FunFrames X.base l->s.heap.FunFrames X.base l:=by
  intro l
  induction l with
  | nil=>intro _ _;trivial
  | cons h r i =>
   intro g j;obtain⟨k,⟨L,o,c,m,n,p⟩,q⟩:=j;have d:L∈X.fs:=g L (by unfold NV;rw[EW,c];exact AZ);obtain⟨t,e⟩:=I.base.slot L o n (I.ok.frf L d) d λz=>I.ok.exfs L z d;exact⟨k,⟨L,_,c,m,e,p⟩,i (λb f=>g b (by unfold NV;rw[EW,c];exact AN _ f)) q⟩
 exact a X.outer (λ_ f=>f) I.ok.funs
theorem Inv.stack(I:Inv X pins σ H s):s.heap.FunFrames X.base X.stack:=by
 rcases I.ok.stk with e | ⟨e,a⟩
 .rw[e];exact I.funs
 .rw[e];obtain⟨m,b,_⟩:=I.loc;refine .cons (by rw[I.ok.kind];decide) a b ?_ I.funs;exact Heap.get?_none_of_le (VE I.ok.bsz I.ok.above)
theorem Inv.stkSub(I:Inv X pins σ H s):∀b∈NV X.stack,b∈X.env.locals::X.fs:=λb a=>by
 rcases I.ok.stk with e | ⟨e,c⟩
 .rw[e]at a;exact AN _ a
 .rw[e]at a;unfold NV at a;rw[EW,c]at a;exact a
theorem Inv.stkFree(I:Inv X pins σ H s):∀b∈NV X.stack,H b=none:=λb hb=>by
 rcases AW.mp (I.stkSub b hb)with e | hb
 .rw[e];exact I.free
 .obtain⟨_,o,a,_⟩:=I.ok.funs.mem hb;exact I.base.free b o a (I.ok.frf b hb) λz=>I.ok.exfs b z hb
theorem Inv.step{g':HS GenState}{t':Nat}{d':Drawn}{ch:A0 A3}(I:Inv X pins σ H s)
  (g:∀b∈ch,(b∈X.ex\/X.s₀.heap.objs.size<=b)/\b≠X.env.locals/\(∀x c,X.env.cells.lookup x=some c->c≠b)/\∀p∈X.pn++pins,p.1≠b)
  (h:∀b o,b≠X.env.locals->b∉X.fs->b∉ch->s.heap.get? b=some o->H b=none->h'.get? b=some o)
  (B:∀b o,b≠X.env.locals->b∈X.fs->b∉ch->s.heap.get? b=some o->H b=none->∃N,h'.get? b=some { o with slots:=N }) (f:∀b o,b∉ch->s.heap.get? b=some o->H b=none->H' b=none)
  (C:∀b o,b∉ch->s.heap.get? b=some o->∃F,h'.get? b=some F)
  (G:∀b xs,H b=some (.tup xs)->H' b=some (.tup xs)) (J:∀b o u,H b=some (.frz o u)->H' b=some (.frz o u)) (K:∀b ps,H b=some (.tbl ps)->∃more,H' b=some (.tbl (ps++more)))
  (ns:∀m,s.heap.Ns X.env.locals m->h'.Ns X.env.locals m) (O:MX X.prog X.w H' h') (V:AllBare g') :
  Inv X pins σ H' { s with heap:=h',gens:=g',drawn:=d',toks:=t' }:=by
 have L:∀b o,X.s₀.heap.get? b=some o->b≠X.env.locals:=λb o e=>BA (BI (AG e) I.ok.above);have y:∀b o,X.s₀.heap.get? b=some o->b∉X.ex->b∉ch:=λb o e a D=>by
  rcases(g b D).1 with z | z
  .exact a z
  .exact absurd (BI (AG e) z) (CZ _)
 have j:∀x c,X.env.cells.lookup x=some c->∀v,s.heap.IsCell c v->h'.IsCell c v:=λx c e v ⟨o,E,P⟩=>by
  have t:c∉ch:=λz=>(g c z).2.2.1 x c e rfl;by_cases R:c∈X.fs
  .obtain⟨N,q⟩:=B c o (I.cne x c e) R t E (I.freeC x c e);exact⟨_,q,P⟩
  .exact⟨o,h c o (I.cne x c e) R t E (I.freeC x c e),P⟩
 refine⟨I.ok,I.os,V,⟨λb o e n D a=>?_,λb o e n D a=>?_,λb o e n a=>?_,λb o e a=>?_,λb xs e=>G b xs (I.base.tups b xs e),λb o xs e=>J b o xs (I.base.frzs b o xs e),λb ps e=>?_⟩,?_,λx c e=>?_,?_,λx c e=>?_,λp S=>?_,O,I.len⟩
 .exact h b o (L b o e) D (y b o e a) (I.base.keep b o e n D a) (I.base.free b o e n a)
 .obtain⟨N,A⟩:=I.base.slot b o e n D a;obtain⟨Q,M⟩:=B b _ (L b o e) D (y b o e a) A (I.base.free b o e n a);exact⟨Q,M⟩
 .obtain⟨F,A⟩:=I.base.there b o e a;exact f b F (y b o e a) A (I.base.free b o e n a)
 .obtain⟨F,A⟩:=I.base.there b o e a;exact C b F (y b o e a) A
 .obtain⟨W,A⟩:=I.base.tbls b ps e;obtain⟨Y,M⟩:=K b _ A;exact⟨W++Y,by rw[M,Array.append_assoc]⟩
 .obtain⟨m,Z,hl⟩:=I.loc;refine⟨m,ns m Z,λi x v A M e3=>?_⟩;obtain⟨u,r,l⟩:=hl i x v A M e3;refine⟨u,r,?_⟩;rcases l with l | ⟨k,c,e,z⟩
  .exact .inl l
  .exact .inr ⟨k,c,e,j x c e _ z⟩
 .obtain⟨v,z⟩:=I.cell x c e;exact⟨v,j x c e v z⟩
 .obtain⟨m,⟨o,_,_,E,_⟩,_⟩:=I.loc;exact f _ o (λz=>(g _ z).2.1 rfl) E I.free
 .obtain⟨v,o,E,P⟩:=I.cell x c e;exact f c o (λz=>(g c z).2.2.1 x c e rfl) E (I.freeC x c e)
 .obtain⟨e,n,T,U,d⟩:=I.pin p S;have t:p.1∉ch:=λz=>(g p.1 z).2.2.2 p S rfl;exact⟨h p.1 p.2 T U t e n,f p.1 p.2 t e n,T,U,d⟩
theorem Inv.un{t':Nat}(I:Inv X pins σ H s)(u:Un X.fs [] H H' s.heap h')(c:MX X.prog X.w H' h'):Inv X pins σ H' { s with heap:=h',toks:=t' }:=by
 obtain⟨m,⟨o,l,p,h,r⟩,_⟩:=id I.loc;obtain⟨q,i⟩:=u.any h I.free (by simp);exact I.step (g':=s.gens) (d':=s.drawn) (ch:=[]) (λ_ z=>nomatch z) (λb o _ d _ e n=>u.keep b o e n d (by simp)) (λb o _ d _ e n=>u.slot b o e n d (by simp)) (λb o _ e n=>u.free b o e n (by simp)) (λb o _ e=>u.there b o e (by simp)) u.tups u.frzs u.tbls (λt j=>by
  obtain⟨v,f,g,a,k⟩:=j;rw[h]at a;cases a;exact⟨_,f,g,i,k⟩) c I.bare
theorem Inv.call{g':HS GenState}{t':Nat}{d':Drawn}{ch:A0 A3}(I:Inv X pins σ H s)(u:Un (NV X.stack) ch H H' s.heap h')(g:MX X.prog X.w H' h')(l:AllBare g')
  (d:∀b∈ch,(b∈X.ex\/X.s₀.heap.objs.size<=b)/\b≠X.env.locals/\(∀x c,X.env.cells.lookup x=some c->c≠b)/\∀p∈X.pn++pins,p.1≠b) :
  Inv X pins σ H' { s with heap:=h',gens:=g',drawn:=d',toks:=t' }:=by
 obtain⟨m,⟨o,y,A,k,r⟩,_⟩:=id I.loc;obtain⟨B,h⟩:=u.any k I.free λz=>(d _ z).2.1 rfl;exact I.step (ch:=ch) d (λb o h q a e n=>u.keep b o e n (λz=>(AW.mp (I.stkSub b z)).elim h q) a) (λb o _ _ a e n=>u.any e n a) (λb o a e n=>u.free b o e n a) (λb o a e=>u.there b o e a) u.tups u.frzs u.tbls (λC t=>by
  obtain⟨D,i,j,f,v⟩:=t;rw[k]at f;cases f;exact⟨_,i,j,h,v⟩) g l
theorem Inv.turned{t':Nat}{a:A3}(I:Inv X pins σ H s)(k:∀b o,b≠a->s.heap.get? b=some o->h'.get? b=some o)(h:H a=none)(g:a≠X.env.locals)
  (h1:a∈X.ex\/X.s₀.heap.objs.size<=a) (h2:∀x c,X.env.cells.lookup x=some c->c≠a) (i:∀p∈X.pn++pins,p.1≠a):Inv X pins σ H { s with heap:=h',toks:=t' }:=by
 have f:∀b u,H b=some u->b≠a:=λb u e z=>by rw[z,h]at e;cases e
 refine I.step (g':=s.gens) (d':=s.drawn) (ch:=[a]) (λb j=>?_) (λb o _ _ d e _=>k b o (λz=>d (by simp[z])) e) (λb o _ _ d e _=>⟨o.slots,k b o (λz=>d (by simp[z])) e⟩) (λ_ _ _ _ n=>n)
  (λb o d e=>⟨o,k b o (λz=>d (by simp[z])) e⟩) (λ_ _ e=>e) (λ_ _ _ e=>e) (λb ps e=>⟨#[],by rw[e];simp⟩) (λm l=>?_) (λb u e=>?_) I.bare
 .have e:b=a:=by simpa using j
  subst e;exact⟨h1,g,h2,i⟩
 .obtain⟨o,t,w,y,r⟩:=l;exact⟨o,t,w,k _ o (Ne.symm g) y,r⟩
 .refine(I.hok b u e).stay (λc v d q=>k c v ?_ q) (λ_ q=>q) λ_ _ q=>q;rcases d with z | z
  .rw[z];exact f b u e
  .exact f c _ z
theorem Inv.tok(I:Inv X pins σ H s)(t:Nat):Inv X pins σ H { s with toks:=t }:=I.un (h':=s.heap) (t':=t) Un.refl I.hok
theorem Inv.kept{t':Nat}(I:Inv X pins σ H s)(k:∀b u,s.heap.get? b=some u->h'.get? b=some u):Inv X pins σ H { s with heap:=h',toks:=t' }:=I.un (Un.kept k) (I.hok.kept k)
theorem Inv.laid{a:A3}{o:HO}{t':Nat}(I:Inv X pins σ H s)(k:∀b u,s.heap.get? b=some u->h'.get? b=some u)(c:s.heap.objs.size<=a)(d:IR X.prog X.w (HX H a o) h' a o) :
  Inv X pins σ (HX H a o) { s with heap:=h',toks:=t' }:=I.un (Un.laid k c (I.hok.fresh c)) (I.hok.laid k c d)
theorem Inv.write{x e:A3}{o:HO}{t':Nat}(I:Inv X pins σ H s)(d:TN (H x))(f:e=x\/H e=some (.own x))(k:∀b u,b≠e->s.heap.get? b=some u->h'.get? b=some u)(a:∃u,h'.get? e=some u)
  (c:IR X.prog X.w (HX H x o) h' x o):Inv X pins σ (HX H x o) { s with heap:=h',toks:=t' }:=I.un (Un.write d f k a) (I.hok.write d f k a c)
theorem Inv.pins_of{a:A0 (A3×Obj)}(I:Inv X pins σ H s)(h:∀p∈a,s.heap.get? p.1=some p.2/\H p.1=none/\p.1≠X.env.locals/\p.1∉X.fs/\∀v,p.2.data≠ .cell v):Inv X a σ H s :=
 ⟨I.ok,I.os,I.bare,I.base,I.loc,I.cell,I.free,I.freeC,λp b=>(AJ.mp b).elim (λz=>I.pin p (CB _ z)) (h p),I.hok,I.len⟩
theorem Eh{N:A0 Str}(c:N.Nodup){i j:Nat}{x:Str}(a:N[i]?=some x)(b:N[j]?=some x):i=j:=by
 obtain⟨f,d⟩:=AM.mp a;obtain⟨g,e⟩:=AM.mp b;exact(List.getElem_inj c).mp (d.trans e.symm)
theorem Cf{M:Model}{A:IA}{E:A2->A4->Prop}{i:Nat}{x:Str}{v:V}{u:A2}{Q:Unit->A4->Prop}(I:Inv X pins σ H s)(hN:X.N.Nodup)(hi:X.N[i]?=some x)(t:Loc X.env.scope x)(r:RelV v u)
  (h:∀W,Inv X pins (σ.set i (some v)) H W->(∃a,Heap.SameBut a s.heap W.heap/\(a=X.env.locals\/X.env.cells.lookup x=some a))->Q () W) (hf:X.fn x=true\/X.env.scope.names.lookup x=some .local:=by first | exact .inl rfl | exact .inr rfl | assumption):wpAny M A (storeName X.env x u) Q E s:=by
 obtain⟨m,Y,hl⟩:=id I.loc;have K:(X.env.scope.kind == .class||(X.env.scope.kind == .module&&X.env.locals != X.env.globals))=false:=by rw[I.ok.kind];rfl
 have hiσ:i<σ.length:=by rw[I.len];exact(AM.mp hi).1
 have D:=I.cne;have g:∀{a:A3} {h':H_},(∃o,s.heap.get? a=some o/\H a=none)->Heap.SameBut a s.heap h'->MX X.prog X.w H h':=fun{a h'} ha f b ob e=>by
  obtain⟨_,_,B⟩:=ha;refine(I.hok b ob e).stay (λc S hc q=>(f.2 c ?_).trans q) (λ_ q=>q) λ_ _ q=>q;rintro rfl;rcases hc with rfl | hc
  .rw[B]at e;cases e
  .rw[B]at hc;cases hc
 rcases t with hk | hk
 .refine wpAny_storeName_local hk Y (λh' Z f=>?_) K;obtain⟨oL,_,_,hoL,_⟩:=id Y;refine h _ ⟨I.ok,I.os,I.bare,⟨λb o e n F t=>?_,λb o e n F t=>?_,I.base.free,λb o e t=>?_,I.base.tups,I.base.frzs,I.base.tbls⟩,⟨_,Z,λj y v' l C e3=>?_⟩,λy c e=>?_,I.free,I.freeC,λp hp=>?_,g ⟨oL,hoL,I.free⟩ f,by simpa using I.len⟩ ⟨_,f,.inl rfl⟩
  .exact(f.2 b (BA (BI (AG e) I.ok.above))).trans (I.base.keep b o e n F t)
  .obtain⟨sl,l⟩:=I.base.slot b o e n F t;exact⟨sl,(f.2 b (BA (BI (AG e) I.ok.above))).trans l⟩
  .obtain⟨o',l⟩:=I.base.there b o e t;exact⟨o',(f.2 b (BA (BI (AG e) I.ok.above))).trans l⟩
  .by_cases G:j=i
   .subst G;rw[hi]at l;cases l;rw[HG hiσ]at C;cases C;exact⟨u,r,.inl ⟨hk,by simp⟩⟩
   .rw[GM (Ne.symm G)]at C;obtain⟨u',r',q⟩:=hl j y v' l C e3;refine⟨u',r',?_⟩;rcases q with⟨k,e⟩ | ⟨k,c,e,z⟩
    .refine .inl ⟨k,?_⟩;have:y≠x:=λe=>G (Eh hN l (e▸hi));simp[this,e]
    .exact .inr ⟨k,c,e,z.sameBut f (D y c e)⟩
  .obtain⟨S,z⟩:=I.cell y c e;exact⟨S,z.sameBut f (D y c e)⟩
  .obtain⟨e,n,T,nf,d⟩:=I.pin p hp;exact⟨(f.2 p.1 T).trans e,n,T,nf,d⟩
 .have J:X.fn x=true:=by
   rcases hf with z | z
   .exact z
   .rw[z]at hk;cases hk
  obtain⟨c,hc⟩:=I.ok.has x (.inl hk);obtain⟨S,z⟩:=I.cell x c hc;refine wpAny_storeName_cell I.ok.kind hk hc z (λh' L f=>?_);obtain⟨oc,O,P⟩:=id z;refine h { s with heap:=h' } ⟨I.ok,I.os,I.bare,⟨λb o e n F t=>?_,λb o e n F t=>?_,I.base.free,λb o e t=>?_,I.base.tups,I.base.frzs,I.base.tbls⟩,⟨m,Y.sameBut f (Ne.symm (D x c hc)),λj y v' l C e3=>?_⟩,λy U e=>?_,I.free,I.freeC,λp hp=>?_,g ⟨oc,O,I.freeC x c hc⟩ f,by simpa using I.len⟩ ⟨c,f,.inr hc⟩
  .exact(f.2 b (BA (BI (AG e) (I.ok.cab x c J hc)))).trans (I.base.keep b o e n F t)
  .obtain⟨sl,l⟩:=I.base.slot b o e n F t;exact⟨sl,(f.2 b (BA (BI (AG e) (I.ok.cab x c J hc)))).trans l⟩
  .obtain⟨o',l⟩:=I.base.there b o e t;exact⟨o',(f.2 b (BA (BI (AG e) (I.ok.cab x c J hc)))).trans l⟩
  .by_cases G:j=i
   .subst G;rw[hi]at l;cases l;rw[HG hiσ]at C;cases C;exact⟨u,r,.inr ⟨.inl hk,c,hc,L⟩⟩
   .rw[GM (Ne.symm G)]at C;obtain⟨u',r',q⟩:=hl j y v' l C e3;refine⟨u',r',?_⟩;rcases q with q | ⟨k,U,e,z'⟩
    .exact .inl q
    .refine .inr ⟨k,U,e,z'.sameBut f ?_⟩;rintro rfl;exact G (Eh hN l (I.ok.inj _ _ _ e hc▸hi))
  .by_cases R:U=c
   .subst R;exact⟨_,L⟩
   .obtain⟨w2,z2⟩:=I.cell y U e;exact⟨w2,z2.sameBut f R⟩
  .obtain⟨e,n,T,nf,d⟩:=I.pin p hp;refine⟨(f.2 p.1 ?_).trans e,n,T,nf,d⟩;intro q;rw[q,O]at e;have q':oc=p.2:=BT e;exact d S (by rw[<-q'];exact P)
theorem U6{M:Model}{A:IA}{E:A2->A4->Prop}{i:Nat}{x:Str}{v:V}{u:A2}{Q:Unit->A4->Prop}(I:Inv X pins σ H s)(b:X.N.Nodup)(hi:X.N[i]?=some x)(c:Loc X.env.scope x)(r:RelV v u)
  (h:∀a,Inv X pins (σ.set i (some v)) H a->Q () a) (d:X.fn x=true\/X.env.scope.names.lookup x=some .local:=by first | exact .inl rfl | exact .inr rfl | assumption):wpAny M A (storeName X.env x u) Q E s :=
 Cf I b hi c r (λa e _=>h a e) d
theorem Inv.call'{a:A4}{ch:A0 A3}(I:Inv X pins σ H s)(g:a.os=s.os)(u:Un (NV X.stack) ch H H' s.heap a.heap)(d:MX X.prog X.w H' a.heap)(h:AllBare a.gens)
  (f:∀b∈ch,(b∈X.ex\/X.s₀.heap.objs.size<=b)/\b≠X.env.locals/\(∀x c,X.env.cells.lookup x=some c->c≠b)/\∀p∈X.pn++pins,p.1≠b):Inv X pins σ H' a:=by
 obtain⟨h',g',d',t',i⟩:=a;have e:i=s.os:=g;subst e;exact I.call (g':=g') (t':=t') (d':=d') u d h f
end
abbrev XK:=A2->A5 A3->Hp->Prop
abbrev St:=A0 (A5 V)
abbrev VK:=V->Hp->Prop
abbrev TE:=St->Hp->VK->Prop
abbrev TT:=St->Hp->(Bool->Hp->Prop)->Prop
abbrev TA:=St->Hp->(A0 V->Hp->Prop)->Prop
set_option genInjectivity false in
structure Ends where
 nx:St->Hp->Prop
 rt:VK
 bk:St->Hp->Prop:=λ_ _=>False
 ct:St->Hp->Prop:=λ_ _=>False
abbrev TS:=Ends->St->Hp->Prop
def EP(X:Cx)(a:A0 (A3×Obj))(σ:St)(Q:VK)(u:A2)(c:A4):Prop:=∃v b,Inv X a σ b c/\RelV v u/\Q v b
def TP(X:Cx)(a:A0 (A3×Obj))(σ:St)(Q:Bool->Hp->Prop)(b:Bool)(d:A4):Prop:=∃c,Inv X a σ c d/\Q b c
def AP(X:Cx)(a:A0 (A3×Obj))(σ:St)(Q:A0 V->Hp->Prop)(us:A0 A2)(d:A4):Prop:=∃b c,Inv X a σ c d/\IG b us/\Q b c
def SP(X:Cx)(a:A0 (A3×Obj))(D:Ends)(f:Flow)(c:A4):Prop :=
 match f with
 | .next=>∃σ' b,Inv X a σ' b c/\D.nx σ' b
 | .brk=>∃σ' b,Inv X a σ' b c/\D.bk σ' b
 | .cont=>∃σ' b,Inv X a σ' b c/\D.ct σ' b
 | .ret u=>∃v σ' b,Inv X a σ' b c/\RelV v u/\D.rt v b
def PE(X:Cx)(e:IB)(t:TE):Prop :=
 ∀(a:A0 (A3×Obj)) (s:A4) (σ:St) (H:Hp) (Q:VK),Inv X a σ H s->t σ H Q->wpAny (model X.prog X.w) X.A (eval e X.env) (EP X a σ Q) X.xe s
def PT(X:Cx)(e:IB)(t:TT):Prop :=
 ∀(a:A0 (A3×Obj)) (s:A4) (σ:St) (H:Hp) (Q:Bool->Hp->Prop),Inv X a σ H s->t σ H Q->wpAny (model X.prog X.w) X.A (isTrue e X.env (eval e X.env)) (TP X a σ Q) X.xe s
def PW(X:Cx)(e:IB)(t:TT):Prop :=
 ∀(b:Sem A2) (a:A0 (A3×Obj)) (s:A4) (σ:St) (H:Hp) (Q:Bool->Hp->Prop),Inv X a σ H s->t σ H Q->wpAny (model X.prog X.w) X.A (isTrue e X.env b) (TP X a σ Q) X.xe s
def PW.pt{X:Cx}{e:IB}{t:TT}(h:PW X e t):PT X e t:=h _
def PA(X:Cx)(c:A0 IB)(t:TA):Prop :=
 ∀(b:Pos) (a:A0 (A3×Obj)) (s:A4) (σ:St) (H:Hp) (Q:A0 V->Hp->Prop),Inv X a σ H s->t σ H Q->wpAny (model X.prog X.w) X.A (spliced (backTo b (starEach c X.env))) (AP X a σ Q) X.xe s
def PS(X:Cx)(st:IK)(t:TS):Prop :=
 ∀(a:A0 (A3×Obj)) (s:A4) (σ:St) (H:Hp) (D:Ends),Inv X a σ H s->t D σ H->wpAny (model X.prog X.w) X.A (exec st X.env) (SP X a D) X.xe s
def QE(X:Cx)(st:A0 IK)(t:TS):Prop :=
 ∀(a:A0 (A3×Obj)) (s:A4) (σ:St) (H:Hp) (D:Ends),Inv X a σ H s->t D σ H->wpAny (model X.prog X.w) X.A (execs st X.env) (SP X a D) X.xe s
def I7{α:Type}{t:Sem α}{Q b:α->A4->Prop}{M:Model}{A:IA}{E:A2->A4->Prop}{s:A4}(h:wpAny M A t Q E s)(c:∀a s,Q a s->b a s):wpAny M A t b E s:=B_ h c λ_ _ x=>x
section
variable{X:Cx}
def X8(i:Nat):TE:=λσ H Q=>∃v,σ[i]?=some (some v)/\Q v H
def tC(v:V):TE:=λ_ H Q=>Q v H
theorem zCo{i:Nat}{x:Str}{f:Pos}(n:X.N[i]?=some x)(o:Vis X.env.scope x)(g:(x ==("__debug__":Str))=false:=by decide)(j:(x ==("__classdict__":Str))=false:=by decide):PE X (.Name x f) (X8 i):=by
 intro d s σ H Q I h;obtain⟨v,e,h⟩:=h;obtain⟨m,p,q⟩:=I.loc;obtain⟨u,r,l⟩:=q i x v n e o;have b:EP X d σ Q u s:=⟨v,H,I,r,h⟩;rcases l with⟨hk,t⟩ | ⟨hk,c,k,a⟩
 .exact wpAny_Name (wpAny_loadName_local I.ok.kind hk p t b) g
 .rcases hk with hk | hk
  .exact wpAny_Name (wpAny_loadName_cell I.ok.kind hk k a b) g
  .exact wpAny_Name (wpAny_loadName_free I.ok.kind hk k a b j) g
theorem B4{i j a}:PE X (.Constant (.int i) j a) (tC (.int i)):=λ_ _ _ H _ I h=>wpAny_Constant_int ⟨.int i,H,I.tok _,⟨_,rfl⟩,h⟩
theorem Ij{b j a}:PE X (.Constant (.bool b) j a) (tC (.bl b)):=λ_ _ _ H _ I h=>Constant_bool ⟨.bl b,H,I,rfl,h⟩
theorem g7{j a}:PE X (.Constant .none j a) (tC .non):=λ_ _ _ H _ I h=>Constant_none ⟨.non,H,I,rfl,h⟩
theorem C1{x j a}:PE X (.Constant (.str x) j a) (tC (.str x)):=λ_ _ _ H _ I h=>Calls.Constant_str ⟨.str x,H,I.tok _,⟨_,rfl⟩,h⟩
def Gl(X:Cx)(x:Str):Prop:=X.env.kindOf x=some .globalImplicit
theorem Fm{E:A2->A4->Prop}{a:A0 (A3×Obj)}{s:A4}{σ:St}{H:Hp}{x:Str}{u:A2}{b:Pos}{Q:A2->A4->Prop}(I:Inv X a σ H s)(c:Gl X x)(d:X.mg x=some u)(h:Q u s)
  (e:(x ==("__debug__":Str))=false:=by decide):wpAny (model X.prog X.w) X.A (eval (.Name x b) X.env) Q E s :=
 Calls.Name_function_global I.ok.kind c (Calls.loadGlobal_global (by rw[I.ok.glob];exact I.mod.glob.keeps I.bk) d h) e
theorem Ah{E:A2->A4->Prop}{a:A0 (A3×Obj)}{s:A4}{σ:St}{H:Hp}{x:Str}{u:A2}{b:Pos}{Q:A2->A4->Prop}(I:Inv X a σ H s)(c:Gl X x)(d:X.mg x=none)(e:bootBuiltins x=some u)(h:Q u s)
  (f:x≠ "__name__":=by decide) (g:(x ==("__debug__":Str))=false:=by decide):wpAny (model X.prog X.w) X.A (eval (.Name x b) X.env) Q E s:=by
 obtain⟨k,i,j⟩:=I.mod.blt;exact Calls.Name_function_global I.ok.kind c (Calls.loadGlobal_builtin (by rw[I.ok.glob];exact I.mod.glob.keeps I.bk) d (by rw[I.ok.blt];exact i.keeps I.bk) ((j x f).trans e) h) g
theorem Px{x:Str}{v:V}{u:A2}{a:Pos}(b:Gl X x)(c:X.mg x=some u)(r:RelV v u)(d:(x ==("__debug__":Str))=false:=by decide):PE X (.Name x a) (tC v) :=
 λ_ _ _ H _ I h=>Fm I b c ⟨v,H,I,r,h⟩ d
theorem Zx{x:Str}{v:V}{u:A2}{a:Pos}(b:Gl X x)(c:X.mg x=none)(d:bootBuiltins x=some u)(r:RelV v u)(e:x≠ "__name__":=by decide)(f:(x ==("__debug__":Str))=false:=by decide):PE X (.Name x a) (tC v) :=
 λ_ _ _ H _ I h=>Ah I b c d ⟨v,H,I,r,h⟩ e f
variable{a b:IB}{ta tb:TE}{pos:Pos}
def PC(X:Cx)(d:CmpOp)(a b:IB)(t:TE):Prop :=
 ∀(c:A0 (A3×Obj)) (s:A4) (σ:St) (H:Hp) (Q:VK),Inv X c σ H s->t σ H Q ->
  wpAny (model X.prog X.w) X.A (eval a X.env) (λv h0=>wpAny (model X.prog X.w) X.A (eval b X.env) (λu i1=>wpAny (model X.prog X.w) X.A (compareOp d v u) (EP X c σ Q) X.xe i1) X.xe h0) X.xe s
def tB(t:TE):TT:=λσ H Q=>t σ H λx a=>∃c,x = .bl c/\Q c a
theorem zBy{g:CmpOp}{t:TE}(h:PC X g a b t)(h1:behindInMarks g b=false:=by first | exact e _ (by decide) (by decide) | rfl):PT X (.Compare a [g] [b] pos) (tB t):=by
 intro f s σ H Q I i;refine wpAny_isTrue_Compare1 (I7 (h f s σ H _ I i) λv o h1=>I7 h1 λu p j=>I7 j λc r ⟨x,k,l,m,n⟩=>?_) h1;obtain⟨d,rfl,q⟩:=n;cases m;exact CY ⟨k,l,q⟩
theorem T0{e:IB}{t:TE}(h:PE X e t)(c:∀a,isTrue e X.env a =(do let v <-a;standAt e.pos;holding [v] (truthy v)):=by intro _;rfl):PT X e (tB t):=by
 intro b s σ H Q I f;refine isTrue_plain (I7 (h b s σ H _ I f) λv l ⟨x,g,i,j,k⟩=>?_) (c _);obtain⟨d,rfl,q⟩:=k;cases j;exact CY ⟨g,i,q⟩
variable{tA tB':TT}{rest:A0 IB}
def zGc(t u:TT):TT:=λσ H Q=>t σ H λc a=>if c=true then u σ a Q else Q false a
def tOr(t u:TT):TT:=λσ H Q=>t σ H λc a=>if c=true then Q true a else u σ a Q
def zGz(t:TT):TT:=λσ H Q=>t σ H λc a=>Q (!c) a
theorem i7(d:PT X a tA):PW X (.BoolOp .And [a] pos) tA:=by
 intro f b s σ H Q I h;refine isTrue_and (I7 (d b s σ H Q I h) λc g e=>?_);cases c with
 | true=>exact isTrue_and_nil e
 | false=>exact e
theorem X2(d:PT X a tA):PW X (.BoolOp .Or [a] pos) tA:=by
 intro f b s σ H Q I h;refine isTrue_or (I7 (d b s σ H Q I h) λc g e=>?_);cases c with
 | false=>exact isTrue_or_nil e
 | true=>exact e
theorem Bq(i:PT X a tA)(j:PW X (.BoolOp .And (b::rest) pos) tB'):PW X (.BoolOp .And (a::b::rest) pos) (zGc tA tB'):=by
 intro k d s σ H Q I h;refine isTrue_and (I7 (i d s σ H _ I h) λc l ⟨e,f,g⟩=>?_);cases c with
 | true=>exact j k d l σ e Q f g
 | false=>exact⟨e,f,g⟩
theorem Ar(i:PT X a tA)(j:PW X (.BoolOp .Or (b::rest) pos) tB'):PW X (.BoolOp .Or (a::b::rest) pos) (tOr tA tB'):=by
 intro k d s σ H Q I h;refine isTrue_or (I7 (i d s σ H _ I h) λc l ⟨e,f,g⟩=>?_);cases c with
 | true=>exact⟨e,f,g⟩
 | false=>exact j k d l σ e Q f g
theorem a7(d:PT X a tA):PT X (.UnaryOp .Not a pos) (zGz tA):=by
 intro b s σ H Q I h;exact isTrue_not (d b s σ H (λc e=>Q (!c) e) I h)
def zEy(ta tb:TE):TE:=λσ H Q=>ta σ H λx a=>∃c,x = .bl c/\if c=true then tb σ a Q else Q (.bl false) a
def zFc(ta:TE):TE:=λσ H Q=>ta σ H λx a=>∃c,x = .bl c/\Q (.bl (!c)) a
theorem Dq{c}{t:TE}(h:PE X a t):PE X (.BoolOp c [a] pos) t:=λb s σ H Q I d=>BoolOp_one (h b s σ H Q I d)
theorem Bh(i:PE X a ta)(j:PE X (.BoolOp .And (b::rest) pos) tb):PE X (.BoolOp .And (a::b::rest) pos) (zEy ta tb):=by
 intro d s σ H Q I h;refine BoolOp_and (I7 (i d s σ H _ I h) λv k ⟨x,f,g,l,e⟩=>?_);obtain⟨c,rfl,e⟩:=e;cases l;refine CY ?_;cases c with
 | true=>exact j d k σ f Q g e
 | false=>exact⟨.bl false,f,g,rfl,e⟩
theorem zBh(e:PE X a ta):PE X (.UnaryOp .Not a pos) (zFc ta):=by
 intro b s σ H Q I h;refine UnaryOp_ (I7 (e b s σ H _ I h) λv j ⟨x,f,g,i,d⟩=>?_);obtain⟨c,rfl,d⟩:=d;cases i;exact not_of (CY ⟨.bl (!c),f,g,rfl,d⟩)
def tIf(t:TT)(ta tb:TE):TE:=λσ H Q=>t σ H λc a=>if c=true then ta σ a Q else tb σ a Q
theorem Fc{c:IB}(k:PT X c tA)(l:PE X a ta)(m:PE X b tb):PE X (.IfExp c a b pos) (tIf tA ta tb):=by
 intro e s σ H Q I h;refine wpAny_IfExp (I7 (k e s σ H _ I h) λd f ⟨g,i,j⟩=>?_);cases d with
 | true=>exact l e f σ g Q i j
 | false=>exact m e f σ g Q i j
end
def IC(K:VA)(H:Hp)(a:A3)(xs:A0 V):Prop :=
 Rd H a (.lst xs) \/
  ∃(o:Obj) (b:HS A2) (n:Nat),K.lookup a=some o/\o.cls = .type "list"/\o.dict=none/\o.data = .seq b n/\b.size<=sizeLine/\IG xs b.toList
def IZ(K:VA)(H:Hp)(a:A3)(xs:A0 V):Prop :=
 Rd H a (.tup xs) \/
  ∃(o:Obj) (b:HS A2) (n:Nat),K.lookup a=some o/\o.cls = .type "tuple"/\o.data = .seq b n/\b.size<=sizeLine/\IG xs b.toList
def zHb:A2->A5 V
 | .none=>some .non
 | .bool b=>some (.bl b)
 | .int i _=>some (.int i)
 | .str x _=>some (.str x)
 | .bytes b _=>some (.byt b)
 | .float b _=>some (.flt b)
 | .ref a=>some (.ref a)
 | .type n=>some (.ty n)
 | _=>none
def RelV.abs{x:V}{u:A2}(r:RelV x u):zHb u=some x:=by
 cases x with
 | non=>cases r;rfl
 | bl _=>cases r;rfl
 | int _=>obtain⟨t,rfl⟩:=r;rfl
 | str _=>obtain⟨t,rfl⟩:=r;rfl
 | byt _=>obtain⟨t,rfl⟩:=r;rfl
 | flt _=>obtain⟨t,rfl⟩:=r;rfl
 | ref _=>cases r;rfl
 | ty _=>cases r;rfl
def RelV.inj{x y:V}{u:A2}(r:RelV x u)(q:RelV y u):x=y:=BT (r.abs.symm.trans q.abs)
def IG.inj:∀{xs a:A0 V} {us:A0 A2},IG xs us->IG a us->xs=a
 | _,_,_,.nil,.nil=>rfl
 | _,_,_,.cons r t,.cons b c=>by rw[r.inj b,IG.inj t c]
section
variable{X:Cx}{pins:A0 (A3×Obj)}{σ:St}{H:Hp}{s:A4}{a:A3}{xs ys:A0 V}
theorem IC.of{K:VA}(h:H a=some (.lst xs)):IC K H a xs:=.inl (.inl h)
theorem IZ.of{K:VA}(h:H a=some (.tup xs)):IZ K H a xs:=.inl (.inl h)
theorem Inv.list(I:Inv X pins σ H s)(h:IC X.K H a xs):∃its:A0 A2,IG xs its/\PlainL s.heap a its.toArray/\xs.length<=sizeLine:=by
 rcases h with h | ⟨o,its,n,b,c,d,f,g,r⟩
 .obtain⟨z,its,n,r,e⟩:=h.ok I.hok;exact⟨its,r,⟨_,n,e,rfl,rfl,rfl⟩,z⟩
 .refine⟨its.toList,r,⟨o,n,I.kIn a o b,c,d,by simpa using f⟩,?_⟩;have e:=r.length;simp only[AX]at e;lia
theorem Inv.tuple(I:Inv X pins σ H s)(h:IZ X.K H a xs):∃its:A0 A2,IG xs its/\IsTup s.heap a its.toArray/\xs.length<=sizeLine:=by
 rcases h with h | ⟨o,its,n,b,c,d,f,r⟩
 .obtain⟨z,its,r,p⟩:=h.ok I.hok;exact⟨its,r,p,z⟩
 .refine⟨its.toList,r,⟨o,I.kIn a o b,c,n,by simpa using d⟩,?_⟩;have e:=r.length;simp only[AX]at e;lia
theorem Inv.list_inj(I:Inv X pins σ H s)(h:IC X.K H a xs)(h':IC X.K H a ys):xs=ys:=by
 obtain⟨c,r,⟨o,n,e,_,_,d⟩,_⟩:=I.list h;obtain⟨b,i,⟨k,l,f,_,_,g⟩,_⟩:=I.list h';rw[e]at f;cases f;rw[d]at g;injection g with j _;have:c=b:=by simpa using congrArg Array.toList j
 subst this;exact r.inj i
theorem Inv.tuple_inj(I:Inv X pins σ H s)(h:IZ X.K H a xs)(h':IZ X.K H a ys):xs=ys:=by
 obtain⟨c,r,⟨o,e,_,n,d⟩,_⟩:=I.tuple h;obtain⟨b,i,⟨k,f,_,l,g⟩,_⟩:=I.tuple h';rw[e]at f;cases f;rw[d]at g;injection g with j _;have:c=b:=by simpa using congrArg Array.toList j
 subst this;exact r.inj i
end
abbrev Cx.wish(X:Cx)(E:A2->A4->Prop):Cx:={ X with xe:=E }
abbrev Cx.nox(X:Cx):Cx:=X.wish λ_ _=>False
def Cx.Ok.wish{X:Cx}(a:X.Ok)(E:A2->A4->Prop):(X.wish E).Ok :=
 ⟨a.mod,a.kind,a.glob,a.blt,a.above,a.inj,a.has,a.cab,a.hd,a.frames,a.stk,a.exf,a.bs,a.bsz,a.noex,a.exfs,a.funs,a.frf⟩
def Cx.Ok.unwish{X:Cx}{E:A2->A4->Prop}(a:(X.wish E).Ok):X.Ok :=
 ⟨a.mod,a.kind,a.glob,a.blt,a.above,a.inj,a.has,a.cab,a.hd,a.frames,a.stk,a.exf,a.bs,a.bsz,a.noex,a.exfs,a.funs,a.frf⟩
section
variable{X:Cx}{pins:A0 (A3×Obj)}{σ:St}{H:Hp}{s:A4}{E:A2->A4->Prop}
theorem Inv.wish(I:Inv X pins σ H s)(E:A2->A4->Prop):Inv (X.wish E) pins σ H s:=⟨I.ok.wish E,I.os,I.bare,I.base,I.loc,I.cell,I.free,I.freeC,I.pin,I.hok,I.len⟩
theorem Inv.unwish(I:Inv (X.wish E) pins σ H s):Inv X pins σ H s:=⟨I.ok.unwish,I.os,I.bare,I.base,I.loc,I.cell,I.free,I.freeC,I.pin,I.hok,I.len⟩
theorem SP.unwish{D:Ends}{f:Flow}{b:A4}(h:SP (X.wish E) pins D f b):SP X pins D f b:=by
 cases f with
 | next=>obtain⟨σ',a,I,q⟩:=h;exact⟨σ',a,I.unwish,q⟩
 | brk=>obtain⟨σ',a,I,q⟩:=h;exact⟨σ',a,I.unwish,q⟩
 | cont=>obtain⟨σ',a,I,q⟩:=h;exact⟨σ',a,I.unwish,q⟩
 | ret u=>obtain⟨v,σ',a,I,r,q⟩:=h;exact⟨v,σ',a,I.unwish,r,q⟩
theorem QE.nox{st:A0 IK}{t:TS}(h:QE X.nox st t):QE X st t:=λpins s σ H D I a =>
 B_ (h pins s σ H D (I.wish _) a) (λ_ _ q=>q.unwish) λ_ _ z=>VB z
end
section
variable{X:Cx}{st:IK}{rest:A0 IK}{t u:TS}{e:IB}{te:TE}{pos:Pos}
def zFu:TS:=λD σ H=>D.nx σ H
def TD(t u:TS):TS:=λD σ H=>t { D with nx:=u D } σ H
theorem D9:QE X [] zFu:=λ_ _ σ H _ I h=>EV ⟨σ,H,I,h⟩
theorem B0(h1:PS X st t)(h2:QE X rest u):QE X (st::rest) (TD t u):=by
 intro a s σ H D I h;refine HM (I7 (h1 a s σ H { D with nx:=u D } I h) λf b q=>?_);cases f with
 | next =>
  obtain⟨σ',c,d,q⟩:=q;exact h2 a b σ' c D d q
 | ret v=>exact q
 | brk=>exact q
 | cont=>exact q
theorem B5(h1:PS X st t):QE X [st] t:=by
 intro a s σ H D I h;refine HM (I7 (h1 a s σ H D I h) λf b q=>?_);cases f with
 | next=>exact EV q
 | ret v=>exact q
 | brk=>exact q
 | cont=>exact q
def zCy:TS:=λD σ H=>D.bk σ H
theorem Vm:PS X (.Break pos) zCy:=λ_ _ σ H _ I h=>wpAny_Break ⟨σ,H,I,h⟩
theorem Inv.quiet{a:A0 (A3×Obj)}{σ:St}{H:Hp}{s:A4}(I:Inv X a σ H s):interactive X.env=false:=by simp[interactive,I.ok.kind]
def zFa(te:TE):TS:=λD σ H=>te σ H λ_ a=>D.nx σ a
theorem I9(b:PE X e te)(c:swapsWith e none pos.line X.env=pure false:=by rfl):PS X (.Expr e pos) (zFa te):=by
 intro a s σ H D I h;exact wpAny_Expr_any (I7 (b a s σ H _ I h) λv i ⟨x,d,f,j,g⟩=>⟨σ,d,f,g⟩) I.quiet c
def zGw(te:TE):TS:=λD σ H=>te σ H D.rt
theorem C0(b:PE X e te):PS X (.Return (some e) pos) (zGw te):=by
 intro a s σ H D I h;exact wpAny_Return_some (I7 (b a s σ H _ I h) λv i ⟨x,c,d,f,g⟩=>⟨x,σ,c,d,f,g⟩)
def zGp(c:TT)(t u:TS):TS:=λD σ H=>c σ H λb a=>if b=true then t D σ a else u D σ a
theorem K0{c:IB}{a b:A0 IK}{f:TT}(l:PT X c f)(m:QE X a t)(n:QE X b u):PS X (.If c a b pos) (zGp f t u):=by
 intro e s σ H D I h;refine wpAny_If (I7 (l e s σ H _ I h) λd g ⟨i,j,k⟩=>?_);cases d with
 | true=>exact m e g σ i D j k
 | false=>exact n e g σ i D j k
def zBg:TS:=λ_ _ _=>False
theorem Y0:PS X st zBg:=λ_ _ _ _ _ _ h=>h.elim
end
abbrev TG:=V->St->Hp->(St->Hp->Prop)->Prop
abbrev QY:=A0 V->St->Hp->(St->Hp->Prop)->Prop
def PG(X:Cx)(a:IB)(t:TG):Prop :=
 ∀(b:A0 (A3×Obj)) (s:A4) (σ:St) (H:Hp) (v:V) (u:A2) (Q:St->Hp->Prop),Inv X b σ H s->RelV v u->t v σ H Q ->
  wpAny (model X.prog X.w) X.A (assign a X.env u) (λ_ d=>∃σ' c,Inv X b σ' c d/\Q σ' c) X.xe s
def SK(X:Cx)(ts:A0 IB)(t:QY):Prop :=
 ∀(a:A0 (A3×Obj)) (s:A4) (σ:St) (H:Hp) (b:A0 V) (c:A0 A2) (Q:St->Hp->Prop),Inv X a σ H s->IG b c->t b σ H Q ->
  wpAny (model X.prog X.w) X.A (assignInOrder ((assignEach ts X.env).map (·.2)) c) (λ_ e=>∃σ' d,Inv X a σ' d e/\Q σ' d) X.xe s
abbrev MZ:=V->V->V->Hp->(Hp->Prop)->Prop
def zGl(X:Cx)(t:MZ):Prop :=
 ∀(a:A0 (A3×Obj)) (s:A4) (σ:St) (H:Hp) (o i v:V) (b c u:A2) (Q:Hp->Prop),Inv X a σ H s->RelV o b->RelV i c->RelV v u->t o i v H Q ->
  wpAny (model X.prog X.w) X.A (setItem b c u) (λ_ e=>∃d,Inv X a σ d e/\Q d) X.xe s
abbrev TIp:=V->V->Hp->VK->Prop
def PIp(X:Cx)(b:Operator)(t:TIp):Prop :=
 ∀(a:A0 (A3×Obj)) (s:A4) (σ:St) (H:Hp) (x y:V) (v u:A2) (Q:VK),Inv X a σ H s->RelV x v->RelV y u->t x y H Q ->
  wpAny (model X.prog X.w) X.A (inplaceOp b v u) (EP X a σ Q) X.xe s
section
variable{X:Cx}{pos:Pos}
def P5(i:Nat):TG:=λv σ H Q=>Q (σ.set i (some v)) H
theorem G5{i:Nat}{x:Str}(b:X.N.Nodup)(hi:X.N[i]?=some x)(c:Loc X.env.scope x)(d:X.fn x=true\/X.env.scope.names.lookup x=some .local:=by first | exact .inl rfl | exact .inr rfl | assumption):PG X (.Name x pos) (P5 i):=by
 intro a s σ H v u Q I r h;exact wpAny_assign_Name (U6 I b hi c r (λf e=>⟨_,H,e,h⟩) d)
def zEt:QY:=λa σ H Q=>a = []/\Q σ H
def Ms(t:TG)(u:QY):QY:=λa σ H Q=>∃v r,a=v::r/\t v σ H λσ' b=>u r σ' b Q
theorem R0:SK X [] zEt:=by
 intro a s σ H b c Q I r h;obtain⟨e,h⟩:=h;subst e;cases r;exact assignInOrder_nil ⟨σ,H,I,h⟩
theorem E5{e:IB}{b:A0 IB}{t:TG}{u:QY}(h1:PG X e t)(h2:SK X b u)
  (c:(assignEach (e::b) X.env).map (·.2)=assign e X.env ::(assignEach b X.env).map (·.2):=by rfl):SK X (e::b) (Ms t u):=by
 intro a s σ H l m Q I r h;obtain⟨v,n,d,h⟩:=h;subst d;cases r with
 | cons r f =>
  rw[c];refine assignInOrder_cons (I7 (h1 a s σ H _ _ _ I r h) λ_ g ⟨σ1,i,j,k⟩=>?_);exact h2 a g σ1 i _ _ Q j f k
def zEi(K:VA)(n:Nat)(t:QY):TG:=λv σ H Q=>∃a b,v = .ref a/\IZ K H a b/\b.length=n/\t b σ H Q
theorem zDg{d:A0 IB}{k:Nat}{t:QY}{n:Nat}(j:X.calm=true)(h:SK X d t)
  (l:(assignEach d X.env).length=n:=by rfl) (f:(assignEach d X.env).findIdx? (·.1)=none:=by rfl):PG X (.Tuple d k pos) (zEi X.K n t):=by
 intro c s σ H v u Q I r g;obtain⟨a,m,p,q,w,g⟩:=g;subst p;cases r;obtain⟨x,i,y,C⟩:=I.tuple q;refine assign_Tuple_tuple (I.ok.hd j) y (by simp[l,<-w,i.length]) f λz A=>?_;have B:Inv X c σ H { s with heap:=z }:=I.kept (t':=s.toks) λb o e=>A b o (BA (AG e)) e;exact h c _ σ H m _ Q B (by simpa using i) g
def zHf(a b:TE)(t:MZ):TG:=λv σ H Q=>a σ H λo c=>b σ c λi d=>t o i v d λe=>Q σ e
theorem Lq{o i:IB}{d e:TE}{t:MZ}(f:PE X o d)(hi:PE X i e)(g:zGl X t)
  (j:∀v,assign (.Subscript o i pos) X.env v =(do
   let b <-holding [v] (eval o X.env)
   let c <-holding [v,b] (eval i X.env)
   standAt pos
   holding [v,b,c] (setItem b c v)
   release [v,b,c] []):=by intro _;rfl):PG X (.Subscript o i pos) (zHf d e t):=by
 intro a s σ H v u Q I r h;rw[j];refine AA (BO (I7 (f a s σ H _ I h) λb k ⟨x,l,m,n,p⟩=>?_));refine AA (BO (I7 (hi a k σ l _ m p) λc q ⟨y,w,z,A,B⟩=>?_));refine AA (EZ (AA (BO (I7 (g a q σ w x y v b c u _ z n A r B) λ_ F ⟨C,D,E⟩=>?_))));exact wpAny_release ⟨σ,C,D,E⟩
def SO(a:TE)(g:TG):TS:=λD σ H=>a σ H λx b=>g x σ b D.nx
theorem Ab{tg e:IB}{b:TE}{g:TG}(c:PE X e b)(d:PG X tg g)(f:swapsWithSole [tg] e pos.line X.env=pure false:=by rfl)(hw:swappedStores [tg] e X.env=pure none:=by rfl)
  (h1:(assignEach [tg] X.env).map (·.2) = [assign tg X.env]:=by rfl):PS X (.Assign [tg] e pos) (SO b g):=by
 intro a s σ H D I h;refine wpAny_Assign_stores (I7 (c a s σ H _ I h) λv i ⟨x,j,k,l,m⟩=>?_) f hw;rw[h1];exact I7 (d a i σ j x v _ k l m) λ_ n q=>q
theorem C6{i:Nat}{x:Str}{e:IB}{c:TE}{a:Pos}(d:X.N.Nodup)(hi:X.N[i]?=some x)(f:Loc X.env.scope x)(g:PE X e c)(j:swapsWith e (some (.Name x a)) pos.line X.env=pure false:=by rfl)(k:X.fn x=true\/X.env.scope.names.lookup x=some .local:=by first | exact .inl rfl | exact .inr rfl | assumption) :
  PS X (.Assign [.Name x a] e pos) (SO c (P5 i)):=by
 intro b s σ H D I h;refine wpAny_Assign_Name (I7 (g b s σ H _ I h) λv q ⟨y,l,m,n,o⟩=>?_) j;exact U6 m d hi f n (λr p=>⟨_,l,p,o⟩) k
def zGy(i j:Nat)(a:TA):TS:=λD σ H=>a σ H λb c=>∃v w,b = [v,w]/\D.nx ((σ.set i (some v)).set j (some w)) c
theorem Tj{i j:Nat}{x y:Str}{a b:IB}{C:TA}{k l m:Pos}{n r d}(L:X.calm=true)(E:X.N.Nodup)(hi:X.N[i]?=some x)(M:X.N[j]?=some y)(t:i≠j)
  (F:X.env.scope.names.lookup x=some .local) (G:X.env.scope.names.lookup y=some .local) (O:PA X [a,b] C)
  (hw:swappedStores [.Tuple [.Name x k,.Name y l] n m] (.Tuple [a,b] r d) X.env=pure (some [x,y]))
  (P:swapsWithSole [.Tuple [.Name x k,.Name y l] n m] (.Tuple [a,b] r d) pos.line X.env=pure false:=by rfl) :
  PS X (.Assign [.Tuple [.Name x k,.Name y l] n m] (.Tuple [a,b] r d) pos) (zGy i j C):=by
 intro c s σ H D I h;rw[exec_Assign_arm];refine AA (EZ ?_);rw[P];refine AA (AE ?_);rw[AI (by decide)];refine AA (Tuple_ (I7 (O _ c s σ H _ I h) λQ s1 ⟨vs,J,R,S,u⟩=>?_));obtain⟨v,w,T,u⟩:=u;subst T;obtain⟨f,g,rfl,U,z⟩:∃f g,Q = [f,g]/\RelV v f/\RelV w g:=by
  cases S with
  | cons p q =>
   cases q with
   | cons V W =>
    cases W;exact⟨_,_,rfl,p,V⟩
 refine BU ?_ (by show 2<=sizeLine;decide);have Y:Inv X c σ J { s1 with heap:=s1.heap.push { cls:=.type "tuple",data:=.seq [f,g].toArray } }:=R.kept (t':=s1.toks) λb o e=>AD _ e;rw[hw];refine AA (AE ?_);show wpAny (model X.prog X.w) X.A (do rule "assign.swapped-stores";let items <-unpackItems (.ref s1.heap.objs.size) 2 none;assignInOrder [λv=>bindName X.env y v,λv=>bindName X.env x v] items.reverse;pure Flow.next) _ _ _;refine AA (DF (AA (unpackItems_tuple (items:=#[f,g]) (I.ok.hd L) (IsTup.new s1.heap _) λh' B=>?_)));have Z:=Y.kept (h':=h') (t':=s1.toks) λb o e=>B b o (BA (AG e)) e;show wpAny _ _ (assignInOrder [λv=>bindName X.env y v,λv=>bindName X.env x v] [g,f] >>= λ_=>pure Flow.next) _ _ _;refine AA (assignInOrder_cons (wpAny_bindName (U6 Z E M (.inl G) z (λs2 I4=>?_) (.inr G))));refine assignInOrder_cons (wpAny_bindName (U6 I4 E hi (.inl F) U (λs3 K=>assignInOrder_nil (AE ?_)) (.inr F)));rw[List.set_comm _ _ (Ne.symm t)]at K;exact⟨_,J,K,u⟩
def zGx(i:Nat)(a:TE)(b:TIp):TS:=λD σ H=>∃x,σ[i]?=some (some x)/\a σ H λy c=>b x y c λz d=>D.nx (σ.set i (some z)) d
theorem zCl{i:Nat}{x:Str}{e:IB}{n:TE}{f:Operator}{o:TIp}{d:Pos}(p:X.N.Nodup)(hi:X.N[i]?=some x)(g:Loc X.env.scope x)(q:PE X e n)(t:PIp X f o)(B:X.fn x=true\/X.env.scope.names.lookup x=some .local:=by first | exact .inl rfl | exact .inr rfl | assumption) :
  PS X (.AugAssign (.Name x d) f e pos) (zGx i n o):=by
 intro a s σ H D I h;obtain⟨v,C,h⟩:=h;obtain⟨m,E,F⟩:=I.loc;have j:Vis X.env.scope x:=by rcases g with k | k;exact .inl k;exact .inr (.inl k)
 obtain⟨u,r,l⟩:=F i x v hi C j;refine wpAny_AugAssign_Name ?_;have go:wpAny (model X.prog X.w) X.A (eval e X.env) (λw i1=>wpAny (model X.prog X.w) X.A (inplaceOp f u w) (λr s₃=>wpAny (model X.prog X.w) X.A (storeName X.env x r) (λ_=>SP X a D .next) X.xe s₃) X.xe i1) X.xe s:=by
  refine I7 (q a s σ H _ I h) λw G ⟨y,J,K,L,M⟩=>?_;refine I7 (t a G σ J v y u w _ K r L M) λz V ⟨W,O,P,Q,R⟩=>?_;exact U6 P p hi g Q (λY S=>⟨_,O,S,R⟩) B
 rcases l with⟨hk,T⟩ | ⟨hk,c,U,b⟩
 .exact wpAny_loadName_local I.ok.kind hk E T go
 .rcases hk with hk | hk
  .exact wpAny_loadName_cell I.ok.kind hk U b go
  .rcases g with k | k
   .have:X.env.scope.names.lookup x=some .free:=hk;rw[k]at this;cases this
   .have:X.env.scope.names.lookup x=some .free:=hk;rw[k]at this;cases this
def ipI(f:Int->Int->Int):TIp:=λx y H Q=>∃i j,x = .int i/\y = .int j/\Q (.int (f i j)) H
theorem zBu:PIp X .Add (ipI λi j=>i+j):=by
 intro a s σ H x y v u Q I b c h;obtain⟨i,j,d,e,q⟩:=h;subst d;subst e;obtain⟨t,rfl⟩:=b;obtain⟨f,rfl⟩:=c;exact iadd_int ⟨.int _,H,I.tok _,⟨_,rfl⟩,q⟩
def zDt(c:TT)(f:TS):TS:=λD σ H=>∃W:Nat->St->Hp->Prop,(∃m,W m σ H)/\∀m σ H,W m σ H ->
 c σ H λb a=>if b=true then ∃N:St->Hp->Prop,(∀σ' d,N σ' d->∃e,e < m/\W e σ' d)/\f { D with nx:=N,ct:=N,bk:=D.nx } σ a else D.nx σ a
theorem Bd{c:IB}{d:A0 IK}{q:TT}{r:TS}(t:PassesOwn (model X.prog X.w) X.A X.env X.xe)(C:PT X c q)(E:QE X d r):PS X (.While c d [] pos) (zDt q r):=by
 intro a s σ H D I h;obtain⟨W,⟨F,G⟩,e⟩:=h;refine wpAny_While (codeAny_whileLoop (λn J=>∃σ' u,Inv X a σ' u J/\W n σ' u) ?_ F ⟨σ,H,I,G⟩);rintro n K ⟨σ1,x,L,M⟩;refine FE t (I7 (C a K σ1 x _ L (e n σ1 x M)) λb O ⟨y,z,i⟩=>?_);cases b with
 | true =>
  obtain⟨N,B,i⟩:=i;rw[AO rfl];refine FE t (I7 (E a O σ1 y _ z i) λf P j=>?_);cases f with
  | next =>
   obtain⟨σ3,g,k,l⟩:=j;obtain⟨m,o,p⟩:=B σ3 g l;exact⟨m,o,σ3,g,k,p⟩
  | cont =>
   obtain⟨σ3,g,k,l⟩:=j;obtain⟨m,o,p⟩:=B σ3 g l;exact⟨m,o,σ3,g,k,p⟩
  | brk=>exact j
  | ret v=>exact j
 | false =>
  rw[AI BE];exact EV ⟨σ1,y,z,i⟩
end
set_option genInjectivity false in
structure It where
 go:Nat->Hp->Prop
 yld:Nat->Hp->V->Hp->Prop
 stop:Nat->Hp->Prop
def Dp(X:Cx)(a:A0 (A3×Obj))(H:Hp)(b:A3):Prop :=
 H b=none/\b≠X.env.locals/\b∉X.fs/\(b∈X.ex\/X.s₀.heap.objs.size<=b)/\(∀x c,X.env.cells.lookup x=some c->c≠b)/\∀p∈X.pn++a,p.1≠b
def Inv.fpOk{X:Cx}{a:A0 (A3×Obj)}{σ:St}{H H':Hp}{s:A4}{b:A3}(I:Inv X a σ H s)(d:s.heap.objs.size<=b)(f:H' b=none):Dp X a H' b:=by
 refine⟨f,GO (BI I.lt d),I.nofs d,.inr (VE I.sz d),λx c e z=>?_,λp g z=>?_⟩
 .obtain⟨v,q⟩:=I.cell x c e;exact absurd (BI q.lt (by rw[z];exact d)) (CZ _)
 .exact absurd (BI (AG (I.pin p g).1) (by rw[z];exact d)) (CZ _)
structure MN(P:HU)(w:HW)(K:VA)(tg:IB)(J:It)(fp:A0 A3)(it:A3)(tn:Nat->H_->Prop):Prop where
 mem:it∈fp
 obj:∀i h,tn i h->∀b∈fp,∃o,h.get? b=some o/\∀v,o.data≠ .cell v
 keep:∀i h h',tn i h->(∀b∈fp,∀o,h.get? b=some o->h'.get? b=some o)->tn i h'
 item:∀(X:Cx),X.prog=P->X.w=w->X.K=K->X.calm=true->∀(i:Nat) (pins:A0 (A3×Obj)) (s:A4) (σ:St) (H:Hp) (E:A2->A4->Prop),Inv X pins σ H s->(∀b∈fp,Dp X pins H b)->tn i s.heap->J.go i H ->
  wpAny (model P w) X.A (pyNext (.ref it)) (λr s1=>∃u,r=some u /\
   wpAny (model P w) X.A (letOwnedTupleGo tg (.ref it) u) (λ_ s2=>∃x H',Inv X pins σ H' s2/\RelV x u/\J.yld i H x H'/\tn (i+1) s2.heap/\∀b∈fp,H' b=none) E s1) E s
 done:∀(X:Cx),X.prog=P->X.w=w->X.K=K->X.calm=true->∀(i:Nat) (pins:A0 (A3×Obj)) (s:A4) (σ:St) (H:Hp) (E:A2->A4->Prop),Inv X pins σ H s->(∀b∈fp,Dp X pins H b)->tn i s.heap->J.stop i H ->
  wpAny (model P w) X.A (pyNext (.ref it)) (λr s1=>r=none/\Inv X pins σ H s1) E s
 self:∀(A:IA) (i:Nat) (s:A4) (Q:A2->A4->Prop) (E:A2->A4->Prop),tn i s.heap->Q (.ref it) s->wpAny (model P w) A (pyIter (.ref it)) Q E s
abbrev TI:=St->Hp->(It->Hp->Prop)->Prop
def PIE(X:Cx)(a:A0 (A3×Obj))(σ:St)(tg:IB)(R:It->Hp->Prop)(c:A2)(e:A4):Prop :=
 ∃(f:A3) (g:A0 A3) (tn:Nat->H_->Prop) (J:It) (d:Hp),c = .ref f/\Inv X a σ d e/\MN X.prog X.w X.K tg J g f tn/\tn 0 e.heap/\(∀b∈g,Dp X a d b)/\R J d
def PI(X:Cx)(tg iter:IB)(b:TI):Prop :=
 ∀(a:A0 (A3×Obj)) (s:A4) (σ:St) (H:Hp) (R:It->Hp->Prop),Inv X a σ H s->b σ H R ->
  wpAny (model X.prog X.w) X.A (eval iter X.env) (λv c=>wpAny (model X.prog X.w) X.A (pyIter v) (PIE X a σ tg R) X.xe c) X.xe s
def Vj{M:Model}{A:IA}{E:A2->A4->Prop}{s:A4}{tg:IB}{b:A3}{u:A2}{o:Obj}{n:String}{vs:HS A2}{Q:Unit->A4->Prop}(c:s.heap.get? b=some o)(d:o.cls = .type n)(e:o.data = .fields vs)
    (f:["enumerate","zip","dict_itemiterator","dict_reverseitemiterator","odict_iterator","itertools.zip_longest","itertools.pairwise"].contains n=false) (a:Q () s):wpAny M A (letOwnedTupleGo tg (.ref b) u) Q E s:=by
  unfold letOwnedTupleGo;cases tg<;>first
    | exact AE a
    | (cases u<;>first
        | exact AE a
        | (refine AA (wpAny_load c ?_)
           rw[d,e];show wpAny M A (if(["enumerate","zip","dict_itemiterator","dict_reverseitemiterator","odict_iterator","itertools.zip_longest","itertools.pairwise"].contains n&&vs[0]? == some (rawInt _))=true then _ else _) Q E s;rw[AI (by intro h;rw[f,DP]at h;cases h)];exact AE a))
def P7(K:VA)(a:A3):It :=
 ⟨λi H=>∃b x,IC K H a b/\b[i]?=some x,λi H x c=>c=H/\∀b,IC K H a b->b[i]?=some x,λi H=>∃b,IC K H a b/\b.length<=i⟩
def Itt(K:VA)(a:A3):It :=
 ⟨λi H=>∃b x,IZ K H a b/\b[i]?=some x,λi H x c=>c=H/\∀b,IZ K H a b->b[i]?=some x,λi H=>∃b,IZ K H a b/\b.length<=i⟩
def QM(lo:Int)(n:Nat):It:=⟨λi _=>i<n,λi H x a=>a=H/\x = .int (lo+i),λi _=>n<=i⟩
def Si{P:HU}{w:HW}{K:VA}{tg:IB}(a g:A3):MN P w K tg (P7 K a) [g] g (λi h=>h.IsListIter g a i) where
 mem:=by simp
 obj:=λi h st b j=>by
  have e:b=g:=by simpa using j
  subst e;obtain⟨o,e,c,d⟩:=st;exact⟨o,e,λv z=>by rw[d]at z;cases z⟩
 keep:=λi h m st k=>st.at λo e=>k g (by simp) o e
 item:=by
  intro X r t y N i f s σ H E I n st A;subst r t y;obtain⟨O,x,q,B⟩:=A;obtain⟨C,D,p,Q⟩:=I.list q;obtain⟨u,R,S⟩:=D.get B;obtain⟨F,G,T,J,L,M⟩:=n g (by simp);refine wpAny_pyNext_list_item st p.isList (x:=u) (by simpa using R) λm l U=>?_;have V:Inv X f σ H { s with heap:=m }:=I.turned (t':=s.toks) (λb o j e=>(U.2 b j).trans e) F G J L M;obtain⟨o,e,c,d⟩:=id l;exact⟨u,rfl,Vj (s:={ s with heap:=m }) e c d (by decide) ⟨x,H,V,S,⟨rfl,λys Y=>by rw[I.list_inj Y q];exact B⟩,l,λb j=>(n b j).1⟩⟩
 done:=by
  intro X r t y N i f s σ H E I n st A;subst r t y;obtain⟨O,q,B⟩:=A;obtain⟨C,D,p,Q⟩:=I.list q;obtain⟨F,G,T,J,L,M⟩:=n g (by simp);have hl:=D.length;exact wpAny_pyNext_list_end (I.ok.hd N) st p.isList (by simp;lia) λm Z=>⟨rfl,I.turned (t':=s.toks) (λb o j e=>Z b o j e) F G J L M⟩
 self:=λ_ _ _ _ _ st h=>wpAny_pyIter_listiter st h
def Mv{P:HU}{w:HW}{K:VA}{tg:IB}(a g:A3):MN P w K tg (Itt K a) [g] g (λi h=>h.IsTupleIter g a i) where
 mem:=by simp
 obj:=λi h st b j=>by
  have e:b=g:=by simpa using j
  subst e;obtain⟨o,e,c,d⟩:=st;exact⟨o,e,λv z=>by rw[d]at z;cases z⟩
 keep:=λi h n st k=>st.at λo e=>k g (by simp) o e
 item:=by
  intro X t y A N i f s σ H E I q st B;subst t y A;obtain⟨O,x,r,C⟩:=B;obtain⟨l,D,p,Q⟩:=I.tuple r;obtain⟨u,R,S⟩:=D.get C;obtain⟨F,G,T,J,L,M⟩:=q g (by simp);refine wpAny_pyNext_tuple_item st (show s.heap.IsTuple a l.toArray from p) (x:=u) (by simpa using R) λn m U=>?_;have V:Inv X f σ H { s with heap:=n }:=I.turned (t':=s.toks) (λb o j e=>(U.2 b j).trans e) F G J L M;obtain⟨o,e,c,d⟩:=id m;exact⟨u,rfl,Vj (s:={ s with heap:=n }) e c d (by decide) ⟨x,H,V,S,⟨rfl,λys Y=>by rw[I.tuple_inj Y r];exact C⟩,m,λb j=>(q b j).1⟩⟩
 done:=by
  intro X t y A N i f s σ H E I q st B;subst t y A;obtain⟨O,r,C⟩:=B;obtain⟨l,D,p,Q⟩:=I.tuple r;obtain⟨F,G,T,J,L,M⟩:=q g (by simp);have hl:=D.length;exact wpAny_pyNext_tuple_end (I.ok.hd N) st (show s.heap.IsTuple a l.toArray from p) (by simp;lia) λn Z=>⟨rfl,I.turned (t':=s.toks) (λb o j e=>Z b o j e) F G J L M⟩
 self:=λ_ _ _ _ _ st h=>wpAny_pyIter_tupleiter st h
def Og{P:HU}{w:HW}{K:VA}{tg:IB}(a:A3)(lo:Int)(n:Nat):MN P w K tg (QM lo n) [a] a (λi h=>IsRangeIter h a (lo +(i:Nat)*1) ((n:Int)-(i:Nat)) 1) where
 mem:=by simp
 obj:=λi h st b d=>by
  have e:b=a:=by simpa using d
  subst e;exact⟨_,st,λv z=>by
   have D:Data.fields _=Data.cell v:=z;cases D⟩
 keep:=λi h g st k=>k a (by simp) _ st
 item:=by
  intro X l m p q i c s σ H E I j st r;subst l m p;obtain⟨u,x,F,y,A,B⟩:=j a (by simp);have W:=Walks.range (prog:=X.prog) (w:=X.w) (I.ok.hd q) a lo 1 n;refine W.item i s _ _ r st λv g C G f kk=>?_;obtain⟨t,rfl⟩:=G;have J:Inv X c σ H { s with heap:=g,toks:=C }:=I.turned (λb o d e=>kk b o (by simpa using d) e) u x y A B;refine⟨_,rfl,Vj (s:={ s with heap:=g,toks:=C }) (n := "range_iterator") f rfl rfl (by decide) ⟨.int (lo+i),H,J,⟨t,?_⟩,⟨rfl,rfl⟩,f,λb d=>(j b d).1⟩⟩;rw[Int.mul_one]
 done:=by
  intro X l m p q i c s σ H E I j st r;subst l m p;obtain⟨u,x,F,y,A,B⟩:=j a (by simp);exact wpAny_pyNext_range_end (I.ok.hd q) st (by have:n<=i:=r;lia) λg L=>⟨rfl,I.turned (t':=s.toks) (λb o d e=>L b o d e) u x y A B⟩
 self:=λ_ _ _ _ _ st h=>wpAny_pyIter_rangeiter st h
section
variable{X:Cx}{tg:IB}
def zBa(K:VA)(tl:TE):TI:=λσ H R=>tl σ H λx b=>∃a,x = .ref a/\(∃c,IC K b a c)/\R (P7 K a) b
def zFf(K:VA)(tl:TE):TI:=λσ H R=>tl σ H λx b=>∃a,x = .ref a/\(∃c,IZ K b a c)/\R (Itt K a) b
theorem Xx{l:IB}{tl:TE}(g:PE X l tl):PI X tg l (zBa X.K tl):=by
 intro c s σ H R I h;refine I7 (g c s σ H _ I h) λv d ⟨x,i,f,j,k⟩=>?_;obtain⟨a,e,⟨t,m⟩,q⟩:=k;subst e;cases j;obtain⟨n,u,p,w⟩:=f.list m;refine FI p.isList ?_;refine⟨d.heap.objs.size,[d.heap.objs.size],_,_,i,rfl,f.kept (t':=d.toks) λb o e=>AD _ e,Si a _,⟨_,AY _ rfl,rfl,rfl⟩,λb r=>?_,q⟩;have e:b=d.heap.objs.size:=by simpa using r
 subst e;exact f.fpOk (VD _) (f.hok.fresh (VD _))
theorem zCp{l:IB}{tl:TE}(i:PE X l tl):PI X tg l (zFf X.K tl):=by
 intro c s σ H R I h;refine I7 (i c s σ H _ I h) λv d ⟨x,j,f,k,m⟩=>?_;obtain⟨a,e,⟨t,n⟩,q⟩:=m;subst e;cases k;obtain⟨g,u,p,w⟩:=f.tuple n;refine FW (show d.heap.IsTuple a g.toArray from p) ?_;refine⟨d.heap.objs.size,[d.heap.objs.size],_,_,j,rfl,f.kept (t':=d.toks) λb o e=>AD _ e,Mv a _,⟨_,AY _ rfl,rfl,rfl⟩,λb r=>?_,q⟩;have e:b=d.heap.objs.size:=by simpa using r
 subst e;exact f.fpOk (VD _) (f.hok.fresh (VD _))
theorem Md{a:A0 (A3×Obj)}{σ:St}{H:Hp}{s:A4}{R:It->Hp->Prop}{E:A2->A4->Prop}{lo hi:Int}{t u v:Tok}{c:Nat}(I:Inv X a σ H s)(h1:-(2^62)<=lo)(h2:lo<2^62)(f:-(2^62)<=hi)(g:hi<2^62)
  (q:R (QM lo (hi-lo).toNat) H):wpAny (model X.prog X.w) X.A (pyIter (.ref s.heap.objs.size)) (PIE X a σ tg R) E { s with heap:=s.heap.push { cls:=.type "range",data:=.fields #[.int lo t,.int hi u,.int 1 v] },toks:=c }:=by
 refine wpAny_pyIter_range (IsRange.new ..) (small_one h1 h2 f g) ?_;have d:Inv X a σ H { s with heap:=s.heap.push { cls:=.type "range",data:=.fields #[.int lo t,.int hi u,.int 1 v] },toks:=c }:=I.kept λb o e=>AD _ e;refine⟨(s.heap.push { cls:=.type "range",data:=.fields #[.int lo t,.int hi u,.int 1 v] }).objs.size,[(s.heap.push { cls:=.type "range",data:=.fields #[.int lo t,.int hi u,.int 1 v] }).objs.size],_,_,H,rfl,
  d.kept (t':=c) λb o e=>AD _ e,Og _ lo (hi-lo).toNat,?_,λb h=>?_,q⟩
 .have i:lo +((0:Nat):Int)*1=lo:=by simp
  have j:(((hi-lo).toNat:Nat):Int)-((0:Nat):Int)=Builtin.Range.rangeSize lo hi 1:=by rw[rangeSize_one];split<;>lia
  show IsRangeIter _ _ (lo +((0:Nat):Int)*1) ((((hi-lo).toNat:Nat):Int)-((0:Nat):Int)) 1;rw[i,j];exact AY _ rfl
 .have e:b =(s.heap.push { cls:=.type "range",data:=.fields #[.int lo t,.int hi u,.int 1 v] }).objs.size:=by simpa using h
  subst e;exact d.fpOk (VD _) (d.hok.fresh (VD _))
def zBw(a:TA):TI:=λσ H R=>a σ H λb c=>∃j:Int,b = [.int j]/\-(2^62)<=j/\j<2^62/\R (QM 0 j.toNat) c
def zEs(a:TA):TI:=λσ H R=>a σ H λb c=>∃i j:Int,b = [.int i,.int j]/\(-(2^62)<=i/\i<2^62/\-(2^62)<=j/\j<2^62)/\R (QM i (j-i).toNat) c
theorem Ta{a:IB}{f:TA}{p b:Pos}(g:Gl X "range")(i:X.mg "range" = none)(k:PA X [a] f)(l:starEach [a] X.env = [(false,eval a X.env)]:=by rfl):PI X tg (.Call (.Name "range" p) [a] [] b) (zBw f):=by
 intro c s σ H R I h;refine Call_ (Ah I g i boot_range (VP (I7 (k b c s σ H _ I h) λv w ⟨x,y,m,n,d⟩=>?_) l rfl));obtain⟨j,e,d,o,q⟩:=d;subst e;cases n with
 | cons r u =>
  cases u;obtain⟨t,rfl⟩:=r;exact call_range_1 (Md m (by lia) (by lia) d o (by simpa using q))
theorem Tn{a b:IB}{l:TA}{p c:Pos}(m:Gl X "range")(n:X.mg "range" = none)(o:PA X [a,b] l)(u:starEach [a,b] X.env = [(false,eval a X.env),(false,eval b X.env)]:=by rfl)(d:starEach [b] X.env = [(false,eval b X.env)]:=by rfl) :
  PI X tg (.Call (.Name "range" p) [a,b] [] c) (zEs l):=by
 intro f s σ H R I h;refine Call_ (Ah I m n boot_range (VP (I7 (o c f s σ H _ I h) λB C ⟨D,E,v,w,g⟩=>?_) (by rw[u,d]) (by rw[d];rfl)));obtain⟨i,j,e,⟨g,x,y,z⟩,q⟩:=g;subst e;cases w with
 | cons r k =>
  cases k with
  | cons A k =>
   cases k;obtain⟨t,rfl⟩:=r;obtain⟨F,rfl⟩:=A;exact call_range_2 (Md v g x y z q)
def zHh(c:TI)(g:TG)(d:TS):TS:=λD σ H=>c σ H λJ e=>∃W:Nat->Nat->St->Hp->Prop,(∃m,W 0 m σ e)/\∀i m σ H,W i m σ H ->
 (J.stop i H/\D.nx σ H)\/(J.go i H/\∃N:St->Hp->Prop,(∀σ' a,N σ' a->∃b,b < m/\W (i+1) b σ' a)/\∀x a,J.yld i H x a->g x σ a λσ2 f=>d { D with nx:=N,ct:=N,bk:=D.nx } σ2 f)
def Ge(fp:A0 A3)(h:H_):A0 (A3×Obj):=fp.filterMap λb=>(h.get? b).map λo=>(b,o)
theorem Y4{fp:A0 A3}{h:H_}{b:A3}{o:Obj}(a:b∈fp)(e:h.get? b=some o):(b,o)∈Ge fp h:=List.mem_filterMap.mpr ⟨b,a,by rw[e];rfl⟩
theorem Sq{fp:A0 A3}{h:H_}{p:A3×Obj}(a:p∈Ge fp h):p.1∈fp/\h.get? p.1=some p.2:=by
 obtain⟨b,c,e⟩:=List.mem_filterMap.mp a;cases q:h.get? b with
 | none=>rw[q]at e;cases e
 | some o =>
  rw[q]at e;have d:(b,o)=p:=BT e;subst d;exact⟨c,q⟩
theorem Inv.pinned{a:A0 (A3×Obj)}{σ:St}{H:Hp}{s:A4}{fp:A0 A3}(I:Inv X a σ H s)(g:∀b∈fp,Dp X a H b)(h:∀b∈fp,∃o,s.heap.get? b=some o/\∀v,o.data≠ .cell v):Inv X (a++Ge fp s.heap) σ H s :=
 I.pins_of λp i=>(AJ.mp i).elim (λz=>I.pin p (BK _ z)) λz=>by
  obtain⟨c,e⟩:=Sq z;obtain⟨j,k,l,_⟩:=g p.1 c;obtain⟨o,f,d⟩:=h p.1 c;rw[e]at f;cases f;exact⟨e,j,k,l,d⟩
theorem Inv.unpinned{a pl:A0 (A3×Obj)}{σ:St}{H:Hp}{s:A4}(I:Inv X (a++pl) σ H s):Inv X a σ H s:=I.pins_of λp b=>I.pin p (BK _ (CB _ b))
theorem U2{iter:IB}{q:A0 IK}{S:TI}{g:TG}{U:TS}{L:Pos}(z:PassesOwn (model X.prog X.w) X.A X.env X.xe)(V:X.calm=true)(hi:PI X tg iter S)(hg:PG X tg g)(c:QE X q U)
  (hs:∀x,foldedSetIterable iter X.env x=pure x:=by intro _;rfl):PS X (.For tg iter q [] L) (zHh S g U):=by
 intro a s σ H D I h;refine wpAny_For (I7 (hi a s σ H _ I h) λv s1 h1=>I7 h1 λitv s2 h2=>?_) hs;obtain⟨it,B,tn,J,H2,e,I2,T,M,Y,W,⟨m0,w0⟩,C⟩:=h2;subst e;have j:∀{p:Hp},(∀b∈B,p b=none)->∀b∈B,Dp X a p b:=λhn b c=>⟨hn b c,(Y b c).2⟩;refine codeAny_forLoop_any (λn Z=>∃i σ' p,Inv X a σ' p Z/\tn i Z.heap/\(∀b∈B,p b=none)/\W i n σ' p) ?_ m0 ⟨0,σ,H2,I2,M,λb c=>(Y b c).1,w0⟩;rintro n s3 ⟨i,σ3,K,I3,E,F,w3⟩;rcases C i n σ3 K w3 with⟨stop,qn⟩ | ⟨go,N,hN,step⟩
 .refine FE z (I7 (T.done X rfl rfl rfl V i a s3 σ3 K X.xe I3 (j F) E stop) λr s4 ⟨O,I4⟩=>?_);subst O;exact EV ⟨σ3,K,I4,qn⟩
 .refine FE z (I7 (T.item X rfl rfl rfl V i a s3 σ3 K X.xe I3 (j F) E go) λr s4 ⟨u,O,h4⟩=>?_);subst O;refine FE z (I7 h4 λ_ s5 ⟨x,H5,I5,r5,y5,y,P⟩=>?_);have Q:=I5.pinned (j P) (T.obj _ _ y);refine FE z (I7 (hg _ s5 σ3 H5 x u _ Q r5 (step x H5 y5)) λ_ s6 ⟨σ6,H6,I6,q6⟩=>?_);refine FE z (I7 (c _ s6 σ6 H6 _ I6 q6) λf R t=>?_);have again:∀{σ7:St} {k:Hp},Inv X (a++Ge B s5.heap) σ7 k R->N σ7 k->∃m,m<n/\∃i σ' p,Inv X a σ' p R/\tn i R.heap/\(∀b∈B,p b=none)/\W i m σ' p:=fun{σ7 k} l G=>by
   obtain⟨m',hm,w7⟩:=hN σ7 k G;refine⟨m',hm,i+1,σ7,k,l.unpinned,T.keep _ _ _ y λb c o e=>(l.pin (b,o) (BK _ (BK _ (Y4 c e)))).1,λb c=>?_,w7⟩;obtain⟨o,e,d⟩:=T.obj _ _ y b c;exact(l.pin (b,o) (BK _ (BK _ (Y4 c e)))).2.1
  cases f with
  | next=>obtain⟨σ7,k,l,G⟩:=t;exact again l G
  | cont=>obtain⟨σ7,k,l,G⟩:=t;exact again l G
  | brk=>obtain⟨σ7,k,l,t⟩:=t;exact⟨σ7,k,l.unpinned,t⟩
  | ret v=>obtain⟨x7,σ7,k,l,r7,t⟩:=t;exact⟨x7,σ7,k,l.unpinned,r7,t⟩
end
def Hk{lo:Int}{n:Nat}{g:TG}{c:TS}{D:Ends}{σ:St}{H:Hp}(Pv:Nat->St->Hp->Prop)(f:Pv 0 σ H)
  (h:∀i σ H,i<n->Pv i σ H->g (.int (lo+i)) σ H λσ2 b=>c { D with nx:=Pv (i+1),ct:=Pv (i+1),bk:=D.nx } σ2 b) (j:∀σ H,Pv n σ H->D.nx σ H) :
  ∃W:Nat->Nat->St->Hp->Prop,(∃m,W 0 m σ H)/\∀i m σ H,W i m σ H ->
   ((QM lo n).stop i H/\D.nx σ H)\/((QM lo n).go i H/\∃N:St->Hp->Prop,(∀σ' H',N σ' H'->∃d,d < m/\W (i+1) d σ' H')/\∀x H',(QM lo n).yld i H x H'->g x σ H' λσ2 b=>c { D with nx:=N,ct:=N,bk:=D.nx } σ2 b):=by
 refine⟨λi m σ H=>m=n-i/\i<=n/\Pv i σ H,⟨n,by simp,BP _,f⟩,?_⟩;rintro i m σ H ⟨rfl,l,p⟩;by_cases a:i<n
 .refine .inr ⟨a,Pv (i+1),λσ' H' k=>⟨n-(i+1),by lia,rfl,a,k⟩,λx H' y=>?_⟩;obtain⟨e,y⟩:=y;subst e y;exact h i σ _ a p
 .have e:i=n:=by lia
  subst e;exact .inl ⟨VD _,j σ H p⟩
abbrev R2:=V->V->Hp->VK->Prop
def KH(X:Cx)(f:A2->A2->Sem A2)(r:R2):Prop :=
 ∀(a:A0 (A3×Obj)) (s:A4) (σ:St) (H:Hp) (x y:V) (v u:A2) (Q:VK),Inv X a σ H s->RelV x v->RelV y u->r x y H Q ->
  wpAny (model X.prog X.w) X.A (f v u) (EP X a σ Q) X.xe s
def UnR(X:Cx)(f:A2->Sem A2)(r:V->Hp->VK->Prop):Prop :=
 ∀(a:A0 (A3×Obj)) (s:A4) (σ:St) (H:Hp) (x:V) (v:A2) (Q:VK),Inv X a σ H s->RelV x v->r x H Q ->
  wpAny (model X.prog X.w) X.A (f v) (EP X a σ Q) X.xe s
def J9(X:Cx)(f:A2)(r:A0 V->Hp->VK->Prop):Prop :=
 ∀(a:A0 (A3×Obj)) (s:A4) (σ:St) (H:Hp) (b:A0 V) (c:A0 A2) (Q:VK),Inv X a σ H s->IG b c->r b H Q ->
  wpAny (model X.prog X.w) X.A (call f c) (EP X a σ Q) X.xe s
def zHq(X:Cx)(r:V->Hp->(Bool->Hp->Prop)->Prop):Prop :=
 ∀(a:A0 (A3×Obj)) (s:A4) (σ:St) (H:Hp) (x:V) (v:A2) (Q:Bool->Hp->Prop),Inv X a σ H s->RelV x v->r x H Q ->
  wpAny (model X.prog X.w) X.A (truthy v) (TP X a σ Q) X.xe s
def ON(r:R2)(a b:TE):TE:=λσ H Q=>a σ H λx c=>b σ c λy d=>r x y d Q
def tUn(r:V->Hp->VK->Prop)(a:TE):TE:=λσ H Q=>a σ H λx b=>r x b Q
def rI(C:Int->Int->Prop)(g:Int->Int->V):R2:=λx y H Q=>∃i j,x = .int i/\y = .int j/\C i j/\Q (g i j) H
def QT(g:Int->Int->V):R2:=λx y H Q=>∃i j,x = .int i/\y = .int j/\Q (g i j) H
def rU(g:Int->V):V->Hp->VK->Prop:=λx H Q=>∃i,x = .int i/\Q (g i) H
section
variable{X:Cx}{a b c:IB}{ta tb tc:TE}{pos:Pos}
theorem zFx(i:PE X a ta)(j:PE X b tb){c:A0 (A3×Obj)}{s:A4}{σ:St}{H:Hp}{R:V->V->Hp->Prop}(I:Inv X c σ H s)
  (h:ta σ H λx g=>tb σ g λy d=>R x y d) {Q:A2->A4->Prop} {f:A2->A2->Sem A2}
  (k:∀v u e x y d,Inv X c σ d e->RelV x v->RelV y u->R x y d->wpAny (model X.prog X.w) X.A (f v u) Q X.xe e) :
  wpAny (model X.prog X.w) X.A (eval a X.env) (λv h0=>wpAny (model X.prog X.w) X.A (eval b X.env) (λu i1=>wpAny (model X.prog X.w) X.A (f v u) Q X.xe i1) X.xe h0) X.xe s:=by
 refine I7 (i c s σ H _ I h) λv l ⟨x,g,m,n,o⟩=>?_;refine I7 (j c l σ g _ m o) λu e ⟨y,d,p,q,r⟩=>?_;exact k v u e x y d p n q r
theorem E9{d:Operator}{r:R2}(e:KH X (binaryOp d) r)(f:PE X a ta)(g:PE X b tb):PE X (.BinOp a d b pos) (ON r ta tb):=by
 intro c s σ H Q I h;exact wpAny_BinOp (zFx f g I h λv u i x y j k l m q=>e c i σ j x y v u Q k l m q)
theorem zFm{c:UnaryOp}{r:V->Hp->VK->Prop}(d:UnR X (unaryOp c) r)(e:PE X a ta):PE X (.UnaryOp c a pos) (tUn r ta):=by
 intro b s σ H Q I h;exact UnaryOp_ (I7 (e b s σ H _ I h) λv f ⟨x,g,i,j,k⟩=>d b f σ g x v Q i j k)
theorem SY{f:A2->A2->Sem A2}{C:Int->Int->Prop}{g:Int->Int->Int}
  (rule:∀(i j:Int) (t u:Tok) (s:A4) (Q:A2->A4->Prop) (E:A2->A4->Prop),C i j->Q (.int (g i j) s.toks) { s with toks:=s.toks+1 }->wpAny (model X.prog X.w) X.A (f (.int i t) (.int j u)) Q E s) :
  KH X f (rI C λi j=>.int (g i j)):=by
 intro a s σ H x y v u Q I b c h;obtain⟨i,j,rfl,rfl,d,q⟩:=h;obtain⟨t,rfl⟩:=b;obtain⟨e,rfl⟩:=c;exact rule i j t e s _ _ d ⟨.int (g i j),H,I.tok _,⟨_,rfl⟩,q⟩
theorem zFj{f:A2->A2->Sem A2}{g:Int->Int->Int}
  (rule:∀(i j:Int) (t u:Tok) (s:A4) (Q:A2->A4->Prop) (E:A2->A4->Prop),Q (.int (g i j) s.toks) { s with toks:=s.toks+1 }->wpAny (model X.prog X.w) X.A (f (.int i t) (.int j u)) Q E s) :
  KH X f (QT λi j=>.int (g i j)):=by
 intro a s σ H x y v u Q I b c h;obtain⟨i,j,rfl,rfl,q⟩:=h;obtain⟨t,rfl⟩:=b;obtain⟨d,rfl⟩:=c;exact rule i j t d s _ _ ⟨.int (g i j),H,I.tok _,⟨_,rfl⟩,q⟩
theorem zEm{f:A2->A2->Sem A2}{g:Int->Int->Bool}
  (rule:∀(i j:Int) (t u:Tok) (s:A4) (Q:A2->A4->Prop) (E:A2->A4->Prop),Q (.bool (g i j)) s->wpAny (model X.prog X.w) X.A (f (.int i t) (.int j u)) Q E s) :
  KH X f (QT λi j=>.bl (g i j)):=by
 intro a s σ H x y v u Q I b c h;obtain⟨i,j,rfl,rfl,q⟩:=h;obtain⟨t,rfl⟩:=b;obtain⟨d,rfl⟩:=c;exact rule i j t d s _ _ ⟨.bl (g i j),H,I,rfl,q⟩
def zHl(i j:Int):Prop:=0<j/\j<1073741824
def zGf(i j:Int):Prop:=0<=j/\j<=1000000/\i.natAbs<2^64
def SN(i j:Int):Prop:=(-(2^64)<i/\i<2^64)\/(-(2^64)<j/\j<2^64)
theorem SN.ok{i j:Int}(h:SN i j):IntMulOk i j:=by
 rcases h with⟨a,b⟩ | ⟨a,b⟩
 .exact .of_left (intBits_le_64 a b)
 .exact .of_right (intBits_le_64 a b)
theorem Nm(k:Nat):(0:Int)<=2^k:=by
 rw[two_pow_cast];exact Int.natCast_nonneg _
theorem T9:KH X (binaryOp .Add) (QT λi j=>.int (i+j)):=zFj λ_ _ _ _ _ _ _ q=>add_int q
theorem c9:KH X (binaryOp .Mult) (rI SN λi j=>.int (i*j)):=SY λ_ _ _ _ _ _ _ a q=>mul_int q a.ok
theorem Ft:KH X (binaryOp .FloorDiv) (rI zHl λi j=>.int (i / j)):=SY λi j _ _ _ _ _ a q=>by
 have b:(0:Int)<j:=a.1;have c:j<1073741824:=a.2;exact floordiv_int (by lia) (by rw[Int.fdiv_eq_ediv_of_nonneg i (by lia)];exact q) (.inl (PyProof.noPylong_small (by lia)))
theorem Ds:KH X (binaryOp .Mod) (rI (λ_ j=>0<j) λi j=>.int (i % j)):=SY λi j _ _ _ _ _ a q=>by
 have b:(0:Int)<j:=a;exact mod_int' (by lia) (by rw[Int.fmod_eq_emod_of_nonneg i (by lia)];exact q)
theorem zDh:KH X (binaryOp .Pow) (rI zGf λi j=>.int (i^j.toNat)):=SY λ_ _ _ _ _ _ _ a q=>pow_int_small a.1 a.2.1 a.2.2 q
theorem Tc:KH X (binaryOp .LShift) (rI zGf λi j=>.int (i*2^j.toNat)):=SY λ_ _ _ _ _ _ _ a q=>lshift_int_small a.1 a.2.1 a.2.2 q
theorem Qa:KH X (binaryOp .RShift) (rI (λ_ j=>0<=j) λi j=>.int (i / 2^j.toNat)):=SY λi j _ _ _ _ _ a q =>
 rshift_int a (by rw[Int.fdiv_eq_ediv_of_nonneg i (Nm _)];exact q)
theorem Kg:KH X (binaryOp .BitAnd) (QT λi j=>.int (Builtin.bitAnd i j)):=zFj λ_ _ _ _ _ _ _ q=>and_int q
theorem Wf:KH X (binaryOp .BitOr) (QT λi j=>.int (Builtin.bitOr i j)):=zFj λ_ _ _ _ _ _ _ q=>or_int q
theorem unI{f:A2->Sem A2}{g:Int->Int}
  (rule:∀(i:Int) (t:Tok) (s:A4) (Q:A2->A4->Prop) (E:A2->A4->Prop),Q (.int (g i) s.toks) { s with toks:=s.toks+1 }->wpAny (model X.prog X.w) X.A (f (.int i t)) Q E s) :
  UnR X f (rU λi=>.int (g i)):=by
 intro a s σ H x v Q I b h;obtain⟨i,rfl,q⟩:=h;obtain⟨t,rfl⟩:=b;exact rule i t s _ _ ⟨.int (g i),H,I.tok _,⟨_,rfl⟩,q⟩
theorem zBe:UnR X (unaryOp .Invert) (rU λi=>.int (Builtin.bitNot i)):=unI λ_ _ _ _ _ q=>invert_int q
end
def zEo:V->V->Bool
 | .non,.non=>true | .non,.int _=>true | .int _,.non=>true | .non,.bl _=>true | .bl _,.non=>true | .non,.str _=>true | .str _,.non=>true
 | .int _,.int _=>true | .bl _,.bl _=>true | .str _,.str _=>true | .byt _,.byt _=>true
 | .int _,.str _=>true | .str _,.int _=>true | .bl _,.str _=>true | .str _,.bl _=>true
 | _,_=>false
def rEq:R2:=λx y H Q=>zEo x y=true/\Q (.bl (decide (x=y))) H
def rNe:R2:=λx y H Q=>zEo x y=true/\Q (.bl (!decide (x=y))) H
def Qy{i j:Int}:decide (V.int i=V.int j) =(i == j):=by
 rw[F_];simp
def Xg{i j:Bool}:decide (V.bl i=V.bl j) =(i == j):=by
 rw[F_];simp
def Ru{i j:Str}:decide (V.str i=V.str j) =(i == j):=by
 rw[F_];simp
def Qh{i j:HS UInt8}:decide (V.byt i=V.byt j) =(i.toList == j.toList):=by
 rw[F_];cases i;cases j;simp
section
variable{X:Cx}{a b c:IB}{ta tb tc:TE}{pos:Pos}
theorem J0{a:A0 (A3×Obj)}{σ:St}{H:Hp}{s:A4}{Q:VK}{k b:Bool}(I:Inv X a σ H s)(q:Q (.bl k) H)(e:k=b):EP X a σ Q (.bool b) s:=by
 subst e;exact⟨.bl k,H,I,rfl,q⟩
theorem V2:KH X (compareOp .Eq) rEq:=by
 intro e s σ H x y v u Q I d a h;obtain⟨c,q⟩:=h;cases x with
 | non =>
  cases d;cases y with
  | non=>cases a;exact PySem.EqNone.eq_none_none (J0 I q (by simp))
  | bl j=>cases a;exact PySem.EqNone.eq_none_bool (J0 I q (by simp))
  | int j=>obtain⟨b,rfl⟩:=a;exact PySem.EqNone.eq_none_int (J0 I q (by simp))
  | str j=>obtain⟨b,rfl⟩:=a;exact PySem.EqNone.eq_none_str (J0 I q (by simp))
  | _=>exact absurd (show false=true from c) BE
 | bl i =>
  cases d;cases y with
  | non=>cases a;exact PySem.EqNone.eq_bool_none (J0 I q (by simp))
  | bl j=>cases a;exact eq_bool (J0 I q Xg)
  | str j=>obtain⟨b,rfl⟩:=a;exact PySem.EqMixed.eq_bool_str (J0 I q (by simp))
  | _=>exact absurd (show false=true from c) BE
 | int i =>
  obtain⟨t,rfl⟩:=d;cases y with
  | non=>cases a;exact PySem.EqNone.eq_int_none (J0 I q (by simp))
  | int j=>obtain⟨b,rfl⟩:=a;exact eq_int (J0 I q Qy)
  | str j=>obtain⟨b,rfl⟩:=a;exact PySem.EqMixed.eq_int_str (J0 I q (by simp))
  | _=>exact absurd (show false=true from c) BE
 | str i =>
  obtain⟨t,rfl⟩:=d;cases y with
  | non=>cases a;exact PySem.EqNone.eq_str_none (J0 I q (by simp))
  | bl j=>cases a;exact PySem.EqMixed.eq_str_bool (J0 I q (by simp))
  | int j=>obtain⟨b,rfl⟩:=a;exact PySem.EqMixed.eq_str_int (J0 I q (by simp))
  | str j=>obtain⟨b,rfl⟩:=a;exact eq_str (J0 I q Ru)
  | _=>exact absurd (show false=true from c) BE
 | byt i =>
  obtain⟨t,rfl⟩:=d;cases y with
  | byt j=>obtain⟨b,rfl⟩:=a;exact PySem.W.eq_bytes (J0 I q Qh)
  | _=>exact absurd (show false=true from c) BE
 | _=>cases y<;>exact absurd (show false=true from c) BE
theorem Co:KH X (compareOp .NotEq) rNe:=by
 intro e s σ H x y v u Q I d a h;obtain⟨c,q⟩:=h;cases x with
 | non =>
  cases d;cases y with
  | non=>cases a;exact PySem.EqNone.ne_none_none (J0 I q (by simp))
  | bl j=>cases a;exact PySem.EqNone.ne_none_bool (J0 I q (by simp))
  | int j=>obtain⟨b,rfl⟩:=a;exact PySem.EqNone.ne_none_int (J0 I q (by simp))
  | str j=>obtain⟨b,rfl⟩:=a;exact PySem.EqNone.ne_none_str (J0 I q (by simp))
  | _=>exact absurd (show false=true from c) BE
 | bl i =>
  cases d;cases y with
  | non=>cases a;exact PySem.EqNone.ne_bool_none (J0 I q (by simp))
  | bl j=>cases a;exact ne_bool (J0 I q (congrArg not Xg))
  | str j=>obtain⟨b,rfl⟩:=a;exact PySem.EqMixed.ne_bool_str (J0 I q (by simp))
  | _=>exact absurd (show false=true from c) BE
 | int i =>
  obtain⟨t,rfl⟩:=d;cases y with
  | non=>cases a;exact PySem.EqNone.ne_int_none (J0 I q (by simp))
  | int j=>obtain⟨b,rfl⟩:=a;exact ne_int (J0 I q (congrArg not Qy))
  | str j=>obtain⟨b,rfl⟩:=a;exact PySem.EqMixed.ne_int_str (J0 I q (by simp))
  | _=>exact absurd (show false=true from c) BE
 | str i =>
  obtain⟨t,rfl⟩:=d;cases y with
  | non=>cases a;exact PySem.EqNone.ne_str_none (J0 I q (by simp))
  | bl j=>cases a;exact PySem.EqMixed.ne_str_bool (J0 I q (by simp))
  | int j=>obtain⟨b,rfl⟩:=a;exact PySem.EqMixed.ne_str_int (J0 I q (by simp))
  | str j=>obtain⟨b,rfl⟩:=a;exact ne_str (J0 I q (congrArg not Ru))
  | _=>exact absurd (show false=true from c) BE
 | byt i =>
  obtain⟨t,rfl⟩:=d;cases y with
  | byt j=>obtain⟨b,rfl⟩:=a;exact PySem.W.ne_bytes (J0 I q (congrArg not Qh))
  | _=>exact absurd (show false=true from c) BE
 | _=>cases y<;>exact absurd (show false=true from c) BE
theorem Ny:KH X (compareOp .Lt) (QT λi j=>.bl (decide (i<j))):=zEm λ_ _ _ _ _ _ _ q=>lt_int q
theorem Vr:KH X (compareOp .LtE) (QT λi j=>.bl (decide (i<=j))):=zEm λ_ _ _ _ _ _ _ q=>le_int q
theorem Yt:KH X (compareOp .Gt) (QT λi j=>.bl (decide (j<i))):=zEm λ_ _ _ _ _ _ _ q=>gt_int q
theorem zEx:KH X (compareOp .GtE) (QT λi j=>.bl (decide (j<=i))):=zEm λ_ _ _ _ _ _ _ q=>ge_int q
theorem Sa:KH X (compareOp .In) (λx y H Q=>∃i j,x = .str i/\y = .str j/\Q (.bl (!(Builtin.Str.occurrences j i 0 j.length 1).isEmpty)) H):=by
 intro a s σ H x y v u Q I b c h;obtain⟨i,j,rfl,rfl,q⟩:=h;obtain⟨t,rfl⟩:=b;obtain⟨d,rfl⟩:=c;exact in_str (J0 I q rfl)
theorem Pf:KH X (compareOp .Is) (λx y H Q=>y = .non/\Q (.bl (decide (x = .non))) H):=by
 intro a s σ H x y v u Q I b c h;obtain⟨rfl,q⟩:=h;cases c;refine is_none_gen (J0 I q ?_);cases x<;>first
  | (cases b;rfl)
  | (obtain⟨t,rfl⟩:=b;rfl)
theorem C5(b:IB){a:CmpOp}(h:a≠ .In:=by decide)(h2:a≠ .NotIn:=by decide):behindInMarks a b=false:=by
 have c:(a == CmpOp.In)=false:=by cases a<;>first | rfl | exact absurd rfl h
 have d:(a == CmpOp.NotIn)=false:=by cases a<;>first | rfl | exact absurd rfl h2
 cases b<;>simp[behindInMarks,c,d]
theorem Q8{d:CmpOp}{r:R2}(e:KH X (compareOp d) r)(f:PE X a ta)(g:PE X b tb)(i:behindInMarks d b=false):PE X (.Compare a [d] [b] pos) (ON r ta tb):=by
 intro c s σ H Q I h;exact wpAny_Compare1 (zFx f g I h λv u j x y k l m n q=>e c j σ k x y v u Q l m n q) i
def t4(t:TE):TT:=λσ H Q=>t σ H λx a=>∃k,x = .bl k/\Q k a
theorem B8{f:CmpOp}{r:R2}(g:KH X (compareOp f) r)(i:PE X a ta)(j:PE X b tb)(l:behindInMarks f b=false):PT X (.Compare a [f] [b] pos) (t4 (ON r ta tb)):=by
 intro d s σ H Q I h;refine wpAny_isTrue_Compare1 (I7 (i d s σ H _ I h) λv m ⟨x,n,o,p,q⟩=>I7 (j d m σ n _ o q) λu t ⟨y,w,A,B,C⟩ =>
  I7 (g d t σ w x y v u _ A p B C) λc J ⟨z,D,E,F,k,e,G⟩=>?_) l
 subst e;cases F;exact CY ⟨D,E,G⟩
def Wy(r b:R2)(ta tb tc:TE):TE:=λσ H Q=>ta σ H λx c=>tb σ c λy d=>r x y d λz a=>∃k,z = .bl k /\
 (if k=true then tc σ a λe f=>b y e f Q else Q (.bl false) a)
theorem Wm{i g:CmpOp}{r l:R2}(q:KH X (compareOp i) r)(j:KH X (compareOp g) l)(t:PE X a ta)(w:PE X b tb)(A:PE X c tc)
  (B:lastMarks [i,g] [b,c]=false:=by with_unfolding_all rfl):PE X (.Compare a [i,g] [b,c] pos) (Wy r l ta tb tc):=by
 intro f s σ H Q I h;refine Compare_chain (I7 (t f s σ H _ I h) λv C ⟨x,D,E,F,G⟩=>chain_link (I7 (w f C σ D _ E G) λu J ⟨y,K,L,m,M⟩ =>
  I7 (q f J σ K x y v u _ L F m M) λd N ⟨z,n,o,O,k,e,p⟩=>?_)) B
 subst e;cases O;refine CY ?_;cases k with
 | false=>exact ite_ff ⟨.bl false,n,o,rfl,p⟩
 | true=>exact ite_tt (chain_last (I7 (A f N σ n _ o p) λP R ⟨S,T,U,V,W⟩=>j f R σ T y S u P Q U m V W))
theorem Uq{i g:CmpOp}{r l:R2}(q:KH X (compareOp i) r)(j:KH X (compareOp g) l)(t:PE X a ta)(w:PE X b tb)(A:PE X c tc)
  (B:lastMarks [i,g] [b,c]=false:=by with_unfolding_all rfl):PT X (.Compare a [i,g] [b,c] pos) (t4 (Wy r l ta tb tc)):=by
 intro f s σ H Q I h;refine isTrue_chain (I7 (t f s σ H _ I h) λv C ⟨x,D,E,F,G⟩=>test_link (I7 (w f C σ D _ E G) λu J ⟨y,K,L,m,M⟩ =>
  I7 (q f J σ K x y v u _ L F m M) λd N ⟨z,n,o,O,k,e,p⟩=>?_)) B
 subst e;cases O;refine CY ?_;cases k with
 | false =>
  obtain⟨k',P,R⟩:=p;cases P;exact ite_ff ⟨n,o,R⟩
 | true =>
  refine ite_tt (test_last (I7 (A f N σ n _ o p) λS T ⟨U,V,W,Y,Z⟩=>I7 (j f T σ V y U u S _ W m Y Z) λd' s5 ⟨z2,H5,I5,r5,k2,e2,q5⟩=>?_));subst e2;cases r5;exact CY ⟨H5,I5,q5⟩
def zFd(K:VA)(x:V)(H:Hp)(k:Bool):Prop :=
 match x with
 | .non=>k=false
 | .bl b=>k=b
 | .int i=>k =(i != 0)
 | .str y=>y.length<=sizeLine/\k =((y.length:Int) != 0)
 | .byt y=>y.size<=sizeLine/\k =((y.size:Int) != 0)
 | .ref p=>(∃a,IC K H p a/\k=!a.isEmpty)\/(∃a,IZ K H p a/\k=!a.isEmpty)\/∃c,H p=some (.dK c)/\k=!c.isEmpty
 | _=>False
theorem Mp{Z:Type}{kvs:A0 (Z×V)}{vs:A0 (Z×A2)}(r:KV kvs vs):(!vs.isEmpty)=!kvs.isEmpty:=by
 cases r<;>rfl
theorem Dk{xs:A0 V}{its:A0 A2}(r:IG xs its):(!its.toArray.isEmpty)=!xs.isEmpty:=by
 cases r<;>simp
theorem Br:(sizeLine:Nat)<2^63:=by rw[sizeLine_eq];decide
theorem zCf:zHq X (λx H Q=>∃k,zFd X.K x H k/\Q k H):=by
 intro u s σ H x v Q I g h;obtain⟨k,e,q⟩:=h;have C:=Br;have D:sizeLine=16777216:=sizeLine_eq;cases x with
 | non =>
  cases g;have a:k=false:=e;subst a;exact truthy_none ⟨H,I,q⟩
 | bl b =>
  cases g;have a:k=b:=e;subst a;exact CY ⟨H,I,q⟩
 | int i =>
  obtain⟨t,rfl⟩:=g;have a:k =(i != 0):=e;subst a;exact PySem.P.truthy_int ⟨H,I,q⟩
 | str y =>
  obtain⟨t,rfl⟩:=g;obtain⟨A,a⟩:y.length<=sizeLine/\k =((y.length:Int) != 0):=e;subst a;exact PySem.P.truthy_str (by lia) ⟨H,I.tok _,q⟩
 | byt y =>
  obtain⟨t,rfl⟩:=g;obtain⟨A,a⟩:y.size<=sizeLine/\k =((y.size:Int) != 0):=e;subst a;exact PySem.W.truthy_bytes (by lia) ⟨H,I.tok _,q⟩
 | ref p =>
  cases g;have a:(∃f,IC X.K H p f/\k=!f.isEmpty)\/(∃f,IZ X.K H p f/\k=!f.isEmpty)\/∃c,H p=some (.dK c)/\k=!c.isEmpty:=e;rcases a with⟨f,j,a⟩ | ⟨f,j,a⟩ | ⟨c,j,a⟩
  .subst a;obtain⟨n,r,o,z⟩:=I.list j;have d:=r.length;exact wpAny_truthy_list o.isList (by simp only[AR];lia) ⟨H,I.tok _,by rw[Dk r];exact q⟩
  .subst a;obtain⟨n,r,o,z⟩:=I.tuple j;have d:=r.length;exact truthy_tuple o (by simp only[AR];lia) ⟨H,I.tok _,by rw[Dk r];exact q⟩
  .subst a;obtain⟨z,B,l,r,m⟩:c.length<=sizeLine/\(p == sysModules)=false/\∃l,KV c l/\s.heap.DictOf (C8 X.prog X.w) p l:=I.hok p _ j;have d:c.length=l.length:=Paired.length r;exact wpAny_truthy_dict B m (by lia) ⟨H,I.tok _,by rw[Mp r];exact q⟩
 | _=>exact(show False from e).elim
theorem Ur(d:PE X a ta)(e:∀b,isTrue a X.env b =(do let v <-b;standAt a.pos;holding [v] (truthy v))) :
  PT X a (λσ H Q=>ta σ H λx H'=>∃k,zFd X.K x H' k/\Q k H'):=by
 intro c s σ H Q I h;exact isTrue_plain (I7 (d c s σ H _ I h) λv f ⟨x,g,i,j,l⟩=>zCf c f σ g x v Q i j l) (e _)
theorem Np:KH X (binaryOp .Add) (λx y H Q=>∃i j,x = .str i/\y = .str j/\i.length+j.length<=sizeLine/\Q (.str (i++j)) H):=by
 intro a s σ H x y v u Q I b c h;obtain⟨i,j,rfl,rfl,d,q⟩:=h;obtain⟨t,rfl⟩:=b;obtain⟨e,rfl⟩:=c;exact add_str (λe f=>⟨.str (i++j),H,I.tok _,⟨_,rfl⟩,q⟩) d
theorem X4{x:V}{us:A0 A2}(r:IG [x] us):∃u,us = [u]/\RelV x u:=by
 cases r with
 | cons a b=>cases b;exact⟨_,rfl,a⟩
theorem zEg{x y:V}{us:A0 A2}(r:IG [x,y] us):∃u a,us = [u,a]/\RelV x u/\RelV y a:=by
 cases r with
 | cons b c =>
  cases c with
  | cons d e=>cases e;exact⟨_,_,rfl,b,d⟩
theorem Km:J9 X (.builtin "abs") (λxs H Q=>∃i,xs = [.int i]/\Q (.int (if i<0 then -i else i)) H):=by
 intro a s σ H xs b Q I r h;obtain⟨i,rfl,q⟩:=h;obtain⟨u,rfl,t,rfl⟩:=X4 r;exact call_abs_int λu c=>⟨.int (if i<0 then -i else i),H,I.tok _,⟨_,rfl⟩,q⟩
theorem Sl(c:X.calm=true):J9 X (.builtin "max") (λxs H Q=>∃i j,xs = [.int i,.int j]/\Q (.int (if j>i then j else i)) H):=by
 intro b s σ H xs d Q I r h;obtain⟨i,j,rfl,q⟩:=h;obtain⟨u,e,rfl,⟨t,rfl⟩,⟨f,rfl⟩⟩:=zEg r;refine max_two_ints (I.ok.hd c) λg l k=>⟨_,H,I.kept k,?_,q⟩;by_cases a:j>i
 .rw[AO a,AO a];exact⟨_,rfl⟩
 .rw[AI a,AI a];exact⟨_,rfl⟩
theorem Rv(c:X.calm=true):J9 X (.builtin "min") (λxs H Q=>∃i j,xs = [.int i,.int j]/\Q (.int (if j<i then j else i)) H):=by
 intro b s σ H xs d Q I r h;obtain⟨i,j,rfl,q⟩:=h;obtain⟨u,e,rfl,⟨t,rfl⟩,⟨f,rfl⟩⟩:=zEg r;refine min_two_ints (I.ok.hd c) λg l k=>⟨_,H,I.kept k,?_,q⟩;by_cases a:j<i
 .rw[AO a,AO a];exact⟨_,rfl⟩
 .rw[AI a,AI a];exact⟨_,rfl⟩
theorem Pr:J9 X (.type "int") (λxs H Q=>(∃i,xs = [.int i]/\Q (.int i) H)\/∃k,xs = [.bl k]/\Q (.int (if k then 1 else 0)) H):=by
 intro a s σ H xs c Q I r h;rcases h with⟨i,rfl,q⟩ | ⟨k,rfl,q⟩
 .obtain⟨u,rfl,t,rfl⟩:=X4 r;exact call_int_int ⟨.int i,H,I,⟨_,rfl⟩,q⟩
 .obtain⟨u,rfl,b⟩:=X4 r;cases b;exact call_int_bool ⟨.int (if k then 1 else 0),H,I.tok _,⟨_,rfl⟩,q⟩
end
structure QF(h:H_)(x dx C:A3)(mA:Str->A5 A2):Prop where
 obj:h.get? x=some (PySem.W.instObj C dx)
 ns:h.Ns1 dx mA
 ne:dx≠x
def Qc{h:H_}{c:A3}{d:Str->A5 A2}(n:h.Ns1 c d):∃f,h.get? c=some f/\∀name,PySem.W.lookIn name f=some (d name):=by
 obtain⟨o,g,r,i,j,k,_,l⟩:=n;refine⟨o,i,λname=>?_⟩;have e:=l name;unfold nsFind findBy at e;rw[<-Array.find?_toList]at e;unfold PySem.W.lookIn;rw[j];dsimp only;split
 .rename_i y q;rw[q]at e;exact congrArg some e
 .rename_i q;rw[q]at e;have a:g.toList.any (·.refKey)=false:=by
   rw[List.any_eq_false];intro y m;obtain⟨z,t,b⟩:=k y (Array.mem_toList_iff.mp m);simp[DictEntry.refKey,b]
  have p:¬g.toList.any (·.refKey)=true:=by rw[a];exact BE
  rw[AI p];exact congrArg some e
def QF.look{h:H_}{x b C:A3}{c:Str->A5 A2}(I:QF h x b C c):∃a,PySem.W.InstAt h x (PySem.W.instObj C b) C (some a)/\∀name,PySem.W.lookIn name a=some (c name) :=
 let⟨a,d,e⟩:=Qc I.ns
 ⟨a,⟨I.obj,rfl,rfl,d⟩,e⟩
section
variable{prog:HU}{w:HW}{A:IA}{E:A2->A4->Prop}{s:A4}{K:VA}{x dx C f:A3}{mA:Str->A5 A2}{name:Str}{v:A2}
theorem Zm{a:Bool}{Q:A2->A4->Prop}(X:K.In s.heap)(I:QF s.heap x dx C mA)(c:PySem.W.plainGet K C name=true)(d:PySem.W.hasDictIn K C=true)
  (e:PySem.W.findIn K (.ref C) name=some none) (f:mA name=some v) (b:PySem.W.handedIn v=true) (h:Q v { s with toks:=s.toks+1 }) :
  wpAny (model prog w) A (getAttr (.ref x) name a) Q E s:=by
 obtain⟨i,J,g⟩:=I.look;exact PySem.W.get_value X J (PySem.W.plainGet_of c).1 (PySem.W.findObj_own d e rfl (by rw[g,f])) b h
theorem Wa{pl:Sem Bool}{Q:A2×A0 A2->A4->Prop}(X:K.In s.heap)(I:QF s.heap x dx C mA)(a:PySem.W.plainGet K C name=true)
  (b:PySem.W.findIn K (.ref C) name=some (some (.ref f))) (c:PySem.W.isFn K (.ref f)=true) (d:mA name=none) (h:Q (.ref f,[.ref x]) s) :
  wpAny (model prog w) A (getMethod (.ref x) name pl) Q E s:=by
 obtain⟨e,J,g⟩:=I.look;exact PySem.W.method_fn X J (PySem.W.plainGet_of a).1 (PySem.W.plainGet_of a).2 b (beq_iff_eq.mp c) (by show(PySem.W.lookIn name e).map (·.isSome)=some false;rw[g,d];rfl) h
theorem Zc{ns:A0 Str}{Q:Unit->A4->Prop}(X:K.In s.heap)(I:QF s.heap x dx C mA)
  (j:PySem.W.findIn K (.ref C) "__setattr__" = some (some (.builtin "object.__setattr__"))) (k:PySem.W.plainOver K C=true) (l:PySem.W.takerIn K C name=some none) (m:PySem.W.hasDictIn K C=true)
  (hw:PySem.Within mA ns) (hsz:ns.length<=sizeLine)
  (h:∀h',QF h' x dx C (λy=>if y=name then some v else mA y)->Heap.SameBut dx s.heap h'->Q () { s with heap:=h',toks:=s.toks+2 }) :
  wpAny (model prog w) A (setAttr (.ref x) name v) Q E s:=by
 obtain⟨t,J,u⟩:=I.look;refine PySem.W.set_plain X J j (PySem.W.osa_open (s:={ s with toks:=s.toks+1 }) (r:=none) X J k l λb=>?_);obtain⟨z,n,e⟩:=PySem.W.any_some m;have o:s.heap.get? x=some ⟨.ref C,some dx,.plain,#[]⟩:=I.obj;refine AA (AE (AA (AA (wpAny_loadPart o (AA (PySem.W.Looks.here (s:={ s with toks:=s.toks+1 }) (PySem.W.looks_clsIn X n) ?_))))));rw[e];refine AE (a:=some dx) (AA (AE (AA ?_)));refine wpAny_nsSet1 (s:={ s with toks:=s.toks+1 }) I.ns λh' c d=>?_;obtain⟨B,p,q,f,g,i⟩:=c.count (PySem.Within.cons name v hw);refine AA (wpAny_lookBehind f (by rw[g];exact pastItsLine_dict (VE i (by rw[BQ];lia))) ?_);exact AE (h _ ⟨(d.2 _ (Ne.symm I.ne)).trans I.obj,c,I.ne⟩ d)
theorem Vt{R:Result->A4->Prop}{vs:A0 A2}{b:A0 (Str×A2)}(X:K.In s.heap)(c:PySem.W.makesIn K C=true)
  (hi:PySem.W.findIn K (.ref C) "__init__" = some (some (.ref f))) (e:PySem.W.typeIn K (.ref f)=some (.type "function"))
  (h:codeAny (model prog w) (A.under (.builtin "type.__call__" ⟨.ref C::vs,b⟩)) (.call (.ref f) ⟨.ref (s.heap.objs.size+1)::vs,b⟩) (PySem.W.InitBack (s.heap.objs.size+1) R)
   { s with heap:=(s.heap.push PySem.W.emptyDict).push (PySem.W.instObj C s.heap.objs.size) }) :
  codeAny (model prog w) A (.call (.ref C) ⟨vs,b⟩) R s:=by
 obtain⟨i,g,d,t,os⟩:=s;exact PySem.W.make_core (PySem.W.makes_of X c) (PySem.W.looks_findIn X hi) (λa=>PySem.W.bind_fn X a e) (.inl rfl) h
end
def P9(f:Str)(v:V):A0 (Str×V)->A0 (Str×V)
 | []=>[(f,v)]
 | (g,x)::r=>if g=f then(g,v)::r else(g,x)::P9 f v r
def Bk(f g:Str)(v:V):∀c:A0 (Str×V),(P9 f v c).lookup g=if g=f then some v else c.lookup g
 | []=>by
  show List.lookup g [(f,v)]=_;by_cases h:g=f
  .have a:(g == f)=true:=beq_iff_eq.mpr h;simp only[List.lookup,a,AO h]
  .have a:(g == f)=false:=beq_eq_false_iff_ne.mpr h;simp only[List.lookup,a,AI h]
 | (k,x)::r=>by
  have d:=Bk f g v r;rw[show P9 f v ((k,x)::r) =(if k=f then(k,v)::r else(k,x)::P9 f v r)from rfl];by_cases b:k=f
  .rw[AO b];by_cases h:g=k
   .have a:(g == k)=true:=beq_iff_eq.mpr h;simp only[List.lookup,a,AO (h.trans b)]
   .have a:(g == k)=false:=beq_eq_false_iff_ne.mpr h;simp only[List.lookup,a,AI (λe:g=f=>h (e.trans b.symm))]
  .rw[AI b];by_cases h:g=k
   .have a:(g == k)=true:=beq_iff_eq.mpr h;simp only[List.lookup,a,AI (λe:g=f=>b (h.symm.trans e))]
   .have a:(g == k)=false:=beq_eq_false_iff_ne.mpr h;simp only[List.lookup,a];exact d
def By(f:Str)(v:V):∀a:A0 (Str×V),f∈(P9 f v a).map (·.1)/\∀g,g∈a.map (·.1)->g∈(P9 f v a).map (·.1)
 | []=>⟨by simp[P9],λg h=>by simp at h⟩
 | (k,x)::r=>by
  obtain⟨c,d⟩:=By f v r;rw[show P9 f v ((k,x)::r) =(if k=f then(k,v)::r else(k,x)::P9 f v r)from rfl];by_cases b:k=f
  .rw[AO b];subst b;exact⟨by simp,λg h=>by simpa using h⟩
  .rw[AI b];refine⟨?_,λg h=>?_⟩
   .rw[BM];exact AN _ c
   .rw[BM]at h⊢;rcases AW.mp h with e | e
    .exact AW.mpr (.inl e)
    .exact AN _ (d g e)
def Cc(f:Str)(v:V):∀a:A0 (Str×V),(P9 f v a).length<=a.length+1
 | []=>by simp[P9]
 | (k,x)::r=>by
  have c:=Cc f v r;rw[show P9 f v ((k,x)::r) =(if k=f then(k,v)::r else(k,x)::P9 f v r)from rfl];by_cases b:k=f
  .rw[AO b,BQ,BQ];lia
  .rw[AI b,BQ,BQ];lia
def LW.some_of{v:V}{o:A5 A2}(r:LW (some v) o):∃u,o=some u/\RelV v u:=by
 cases o with
 | none=>exact(show False from r).elim
 | some u=>exact⟨u,rfl,r⟩
def LW.none_of{o:A5 A2}(r:LW none o):o=none:=by
 cases o with
 | none=>rfl
 | some u=>exact(show False from r).elim
def Qf{v:V}{u:A2}(r:RelV v u):PySem.W.handedIn u=true:=by
 cases v with
 | non=>cases(show u=Value.none from r);rfl
 | bl b=>cases(show u=Value.bool b from r);rfl
 | int i=>obtain⟨t,e⟩:=(show ∃t,u=Value.int i t from r);cases e;rfl
 | str x=>obtain⟨t,e⟩:=(show ∃t,u=Value.str x t from r);cases e;rfl
 | byt b=>obtain⟨t,e⟩:=(show ∃t,u=Value.bytes b t from r);cases e;rfl
 | flt b=>obtain⟨t,e⟩:=(show ∃t,u=Value.float b t from r);cases e;rfl
 | ref a=>cases(show u=Value.ref a from r);rfl
 | ty n=>cases(show u=Value.type n from r);rfl
section
variable{P:HU}{w:HW}{H H':Hp}{h h':H_}{a C dx:A3}{fs fs':A0 (Str×V)}
theorem Fs(c:MX P w H h)(e:H a=some (.ins C dx fs)):∃b,QF h a dx C b/\(∀f,LW (fs.lookup f) (b f))/\PySem.Within b (fs.map (·.1))/\fs.length<=1000/\H dx=some (.own a):=by
 obtain⟨d,z,g,i,b,n,r,q⟩:=(show IR P w H h a (.ins C dx fs)from c a _ e);exact⟨b,⟨i,n,g⟩,r,q,z,d⟩
end
structure QO(K:VA)(C:A3):Prop where
 pg:PySem.W.plainGet K C Str.empty=true
 hd:PySem.W.hasDictIn K C=true
 po:PySem.W.plainOver K C=true
 sa:PySem.W.findIn K (.ref C) "__setattr__" = some (some (.builtin "object.__setattr__"))
def QO.get{K:VA}{C:A3}(c:QO K C)(f:Str):PySem.W.plainGet K C f=true:=c.pg
def JG(K:VA)(C:A3)(f:Str):Prop:=PySem.W.findIn K (.ref C) f=some none
def JG.taker{K:VA}{C:A3}{f:Str}(n:JG K C f):PySem.W.takerIn K C f=some none:=by
 unfold PySem.W.takerIn;rw[show PySem.W.findIn K (.ref C) f=some none from n];rfl
structure QG(K:VA)(C:A3)(m:Str)(f:A3):Prop where
 at_:PySem.W.findIn K (.ref C) m=some (some (.ref f))
 fn:PySem.W.isFn K (.ref f)=true
 kp:PySem.W.keepIn K (.ref f)=true
section
variable{X:Cx}{pins:A0 (A3×Obj)}{σ:St}{H:Hp}{s:A4}{a C dx:A3}{fs:A0 (Str×V)}{f:Str}{v:V}{A:IA}{E:A2->A4->Prop}
theorem Ng{b:Bool}{Q:A2->A4->Prop}(I:Inv X pins σ H s)(e:H a=some (.ins C dx fs))(c:QO X.K C)(n:JG X.K C f)(l:fs.lookup f=some v)
  (h:∀u d,Inv X pins σ H d->RelV v u->Q u d):wpAny (model X.prog X.w) A (getAttr (.ref a) f b) Q E s:=by
 obtain⟨i,O,r,_,_,_⟩:=Fs I.hok e;obtain⟨u,j,g⟩:=LW.some_of (v:=v) (o:=i f) (by rw[<-l];exact r f);exact Zm I.kIn O (c.get f) c.hd n j (Qf g) (h u _ (I.tok _) g)
theorem t8{m:Str}{g:A3}{pl:Sem Bool}{Q:A2×A0 A2->A4->Prop}(I:Inv X pins σ H s)(e:H a=some (.ins C dx fs))(c:QO X.K C)(k:QG X.K C m g)(l:fs.lookup m=none)
  (h:Q (.ref g,[.ref a]) s):wpAny (model X.prog X.w) A (getMethod (.ref a) m pl) Q E s:=by
 obtain⟨b,O,r,_,_,_⟩:=Fs I.hok e;have d:b m=none:=LW.none_of (by rw[<-l];exact r m);exact Wa I.kIn O (c.get m) k.at_ k.fn d h
theorem Nf{y:V}{u:A2}{Q:Unit->A4->Prop}(I:Inv X pins σ H s)(e:H a=some (.ins C dx fs))(c:QO X.K C)(n:JG X.K C f)(J:fs.length<1000)(m:RelV y u)
  (h:∀i,Inv X pins σ (HX H a (.ins C dx (P9 f y fs))) i->Q () i):wpAny (model X.prog X.w) A (setAttr (.ref a) f u) Q E s:=by
 obtain⟨j,O,r,k,_,l⟩:=Fs I.hok e;have p:(fs.map (·.1)).length<=sizeLine:=by rw[AB,sizeLine_eq];lia
 refine Zc I.kIn O c.sa c.po n.taker c.hd k p λt d v=>h _ ?_;have B:∃o,t.get? dx=some o:=let⟨o,_,_,D,_⟩:=d.ns;⟨o,D⟩;refine I.write (x:=a) (e:=dx) (by rw[e];exact VC) (.inr l) (λb q F z=>(v.2 b F).trans z) B ?_;refine⟨by rw[B7 O.ne];exact l,?_,O.ne,d.obj,_,d.ns,λg=>?_,λg G=>?_⟩
 .have:=Cc f y fs;lia
 .show LW ((P9 f y fs).lookup g) (if g=f then some u else j g);rw[Bk];by_cases q:g=f
  .rw[AO q,AO q];exact m
  .rw[AI q,AI q];exact r g
 .by_cases q:g=f
  .rw[q];exact(By f y fs).1
  .refine(By f y fs).2 g (k g λz=>G ?_);show(if g=f then some u else j g)=none;rw[AI q];exact z
theorem Inv.made(I:Inv X pins σ H s):Inv X pins σ (HX (HX H s.heap.objs.size (.own (s.heap.objs.size+1))) (s.heap.objs.size+1) (.ins C s.heap.objs.size []))
  { s with heap:=(s.heap.push PySem.W.emptyDict).push (PySem.W.instObj C s.heap.objs.size) }:=by
 have c:(s.heap.push PySem.W.emptyDict).get? s.heap.objs.size=some PySem.W.emptyDict:=AY s.heap rfl;have f:((s.heap.push PySem.W.emptyDict).push (PySem.W.instObj C s.heap.objs.size)).get? (s.heap.objs.size+1)=some (PySem.W.instObj C s.heap.objs.size):=by
  have:=AY (s.heap.push PySem.W.emptyDict) (o:=PySem.W.instObj C s.heap.objs.size) rfl
  rwa [CQ]at this
 have g:(s.heap.push PySem.W.emptyDict).Ns s.heap.objs.size (λ_=>none):=⟨PySem.W.emptyDict,#[],_,c,rfl,(λe h=>absurd h (by simp)),λ_=>rfl⟩;have i:=I.laid (a:=s.heap.objs.size) (o:=.own (s.heap.objs.size+1)) (h':=s.heap.push PySem.W.emptyDict) (t':=s.toks) (λb u q=>AD _ q) (VD _) ⟨_,c⟩;refine i.laid (a:=s.heap.objs.size+1) (o:=.ins C s.heap.objs.size []) (t':=s.toks) (λb u q=>AD _ q) (VF (CQ _ _)) ?_;have d:s.heap.objs.size≠s.heap.objs.size+1:=BA (EI _);refine⟨by rw[B7 d,A7],BP _,d,f,λ_=>none,(Heap.Ns1.of_empty g).at λo q=>AD _ q,λ_=>VC,λy j=>absurd rfl j⟩
theorem Yj{prog:HU}{w:HW}{a:QQ}{e:IB}{f:Str}{b:Pos}{s:A4}{Q:A2->A4->Prop}(c:attributeBase e f a (eval e a)=eval e a)
  (h:wpAny (model prog w) A (eval e a) (λo h0=>wpAny (model prog w) A (getAttr o f true) Q E h0) E s):wpAny (model prog w) A (eval (.Attribute e f b) a) Q E s :=
 Attribute_any_ h (by rw[arm_eval_Attribute,c])
end
def zGm(K:VA)(d:TE)(f:Str):TE:=λσ H Q=>d σ H λx b=>∃a C e c v,x = .ref a/\b a=some (.ins C e c)/\QO K C/\JG K C f/\c.lookup f=some v/\Q v b
def zGo(K:VA)(e g:TE)(f:Str):TS:=λD σ H=>g σ H λy h=>e σ h λx c=>∃a C d b,x = .ref a/\c a=some (.ins C d b)/\QO K C/\JG K C f/\b.length<1000 /\
 D.nx σ (HX c a (.ins C d (P9 f y b)))
section
variable{X:Cx}{o e value:IB}{f:Str}{pos pos' tpos:Pos}{ta tv:TE}
theorem zCb(d:PE X e ta)(g:attributeBase e f X.env (eval e X.env)=eval e X.env):PE X (.Attribute e f pos) (zGm X.K ta f):=by
 intro b s σ H Q I h;refine Yj g (I7 (d b s σ H _ I h) λu t ⟨x,i,j,k,a,C,w,y,v,m,o,c,n,l,q⟩=>?_);subst m;obtain rfl:u=Value.ref a:=k;exact Ng j o c n l λz A p r=>⟨v,i,p,r,q⟩
theorem zEd(d:PE X o ta)(e:PE X value tv)(g:swapsWith value (some (.Attribute o f pos')) pos.line X.env=pure false):PS X (.Assign [.Attribute o f pos'] value pos) (zGo X.K ta tv f):=by
 intro b s σ H D I h;refine plainObj_wpAny_Assign_Attribute (I7 (e b s σ H _ I h) λu i ⟨y,j,k,m,q⟩=>I7 (d b i σ j _ k q) λp B ⟨x,E,r,t,a,C,F,G,v,w,c,n,l,z⟩=>?_) g;subst v;obtain rfl:p=Value.ref a:=t;exact Nf r w c n l m λJ A=>⟨σ,_,A,z⟩
end
section
variable{X:Cx}{pins:A0 (A3×Obj)}{σ:St}{H:Hp}{s:A4}{A:IA}{E:A2->A4->Prop}{Q:A2->A4->Prop}{c:A2}{b:Bool}
inductive MD(K:VA)(H:Hp):V->A2->Prop where
 | non:MD K H .non (.type "NoneType")
 | bl (x:Bool):MD K H (.bl x) (.type "bool")
 | int (i:Int):MD K H (.int i) (.type "int")
 | str (x:Str):MD K H (.str x) (.type "str")
 | flt (x:UInt64):MD K H (.flt x) (.type "float")
 | lst {a:A3} {xs:A0 V} (e:H a=some (.lst xs)):MD K H (.ref a) (.type "list")
 | frz {a:A3} {o:Obj} {xs:A0 V} (e:H a=some (.frz o (.lst xs))):MD K H (.ref a) (.type "list")
 | tup {a:A3} {xs:A0 V} (e:H a=some (.tup xs)):MD K H (.ref a) (.type "tuple")
 | dK {a:A3} {kvs:A0 (IM×V)} (e:H a=some (.dK kvs)):MD K H (.ref a) (.type "dict")
 | dT {a:A3} {kvs:A0 (A0 IM×V)} (e:H a=some (.dT kvs)):MD K H (.ref a) (.type "dict")
 | ins {a C dx:A3} {fs:A0 (Str×V)} (e:H a=some (.ins C dx fs)) (cl:QO K C) (ha:PySem.W.findIn K (.ref C) "__class__" = some (some (.builtin "object.__class__")))
   (hn:PySem.W.specialIn K (.builtin "object.__class__") "__get__" = some (some (.builtin "getset_descriptor.__get__"))) (htk:PySem.W.takesIn K (.builtin "object.__class__")=some true)
   (hm:PySem.W.mroIn K C (.type "object")=some true):MD K H (.ref a) (.ref C)
theorem Qj{x:V}{u t:A2}(I:Inv X pins σ H s)(d:RelV x u)(ty:MD X.K H x t)(e:PySem.W.kitOne X.K t c=some b)(h:∀v,Q (.bool b) { s with toks:=v }) :
  wpAny (model X.prog X.w) A (call (.builtin "isinstance") [u,c]) Q E s:=by
 cases ty with
 | non=>cases(show u=Value.none from d);exact VQ PySem.W.kitx_none I.kIn VC e (λz=>nomatch z) h
 | bl y=>cases(show u=Value.bool y from d);exact VQ PySem.W.kitx_bool I.kIn VC e (λz=>nomatch z) h
 | int i=>obtain⟨t,q⟩:=(show ∃t,u=Value.int i t from d);cases q;exact VQ PySem.W.kitx_int I.kIn VC e (λz=>nomatch z) h
 | str y=>obtain⟨t,q⟩:=(show ∃t,u=Value.str y t from d);cases q;exact VQ PySem.W.kitx_str I.kIn VC e (λz=>nomatch z) h
 | flt y=>obtain⟨t,q⟩:=(show ∃t,u=Value.float y t from d);cases q;exact VQ PySem.W.kitx_float I.kIn VC e (λz=>nomatch z) h
 | @lst a k f =>
  cases(show u=Value.ref a from d);obtain⟨_,_,n,_,g⟩:=(show IR X.prog X.w H s.heap a (.lst k)from I.hok a _ f);exact VQ PySem.W.kitx_list I.kIn ⟨_,g,rfl⟩ e (λz=>nomatch z) h
 | @frz a B k f =>
  cases(show u=Value.ref a from d);obtain⟨_,_,_,n,_,g⟩:=(show IR X.prog X.w H s.heap a (.frz B (.lst k))from I.hok a _ f);exact VQ PySem.W.kitx_list I.kIn ⟨_,g,rfl⟩ e (λz=>nomatch z) h
 | @tup a k f =>
  cases(show u=Value.ref a from d);obtain⟨_,_,_,p⟩:=(show IR X.prog X.w H s.heap a (.tup k)from I.hok a _ f);obtain⟨o,g,l,_⟩:=p;exact VQ PySem.W.kitx_tuple I.kIn ⟨o,g,l⟩ e (λz=>nomatch z) h
 | @dK a j f =>
  cases(show u=Value.ref a from d);obtain⟨_,_,N,_,p⟩:=(show IR X.prog X.w H s.heap a (.dK j)from I.hok a _ f);obtain⟨o,D,F,g,l,_⟩:=p;exact VQ PySem.W.kitx_dict I.kIn ⟨o,g,l.1⟩ e (λz=>nomatch z) h
 | @dT a j f =>
  cases(show u=Value.ref a from d);obtain⟨_,_,k,_,o,D,F,g,l,_⟩:=(show IR X.prog X.w H s.heap a (.dT j)from I.hok a _ f);exact VQ PySem.W.kitx_dict I.kIn ⟨o,g,l.1⟩ e (λz=>nomatch z) h
 | @ins a C P R f r G L m M =>
  cases(show u=Value.ref a from d);obtain⟨S,O,_⟩:=Fs I.hok f;obtain⟨T,J,_⟩:=O.look;exact VQ (PySem.W.kitx_own (r.get _) r.hd G L m M) I.kIn J e (λz=>nomatch z) h
end
structure JT(k:Nat)(A:IA):Prop where
 hd:A.handled=none
 dp:A.depth+3*k+5<recursionLimit
 un:A.units+16*k+200<cLine
def JT.mono{j k:Nat}{A:IA}(r:JT k A)(h:j<=k):JT j A:=⟨r.hd,by have:=r.dp;lia,by have:=r.un;lia⟩
def JT.deeper{k:Nat}{A:IA}(r:JT (k+1) A)(a:QQ):JT k (A.deeper a) :=
 ⟨r.hd,by have:=r.dp;show A.depth+1+3*k+5<_;lia,by have:=r.un;show A.units+3+16*k+200<_;lia⟩
def Nv{A:IA}{C:A3}{us:A0 A2}{a:A0 (Str×A2)}:(A.under (.builtin "type.__call__" ⟨.ref C::us,a⟩)).depth=A.depth+1:=by
 first | rfl | simp[Around.under,Code.weight,Code.isCreation,Code.isGuard,Code.isCaller,Code.frames,Code.isFrame,guardIds]
def Om{A:IA}{C:A3}{us:A0 A2}{a:A0 (Str×A2)}:(A.under (.builtin "type.__call__" ⟨.ref C::us,a⟩)).units=A.units+1:=by
 first | rfl | simp[Around.under,Code.cUnits,Code.frames,Code.isFrame]
def JT.make{k:Nat}{A:IA}(r:JT (k+1) A)(C:A3)(us:A0 A2)(a:A0 (Str×A2)):JT k (A.under (.builtin "type.__call__" ⟨.ref C::us,a⟩)) :=
 ⟨r.hd,by have:=r.dp;rw[Nv];lia,by have:=r.un;rw[Om];lia⟩
def JT.depth{k:Nat}{A:IA}(r:JT k A):A.depth<recursionLimit:=by have:=r.dp;lia
def JT.units{k:Nat}{A:IA}(r:JT k A):A.units+64<cLine:=by have:=r.un;lia
def Ip:TA:=λ_ H Q=>Q [] H
def V4(a:TE)(b:TA):TA:=λσ H Q=>a σ H λx c=>b σ c λd e=>Q (x::d) e
section
variable{X:Cx}{e:IB}{es:A0 IB}{te:TE}{t:TA}{pos:Pos}
theorem A8:PA X [] Ip:=λ_ _ _ _ H Q I h=>Calls.spliced_nil ⟨[],H,I,.nil,h⟩
theorem A6(b:PE X e te)(c:PA X es t)(d:starEach (e::es) X.env =(false,eval e X.env)::starEach es X.env:=by rfl):PA X (e::es) (V4 te t):=by
 intro pos a s σ H Q I h;rw[d];show wpAny _ _ (spliced ((false,eval e X.env)::backTo pos (starEach es X.env))) _ _ s;refine Calls.spliced_cons (I7 (b a s σ H _ I h) λu f ⟨x,g,i,j,k⟩=>?_);exact I7 (c pos a f σ g _ i k) λq r ⟨l,m,n,o,p⟩=>⟨x::l,m,n,.cons j o,p⟩
def zEk(t:TA):TE:=λσ H Q=>t σ H λa b=>a.length<=sizeLine/\∀p,b p=none->Q (.ref p) (HX b p (.tup a))
def SX(t:TA):TE:=λσ H Q=>t σ H λa b=>a.length<=sizeLine/\∀p,b p=none->Q (.ref p) (HX b p (.lst a))
theorem J5{g}(h:PA X es t):PE X (.Tuple es g pos) (zEk t):=by
 intro a s σ H Q I i;refine wpAny_Tuple_spliced (I7 (h pos a s σ H _ I i) λj c ⟨k,d,f,r,z,q⟩=>⟨by rw[<-r.length];exact z,?_⟩);have l:d c.heap.objs.size=none:=f.hok.fresh (VD _);refine⟨.ref c.heap.objs.size,HX d c.heap.objs.size (.tup k),f.laid (t':=c.toks) (λb u e=>AD _ e) (VD _) ?_,rfl,q _ l⟩;exact⟨z,j,r,⟨_,AY _ rfl,rfl,_,rfl⟩⟩
theorem E7(h:PA X es t):PE X (.List es pos) (SX t):=by
 intro a s σ H Q I g;refine wpAny_List_spliced (I7 (h pos a s σ H _ I g) λi c ⟨j,d,f,r,z,q⟩=>⟨by rw[<-r.length];exact z,?_⟩);have k:d c.heap.objs.size=none:=f.hok.fresh (VD _);refine⟨.ref c.heap.objs.size,HX d c.heap.objs.size (.lst j),f.laid (t':=c.toks) (λb u e=>AD _ e) (VD _) ?_,rfl,q _ k⟩;exact⟨z,i,0,r,AY _ rfl⟩
end
abbrev Sp:=A0 V->Hp->VK->XK->Prop
abbrev QR:=A0 QQ->Hp->A4->XK->A2->A4->Prop
structure QH(P:HU)(w:HW)(K:VA)(mg:Str->A5 A2)(base:H_)(A:IA)(outer:A0 QQ)(s:A4)(H:Hp):Prop where
 frames:A.frames=some outer
 mod:Mod K mg base
 bs:∀b o,base.get? b=some o->s.heap.get? b=some o/\H b=none
 bsz:base.objs.size<=s.heap.objs.size
 funs:s.heap.FunFrames base outer
 frf:∀b∈NV outer,H b=none
 hok:MX P w H s.heap
 bare:AllBare s.gens
def CE(a:A0 QQ)(P:HU)(w:HW)(H:Hp)(s:A4)(Q:VK)(u:A2)(b:A4):Prop :=
 ∃v c,b.os=s.os/\AllBare b.gens/\Un (NV a) [] H c s.heap b.heap/\MX P w c b.heap/\RelV v u/\Q v c
def CR(CX:QR)(a:A0 QQ)(P:HU)(w:HW)(H:Hp)(s:A4)(Q:VK)(E:XK)(r:Result)(b:A4):Prop :=
 match r with
 | .ok (.ret u)=>CE a P w H s Q u b
 | .ok _=>False
 | .error e=>CX a H s E e b
structure II(P:HU)(w:HW)(K:VA)(mg:Str->A5 A2)(base:H_)(CX:QR)(k:Nat)(f:A3)(fd:IT)(ps:A0 Str)(sp:Sp):Prop where
 len:∀vs H Q E,sp vs H Q E->vs.length=ps.length
 run:∀(A:IA) (outer:A0 QQ) (s:A4) (H:Hp) (args:Args) (us:A0 A2) (vs:A0 V) (Q:VK) (E:XK),JT k A->QH P w K mg base A outer s H->BindsTo s fd args (ps.zip us)->IG vs us->sp vs H Q E ->
  codeAny (model P w) A (.call (.ref f) args) (CR CX outer P w H s Q E) s
def QH.make{P:HU}{w:HW}{K:VA}{c:Str->A5 A2}{b:H_}{A:IA}{a:A0 QQ}{s:A4}{H:Hp}(e:QH P w K c b A a s H)(C:A3)(us:A0 A2)(d:A0 (Str×A2)) :
  QH P w K c b (A.under (.builtin "type.__call__" ⟨.ref C::us,d⟩)) a s H:=⟨by first | exact e.frames | (simpa [Around.under,Code.envs,Code.isFrame,pushEnvs] using e.frames),e.mod,e.bs,e.bsz,e.funs,e.frf,e.hok,e.bare⟩
section
variable{X:Cx}{pins:A0 (A3×Obj)}{σ:St}{H:Hp}{s s':A4}
theorem Inv.env0(I:Inv X pins σ H s):QH X.prog X.w X.K X.mg X.base X.A X.stack s H :=
 ⟨I.ok.frames,I.ok.mod,I.bs,VE I.ok.bsz I.sz,I.stack,I.stkFree,I.hok,I.bare⟩
theorem Inv.after{Q:VK}{u:A2}(I:Inv X pins σ H s)(h:CE X.stack X.prog X.w H s Q u s'):EP X pins σ Q u s':=by
 obtain⟨v,f,os,a,i,c,r,q⟩:=h;obtain⟨j,g,d,t,e⟩:=s';obtain rfl:e=s.os:=os;exact⟨v,f,I.call (h':=j) (g':=g) (d':=d) (t':=t) (ch:=[]) i c a (λb z=>absurd z (by simp)),r,q⟩
end
def Rr(sp:Sp)(a:A0 V)(E:XK)(t:TA):TE:=λσ H Q=>t σ H λb c=>sp (b++a) c Q E
def Ye(C:A3)(m:Str)(sp:Sp)(b:A0 V)(E:XK)(e:TE)(t:TA):TE:=λσ H Q=>e σ H λx c=>∃a f d,x = .ref a/\c a=some (.ins C f d)/\d.lookup m=none /\
 t σ c λg h=>sp (x ::(g++b)) h Q E
def zFh(C:A3)(sp:Sp)(b:A0 V)(E:XK)(t:TA):TE:=λσ H Q=>t σ H λd c=>∀x a,c x=none->c a=none->a≠x ->
 sp (.ref x ::(d++b)) (HX (HX c a (.own x)) x (.ins C a [])) (λv e=>v = .non/\Q (.ref x) e) E
def Binds(K:VA)(c:IT)(ps:A0 Str)(b:A0 A2):Prop :=
 ∀(s:A4) (a:A0 A2),K.In s.heap->(a++b).length=ps.length->BindsTo s c ⟨a,[]⟩ (ps.zip (a++b))
def Binds.all{K:VA}{a:IT}{ps:A0 Str}(h:∀us:A0 A2,us.length=ps.length->bindArgs a ⟨us,[]⟩=pure (ps.zip us)):Binds K a ps []:=λs us _ b=>by
 rw[CC]at b⊢;exact .of_eq (h us b)
def Cq(CX:QR)(X:Cx)(E:XK):Prop:=∀(a:A0 (A3×Obj)) (σ:St) (H:Hp) (s:A4) (e:A2) (b:A4),Inv X a σ H s->CX X.stack H s E e b->X.xe e b
section
variable{X:Cx}{CX:QR}{k:Nat}{f C:A3}{fd:IT}{ps:A0 Str}{sp:Sp}{dvs:A0 V}{ds:A0 A2}{E:XK}{x m:Str}{p pos apos:Pos}{e o:IB}{es:A0 IB}{ta:TE}{t:TA}
theorem Rn{a:A0 (A3×Obj)}{σ:St}{H:Hp}{s:A4}{Q:VK}{us:A0 A2}{vs:A0 V}(F:II X.prog X.w X.K X.mg X.base CX k f fd ps sp)(d:JT k X.A)(g:Binds X.K fd ps ds)(i:IG dvs ds)(j:Cq CX X E)
  (I:Inv X a σ H s) (r:IG vs us) (h:sp (vs++dvs) H Q E):wpAny (model X.prog X.w) X.A (call (.ref f) us) (EP X a σ Q) X.xe s:=by
 have c:IG (vs++dvs) (us++ds):=r.append i;have l:(us++ds).length=ps.length:=by rw[<-c.length];exact F.len _ _ _ _ h
 refine wpAny_call (FJ (F.run X.A X.stack s H ⟨us,[]⟩ (us++ds) (vs++dvs) Q E d I.env0 (g s us I.kIn l) c h) λr m b=>?_);cases r with
 | error e=>exact j a σ H s e m I b
 | ok n =>
  cases n with
  | ret u=>exact I.after b
  | next=>exact VB b
  | brk=>exact VB b
  | cont=>exact VB b
theorem Zw(F:II X.prog X.w X.K X.mg X.base CX k f fd ps sp)(g:JT k X.A)(i:Gl X x)(j:X.mg x=some (.ref f))(l:PySem.W.keepIn X.K (.ref f)=true)(m:Binds X.K fd ps ds)(n:IG dvs ds)(o:Cq CX X E)
  (u:PA X (e::es) t) (b:(x ==("__debug__":Str))=false:=by decide) (v:starEach (e::es) X.env =(false,eval e X.env)::starEach es X.env:=by rfl) (c:(backTo pos (starEach es X.env)).any (·.1)=false:=by rfl) :
  PE X (.Call (.Name x p) (e::es) [] pos) (Rr sp dvs E t):=by
 intro a s σ H Q I h;refine FX (Fm I i j ?_ b);refine PySem.W.callWith_K (h₀:=X.base) I.ok.mod.kin l (I7 (u pos a s σ H _ I h) λy z ⟨B,C,d,r,q⟩=>⟨d.kIn,?_⟩) v c;exact Rn F g m n o d r q
theorem P2{pl:Sem Bool}(v:PE X o ta)(c:QO X.K C)(i:QG X.K C m f)(F:II X.prog X.w X.K X.mg X.base CX k f fd ps sp)(y:JT k X.A)(z:Binds X.K fd ps ds)(B:IG dvs ds)(D:Cq CX X E)(G:PA X (e::es) t)
  (d:starEach (e::es) X.env =(false,eval e X.env)::starEach es X.env:=by rfl) (g:(backTo pos (starEach es X.env)).any (·.1)=false:=by rfl)
  (J:eval (.Call (.Attribute o m apos) (e::es) [] pos) X.env =(do
   let j <-eval o X.env
   standAt apos.atName
   let(f,first) <-holding [j] (getMethod j m pl)
   callWith pos f first (backTo pos (starEach (e::es) X.env)) (backToKw pos (keywordEach [] X.env))):=by rfl) :
  PE X (.Call (.Attribute o m apos) (e::es) [] pos) (Ye C m sp dvs E ta t):=by
 intro b s σ H Q I h;refine PySem.W.methodCall_KW (pl:=pl) (I7 (v b s σ H _ I h) λu L ⟨x,M,n,N,a,S,T,O,P,l,q⟩=>?_) J;subst O;obtain rfl:u=Value.ref a:=N;refine t8 n P c i l ?_;refine PySem.W.callWith_K (first:=[.ref a]) (h₀:=X.base) I.ok.mod.kin i.kp (I7 (G pos b L σ M _ n q) λus U ⟨vs,V,p,r,R⟩=>⟨p.kIn,?_⟩) d g;exact Rn (us:=.ref a::us) (vs:=.ref a::vs) F y z B D p (.cons rfl r) R
theorem I0{pl:Sem Bool}(i:PE X o ta)(c:QO X.K C)(e:QG X.K C m f)(F:II X.prog X.w X.K X.mg X.base CX k f fd ps sp)(j:JT k X.A)(n:Binds X.K fd ps ds)(p:IG dvs ds)(r:Cq CX X E)
  (t:eval (.Call (.Attribute o m apos) [] [] pos) X.env =(do
   let g <-eval o X.env
   standAt apos.atName
   let(f,first) <-holding [g] (getMethod g m pl)
   callWith pos f first (backTo pos (starEach [] X.env)) (backToKw pos (keywordEach [] X.env))):=by rfl) :
  PE X (.Call (.Attribute o m apos) [] [] pos) (Ye C m sp dvs E ta Ip):=by
 intro b s σ H Q I h;refine PySem.W.methodCall_KW (pl:=pl) (I7 (i b s σ H _ I h) λu B ⟨x,D,d,v,a,G,J,y,z,l,q⟩=>?_) t;subst y;obtain rfl:u=Value.ref a:=v;refine t8 d z c e l ?_;exact PySem.W.callWith_K0 (first:=[.ref a]) d.kIn e.kp (Rn (us:=[.ref a]) (vs:=[.ref a]) F j n p r d (.cons rfl .nil) q)
structure Mk(K:VA)(C f:A3):Prop where
 makes:PySem.W.makesIn K C=true
 init:PySem.W.findIn K (.ref C) "__init__" = some (some (.ref f))
 fn:PySem.W.isFn K (.ref f)=true
 kp:PySem.W.keepIn K (.ref C)=true
theorem Vy{a:A0 (A3×Obj)}{σ:St}{H:Hp}{s:A4}{Q:VK}{us:A0 A2}{vs:A0 V}(M:Mk X.K C f)(F:II X.prog X.w X.K X.mg X.base CX k f fd ps sp)(j:JT (k+1) X.A)(l:Binds X.K fd ps ds)(m:IG dvs ds)
  (n:Cq CX X E) (I:Inv X a σ H s) (r:IG vs us)
  (h:∀x c,H x=none->H c=none->c≠x->sp (.ref x ::(vs++dvs)) (HX (HX H c (.own x)) x (.ins C c [])) (λv o=>v = .non/\Q (.ref x) o) E) :
  wpAny (model X.prog X.w) X.A (call (.ref C) us) (EP X a σ Q) X.xe s:=by
 have g:=h (s.heap.objs.size+1) s.heap.objs.size (I.hok.fresh (DM _)) (I.hok.fresh (VD _)) (BA (EI _));have d:=Inv.made (C:=C) I;have i:IG (V.ref (s.heap.objs.size+1) ::(vs++dvs)) (Value.ref (s.heap.objs.size+1) ::(us++ds)):=.cons rfl (r.append m);have p:(Value.ref (s.heap.objs.size+1)::us++ds).length=ps.length:=by
  have e:=i.length;rw[F.len _ _ _ _ g]at e;exact e.symm
 refine wpAny_call (Vt (f:=f) I.kIn M.makes M.init (beq_iff_eq.mp M.fn) (FJ (F.run _ X.stack _ _ ⟨Value.ref (s.heap.objs.size+1)::us,[]⟩ (Value.ref (s.heap.objs.size+1) ::(us++ds)) _ _ E (j.make C us [])
  (d.env0.make C us []) (l _ (Value.ref (s.heap.objs.size+1)::us) d.kIn p) i g) λr q b=>?_))
 cases r with
 | error e=>exact n a σ _ _ e q d b
 | ok t =>
  cases t with
  | ret u =>
   obtain⟨v,y,z,B,D,G⟩:=d.after b;subst D;exact⟨B,⟨V.ref (s.heap.objs.size+1),y,z,rfl,G⟩⟩
  | next=>exact VB b
  | brk=>exact VB b
  | cont=>exact VB b
theorem j7(M:Mk X.K C f)(F:II X.prog X.w X.K X.mg X.base CX k f fd ps sp)(g:JT (k+1) X.A)(i:Gl X x)(j:X.mg x=some (.ref C))(l:Binds X.K fd ps ds)(m:IG dvs ds)(n:Cq CX X E)
  (o:PA X (e::es) t) (b:(x ==("__debug__":Str))=false:=by decide) (u:starEach (e::es) X.env =(false,eval e X.env)::starEach es X.env:=by rfl) (c:(backTo pos (starEach es X.env)).any (·.1)=false:=by rfl) :
  PE X (.Call (.Name x p) (e::es) [] pos) (zFh C sp dvs E t):=by
 intro a s σ H Q I h;refine FX (Fm I i j ?_ b);refine PySem.W.callWith_K (h₀:=X.base) I.ok.mod.kin M.kp (I7 (o pos a s σ H _ I h) λv y ⟨z,B,d,r,q⟩=>⟨d.kIn,?_⟩) u c;exact Vy M F g l m n d r q
end
structure HZ(N P:A0 Str)(sc:KM):Prop where
 kind:sc.kind = .function
 co:sc.isCoroutine=false
 gen:sc.isGenerator=false
 nd:N.Nodup
 pre:N.take P.length=P
 par:∀x∈P,sc.names.lookup x=some .local\/sc.names.lookup x=some .cell
 nofree:∀y∈sc.names,y.2≠ .free
def Gm{kindOf:Str->A5 NW}{x:Str}:∀{a:A0 (Str×A2)} {m:Str->A5 A2},(∀v,(x,v)∉a)->bindL kindOf a m x=m x
 | [],_,_=>rfl
 | (n,v)::r,m,h=>by
  unfold bindL;rw[Gm λw b=>h w (AN _ b)];split
  .have:x≠n:=by rintro rfl;exact h v AZ
   simp[this]
  .rfl
def Ia{kindOf:Str->A5 NW}{x:Str}:∀{a:A0 (Str×A2)} {m:Str->A5 A2},(∀v,(x,v)∉a)->bindC kindOf a m x=m x
 | [],_,_=>rfl
 | (n,v)::r,m,h=>by
  unfold bindC;rw[Ia λw b=>h w (AN _ b)];split
  .rfl
  .have:x≠n:=by rintro rfl;exact h v AZ
   simp[this]
def Fy{kindOf:Str->A5 NW}{x:Str}{v:A2}:∀{P:A0 Str} {vs:A0 A2} {i:Nat} {m:Str->A5 A2},P.Nodup->P[i]?=some x->vs[i]?=some v->kindOf x=some .local ->
  bindL kindOf (P.zip vs) m x=some v
 | [],_,_,_,_,h,_,_=>by simp at h
 | _::_,[],_,_,_,_,h,_=>by simp at h
 | p::P,w::vs,0,m,c,a,b,d=>by
  simp at a b;subst a;subst b;show bindL kindOf ((p,w)::P.zip vs) m p=_;unfold bindL;rw[Gm λv e=>(CD.mp c).1 (List.of_mem_zip e).1,AO d];simp
 | p::P,w::vs,i+1,m,c,a,b,d=>by
  show bindL kindOf ((p,w)::P.zip vs) m x=_;unfold bindL;exact Fy (i:=i) (CD.mp c).2 (by simpa using a) (by simpa using b) d
def Hs{kindOf:Str->A5 NW}{x:Str}{v:A2}:∀{P:A0 Str} {vs:A0 A2} {i:Nat} {m:Str->A5 A2},P.Nodup->P[i]?=some x->vs[i]?=some v->kindOf x≠some .local ->
  bindC kindOf (P.zip vs) m x=some v
 | [],_,_,_,_,h,_,_=>by simp at h
 | _::_,[],_,_,_,_,h,_=>by simp at h
 | p::P,w::vs,0,m,c,a,b,d=>by
  simp at a b;subst a;subst b;show bindC kindOf ((p,w)::P.zip vs) m p=_;unfold bindC;rw[Ia λv e=>(CD.mp c).1 (List.of_mem_zip e).1,AI d];simp
 | p::P,w::vs,i+1,m,c,a,b,d=>by
  show bindC kindOf ((p,w)::P.zip vs) m x=_;unfold bindC;exact Hs (i:=i) (CD.mp c).2 (by simpa using a) (by simpa using b) d
def Eg(N:A0 Str)(vs:A0 V):St:=vs.map some++List.replicate (N.length-vs.length) none
def Yp(CX:QR)(P:HU)(w:HW)(K:VA)(mg:Str->A5 A2)(base:H_)(N:A0 Str)(b:Str)(a:KM)(f:A3)(d:A2)(A:IA)(outer:A0 QQ)(s:A4)(H:Hp)(E:XK):Cx where
 prog:=P
 w:=w
 K:=K
 mg:=mg
 base:=base
 A:=A.deeper (envOfC b a s.heap.objs.size f d)
 N:=N
 s₀:=s
 H₀:=H
 env:=envOfC b a s.heap.objs.size f d
 outer:=outer
 stack:=envOfC b a s.heap.objs.size f d::outer
 ex:=[]
 calm:=true
 fn:=λ_=>true
 pn:=[]
 xe:=λe g=>wpAny (model P w) (A.deeper (envOfC b a s.heap.objs.size f d)) (leaving (envOfC b a s.heap.objs.size f d) e) (λ_ c=>CX outer H s E e c) (λh c=>CX outer H s E h c) g
def Ks{a:KM}{n:Nat}{x:Str}(h:a.names.lookup x=some .cell):∃c,(cellsFrom n a.names []).lookup x=some c:=by
 have q:=PySem.W.cellsFrom_some a.names n [] (.inl h);exact FM.mp q
def Pw{CX:QR}{P:HU}{w:HW}{K:VA}{I:Str->A5 A2}{m:H_}{N ps:A0 Str}{j:Str}{d:KM}{f:A3}{D:A2}{A:IA}{g:A0 QQ}{s J:A4}{H:Hp}{E:XK}{us:A0 A2}{vs:A0 V}
  (S:HZ N ps d) (O:A.handled=none) (o:QH P w K I m A g s H) (U:vs.length=ps.length) (r:IG vs us)
  (x:InCallC s s.heap.objs.size (bindL (envOfC j d s.heap.objs.size f D).kindOf (ps.zip us) λ_=>none) (cellsFrom (s.heap.objs.size+1) d.names []) (bindC (envOfC j d s.heap.objs.size f D).kindOf (ps.zip us) λ_=>none) J) :
  Inv (Yp CX P w K I m N j d f D A g s H E) [] (Eg N vs) H J:=by
 have Q:ps.length<=N.length:=by have:=congrArg List.length S.pre;rw[A_]at this;lia
 obtain⟨F,X,rfl,L⟩:=x.done;have t:∀b:A3,b∉(Yp CX P w K I m N j d f D A g s H E).ex:=λb z=>absurd (show b∈([]:A0 A3)from z) (by simp);refine⟨⟨o.mod,S.kind,rfl,rfl,VD _,λy z c F l=>?_,λy hy=>?_,λy c _ h=>?_,λ_=>O,Around.frames_deeper o.frames,.inr ⟨rfl,rfl⟩,λb z=>absurd z (t b),o.bs,o.bsz,λb _ _=>t b,λb z=>absurd z (t b),o.funs,o.frf⟩,
  rfl,o.bare,Un.kept L,⟨_,x.toInCall.ns,λi y v F l Y=>?_⟩,λy c h=>⟨_,x.cell y c h⟩,o.hok.fresh (VD _),λy c h=>?_,λp B=>absurd (show p∈([]:A0 (A3×Obj))from B) (by simp),o.hok.kept L,?_⟩
 .exact name_of_addr x.apart (PySem.mem_of_lookup F) (PySem.mem_of_lookup l)
 .have hy:d.names.lookup y=some .cell\/d.names.lookup y=some .free:=hy;rcases hy with hy | hy
  .exact Ks hy
  .exact absurd rfl (S.nofree _ (PySem.mem_of_lookup hy))
 .exact DQ (x.above y c (PySem.mem_of_lookup h))
 .have G:i<vs.length:=by
   unfold Eg at l;by_cases G:i<vs.length
   .exact G
   .rw[GK (by simpa using G)]at l;rw[List.getElem?_replicate]at l;split at l<;>cases l
  have R:vs[i]?=some v:=by
   unfold Eg at l;rw[GR (by simpa using G),AH]at l;cases e:vs[i]? with
   | none=>rw[e]at l;cases l
   | some a=>rw[e]at l;cases l;rfl
  obtain⟨u,M,T⟩:=r.get R;have B:ps[i]?=some y:=by
   rw[<-S.pre,DK (by lia)];exact F
  have C:ps.Nodup:=by rw[<-S.pre];exact S.nd.sublist (ES _ _)
  refine⟨u,T,?_⟩;rcases S.par y (BB B)with k | k
  .exact .inl ⟨k,Fy C B M k⟩
  .obtain⟨c,e⟩:=Ks (n:=s.heap.objs.size+1) k;refine .inr ⟨.inl k,c,e,?_⟩;have q:=x.cell y c e;rw[Hs C B M (by show d.names.lookup y≠_;rw[k];decide)]at q;exact q
 .exact o.hok.fresh (DQ (x.above y c (PySem.mem_of_lookup h)))
 .unfold Eg;show _=N.length;rw[AS,AB,GG];lia
def zFn{CX:QR}{P:HU}{w:HW}{K:VA}{G:Str->A5 A2}{h:H_}{k:Nat}{f:A3}{name d:Str}{i:Arguments}{j:A0 IK}{a:KM}{X kV z Y g ct oc:A2}{Z od:A5 A3}
  {L:HS (A5 A2)} {N ps:A0 Str} {sp:Sp} (lk:K.lookup f=some ⟨oc,od,.func (PySem.W.fnOf name d i j a X kV z Y Z g ct),L⟩) (M:PySem.W.codeIn K g d=true) (S:HZ N ps a)
  (B:∀vs H Q E,sp vs H Q E->vs.length=ps.length)
  (l:∀(A:IA) (c:A0 QQ) (s:A4) (H:Hp) (vs:A0 V) (Q:VK) (E:XK),JT k (A.deeper (envOfC d a s.heap.objs.size f g))->sp vs H Q E ->
   ∃t,QE (Yp CX P w K G h N d a f g A c s H E) j t/\t { nx:=λ_ H'=>Q .non H',rt:=Q } (Eg N vs) H) :
  II P w K G h CX (k+1) f (PySem.W.fnOf name d i j a X kV z Y Z g ct) ps sp:=by
 refine⟨B,λA c s H args us vs Q E O C hb r D=>?_⟩;have hl:=B _ _ _ _ D;have KX:K.In s.heap:=C.mod.kin.keeps λb o e=>(C.bs b o e).1;have R:s.heap.NoLimit:=C.mod.nolimit.keeps λb o e=>(C.bs b o e).1;have m:∀y∈ps.zip us,a.names.lookup y.1=some .local\/(a.names.lookup y.1=some .cell/\((cellsFrom (s.heap.objs.size+1) a.names []).lookup y.1).isSome=true):=λ⟨n,v⟩ hy=>by
  rcases S.par n (List.of_mem_zip hy).1 with q | q
  .exact .inl q
  .exact .inr ⟨q,PySem.W.cellsFrom_some _ _ _ (.inl q)⟩
 refine codeAny_call_function O.depth (KX _ _ lk) rfl S.co S.gen rfl (PySem.W.codeRec_of KX M) (hb _ _ _ _ ?_);refine wpAny_newFunctionEnv_cells S.kind m λenv he s1 x=>?_;subst he;refine⟨R.keeps x.toInCall.keep,codeAny_func ?_⟩;obtain⟨t,ht,hq⟩:=l A c s H vs Q E (O.deeper _) D;have I:Inv (Yp CX P w K G h N d a f g A c s H E) [] (Eg N vs) H s1:=Pw S O.hd C hl r x;refine B_ (ht [] s1 (Eg N vs) H _ I hq) (λfl T p=>?_) λe T p=>p;have F:∀{σ':St} {H':Hp} {v:V} {u:A2},Inv (Yp CX P w K G h N d a f g A c s H E) [] σ' H' T->RelV v u->Q v H'->CE c P w H s Q u T :=
  fun{σ' H' v u} J U q=>⟨v,H',J.os,J.bare,J.base,J.hok,U,q⟩
 cases fl with
 | ret u =>
  obtain⟨v,σ',H',J,U,q⟩:=p;exact F J U q
 | next =>
  obtain⟨σ',H',J,q⟩:=p;exact F (v:=V.non) (u:=Value.none) J rfl q
 | brk =>
  obtain⟨_,_,_,q⟩:=p;exact VB q
 | cont =>
  obtain⟨_,_,_,q⟩:=p;exact VB q
section
variable{X:Cx}{x:Str}{p pos:Pos}{e:IB}{es:A0 IB}{t:TA}{id T:String}{r:A0 V->Hp->VK->Prop}
def SA(r:A0 V->Hp->VK->Prop)(t:TA):TE:=λσ H Q=>t σ H λa b=>r a b Q
theorem Wd(d:J9 X (.builtin id) r)(f:Gl X x)(g:X.mg x=none)(i:bootBuiltins x=some (.builtin id))(j:PA X (e::es) t)(k:x≠ "__name__":=by decide)(b:(x ==("__debug__":Str))=false:=by decide)
  (l:starEach (e::es) X.env =(false,eval e X.env)::starEach es X.env:=by rfl) (c:(backTo pos (starEach es X.env)).any (·.1)=false:=by rfl):PE X (.Call (.Name x p) (e::es) [] pos) (SA r t):=by
 intro a s σ H Q I h;refine FX (Ah I f g i ?_ k b);exact PyProof.Rows.callWith_builtin1 (I7 (j pos a s σ H _ I h) λm n ⟨o,q,u,v,w⟩=>d a n σ q o m Q u v w) l c
theorem Pp(d:J9 X (.type T) r)(f:Gl X x)(g:X.mg x=none)(i:bootBuiltins x=some (.type T))(j:PA X (e::es) t)(k:x≠ "__name__":=by decide)(b:(x ==("__debug__":Str))=false:=by decide)
  (l:starEach (e::es) X.env =(false,eval e X.env)::starEach es X.env:=by rfl) (c:(backTo pos (starEach es X.env)).any (·.1)=false:=by rfl):PE X (.Call (.Name x p) (e::es) [] pos) (SA r t):=by
 intro a s σ H Q I h;refine FX (Ah I f g i ?_ k b);exact VP (I7 (j pos a s σ H _ I h) λm n ⟨o,q,u,v,w⟩=>d a n σ q o m Q u v w) l c
theorem Di(c:J9 X (.type T) r)(d:Gl X x)(e:X.mg x=none)(f:bootBuiltins x=some (.type T))(g:x≠ "__name__":=by decide)(b:(x ==("__debug__":Str))=false:=by decide) :
  PE X (.Call (.Name x p) [] [] pos) (SA r Ip):=by
 intro a s σ H Q I h;refine FX (Ah I d e f ?_ g b);exact PyProof.Rows.callWith_type0 (c a s σ H [] [] Q I .nil h)
end
end L2
namespace HT
open PySem PyProof.Rows
section
variable{prog:HU}{w:HW}{A:IA}{E:A2->A4->Prop}{s:A4}
theorem RO{t b:A3}{vs a:A0 A2}{Q:A2->A4->Prop}(u:IsTup s.heap t vs.toArray)(v:IsTup s.heap b a.toArray)(k:vs≠[])
  (h1:a = []->Q (.ref t) s) (h2:a≠[]->Q (.ref s.heap.objs.size) { s with heap:=s.heap.push { cls:=.type "tuple",data:=.seq (vs++a).toArray } })
  (hsz:vs.length+a.length<=sizeLine):wpAny (model prog w) A (binaryOp .Add (.ref t) (.ref b)) Q E s:=by
 obtain⟨⟨cls,l,data,m⟩,i,o,n,p⟩:=id u;obtain⟨⟨q,d,data2,f⟩,c,g,r,h⟩:=id v;simp only at o p g h;subst o p g h;have e:vs.toArray++a.toArray =(vs++a).toArray:=by simp
 by_cases j:a = []
 .exact concat_meets ⟨_,i,rfl⟩ ⟨_,c,rfl⟩ noFill_tuple_add seq_tuple_add VN VO (PySem.F.args_tuple_add_2 _ _)
   (tuple_addW1 t b vs.toArray a.toArray n r l d m f (by simpa using k) (by simp[j])) ⟨i,c,h1 j⟩
 .refine concat_meets ⟨_,i,rfl⟩ ⟨_,c,rfl⟩ noFill_tuple_add seq_tuple_add VN VO (PySem.F.args_tuple_add_2 _ _)
   (tuple_addW2 t b vs.toArray a.toArray n r l d m f (by simpa using k) (by simpa using j) (by rw[AR,AR];exact hsz)) ⟨i,c,?_⟩
  rw[e];exact h2 j
def JL(n d:Nat):A5 Int->Nat
 | none=>d
 | some v=>if v<0 then(v +(n:Int)).toNat else min v.toNat n
theorem zDm(n d:Nat)(b:d<=n)(o:A5 Int):JL n d o<=n:=by
 cases o with
 | none=>exact b
 | some v =>
  show(if v<0 then(v +(n:Int)).toNat else min v.toNat n)<=n;by_cases a:v<0
  .rw[AO a];lia
  .rw[AI a];exact Nat.min_le_right _ _
theorem Qu(v:Int)(n d:Nat):(if v<0 then max (v +(n:Int)) 0 else min v (n:Int)) =((JL n d (some v):Nat):Int):=by
 show(if v<0 then max (v +(n:Int)) 0 else min v (n:Int)) =(((if v<0 then(v +(n:Int)).toNat else min v.toNat n):Nat):Int);by_cases a:v<0
 .simp only[AO a];lia
 .simp only[AI a];lia
theorem Nk(lo hi:A5 Int)(n:Nat):Builtin.Slice.sliceAdjust lo hi 1 (n:Int) =(((JL n 0 lo:Nat):Int),((JL n n hi:Nat):Int)):=by
 have a:¬((1:Int)<0):=by lia
 unfold Builtin.Slice.sliceAdjust;simp only[a,CO];refine Prod.ext ?_ ?_
 .cases lo with
  | none=>rfl
  | some v=>exact Qu v n 0
 .cases hi with
  | none=>rfl
  | some v=>exact Qu v n n
theorem Nu(i j:Nat):Builtin.Slice.slicePlaces (i:Int) (j:Int) 1=j-i:=by
 unfold Builtin.Slice.slicePlaces;have a:(1:Int)>0:=by lia
 simp only[a,GH,Int.ediv_one];split<;>lia
theorem Dy{v:A2}{o:A5 Int}{Q:A5 Int->A4->Prop}(p:IsPart v o)(h:Q o s):wpAny (model prog w) A (Builtin.Slice.slicePartIndex v) Q E s:=by
 cases p with
 | none=>exact slicePart_none h
 | int i t=>exact slicePart_int h
theorem V5{e:A3}{c d:A2}{lo hi:A5 Int}{n:Nat}{Q:Int×Int×Nat->A4->Prop}(f:s.heap.IsSliceOf e c d .none)(pl:IsPart c lo)(g:IsPart d hi)
  (h:Q (((JL n 0 lo:Nat):Int),1,JL n n hi-JL n 0 lo) s):wpAny (model prog w) A (Builtin.Slice.sliceApplied (.ref e) (pure (n:Int))) Q E s:=by
 obtain⟨os,a,i,b⟩:=id f;unfold Builtin.Slice.sliceApplied Builtin.Slice.sliceFields;refine AA (AA (CF a b (x:=c) rfl (AA (CF a b (x:=d) rfl (AA (CF a b (x:=.none) rfl (AE ?_)))))));refine AA (slicePart_none ?_);show wpAny _ _ (if((1:Int) == 0)=true then _ else _) _ _ s;rw[AI (by decide)];refine AA (Dy pl (AA (Dy g (AA (AE ?_)))));show wpAny _ _ (match Builtin.Slice.sliceAdjust lo hi 1 (n:Int)with | (lo,hi)=>pure (lo,(1:Int),Builtin.Slice.slicePlaces lo hi 1)) _ _ s;rw[Nk lo hi n];show wpAny _ _ (pure (((JL n 0 lo:Nat):Int),(1:Int),Builtin.Slice.slicePlaces ((JL n 0 lo:Nat):Int) ((JL n n hi:Nat):Int) 1)) _ _ s;rw[Nu];exact AE h
theorem Uh(xs:HS A2)(i k:Nat):((List.range k).filterMap λ(m:Nat)=>xs[((i:Int) +(m:Int)*1).toNat]?).toArray =((xs.toList.drop i).take k).toArray:=by
 have e:(λ(m:Nat)=>xs[((i:Int) +(m:Int)*1).toNat]?)=λm=>xs[i+m]?:=by
  funext m;have:((i:Int) +(m:Int)*1).toNat=i+m:=by lia
  rw[this]
 rw[e];have:=pick_run xs i k;rw[List.filterMap_map]at this;have a:((λx=>xs[x]?)∘λx=>i+x)=λm=>xs[i+m]?:=rfl;rw[a]at this;rw[this]
theorem NG{t c:A3}{items:HS A2}{i j:A2}{lo hi:A5 Int}{Q:A2->A4->Prop}(b:IsTup s.heap t items)(k:s.heap.IsSliceOf c i j .none)(pl:IsPart i lo)(l:IsPart j hi)
  (hw:¬(JL items.size 0 lo=0/\JL items.size items.size hi=items.size))
  (h:Q (.ref s.heap.objs.size) { s with heap:=s.heap.push { cls:=.type "tuple",data:=.seq ((items.toList.drop (JL items.size 0 lo)).take (JL items.size items.size hi-JL items.size 0 lo)).toArray } })
  (hsz:items.size<=sizeLine):wpAny (model prog w) A (getItem (.ref t) (.ref c)) Q E s:=by
 have a:sizeOk (.seq ((items.toList.drop (JL items.size 0 lo)).take (JL items.size items.size hi-JL items.size 0 lo)).toArray):=by
  show((items.toList.drop (JL items.size 0 lo)).take (JL items.size items.size hi-JL items.size 0 lo)).toArray.size<=sizeLine;rw[AR,A_,DJ,AX];lia
 have o:JL items.size items.size hi<=items.size:=zDm _ _ (VD _) hi;obtain⟨os,d,e,n⟩:=id k;have f:s.TypeIs (.ref c) "slice":=⟨os,d,e⟩;unfold getItem
 try with_reducible refine BO ?_
 first | refine AA (AE ?_) | skip
 refine AA (wpAny_sequenceKey b.typeIs (by decide) ?_);refine AA (CJ (name:=Str.ofString "__getitem__") b.typeIs PyProof.Rows.slot_tuple_getitem
  (CI PyProof.Rows.slot_tuple_getitem b.typeIs entry_tuple_getitem ?_ (args_tuple_getitem _ _)))
 show wpAny _ _ (Builtin.Tuple.tupleItemsOf (.ref t) >>= _) _ _ s;refine AA (tupleItemsOf_ b ?_);refine AA (EY f ?_);rw[AO (by decide)];refine AA (V5 k pl l ?_);have g:¬((((JL items.size 0 lo:Nat):Int) == 0 &&(1:Int) == 1 &&(JL items.size items.size hi-JL items.size 0 lo) == items.size)=true):=by
  intro q;rw[DB,DB]at q;have p:((JL items.size 0 lo:Nat):Int)=0:=eq_of_beq q.1.1;have r:JL items.size items.size hi-JL items.size 0 lo=items.size:=eq_of_beq q.2;exact hw ⟨by lia,by lia⟩
 show wpAny _ _ (if(((JL items.size 0 lo:Nat):Int) == 0 &&(1:Int) == 1 &&(JL items.size items.size hi-JL items.size 0 lo) == items.size)=true then _ else _) _ _ s;rw[AI g,Uh]
 first
  | exact AA (m:=Builtin.Tuple.tupleExact _) (BU (AE ⟨_,rfl,AE h⟩) a)
  | exact AA (m:=Builtin.Tuple.tupleExact _) (BU (AA (AE (AE ⟨_,rfl,AE h⟩))) a)
  | exact AA (AA (m:=Builtin.Tuple.tupleExact _) (BU (AE (AE ⟨_,rfl,AE h⟩)) a))
  | exact AA (AA (m:=Builtin.Tuple.tupleExact _) (BU (AE ⟨_,rfl,AE h⟩) a))
end
end HT
namespace L2
open PySem PySem.Spec PyProof.Rows
abbrev TO:=St->Hp->(A5 Int->Hp->Prop)->Prop
def PO(X:Cx)(e:A5 IB)(t:TO):Prop :=
 ∀(a:A0 (A3×Obj)) (s:A4) (σ:St) (H:Hp) (Q:A5 Int->Hp->Prop),Inv X a σ H s->t σ H Q ->
  wpAny (model X.prog X.w) X.A (evalPart e X.env) (λu c=>∃o b,Inv X a σ b c/\IsPart u o/\Q o b) X.xe s
def Sy:TO:=λ_ H Q=>Q none H
def zCh(t:TE):TO:=λσ H Q=>t σ H λx a=>∃i,x = .int i/\Q (some i) a
section
variable{X:Cx}{e:IB}{te:TE}{lo hi:A5 IB}{tl th:TO}{pos p2:Pos}
theorem w9:PO X none Sy:=by
 intro a s σ H Q I h;rw[evalPart_none];exact AE ⟨none,H,I,.none,h⟩
theorem w4(h:PE X e te):PO X (some e) (zCh te):=by
 intro a s σ H Q I b;rw[evalPart_some];refine I7 (h a s σ H _ I b) λu j ⟨x,c,d,f,g⟩=>?_;obtain⟨i,rfl,q⟩:=g;obtain⟨t,rfl⟩:=f;exact⟨some i,c,d,.int i t,q⟩
def RR(X:Cx)(r:V->A5 Int->A5 Int->Hp->VK->Prop):Prop :=
 ∀(a:A0 (A3×Obj)) (s:A4) (σ:St) (H:Hp) (x:V) (v b c:A2) (lo hi:A5 Int) (d:A3) (Q:VK),Inv X a σ H s->RelV x v->s.heap.IsSliceOf d b c .none->IsPart b lo->IsPart c hi->r x lo hi H Q ->
  ∃T id,typeLookup (.type T) "__getitem__" = pure (some (.builtin id))/\s.TypeIs v T/\wpAny (model X.prog X.w) X.A (getItem v (.ref d)) (EP X a σ Q) X.xe s
theorem RR.or{r b:V->A5 Int->A5 Int->Hp->VK->Prop}(h:RR X r)(h':RR X b):RR X (λx lo hi H Q=>r x lo hi H Q\/b x lo hi H Q):=by
 intro a s σ H x v c d lo hi e Q I f g i j q;rcases q with q | q
 .exact h a s σ H x v c d lo hi e Q I f g i j q
 .exact h' a s σ H x v c d lo hi e Q I f g i j q
def tSl(r:V->A5 Int->A5 Int->Hp->VK->Prop)(te:TE)(tl th:TO):TE:=λσ H Q=>te σ H λx a=>tl σ a λl b=>th σ b λu c=>r x l u c Q
theorem X9{r:V->A5 Int->A5 Int->Hp->VK->Prop}(f:RR X r)(g:PE X e te)(i:PO X lo tl)(j:PO X hi th):PE X (.Subscript e (.Slice lo hi none p2) pos) (tSl r te tl th):=by
 intro a s σ H Q I h;refine Subscript_ (I7 (g a s σ H _ I h) λv k ⟨x,m,n,o,p⟩=>?_);refine wpAny_Slice (I7 (i a k σ m _ n p) λc t ⟨l,y,z,B,C⟩=>I7 (j a t σ y _ z C) λvu s3 ⟨u,d,D,E,F⟩=>?_);rw[evalPart_none];refine AE ?_;have G:Inv X a σ d { s3 with heap:=s3.heap.push { cls:=.type "slice",data:=.fields #[c,vu,.none] } }:=D.kept (t':=s3.toks) λb M q=>AD _ q;obtain⟨T,id,J,K,L⟩:=f a { s3 with heap:=s3.heap.push { cls:=.type "slice",data:=.fields #[c,vu,.none] } } σ d x v c vu l u s3.heap.objs.size Q G o (Heap.IsSliceOf.new ..) B E F;show wpAny (model X.prog X.w) X.A (subscriptTail e (.Slice lo hi none p2) v (.ref s3.heap.objs.size)) (EP X a σ Q) X.xe { s3 with heap:=s3.heap.push { cls:=.type "slice",data:=.fields #[c,vu,.none] } };exact tail_any (ops:=[.ref s3.heap.objs.size,v]) K J L (by with_unfolding_all rfl)
def Hx(xs:A0 V)(lo hi:A5 Int):A0 V:=(xs.drop (HT.JL xs.length 0 lo)).take (HT.JL xs.length xs.length hi-HT.JL xs.length 0 lo)
theorem Iq(xs:A0 V)(lo hi:A5 Int):(Hx xs lo hi).length<=xs.length:=by
 unfold Hx;rw[A_,DJ];lia
def zEl(K:VA):V->A5 Int->A5 Int->Hp->VK->Prop:=λx lo hi H Q=>∃a b,x = .ref a/\IZ K H a b /\
 ¬(HT.JL b.length 0 lo=0/\HT.JL b.length b.length hi=b.length)/\∀p,H p=none->Q (.ref p) (HX H p (.tup (Hx b lo hi)))
theorem QS:RR X (zEl X.K):=by
 intro f s σ H x v t u lo hi w Q I j k l m h;obtain⟨a,d,rfl,n,p,q⟩:=h;cases j;obtain⟨e,r,g,i⟩:=I.tuple n;have c:e.toArray.size=d.length:=by rw[AR];exact r.length.symm
 refine⟨"tuple",_,PyProof.Rows.slot_tuple_getitem.lookup,g.typeIs,?_⟩;refine HT.NG g k l m (by rw[c];exact p) ?_ (by rw[c];exact i);rw[c];refine⟨.ref s.heap.objs.size,_,I.laid (t':=s.toks) (o:=.tup (Hx d lo hi)) (λb y q=>AD _ q) (VD _) ?_,rfl,q _ (I.hok.fresh (VD _))⟩;exact⟨VE (Iq d lo hi) i,_,(r.drop (HT.JL d.length 0 lo)).take (HT.JL d.length d.length hi-HT.JL d.length 0 lo),IsTup.new _ _⟩
def zEr(K:VA):R2:=λx y H Q=>∃a b d c,x = .ref a/\y = .ref b/\IZ K H a d/\IZ K H b c/\d≠[]/\d.length+c.length<=sizeLine /\
 (c = []->Q (.ref a) H)/\(c≠[]->∀p,H p=none->Q (.ref p) (HX H p (.tup (d++c))))
theorem IG.nil_iff{xs:A0 V}{us:A0 A2}(r:IG xs us):us = []↔xs = []:=by
 cases r with
 | nil=>simp
 | cons _ _=>simp
theorem Ym:KH X (binaryOp .Add) (zEr X.K):=by
 intro e s σ H x y v u Q I i j h;obtain⟨a,b,k,l,rfl,rfl,m,n,p,f,r,t⟩:=h;cases i;cases j;obtain⟨A,d,B,_⟩:=I.tuple m;obtain⟨g,c,p2,_⟩:=I.tuple n;refine HT.RO B p2 (λz=>p (d.nil_iff.mp z)) (λz=>⟨.ref a,H,I,rfl,r (c.nil_iff.mp z)⟩) (λz=>?_) (by rw[<-d.length,<-c.length];exact f);refine⟨.ref s.heap.objs.size,_,I.laid (t':=s.toks) (o:=.tup (k++l)) (λb C q=>AD _ q) (VD _) ?_,rfl,t (λw=>z (c.nil_iff.mpr w)) _ (I.hok.fresh (VD _))⟩;exact⟨by rw[AS];exact f,_,d.append c,IsTup.new _ _⟩
end
def RM(n:Nat)(i:Int):A5 Nat:=if 0<=i then(if i<n then some i.toNat else none)else if -(n:Int)<=i then some (i+n).toNat else none
def P6{α:Type}(xs:A0 α)(i:Int):A5 α:=(RM xs.length i).bind λj=>xs[j]?
def Tg{n:Nat}{i:Int}{j:Nat}(h:RM n i=some j):seqIndex? i n=some j/\j<n/\-(n:Int)<=i/\i<n:=by
 unfold RM at h;by_cases b:0<=i
 .rw[AO b]at h;by_cases a:i<n
  .rw[AO a]at h;have e:i.toNat=j:=BT h;exact⟨by rw[seqIndex_of b a,e],by lia,by lia,a⟩
  .rw[AI a]at h;cases h
 .rw[AI b]at h;by_cases a:-(n:Int)<=i
  .rw[AO a]at h;have e:(i+n).toNat=j:=BT h;exact⟨by rw[seqIndex_neg (by lia) a,e],by lia,a,by lia⟩
  .rw[AI a]at h;cases h
def Jn{α:Type}{xs:A0 α}{i:Int}{v:α}(h:P6 xs i=some v):∃j,seqIndex? i xs.length=some j/\xs[j]?=some v/\j<xs.length/\-(xs.length:Int)<=i/\i<xs.length:=by
 unfold P6 at h;cases e:RM xs.length i with
 | none=>rw[e]at h;cases h
 | some j =>
  rw[e]at h;obtain⟨a,b,c,d⟩:=Tg e;exact⟨j,a,h,b,c,d⟩
def Q5{α:Type}{xs:A0 α}{j:Nat}{v:α}(h:xs[j]?=some v):P6 xs (j:Int)=some v:=by
 have a:j<xs.length:=(AM.mp h).1;have e:RM xs.length (j:Int)=some j:=by
  unfold RM;rw[AO (by lia),AO (by lia)];simp
 unfold P6;rw[e];exact h
def Zl(b:IB):Prop:=∀o i,subscripted b false o i=operate [o,i] (getItem o i)
def TB(X:Cx)(r:R2):Prop :=
 ∀(c a:IB) (b:A0 (A3×Obj)) (s:A4) (σ:St) (H:Hp) (x y:V) (v u:A2) (Q:VK),Inv X b σ H s->RelV x v->RelV y u->r x y H Q ->
  subscripted a false v u=operate [v,u] (getItem v u)->wpAny (model X.prog X.w) X.A (subscriptTail c a v u) (EP X b σ Q) X.xe s
def MtR(X:Cx)(id:String)(r:V->A0 V->Hp->VK->Prop):Prop :=
 ∀(a:A0 (A3×Obj)) (s:A4) (σ:St) (H:Hp) (x:V) (b:A0 V) (v:A2) (c:A0 A2) (Q:VK),Inv X a σ H s->RelV x v->IG b c->r x b H Q ->
  wpAny (model X.prog X.w) X.A (call (.builtin id) (v::c)) (EP X a σ Q) X.xe s
section
variable{X:Cx}{a b:IB}{ta tb:TE}{pos:Pos}
theorem E6{r:R2}(d:TB X r)(e:PE X a ta)(f:PE X b tb)(g:Zl b):PE X (.Subscript a b pos) (ON r ta tb):=by
 intro c s σ H Q I h;exact Subscript_ (zFx e f I h λv u i x y j k l m q=>d a b c i σ j x y v u Q k l m q (g _ _))
def SV(K:VA):R2:=λx y H Q=>∃p a i v,x = .ref p/\y = .int i/\IC K H p a/\P6 a i=some v/\Q v H
def zGa(K:VA):R2:=λx y H Q=>∃p a i v,x = .ref p/\y = .int i/\IZ K H p a/\P6 a i=some v/\Q v H
def zHd:R2:=λx y H Q=>∃z i c,x = .str z/\y = .int i/\z.length<=sizeLine/\P6 z.cps.toList i=some c/\Q (.str ⟨#[c]⟩) H
theorem Yi:TB X (SV X.K):=by
 intro d e a s σ H x y v u Q I A B h m;obtain⟨p,M,i,z,rfl,rfl,C,D,q⟩:=h;cases A;obtain⟨t,rfl⟩:=B;obtain⟨f,r,g,N⟩:=I.list C;obtain⟨j,c,E,O,F,G⟩:=Jn D;obtain⟨w,n,k⟩:=r.get E;have J:=r.length;have P:=Br;have b:EP X a σ Q w s:=⟨z,H,I,k,q⟩;by_cases o:0<=i
 .have l:i.toNat=j:=by
   rw[seqIndex_of o G]at c;exact BT c
  exact item_listR g.isList o (by lia) (by rw[l];simpa using n) b m
 .have l:(i +(f.toArray.size:Int)).toNat=j:=by
   rw[seqIndex_neg (by lia) F]at c;rw[AR,<-J];exact BT c
  exact subscriptTail_builtinR (x:=w) g.isList.typeIs slot_list_getitem.lookup
   (wpAny_getItem_list_neg (Q:=λr L=>r=w/\EP X a σ Q r L) g.isList (by lia) (by rw[AR]<;>lia) (by lia) (by rw[l];simpa using n) ⟨rfl,b⟩) m
theorem zDu:TB X (zGa X.K):=by
 intro b c a s σ H x y v u Q I g k h l;obtain⟨p,F,i,z,rfl,rfl,m,n,q⟩:=h;cases g;obtain⟨t,rfl⟩:=k;obtain⟨o,r,f,G⟩:=I.tuple m;obtain⟨j,A,B,J,L,M⟩:=Jn n;obtain⟨w,C,d⟩:=r.get B;have D:=r.length;have N:=Br;have e:EP X a σ Q w s:=⟨z,H,I,d,q⟩;exact subscriptTail_builtinR (x:=w) f.typeIs slot_tuple_getitem.lookup
  (getItem_tuple (j:=j) (Q:=λr E=>r=w/\EP X a σ Q r E) f (by lia) (by lia) (by rw[AR,<-D];exact A) (by simpa using C) ⟨rfl,e⟩) l
theorem zCz:TB X zHd:=by
 intro a b d s σ H x y v u Q I f g h k;obtain⟨z,i,c,rfl,rfl,A,l,q⟩:=h;obtain⟨t,rfl⟩:=f;obtain⟨B,rfl⟩:=g;obtain⟨j,e,m,C,n,o⟩:=Jn l;have p:z.cps.toList.length=z.length:=by simp[Str.length]
 rw[p]at e n o;have D:=Br;exact tail_any (typeIs_str s z t) slot_str_getitem.lookup (getItem_str (c:=c) (by
  have r:decide (i < -(2^63:Int))=false:=AK (by lia);have w:decide (i ≥ 2^63)=false:=AK (by lia);rw[r,w,Bool.or_false]) (by rw[e];simpa using m) ⟨.str ⟨#[c]⟩,H,I.tok _,⟨_,rfl⟩,q⟩) k
theorem Oa(its:A0 A2)(n j:Nat)(u:A2):Obj.mapSeq (·.setIfInBounds j u) { cls:=.type "list",data:=.seq its.toArray n } ={ cls:=.type "list",data:=.seq (its.set j u).toArray n }:=by
 simp[Obj.mapSeq]
theorem Inv.lst{a:A0 (A3×Obj)}{σ:St}{H:Hp}{s:A4}{p:A3}{xs:A0 V}(I:Inv X a σ H s)(h:H p=some (.lst xs)) :
  ∃(its:A0 A2) (n:Nat),IG xs its/\s.heap.get? p=some { cls:=.type "list",data:=.seq its.toArray n }/\xs.length<=sizeLine:=by
 obtain⟨z,its,n,r,e⟩:=I.hok p _ h;exact⟨its,n,r,e,z⟩
theorem Inv.lstUpd{a:A0 (A3×Obj)}{σ:St}{H:Hp}{s:A4}{p:A3}{xs c:A0 V}{its its':A0 A2}{n d:Nat}{f:Obj->Obj}(I:Inv X a σ H s)(h:H p=some (.lst xs))
  (i:s.heap.get? p=some { cls:=.type "list",data:=.seq its.toArray n }) (g:f { cls:=.type "list",data:=.seq its.toArray n } ={ cls:=.type "list",data:=.seq its'.toArray d }) (r:IG c its') (hz:c.length<=sizeLine) (t:Nat) :
  Inv X a σ (HX H p (.lst c)) { s with heap:=s.heap.update p f,toks:=t }:=by
 have e:(s.heap.update p f).get? p=some { cls:=.type "list",data:=.seq its'.toArray d }:=by
  rw[BZ f i (by rw[g]<;>rfl),g]
 refine I.write (x:=p) (e:=p) (by rw[h];trivial) (.inl rfl) (λb u j q=>(BG _ _ (Ne.symm j)).trans q) ⟨_,e⟩ ?_;exact⟨hz,its',d,r,e⟩
def zEu:V->V->V->Hp->(Hp->Prop)->Prop:=λo i v H Q=>∃p a k j,o = .ref p/\i = .int k/\H p=some (.lst a)/\RM a.length k=some j/\Q (HX H p (.lst (a.set j v)))
theorem Av:zGl X zEu:=by
 intro a s σ H o i v E F u Q I y z A h;obtain⟨p,B,k,j,rfl,rfl,g,C,q⟩:=h;cases y;obtain⟨t,rfl⟩:=z;obtain⟨b,n,r,d,D⟩:=I.lst g;obtain⟨c,G,l,m⟩:=Tg C;have e:=r.length;have J:=Br;have w:Inv X a σ (HX H p (.lst (B.set j v))) { s with heap:=s.heap.update p (Obj.mapSeq (·.setIfInBounds j u)) } :=
  I.lstUpd g d (Oa b n j u) (r.set A j) (by rw[List.length_set];exact D) s.toks
 by_cases x:0<=k
 .have f:k.toNat=j:=by
   rw[seqIndex_of x m]at c;exact BT c
  exact PySem.W.ki_setAt d x (by lia) (by rw[AR,<-e];exact m) (by rw[f];exact⟨_,w,q⟩)
 .have f:(k +(b.toArray.size:Int)).toNat=j:=by
   rw[seqIndex_neg (by lia) l]at c;rw[AR,<-e];exact BT c
  exact PySem.W.ki_setBack d (by lia) (by rw[AR,<-e];exact l) (by lia) (by rw[f];exact⟨_,w,q⟩)
def Ey:V->Bool
 | .non=>true
 | .bl _=>true
 | .int _=>true
 | .str _=>true
 | _=>false
def RY:V->V->Bool
 | .non,.non=>true
 | .bl a,.bl b=>a == b
 | .bl a,.int b=>(if a then 1 else 0) == b
 | .int a,.bl b=>a ==(if b then 1 else 0)
 | .int a,.int b=>a == b
 | .str a,.str b=>a == b
 | _,_=>false
theorem zDr{A:IA}{s:A4}{y x:V}{u v:A2}(e:RelV y u)(c:RelV x v)(g:Ey y=true)(f:Ey x=true):SeqAt.EqAt A s u v (RY y x):=by
 cases y with
 | non =>
  cases e;cases x with
  | non=>cases c;exact SeqAt.EqAt.same _
  | bl b=>cases c;exact SeqAt.EqAt.none_bool b
  | int b=>obtain⟨t,rfl⟩:=c;exact SeqAt.EqAt.none_int b t
  | str b=>obtain⟨t,rfl⟩:=c;exact SeqAt.EqAt.none_str b t
  | _=>exact absurd (show false=true from f) BE
 | bl a =>
  cases e;cases x with
  | non=>cases c;exact SeqAt.EqAt.bool_none a
  | bl b=>cases c;exact SeqAt.EqAt.bool_bool a b
  | int b=>obtain⟨t,rfl⟩:=c;exact SeqAt.EqAt.bool_int a b t
  | str b=>obtain⟨t,rfl⟩:=c;exact SeqAt.EqAt.bool_str a b t
  | _=>exact absurd (show false=true from f) BE
 | int a =>
  obtain⟨d,rfl⟩:=e;cases x with
  | non=>cases c;exact SeqAt.EqAt.int_none a d
  | bl b=>cases c;exact SeqAt.EqAt.int_bool a d b
  | int b=>obtain⟨t,rfl⟩:=c;exact SeqAt.EqAt.int_int a d b t
  | str b=>obtain⟨t,rfl⟩:=c;exact SeqAt.EqAt.int_str a d b t
  | _=>exact absurd (show false=true from f) BE
 | str a =>
  obtain⟨d,rfl⟩:=e;cases x with
  | non=>cases c;exact SeqAt.EqAt.str_none a d
  | bl b=>cases c;exact SeqAt.EqAt.str_bool a d b
  | int b=>obtain⟨t,rfl⟩:=c;exact SeqAt.EqAt.str_int a d b t
  | str b=>obtain⟨t,rfl⟩:=c;exact SeqAt.EqAt.str_str a d b t
  | _=>exact absurd (show false=true from f) BE
 | _=>exact absurd (show false=true from g) BE
def QC(x:V)(u:A2):Bool:=match u with
 | .none=>RY .non x
 | .bool b=>RY (.bl b) x
 | .int i _=>RY (.int i) x
 | .str z _=>RY (.str z) x
 | _=>false
theorem Xj{x y:V}{u:A2}(r:RelV y u)(f:Ey y=true):QC x u=RY y x:=by
 cases y with
 | non=>cases r;rfl
 | bl b=>cases r;rfl
 | int i=>obtain⟨t,rfl⟩:=r;rfl
 | str z=>obtain⟨t,rfl⟩:=r;rfl
 | _=>exact absurd (show false=true from f) BE
theorem Cn{x:V}:∀{xs:A0 V} {us:A0 A2},IG xs us->xs.all Ey=true->us.any (QC x)=xs.any λy=>RY y x
 | _,_,.nil,_=>rfl
 | y::xs,u::us,.cons r t,f=>by
  rw[List.all_cons,DB]at f;rw[GE,GE,Xj r f.1,Cn t f.2]
theorem o8{A:IA}{s:A4}{x:V}{v:A2}(a:RelV x v)(b:Ey x=true):∀{xs:A0 V} {us:A0 A2},IG xs us->xs.all Ey=true->∀u∈us,SeqAt.EqAt A s u v (QC x u)
 | _,_,.nil,_=>λu hu=>by cases hu
 | y::xs,u::us,.cons r t,f=>λc hu=>by
  rw[List.all_cons,DB]at f;rcases AW.mp hu with rfl | hu
  .rw[Xj r f.1];exact zDr r a f.1 b
  .exact o8 a b t f.2 c hu
def inV(x:V)(xs:A0 V):Bool:=xs.any λy=>RY y x
def SD(K:VA)(neg:Bool):R2:=λx y H Q=>∃p a,y = .ref p/\(IC K H p a\/IZ K H p a)/\Ey x=true/\a.all Ey=true/\Q (.bl (if neg then !inV x a else inV x a)) H
theorem Ts:KH X (compareOp .In) (SD X.K false):=by
 intro e s σ H x y v u Q I f i h;obtain⟨p,k,rfl,hq,g,b,q⟩:=h;cases i;rcases hq with hq | hq
 .obtain⟨a,r,c,j⟩:=I.list hq;refine SeqAt.in_listAt (QC x) c.isList (λw d=>o8 f g r b w (by simpa using d)) ⟨.bl _,H,I,rfl,?_⟩;rw[show a.toArray.any (QC x)=a.any (QC x) by simp,Cn r b];exact q
 .obtain⟨a,r,c,j⟩:=I.tuple hq;refine SeqAt.in_tupleAt (QC x) c (λw d=>o8 f g r b w (by simpa using d)) ⟨.bl _,H,I,rfl,?_⟩;rw[show a.toArray.any (QC x)=a.any (QC x) by simp,Cn r b];exact q
theorem Hu:KH X (compareOp .NotIn) (SD X.K true):=by
 intro e s σ H x y v u Q I f i h;obtain⟨p,k,rfl,hq,g,b,q⟩:=h;cases i;rcases hq with hq | hq
 .obtain⟨a,r,c,j⟩:=I.list hq;refine SeqAt.notIn_listAt (QC x) c.isList (λw d=>o8 f g r b w (by simpa using d)) ⟨.bl _,H,I,rfl,?_⟩;rw[show a.toArray.any (QC x)=a.any (QC x) by simp,Cn r b];exact q
 .obtain⟨a,r,c,j⟩:=I.tuple hq;refine SeqAt.notIn_tupleAt (QC x) c (λw d=>o8 f g r b w (by simpa using d)) ⟨.bl _,H,I,rfl,?_⟩;rw[show a.toArray.any (QC x)=a.any (QC x) by simp,Cn r b];exact q
theorem Gq:KH X (compareOp .NotIn) (λx y H Q=>∃i j,x = .str i/\y = .str j/\Q (.bl (!(!(Builtin.Str.occurrences j i 0 j.length 1).isEmpty))) H):=by
 intro a s σ H x y v u Q I b c h;obtain⟨i,j,rfl,rfl,q⟩:=h;obtain⟨t,rfl⟩:=b;obtain⟨d,rfl⟩:=c;exact notIn_str ⟨.bl _,H,I,rfl,q⟩
theorem Gu:J9 X (.builtin "len") (λxs H Q=>∃p b,xs = [.ref p]/\(IC X.K H p b\/IZ X.K H p b)/\Q (.int b.length) H):=by
 intro f s σ H xs j Q I r h;obtain⟨p,b,rfl,hq,q⟩:=h;obtain⟨u,rfl,g⟩:=X4 r;cases g;have k:=Br;rcases hq with hq | hq
 .obtain⟨c,d,e,i⟩:=I.list hq;have a:=d.length;exact Calls.call_len_list e.isList (by simp only[AR]<;>lia) ⟨.int b.length,H,I.tok _,⟨s.toks+1,by rw[AR,a]⟩,q⟩
 .obtain⟨c,d,e,i⟩:=I.tuple hq;have a:=d.length;exact len_tuple e (by simp only[AR]<;>lia) ⟨.int b.length,H,I.tok _,⟨s.toks+1,by rw[AR,a]⟩,q⟩
theorem Ag:J9 X (.builtin "len") (λxs H Q=>∃z,xs = [.str z]/\z.length<=sizeLine/\Q (.int z.length) H):=by
 intro a s σ H xs b Q I r h;obtain⟨z,rfl,c,q⟩:=h;obtain⟨u,rfl,t,rfl⟩:=X4 r;have d:=Br;exact len_str (by lia) ⟨.int z.length,H,I.tok _,⟨_,rfl⟩,q⟩
theorem Gp:J9 X (.type "list") (λxs H Q=>∃p d,xs = [.ref p]/\(IC X.K H p d\/IZ X.K H p d)/\∀l,H l=none->Q (.ref l) (HX H l (.lst d))):=by
 intro i s σ H xs C Q I r h;obtain⟨p,d,rfl,hq,q⟩:=h;obtain⟨u,rfl,B⟩:=X4 r;cases B;have j:∀(a:A0 A2),IG d a->d.length<=sizeLine->∀(c:H_) (f:Nat),(∀b A,s.heap.get? b=some A->c.get? b=some A) ->
   c.get? s.heap.objs.size=some { cls:=.type "list",dict:=none,data:=.seq a.toArray f,slots:=#[] }->EP X i σ Q (.ref s.heap.objs.size) { s with heap:=c }:=λa g k c f m e =>
  ⟨.ref s.heap.objs.size,_,I.laid (t':=s.toks) m (VD _) (show IR X.prog X.w _ c _ (.lst d)from⟨k,a,f,g,e⟩),rfl,q _ (I.hok.fresh (VD _))⟩
 rcases hq with hq | hq
 .obtain⟨a,g,v,k⟩:=I.list hq;have t:=g.length;obtain⟨o,x,y,n,z⟩:=v.isList;exact call_list_seq p (.inl rfl) x y z (λc f m e=>j a g k c f m e) (by simp only[AR]<;>lia)
 .obtain⟨a,g,v,k⟩:=I.tuple hq;have t:=g.length;obtain⟨o,x,y,n,z⟩:=v;exact call_list_seq p (.inr rfl) x y z (λc f m e=>j a g k c f m e) (by simp only[AR]<;>lia)
def tyV(K:VA)(T:String)(x:V)(H:Hp):Prop:=match x with
 | .str _=>T = "str"
 | .int _=>T = "int"
 | .ref p=>(T = "list"/\∃b,IC K H p b)\/(T = "tuple"/\∃o,K.lookup p=some o/\o.cls = .type "tuple"/\o.dict=none) \/
   (T = "dict"/\((∃a,H p=some (.dK a))\/∃a,H p=some (.dT a)))\/(T = "set"/\∃S n,H p=some (.set S n))
 | _=>False
theorem Ws{f:A0 (A3×Obj)}{σ:St}{H:Hp}{s:A4}{T:String}{x:V}{v:A2}(I:Inv X f σ H s)(r:RelV x v)(ty:tyV X.K T x H) :
  s.TypeIs v T/\∀a,v = .ref a->∃k,s.heap.get? a=some k/\k.dict=none:=by
 cases x with
 | str z =>
  obtain⟨t,rfl⟩:=r;cases(show T = "str" from ty);exact⟨typeIs_str s z t,λ_ e=>nomatch e⟩
 | int i =>
  obtain⟨t,rfl⟩:=r;cases(show T = "int" from ty);exact⟨typeIs_int s i t,λ_ e=>nomatch e⟩
 | ref p =>
  cases r;rcases ty with⟨rfl,w,m⟩ | ⟨rfl,o,b,q,g⟩ | ⟨rfl,b⟩ | ⟨rfl,S,n,b⟩
  .obtain⟨u,_,l,_⟩:=I.list m;refine⟨l.isList.typeIs,λa e=>?_⟩;cases e;obtain⟨o,n,e,c,g,_⟩:=l;exact⟨o,e,g⟩
  .refine⟨⟨o,I.kIn p o b,q⟩,λa e=>?_⟩;cases e;exact⟨o,I.kIn _ o b,g⟩
  .have z:∃o,s.heap.get? p=some o/\o.ExactDict:=by
    rcases b with⟨h,b⟩ | ⟨h,b⟩
    .obtain⟨_,_,_,_,o,_,_,e,d,_⟩:=I.hok p _ b;exact⟨o,e,d⟩
    .obtain⟨_,_,_,_,o,_,_,e,d,_⟩:=I.hok p _ b;exact⟨o,e,d⟩
   obtain⟨o,e,d⟩:=z;refine⟨⟨o,e,d.1⟩,λa j=>?_⟩;cases j;exact⟨o,e,d.2.1⟩
  .obtain⟨o,_,_,_,e,d,_⟩:=I.hok p _ b;refine⟨⟨o,e,d.1⟩,λa j=>?_⟩;cases j;exact⟨o,e,d.2.1⟩
 | _=>exact VB ty
def zGn(K:VA)(T:String)(r:V->A0 V->Hp->VK->Prop)(b:TE):TE:=λσ H Q=>b σ H λx a=>tyV K T x a/\r x [] a Q
def tBM(K:VA)(T:String)(r:V->A0 V->Hp->VK->Prop)(b:TE)(t:TA):TE:=λσ H Q=>b σ H λx a=>tyV K T x a/\t σ a λc d=>r x c d Q
variable{o e:IB}{es:A0 IB}{to:TE}{t:TA}{name:Str}{apos cpos:Pos}{T id:String}{r:V->A0 V->Hp->VK->Prop}
theorem zAz(i:PlainAttrs T)(d:Slot T name id)(e:typeOf (.builtin id)=pure (.type "method_descriptor"))(j:MtR X id r)(k:PE X o to)
  (b:attributeBase o name X.env (eval o X.env)=eval o X.env:=by rfl) (c:(apos.endLine == cpos.line)=true:=by rfl):PE X (.Call (.Attribute o name apos) [] [] cpos) (zGn X.K T r to):=by
 intro a s σ H Q I h;refine wpAny_Call_method0_late b c (I7 (k a s σ H _ I h) λv l ⟨x,m,f,g,ty,n⟩=>?_);obtain⟨p,q⟩:=Ws f g ty;exact⟨T,id,i,d,e,p,q,Calls.callWith_builtin rfl (PySem.evalArgs_none (j a l σ m x [] v [] Q f g .nil n))⟩
theorem zFg(m:PlainAttrs T)(f:Slot T name id)(i:typeOf (.builtin id)=pure (.type "method_descriptor"))(n:MtR X id r)(p:PE X o to)(q:PA X (e::es) t)
  (c:attributeBase o name X.env (eval o X.env)=eval o X.env:=by rfl)
  (g:((backTo cpos (starEach (e::es) X.env)).all (λx=>!x.1) &&(backToKw cpos (keywordEach [] X.env)).all (λx=>x.1.isSome)
   && decide ((e::es).length +([]:A0 Keyword).length +(if([]:A0 Keyword).isEmpty then 0 else 1)<30))=true:=by rfl)
  (d:(apos.endLine == cpos.line)=true:=by rfl) (u:starEach (e::es) X.env =(false,eval e X.env)::starEach es X.env:=by rfl) (b:(backTo cpos (starEach es X.env)).any (·.1)=false:=by rfl) :
  PE X (.Call (.Attribute o name apos) (e::es) [] cpos) (tBM X.K T r to t):=by
 intro a s σ H Q I h;refine wpAny_Call_method_late c g d rfl (I7 (p a s σ H _ I h) λv w ⟨x,y,j,k,ty,z⟩=>?_);obtain⟨A,B⟩:=Ws j k ty;refine⟨T,id,m,f,i,A,B,?_⟩;have l:=q cpos a w σ y _ j z;rw[u]at l⊢;refine Calls.callWith_builtin (by show(false||(backTo cpos (starEach es X.env)).any (·.1))=false;rw[b]<;>rfl) (Calls.evalArgs_plain ?_);exact I7 l λC D ⟨E,F,G,J,L⟩=>n a D σ F x E v C Q G k J L
end
def PV(X:Cx)(id:String)(r:V->A0 V->Hp->VK->Prop):Prop :=
 ∀(a:A0 (A3×Obj)) (s:A4) (σ:St) (H:Hp) (x:V) (b:A0 V) (v:A2) (c:A0 A2) (Q:VK),Inv X a σ H s->RelV x v->IG b c->r x b H Q ->
  wpAny (model X.prog X.w) X.A (call (.builtin id) (v::c)) (EP X a σ Q) X.xe s
def IG.one:∀{x:V} {us:A0 A2},IG [x] us->∃u,us = [u]/\RelV x u
 | _,_,.cons r .nil=>⟨_,rfl,r⟩
def IG.two:∀{x y:V} {us:A0 A2},IG [x,y] us->∃u v,us = [u,v]/\RelV x u/\RelV y v
 | _,_,_,.cons r (.cons q .nil)=>⟨_,_,rfl,r,q⟩
def IG.zero:∀{us:A0 A2},IG [] us->us = []
 | _,.nil=>rfl
def IG.dropLast{xs:A0 V}{us:A0 A2}(h:IG xs us):IG xs.dropLast us.dropLast:=by
 induction h with
 | nil=>exact .nil
 | cons r t a =>
  cases t with
  | nil=>exact .nil
  | cons q b=>exact .cons r a
def IG.eraseIdx:∀{xs:A0 V} {us:A0 A2} (i:Nat),IG xs us->IG (xs.eraseIdx i) (us.eraseIdx i)
 | _,_,_,.nil=>.nil
 | _,_,0,.cons _ t=>t
 | _,_,i+1,.cons r t=>.cons r (IG.eraseIdx i t)
def IG.reverse{xs:A0 V}{us:A0 A2}(h:IG xs us):IG xs.reverse us.reverse:=by
 induction h with
 | nil=>exact .nil
 | cons r t a=>rw[List.reverse_cons,List.reverse_cons];exact IG.append a (.cons r .nil)
def IG.rep{xs:A0 V}{us:A0 A2}(h:IG xs us):∀k:Nat,IG (List.replicate k xs).flatten (List.replicate k us).flatten
 | 0=>.nil
 | k+1=>by
  rw[C_,C_,FK,FK];exact IG.append h (IG.rep h k)
def Nc{α:Type}(l:A0 α):l.eraseIdx (l.length-1)=l.dropLast:=by
 induction l with
 | nil=>rfl
 | cons a r c =>
  cases r with
  | nil=>rfl
  | cons b r =>
   have e:(a::b::r).length-1 =((b::r).length-1)+1:=by
    have d:(a::b::r).length=r.length+2:=rfl;have f:(b::r).length=r.length+1:=rfl;lia
   rw[e,List.eraseIdx_cons_succ,c]
   all_goals rfl
def Hr{α:Type}:∀(l:A0 α) (i:Nat),(l.eraseIdx i).length<=l.length
 | [],_=>VD _
 | _::_,0=>DM _
 | _::r,i+1=>FN (Hr r i)
def Gs(its:A0 A2):∀(k:Nat) (a:A0 A2),
  List.foldl (λb c=>b++c) a.toArray (List.replicate k its.toArray) =(a ++(List.replicate k its).flatten).toArray
 | 0,a=>by simp
 | k+1,a=>by
  have e:a.toArray++its.toArray =(a++its).toArray:=by simp
  have d:(a++its) ++(List.replicate k its).flatten=a ++(List.replicate (k+1) its).flatten:=by
   rw[C_,FK,BF]
  rw[<-d,<-Gs its k (a++its),<-e,C_,G_]
section
variable{X:Cx}{pins:A0 (A3×Obj)}{σ:St}{H:Hp}{s:A4}{l b:A3}{xs ys zs:A0 V}
theorem Inv.lset{its its':A0 A2}{n:Nat}{f:HS A2->HS A2}{t':Nat}(I:Inv X pins σ H s)(a:H l=some (.lst xs))
  (e:s.heap.get? l=some { cls:=.type "list",data:=.seq its.toArray n }) (b:f its.toArray=its'.toArray) (c:IG ys its') (hz:ys.length<=sizeLine) :
  Inv X pins σ (HX H l (.lst ys)) { s with heap:=s.heap.update l (Obj.mapSeq f),toks:=t' }:=by
 have q:=PySem.IsL.update e f;rw[b]at q;refine I.write (x:=l) (e:=l) (by rw[a];exact trivial) (.inl rfl) (λh u d g=>(BG s.heap (Obj.mapSeq f) (Ne.symm d)).trans g) ⟨_,q⟩ ?_;exact⟨hz,its',_,c,q⟩
theorem Inv.lnew{its:A0 A2}{t':Nat}(I:Inv X pins σ H s)(a:IG ys its)(hz:ys.length<=sizeLine) :
  Inv X pins σ (HX H s.heap.objs.size (.lst ys)) { s with heap:=s.heap.push { cls:=.type "list",data:=.seq its.toArray },toks:=t' } :=
 I.laid (λ_ _ q=>AD _ q) (VD _) ⟨hz,its,0,a,AY _ rfl⟩
theorem Inv.fresh(I:Inv X pins σ H s):H s.heap.objs.size=none:=I.hok.fresh (VD _)
theorem Inv.lstM(I:Inv X pins σ H s)(a:H l=some (.lst xs)):xs.length<=sizeLine/\∃(its:A0 A2) (n:Nat),IG xs its/\xs.length=its.length/\s.heap.get? l=some { cls:=.type "list",data:=.seq its.toArray n }:=by
 obtain⟨z,its,n,r,e⟩:=I.hok l _ a;exact⟨z,its,n,r,r.length,e⟩
theorem Kj{n:Nat}(h:n<=sizeLine):Builtin.List.listTooLong n=false:=by
 unfold Builtin.List.listTooLong;exact AK (by lia)
end
section
variable{X:Cx}
def zAl:V->A0 V->Hp->VK->Prop:=λx b H Q=>∃l a y,x = .ref l/\b = [y]/\H l=some (.lst a)/\a.length<sizeLine/\Q .non (HX H l (.lst (a ++ [y])))
theorem K7:PV X "list.append" zAl:=by
 intro b s σ H x i v j Q I d f h;obtain⟨l,k,y,rfl,rfl,c,m,q⟩:=h;cases d;obtain⟨u,rfl,g⟩:=f.one;obtain⟨z,a,n,r,o,e⟩:=I.lstM c;refine call_meets F.slot_list_append ⟨_,e,rfl⟩ F.entry_list_append (F.args_list_append_2 _ _) (PySem.list_append l a.toArray n u (by rw[AR];lia)) ⟨e,?_⟩;refine⟨.non,_,I.lset (its':=a ++ [u]) c e (by simp) (r.append (.cons g .nil)) ?_,rfl,q⟩;rw[AS,DX];lia
def zAf:V->A0 V->Hp->VK->Prop:=λx d H Q=>∃l b a c,x = .ref l/\d = [.ref b]/\H l=some (.lst a)/\H b=some (.lst c)/\a.length+c.length<=sizeLine/\Q .non (HX H l (.lst (a++c)))
theorem Oy:PV X "list.extend" zAf:=by
 intro g s σ H x A v B Q I j k h;obtain⟨l,b,C,D,rfl,rfl,i,m,E,q⟩:=h;cases j;obtain⟨u,rfl,o⟩:=k.one;cases o;obtain⟨z,c,n,r,G,e⟩:=I.lstM i;obtain⟨J,a,p,t,w,y⟩:=I.lstM m;have f:c.toArray.size+a.toArray.size<=sizeLine:=by rw[AR,AR];lia
 have d:¬(!c.toArray.isEmpty&&Builtin.List.listTooLong (c.toArray.size+a.toArray.size))=true:=by
  rw[Kj f,HH];exact BE
 refine call_meets F.slot_list_extend ⟨_,e,rfl⟩ F.entry_list_extend (F.args_list_extend_2 _ _)
  (AutoSeq1.list_extend_list_list_0 l c.toArray n b a.toArray p d (by rw[AR];lia) (by lia)) ⟨e,y,?_⟩
 refine⟨.non,_,I.lset (its':=c++a) i e (by simp) (r.append t) ?_,rfl,q⟩;rw[AS];lia
def zHe:V->A0 V->Hp->VK->Prop:=λx b H Q=>∃l a y,x = .ref l/\b = []/\H l=some (.lst a)/\a[a.length-1]?=some y/\Q y (HX H l (.lst a.dropLast))
theorem Wz:PV X "list.pop" zHe:=by
 intro d s σ H x p v t Q I g i h;obtain⟨l,w,y,rfl,rfl,f,j,q⟩:=h;cases g;have b:=i.zero;subst b;obtain⟨z,a,n,r,k,e⟩:=I.lstM f;obtain⟨u,m,o⟩:=r.get j;have c:a.toArray[a.toArray.size-1]?=some u:=by
  show a.toArray[a.length-1]?=some u;rw[<-BL,<-k];exact m
 refine call_meets F.slot_list_pop ⟨_,e,rfl⟩ F.entry_list_pop (F.args_list_pop_1 _) (MeetsSeq.list_pop_last l a.toArray n u c (by rw[AR];lia)) ⟨e,?_⟩;refine⟨y,_,I.lset (its':=a.dropLast) f e ?_ r.dropLast ?_,o,q⟩
 .show a.toArray.eraseIdxIfInBounds (a.toArray.size-1)=a.dropLast.toArray;rw[AR,List.eraseIdxIfInBounds_toArray,Nc]
 .rw[List.length_dropLast];lia
def zBd:V->A0 V->Hp->VK->Prop:=λx b H Q=>∃l a i k y,x = .ref l/\b = [.int i]/\H l=some (.lst a)/\-(2^63)<=i/\i<2^63/\seqIndex? i a.length=some k/\a[k]?=some y/\Q y (HX H l (.lst (a.eraseIdx k)))
theorem Uu:PV X "list.pop" zBd:=by
 intro c s σ H x E v G Q I f g h;obtain⟨l,j,i,k,y,rfl,rfl,d,m,o,p,A,q⟩:=h;cases f;obtain⟨u,rfl,B⟩:=g.one;obtain⟨t,rfl⟩:=B;obtain⟨z,a,n,r,C,e⟩:=I.lstM d;obtain⟨w,D,b⟩:=r.get A;refine call_meets F.slot_list_pop ⟨_,e,rfl⟩ F.entry_list_pop (F.args_list_pop_2 _ _)
  (MeetsSeq.list_pop_at l a.toArray n i t k w (fitsIndex_both m o) (by rw[AR,<-C];exact p) (by rw[<-BL];exact D) (by rw[AR];lia)) ⟨e,?_⟩
 refine⟨y,_,I.lset (its':=a.eraseIdx k) d e ?_ (r.eraseIdx k) ?_,b,q⟩
 .show a.toArray.eraseIdxIfInBounds k =(a.eraseIdx k).toArray;rw[List.eraseIdxIfInBounds_toArray]
 .have:=Hr j k;lia
def Us:V->A0 V->Hp->VK->Prop:=λx b H Q=>∃l a,x = .ref l/\b = []/\H l=some (.lst a)/\Q .non (HX H l (.lst a.reverse))
theorem Nw:PV X "list.reverse" Us:=by
 intro c s σ H x i v j Q I f g h;obtain⟨l,k,rfl,rfl,d,q⟩:=h;cases f;have b:=g.zero;subst b;obtain⟨z,a,n,r,m,e⟩:=I.lstM d;refine call_meets F.slot_list_reverse ⟨_,e,rfl⟩ F.entry_list_reverse (F.args_list_reverse_1 _) (AutoSeq1.list_reverse_list_0 l a.toArray n (by rw[AR];lia)) ⟨e,?_⟩;refine⟨.non,_,I.lset (its':=a.reverse) d e (by simp) r.reverse ?_,rfl,q⟩;rw[List.length_reverse];lia
def zHv:R2:=λx y H Q=>∃l b a c,x = .ref l/\y = .ref b/\H l=some (.lst a)/\H b=some (.lst c)/\a.length+c.length<=sizeLine/\∀p,H p=none->Q (.ref p) (HX H p (.lst (a++c)))
theorem Dr:KH X (binaryOp .Add) zHv:=by
 intro d s σ H x y v u Q I f g h;obtain⟨l,b,t,w,rfl,rfl,i,j,A,q⟩:=h;cases f;cases g;obtain⟨z,c,n,r,B,e⟩:=I.lstM i;obtain⟨C,a,D,k,m,o⟩:=I.lstM j;refine PySem.P.add_list e o ?_ (by rw[AR,AR];lia);have p:c.toArray++a.toArray =(c++a).toArray:=by simp
 rw[p];exact⟨.ref _,_,I.lnew (t':=s.toks) (r.append k) (by rw[AS];lia),rfl,q _ I.fresh⟩
def zHi:R2:=λx y H Q=>∃l k a,x = .ref l/\y = .int k/\H l=some (.lst a)/\-(2^63)<=k/\k<2^63/\a.length*k.toNat<=sizeLine /\
 ∀p,H p=none->Q (.ref p) (HX H p (.lst (List.replicate k.toNat a).flatten))
theorem Zq{α:Type}(xs:A0 α)(k:Nat):(List.replicate k xs).flatten.length=k*xs.length:=by
 induction k with
 | zero=>simp
 | succ k a=>rw[C_,FK,AS,a,Nat.succ_mul,Nat.add_comm]
theorem Wu:KH X (binaryOp .Mult) zHi:=by
 intro p s σ H x y v u Q I A B h;obtain⟨l,k,L,rfl,rfl,C,D,E,w,q⟩:=h;cases A;obtain⟨t,rfl⟩:=B;obtain⟨z,b,n,r,G,e⟩:=I.lstM C;have d:b.toArray.size*k.toNat<=sizeLine:=by rw[AR,<-G];exact w
 have f:¬b.toArray.size*k.toNat >(2^63-1) / 8:=by
  have:(sizeLine:Nat)<=(2^63-1) / 8:=by decide
  lia
 have g:¬(!Builtin.List.listFitsIndex k)=true:=by
  rw[fitsIndex_both D E];exact BE
 have c:¬Builtin.List.listTooLong (b.toArray.size*k.toNat)=true:=by
  rw[Kj d];exact BE
 have i:List.foldl (λj o=>j++o) #[] (List.replicate (if b.toArray.isEmpty=true then 0 else k.toNat) b.toArray) =(List.replicate k.toNat b).flatten.toArray:=by
  have J:∀m:Nat,List.foldl (λj o=>j++o) #[] (List.replicate m b.toArray) =(List.replicate m b).flatten.toArray:=λm=>by
   have:=Gs b m [];rw[FZ]at this;exact this
  rw[J];cases b with
  | nil=>simp
  | cons a M=>rw[AI (by simp)]
 refine wpAny_binaryOp_repeat_ref (T := "list") (U := "int") (by decide) ⟨_,e,rfl⟩ (λK=>typeIs_int K k t) noFill_list_mul F.fills_int_mul F.slot_int_rmul repeat_list F.slot_int_index.lookup
  (call_meets F.slot_int_rmul (typeIs_int s k t) F.entry_int_rmul (F.args_int_rmul_2 _ _) (int___rmul___int_list k t l b.toArray n)
   ⟨e,rfl,⟨_,e,rfl⟩,call_meets F.slot_list_mul ⟨_,e,rfl⟩ F.entry_list_mul (F.args_list_mul_2 _ _) (AutoListH.list___mul___list_int_3 l b.toArray n k t g f c) ⟨e,?_⟩⟩)
 rw[i];exact⟨.ref _,_,I.lnew (t':=s.toks) (r.rep k.toNat) (by rw[Zq,Nat.mul_comm];exact w),rfl,q _ I.fresh⟩
end
section
variable{Z:Type}[DecidableEq Z]
def V8(kvs:A0 (Z×V))(k:Z):A5 V:=(kvs.find? λa=>decide (a.1=k)).map (·.2)
def Bf(kvs:A0 (Z×V))(k:Z)(v:V):A0 (Z×V) :=
 if(kvs.any λa=>decide (a.1=k))=true then kvs.map (λa=>if a.1=k then(a.1,v)else a)else kvs ++ [(k,v)]
theorem Q4{p:Z×V}{r:A0 (Z×V)}{k:Z}(e:p.1=k):V8 (p::r) k=some p.2:=by simp[V8,GA,e]
theorem Q6{p:Z×V}{r:A0 (Z×V)}{k:Z}(e:¬p.1=k):V8 (p::r) k=V8 r k:=by simp[V8,GA,e]
theorem m8(k:Z):∀kvs:A0 (Z×V),(kvs.any λa=>decide (a.1=k)) =(V8 kvs k).isSome
 | []=>rfl
 | p::r=>by
  rw[GE];by_cases e:p.1=k
  .simp only[Q4 e,AU e,Bool.true_or,Option.isSome_some]
  .rw[Q6 e,AK e,Bool.false_or];exact m8 k r
theorem Mm(k j:Z)(y:V):∀kvs:A0 (Z×V),V8 (kvs.map λa=>if a.1=k then(a.1,y)else a) j =(V8 kvs j).map λx=>if j=k then y else x
 | []=>rfl
 | p::r=>by
  have b:=Mm k j y r;rw[BM];by_cases h:p.1=k
  .rw[AO h];by_cases e:p.1=j
   .rw[Q4 (p:=(p.1,y)) e,Q4 e,HB,AO (e.symm.trans h)]
   .rw[Q6 (p:=(p.1,y)) e,Q6 e,b]
  .rw[AI h];by_cases e:p.1=j
   .rw[Q4 (p:=p) e,Q4 e,HB,AI (λz=>h (e.trans z))]
   .rw[Q6 (p:=p) e,Q6 e,b]
theorem Hl(k j:Z)(y:V):∀kvs:A0 (Z×V),V8 kvs k=none->V8 (kvs ++ [(k,y)]) j=if j=k then some y else V8 kvs j
 | [],_=>by
  by_cases e:k=j
  .rw[AO e.symm];exact Q4 (p:=(k,y)) e
  .rw[AI (λz=>e z.symm)];exact Q6 (p:=(k,y)) e
 | p::r,a=>by
  rw[List.cons_append];have b:¬p.1=k:=λz=>by rw[Q4 z]at a;cases a
  rw[Q6 b]at a;have c:=Hl k j y r a;by_cases e:p.1=j
  .rw[Q4 e,Q4 e,AI (λz=>b (e.trans z))]
  .rw[Q6 e,Q6 e,c]
theorem Wo(kvs:A0 (Z×V))(k j:Z)(y:V):V8 (Bf kvs k y) j=if j=k then some y else V8 kvs j:=by
 unfold Bf;by_cases a:(kvs.any λb=>decide (b.1=k))=true
 .rw[AO a,Mm];rw[m8]at a;by_cases e:j=k
  .obtain⟨x,c⟩:=FM.mp a;rw[AO e,e,c,HB,AO rfl]
  .rw[AI e];cases V8 kvs j with
   | none=>rfl
   | some x=>rw[HB,AI e]
 .rw[AI a];refine Hl k j y kvs ?_;rw[m8]at a;cases q:V8 kvs k with
  | none=>rfl
  | some x=>rw[q]at a;exact(a rfl).elim
theorem V3(kvs:A0 (Z×V))(k:Z)(v:V):(Bf kvs k v).length<=kvs.length+1:=by
 unfold Bf;split
 .rw[AB];lia
 .rw[AS,BQ,List.length_nil];lia
theorem Lb{kvs:A0 (Z×V)}{k:Z}(v:V)(h:V8 kvs k=none):Bf kvs k v=kvs ++ [(k,v)]:=by
 unfold Bf;rw[m8,h];exact AI (by decide)
theorem LW.isSome_eq{o:A5 V}{u:A5 A2}(r:LW o u):o.isSome=u.isSome:=by
 cases o with
 | none=>cases u with
  | none=>rfl
  | some _=>exact(show False from r).elim
 | some _=>cases u with
  | none=>exact(show False from r).elim
  | some _=>rfl
theorem LW.getD{o:A5 V}{u:A5 A2}{d:V}{d':A2}(r:LW o u)(a:RelV d d'):RelV (o.getD d) (u.getD d'):=by
 cases o with
 | none=>cases u with
  | none=>exact a
  | some _=>exact(show False from r).elim
 | some _=>cases u with
  | none=>exact(show False from r).elim
  | some _=>exact r
theorem KV.val{kvs:A0 (Z×V)}{vs:A0 (Z×A2)}(r:KV kvs vs)(k:Z):LW (V8 kvs k) (valueAt vs k):=by
 unfold KV at r
 induction r with
 | nil=>exact VC
 | @cons p q ps a h t f =>
  obtain⟨d,g⟩:=h;by_cases e:p.1=k
  .have c:q.1=k:=d.symm.trans e;have b:valueAt (q::a) k=some q.2:=by simp[valueAt,GA,c]
   rw[Q4 e,b];exact g
  .have c:¬q.1=k:=λz=>e (d.trans z);have b:valueAt (q::a) k=valueAt a k:=by simp[valueAt,GA,c]
   rw[Q6 e,b];exact f
theorem KV.any{kvs:A0 (Z×V)}{vs:A0 (Z×A2)}(r:KV kvs vs)(k:Z):(kvs.any λa=>decide (a.1=k))=vs.any λa=>decide (a.1=k):=by
 unfold KV at r
 induction r with
 | nil=>rfl
 | cons h t b=>rw[GE,GE,b,h.1]
theorem KV.repl{kvs:A0 (Z×V)}{vs:A0 (Z×A2)}(r:KV kvs vs)(k:Z){y:V}{u:A2}(c:RelV y u) :
  KV (kvs.map λa=>if a.1=k then(a.1,y)else a) (vs.map λa=>if a.1=k then(a.1,u)else a):=by
 unfold KV at r⊢
 induction r with
 | nil=>exact .nil
 | @cons p q ps g h t d =>
  rw[BM,BM];refine .cons ?_ d;obtain⟨b,f⟩:=h;by_cases e:p.1=k
  .rw[AO e,AO (b.symm.trans e)];exact⟨b,c⟩
  .rw[AI e,AI (λz=>e (b.trans z))];exact⟨b,f⟩
theorem KV.put{kvs:A0 (Z×V)}{vs:A0 (Z×A2)}(r:KV kvs vs)(k:Z){y:V}{u:A2}(a:RelV y u):KV (Bf kvs k y) (stored vs k u):=by
 unfold Bf stored;rw[r.any k];by_cases e:(vs.any λb=>decide (b.1=k))=true
 .rw[AO e,AO e];exact r.repl k a
 .rw[AI e,AI e];exact Paired.snoc r ⟨rfl,a⟩
theorem KV.length{kvs:A0 (Z×V)}{vs:A0 (Z×A2)}(r:KV kvs vs):kvs.length=vs.length:=Paired.length r
end
def Ho{P:HU}{w:HW}{k:IM}{u:A2}(r:RelV (kV k) u):(C8 P w).is k u=true:=by
 cases k with
 | inl i=>obtain⟨t,e⟩:=(show ∃t,u=Value.int i t from r);subst e;exact Jc P w i t
 | inr x=>obtain⟨t,e⟩:=(show ∃t,u=Value.str x t from r);subst e;exact Iz P w x t
def Gk{P:HU}{w:HW}:∀{a:A0 IM} {us:A0 A2},IG (a.map kV) us->ItemsAre (C8 P w) a us
 | [],_,r=>by rw[HI]at r;cases r;exact .nil
 | k::a,_,r=>by
  rw[BM]at r;cases r with
  | cons h t=>exact .cons (Ho h) (Gk t)
abbrev KT(H:Hp):A0 (A0 IM×V)->A0 (A0 IM×A3×A2)->Prop:=Paired λp q=>p.1=q.1/\H q.2.1=some (.tup (p.1.map kV))/\RelV p.2 q.2.2
def KT.val{H:Hp}{kvs:A0 (A0 IM×V)}{xs:A0 (A0 IM×A3×A2)}(r:KT H kvs xs)(k:A0 IM):LW (V8 kvs k) ((atKey xs k).map (·.2)):=by
 induction r with
 | nil=>exact VC
 | @cons p q ps a h t f =>
  obtain⟨d,_,g⟩:=h;by_cases e:p.1=k
  .have c:q.1=k:=d.symm.trans e;have b:atKey (q::a) k=some q.2:=by simp[atKey,GA,c]
   rw[Q4 e,b];exact g
  .have c:¬q.1=k:=λz=>e (d.trans z);have b:atKey (q::a) k=atKey a k:=by simp[atKey,GA,c]
   rw[Q6 e,b];exact f
section
variable{P:HU}{w:HW}{H:Hp}{h:H_}{a:A3}
theorem zEe{u:HO}(b:MX P w H h)(e:Rd H a u):IR P w H h a u:=e.ok b
theorem Mr{kvs:A0 (IM×V)}(b:MX P w H h)(e:Rd H a (.dK kvs)):kvs.length<=sizeLine/\(a == sysModules)=false/\∃vs,KV kvs vs/\h.DictOf (C8 P w) a vs :=
 show IR P w H h a (.dK kvs)from zEe b e
theorem Uy{kvs:A0 (IM×V)}(b:MX P w H h)(e:H a=some (.dK kvs)):kvs.length<=sizeLine/\(a == sysModules)=false/\∃vs,KV kvs vs/\h.DictOf (C8 P w) a vs:=Mr b (.inl e)
theorem Aa{b:A0 IM}(d:MX P w H h)(e:H a=some (.tup (b.map kV))):(tupleKind (C8 P w)).is h b a:=by
 obtain⟨_,c,r,o,f,g,n,i⟩:=(show IR P w H h a (.tup (b.map kV))from d a _ e);exact⟨o,c.toArray,n,f,g,i,by simpa using Gk r⟩
theorem Ro{kvs:A0 (A0 IM×V)}(c:MX P w H h)(e:Rd H a (.dT kvs)):kvs.length<=sizeLine/\(a == sysModules)=false /\
  ∃xs,KT H kvs xs/\h.DictOfH (tupleKind (C8 P w)) a xs:=by
 obtain⟨z,y,xs,r,o,f,g,i,j,k,n,s⟩:=(show IR P w H h a (.dT kvs)from zEe c e);refine⟨z,y,xs,r,o,f,g,i,j,k,n,λx hx=>?_,s⟩;have b:∀{l:A0 (A0 IM×V)} {m:A0 (A0 IM×A3×A2)},KT H l m->∀x∈m,(tupleKind (C8 P w)).is h x.1 x.2.1:=by
  intro l m q
  induction q with
  | nil=>intro x hx;exact nomatch hx
  | @cons p q ps v d t u =>
   intro x hx;rcases AW.mp hx with e | hx
   .subst e;exact Aa c (by rw[<-d.1];exact d.2.1)
   .exact u x hx
 exact b r x hx
end
def LC(H:Hp)(a:A3)(y:V)(r:A5 V):Prop :=
 (∃c k,Rd H a (.dK c)/\y=kV k/\r=V8 c k)\/∃c k b,Rd H a (.dT c)/\y = .ref b/\H b=some (.tup (k.map kV))/\r=V8 c k
def LC.k{H:Hp}{a:A3}{kvs:A0 (IM×V)}{k:IM}(e:H a=some (.dK kvs)):LC H a (kV k) (V8 kvs k):=.inl ⟨kvs,k,.inl e,rfl,rfl⟩
section
variable{X:Cx}{pins:A0 (A3×Obj)}{σ:St}{H:Hp}{s:A4}{a:A3}{y v:V}{u r:A2}{o:A5 V}{A:IA}{E:A2->A4->Prop}
theorem Inv.big(I:Inv X pins σ H s):sysModules<s.heap.objs.size:=by
 have h:mainGlobals<s.heap.objs.size:=(I.mod.glob.keeps I.bk).lt;exact Nat.lt_trans (by decide) h
theorem Rt{Q:A2->A4->Prop}(x:A.units+1<cLine)(I:Inv X pins σ H s)(g:LC H a y (some v))(r:RelV y u)(h:∀f t,Inv X pins σ H t->RelV v f->Q f t) :
  wpAny (model X.prog X.w) A (getItem (.ref a) u) Q E s:=by
 rcases g with⟨i,k,e,j,l⟩ | ⟨i,k,b,e,j,B,l⟩
 .subst j;obtain⟨z,C,D,c,m⟩:=Mr I.hok e;obtain⟨f,n,d⟩:=LW.some_of (v:=v) (o:=valueAt D k) (by rw[l];exact c.val k);exact wpAny_getItem_of (Ho r) m.mapOf n (h f _ (I.tok _) d)
 .subst j;cases(show u=Value.ref b from r);obtain⟨z,C,F,c,m⟩:=Ro I.hok e;obtain⟨f,n,d⟩:=LW.some_of (v:=v) (o:=(atKey F k).map (·.2)) (by rw[l];exact c.val k);obtain⟨p,G,q⟩:=BH.mp n;refine wpAny_getItem_heap (tupleKind_room_in1 x) (Aa I.hok B) m G ?_;rw[q];exact h f _ (I.tok _) d
theorem Yv{Q:A2->A4->Prop}(p:A.units+1<cLine)(I:Inv X pins σ H s)(g:LC H a y o)(m:RelV y u)(h:∀n,Inv X pins σ H n->Q (.bool (!o.isSome)) n) :
  wpAny (model X.prog X.w) A (compareOp .NotIn u (.ref a)) Q E s:=by
 rcases g with⟨d,k,e,f,l⟩ | ⟨d,k,b,e,f,r,l⟩
 .subst f;obtain⟨z,i,t,c,j⟩:=Mr I.hok e;refine wpAny_notIn_of (Ho m) i j.mapOf ?_;rw[<-(c.val k).isSome_eq,<-l];exact h _ (I.tok _)
 .subst f;cases(show u=Value.ref b from m);obtain⟨z,i,v,c,j⟩:=Ro I.hok e;refine wpAny_notIn_heap (tupleKind_room_in1 p) (Aa I.hok r) i j ?_;have q:=(c.val k).isSome_eq;rw[Option.isSome_map]at q;rw[<-q,<-l];exact h _ (I.tok _)
theorem Pu{h':H_}{t':Nat}{c:HO}(I:Inv X pins σ H s)(f:TN (H a))(g:Heap.SameBut a s.heap h')(h:∃q,h'.get? a=some q)(d:IR X.prog X.w (HX H a c) h' a c) :
  Inv X pins σ (HX H a c) { s with heap:=h',toks:=t' } :=
 I.write (x:=a) (e:=a) f (.inl rfl) (λb q i z=>(g.2 b i).trans z) h d
theorem Mi{P:HU}{w:HW}{H':Hp}{h':H_}{kvs:A0 (IM×V)}{vs:A0 (IM×A2)}(z:kvs.length<=sizeLine)(c:(a == sysModules)=false)(b:KV kvs vs)(d:h'.DictOf (C8 P w) a vs) :
  IR P w H' h' a (.dK kvs):=⟨z,c,vs,b,d⟩
end
def zGd(i:IB):Prop:=∀a b,subscripted i false a b=operate [a,b] (getItem a b)
def Yc{prog:HU}{w:HW}{A:IA}{E:A2->A4->Prop}{s:A4}{c:QQ}{b a:IB}{e:Pos}{T id:String}{Q:A2->A4->Prop}
  (g:typeLookup (.type T) "__getitem__" = pure (some (.builtin id))) (j:zGd a)
  (h:wpAny (model prog w) A (eval b c) (λo h0=>wpAny (model prog w) A (eval a c) (λi i1=>i1.TypeIs o T/\wpAny (model prog w) A (getItem o i) Q E i1) E h0) E s) :
  wpAny (model prog w) A (eval (.Subscript b a e) c) Q E s:=by
 refine Subscript_ (B_ h (λo h0 q0=>B_ q0 (λi i1 h₂=>?_) λ_ _ x=>x) λ_ _ x=>x);obtain⟨f,h₂⟩:=h₂;unfold subscriptTail;refine AA ?_;rw[getitemInPython_of_ne f.not_modules];refine AA (GB f g ?_);have d:wpAny (model prog w) A (subscripted a false o i) (λr s₃=>wpAny (model prog w) A (letTemporaryGo b o r >>= λ_=>pure r) Q E s₃) E i1:=by
  rw[j o i];exact wpAny_operating (B_ h₂ (λr s₃ h₃=>AA (wpAny_letTemporaryGo (AE h₃))) λ_ _ x=>x)
 first
  | exact AE (AA d)
  | exact AA (AE (AA d))
  | exact AA d
def Jp{X:Cx}{c:A0 (A3×Obj)}{σ:St}{H:Hp}{s:A4}{a:A3}{y:V}{o:A5 V}(I:Inv X c σ H s)(g:LC H a y o):s.TypeIs (.ref a) "dict":=by
 rcases g with⟨d,k,e,_,_⟩ | ⟨d,k,b,e,_,_,_⟩
 .obtain⟨_,_,h,_,f⟩:=Mr I.hok e;exact f.typeIs
 .obtain⟨_,_,i,_,f⟩:=Ro I.hok e;exact f.typeIs
def zBf(c ty:TE):TE:=λσ H Q=>c σ H λx d=>ty σ d λy b=>∃a v,x = .ref a/\LC b a y (some v)/\Q v b
def Yw(ty c:TE):TE:=λσ H Q=>ty σ H λy d=>c σ d λx b=>∃a o,x = .ref a/\LC b a y o/\Q (.bl (!o.isSome)) b
section
variable{X:Cx}{o i e value:IB}{pos pos' tpos:Pos}{td ty tv:TE}
theorem U5(e:X.A.units+1<cLine)(f:PE X o td)(hi:PE X i ty)(j:zGd i):PE X (.Subscript o i pos) (zBf td ty):=by
 intro b s σ H Q I h;refine Yc PySem.F.slot_dict_getitem.lookup j (I7 (f b s σ H _ I h) λu k ⟨x,l,m,n,p⟩=>I7 (hi b k σ l _ m p) λB C ⟨y,q,d,r,a,v,t,g,w⟩=>?_);subst t;obtain rfl:u=Value.ref a:=n;exact⟨Jp d g,Rt e d g r λD E z c=>⟨v,q,z,c,w⟩⟩
theorem Ss(c:X.A.units+1<cLine)(hi:PE X i ty)(d:PE X o td):PC X .NotIn i o (Yw ty td):=by
 intro b s σ H Q I h;refine I7 (hi b s σ H _ I h) λw e ⟨y,f,j,k,l⟩=>I7 (d b e σ f _ j l) λu z ⟨x,m,n,p,a,q,r,g,t⟩=>?_;subst r;obtain rfl:u=Value.ref a:=p;exact Yv c n g k λB v=>⟨.bl (!q.isSome),m,v,rfl,t⟩
end
def Fj{P:HU}{w:HW}{H:Hp}(h:H_)(a:sysModules<h.objs.size):IR P w H (h.push { cls:=.type "dict",data:=.dict #[] }) h.objs.size (.dK []) :=
 ⟨BP _,beq_eq_false_iff_ne.mpr (Ne.symm (BA a)),[],.nil,Heap.DictOf.new h⟩
def zBc:TE:=λ_ H Q=>∀p,H p=none->Q (.ref p) (HX H p (.dK []))
section
variable{X:Cx}{pos:Pos}
theorem Vg:PE X (.Dict [] [] pos) zBc:=λb s σ H Q I h =>
 wpAny_Dict_empty ⟨.ref s.heap.objs.size,_,I.laid (a:=s.heap.objs.size) (o:=.dK []) (t':=s.toks) (λ_ _ q=>AD _ q) (VD _) (Fj s.heap I.big),rfl,h _ (I.hok.fresh (VD _))⟩
end
structure M1(X:Cx)(o:IB)(m:Str)(apos:Pos)(e:IB)(cpos:Pos):Prop where
 base:attributeBase o m X.env (eval o X.env)=eval o X.env
 few:((backTo cpos (starEach [e] X.env)).all (λx=>!x.1) &&(backToKw cpos (keywordEach [] X.env)).all (λx=>x.1.isSome)
  && decide (([e]:A0 IB).length +([]:A0 Keyword).length +(if([]:A0 Keyword).isEmpty then 0 else 1)<30))=true
 line:(apos.endLine == cpos.line)=true
 trees:backTo cpos (starEach [e] X.env) = [(false,eval e X.env)]
def IsD(H:Hp)(a:A3):Prop:=(∃b,Rd H a (.dK b))\/∃b,Rd H a (.dT b)
def Xi{X:Cx}{f:A0 (A3×Obj)}{σ:St}{H:Hp}{s:A4}{a:A3}(I:Inv X f σ H s)(d:IsD H a) :
  s.TypeIs (.ref a) "dict"/\(∀b,Value.ref a = .ref b->∃c,s.heap.get? b=some c/\c.dict=none)/\(a == sysModules)=false:=by
 rcases d with⟨h,e⟩ | ⟨h,e⟩
 .obtain⟨_,i,l,_,g⟩:=Mr I.hok e;refine⟨g.typeIs,λb q=>?_,i⟩;cases q;obtain⟨c,_,_,j,k,_⟩:=g;exact⟨c,j,k.2.1⟩
 .obtain⟨_,i,m,_,g⟩:=Ro I.hok e;refine⟨g.typeIs,λb q=>?_,i⟩;cases q;obtain⟨c,_,_,j,k,_⟩:=g;exact⟨c,j,k.2.1⟩
section
variable{X:Cx}{pins:A0 (A3×Obj)}{σ:St}{H:Hp}{s:A4}{a:A3}{y d:V}{u r:A2}{o:A5 V}{A:IA}{E:A2->A4->Prop}
theorem zCx{Q:A2->A4->Prop}(q:A.units+1<cLine)(I:Inv X pins σ H s)(g:LC H a y o)(m:RelV y u)(h:∀n p,Inv X pins σ H p->RelV (o.getD .non) n->Q n p) :
  wpAny (model X.prog X.w) A (call (.builtin "dict.get") [.ref a,u]) Q E s:=by
 rcases g with⟨f,k,e,i,l⟩ | ⟨f,k,b,e,i,r,l⟩
 .subst i;obtain⟨z,j,v,c,d⟩:=Mr I.hok e;refine call_meetsIn PySem.F.slot_dict_get d.typeIs PySem.F.entry_dict_get (PySem.F.args_dict_get_2 _ _) (meets_dict_get (C8 X.prog X.w) a (Ho m) j) ⟨_,d.mapOf,h _ _ (I.tok _) ?_⟩;rw[l];exact(c.val k).getD rfl
 .subst i;cases(show u=Value.ref b from m);obtain⟨z,j,t,c,d⟩:=Ro I.hok e;refine call_meetsIn PySem.F.slot_dict_get d.typeIs PySem.F.entry_dict_get (PySem.F.args_dict_get_2 _ _) (meetsH_dict_get (tupleKind (C8 X.prog X.w)) a b j) ⟨tupleKind_room_in1 q,k,t,Aa I.hok r,d,h _ _ (I.tok _) ?_⟩;rw[l];exact(c.val k).getD rfl
end
def Kf(d ty:TE):TE:=λσ H Q=>d σ H λx b=>∃a,x = .ref a/\IsD b a/\ty σ b λy c=>∃o,LC c a y o/\Q (o.getD .non) c
section
variable{X:Cx}{o e f:IB}{apos cpos:Pos}{td ty tx:TE}
theorem Y2(i:X.A.units+1<cLine)(j:PE X o td)(k:PE X e ty)(m:M1 X o "get" apos e cpos):PE X (.Call (.Attribute o "get" apos) [e] [] cpos) (Kf td ty):=by
 intro b s σ H Q I h;refine wpAny_Call_method m.base m.few m.line PySem.F.plainAttrs_dict PySem.F.slot_dict_get PySem.F.type_dict_get (I7 (j b s σ H _ I h) λu l ⟨x,n,f,p,a,q,d,r⟩=>?_);subst q;obtain rfl:u=Value.ref a:=p;obtain⟨t,v,_⟩:=Xi f d;refine⟨t,v,?_⟩;rw[m.trees];refine Calls.callWith_builtin rfl (Calls.evalArgs_plain (Calls.spliced_cons (I7 (k b l σ n _ f r) λE G ⟨y,w,z,B,J,g,C⟩=>Calls.spliced_nil ?_)));exact zCx i z g B λK L D c=>⟨_,w,D,c,C⟩
end
end L2
namespace Att
open PySem PySem.W PySem.Calls PyProof.Rows
def Ce{P:Params}{h:H_}:∀(ns:A0 Int) (vs:A0 A2),WellAll P h vs (ns.map WData.int)->IntsAre vs ns:=by
 intro ns
 induction ns with
 | nil =>
  intro vs w;rw[HI]at w;cases w;exact .nil
 | cons n ns c =>
  intro vs w;rw[BM]at w;cases w with
  | cons a b =>
   cases a;exact .cons _ _ (c _ b)
def Tl{l:OpenLaw}{n:Nat}(o:l.most=some n){P:Params}{h:H_}{args:A0 WData}{b:A0 A2}
  (c:l.row.toRowW.claim.pre args=true) (j:WellAll P h b args) :
  ∃a vs ns,b = [Value.ref a]/\args = [WData.list (ns.map WData.int)]/\h.get? a=some { cls:=.type "list",data:=.seq vs.toArray }/\IntsAre vs ns/\ns.length<=n:=by
 have k:WShape.hasAll [] args [.list .int]=true:=(pre_splitW c).1;have m:l.pre.holds [] { args:=args }=true:=(pre_splitW c).2;obtain⟨d,r,rfl,p,s⟩:=hasAllW_cons k;obtain rfl:=hasAllW_nil s;obtain⟨y,rfl,t⟩:=hasW_list p;obtain⟨ns,rfl⟩:=items_int t;have e:ns.length<=n:=by
  unfold OpenLaw.pre at m;have g:(WTm.not (.lt (.lit (.int (n:Int))) (.len (.arg 0)))).holds [] { args:=[.list (ns.map .int)] }=true:=by
   have g:=(holds_andW m).1;rw[o]at g;exact g
  have i:=condW_of g (w_not (w_lt w_lit (w_len_list (w_arg rfl))));rw[AB]at i;refine Nat.le_of_not_lt λq=>?_;have u:(n:Int) <((ns.length:Nat):Int):=by lia
  first
   | (rw[AU u]at i;exact absurd i (by decide))
   | (simp at i;lia)
 cases j with
 | cons v w =>
  cases w;cases v with
  | list x f=>exact⟨_,_,ns,rfl,rfl,x,Ce ns _ f,e⟩
def Rc(l:OpenLaw)(args:A0 WData):l.row.toRowW.claim.post args (.bool true) args=true :=
 postW_of (r:=l.row.toRowW) (X:=(true == true))
  (show WShape.has [] (.bool true) .bool=true by first | rfl | decide | simp[WShape.has,WShape.arms,WShape.armsAll])
  (show(WTm.eq .res (.lit (.bool true))).value [] { args:=args,res:=some (.bool true),after:=args }=some (.bool (true == true))from w_eq_bool (w_res rfl) w_lit) rfl
def PP{l:OpenLaw}{n:Nat}{q:HU}{b:A0 Str}{A:(Str->A5 A2)->H_->Prop}{B:HW->H_->Prop}{d:DefRec}
  (F:l.most=some n) (t:d.params.defaults = [])
  (call:∀(w:HW) (s₀ h0:A4) (k u:Str->A5 A2) (g:A3) (o:Obj) (v m c:A2) (a:A3) (vs:A0 A2) (ns:A0 Int),
   Ground q b [] A w s₀ k u h0.heap->B w h0.heap ->
   h0.heap.get? g=some o->o.data = .func (docDef d.name d.params d.body d.scope v m c)->h0.heap.CodeRec m d.name->k d.name=some (.ref g) ->
   h0.heap.get? a=some { cls:=.type "list",data:=.seq vs.toArray }->IntsAre vs ns->ns.length<=n->h0.gens = #[] ->
   codeAny (model l.prog w) callerA (.call (.ref g) ⟨[.ref a],[]⟩) (λr p=>r = .ok (.ret (.bool true))/\OldK h0.heap p.heap/\p.os=h0.os/\AllBare p.gens) h0) :
  WalkO q b A B l.row.toRowW d [] (λf vs=>PySem.call f vs):=by
 intro w s₀ h0 k u G Y g o v m c H kV I J x C y K args D S h E L z M;obtain rfl:H = .none:=Dflts.none C t;obtain rfl:kV = .none:=Dflts.noKw C;obtain⟨a,vs,ns,rfl,rfl,i,e,j⟩:=Tl F h z;refine enter_call (FJ (call w s₀ h0 k u g o v m c a vs ns G Y I (fd_plain J) x y i e j K) λr p N=>?_);obtain⟨rfl,O,P,Q⟩:=N;exact⟨.inl ⟨.bool true,.bool true,[],rfl,λ_=>rfl,.bool true,Rc l _,λ_=>⟨List.Pairwise.nil,λ_ R=>(nomatch R)⟩⟩,O,P,Q⟩
end Att
namespace L2
open PySem PySem.Spec PyProof.Rows
def Hn:∀{vs:A0 A2} {ns:A0 Int},IntsAre vs ns->IG (ns.map V.int) vs
 | _,_,.nil=>.nil
 | _,_,.cons n t h=>.cons ⟨t,rfl⟩ (Hn h)
def zEz(H:Hp):Prop:=∀b,H b=none\/∃o a,H b=some (.frz o (.lst a))
def Va{P:HU}{w:HW}{K:VA}{t N:Str->A5 A2}{CX:QR}{k:Nat}{O a:A3}{Y:IT}{x:Str}{sp:Sp}{h0:A4}{vs:A0 A2}{ns:A0 Int}
  (Z:K.In h0.heap) (y:h0.heap.Ns mainGlobals t) (f:h0.heap.Ns builtinsNs N) (Q:∀x:Str,x≠ "__name__"->N x=bootBuiltins x) (A:h0.heap.NoLimit) (hg:h0.gens = #[])
  (M:h0.heap.get? a=some { cls:=.type "list",data:=.seq vs.toArray }) (hi:IntsAre vs ns) (hl:ns.length<=sizeLine) (hr:JT k callerA)
  (F:∀g:H_,K.In g->g.Ns mainGlobals t->II P w K t g CX k O Y [x] sp) (p:∀(s:A4) (u:A2),BindsTo s Y ⟨[u],[]⟩ [(x,u)])
  (R:∀H:Hp,zEz H->IC K H a (ns.map V.int)->sp [.ref a] H (λv _=>v = .bl true) λ_ _ _=>False)
  (S:∀H e i,CX [] H h0 (λ_ _ _=>False) e i->False) :
  codeAny (model P w) callerA (.call (.ref O) ⟨[.ref a],[]⟩) (λr i=>r = .ok (.ret (.bool true))/\OldK h0.heap i.heap/\i.os=h0.os/\AllBare i.gens) h0:=by
 have rv:=Hn hi;have B:=hi.length;have l:∀H:Hp,zEz H->IC K H a (ns.map V.int)->MX P w H h0.heap->(∀b,H b≠none->b=a)->(H a≠none->K.lookup a=none) ->
   codeAny (model P w) callerA (.call (.ref O) ⟨[.ref a],[]⟩) (λr i=>r = .ok (.ret (.bool true))/\OldK h0.heap i.heap/\i.os=h0.os/\AllBare i.gens) h0:=by
  intro H hO hS C hA hK;have c:∀{b:A3} {o:Obj},h0.heap.get? b=some o->H b=none->(Ua h0.heap H).get? b=some o:=λe n=>Wj e n;have T:∀{b:A3} {o:Obj} {D:HS DictEntry} {E:Nat},h0.heap.get? b=some o->o.data = .dict D E->H b=none:=fun{b o D E} e d=>by
   cases q:H b with
   | none=>rfl
   | some u =>
    have U:b=a:=hA b (by rw[q];simp);subst U;rw[M]at e;cases e;have d':Data.seq vs.toArray _=Data.dict D E:=d;cases d'
  have j:∀{b:A3} {m:Str->A5 A2},h0.heap.Ns b m->(Ua h0.heap H).Ns b m:=fun{b m} ⟨o,D,E,e,d,r⟩=>⟨o,D,E,c e (T e d),d,r⟩;have G:K.In (Ua h0.heap H):=λb o e=>c (Z b o e) (by
   cases q:H b with
   | none=>rfl
   | some u =>
    have U:b=a:=hA b (by rw[q];simp);subst U;rw[hK (by rw[q];simp)]at e;cases e)
  have hM:Mod K t (Ua h0.heap H):=⟨G,j y,⟨N,j f,Q⟩,let⟨mc,h1,h2⟩:=A;⟨mc,j h1,h2⟩⟩;have e0:QH P w K t (Ua h0.heap H) callerA [] h0 H:=⟨rfl,hM,λb o e=>Zv e,VF (Sb _ _),trivial,λb f=>absurd (show b∈([]:A0 A3)from f) (by simp),C,.of_eq hg⟩;refine FJ ((F _ G (j y)).run callerA [] h0 H ⟨[.ref a],[]⟩ [.ref a] [.ref a] _ _ hr e0 (p h0 (.ref a)) (.cons rfl .nil) (R H hO hS)) λr i h=>?_;cases r with
  | error e=>exact(S H e i h).elim
  | ok fl =>
   cases fl with
   | next=>exact VB h
   | brk=>exact VB h
   | cont=>exact VB h
   | ret u =>
    obtain⟨v,H',os,I,un,J,r',q⟩:=h;have q':v = .bl true:=q;subst q';obtain rfl:u=Value.bool true:=r';refine⟨rfl,OldK.of_keep λb o e=>?_,os,I⟩;cases q:H b with
    | none=>exact un.keep b o e q (by intro z;exact absurd (show b∈([]:A0 A3)from z) (by simp)) (by simp)
    | some u =>
     rcases hO b with z | ⟨ob,xs,z⟩
     .rw[q]at z;cases z
     .have z2:=un.frzs b ob _ z;obtain⟨e1,_⟩:=C b _ z;obtain⟨e2,_⟩:=J b _ z2;rw[e]at e1;cases e1;exact e2
 cases X:K.lookup a with
 | some o =>
  have e:=Z a o X;rw[M]at e;cases e;refine l (λ_=>none) (λ_=>.inl rfl) (.inr ⟨_,vs.toArray,_,X,rfl,rfl,rfl,by rw[AR,B];exact hl,by simpa using rv⟩) (λb u z=>by have L:(none:A5 HO)=some u:=z;cases L) (λb z=>absurd rfl z) λz=>absurd rfl z
 | none =>
  refine l (λb=>if b=a then some (.frz { cls:=.type "list",data:=.seq vs.toArray } (.lst (ns.map V.int)))else none) (λb=>?_) (.inl (.inr ⟨{ cls:=.type "list",data:=.seq vs.toArray },AO rfl⟩)) (λb u z=>?_) (λb z=>?_) λ_=>X
  .by_cases f:b=a
   .exact .inr ⟨_,_,AO f⟩
   .exact .inl (AI f)
  .by_cases f:b=a
   .have L:=(AO f).symm.trans z;cases L;subst f;exact⟨M,by rw[AB];exact hl,vs,_,rv,M⟩
   .have L:=(AI f).symm.trans z;cases L
  .by_cases f:b=a
   .exact f
   .exact absurd (AI f) z
def RD{l:PySem.W.OpenLaw}{n k:Nat}{q:HU}{j:A0 Str}{L:(Str->A5 A2)->H_->Prop}{I:HW->H_->Prop}{d:DefRec}{K:Params->VA}{CX:HW->QR}{sp:HW->Sp}{x:Str}
  (M:l.most=some n) (y:n<=sizeLine) (z:d.params.defaults = []) (N:JT k callerA)
  (O:∀(w:HW) (h:H_),I w h->(K w.params).In h)
  (F:∀(w:HW) (p:Str->A5 A2) (t:A3) (h:H_),(K w.params).In h->h.Ns mainGlobals p->p d.name=some (.ref t) ->
   ∃A:IT,(∀(s:A4) (u:A2),BindsTo s A ⟨[u],[]⟩ [(x,u)]) /\
    ∀c:H_,(K w.params).In c->c.Ns mainGlobals p->II l.prog w (K w.params) p c (CX w) k t A [x] (sp w))
  (B:∀(w:HW) (H:Hp) (a:A3) (ns:A0 Int),ns.length<=n->zEz H->IC (K w.params) H a (ns.map V.int)->sp w [.ref a] H (λv _=>v = .bl true) λ_ _ _=>False)
  (C:∀(w:HW) (H:Hp) (s:A4) (e:A2) (D:A4),CX w [] H s (λ_ _ _=>False) e D->False) :
  PySem.W.WalkO q j L I l.row.toRowW d [] (λf vs=>PySem.call f vs):=by
 refine Att.PP M z λw s₀ h0 p mb t o pm cd P a vs ns G Y ho hd Q E r m i R=>?_;have J:=O w _ Y;obtain⟨A,S,U⟩:=F w p t _ J G.T.g E;exact Va J G.T.g G.T.b G.T.builtins G.T.nolimit R r m (VE i y) N U S (λH X Z=>B w H a ns i X Z) λH e D=>C w H h0 e D
def J8(s:IK)(j:Nat):IK:=match s with
 | .ClassDef _ _ _ a _ _ _ _ _ _ _=>a.getD j (.Pass ⟨0,0,0,0⟩)
 | _=>.Pass ⟨0,0,0,0⟩
def T8(s:IK):Arguments:=match s with
 | .FunctionDef _ a _ _ _ _ _ _ _ _=>a
 | _=>{ posonlyargs:=[],args:=[],vararg:=none,kwonlyargs:=[],kw_defaults:=[],kwarg:=none,defaults:=[] }
def S0(s:IK):A0 IK:=match s with
 | .FunctionDef _ _ b _ _ _ _ _ _ _=>b
 | _=>[]
def B6(s:IK):KM:=match s with
 | .FunctionDef _ _ _ _ _ _ a _ _ _=>a
 | _=>{ kind:=.function,names:=[],isGenerator:=false,isCoroutine:=false }
abbrev JP:QR:=λ_ _ _ _ _ _=>False
abbrev E0:XK:=λ_ _ _=>False
def J6{X:Cx}:Cq JP X E0:=λ_ _ _ _ _ _ _ h=>h.elim
structure PK(K:VA)(x qual:Str)(st:IK)(f:A3)(fd:IT):Prop where
 ex:∃(oc:A2) (od:A5 A3) (kV doc pm:A2) (an:A5 A3) (cdv ct:A2) (osl:HS (A5 A2)),
  fd=PySem.W.fnOf x qual (T8 st) (S0 st) (B6 st) .none kV doc pm an cdv ct/\K.lookup f=some ⟨oc,od,.func fd,osl⟩/\PySem.W.codeIn K cdv qual=true
 kp:PySem.W.keepIn K (.ref f)=true
section
variable{P:HU}{w:HW}{K:VA}{mg:Str->A5 A2}{base:H_}
theorem PK.ok{x b:Str}{st:IK}{f:A3}{j:IT}{N ps:A0 Str}{k:Nat}{sp:Sp}(F:PK K x b st f j)(S:HZ N ps (B6 st))(e:∀vs H Q E,sp vs H Q E->vs.length=ps.length)
  (d:∀(c:A2) (A:IA) (a:A0 QQ) (s:A4) (H:Hp) (vs:A0 V) (Q:VK) (E:XK),JT k (A.deeper (envOfC b (B6 st) s.heap.objs.size f c))->sp vs H Q E ->
   ∃t,QE (Yp JP P w K mg base N b (B6 st) f c A a s H E).nox (S0 st) t/\t { nx:=λ_ H'=>Q .non H',rt:=Q } (Eg N vs) H):II P w K mg base JP (k+1) f j ps sp:=by
 obtain⟨o,p,kV,l,r,u,c,v,m,rfl,lk,g⟩:=F.ex;refine zFn lk g S e λA a s H vs Q E n i=>?_;obtain⟨t,h,q⟩:=d c A a s H vs Q E n i;exact⟨t,h.nox,q⟩
theorem PK.binds{x a:Str}{st:IK}{f:A3}{g:IT}{ps:A0 Str}(F:PK K x a st f g)
  (h:∀(kV b d:A2) (e:A5 A3) (c ct:A2) (us:A0 A2),us.length=ps.length->bindArgs (PySem.W.fnOf x a (T8 st) (S0 st) (B6 st) .none kV b d e c ct) ⟨us,[]⟩=pure (ps.zip us)):Binds K g ps []:=by
 obtain⟨k,l,kV,b,d,e,c,ct,i,rfl,lk,j⟩:=F.ex;exact .all (h kV b d e c ct)
theorem KB{x a:Str}{st:IK}{f:A3}{i:A2}{j g:A5 A3}{e:HS (A5 A2)}{kV d h b ct:A2}(l:K.lookup f=some ⟨i,j,.func (PySem.W.fnOf x a (T8 st) (S0 st) (B6 st) .none kV d h g b ct),e⟩)
  (c:PySem.W.codeIn K b a=true) (k:PySem.W.keepIn K (.ref f)=true):PK K x a st f (PySem.W.fnOf x a (T8 st) (S0 st) (B6 st) .none kV d h g b ct):=⟨⟨i,j,kV,d,h,g,b,ct,e,rfl,l,c⟩,k⟩
end
def Q2{A:IA}{k:Nat}(a:JT k A):A.units+1<cLine:=Nat.lt_of_le_of_lt (ED (by decide:1<=64) _) a.units
section
variable{X:Cx}
theorem pv(i:Nat){x:Str}{a:Pos}(c:X.N[i]?=some x:=by rfl)(d:Vis X.env.scope x:=by first | exact Or.inl rfl | exact Or.inr (Or.inl rfl) | exact Or.inr (Or.inr rfl))(e:(x ==("__debug__":Str))=false:=by decide)
  (b:(x ==("__classdict__":Str))=false:=by decide):PE X (.Name x a) (X8 i):=zCo c d e b
def N8{A B:Prop}(h:B):if false=true then A else B:=by
 rw[AI BE];exact h
def Z0{A B:Prop}(h:A):if true=true then A else B:=by
 rw[AO rfl];exact h
def Y7{c A B:Prop}[Decidable c](h1:c->A)(h2:¬c->B):if c then A else B:=by
 by_cases h:c
 .rw[AO h];exact h1 h
 .rw[AI h];exact h2 h
def Cv(H H':Hp):Prop:=∀b o,H b=some o->H' b=some o
def Cv.refl(H:Hp):Cv H H:=λ_ _ h=>h
def Cv.trans{H d e:Hp}(a:Cv H d)(b:Cv d e):Cv H e:=λc o h=>b c o (a c o h)
def Cv.free{H H':Hp}(e:Cv H H'){l:A3}(h:H' l=Option.none):H l=Option.none:=by
 cases q:H l with
 | none=>rfl
 | some o =>
  rw[e l o q]at h;cases h
section
variable{Z:Type}[DecidableEq Z]
theorem Pg{kvs:A0 (Z×V)}{k:Z}{v:V}(h:V8 kvs k=some v):k∈kvs.map (·.1):=by
 have q:(kvs.any λa=>decide (a.1=k))=true:=by
  rw[m8,h]
  all_goals rfl
 obtain⟨p,b,e⟩:=GP.mp q;exact BJ.mpr ⟨p,b,BV e⟩
end
def LS(X:Cx)(a:KM)(cl:A0 (Str×A3))(N':A0 Str)(b:A0 (A3×Obj))(ex:A0 A3)(c:A4)(d:Hp):Cx where
 prog:=X.prog
 w:=X.w
 K:=X.K
 mg:=X.mg
 base:=X.base
 A:=X.A
 N:=N'
 s₀:=c
 H₀:=d
 env:=compEnvC a cl c.heap.objs.size X.env
 outer:=X.stack
 stack:=X.stack
 ex:=ex
 fn:=λ_=>false
 calm:=X.calm
 pn:=X.pn++b
 xe:=λ_ _=>False
def NX(X:Cx)(a:KM)(cl:A0 (Str×A3)):A0 Str->A0 (A5 Nat)->Prop
 | [],[]=>True
 | _::N,none::c=>NX X a cl N c
 | x::N,some j::c=>(X.N[j]?=some x/\X.env.scope.names.lookup x=some .cell/\(relabel a X.env).names.lookup x=some .cell/\cl.lookup x=X.env.cells.lookup x)/\NX X a cl N c
 | _,_=>False
def QP(X:Cx):A0 (Str×A3)->Prop
 | []=>True
 | p::r=>X.env.cells.lookup p.1=some p.2/\QP X r
structure MJ(X:Cx)(scope:KM)(cl:A0 (Str×A3))(N':A0 Str)(cap:A0 (A5 Nat)):Prop where
 kind:scope.kind = .function
 nocell:∀y∈scope.names,y.2≠ .cell
 loc:∀y∈scope.names,y.2 = .local->scope.names.lookup y.1=some .local
 clos:closureFor scope X.env=pure cl
 cin:QP X cl
 has:((relabel scope X.env).names.all λy=>!(y.2 == .cell||y.2 == .free)||(cl.lookup y.1).isSome)=true
 caps:NX X scope cl N' cap
def Xr(cap:A0 (A5 Nat))(σ:St):St:=cap.map λo=>o.bind λj=>(σ[j]?).join
def QP.get{X:Cx}:∀{cl:A0 (Str×A3)} {x:Str} {c:A3},QP X cl->cl.lookup x=some c->X.env.cells.lookup x=some c
 | [],_,_,_,h=>by simp at h
 | (y,d)::r,x,c,⟨a,b⟩,h=>by
  rw[List.lookup_cons]at h;cases e:x == y with
  | true =>
   rw[e]at h;cases h;rw[beq_iff_eq.mp e];exact a
  | false =>
   rw[e]at h;exact QP.get b h
def NX.len{X:Cx}{a:KM}{cl:A0 (Str×A3)}:∀{N:A0 Str} {cap:A0 (A5 Nat)},NX X a cl N cap->cap.length=N.length
 | [],[],_=>rfl
 | _::N,none::c,h=>by rw[BQ,BQ,NX.len (N:=N) (cap:=c) h]
 | _::N,some j::c,h=>by rw[BQ,BQ,NX.len h.2]
 | [],_::_,h=>h.elim
 | _::_,[],h=>h.elim
def NX.get{X:Cx}{a:KM}{cl:A0 (Str×A3)}{j:Nat}{x:Str}:∀{N:A0 Str} {cap:A0 (A5 Nat)} {i:Nat},NX X a cl N cap->N[i]?=some x->cap[i]?=some (some j) ->
  X.N[j]?=some x/\X.env.scope.names.lookup x=some .cell/\(relabel a X.env).names.lookup x=some .cell/\cl.lookup x=X.env.cells.lookup x
 | [],_,_,_,h,_=>by simp at h
 | _::_,[],_,_,_,h=>by simp at h
 | y::N,none::c,0,_,_,h=>by simp at h
 | y::N,none::c,i+1,h,b,d=>NX.get (N:=N) (cap:=c) (i:=i) h (by simpa using b) (by simpa using d)
 | y::N,some k::c,0,h,b,d=>by
  simp at b d;subst b;subst d;exact h.1
 | y::N,some k::c,i+1,h,b,d=>NX.get (N:=N) (cap:=c) (i:=i) h.2 (by simpa using b) (by simpa using d)
section
variable{X:Cx}{scope:KM}{cl:A0 (Str×A3)}{N':A0 Str}{cap:A0 (A5 Nat)}{pins:A0 (A3×Obj)}{σ:St}{H3:Hp}{s3:A4}{ex:A0 A3}
theorem Ed{p:NW->Bool}:∀{names:A0 (Str×NW)} {q:Str->NW->Bool} {x:Str} {k:NW},(names.all λy=>q y.1 y.2)=true->names.lookup x=some k->q x k=true
 | [],_,_,_,_,h=>by simp at h
 | (y,d)::r,q,x,k,a,h=>by
  rw[List.all_cons,DB]at a;rw[List.lookup_cons]at h;cases e:x == y with
  | true =>
   rw[e]at h;cases h;rw[beq_iff_eq.mp e];exact a.1
  | false =>
   rw[e]at h;exact Ed (p:=p) (names:=r) (q:=q) a.2 h
theorem Inv.block(I:Inv X pins σ H3 s3)(S:MJ X scope cl N' cap)(hc:X.calm=true)(t:∀b∈ex,Dp X pins H3 b/\∃o,s3.heap.get? b=some o){h1:H_}{T:Nat}
  (G:h1.Ns s3.heap.objs.size (λ_=>none)) (B:∀b o,s3.heap.get? b=some o->h1.get? b=some o) :
  Inv (LS X scope cl N' pins ex s3 H3) [] (Xr cap σ) H3 { s3 with heap:=h1,toks:=T }:=by
 have C:∀b o,s3.heap.get? b=some o->b≠s3.heap.objs.size:=λb o e=>BA (AG e);have w:∀x c,cl.lookup x=some c->∃v,s3.heap.IsCell c v:=λx c e=>I.cell x c (S.cin.get e);have A:H3 s3.heap.objs.size=none:=I.hok.fresh (VD _);refine⟨⟨I.ok.mod,?_,I.ok.glob,I.ok.blt,VD _,λx y c H g=>I.ok.inj x y c (S.cin.get H) (S.cin.get g),λx U=>?_,λx c h _=>absurd h BE,I.ok.hd,I.ok.frames,.inl rfl,λb D=>?_,I.bs,VE I.ok.bsz I.sz,λb o e D=>?_,λb D=>?_,I.stack,I.stkFree⟩,
  rfl,I.bare,Un.kept B,⟨_,G,λi x v H g e3=>?_⟩,λx c e=>?_,A,λx c e=>I.freeC x c (S.cin.get e),λp V=>?_,I.hok.kept B,?_⟩
 .exact S.kind
 .have q:∀k,(relabel scope X.env).names.lookup x=some k->(!(k == .cell||k == .free)||(cl.lookup x).isSome)=true:=λk e=>Ed (p:=λ_=>true) (q:=λa k=>!(k == .cell||k == .free)||(cl.lookup a).isSome) S.has e;have J:(relabel scope X.env).names.lookup x=some .cell\/(relabel scope X.env).names.lookup x=some .free:=U;have:(cl.lookup x).isSome=true:=by
   rcases J with e | e
   .exact q _ e
   .exact q _ e
  exact FM.mp this
 .obtain⟨⟨_,_,_,_,W,_⟩,o,e⟩:=t b D;exact⟨C b o e,λx c E=>W x c (S.cin.get E)⟩
 .obtain⟨⟨f0,P,Q,f3,_⟩,_⟩:=t b D;rcases f3 with f3 | f3
  .exact I.ok.noex b o e f3
  .have:=(I.ok.bs b o e).1;exact absurd (BI (AG this) f3) (CZ _)
 .intro K;obtain⟨⟨_,P,Q,_⟩,_⟩:=t b D;rcases AW.mp (I.stkSub b K)with z | z
  .exact P z
  .exact Q z
 .unfold Xr at g;rw[AH]at g;cases E:cap[i]? with
  | none=>rw[E]at g;cases g
  | some o =>
   rw[E]at g;cases o with
   | none=>cases g
   | some j =>
    have f:(σ[j]?).join=some v:=BT g;obtain⟨Y,R,Z,c4⟩:=S.caps.get H E;have F:σ[j]?=some (some v):=by
     cases F:σ[j]? with
     | none=>rw[F]at f;cases f
     | some z=>rw[F]at f;cases z with
      | none=>cases f
      | some z=>cases f;rfl
    obtain⟨m,hn,hl⟩:=I.loc;obtain⟨u,r,l⟩:=hl j x v Y F (.inr (.inl R));refine⟨u,r,?_⟩;rcases l with⟨k,_⟩ | ⟨_,c,L,s⟩
    .have:X.env.scope.names.lookup x=some .local:=k;rw[R]at this;cases this
    .exact .inr ⟨.inl Z,c,c4.trans L,let⟨o,M,N⟩:=s;⟨o,B _ _ M,N⟩⟩
 .obtain⟨v,o,M,N⟩:=w x c e;exact⟨v,o,B _ _ M,N⟩
 .have O:p∈X.pn++pins:=by simpa [LS] using V
  obtain⟨e,n,ne,nf,d⟩:=I.pin p O;refine⟨B _ _ e,n,C _ _ e,λK=>?_,d⟩;rcases AW.mp (I.stkSub p.1 K)with z | z
  .exact ne z
  .exact nf z
 .unfold Xr;rw[AB];exact S.caps.len
theorem Inv.unblock{σ':St}{H':Hp}{s':A4}{h':H_}(I:Inv X pins σ H3 s3)(g:∀b∈ex,Dp X pins H3 b)(J:Inv (LS X scope cl N' pins ex s3 H3) [] σ' H' s')(f:Heap.SameBut s3.heap.objs.size s'.heap h') :
  Inv X pins σ H' { s' with heap:=h' }:=by
 have d:H' s3.heap.objs.size=none:=J.free;refine I.call' (ch:=ex) J.os ⟨λb o e n h a=>?_,λb o e n h a=>?_,λb o e n a=>?_,λb o e a=>?_,J.base.tups,J.base.frzs,J.base.tbls⟩ (λb j e=>?_) J.bare λb i=>?_
 .exact(f.2 b (BA (AG e))).trans (J.base.keep b o e n h a)
 .obtain⟨k,q⟩:=J.base.slot b o e n h a;exact⟨k,(f.2 b (BA (AG e))).trans q⟩
 .exact J.base.free b o e n a
 .obtain⟨l,q⟩:=J.base.there b o e a;exact⟨l,(f.2 b (BA (AG e))).trans q⟩
 .refine(J.hok b j e).stay (λc u m q=>(f.2 c ?_).trans q) (λ_ q=>q) λ_ _ q=>q;rintro rfl;rcases m with z | z
  .rw[<-z,d]at e;cases e
  .rw[d]at z;cases z
 .obtain⟨_,p,_,r,s,t⟩:=g b i;exact⟨r,p,s,t⟩
end
def Ky(e:IB)(d:Nat)(iter tg:IB)(ifs:A0 IB)(b:Sem Fin->Sem Fin)(g f:A2)(a:QQ):Sem Fin:=do
 standAt iter.pos
 match <-pyNext g with
 | none=>pure (.done .next)
 | some v =>
  letOwnedTupleGo tg g v
  assign tg a v
  let mut h:=true
  for c in ifs do
   if h then h <-isTrue c a (eval c a)
  if h then b (again (.compLoop e d g f a))else again (.compLoop e d g f a)
def emL(a:IB)(b:A2)(c:QQ)(k:Sem Fin):Sem Fin:=(do let _ <-call (.builtin "list.append") [b,<-eval a c]:Sem Unit) >>= λ_=>k
def emD(a b:IB)(D:A3)(c:QQ)(k:Sem Fin):Sem Fin:=(do
   let d <-eval a c
   let e <-holding [d] (eval b c)
   standAt { a.pos with endLine:=b.pos.endLine,endCol:=b.pos.endCol }
   holding [d,e] (dictSet D d e):Sem Unit) >>= λ_=>k
def Dx(b tg iter:IB)(ifs:A0 IB)(a:KM)(e:Pos)(f c:A2)(d:QQ) :
  compTurn (.ListComp b [⟨tg,iter,ifs,0⟩] a e) 0 f c d=Ky (.ListComp b [⟨tg,iter,ifs,0⟩] a e) 0 iter tg ifs (emL b c d) f c d:=rfl
def Ec(k v tg iter:IB)(ifs:A0 IB)(a:KM)(c:Pos)(d:A2)(D:A3)(b:QQ) :
  compTurn (.DictComp k v [⟨tg,iter,ifs,0⟩] a c) 0 d (.ref D) b=Ky (.DictComp k v [⟨tg,iter,ifs,0⟩] a c) 0 iter tg ifs (emD k v D b) d (.ref D) b:=rfl
abbrev RP:=St->Hp->(St->Hp->Prop)->Prop
def PEm(X:Cx)(b:Sem Fin->Sem Fin)(t:RP):Prop :=
 ∀(a:A0 (A3×Obj)) (s:A4) (σ:St) (H:Hp) (Q:St->Hp->Prop) (k:Sem Fin) (F:Fin->A4->Prop) (E:A2->A4->Prop),Inv X a σ H s->t σ H Q ->
  (∀c σ' d,Inv X a σ' d c->Q σ' d->wpAny (model X.prog X.w) X.A k F E c)->wpAny (model X.prog X.w) X.A (b k) F E s
def SJ(X:Cx)(ifs:A0 IB)(t:TT):Prop :=
 ∀(a:A0 (A3×Obj)) (s:A4) (σ:St) (H:Hp) (Q:Bool->Hp->Prop),Inv X a σ H s->t σ H Q ->
  wpAny (model X.prog X.w) X.A (forIn ifs true λc r=>if r=true then do let b <-isTrue c X.env (eval c X.env);pure (ForInStep.yield b)else pure (ForInStep.yield r)) (TP X a σ Q) X.xe s
def Ev:TT:=λ_ H Q=>Q true H
def P0{X:Cx}:SJ X [] Ev:=λ_ _ _ H _ I h=>wpAny_tests_nil ⟨H,I,h⟩
def K5{X:Cx}{c:IB}{t:TT}(h:PT X c t):SJ X [c] t:=λa s σ H Q I q=>wpAny_tests_one (h a s σ H Q I q)
def Au(g:TG)(e:TT)(em:RP)(J:It)(σ:St)(H:Hp)(Q:St->Hp->Prop):Prop :=
 ∃W:Nat->Nat->St->Hp->Prop,(∃m,W 0 m σ H)/\∀i m σ H,W i m σ H->(J.stop i H/\Q σ H)\/(J.go i H/\∀x c,J.yld i H x c->g x σ c λσ2 f=>e σ2 f λb d =>
  if b=true then em σ2 d λσ3 h=>∃a,a < m/\W (i+1) a σ3 h else ∃a,a < m/\W (i+1) a σ2 d)
section
variable{X:Cx}{e tg iter:IB}{d:Nat}{ifs:A0 IB}{emit:Sem Fin->Sem Fin}{it:A3}{acc:A2}{g:TG}{tc:TT}{em:RP}{J:It}{fp:A0 A3}{tn:Nat->H_->Prop}{R:Result->A4->Prop}
theorem o7(G:X.A.under (.compLoop e d (.ref it) acc X.env)=X.A)(t:(model X.prog X.w).den (.compLoop e d (.ref it) acc X.env) =(compTurn e d (.ref it) acc X.env).onRaise (λx=>do noteFrame x X.env;theTreesLotGoes x))(V:X.calm=true)(L:X.xe=λ_ _=>False)(M:compTurn e d (.ref it) acc X.env=Ky e d iter tg ifs emit (.ref it) acc X.env)(hg:PG X tg g)(ht:SJ X ifs tc)(N:PEm X emit em)
  (T:MN X.prog X.w X.K tg J fp it tn) {a:A0 (A3×Obj)} {s:A4} {σ:St} {H:Hp} {Q:St->Hp->Prop} (I:Inv X a σ H s) (st:tn 0 s.heap) (Y:∀b∈fp,Dp X a H b) (h:Au g tc em J σ H Q)
  (hR:∀v σ' H',Inv X a σ' H' v->Q σ' H'->R (.ok .next) v):codeAny (model X.prog X.w) X.A (.compLoop e d (.ref it) acc X.env) R s:=by
 obtain⟨W,⟨m0,w0⟩,y⟩:=h;have c:∀{H':Hp},(∀b∈fp,H' b=none)->∀b∈fp,Dp X a H' b:=λhn b f=>⟨hn b f,(Y b f).2⟩;have Z:∀{α:Type} {m:Sem α} {P:α->A4->Prop} {E:A2->A4->Prop} {s:A4},wpAny (model X.prog X.w) X.A m P X.xe s->wpAny (model X.prog X.w) X.A m P E s:=λq=>by
  rw[L]at q;exact B_ q (λ_ _ z=>z) λ_ _ z=>z.elim
 refine codeAny_loop rfl (λn v=>∃i σ' H',Inv X a σ' H' v/\tn i v.heap/\(∀b∈fp,H' b=none)/\W i n σ' H') (λn s3 hI=>?_) m0 ⟨0,σ,H,I,st,λb f=>(Y b f).1,w0⟩;obtain⟨i,σ3,D,I3,B,C,w3⟩:=hI;rw[G,t];refine wpAny_noted ?_;rw[M];unfold Ky;refine AA (EZ (AA ?_));rcases y i n σ3 D w3 with⟨stop,qn⟩ | ⟨go,step⟩
 .refine B_ (T.done X rfl rfl rfl V i a s3 σ3 D _ I3 (c C) B stop) (λr s4 ⟨O,I4⟩=>?_) λ_ _ z=>z;subst O;exact AE (hR s4 σ3 D I4 qn)
 .refine B_ (T.item X rfl rfl rfl V i a s3 σ3 D _ I3 (c C) B go) (λr s4 ⟨u,O,h4⟩=>?_) λ_ _ z=>z;subst O;refine AA (B_ h4 (λ_ s5 ⟨x,H5,I5,r5,y5,j,S⟩=>?_) λ_ _ z=>z);have U:=I5.pinned (c S) (T.obj _ _ j);have again:∀{σ7:St} {k:Hp} {l:A4},Inv X (a++Ge fp s5.heap) σ7 k l->(∃F,F < n/\W (i+1) F σ7 k)->∃m,m<n/\∃i σ' H',Inv X a σ' H' l/\tn i l.heap/\(∀b∈fp,H' b=none)/\W i m σ' H':=fun{σ7 k l} p n7=>by
   obtain⟨F,hm,w7⟩:=n7;refine⟨F,hm,i+1,σ7,k,p.unpinned,T.keep _ _ _ j λb f o e=>(p.pin (b,o) (BK _ (BK _ (Y4 f e)))).1,λb f=>?_,w7⟩;obtain⟨o,e,d⟩:=T.obj _ _ j b f;exact(p.pin (b,o) (BK _ (BK _ (Y4 f e)))).2.1
  refine AA (B_ (Z (hg _ s5 σ3 H5 x u _ U r5 (step x H5 y5))) (λ_ s6 ⟨σ6,H6,I6,q6⟩=>?_) λ_ _ z=>z);refine AA (B_ (Z (ht _ s6 σ6 H6 _ I6 q6)) (λok l ⟨k,p,q7⟩=>?_) λ_ _ z=>z);cases ok with
  | false=>exact AE ⟨rfl,again p q7⟩
  | true =>
   exact N _ l σ6 k _ _ _ _ p q7 λs8 σ8 H8 I8 q8=>AE ⟨rfl,again I8 q8⟩
theorem Dt(f:X.A.under (.compStart e d (.ref it) acc X.env)=X.A)(b:(model X.prog X.w).den (.compStart e d (.ref it) acc X.env) =(compStart e d (.ref it) acc X.env).onRaise (λx=>do noteFrame x X.env;standAt theWindowsPlace)){gs:A0 Comprehension}(g:clausesOf e=gs)(k:gs[d]?=some ⟨tg,iter,ifs,0⟩){s:A4}(T:MN X.prog X.w X.K tg J fp it tn)(st:tn 0 s.heap)
  (h:codeAny (model X.prog X.w) X.A (.compLoop e d (.ref it) acc X.env) R s):codeAny (model X.prog X.w) X.A (.compStart e d (.ref it) acc X.env) R s:=by
 refine codeAny_of_tree ?_;rw[f,b];refine wpAny_notedAt ?_;unfold compStart;rw[g,k];show wpAny _ X.A (ask >>= _) _ _ s;refine AA (GQ (wpAny_ite ?_));have j:=T.self X.A 0 s (λa c=>codeAny (model X.prog X.w) X.A (.compLoop e d a acc X.env) R c) (notedBy (model X.prog X.w) X.A X.env λx c=>R (.error x) c) st h;split
 .first
   | exact AA (AE (AE (And.intro rfl h)))
   | exact AE (And.intro rfl h)
 .first
   | exact AA (DF (AA (EZ (AA (B_ j (λa c i=>AE (And.intro rfl i)) λ_ _ x=>x)))))
   | (refine AA (DF ?_);show wpAny _ _ (standAt iter.pos >>= _) _ _ s;exact AA (EZ (AA (B_ j (λa c i=>AE (And.intro rfl i)) λ_ _ x=>x))))
end
section
variable{X:Cx}{tg iter:IB}{ifs:A0 IB}{g:TG}{tc:TT}{em:RP}{scope:KM}{cl:A0 (Str×A3)}{N':A0 Str}{cap:A0 (A5 Nat)}{pos:Pos}{wi:TI}
def Jx(wi:TI)(o:A3->HO)(cap:A0 (A5 Nat))(b:A3->It->St->Hp->(St->Hp->Prop)->Prop):TE:=λσ H Q=>wi σ H λJ a=>∀D,a D=none->b D J (Xr cap σ) (HX a D (o D)) λ_ c=>Q (.ref D) c
theorem Lu{e:IB}{gs:A0 Comprehension}{newAcc:Sem A2}{p2:Pos}(r:clausesOf e =⟨tg,iter,ifs,0⟩::gs)(o:A3->HO)(hs:∀x,foldedSetIterable iter X.env x=pure x)(S:MJ X scope cl N' cap)(hc:X.calm=true)(hi:PI X tg iter wi)
  {lp:A3->It->St->Hp->(St->Hp->Prop)->Prop}
  (t:∀(a:A0 (A3×Obj)) (s:A4) (σ:St) (H:Hp) (Q:A2->A4->Prop) (E:A2->A4->Prop),Inv X a σ H s->(∀l,Inv X a σ (HX H s.heap.objs.size (o s.heap.objs.size)) l->(∀b f,s.heap.get? b=some f->l.heap.get? b=some f)->Q (.ref s.heap.objs.size) l)->wpAny (model X.prog X.w) X.A newAcc Q E s)
  (G:∀(a:A0 (A3×Obj)) (L:A0 A3) (s3:A4) (M:Hp) (D k:A3) (fp:A0 A3) (tn:Nat->H_->Prop) (J:It) (σ:St) (s:A4) (H:Hp) (Q:St->Hp->Prop) (R:Result->A4->Prop),
   MN X.prog X.w X.K tg J fp k tn->Inv (LS X scope cl N' a L s3 M) [] σ H s->tn 0 s.heap->(∀b∈fp,Dp (LS X scope cl N' a L s3 M) [] H b)->lp D J σ H Q ->
   (∀l σ' H',Inv (LS X scope cl N' a L s3 M) [] σ' H' l->Q σ' H'->R (.ok .next) l) ->
   codeAny (model X.prog X.w) X.A (.compLoop e 0 (.ref k) (.ref D) (compEnvC scope cl s3.heap.objs.size X.env)) R s)
  (N:∀k D g,X.A.under (.compStart e 0 (.ref k) (.ref D) g)=X.A) (u:∀k D g,(model X.prog X.w).den (.compStart e 0 (.ref k) (.ref D) g) =(compStart e 0 (.ref k) (.ref D) g).onRaise (λx=>do noteFrame x g;standAt theWindowsPlace))
  (O:∀E Q s,wpAny (model X.prog X.w) X.A (comprehension e scope X.env p2 newAcc false (eval iter X.env)) Q E s->wpAny (model X.prog X.w) X.A (eval e X.env) Q E s) :
  PE X e (Jx wi o cap lp):=by
 intro a s σ H Q I h;refine O _ _ _ (wpAny_comprehension_free (use:=none) r hs S.clos S.kind S.loc (I7 (hi a s σ H _ I h) λv s1 B=>I7 B λitv i h2=>?_));obtain⟨k,fp,tn,J,q,P,I2,T,C,f2,R2⟩:=h2;subst P;refine t a i σ q _ _ I2 λs3 U k3=>?_;have hD:q i.heap.objs.size=none:=I2.hok.fresh (VD _);have n:∀b∈fp,Dp X a (HX q i.heap.objs.size (o i.heap.objs.size)) b/\∃f,s3.heap.get? b=some f:=λb j=>by
  obtain⟨f,e,_⟩:=T.obj _ _ C b j;obtain⟨V,fr⟩:=f2 b j;exact⟨⟨by rw[B7 (BA (AG e))];exact V,fr⟩,f,k3 b f e⟩
 refine wpAny_newFunctionEnv S.nocell (by intro y hy;simp at hy) (λB W Y=>?_) S.kind;have hk:∀b f,s3.heap.get? b=some f->B.get? b=some f:=λb f e=>(Y.2 b (BA (AG e))).trans (AD _ e);have I4:Inv (LS X scope cl N' a fp s3 (HX q i.heap.objs.size (o i.heap.objs.size))) [] (Xr cap σ) (HX q i.heap.objs.size (o i.heap.objs.size)) { s3 with heap:=B,toks:=s3.toks +([]:A0 (Str×A2)).length } :=
  U.block S hc n W hk
 have F:tn 0 B:=T.keep 0 _ _ C λb j f e=>hk b f (k3 b f e);refine Dt (X:=LS X scope cl N' a fp s3 (HX q i.heap.objs.size (o i.heap.objs.size))) (gs:=⟨tg,iter,ifs,0⟩::gs) (e:=e) (d:=0) (tg:=tg) (iter:=iter) (ifs:=ifs) (N _ _ _) (u _ _ _) r rfl T F ?_;refine G a fp s3 _ i.heap.objs.size k fp tn J (Xr cap σ) _ _ _ _ T I4 F (λb j=>?_) (R2 _ hD) λl σ' H' I' q'=>?_
 .obtain⟨⟨V,f1,Z,f3,f4,f5⟩,f,eo⟩:=n b j;refine⟨V,BA (AG eo),λhf=>?_,.inl j,λx c e=>f4 x c (S.cin.get e),λp hp=>f5 p (by simpa [LS] using hp)⟩;rcases AW.mp (U.stkSub b hf)with z | z
  .exact f1 z
  .exact Z z
 .obtain⟨m,hn,_⟩:=I'.loc;exact⟨m,hn,λh' j=>⟨.ref _,H',U.unblock (λb j=>(n b j).1) I' j,rfl,q'⟩⟩
end
section
variable{X:Cx}{tg iter elt:IB}{ifs:A0 IB}{g:TG}{tc:TT}{te:TE}{scope:KM}{cl:A0 (Str×A3)}{N':A0 Str}{cap:A0 (A5 Nat)}{pos:Pos}{wi:TI}
def Y6(D:A3)(te:TE):RP:=λσ H Q=>te σ H λy b=>∃a,b D=some (.lst a)/\a.length<sizeLine/\Q σ (HX b D (.lst (a ++ [y])))
theorem Kk{α:Type}{X:Cx}(a:X.xe=λ_ _=>False){m:Sem α}{P:α->A4->Prop}{E:A2->A4->Prop}{s:A4}(q:wpAny (model X.prog X.w) X.A m P X.xe s):wpAny (model X.prog X.w) X.A m P E s:=by
 rw[a]at q;exact B_ q (λ_ _ z=>z) λ_ _ z=>z.elim
theorem Ko{D:A3}(b:X.xe=λ_ _=>False)(d:PE X elt te):PEm X (emL elt (.ref D) X.env) (Y6 D te):=by
 intro a s σ H Q k F E I h e;unfold emL;refine AA (AA (B_ (Kk b (d a s σ H _ I h)) (λu f ⟨y,g,i,j,l,m,n,o⟩=>?_) λ_ _ z=>z));refine AA (B_ (Kk b (K7 a f σ g (.ref D) [y] (.ref D) [u] (λv c=>v = .non/\Q σ c) i rfl (.cons j .nil) ⟨D,l,y,rfl,rfl,m,n,rfl,o⟩)) (λv p ⟨t,c,q,w,_,r⟩=>?_) λ_ _ z=>z);exact AE (e p σ c q r)
theorem U7(S:MJ X scope cl N' cap)(i:X.calm=true)(hi:PI X tg iter wi)
  (j:∀(a:A0 (A3×Obj)) (c:A0 A3) (d:A4) (f:Hp),PG (LS X scope cl N' a c d f) tg g/\SJ (LS X scope cl N' a c d f) ifs tc/\PE (LS X scope cl N' a c d f) elt te)
  (k:∀x,foldedSetIterable iter X.env x=pure x:=by intro _;rfl) :
  PE X (.ListComp elt [⟨tg,iter,ifs,0⟩] scope pos) (Jx wi (λ_=>.lst []) cap λD J σ H Q=>Au g tc (Y6 D te) J σ H Q):=by
 refine Lu (newAcc:=newList []) (p2:=firstIterPos [⟨tg,iter,ifs,0⟩] pos) rfl (λ_=>.lst []) k S i hi (λa s σ H Q E I h=>?_) (λa c d f D q r tn J σ s H Q R T I st l h m=>?_) (λ_ _ _=>rfl) (λ_ _ _=>rfl) (λE Q s h=>h)
 .refine wpAny_newList ?_;exact h _ (I.lnew (t':=s.toks) (its:=[]) .nil (BP _)) λb t e=>AD _ e
 .obtain⟨n,o,p⟩:=j a c d f;exact o7 (X:=LS X scope cl N' a c d f) rfl rfl i rfl (Dx elt tg iter ifs scope pos _ _ _) n o (Ko rfl p) T I st l h m
def Et(D:A3)(c d:TE):RP:=λσ H Q=>c σ H λy e=>d σ e λv b=>∃a k,b D=some (.dK a)/\y=kV k/\a.length<sizeLine/\Q σ (HX b D (.dK (Bf a k v)))
theorem Ku{D:A3}{a b:IB}{j m:TE}(d:X.xe=λ_ _=>False)(o:PE X a j)(p:PE X b m):PEm X (emD a b D X.env) (Et D j m):=by
 intro c s σ H Q k F E I h t;unfold emD;refine AA (AA (B_ (Kk d (o c s σ H _ I h)) (λu w ⟨y,x,A,B,C⟩=>?_) λ_ _ z=>z));refine AA (BO (B_ (Kk d (p c w σ x _ A C)) (λr G ⟨v,W,n,J,f,kk,e,K,l,L⟩=>?_) λ_ _ z=>z));refine AA (EZ (BO ?_));subst K;obtain⟨z,M,N,g,O⟩:=Uy n.hok e;have P:N.length<=sizeLine:=by rw[<-g.length];exact z
 have R:(Bf f kk v).length<=sizeLine:=by have:=V3 f kk v;lia
 refine wpAny_dictSet_pairs (hsz:=P) (Ho B) O λS i T=>?_;have U:∃q,S.get? D=some q:=let⟨q,_,_,V,_⟩:=i;⟨q,V⟩;exact t _ σ _ (Pu (t':=G.toks+1) n (by rw[e];exact VC) T U (Mi R M (g.put kk J) i)) L
theorem Nh{a b:IB}{j k:TE}(S:MJ X scope cl N' cap)(l:X.calm=true)(hi:PI X tg iter wi)
  (m:∀(c:A0 (A3×Obj)) (d:A0 A3) (f:A4) (i:Hp),PG (LS X scope cl N' c d f i) tg g/\SJ (LS X scope cl N' c d f i) ifs tc/\PE (LS X scope cl N' c d f i) a j/\PE (LS X scope cl N' c d f i) b k)
  (n:∀x,foldedSetIterable iter X.env x=pure x:=by intro _;rfl) :
  PE X (.DictComp a b [⟨tg,iter,ifs,0⟩] scope pos) (Jx wi (λ_=>.dK []) cap λD J σ H Q=>Au g tc (Et D j k) J σ H Q):=by
 refine Lu (newAcc:=newDict) (p2:=firstIterPos [⟨tg,iter,ifs,0⟩] pos) rfl (λ_=>.dK []) n S l hi (λc s σ H Q E I h=>?_) (λc d f i D y z tn J σ s H Q R T I st p h r=>?_) (λ_ _ _=>rfl) (λ_ _ _=>rfl) (λE Q s h=>h)
 .refine BU ?_;exact h _ (I.laid (a:=s.heap.objs.size) (o:=.dK []) (t':=s.toks) (λ_ _ q=>AD _ q) (VD _) (Fj s.heap I.big)) λb A e=>AD _ e
 .obtain⟨t,u,v,w⟩:=m c d f i;exact o7 (X:=LS X scope cl N' c d f i) rfl rfl l rfl (Ec a b tg iter ifs scope pos _ _ _) t u (Ku rfl v w) T I st p h r
end
instance:LawfulBEq IM where
 rfl {a}:=by cases a with
  | inl i=>show(i == i)=true;simp
  | inr x=>show(x == x)=true;simp
 eq_of_beq {a b} h:=by
  cases a with
  | inl i=>cases b with
   | inl j=>exact congrArg Sum.inl (eq_of_beq (show(i == j)=true from h))
   | inr j=>exact absurd h (by intro z;cases z)
  | inr i=>cases b with
   | inl j=>exact absurd h (by intro z;cases z)
   | inr j=>exact congrArg Sum.inr (eq_of_beq (show(i == j)=true from h))
def Os(P:HU)(w:HW)(a:A3)(l:A0 IM):HO:=.ext λh=>h.SetOf (C8 P w) a (λk=>decide (k∈l)) l.length
section
variable{X:Cx}{pins:A0 (A3×Obj)}{σ:St}{H:Hp}{s:A4}{a:A3}{l:A0 IM}
theorem zBx{P:HU}{w:HW}{H:Hp}{h:H_}(z:h.SetOf (C8 P w) a (λk=>decide (k∈l)) l.length):IR P w H h a (Os P w a l) :=
 ⟨z,let⟨o,_,_,_,e,_⟩:=z;⟨o,e⟩,λd f ⟨o,b,c,t,e,r⟩ k=>⟨o,b,c,t,k o e,r⟩⟩
theorem Inv.set(I:Inv X pins σ H s)(e:H a=some (Os X.prog X.w a l)):s.heap.SetOf (C8 X.prog X.w) a (λk=>decide (k∈l)) l.length:=by
 obtain⟨z,_⟩:=(show IR X.prog X.w H s.heap a (Os X.prog X.w a l)from I.hok a _ e);exact z
theorem La{k:IM}{u:A2}(r:RelV (kV k) u):u.scannable=true:=by
 cases k with
 | inl i=>obtain⟨t,rfl⟩:=r;rfl
 | inr x=>obtain⟨t,rfl⟩:=r;rfl
def zEj(l:A0 IM)(k:IM):A0 IM:=if k∈l then l else l ++ [k]
theorem Jk{P:HU}{w:HW}{h:H_}{S b:IM->Bool}{n c:Nat}(z:h.SetOf (C8 P w) a S n)(e:∀k,b k=S k)(en:c=n):h.SetOf (C8 P w) a b c:=by
 have:b=S:=funext e;subst this;subst en;exact z
theorem Ps:J9 X (.type "set") (λxs H Q=>xs = []/\∀p,H p=none->Q (.ref p) (HX H p (Os X.prog X.w p []))):=by
 intro pins s σ H xs c Q I r h;obtain⟨rfl,q⟩:=h;cases r;refine call_set_0 λa=>⟨.ref s.heap.objs.size,_,I.laid (t':=s.toks) (λb o e=>AD _ e) (VD _) (zBx ?_),rfl,q _ (I.hok.fresh (VD _))⟩;exact(setObjOf_fresh a).setOf (AY _ rfl) (by decide)
def zBq(P:HU)(w:HW):V->A0 V->Hp->VK->Prop:=λx b H Q=>∃a l k,x = .ref a/\b = [kV k]/\H a=some (Os P w a l)/\l.length+1<4096/\Q .non (HX H a (Os P w a (zEj l k)))
theorem zDa:PV X "set.add" (zBq X.prog X.w):=by
 intro pins s σ H x r v t Q I g i h;obtain⟨a,l,k,rfl,rfl,c,j,q⟩:=h;cases g;obtain⟨u,rfl,d⟩:=i.one;refine call_set_add (Ho d) (La d) (I.set c) j λy m z=>?_;refine⟨.non,_,I.write (x:=a) (e:=a) (t':=s.toks+1) (by rw[c];exact VC) (.inl rfl) (λb q n e=>(m.2 b n).trans e) (let⟨o,_,_,_,e,_⟩:=z;⟨o,e⟩) (zBx (Jk z (λp=>?_) ?_)),rfl,q⟩
 .unfold zEj;by_cases e:k∈l
  .rw[AO e];by_cases f:p=k
   .subst f;simp[e]
   .simp[f]
  .rw[AI e];simp
 .unfold zEj;by_cases e:k∈l
  .rw[AO e];simp[e]
  .rw[AI e];simp[e]
def zGe(P:HU)(w:HW)(neg:Bool):R2:=λx y H Q=>∃a l k,y = .ref a/\x=kV k/\H a=some (Os P w a l)/\Q (.bl (if neg then !decide (k∈l)else decide (k∈l))) H
theorem Rj:KH X (compareOp .In) (zGe X.prog X.w false):=by
 intro pins s σ H x y v u Q I b c h;obtain⟨a,l,k,rfl,rfl,d,q⟩:=h;cases c;exact wpAny_inSet_of (Ho b) (La b) (I.set d) ⟨.bl (decide (k∈l)),H,I.tok _,rfl,q⟩
end
def Its(x:Str):It:=⟨λi _=>i<x.cps.size,λi H v a=>a=H/\∃c,x.cps[i]?=some c/\v = .str ⟨#[c]⟩,λi _=>i=x.cps.size⟩
def Kl{P:HU}{w:HW}{K:VA}{tg:IB}(a:A3)(x:Str)(t:Tok)(ty:String)(p:["enumerate","zip","dict_itemiterator","dict_reverseitemiterator","odict_iterator","itertools.zip_longest","itertools.pairwise"].contains ty=false)
  (W:∀R:IA,R.handled=none->Walks P w R a [a] [a] x.cps.size (SignAt x) (λi h=>h.IsStrIter a ty x t i))
  (g:∀(A:IA) (i:Nat) (s:A4) (Q:A2->A4->Prop) (E:A2->A4->Prop),s.heap.IsStrIter a ty x t i->Q (.ref a) s->wpAny (model P w) A (pyIter (.ref a)) Q E s):MN P w K tg (Its x) [a] a (λi h=>h.IsStrIter a ty x t i) where
 mem:=by simp
 obj:=λi h st b j=>by
  have e:b=a:=by simpa using j
  subst e;obtain⟨o,e,c,d⟩:=st;exact⟨o,e,λv z=>by rw[d]at z;cases z⟩
 keep:=λi h m st k=>let⟨o,e,r⟩:=st;⟨o,k a (by simp) o e,r⟩
 item:=by
  intro X q y B C i f s σ H E I n st D;subst q y B;obtain⟨F,G,S,J,L,M⟩:=n a (by simp);refine(W X.A (I.ok.hd C)).item i s _ _ D st λv m N T l k=>?_;obtain⟨c,u,U,V⟩:=T;have Y:Inv X f σ H { s with heap:=m,toks:=N }:=I.turned (λb o j e=>k b o (by simpa using j) e) F G J L M;obtain⟨o,e,Z,d⟩:=id l;exact⟨v,rfl,Vj (s:={ s with heap:=m,toks:=N }) e Z d p ⟨.str ⟨#[c]⟩,H,Y,⟨u,V⟩,⟨rfl,c,U,rfl⟩,l,λb j=>(n b j).1⟩⟩
 done:=by
  intro X q y B C i f s σ H E I n st D;subst q y B;obtain⟨F,G,S,J,L,M⟩:=n a (by simp);have O:i=x.cps.size:=D;subst O;exact(W X.A (I.ok.hd C)).done s _ _ st λm N k=>⟨rfl,I.turned (λb o j e=>k b o (by simpa using j) e) F G J L M⟩
 self:=λA i s Q E st h=>g A i s Q E st h
section
variable{X:Cx}{tg:IB}
def zHn(a:TE):TI:=λσ H R=>a σ H λx b=>∃z,x = .str z/\R (Its z) b
theorem Xd{l:IB}{tl:TE}(m:PE X l tl):PI X tg l (zHn tl):=by
 intro a s σ H R I h;refine I7 (m a s σ H _ I h) λv s1 ⟨x,n,g,p,r⟩=>?_;obtain⟨z,e,q⟩:=r;subst e;obtain⟨t,rfl⟩:=p;have f:∀(o:Obj) (ty:String),o.cls = .type ty->o.data = .fields #[.str z t,.int (0:Nat) 0]->o.isFreed=false->MN X.prog X.w X.K tg (Its z) [s1.heap.objs.size] s1.heap.objs.size (λi h=>h.IsStrIter s1.heap.objs.size ty z t i) ->
   PIE X a σ tg R (.ref s1.heap.objs.size) { s1 with heap:=s1.heap.push o }:=λo ty c d u T=>by
  refine⟨s1.heap.objs.size,[s1.heap.objs.size],_,_,n,rfl,g.kept (t':=s1.toks) λb o e=>AD _ e,T,⟨o,AY _ u,c,d⟩,λb y=>?_,q⟩;have e:b=s1.heap.objs.size:=by simpa using y
  subst e;exact g.fpOk (VD _) (g.hok.fresh (VD _))
 cases k:z.cps.all (· < 128)
 .exact wpAny_pyIter_wide k (f _ _ rfl rfl rfl (Kl _ z t "str_iterator" (by decide) (λB j=>Walks.strWide j _ z t) λA i s Q E st h=>wpAny_pyIter_striter_wide st h))
 .exact wpAny_pyIter_ascii k (f _ _ rfl rfl rfl (Kl _ z t "str_ascii_iterator" (by decide) (λB j=>Walks.strAscii j _ z t) λA i s Q E st h=>wpAny_pyIter_striter_ascii st h))
end
theorem Vp(E:X.calm=true):J9 X (.builtin "all") (λxs H Q=>∃(p:A3) (bs:A0 Bool),xs = [.ref p]/\IC X.K H p (bs.map V.bl)/\Q (.bl (bs.all id)) H):=by
 intro B s σ H xs M Q I r h;obtain⟨p,bs,rfl,F,q⟩:=h;obtain⟨u,rfl,t⟩:=X4 r;cases t;obtain⟨a,w,x,N⟩:=I.list F;refine call_all_walk (FI x.isList ?_);have y:p≠s.heap.objs.size:=by
  obtain⟨o,n,e,_⟩:=x;exact BA (AG e)
 refine⟨s.heap.objs.size,_,_,_,_,_,λi=>bs.getD i true,rfl,Walks.list (A:=X.A.in1) (show X.A.in1.handled=none from I.ok.hd E) _ p y a.toArray,⟨⟨_,AY _ rfl,rfl,rfl⟩,?_⟩,λi v O P R G J=>?_,λS T k=>?_⟩
 .obtain⟨o,n,e,c,d,L⟩:=x;exact⟨o,AD _ e,c,n,L⟩
 .have f:(bs.map V.bl)[i]?=some (V.bl (bs.getD i true))/\RelV (V.bl (bs.getD i true)) v:=by
   have g:a[i]?=some v:=by simpa using G
   have j:i<a.length:=(AM.mp g).1;have m:=w.length;rw[AB]at m;have e:(bs.map V.bl)[i]?=some (V.bl (bs.getD i true)):=by
    rw[AH,AF (by lia)];simp[CA,AF (show i<bs.length by lia)]
   obtain⟨u,C,t⟩:=w.get e;rw[g]at C;cases C;exact⟨e,t⟩
  cases f.2;exact CY J
 .have m:=w.length;rw[AB]at m;have e:(List.range a.toArray.size).all (λi=>bs.getD i true)=bs.all id:=by
   rw[AR,<-m];rw[F_,EJ,EJ];constructor
   .intro z b f;obtain⟨i,j,rfl⟩:=EA.mp f;have:=z i (DA.mpr j);simpa [CA,AF j] using this
   .intro z i j;have l:=DA.mp j;have:=z bs[i] (DL l);simpa [CA,AF l] using this
  rw[e];exact⟨.bl (bs.all id),H,I.kept λb o D=>k b o (by
   intro f;have:b=s.heap.objs.size:=by simpa using f
   exact absurd (AG D) (by rw[this];exact CZ _)) (AD _ D),rfl,q⟩
theorem Y3:∀{ss:A0 Str} {us:A0 A2},IG (ss.map V.str) us->StrsAre us ss
 | [],_,.nil=>.nil
 | _::_,_,.cons ⟨t,e⟩ r=>by subst e;exact .cons _ _ (Y3 r)
def OG(a b:Str):Prop:=¬b.cps.toList<a.cps.toList
theorem Ae:J9 X (.builtin "sorted") (λxs H Q=>∃(p:A3) (ss:A0 Str),xs = [.ref p]/\IC X.K H p (ss.map V.str)/\∀(l:A3) (a:A0 Str),H l=none->a.Perm ss->a.Pairwise OG->Q (.ref l) (HX H l (.lst (a.map V.str)))):=by
 intro D s σ H xs d Q I r h;obtain⟨p,ss,rfl,J,q⟩:=h;obtain⟨u,rfl,L⟩:=X4 r;cases L;obtain⟨f,E,M,U⟩:=I.list J;have i:=Y3 E;have W:=E.length;refine TS.KP (collect_list (vs:=f) M.isList ?_ (by lia));refine⟨rfl,by lia,strKind,oneType',λY _=>TS.MM i,λout F e N k O=>?_⟩;have g:((s.heap.push (seqObj "list" #[] 0)).update s.heap.objs.size (Obj.mapSeq (· ++ f.toArray))).objs.size=s.heap.objs.size+1:=by rw[GN,size_push']
 obtain⟨j,P⟩:=N;have m:∀v∈out.toList,∃x t,v = .str x t:=λv n=>i.all v (j.mem_iff.mp n);have n:IG ((out.toList.map strOf).map V.str) out.toList:=by
  have:∀d:A0 A2,(∀v∈d,∃x t,v = .str x t)->IG ((d.map strOf).map V.str) d:=by
   intro d
   induction d with
   | nil=>exact λ_=>.nil
   | cons v r R =>
    intro h;obtain⟨x,t,rfl⟩:=h v (AZ ..);exact .cons ⟨t,rfl⟩ (R λu w=>h u (AN _ w))
  exact this _ m
 have c:(out.toList.map strOf).Perm ss:=by
  have:=j.map strOf
  rwa [i.strs]at this
 have z:(out.toList.map strOf).Pairwise OG:=by
  rw[DV];refine(FC.mp P).imp fun{u v} ⟨w,A,q⟩=>?_;obtain⟨x,t,rfl⟩:=m u w;obtain⟨y,t',rfl⟩:=m v A;have S:decide (y.cps.toList<x.cps.toList)=false:=q;exact HD S
 have B:∀b o,s.heap.get? b=some o->F.get? b=some o:=λb o G=>k b o (by
  rw[Heap.get?_update_ne _ _ _ _ (BA (AG G))];exact AD _ G)
 have T:H (s.heap.objs.size+1)=none:=I.hok.fresh (DM _);have C:F.get? (s.heap.objs.size+1)=some (seqObj "list" out e):=by rw[<-g];exact O
 refine⟨.ref (s.heap.objs.size+1),HX H (s.heap.objs.size+1) (.lst ((out.toList.map strOf).map V.str)),?_,by show Value.ref _=_;rw[<-g],q _ _ T c z⟩;refine I.laid (t':=s.toks) B (DM _) ⟨?_,out.toList,e,n,by simpa using C⟩;rw[AB,AB,j.length_eq];lia
def Gd{α β:Type}(f:α->β){l m:A0 β}(h:l.Perm m):∀ps:A0 α,m=ps.map f->∃a:A0 α,a.Perm ps/\l=a.map f:=by
 induction h with
 | nil=>intro ps e;exact⟨ps,.refl _,e⟩
 | cons x _ n =>
  intro ps e;cases ps with
  | nil=>cases e
  | cons p ps =>
   rw[BM]at e;obtain⟨rfl,b⟩:=List.cons.inj e;obtain⟨a,c,d⟩:=n ps b;exact⟨p::a,.cons _ c,by rw[BM,d]⟩
 | swap x y l =>
  intro ps e
  match ps,e with
  | p::q::ps,e =>
   rw[BM,BM]at e;obtain⟨rfl,b⟩:=List.cons.inj e;obtain⟨rfl,o⟩:=List.cons.inj b;exact⟨q::p::ps,.swap _ _ _,by rw[BM,BM,o]⟩
 | trans _ _ g i =>
  intro ps e;obtain⟨j,c,d⟩:=i ps e;obtain⟨k,r,s⟩:=g j d;exact⟨k,r.trans c,s⟩
abbrev IL:=A3×Str×Str
def zGg(q:IL):A0 Nat×A0 Nat:=(q.2.1.cps.toList,q.2.2.cps.toList)
def S_(q r:IL):Prop:=TS.K3 (zGg r) (zGg q)=false
def G6(H:Hp)(q:IL):Prop:=H q.1=some (.tup [.str q.2.1,.str q.2.2])
def Ha:∀{ps:A0 IL} {us:A0 A2},IG (ps.map λq=>V.ref q.1) us->us=ps.map λq=>Value.ref q.1
 | [],_,.nil=>rfl
 | _::_,_,.cons r t=>by rw[BM,Ha t];cases r;rfl
def Ga:∀(ps:A0 IL),IG (ps.map λq=>V.ref q.1) (ps.map λq=>Value.ref q.1)
 | []=>.nil
 | _::ps=>.cons rfl (Ga ps)
theorem Inv.pairAt{a:A0 (A3×Obj)}{σ:St}{H:Hp}{s:A4}{q:IL}(I:Inv X a σ H s)(h:G6 H q):TS.MG s.heap (.ref q.1) q.2.1 q.2.2:=by
 obtain⟨b,f,⟨o,e,c,n,d⟩,_⟩:=I.tuple (IZ.of h);obtain⟨i,j,rfl,⟨t,rfl⟩,⟨g,rfl⟩⟩:=f.two;exact⟨q.1,o,n,t,g,rfl,e,c,d⟩
theorem Gv:J9 X (.builtin "sorted") (λxs H Q=>∃(p:A3) (ps:A0 IL),xs = [.ref p]/\IC X.K H p (ps.map λq=>V.ref q.1)/\(∀q∈ps,G6 H q) /\
  ∀(l:A3) (c:A0 IL),H l=none->c.Perm ps->c.Pairwise S_->Q (.ref l) (HX H l (.lst (c.map λq=>V.ref q.1)))):=by
 intro A s σ H xs us Q I r h;obtain⟨p,ps,rfl,j,w,q⟩:=h;obtain⟨u,rfl,M⟩:=X4 r;cases M;obtain⟨d,B,N,C⟩:=I.list j;have D:=Ha B;have hl:=B.length;refine TS.KP (collect_list (vs:=d) N.isList ?_ (by lia));have f:((s.heap.push (seqObj "list" #[] 0)).update s.heap.objs.size (Obj.mapSeq (· ++ d.toArray))).objs.size=s.heap.objs.size+1:=by rw[GN,size_push']
 have m:∀b o,s.heap.get? b=some o->((s.heap.push (seqObj "list" #[] 0)).update s.heap.objs.size (Obj.mapSeq (· ++ d.toArray))).get? b=some o:=λb o g=>by
  rw[Heap.get?_update_ne _ _ _ _ (BA (AG g))];exact AD _ g
 have i:∀q∈ps,TS.MG s.heap (.ref q.1) q.2.1 q.2.2:=λq j=>I.pairAt (w q j);refine⟨rfl,by lia,TS.pairKind s.heap,tuples' true,λs2 O=>TS.QB (λv E=>?_) (λb o g=>?_),λout P e R k S=>?_⟩
 .rw[D]at E;obtain⟨q,j,rfl⟩:=BJ.mp E;exact⟨_,_,i q j⟩
 .have n:b≠((s.heap.push (seqObj "list" #[] 0)).update s.heap.objs.size (Obj.mapSeq (· ++ d.toArray))).objs.size:=by
   rw[f];exact BA (EU (AG g))
  exact⟨n,O b o n (m b o g)⟩
 .obtain⟨F,G⟩:=R;rw[D]at F;obtain⟨c,t,J⟩:=Gd (λq:IL=>Value.ref q.1) F ps rfl;have x:c.Pairwise S_:=by
   rw[J,DV]at G;refine(FC.mp G).imp fun{a b} ⟨T,U,z⟩=>?_;have W:=(i a (t.mem_iff.mp T)).key;have Y:=(i b (t.mem_iff.mp U)).key;have L:TS.K3 ((TS.NM s.heap (.ref b.1)).getD ([],[])) ((TS.NM s.heap (.ref a.1)).getD ([],[]))=false:=z;rw[W,Y]at L;exact L
  have Z:H (s.heap.objs.size+1)=none:=I.hok.fresh (DM _);have y:P.get? (s.heap.objs.size+1)=some (seqObj "list" out e):=by rw[<-f];exact S
  refine⟨.ref (s.heap.objs.size+1),HX H (s.heap.objs.size+1) (.lst (c.map λq=>V.ref q.1)),?_,by show Value.ref _=_;rw[<-f],q _ _ Z t x⟩;refine I.laid (t':=s.toks) (λb o g=>k b o (m b o g)) (DM _) ⟨?_,out.toList,e,by rw[J];exact Ga c,by simpa using y⟩;rw[AB,t.length_eq];rw[AB]at C;exact C
end
def Inv.turnLaid{X:Cx}{d:A0 (A3×Obj)}{σ:St}{H:Hp}{s:A4}{h':H_}{t':Nat}{fp:A0 A3}{T:A3}{o:HO}(I:Inv X d σ H s)(k:∀b a,b∉fp->s.heap.get? b=some a->h'.get? b=some a)
  (i:∀b∈fp,Dp X d H b) (x:∀b∈fp,∃a,s.heap.get? b=some a) (l:s.heap.objs.size<=T) (j:IR X.prog X.w (HX H T o) h' T o):Inv X d σ (HX H T o) { s with heap:=h',toks:=t' }:=by
 have h:=I.hok.fresh l;have y:∀b a,s.heap.get? b=some a->b≠T:=λb a e=>BA (BI (AG e) l);have p:∀b u,H b=some u->b∉fp:=λb u e f=>by rw[(i b f).1]at e;cases e
 refine I.step (g':=s.gens) (d':=s.drawn) (ch:=fp) (λb f=>let⟨_,A,_,B,C,D⟩:=i b f;⟨B,A,C,D⟩) (λb a _ _ g e _=>k b a g e) (λb a _ _ g e _=>⟨a.slots,k b a g e⟩) (λb a _ e n=>by rw[B7 (y b a e)];exact n)
  (λb a g e=>⟨a,k b a g e⟩) (λb t e=>by rw[B7 (A9 e h)];exact e) (λb u t e=>by rw[B7 (A9 e h)];exact e) (λb ps e=>⟨#[],by rw[B7 (A9 e h),e];simp⟩) (λm E=>?_) (λb u e=>?_) I.bare
 .obtain⟨a,F,G,J,r⟩:=E;exact⟨a,F,G,k _ a (λf=>(i _ f).2.1 rfl) J,r⟩
 .by_cases f:b=T
  .subst f;rw[A7]at e;cases e;exact j
  .rw[B7 f]at e;refine(I.hok b u e).stay (λc v g q=>k c v ?_ q) (λc q=>by rw[B7 (A9 q h)];exact q) λc t q=>by rw[B7 (A9 q h)];exact q
   rcases g with z | z
   .rw[z];exact p b u e
   .exact p c _ z
end L2
namespace ST
open PySem
def stp(mask i:Nat):Nat:=(5*i+1) %(mask+1)
def RA(mask:Nat):Nat->Nat->Nat
 | 0,i=>i
 | t+1,i=>RA mask t (stp mask i)
def orb(mask:Nat):Nat->Nat->A0 Nat
 | 0,_=>[]
 | n+1,i=>i::orb mask n (stp mask i)
def Jj(mask a b i:Nat):RA mask (a+b) i=RA mask b (RA mask a i):=by
 induction a generalizing i with
 | zero=>rw[EL];rfl
 | succ a c=>rw[Nat.succ_add];exact c (stp mask i)
def Qp{mask j:Nat}:∀{n i:Nat},j∈orb mask n i->∃t,t<n/\RA mask t i=j
 | 0,_,h=>by simp[orb]at h
 | n+1,i,h=>by
  rcases AW.mp h with rfl | h
  .exact⟨0,by lia,rfl⟩
  .obtain⟨t,b,a⟩:=Qp h;exact⟨t+1,by lia,a⟩
def RC(mask:Nat):Prop:=mask=7\/mask=31\/mask=127\/mask=511
def QL(mask:Nat):Bool:=(List.range (mask+1)).all (λj=>(orb mask (mask+1) 0).contains j)&&RA mask (mask+1) 0 == 0
def zFr:QL 7=true:=by decide +kernel
def zDp:QL 31=true:=by decide +kernel
def Yn:QL 127=true:=by decide +kernel
def zAb:QL 511=true:=by decide +kernel
def RC.full{mask:Nat}(h:RC mask):QL mask=true:=by
 rcases h with rfl | rfl | rfl | rfl
 .exact zFr
 .exact zDp
 .exact Yn
 .exact zAb
def cyc{mask:Nat}(h:RC mask){i j:Nat}(hi:i<=mask)(l:j<=mask):∃t,t<=mask/\RA mask t i=j:=by
 have f:=h.full;unfold ST.QL at f;rw[DB,EJ]at f;obtain⟨m,d⟩:=f;have d:RA mask (mask+1) 0=0:=by simpa using d
 have c:∀k,k<=mask->∃t,t<mask+1/\RA mask t 0=k:=λk o=>Qp (by simpa using m k (DA.mpr (by lia)));obtain⟨a,p,e⟩:=c i hi;obtain⟨b,q,g⟩:=c j l;by_cases n:a<=b
 .refine⟨b-a,by lia,?_⟩;rw[<-e,<-Jj,show a +(b-a)=b by lia,g]
 .refine⟨mask+1-a+b,by lia,?_⟩;rw[<-e,<-Jj,show a +(mask+1-a+b) =(mask+1)+b by lia,Jj,d,g]
def OX(mask:Nat):Nat->Nat×Nat->Nat×Nat
 | 0,x=>x
 | t+1,x=>OX mask t (SetTable.leap mask x.1 x.2)
def Zy(mask a b:Nat)(x:Nat×Nat):OX mask (a+b) x=OX mask b (OX mask a x):=by
 induction a generalizing x with
 | zero=>rw[EL];rfl
 | succ a c=>rw[Nat.succ_add];exact c _
def Ml(mask:Nat):∀(t:Nat) (x:Nat×Nat),(OX mask t x).2=x.2 / 32^t
 | 0,x=>by simp[OX]
 | t+1,x=>by
  show(OX mask t (SetTable.leap mask x.1 x.2)).2=_;rw[Ml mask t];show x.2 / 32 / 32^t=_;rw[Nat.div_div_eq_div_mul,Nat.pow_succ,Nat.mul_comm]
def Xc(mask:Nat):∀(t:Nat) (x:Nat×Nat),x.1<=mask->(OX mask t x).1<=mask
 | 0,_,h=>h
 | t+1,x,_=>Xc mask t _ (Nat.lt_succ_iff.mp (Nat.mod_lt _ (Nat.succ_pos _)))
def Kt(mask:Nat):∀(t i:Nat),OX mask t (i,0) =(RA mask t i,0)
 | 0,_=>rfl
 | t+1,i=>by
  show OX mask t ((i*5+1+0 / 32) %(mask+1),0 / 32)=_;rw[Nat.zero_div,Nat.add_zero,Kt mask t,Nat.mul_comm];rfl
def Pt{mask:Nat}(h:RC mask){i j p:Nat}(hi:i<=mask)(a:j<=mask)(b:p<2^64):∃t,t<=mask+13/\(OX mask t (i,p)).1=j:=by
 have c:(OX mask 13 (i,p)).2=0:=by
  rw[Ml];exact Nat.div_eq_of_lt (BI b (by decide))
 obtain⟨t,e,d⟩:=cyc h (Xc mask 13 (i,p) hi) a;refine⟨13+t,by lia,?_⟩;rw[Zy];have:OX mask 13 (i,p) =((OX mask 13 (i,p)).1,0):=Prod.ext rfl c;rw[this,Kt];exact d
def NJ(t:IH):Nat->SetTable.Probe->SetTable.Probe
 | 0,p=>p
 | n+1,p=>NJ t n (t.advance p)
def Rk(t:IH)(a b:Nat)(p:SetTable.Probe):NJ t (a+b) p=NJ t b (NJ t a p):=by
 induction a generalizing p with
 | zero=>rw[EL];rfl
 | succ a c=>rw[Nat.succ_add];exact c _
def Qn(t:IH):∀(m:Nat) (p:SetTable.Probe),p.more=m->∃a,NJ t (m+1) p=a/\a.i =(SetTable.leap t.mask p.i p.perturb).1/\a.perturb =(SetTable.leap t.mask p.i p.perturb).2/\a.j=a.i/\a.more=SetTable.runEnd t.mask a.i-a.i/\a.dummy=p.dummy
 | 0,p,h=>by
  have b:t.advance p ={ p with j:=(SetTable.leap t.mask p.i p.perturb).1,more:=SetTable.runEnd t.mask (SetTable.leap t.mask p.i p.perturb).1-(SetTable.leap t.mask p.i p.perturb).1,i:=(SetTable.leap t.mask p.i p.perturb).1,perturb:=(SetTable.leap t.mask p.i p.perturb).2 }:=by
   unfold SetTable.advance;rw[AI (by lia)]
  refine⟨t.advance p,rfl,?_⟩;rw[b];exact⟨rfl,rfl,rfl,rfl,rfl⟩
 | m+1,p,h=>by
  have b:t.advance p ={ p with j:=p.j+1,more:=p.more-1 }:=by unfold SetTable.advance;rw[AO (by lia)]
  obtain⟨a,d,c⟩:=Qn t m (t.advance p) (by rw[b];show p.more-1=m;lia);rw[b]at c;exact⟨a,d,c⟩
def zBj(mask i:Nat):SetTable.runEnd mask i-i<=9:=by unfold SetTable.runEnd;split<;>lia
def Ri(t:IH):∀(n:Nat) (p:SetTable.Probe),p.j=p.i->p.more=SetTable.runEnd t.mask p.i-p.i->∃k,k<=10*n/\(NJ t k p).j =(OX t.mask n (p.i,p.perturb)).1
 | 0,p,a,_=>⟨0,by lia,a⟩
 | n+1,p,a,l=>by
  obtain⟨b,e,c,d,f,g,_⟩:=Qn t p.more p rfl;obtain⟨k,m,h⟩:=Ri t n b f g;have:=zBj t.mask p.i;refine⟨p.more+1+k,by lia,?_⟩;rw[Rk,e,h,c,d];rfl
def Ie(t:IH):∀(n:Nat) (p:SetTable.Probe),(NJ t n p).dummy=p.dummy
 | 0,_=>rfl
 | n+1,p=>by
  show(NJ t n (t.advance p)).dummy=_;rw[Ie t n];unfold SetTable.advance;split<;>rfl
def Qw{t:IH}(a:RC t.mask)(h:Int){j:Nat}(b:j<=t.mask):∃n,n<10*SetTable.turns t.mask/\(NJ t n (t.probeStart h)).j=j:=by
 have c:SetTable.bits h<2^64:=by
  unfold SetTable.bits;have g:0<=h %(2^64:Int):=GC _ (by decide);have i:h %(2^64:Int)<2^64:=FA _ (by decide);lia
 have d:SetTable.bits h %(t.mask+1)<=t.mask:=Nat.lt_succ_iff.mp (Nat.mod_lt _ (Nat.succ_pos _));obtain⟨n,l,e⟩:=Pt a d b c;obtain⟨k,m,f⟩:=Ri t n (t.probeStart h) rfl rfl;refine⟨k,by unfold SetTable.turns;lia,f.trans e⟩
def t9{t:IH}(a:t.dummies = #[])(j:Nat):t.slot j = .empty\/∃i,t.slot j = .live i/\t.place[i]?=some j:=by
 unfold SetTable.slot;dsimp only;by_cases h:(t.place[SetTable.below t.place j]? == some j)=true
 .rw[AO h];exact .inr ⟨_,rfl,by simpa using h⟩
 .rw[AI h];have:SetTable.has t.dummies j=false:=by
   rw[a];unfold SetTable.has;simp
  rw[this];exact .inl rfl
def Oi{t:IH}(c:t.dummies = #[])(f:t.place.size<=t.mask):∃j,j<=t.mask/\t.slot j = .empty:=by
 by_cases h:∃j,j<=t.mask/\t.slot j = .empty
 .exact h
 .exfalso;have a:∀j∈List.range (t.mask+1),j∈t.place.toList:=λj d=>by
   have b:j<=t.mask:=by have:=DA.mp d;lia
   rcases t9 c j with e | ⟨i,_,e⟩
   .exact absurd ⟨j,b,e⟩ h
   .exact BB (by rw[BL];exact e)
  have:=(List.nodup_range (n:=t.mask+1)).length_le_of_subset a;rw[DW,AX]at this;lia
def Wx{t:IH}(o:t.dummies = #[])(hashAt:Nat->Int)(h:Int)(p:SetTable.Probe)(c:p.dummy=none):∀(k m n a:Nat),m+k=n->t.slot (NJ t n p).j = .empty->k<a ->
  (∃j,SetTable.probe.go t hashAt h a (NJ t m p)=some (.empty j none)/\t.slot j = .empty) \/
   ∃l i,m<=l/\l<n/\t.slot (NJ t l p).j = .live i/\hashAt i=h/\SetTable.probe.go t hashAt h a (NJ t m p)=some (.candidate (NJ t l p).j i (NJ t (l+1) p))
 | k,m,n,0,_,_,q=>absurd q (Nat.not_lt_zero _)
 | k,m,n,a+1,e,r,q=>by
  have d:(NJ t m p).dummy=none:=(Ie t m p).trans c;have s:NJ t (m+1) p=t.advance (NJ t m p):=Rk t m 1 p;rcases t9 o (NJ t m p).j with b | ⟨i,b,A⟩
  .refine .inl ⟨(NJ t m p).j,?_,b⟩;unfold SetTable.probe.go;rw[b,d]
  .have B:k≠0:=by
    rintro rfl;have:m=n:=by lia
    subst this;rw[r]at b;cases b
   by_cases f:hashAt i=h
   .refine .inr ⟨m,i,VD _,by lia,b,f,?_⟩;unfold SetTable.probe.go;rw[b];dsimp only;rw[AO (by simpa using f),s]
   .have u:SetTable.probe.go t hashAt h (a+1) (NJ t m p)=SetTable.probe.go t hashAt h a (NJ t (m+1) p):=by
     conv=>lhs;unfold SetTable.probe.go
     rw[b];dsimp only;rw[AI (by simpa using f),s]
    rcases Wx o hashAt h p c (k-1) (m+1) n a (by lia) r (by lia)with⟨j,v,g⟩ | ⟨l,w,v,g,x,y,z⟩
    .exact .inl ⟨j,u.trans v,g⟩
    .exact .inr ⟨l,w,by lia,g,x,y,u.trans z⟩
def Fh{α β:Type}{f g:α->A5 β}:∀{l:A0 α},(∀x∈l,f x=g x)->l.filterMap f=l.filterMap g
 | [],_=>rfl
 | a::r,h=>by
  have b:=h a (AZ ..);have c:=Fh (l:=r) λx d=>h x (AN _ d);rw[EW,EW,b,c]
def Xs{α:Type}{f g:Nat->A5 α}{j:Nat}{k:α}(d:g j=some k)(m:f j=none):∀{l:A0 Nat},l.Nodup->j∈l->(∀i,i≠j->g i=f i)->(l.filterMap g).Perm (k::l.filterMap f)
 | [],_,h,_=>by simp at h
 | i::r,o,h,a=>by
  obtain⟨p,q⟩:=CD.mp o;by_cases e:i=j
  .subst e;have s:r.filterMap g=r.filterMap f:=Fh λx t=>a x λz=>p (z▸t);rw[EN d,GY m,s]
  .have n:=Xs d m q ((AW.mp h).resolve_left λz=>e z.symm) a;cases c:f i with
   | none=>rw[GY ((a i e).trans c),GY c];exact n
   | some b =>
    rw[EN ((a i e).trans c),EN c];exact(List.Perm.cons b n).trans (List.Perm.swap _ _ _)
def SZ(mask:Nat)(a:HS (A5 Nat)):A0 Nat:=(List.range (mask+1)).filterMap λj=>a.getD j none
structure LI(mask:Nat)(ow:HS (A5 Nat))(k:Nat):Prop where
 sz:ow.size=mask+1
 pm:(SZ mask ow).Perm (List.range k)
def Qg{mask:Nat}{b:HS (A5 Nat)}{j:Nat}(c:b[j]?=some none):∀(t a i p:Nat),(OX mask t (i,p)).1=j->t<a->∃d,SetTable.layClean.free mask b a i p=some d/\b[d]?=some none
 | t,0,_,_,_,h=>absurd h (Nat.not_lt_zero _)
 | t,a+1,i,p,e,h=>by
  unfold SetTable.layClean.free;cases q:(List.range (SetTable.runEnd mask i+1-i)).find? λk=>(b.getD (i+k) (some 0)).isNone with
  | some k =>
   refine⟨i+k,rfl,?_⟩;have:=List.find?_some q;rw[CN]at this;cases g:b[i+k]? with
   | none=>rw[g]at this;simp at this
   | some z=>rw[g]at this;simp at this;rw[this]
  | none =>
   dsimp only;cases t with
   | zero =>
    exfalso;have f:i=j:=e;subst f;have l:0∈List.range (SetTable.runEnd mask i+1-i):=DA.mpr (by unfold SetTable.runEnd;split<;>lia);have:=List.find?_eq_none.mp q 0 l;rw[CN,Nat.add_zero,c]at this;simp at this
   | succ t=>exact Qg c t a _ _ e (by lia)
def LI.room{mask:Nat}{a:HS (A5 Nat)}{k:Nat}(h:LI mask a k)(p:k<=mask):∃j,j<=mask/\a[j]?=some none:=by
 by_cases q:∃j,j<=mask/\a[j]?=some none
 .exact q
 .exfalso;have b:∀j∈List.range (mask+1),∃v,a.getD j none=some v:=λj c=>by
   have g:j<a.size:=by rw[h.sz];exact DA.mp c
   cases e:a[j]? with
   | none=>rw[Array.getElem?_eq_none_iff]at e;lia
   | some v =>
    cases v with
    | none=>exact absurd ⟨j,by have:=DA.mp c;lia,e⟩ q
    | some v=>exact⟨v,by rw[CN,e];rfl⟩
  have i:∀l:A0 Nat,(∀j∈l,∃v,a.getD j none=some v)->(l.filterMap λj=>a.getD j none).length=l.length:=by
   intro l
   induction l with
   | nil=>intro _;rfl
   | cons j r m =>
    intro d;obtain⟨v,n⟩:=d j (AZ ..);rw[EN (f:=λj=>a.getD j none) n,BQ,BQ,m λx o=>d x (AN _ o)]
  have:=h.pm.length_eq;unfold SZ at this;rw[i _ b,DW,DW]at this;lia
def LI.put{mask:Nat}{a:HS (A5 Nat)}{k j:Nat}(h:LI mask a k)(c:a[j]?=some none):LI mask (a.setIfInBounds j (some k)) (k+1):=by
 have b:j<a.size:=by
  obtain⟨d,_⟩:=CS.mp c;exact d
 refine⟨by rw[GX];exact h.sz,?_⟩;have p:=Xs (f:=λj=>a.getD j none) (g:=λi=>(a.setIfInBounds j (some k)).getD i none) (j:=j) (k:=k) (by rw[CN,Array.getElem?_setIfInBounds_self_of_lt b];rfl) (by rw[CN,c];rfl)
  (l:=List.range (mask+1)) List.nodup_range (DA.mpr (by rw[<-h.sz];exact b)) λi m=>by
   rw[CN,Array.getElem?_setIfInBounds_ne (Ne.symm m),<-CN]
 have e:List.range (k+1)=List.range k ++ [k]:=List.range_succ;refine p.trans ?_;rw[e];exact(List.Perm.cons k h.pm).trans (CU (l₁:=[k]))
def Zh(h:Int):SetTable.bits h<2^64:=by
 unfold SetTable.bits;have a:0<=h %(2^64:Int):=GC _ (by decide);have b:h %(2^64:Int)<2^64:=FA _ (by decide);lia
def Xq{mask:Nat}(e:RC mask):∀(c:A0 Int) (a:HS (A5 Nat)) (k:Nat),LI mask a k->k+c.length<=mask->∃b,(c.foldl (init:=some (a,k)) λd h=>do
   let(owner,k) <-d
   let j <-SetTable.layClean.free mask owner (SetTable.turns mask) (SetTable.bits h %(mask+1)) (SetTable.bits h)
   pure (owner.setIfInBounds j (some k),k+1))=some (b,k+c.length)/\LI mask b (k+c.length)
 | [],a,k,h,_=>⟨a,rfl,h⟩
 | x::r,a,k,h,g=>by
  rw[BQ]at g;obtain⟨j,l,m⟩:=h.room (by lia);obtain⟨t,u,n⟩:=Pt e (i:=SetTable.bits x %(mask+1)) (j:=j) (Nat.lt_succ_iff.mp (Nat.mod_lt _ (Nat.succ_pos _))) l (Zh x);obtain⟨f,o,p⟩:=Qg m t (SetTable.turns mask) _ _ n (by unfold SetTable.turns;lia);obtain⟨b,q,s⟩:=Xq e r (a.setIfInBounds f (some k)) (k+1) (h.put p) (by lia);refine⟨b,?_,by rw[BQ,show k +(r.length+1)=k+1+r.length by lia];exact s⟩;rw[G_];show List.foldl _ ((SetTable.layClean.free mask a (SetTable.turns mask) (SetTable.bits x %(mask+1)) (SetTable.bits x)).bind λj=>some (a.setIfInBounds j (some k),k+1)) r=_;rw[o];show List.foldl _ (some (a.setIfInBounds f (some k),k+1)) r=_;rw[BQ,show k +(r.length+1)=k+1+r.length by lia];exact q
def Yl{mask:Nat}(h:RC mask)(finger moves:Nat)(led plain:Bool)(c:HS Int)(l:c.size<=mask) :
  ∃place a,SetTable.laid mask finger moves led plain c=some ({ mask,place,dummies:=#[],finger,led,moves,plain },a)/\place.size=c.size/\a.toList.Perm (List.range c.size):=by
 have i:LI mask (Array.replicate (mask+1) none) 0:=by
  refine⟨Array.size_replicate,?_⟩;have:SZ mask (Array.replicate (mask+1) none) = []:=by
   unfold SZ;rw[List.filterMap_eq_nil_iff];intro j m;rw[CN,Array.getElem?_replicate];split<;>rfl
  rw[this];exact List.Perm.refl _
 obtain⟨b,e,d⟩:=Xq h c.toList _ 0 i (by rw[AX];lia);rw[EL,AX]at e d;have k:SetTable.layClean mask c=some b:=by
  unfold SetTable.layClean;rw[<-Array.foldl_toList,e];rfl
 have g:((List.range (mask+1)).filterMap λj=>(b.getD j none).map (j,·)).map (·.2)=SZ mask b:=by
  unfold SZ;rw[List.map_filterMap];refine Fh λj _=>?_;cases b.getD j none<;>rfl
 refine⟨(((List.range (mask+1)).filterMap λj=>(b.getD j none).map (j,·)).map (·.1)).toArray,(((List.range (mask+1)).filterMap λj=>(b.getD j none).map (j,·)).map (·.2)).toArray,?_,?_,?_⟩
 .unfold SetTable.laid;rw[k];rfl
 .rw[AR,AB,<-AB (f:=(·.2)),g,d.pm.length_eq,DW]
 .show(((List.range (mask+1)).filterMap λj=>(b.getD j none).map (j,·)).map (·.2)).Perm _;rw[g];exact d.pm
def Uv{c:HS (Int×A2)}{b:HS Nat}(h:b.toList.Perm (List.range c.size)):(b.filterMap (c[·]?)).toList.Perm c.toList:=by
 rw[Array.toList_filterMap];refine(h.filterMap _).trans (FD ?_);refine FH λt=>?_;have:(List.range c.size).filterMap (λx=>c[x]?)=c.toList:=by
  have:∀(l:A0 (Int×A2)),(List.range l.length).filterMap (λx=>l[x]?)=l:=by
   intro l
   induction l with
   | nil=>rfl
   | cons a r d =>
    rw[BQ,List.range_succ_eq_map,EN (by rfl:(a::r)[0]?=some a),List.filterMap_map];congr 1
  have q:=this c.toList;rw[AX]at q;simpa using q
 rw[this]
section
variable{prog:HU}{w:HW}{K:Type}[DecidableEq K]{knd:KeyKind prog w K}{A:IA}{E:A2->A4->Prop}{s:A4}
structure RZ(t:IH)(n:Nat):Prop where
 dm:t.dummies = #[]
 pl:t.place.size=n
 mm:RC t.mask
 rm:n*5<t.mask*3
theorem RZ.fits{t:IH}{n:Nat}(h:RZ t n):t.fits n=true:=by
 have:=h.rm;have:=h.pl;unfold SetTable.fits SetTable.fill;rw[h.dm];simp;lia
theorem RZ.odd{t:IH}{n:Nat}(h:RZ t n):t.gaveWay=false:=by
 unfold SetTable.gaveWay;rcases h.mm with e | e | e | e<;>rw[e]<;>rfl
def SM(knd:KeyKind prog w K)(a:HS (Int×A2))(b:A0 (A0 K×A3)):Prop:=a.toList.Perm (b.map λq=>((tupleKind knd).hash q.1,Value.ref q.2))
def MZ(knd:KeyKind prog w K)(h:H_)(a:A3)(c:A0 (A0 K×A3)):Prop:=∃o b d t,h.get? a=some o/\o.ExactSet/\o.data = .set b d t/\SM knd b c/\RZ t b.size
theorem SM.get{a:HS (Int×A2)}{b:A0 (A0 K×A3)}(h:SM knd a b){i:Nat}{e:Int×A2}(c:a[i]?=some e):∃k p,(k,p)∈b/\e =((tupleKind knd).hash k,.ref p):=by
 have:e∈a.toList:=BB (by rw[BL];exact c);obtain⟨q,d,rfl⟩:=BJ.mp (h.mem_iff.mp this);exact⟨q.1,q.2,d,rfl⟩
theorem Ca{β:Type}{c:β}{f:A2->β->Sem (ForInStep β)}:∀{l:A0 A2},(∀y∈l,f y c=pure (.yield c))->forIn l c f=pure c
 | [],_=>List.forIn_nil
 | a::r,h=>by
  rw[List.forIn_cons,h a (AZ ..),pure_bind];exact Ca λy b=>h y (AN _ b)
theorem Hf{a:A0 K}{vs:A0 A2}(h:ItemsAre knd a vs):∀v∈vs,∃x,knd.is x v=true:=by
 induction h with
 | nil=>intro v hv;simp at hv
 | cons b _ c =>
  intro v hv;rcases AW.mp hv with rfl | hv
  .exact⟨_,b⟩
  .exact c v hv
def Flat(knd:KeyKind prog w K):Prop:=∀v,(∃x,knd.is x v=true)->carriedByValue v=true
theorem Flat.no{v:A2}(a:Flat knd)(h:∃x,knd.is x v=true)(d:Nat):ofAClassStatement d v=pure false:=by
 have:=a v h;cases v<;>first
  | (cases d<;>rfl)
  | (exact absurd this (by intro z;cases z))
theorem Xf{k:A0 K}{p:A3}{Q:Bool->A4->Prop}(c:Flat knd)(d:(tupleKind knd).is s.heap k p)(h:Q false s):wpAny (model prog w) A (ofAClassStatement 8 (.ref p)) Q E s:=by
 obtain⟨o,a,n,b,e,f,g⟩:=d;have i:s.TypeIs (.ref p) "tuple":=⟨o,b,e⟩;unfold ofAClassStatement;refine AA (EY i ?_);dsimp only;rw[AO (by rfl)];refine AA (AE ?_);simp only[EM,BD,CO];refine AA (DZ b f ?_);dsimp only;rw[<-Array.forIn_toList,Ca λy j=>by rw[c.no (Hf g y j)];rfl];exact AA (AE (AE h))
theorem zBi{m:A0 K}{b:A3}{Q:Bool->A4->Prop}(g:Flat knd)(i:(tupleKind knd).is s.heap m b)(h:Q false s){l:A0 A2}(n:∀v∈l,∃k p,v = .ref p/\(tupleKind knd).is s.heap k p) :
  wpAny (model prog w) A (searchCouldBeSeen (.ref b) l) Q E s:=by
 unfold searchCouldBeSeen;refine AA (wpAny_forIn_list _ (λa c d=>d=s/\c =(none,())/\∀v∈a,v∈l) _ ?_ ?_ l _ ⟨rfl,rfl,λ_ h=>h⟩)
 .rintro v a c d ⟨rfl,rfl,e⟩;obtain⟨k,p,rfl,j⟩:=n v (e v (AZ ..));dsimp only;have o:carriedByValue (Value.ref b)=false:=rfl;rw[o,DP,Bool.or_false];split
  .exact AE ⟨rfl,rfl,λu f=>e u (AN _ f)⟩
  .refine AA ((tupleKind knd).quiet i ?_);simp only[EM,BD,CO];refine AA ((tupleKind knd).quiet j ?_);simp only[EM,BD,CO];refine AA (Xf g i ?_);simp only[BD,CO];refine AA (Xf g j ?_);simp only[BD,CO];exact AE ⟨rfl,rfl,λu f=>e u (AN _ f)⟩
 .rintro c d ⟨rfl,rfl,_⟩;exact AE h
theorem Vz(t:IH):t.sameMemory t.moves t.mask=some true:=by
 unfold SetTable.sameMemory;simp
theorem Kd{a:A3}{o:Obj}{r:HS (Int×A2)}{ep:Nat}{t:IH}{M:A0 (A0 K×A3)}{d:A0 K}{G:A3}{c:Bool}{Q:SetFound->A4->Prop}{n:Nat}
  (hr:(tupleKind knd).room A) (hF:Flat knd) (V:s.heap.get? a=some o) (W:o.data = .set r ep t) (X:SM knd r M) (D:RZ t r.size)
  (H:∀q∈M,(tupleKind knd).is s.heap q.1 q.2) (Y:(tupleKind knd).is s.heap d G) (N:∀q∈M,q.1≠d) (hn:n<10*SetTable.turns t.mask)
  (he:t.slot (NJ t n (t.probeStart ((tupleKind knd).hash d))).j = .empty) (h:∀j,t.slot j = .empty->Q (.free j false) s) :
  ∀(k m b:Nat) (e:A5 SetTable.Probe),e.getD (t.probeStart ((tupleKind knd).hash d))=NJ t m (t.probeStart ((tupleKind knd).hash d))->m+k=n->k<b ->
   wpAny (model prog w) A (setSearchFrom a (.ref G) ((tupleKind knd).hash d) c b e) Q E s:=by
 intro k
 induction k using Nat.strongRecOn with
 | _ k ih =>
  intro m b e O P hf;cases b with
  | zero=>lia
  | succ b =>
   unfold setSearchFrom;refine AA (CG V W D.fits ?_);dsimp only;rw[D.odd];simp only[BD,CO];rw[O];unfold SetTable.probe;rcases Wx D.dm _ ((tupleKind knd).hash d) (t.probeStart ((tupleKind knd).hash d)) rfl k m n (10*SetTable.turns t.mask) P he (by lia)with⟨j,F,Z⟩ | ⟨l,i,h1,h2,F,Z,e3⟩
   .rw[F];dsimp only;exact AE (h j Z)
   .rw[e3];dsimp only;obtain⟨u,I,R⟩:∃u,t.slot (NJ t l (t.probeStart ((tupleKind knd).hash d))).j = .live u/\t.place[u]?=some (NJ t l (t.probeStart ((tupleKind knd).hash d))).j:=by
     rcases t9 D.dm (NJ t l (t.probeStart ((tupleKind knd).hash d))).j with z | z
     .rw[z]at F;cases F
     .exact z
    rw[F]at I;cases I;have S:i<r.size:=by
     have:=(CS.mp R).1;rw[D.pl]at this;exact this
    obtain⟨J,f⟩:∃J,r[i]?=some J:=⟨r[i],CS.mpr ⟨S,rfl⟩⟩;obtain⟨k',p',L,rfl⟩:=X.get f;have B:∀v∈(r.filter (·.1 ==(tupleKind knd).hash d)).toList.map (·.2),∃k p,v = .ref p/\(tupleKind knd).is s.heap k p:=by
     intro v hv;obtain⟨z,hz,rfl⟩:=BJ.mp hv;have T:z∈r.toList:=by
      rw[Array.toList_filter]at hz;exact(AV.mp hz).1
     obtain⟨q,hq,rfl⟩:=BJ.mp (X.mem_iff.mp T);exact⟨q.1,q.2,rfl,H q hq⟩
    have x:wpAny (model prog w) A (do
      let some (_,y):=r[i]? | unsupported "internal:set-entry"
      let g <-holding [y] (eqBool y (.ref G))
      let(U,_,t') <-setState a
      if c&&g then return .there none
      let some same:=t'.sameMemory t.moves t.mask | unsupported "set.changed-during-lookup:is-the-new-block-at-the-old-address"
      let C <-match(if same then t'.slot (NJ t l (t.probeStart ((tupleKind knd).hash d))).j else .empty)with
       | .live u=>match U[u]? with
        | some (_,y')=>do pure (if <-isSame y' y then some u else none)
        | none=>pure none
       | _=>pure none
      match C with
      | none=>rule "set.search.anew";setSearchFrom a (.ref G) ((tupleKind knd).hash d) c b none
      | some u=>if g then return .there (some u)else setSearchFrom a (.ref G) ((tupleKind knd).hash d) c b (some (NJ t (l+1) (t.probeStart ((tupleKind knd).hash d))))) Q E s:=by
     rw[f];dsimp only;refine AA (BO ((tupleKind knd).eqBool hr (H _ L) Y ?_));rw[AK (N _ L)];refine AA (CG V W D.fits ?_);dsimp only;rw[Vz,HH];simp only[BD,CO,GH];rw[F];dsimp only;rw[f];dsimp only;refine AA (wpAny_isSame_ref_self (AA (AE ?_)));simp only[GH];exact ih (n-(l+1)) (by lia) (l+1) b _ rfl (by lia) (by lia)
    cases hled:t.led with
    | true =>
     simp only[EM,BD,CO];exact x
    | false =>
     simp only[HJ,GH];refine AA (zBi hF Y ?_ B);simp only[BD,CO];exact x
theorem Bl{a:A3}{o:Obj}{f:HS (Int×A2)}{ep:Nat}{t:IH}{g:A0 (A0 K×A3)}{d:A0 K}{l:A3}{b:Bool}{Q:SetFound->A4->Prop}
  (m:(tupleKind knd).room A) (p:Flat knd) (r:s.heap.get? a=some o) (u:o.data = .set f ep t) (v:SM knd f g) (c:RZ t f.size)
  (i:∀q∈g,(tupleKind knd).is s.heap q.1 q.2) (x:(tupleKind knd).is s.heap d l) (k:∀q∈g,q.1≠d) (h:∀j,t.slot j = .empty->Q (.free j false) s) :
  wpAny (model prog w) A (setSearch a (.ref l) ((tupleKind knd).hash d) b) Q E s:=by
 obtain⟨j,y,z⟩:=Oi c.dm (by rw[c.pl];have:=c.rm;lia);obtain⟨n,B,e⟩:=Qw c.mm ((tupleKind knd).hash d) y;unfold setSearch;refine Kd m p r u v c i x k B (by rw[e];exact z) h n 0 100000 none rfl (by lia) ?_;have:SetTable.turns t.mask<=526:=by
  unfold SetTable.turns;rcases c.mm with e | e | e | e<;>lia
 lia
theorem MZ.typeIs{a:A3}{b:A0 (A0 K×A3)}(h:MZ knd s.heap a b):s.TypeIs (.ref a) "set":=let⟨o,_,_,_,c,d,_⟩:=h;⟨o,c,d.1⟩
theorem Pn{a:A3}{b:HS (Int×A2)}:byScan (.ref a) b=false:=rfl
theorem Rl{a:A3}{b:A0 (A0 K×A3)}{c:A0 K}{f:A3}{Q:A5 Nat->A4->Prop}(l:(tupleKind knd).room A)(m:Flat knd)(n:MZ knd s.heap a b)
  (d:∀q∈b,(tupleKind knd).is s.heap q.1 q.2) (p:(tupleKind knd).is s.heap c f) (e:∀q∈b,q.1≠c) (h:Q none s):wpAny (model prog w) A (setFind a (.ref f) ((tupleKind knd).hash c)) Q E s:=by
 obtain⟨o,u,v,t,g,_,i,r,k⟩:=n;unfold setFind setFindIn;refine AA (CG g i k.fits ?_);dsimp only;rw[Pn];simp only[BD,CO];refine AA (Bl l m g i r k d p e λj _=>?_);dsimp only;exact AE h
theorem RN{neg:Bool}{a:A3}{d:A0 (A0 K×A3)}{b:A0 K}{e:A3}{Q:A2->A4->Prop}(i:A.units+1<cLine)(k:Flat knd)(c:MZ knd s.heap a d)
  (f:∀q∈d,(tupleKind knd).is s.heap q.1 q.2) (j:(tupleKind knd).is s.heap b e) (g:∀q∈d,q.1≠b) (h:Q (.bool false) { s with toks:=s.toks +(tupleKind knd).draws b }) :
  wpAny (model prog w) A (compareOp .In (.ref e) (.ref a)) Q E s:=by
 show wpAny _ _ (do return .bool (<-contains (.ref a) (.ref e))) Q E s;refine AA ?_;unfold contains
 try with_reducible refine BO ?_
 refine AA (GB c.typeIs F.slot_set_contains.lookup ?_);show wpAny _ _ (if(some (Value.builtin "set.__contains__") == some Value.none)=true then _ else _) _ E s;rw[AI (by rw[beq_builtin_none];exact BE)];refine AA (wpAny_callSpecialUnlessNone?_slot (name:=Str.ofString "__contains__") c.typeIs F.slot_set_contains
  (CI F.slot_set_contains c.typeIs entry_set_contains ?_ (F.args_set_contains_2 _ _)))
 unfold Builtin.«frozenset.__contains__» Builtin.Frozenset.oneOther;simp only[List.isEmpty_nil,bind_assoc];unfold Builtin.Frozenset.addrOf Builtin.Frozenset.withSetAsKey setContains;refine AA (AE ?_)
 try dsimp only
 refine AA (AE ?_)
 try dsimp only
 refine AA (wpAny_tryCatch ?_);refine BO ?_;refine AA ((tupleKind knd).pyHash ?hroom j ?_)
 case hroom=>exact i
 refine AA (Rl (s:={ s with toks:=s.toks +(tupleKind knd).draws b }) ?hroom k c f j g ?_)
 case hroom=>exact i
 refine AE ?_;show wpAny _ _ (ret (Value.bool false)) _ _ _;exact AE ⟨_,rfl,CY (AE h)⟩
def RS(knd:KeyKind prog w K):Prop:=∀v,(∃x,knd.is x v=true)->v.scannable=true
theorem hbv{j:A0 K}{f:A3}{Q:Bool->A4->Prop}(k:RS knd)(l:(tupleKind knd).is s.heap j f)(h:∀b,Q b s):wpAny (model prog w) A (hashByValue 8 (.ref f)) Q E s:=by
 obtain⟨o,d,n,g,m,p,r⟩:=l;have t:s.TypeIs (.ref f) "tuple":=⟨o,g,m⟩;unfold hashByValue;refine AA (GB t F.slot_tuple_hash.lookup ?_);dsimp only;refine AA (DZ g p ?_);dsimp only[Option.getD_some];rw[<-Array.forIn_toList];refine AA (B_ (wpAny_forIn_list _ (λa c e=>e=s/\c =(none,())/\∀v∈a,v∈d.toList) (λc e=>e=s/\(c =(none,())\/c =(some false,()))) ?_ ?_ _ _ ⟨rfl,rfl,λ_ z=>z⟩) ?_ λ_ _ q=>q)
 .rintro v a c e ⟨rfl,rfl,i⟩;rw[hashByValue_scannable _ (k v (Hf r v (i v (AZ ..))))];refine AA (AE ?_);cases plainKind v with
  | true =>
   simp only[EM,BD,CO];exact AE ⟨rfl,rfl,λu x=>i u (AN _ x)⟩
  | false =>
   simp only[HJ,GH];exact AE ⟨rfl,.inr rfl⟩
 .rintro c e ⟨rfl,rfl,_⟩;exact⟨rfl,.inl rfl⟩
 .rintro c e ⟨rfl,rfl | rfl⟩
  .exact AE (h _)
  .exact AE (h _)
theorem o9{α:Type}(xs:HS α)(p:Nat)(x:α)(a:p<=xs.size):(SetTable.insertAt xs p x).size=xs.size+1:=by
 unfold SetTable.insertAt;rw[Array.size_append,Array.size_push,FV,FV];lia
theorem Fx{α:Type}(xs:HS α)(p:Nat)(x:α)(b:p<=xs.size):(SetTable.insertAt xs p x).toList.Perm (xs.toList ++ [x]):=by
 unfold SetTable.insertAt;rw[BS,DD,ER,ER];simp only[EF,EQ,Nat.sub_zero];have e:List.take (xs.size-p) (List.drop p xs.toList)=List.drop p xs.toList:=by
  rw[DT];rw[DJ,AX];lia
 rw[e];have a:xs.toList=xs.toList.take p++xs.toList.drop p:=(BX ..).symm
 conv=>rhs;rw[a]
 rw[BF,BF];exact CV _ CU
theorem i8(xs:HS Nat)(j:Nat):∀(f lo hi:Nat),lo<=hi->SetTable.below.go xs j f lo hi<=hi
 | 0,lo,hi,h=>h
 | f+1,lo,hi,h=>by
  unfold SetTable.below.go;split
  .rename_i a;dsimp only;split
   .exact i8 xs j f _ _ (by lia)
   .exact VE (i8 xs j f _ _ (by lia)) (by lia)
  .exact h
theorem Ue(xs:HS Nat)(j:Nat):SetTable.below xs j<=xs.size:=i8 xs j _ _ _ (BP _)
theorem zDf{t:IH}(a:t.dummies = #[])(j:Nat):t.put j =({ t with place:=SetTable.insertAt t.place (SetTable.below t.place j) j },SetTable.below t.place j):=by
 unfold SetTable.put;have:SetTable.has t.dummies j=false:=by
  rw[a];unfold SetTable.has;simp
 rw[this];rfl
theorem zHr:SetTable.sizeAbove 20=32:=by decide
theorem zHc:SetTable.sizeAbove 76=128:=by decide
theorem zFv:SetTable.sizeAbove 308=512:=by decide
theorem Vu{f:HS (Int×A2)->A5 (IH×HS Nat)->Sem (HS (Int×A2)×IH)}(y:∀c g,f c g =(do
  let some (t,b):=g | unsupported "internal:set-table-without-room"
  let d:=b.filterMap (c[·]?)
  if d.size != c.size then unsupported "internal:set-table-lost-an-element"
  pure (d,t)))
  {a:A3} {o:Obj} {c:HS (Int×A2)} {ep:Nat} {t:IH} {n m:Nat} {Q:Unit->A4->Prop} (q:s.heap.get? a=some o) (r:o.data = .set c ep t) (z:t.dummies = #[]) (j:t.fits c.size=true)
  (l:SetTable.sizeAbove n=m+1) (i:RC m) (hsz:c.size*5<m*3)
  (h:∀(d:HS (Int×A2)) (t':IH),d.toList.Perm c.toList->RZ t' d.size->Q () { s with heap:=s.heap.update a (Obj.putSet d t') }) :
  wpAny (model prog w) A (do
   let(c,_,t) <-setState a
   if SetTable.sizeAbove n>sizeLine then unsupported "set:memory"
   let(c,t) <-f c (t.relaid (c.map (·.1)) n)
   storeSet a c t) Q E s:=by
 refine AA (CG q r j ?_);dsimp only;have p:m<=511:=by rcases i with e | e | e | e<;>lia
 rw[l,AI (by rw[sizeLine_eq];lia)];rw[y];have B:(c.map (·.1)).size<=m:=by rw[HF];lia
 obtain⟨place,b,u,C,v⟩:=Yl i t.finger (t.movedTo (SetTable.sizeAbove n-1)) t.led t.plain (c.map (·.1)) B;have D:t.relaid (c.map (·.1)) n=some ({ mask:=m,place,dummies:=#[],finger:=t.finger,led:=t.led,moves:=t.movedTo (SetTable.sizeAbove n-1),plain:=t.plain },b):=by
  unfold SetTable.relaid;rw[l];rw[l]at u;exact u
 rw[D];dsimp only;have x:(b.filterMap (c[·]?)).toList.Perm c.toList:=Uv (by rw[HF]at v;exact v);have k:(b.filterMap (c[·]?)).size=c.size:=by rw[<-AX,x.length_eq,AX]
 rw[AI (by rw[k];simp)];refine AA (AE ?_);dsimp only;refine HK q r (h _ _ x ⟨rfl,?_,i,?_⟩) (by rw[k,sizeLine_eq];lia)
 .rw[k,C,HF]
 .rw[k];exact hsz
theorem Fi{h:H_}{a:A3}{o:Obj}{d:HS (Int×A2)}{ep:Nat}{t:IH}(e:h.get? a=some o)(c:o.data = .set d ep t)(b:HS (Int×A2))(t':IH) :
  (h.update a (Obj.putSet b t')).get? a=some { o with data:=.set b (ep+1) t' }:=by
 have:=BZ (Obj.putSet b t') e (by rw[putSet_of b t' c];rfl);rw[putSet_of b t' c]at this;exact this
theorem Of{a:A3}{p:A0 (A0 K×A3)}{g:A0 K}{l:A3}{Q:Bool->A4->Prop}(W:(tupleKind knd).room A)(X:Flat knd)(Y:RS knd)(Z:MZ knd s.heap a p)
  (J:∀q∈p,(tupleKind knd).is s.heap q.1 q.2) (T:(tupleKind knd).is s.heap g l) (L:∀q∈p,q.1≠g) (hl:p.length+1<=300)
  (h:∀h',Heap.SameBut a s.heap h'->MZ knd h' a (p ++ [(g,l)])->Q true { s with heap:=h' }) :
  wpAny (model prog w) A (setAddHashed a (.ref l) ((tupleKind knd).hash g)) Q E s:=by
 obtain⟨o,c,ep,t,z,B,C,M,i⟩:=Z;have hsz:c.size=p.length:=by
  have:=M.length_eq;rw[AX,AB]at this;exact this
 unfold setAddHashed setAddHashedIn;refine BO ?_;refine AA (CG z C i.fits ?_);dsimp only;rw[Pn];simp only[BD,CO];refine AA (Bl W X z C M i J T L λj hj=>?_);dsimp only;refine AA (CG z C i.fits ?_);dsimp only;rw[zDf i.dm];dsimp only;have N:=Ue t.place j;have D:SetTable.below t.place j<=c.size:=by rw[i.pl]at N;exact N
 have hrm:=i.rm;have r:=i.mm;have d:=o9 c (SetTable.below t.place j) ((tupleKind knd).hash g,Value.ref l) D;have O:=Fx c (SetTable.below t.place j) ((tupleKind knd).hash g,Value.ref l) D;have F:∀f:HS (Int×A2),f.toList.Perm (SetTable.insertAt c (SetTable.below t.place j) ((tupleKind knd).hash g,Value.ref l)).toList->SM knd f (p ++ [(g,l)]):=λf P=>by
  unfold SM;rw[AL];exact P.trans (O.trans (M.append_right _))
 have u:∀n:IH,n.dummies = #[]->n.mask=t.mask->n.place.size=c.size+1->wpAny (model prog w) A (do
   storeSet a (SetTable.insertAt c (SetTable.below t.place j) ((tupleKind knd).hash g,Value.ref l)) n
   if(!false&&n.tooFull)=true then do
    setRelay a (SetTable.grown (c.size+1))
    pure true
   else pure true) Q E s:=by
  intro n H I R;refine AA (HK z C ?_ (by rw[d,sizeLine_eq];lia));have v:=Fi z C (SetTable.insertAt c (SetTable.below t.place j) ((tupleKind knd).hash g,Value.ref l)) n;have G:=DN s.heap a (Obj.putSet (SetTable.insertAt c (SetTable.below t.place j) ((tupleKind knd).hash g,Value.ref l)) n);have S:n.tooFull=decide ((c.size+1)*5 ≥ t.mask*3):=by
   unfold SetTable.tooFull SetTable.fill;rw[H,I,R];rfl
  rw[S,HJ,HR];by_cases k:(c.size+1)*5 ≥ t.mask*3
  .rw[AU k,AO rfl];have x:∃m,SetTable.sizeAbove (SetTable.grown (c.size+1))=m+1/\RC m/\(c.size+1)*5<m*3:=by
    have hg:SetTable.grown (c.size+1) =(c.size+1)*4:=by
     unfold SetTable.grown;rw[AI (by lia)]
    rw[hg];rcases r with e | e | e | e
    .have:c.size+1=5:=by lia
     rw[this];exact⟨31,zHr,.inr (.inl rfl),by decide⟩
    .have:c.size+1=19:=by lia
     rw[this];exact⟨127,zHc,.inr (.inr (.inl rfl)),by decide⟩
    .have:c.size+1=77:=by lia
     rw[this];exact⟨511,zFv,.inr (.inr (.inr rfl)),by decide⟩
    .lia
   obtain⟨m,c1,c2,c3⟩:=x;refine AA ?_;unfold setRelay;refine Vu (λ_ _=>rfl) (s:={ s with heap:=_ }) v rfl H ?_ c1 c2 (by rw[d];exact c3) λf U P ht=>?_
   .unfold SetTable.fits SetTable.fill;rw[d,R,H,I];have V:c.size+1+0<=t.mask:=by rcases r with e | e | e | e<;>lia
    simp;lia
   .refine AE (h _ (G.trans (DN _ a _)) ?_);exact⟨_,f,_,U,Fi v rfl f U,B,rfl,F f P,ht⟩
  .rw[AK k,AI (by decide)];refine AE (h _ G ⟨_,_,_,n,v,B,rfl,F _ (.refl _),⟨H,?_,?_,?_⟩⟩)
   .rw[R,d]
   .rw[I];exact r
   .rw[I,d];lia
 have y:(SetTable.insertAt t.place (SetTable.below t.place j) j).size=c.size+1:=by rw[o9 _ _ _ N,i.pl]
 cases hpl:t.plain with
 | true =>
  simp only[GH];refine AA (hbv Y T λb=>?_);cases b with
  | true =>
   simp only[GH];exact u _ i.dm rfl y
  | false =>
   simp only[BD,CO];exact u _ i.dm rfl y
 | false =>
  simp only[BD,CO];refine AA (AE ?_);simp only[GH];exact u _ i.dm rfl y
theorem QX{a:A3}{b:A0 (A0 K×A3)}{c:A0 K}{d:A3}{Q:A2->A4->Prop}(j:A.units+1<cLine)(m:Flat knd)(n:RS knd)(k:MZ knd s.heap a b)
  (e:∀q∈b,(tupleKind knd).is s.heap q.1 q.2) (l:(tupleKind knd).is s.heap c d) (f:∀q∈b,q.1≠c) (o:b.length+1<=300)
  (h:∀h',Heap.SameBut a s.heap h'->MZ knd h' a (b ++ [(c,d)])->Q .none { s with heap:=h',toks:=s.toks +(tupleKind knd).draws c }) :
  wpAny (model prog w) A (call (.builtin "set.add") [.ref a,.ref d]) Q E s:=by
 refine CI F.slot_set_add k.typeIs F.entry_set_add ?_ (F.args_set_add_2 _ _);unfold Builtin.«set.add» Builtin.Frozenset.oneOther;simp only[List.isEmpty_nil,bind_assoc];unfold Builtin.Frozenset.addrOf setAdd;refine AA (AE ?_)
 try dsimp only
 refine AA (AE ?_)
 try dsimp only
 refine AA ?_;refine BO ?_;refine AA ((tupleKind knd).pyHash ?hroom l ?_)
 case hroom=>exact j
 refine Of (s:={ s with toks:=s.toks +(tupleKind knd).draws c }) ?hroom m n k e l f o λh' g i=>?_
 case hroom=>exact j
 show wpAny _ _ (ret Value.none) _ _ _;exact AE ⟨_,rfl,h h' g i⟩
end
def Ly:Manifest.owners.lookup (String.ofList ['r','o','t','a','r','e','t','i','_','t','e','s'].reverse)=some Manifest.sig_set_iterator:=by kernel_rfl
def JI:Slot "set_iterator" "__next__" "set_iterator.__next__" :=
 .of (owner := "set_iterator") (n := "__next__") (by rw[typeLookup_type,builtinLookup_eq_fast];kernel_rfl) (by decide +kernel) (by decide +kernel) (by decide +kernel) (by first | exact .inl (by decide +kernel) | exact .inr (by decide +kernel)) (by rw[isSubtype_type];kernel_rfl)
def m9:entryFor table "set_iterator.__next__" = some Builtin.«set_iterator.__next__»:=entryFor_of_tree (by kernel_rfl)
def Ai(a:A2):argsOk "set_iterator.__next__" ⟨[a],[]⟩:=by
 unfold argsOk;rw[signature?_of (id := "set_iterator.__next__") (n:=['_','_','t','x','e','n','_','_']) (o:=['r','o','t','a','r','e','t','i','_','t','e','s']) (by kernel_rfl) Ly];kernel_rfl
def Af:Slot "set_iterator" "__iter__" "set_iterator.__iter__" :=
 .of (owner := "set_iterator") (n := "__iter__") (by rw[typeLookup_type,builtinLookup_eq_fast];kernel_rfl) (by decide +kernel) (by decide +kernel) (by decide +kernel) (by first | exact .inl (by decide +kernel) | exact .inr (by decide +kernel)) (by rw[isSubtype_type];kernel_rfl)
def Gg(a:A2):argsOk "set_iterator.__iter__" ⟨[a],[]⟩:=by
 unfold argsOk;rw[signature?_of (id := "set_iterator.__iter__") (n:=['_','_','r','e','t','i','_','_']) (o:=['r','o','t','a','r','e','t','i','_','t','e','s']) (by kernel_rfl) Ly];kernel_rfl
def Fk:entryFor table "set_iterator.__iter__" = some Builtin.«dict_keyiterator.__iter__» :=
 entryFor_alias (id' := "dict_keyiterator.__iter__") (by kernel_rfl) (by first | rfl | decide +kernel | (unfold String.splitOn;simp +decide [String.splitOnAux])) (by decide +kernel) (by kernel_rfl)
def Ib:entryFor table "set.__iter__" = some Builtin.«frozenset.__iter__» :=
 entryFor_alias (id' := "frozenset.__iter__") (by kernel_rfl) rfl (by decide +kernel) (by kernel_rfl)
def zEq:typeLookup (.type "set") "__len__" = pure (some (.builtin "set.__len__")):=by rw[typeLookup_type,builtinLookup_eq_fast];kernel_rfl
section
variable{prog:HU}{w:HW}{A:IA}{E:A2->A4->Prop}{s:A4}
theorem Pq{n:Nat}{Q:Nat->A4->Prop}(a:n≠0)(h:∀i d,i<n->Q i { s with drawn:=d }):wpAny (model prog w) A (choose .order n) Q E s:=λΓ p hΓ=>by
 unfold choose;rw[Sem.wp_choose];exact⟨a,h _ _ (Nat.mod_lt _ (Nat.pos_of_ne_zero a))⟩
theorem JS{α:Type}:∀{l:A0 α} {i:Nat} {x:α},l[i]?=some x->(x::l.eraseIdx i).Perm l
 | [],i,x,h=>by simp at h
 | y::l,0,x,h=>by
  have:y=x:=by simpa using h
  subst this;exact .refl _
 | y::l,i+1,x,h=>by
  have a:l[i]?=some x:=by simpa using h
  exact(List.Perm.swap y x _).trans ((JS a).cons y)
theorem Gx{α:Type}{l:A0 α}{i:Nat}{x:α}(h:l[i]?=some x):(l.eraseIdx i).length+1=l.length:=(JS h).length_eq
theorem Sk{α:Type}:∀(n:Nat) (l:A0 α) (s:A4) (Q:A0 α->A4->Prop),l.length=n->(∀b d,b.Perm l->Q b { s with drawn:=d })->wpAny (model prog w) A (drawOrder n l) Q E s
 | 0,l,s,Q,a,h=>by
  unfold drawOrder;obtain rfl:=FO.mp a;exact AE (h [] s.drawn (.refl _))
 | n+1,[],s,Q,a,h=>by simp at a
 | n+1,x::f,s,Q,a,h=>by
  unfold drawOrder;refine AA (Pq (by simp) λi d g=>?_);have e:(x::f)[i]?=some ((x::f)[i]):=AF g;rw[e];dsimp only;have j:=JS e;refine AA (Sk n _ _ _ (by have:=Gx e;lia) λb k c=>?_);exact AE (h _ k ((c.cons _).trans j))
theorem Sz{α:Type}(nx:Nat->Nat):∀(f k:Nat) (left:A0 α) (out:HS α),left.length=f->(pickOrder.go nx f k left out).toList.Perm (out.toList++left)
 | 0,k,left,out,h=>by
  obtain rfl:=FO.mp h;unfold pickOrder.go;simp
 | f+1,k,left,out,h=>by
  have a:nx k % left.length<left.length:=Nat.mod_lt _ (by lia);have e:left[nx k % left.length]?=some left[nx k % left.length]:=AF a;unfold pickOrder.go;rw[e];dsimp only;have b:=JS e;refine(Sz nx f (k+1) _ _ (by have:=Gx e;lia)).trans ?_;rw[DD,BF];exact b.append_left _
theorem Cj{α:Type}(nx:Nat->Nat)(xs:HS α):(pickOrder nx xs).toList.Perm xs.toList:=by
 unfold pickOrder;have:=Sz nx xs.size 0 xs.toList #[] (AX ..);simpa using this
structure RB(w:HW)(h:H_)(a:A3)(o:Obj)(es:HS (Int×A2))(ep:Nat)(t:IH):Prop where
 ho:h.get? a=some o
 ex:o.ExactSet
 hd:o.data = .set es ep t
 ft:t.fits es.size=true
 led:t.led=!(w.params.followText "set-order")
 pln:t.plain=true->es.size=0
 few:es.size<4096
def RF(first:A2)(i n ep:Nat)(a:A3):Obj:={ cls:=.type "set_iterator",data:=.fields #[first,rawInt i,.ref a,rawInt n,rawInt ep] }
theorem T3{Q:Bool->A4->Prop}(h:Q (w.params.followText "set-order") s):wpAny (model prog w) A setsByText Q E s:=by
 unfold setsByText;exact AA (GQ (AE h))
variable{a it:A3}{o:Obj}{es:HS (Int×A2)}{ep:Nat}{t:IH}
theorem Aw{i g:Nat}{r:A5 (A2×Nat)}{Q:A5 A2->A4->Prop}(h:A.handled=none)(S:RB w s.heap a o es ep t)(n:it≠a)(hi:s.heap.get? it=some (RF (rawInt g) i es.size ep a))
  (c:∀(j:A5 (A2×Nat)->A4->Prop) (q:IA) (u:A2->A4->Prop),j r s->wpAny (model prog w) q (setNext a g i ep) j u s)
  (d:∀x nx h',r=some (x,nx)->h'.get? it=some (RF (rawInt nx) (i+1) es.size ep a)->Heap.SameBut it s.heap h'->Q (some x) { s with heap:=h' })
  (f:r=none->∀h',Heap.ExtBut it s.heap h'->Q none { s with heap:=h' }):wpAny (model prog w) A (pyNext (.ref it)) Q E s:=by
 have k:s.TypeIs (.ref it) "set_iterator":=⟨_,hi,rfl⟩;unfold pyNext;refine AA (GD (CJ (name:=Str.ofString "__next__") k JI (CI JI k m9 ?_ (Ai _))));unfold Builtin.«set_iterator.__next__»;refine AA (EE (a:=(Value.ref it,[])) rfl ?_);dsimp only;refine AA (wpAny_fieldsOf hi rfl ?_);dsimp only[rawInt];refine AA (wpAny_setEntries_of S.ho S.hd S.ft ?_);rw[AI (by simp)];simp only[CL];refine AA (c _ _ _ ?_);cases r with
 | some p =>
  obtain⟨x,nx⟩:=p;dsimp only;refine AA (EB hi rfl (by simp) ?_);have l:=BZ (Obj.mapFields (·.setIfInBounds 0 (rawInt (nx:Nat)))) hi rfl;refine AA (EB l rfl (by simp) ?_);have v:=BZ (Obj.mapFields (·.setIfInBounds 1 (rawInt ((i:Int)+1)))) l rfl;refine AE ⟨x,rfl,AE (d x nx _ rfl ?_ ((DN ..).trans (DN ..)))⟩;exact v
 | none =>
  dsimp only;refine AA (EB hi rfl (by simp) ?_);refine AA ?_;simp only[newExc,newTuple];refine AA (BU ?_ (by size_fits));refine AA (m:=firstArgMember _ _) (EE (a:=Value.none) (by first | rfl | (simp only[firstArgMember];rfl)) ?_);refine BU ?_ (by size_fits);simp only[raiseNew];refine AA (wpAny_handled ?_)
  first | rw[show A.in1.handled=none from h] | rw[h]
  refine AA (AE (wpAny_throw ?_));refine AA (FP (T := "StopIteration") (b:=true) ⟨_,AY _ rfl,rfl⟩ isSubtype_stop ?_);exact AE (f rfl _ ((HN (HN (λb o y e=>(BG _ _ (Ne.symm y)).trans e) _)) _))
end
def TF(ps:A0 Nat):Obj:={ cls:=.type "tuple",data:=.seq (ps.map λ(i:Nat)=>rawInt i).toArray }
section
variable{prog:HU}{w:HW}{A:IA}{E:A2->A4->Prop}{s:A4}{a it T:A3}{o:Obj}{es:HS (Int×A2)}{ep:Nat}{t:IH}
theorem Kx{i:Nat}{ps:A0 Nat}{Q:A5 A2->A4->Prop}(l:A.handled=none)(S:RB w s.heap a o es ep t)(hi:s.heap.get? it=some (RF (.ref T) i es.size ep a))(n:s.heap.get? T=some (TF ps))
  (f:∀p x h',ps[i]?=some p->es[p]?=some x->h'.get? it=some (RF (.ref T) (i+1) es.size ep a)->Heap.SameBut it s.heap h'->Q (some x.2) { s with heap:=h' }) (g:∀p∈ps,p<es.size)
  (h:ps.length<=i->∀h',Heap.ExtBut it s.heap h'->Q none { s with heap:=h' }):wpAny (model prog w) A (pyNext (.ref it)) Q E s:=by
 have d:s.TypeIs (.ref it) "set_iterator":=⟨_,hi,rfl⟩;unfold pyNext;refine AA (GD (CJ (name:=Str.ofString "__next__") d JI (CI JI d m9 ?_ (Ai _))));unfold Builtin.«set_iterator.__next__»;refine AA (EE (a:=(Value.ref it,[])) rfl ?_);dsimp only;refine AA (wpAny_fieldsOf hi rfl ?_);dsimp only[rawInt];refine AA (wpAny_setEntries_of S.ho S.hd S.ft ?_);rw[AI (by simp)];simp only[CL];refine AA (DZ n rfl ?_);dsimp only;cases e:ps[i]? with
 | some p =>
  have q:(ps.map λ(i:Nat)=>Value.int (i:Int) 0).toArray[i]?=some (.int (p:Int) 0):=by
   rw[DY,AH,e];rfl
  have c:(ps.map λ(i:Nat)=>rawInt i).toArray[i]?=some (.int (p:Int) 0):=q;rw[c];have r:p<es.size:=g p (BB e);obtain⟨x,j⟩:∃x,es[p]?=some x:=⟨es[p],CS.mpr ⟨r,rfl⟩⟩;dsimp only;simp only[CL];unfold setNextDrawn;refine AA (AA (CG S.ho S.hd S.ft ?_));dsimp only;rw[AI (by simp),j];dsimp only;refine AE ?_;refine AA (EB hi rfl (by simp) ?_);have u:=BZ (Obj.mapFields (·.setIfInBounds 1 (rawInt ((i:Int)+1)))) hi rfl;exact AE ⟨x.2,rfl,AE (f p x _ e j u (DN ..))⟩
 | none =>
  have c:(ps.map λ(i:Nat)=>rawInt i).toArray[i]?=none:=by
   rw[DY,AH,e];rfl
  rw[c];dsimp only;refine AA (EB hi rfl (by simp) ?_);have v:=BZ (Obj.mapFields (·.setIfInBounds 0 (rawInt 0))) hi rfl;refine AA (EB v rfl (by simp) ?_);refine AA ?_;simp only[newExc,newTuple];refine AA (BU ?_ (by size_fits));refine AA (m:=firstArgMember _ _) (EE (a:=Value.none) (by first | rfl | (simp only[firstArgMember];rfl)) ?_);refine BU ?_ (by size_fits);simp only[raiseNew];refine AA (wpAny_handled ?_);rw[show A.in1.handled=none from l];refine AA (AE (wpAny_throw ?_));refine AA (FP (T := "StopIteration") (b:=true) ⟨_,AY _ rfl,rfl⟩ isSubtype_stop ?_);refine AE (h (GS.mp e) _ (HN (HN (λb z k y=>?_) _) _));exact(BG _ _ (Ne.symm k)).trans ((BG _ _ (Ne.symm k)).trans y)
def zGu(w:HW)(a T:A3)(es:HS (Int×A2))(ep:Nat)(t:IH)(b:A0 A2)(i:Nat)(h:H_)(first:A2):Prop :=
 (w.params.followText "set-order" = true/\first=rawInt (0:Nat)/\b =(pickOrder (w.params.setOrder a ep) es).toList.map (·.2)) \/
 (w.params.followText "set-order" = false/\∃ps:A0 Nat,first = .ref T/\h.get? T=some (TF ps)/\ps.Perm (List.range es.size)/\b=ps.filterMap λp=>es[p]?.map (·.2)) \/
 (w.params.followText "set-order" = false/\es.size<=1/\b=es.toList.map (·.2)/\∃c:Nat,first=rawInt c/\(i=0->c=0)/\(i=1->∃j,t.place = #[j]/\c=j+1))
def SSt(w:HW)(a it T:A3)(o:Obj)(es:HS (Int×A2))(ep:Nat)(t:IH)(b:A0 A2)(i:Nat)(h:H_):Prop :=
 RB w h a o es ep t/\∃first,h.get? it=some (RF first i es.size ep a)/\zGu w a T es ep t b i h first
theorem RB.at{h h':H_}(S:RB w h a o es ep t)(e:h'.get? a=some o):RB w h' a o es ep t:=⟨e,S.ex,S.hd,S.ft,S.led,S.pln,S.few⟩
theorem zCq(j:Nat):SetTable.below #[j] 0=0:=by simp[SetTable.below,SetTable.below.go]
theorem zCm(j:Nat):SetTable.below #[j] (j+1)=1:=by simp[SetTable.below,SetTable.below.go]
theorem Vx(S:RB w s.heap a o es ep t):t.place.size=es.size:=by
 have:=S.ft;unfold SetTable.fits at this;rw[DB]at this;simpa using this.1
theorem Tk(L:A.handled=none){u:A0 A2}(m:it≠a)(Z:it≠T):Walks prog w A it [it,a,T] [it] es.size (λi v=>u[i]?=some v) (SSt w a it T o es ep t u) where
 sub:=λb M=>by simp at M;simp[M]
 frame:=λi h c ⟨S,first,B,N⟩ k=>by
  refine⟨S.at (k a (by simp) _ S.ho),first,k it (by simp) _ B,?_⟩;rcases N with z | ⟨g,ps,V,n,F,G⟩ | z
  .exact .inl z
  .exact .inr (.inl ⟨g,ps,V,k T (by simp) _ n,F,G⟩)
  .exact .inr (.inr z)
 item:=λi s Q E hlt ⟨S,first,B,N⟩ I=>by
  have d:∀c,Heap.SameBut it s.heap c->∀b H,b∉[it]->s.heap.get? b=some H->c.get? b=some H:=λc f b H M e=>(f.2 b (by simpa using M)).trans e;rcases N with⟨g,rfl,n⟩ | ⟨g,ps,rfl,n,F,G⟩ | ⟨g,V,n,sl,rfl,G,z6⟩
  .have J:=Cj (w.params.setOrder a ep) es;have C:(pickOrder (w.params.setOrder a ep) es).size=es.size:=by rw[<-AX,J.length_eq,AX]
   obtain⟨x,P⟩:∃x,(pickOrder (w.params.setOrder a ep) es)[i]?=some x:=⟨_,CS.mpr ⟨by rw[C];exact hlt,rfl⟩⟩;refine Aw (r:=some (x.2,0)) L S m B (λR A' E' q=>?_) (λy nx c D O f=>?_) (λe=>nomatch e)
   .unfold setNext setWalk;refine AA (CG S.ho S.hd S.ft ?_);dsimp only;refine AA (T3 ?_);rw[g,AO rfl,AI (by simp)];refine AA (AA (CG S.ho S.hd S.ft ?_));dsimp only;refine AA (T3 ?_);rw[g,AO rfl];refine AA (GQ (AE (AE ?_)));show R (((pickOrder (w.params.setOrder a ep) es)[i]?).map λe=>(e.2,0)) s;rw[P];exact q
   .cases D;have:=I x.2 c s.toks (by rw[n,AH,BL,P];rfl) ⟨S.at ((f.2 a (Ne.symm m)).trans S.ho),_,O,.inl ⟨g,rfl,n⟩⟩ (d c f);exact this
  .refine Kx L S B n (λp x c D O e3 f=>?_) (λp hp=>DA.mp (F.mem_iff.mp hp)) (λhle=>?_)
   .have U:∀q∈ps,(es[q]?.map (·.2)).isSome=true:=λq hq=>by
     have:q<es.size:=DA.mp (F.mem_iff.mp hq);rw[CS.mpr ⟨this,rfl⟩];rfl
    refine I x.2 c s.toks ?_ ⟨S.at ((f.2 a (Ne.symm m)).trans S.ho),_,e3,.inr (.inl ⟨g,ps,rfl,(f.2 T (Ne.symm Z)).trans n,F,G⟩)⟩ (d c f);have gen:∀(l:A0 Nat) (i p:Nat),(∀q∈l,(es[q]?.map (·.2)).isSome=true)->l[i]?=some p->(l.filterMap λp=>es[p]?.map (·.2))[i]?=es[p]?.map (·.2):=by
     intro l
     induction l with
     | nil=>intro i p _ e;simp at e
     | cons q r ih =>
      intro i p W e;obtain⟨v,hv⟩:=FM.mp (W q (AZ ..));rw[EW,hv];dsimp only;cases i with
      | zero =>
       have:q=p:=by simpa using e
       subst this;simpa using hv.symm
      | succ i=>simpa using ih i p (λq hq=>W q (AN _ hq)) (by simpa using e)
    rw[G,gen ps i p U D,O];rfl
   .have:=F.length_eq;rw[DW]at this;lia
  .have X:i=0:=by lia
   have h1:es.size=1:=by lia
   obtain⟨j,Y⟩:∃j,t.place = #[j]:=Array.size_eq_one_iff.mp ((Vx S).trans h1);obtain⟨x,P⟩:∃x,es = #[x]:=Array.size_eq_one_iff.mp h1;have hs0:=G X;subst hs0;have hx0:es[0]?=some x:=by rw[P];rfl
   refine Aw (r:=some (x.2,j+1)) L S m B (λR A' E' q=>?_) (λy nx c D O f=>?_) (λe=>nomatch e)
   .unfold setNext;refine AA (CG S.ho S.hd S.ft ?_);dsimp only;refine AA (T3 ?_);rw[g,AI (by decide)];show wpAny _ _ (if(!t.plain&&decide (es.size>1))=true then _ else _) _ _ _;rw[AI (by rw[h1];simp)];show wpAny _ _ (do (if(!t.led&&!es.isEmpty)=true then unsupported "set:maker-not-led" else pure ());_) _ _ _;rw[S.led,g,AI (by simp)];refine AA (AE ?_);rw[Y,zCq,hx0];exact AE q
   .cases D;refine I x.2 c s.toks (by rw[n,X,P];rfl) ⟨S.at ((f.2 a (Ne.symm m)).trans S.ho),_,O,.inr (.inr ⟨g,V,n,j+1,rfl,λe=>by lia,λ_=>⟨j,Y,rfl⟩⟩)⟩ (d c f)
 done:=λs Q E ⟨S,first,B,N⟩ I=>by
  have d:∀c,Heap.ExtBut it s.heap c->∀b H,b∉[it]->s.heap.get? b=some H->c.get? b=some H:=λc f b H M e=>f b H (by simpa using M) e;rcases N with⟨g,rfl,n⟩ | ⟨g,ps,rfl,n,F,G⟩ | ⟨g,V,n,sl,rfl,G,z6⟩
  .have J:=Cj (w.params.setOrder a ep) es;have C:(pickOrder (w.params.setOrder a ep) es).size=es.size:=by rw[<-AX,J.length_eq,AX]
   refine Aw (r:=none) L S m B (λR A' E' q=>?_) (λy nx c D=>nomatch D) (λ_ c f=>I c s.toks (d c f));unfold setNext setWalk;refine AA (CG S.ho S.hd S.ft ?_);dsimp only;refine AA (T3 ?_);rw[g,AO rfl,AI (by simp)];refine AA (AA (CG S.ho S.hd S.ft ?_));dsimp only;refine AA (T3 ?_);rw[g,AO rfl];refine AA (GQ (AE (AE ?_)));show R (((pickOrder (w.params.setOrder a ep) es)[es.size]?).map λe=>(e.2,0)) s;rw[EC (by rw[C];exact VD _)];exact q
  .have W:=F.length_eq;rw[DW]at W;refine Kx L S B n (λp x c D O e3 f=>?_) (λp hp=>DA.mp (F.mem_iff.mp hp)) (λ_ c f=>I c s.toks (d c f));have:=(AM.mp D).1;lia
  .refine Aw (r:=none) L S m B (λR A' E' q=>?_) (λy nx c D=>nomatch D) (λ_ c f=>I c s.toks (d c f));unfold setNext;refine AA (CG S.ho S.hd S.ft ?_);dsimp only;refine AA (T3 ?_);rw[g,AI (by decide)];show wpAny _ _ (if(!t.plain&&decide (es.size>1))=true then _ else _) _ _ _;rw[AI (by simp;intro _;lia)];show wpAny _ _ (do (if(!t.led&&!es.isEmpty)=true then unsupported "set:maker-not-led" else pure ());_) _ _ _;rw[S.led,g,AI (by simp)];refine AA (AE ?_);have K:es[SetTable.below t.place sl]?=none:=by
    by_cases X:es.size=0
    .exact EC (by rw[X];exact BP _)
    .obtain⟨j,Y,rfl⟩:=z6 (by lia);rw[Y,zCm];exact EC (by lia)
   rw[K];exact AE q
 self:=λi s Q E ⟨S,first,B,N⟩ h=>by
  have hT:s.TypeIs (.ref it) "set_iterator":=⟨_,B,rfl⟩;refine wpAny_pyIter_slot hT Af (CI Af hT Fk ?_ (Gg _));show wpAny _ _ (ret (.ref it)) _ _ s;exact AE ⟨_,rfl, "set_iterator",_,hT,JI.lookup,h⟩
theorem Vc{Q:A2->A4->Prop}(S:RB w s.heap a o es ep t)
  (h:∀(it T:A3) (c:A0 A2) (h':H_) (d:Drawn),it≠a->it≠T->(T=a\/s.heap.objs.size<=T)->s.heap.objs.size<=it->(∀b g,s.heap.get? b=some g->h'.get? b=some g)->c.Perm (es.toList.map (·.2))->SSt w a it T o es ep t c 0 h'->(∀b∈[it,a,T],b<h'.objs.size) ->
   (∀H:IA,H.handled=none->Walks prog w H it [it,a,T] [it] es.size (λi v=>c[i]?=some v) (SSt w a it T o es ep t c))->Q (.ref it) { s with heap:=h',drawn:=d }):wpAny (model prog w) A (pyIter (.ref a)) Q E s:=by
 have L:s.TypeIs (.ref a) "set":=⟨_,S.ho,S.ex.1⟩;have D:=AG S.ho;refine wpAny_pyIter_slot L F.slot_set_iter (CI F.slot_set_iter L Ib ?_ (F.args_set_iter_1 _));unfold Builtin.«frozenset.__iter__» Builtin.Frozenset.slot0 Builtin.Frozenset.sizeOf;refine AA (AA (EE (a:=(Value.ref a,[])) rfl ?_));dsimp only;refine EE (a:=a) rfl ?_;refine AA (AA (wpAny_setEntries_of S.ho S.hd S.ft (AE ?_)));have m:∀(first:A2) (T:A3) (c:A0 A2) (f:H_) (d:Drawn),(∀b g,s.heap.get? b=some g->f.get? b=some g)->s.heap.objs.size<=f.objs.size->c.Perm (es.toList.map (·.2))->T<f.objs.size->(T=a\/s.heap.objs.size<=T) ->
   (∀q:H_,(∀b g,f.get? b=some g->q.get? b=some g)->zGu w a T es ep t c 0 q first) ->
   wpAny (model prog w) A.in1 (do let e <-setEpoch a;let x <-newFields "set_iterator" [first,rawInt 0,.ref a,rawInt (es.size:Nat),rawInt (e:Nat)];ret x) (λr M=>∃v,r=Fin.done (Flow.ret v)/\∃N r,M.TypeIs v N/\typeLookup (Value.type N) (Str.ofString "__next__")=pure (some r)/\Q v M) E { s with heap:=f,drawn:=d }:=by
  intro first T c f d k n l y I O
  refine AA (wpAny_setEpoch_of (s:={ s with heap:=f,drawn:=d }) (k a o S.ho) S.hd S.ft ?_);refine AA (BU ?_);have G:(f.push (RF first 0 es.size ep a)).get? f.objs.size=some (RF first 0 es.size ep a):=AY _ rfl;have z:∀b g,f.get? b=some g->(f.push (RF first 0 es.size ep a)).get? b=some g:=λb g e=>AD _ e;have B:f.objs.size≠a:=λe=>absurd (BI D n) (by rw[<-e];exact CZ _);have C:f.objs.size≠T:=λe=>absurd y (by rw[<-e];exact CZ _);refine AE ⟨.ref f.objs.size,rfl, "set_iterator",_,⟨_,G,rfl⟩,JI.lookup,?_⟩;refine h f.objs.size T c (f.push (RF first 0 es.size ep a)) d B C I n (λb g e=>z b g (k b g e)) l ⟨S.at (z a o (k a o S.ho)),first,G,O _ z⟩ (λb u=>?_) λH P=>Tk P B C;rw[CQ];simp only[AW,AQ,or_false]at u;rcases u with rfl | rfl | rfl
  .exact EI _
  .exact EU (BI D n)
  .exact EU y
 unfold setDrawn;refine AA (AA (CG S.ho S.hd S.ft ?_));dsimp only;refine AA (T3 (AE ?_));cases u:w.params.followText "set-order" with
 | true =>
  show wpAny _ _ (if(!true &&(!t.plain&&decide (es.size>1)))=true then _ else _) _ _ _;rw[EM,DP,AI (by decide)];refine AA (AE ?_);exact m _ a _ s.heap s.drawn (λ_ _ e=>e) (VD _) ((Cj _ es).map _) D (.inl rfl) λq _=>.inl ⟨u,rfl,rfl⟩
 | false =>
  show wpAny _ _ (if(!false &&(!t.plain&&decide (es.size>1)))=true then _ else _) _ _ _;by_cases j:(!t.plain&&decide (es.size>1))=true
  .rw[HJ,HR,AO j];refine AA (Sk es.size (List.range es.size) s _ (DW ..) λps d l=>AA ?_);unfold newTuple;refine BU ?_ ?_
   .have G:(s.heap.push (TF ps)).get? s.heap.objs.size=some (TF ps):=AY _ rfl;refine m _ s.heap.objs.size (ps.filterMap λp=>es[p]?.map (·.2)) (s.heap.push (TF ps)) d (λb g e=>AD _ e) (by rw[CQ];exact DM _) ?_ (by rw[CQ];exact EI _) (.inr (VD _)) λq z=>.inr (.inl ⟨u,ps,rfl,z _ _ G,l,rfl⟩);refine(l.filterMap _).trans (FD ?_);have:=filterMap_getElem?_range es;rw[<-this,List.map_filterMap]
   .have f:=l.length_eq;have q:=S.few;rw[DW]at f;show(List.map _ ps).toArray.size<=sizeLine;rw[AR,AB,sizeLine_eq];lia
  .rw[HJ,HR,AI j];refine AA (AE ?_);have J:es.size<=1:=by
    by_cases l:t.plain=true
    .have:=S.pln l;lia
    .have K:t.plain=false:=by simpa using l
     rw[K]at j;simp at j;lia
   exact m _ a _ s.heap s.drawn (λ_ _ e=>e) (VD _) (.refl _) D (.inl rfl) λq _=>.inr (.inr ⟨u,J,rfl,0,rfl,λ_=>rfl,λe=>absurd e (by decide)⟩)
end
section
variable{prog:HU}{w:HW}{A:IA}{E:A2->A4->Prop}{s:A4}{a:A3}{o:Obj}{es:HS (Int×A2)}{ep:Nat}{t:IH}
theorem Vk{a:A0 A2}{b:HS A2}(h:ItemsOf (λi v=>a[i]?=some v) b a.length):b.toList=a:=by
 refine FH λi=>?_;rw[BL];by_cases c:i<b.size
 .have e:b[i]?=some b[i]:=CS.mpr ⟨c,rfl⟩;rw[e,h.2 i _ e]
 .rw[EC (by lia),GF (by have:=h.1;lia)]
theorem PN{Q:A0 A2->A4->Prop}(O:A.handled=none)(S:RB w s.heap a o es ep t)
  (U:∀f q,(∀b c,s.heap.get? b=some c->f.heap.get? b=some c)->f.gens=s.gens->f.os=s.os->s.heap.objs.size<f.heap.objs.size->q.Perm (es.toList.map (·.2))->Q q f):wpAny (model prog w) A (collect (.ref a)) Q E s:=by
 have V:=AG S.ho;unfold collect;refine AA (wpAny_runValue (DH F.entry_proto_collect ?_));rw[Around.under_plainId F.plain_proto_collect _];show wpAny _ A.in1 (newList [] >>= λl=>again (.builtin "list.__iadd__" ⟨[l,.ref a],[]⟩)) _ _ s;refine AA (BU ?_);refine AE ⟨plainId_quiet F.plain_list_iadd _,DH F.entry_list_iadd ?_⟩;rw[Around.under_plainId F.plain_list_iadd _];show wpAny _ A.in1 (Builtin.List.listExtendWith (.ref s.heap.objs.size) (.ref a) (.ref s.heap.objs.size)) _ _ _;unfold Builtin.List.listExtendWith;have h:s.heap.objs.size≠a:=λe=>absurd V (by rw[<-e];exact CZ _);generalize J:s.heap.push { cls:=.type "list",data:=.seq ([]:A0 A2).toArray }=H;have G:∀b c,s.heap.get? b=some c->H.get? b=some c:=λb c e=>by rw[<-J];exact AD _ e
 have i:H.objs.size=s.heap.objs.size+1:=by rw[<-J,CQ]
 have X:H.get? s.heap.objs.size=some { cls:=.type "list",data:=.seq ([]:A0 A2).toArray }:=by rw[<-J];exact AY _ rfl
 have Y:Shared.TypeIs { s with heap:=H } (.ref a) "set":=⟨o,G a o S.ho,S.ex.1⟩;refine AA (EY Y ?_);have Z:Builtin.List.listSameRef (.ref s.heap.objs.size) (.ref a)=false:=by simp[Builtin.List.listSameRef,h]
 have h2:(Value.type "set" == Value.type "list")=false:=by decide
 have h3:(Value.type "set" == Value.type "tuple")=false:=by decide
 simp only[Z,h2,h3,Bool.or_false,BD,CO];refine AA (Vc (s:={ s with heap:=H }) (S.at (G a o S.ho)) λI T j r d hia hiT K u k P st hlt W=>?_);have m:Shared.TypeIs { s with heap:=r,drawn:=d } (.ref a) "set":=⟨o,k a o (G a o S.ho),S.ex.1⟩;refine AA (BO ?_);unfold Builtin.List.listLengthHint;refine AA (GB m zEq ?_);wp_delta;refine AA (FP m (b:=true) (by rw[isSubtype_type];kernel_rfl) ?_);show wpAny _ A.in1 (typeOf (Value.ref a) >>= _) _ _ _;refine AA (EY m ?_);refine AE ?_;rw[AO (by decide)];refine AA (DF ?_);have v:r.get? s.heap.objs.size=some { cls:=.type "list",data:=.seq ([]:A0 A2).toArray }:=k _ _ X;refine AA ?_;show wpAny _ A.in1 (updateSeq s.heap.objs.size (·.push .none) >>= λ_=>updateSeq s.heap.objs.size (·.pop)) _ _ _;refine AA (wpAny_updateSeq v rfl ?_);have x:=BZ (Obj.mapSeq (·.push Value.none)) v rfl;refine wpAny_updateSeq x rfl ?_;have L:=BZ (Obj.mapSeq (·.pop)) x rfl;have y:∀b c,b≠s.heap.objs.size->r.get? b=some c->((r.update s.heap.objs.size (Obj.mapSeq (·.push Value.none))).update s.heap.objs.size (Obj.mapSeq (·.pop))).get? b=some c :=
  λb c p e=>(BG _ _ (Ne.symm p)).trans ((BG _ _ (Ne.symm p)).trans e)
 have B:s.heap.objs.size∉[I,a,T]:=by
  have e1:s.heap.objs.size≠I:=λe=>absurd u (by
   show ¬H.objs.size<=I;rw[i,<-e];exact Nat.not_succ_le_self _)
  have e2:s.heap.objs.size≠T:=λe=>by
   rcases K with z | z
   .exact h (e.trans z)
   .exact absurd z (by
     show ¬H.objs.size<=T;rw[i,<-e];exact Nat.not_succ_le_self _)
  simp only[AW,AQ,or_false,not_or];exact⟨e1,h,e2⟩
 have M:es.size=j.length:=by
  have:=P.length_eq;rw[AB,AX]at this;exact this.symm
 have R:=S.few;refine AE ⟨plainId_quiet F.plain_extend_loop _,codeAny_extend_loopS (W A.in1 O).toS (by rw[sizeLine_eq];lia) _ B _ es.size 0 _ _ _ rfl (BP _)
  ((W A.in1 O).frame 0 r _ st λb p c e=>y b c (λz=>B (z▸p)) e) L (ItemsOf.nil _) λf C c' N D g=>?_⟩
 show wpAny _ A (load s.heap.objs.size >>= _) _ _ f;refine AA (wpAny_load D ?_);rw[M]at g;refine AE (U f C.toList (λb c e=>N.heap b c (λp=>?_) (y b c (λz=>?_) (k b c (G b c e)))) N.gens N.os (AG D) (by rw[Vk g];exact P))
 .have n:=AG e;rcases AW.mp p with z | z
  .exact absurd n (by rw[z];exact CZ _)
  .rw[AC.mp z]at n;have:H.objs.size<=I:=u;rw[i]at this;exact absurd (BI n (Nat.le_of_succ_le this)) (CZ _)
 .exact absurd (AG e) (by rw[z];exact CZ _)
end
end ST
namespace ST
open PySem L2
def zCw(t:IH)(n:Nat):(t.orStandIn n).led=t.led:=by
 unfold SetTable.orStandIn;split<;>rfl
def Yk(t:IH)(a:HS (Int×A2))(h:Int)(x:A2):(layNew t a h x).2.1.led=t.led:=by
 unfold layNew;split
 .rename_i b c e;show((t.put b).1.orStandIn _).led=_;rw[zCw];rfl
 .rfl
def Mz{t t':IH}{b:HS Int}{n:Nat}{a:HS Nat}(h:t.relaid b n=some (t',a)):t'.led=t.led/\t'.plain=t.plain:=by
 unfold SetTable.relaid SetTable.laid at h;cases e:SetTable.layClean (SetTable.sizeAbove n-1) b with
 | none=>rw[e]at h;cases h
 | some c =>
  rw[e]at h;cases h;exact⟨rfl,rfl⟩
def Qr(t:IH)(a:HS (Int×A2))(n:Nat)(b:t.plain=false):(relayAll t a n).2.1.led=t.led/\(relayAll t a n).2.1.plain=false:=by
 unfold relayAll;split
 .rename_i g c e;obtain⟨d,f⟩:=Mz e;dsimp only;split
  .exact⟨d,f.trans b⟩
  .exact⟨rfl,rfl⟩
 .exact⟨rfl,rfl⟩
def zHm:A2->Str
 | .str x _=>x
 | _=>Str.empty
section
variable{prog:HU}{w:HW}{A:IA}{E:A2->A4->Prop}{s:A4}{a:A3}
structure MV(w:HW)(es:HS (Int×A2))(ss:A0 Str):Prop where
 el:∀e∈es.toList,∃x tk,e =(hashStr w x,Value.str x tk)
 pm:(es.toList.map λe=>zHm e.2).Perm ss
 nd:ss.Nodup
def WS(w:HW)(h:H_)(a:A3)(ss:A0 Str):Prop:=∃o b c t,RB w h a o b c t/\MV w b ss
theorem MV.elems{a:HS (Int×A2)}{ss:A0 Str}(h:MV w a ss):ElemsOf (C8 prog w) a.toList:=λe b=>by
 obtain⟨x,c,rfl⟩:=h.el e b;exact⟨⟨.inr x,X1 x c,rfl⟩,rfl⟩
theorem MV.mem{d:HS (Int×A2)}{ss:A0 Str}(h:MV w d ss)(x:Str):x∈ss↔∃e∈d.toList,(C8 prog w).is (.inr x) e.2=true:=by
 rw[<-h.pm.mem_iff];constructor
 .intro g;obtain⟨e,a,rfl⟩:=BJ.mp g;obtain⟨y,b,rfl⟩:=h.el e a;exact⟨_,a,X1 y b⟩
 .rintro⟨e,a,j⟩;obtain⟨y,b,rfl⟩:=h.el e a;have:y=x:=by
   rcases G7 (show Dd (.inr x) (.str y b)=true from j)with⟨i,t,f,c⟩ | ⟨z,t,f,c⟩
   .cases c
   .cases f;cases c;rfl
  subst this;exact BJ.mpr ⟨_,a,rfl⟩
theorem MV.int{a:HS (Int×A2)}{ss:A0 Str}(h:MV w a ss)(i:Int):¬∃e∈a.toList,(C8 prog w).is (.inl i) e.2=true:=by
 rintro⟨e,d,f⟩;obtain⟨y,g,rfl⟩:=h.el e d;rcases G7 (show Dd (.inl i) (.str y g)=true from f)with⟨i,t,b,c⟩ | ⟨z,t,b,c⟩
 .cases c
 .cases b
theorem MV.len{a:HS (Int×A2)}{ss:A0 Str}(h:MV w a ss):a.size=ss.length:=by
 have:=h.pm.length_eq;rw[AB,AX]at this;exact this
def inS(ss:A0 Str):IM->Bool
 | .inl _=>false
 | .inr x=>decide (x∈ss)
theorem WS.setOf{h:H_}{ss:A0 Str}(S:WS w h a ss):h.SetOf (C8 prog w) a (inS ss) ss.length:=by
 obtain⟨o,b,c,t,S,T⟩:=S;refine⟨o,b,c,t,S.ho,S.ex,S.hd,T.elems,λk=>?_,S.few,S.ft,T.len⟩;cases k with
 | inl i=>exact⟨λz=>Bool.noConfusion (show false=true from z),λz=>absurd z (T.int i)⟩
 | inr x =>
  show decide (x∈ss)=true↔_;rw[decide_eq_true_eq];exact T.mem x
theorem QJ{ss:A0 Str}{x:Str}{m:Tok}{Q:Bool->A4->Prop}(S:WS w s.heap a ss)(hl:ss.length+1<4096)
  (h:∀h' b,Heap.SameBut a s.heap h'->WS w h' a (if x∈ss then ss else ss ++ [x])->Q b { s with heap:=h' }) :
  wpAny (model prog w) A (setAddHashed a (.str x m) (hashStr w x)) Q E s:=by
 obtain⟨o,n,ep,t,S,T⟩:=id S;have C:(C8 prog w).is (.inr x) (.str x m)=true:=X1 x m;have hsz:=T.len;unfold setAddHashed setAddHashedIn;refine BO (AA (CG S.ho S.hd S.ft ?_));dsimp only;rw[byScan_of (knd:=C8 prog w) rfl S.few T.elems,AO rfl];unfold setAddByScan;refine AA (AA (DF ?_));refine AA (wpAny_setScan_of C S.ho S.hd S.ft T.elems ?_);cases W:List.findIdx? (λe=>(C8 prog w).is (.inr x) e.2) n.toList with
 | some j =>
  dsimp only;obtain⟨hj,M,_⟩:=List.findIdx?_eq_some_iff_getElem.mp W;have p:x∈ss:=(T.mem (prog:=prog) x).mpr ⟨n.toList[j],DL hj,M⟩;refine AE (AE ?_);have:=h s.heap false (Heap.SameBut.refl a s.heap) (by rw[AO p];exact⟨o,n,ep,t,S,T⟩);exact this
 | none =>
  dsimp only;have p:¬x∈ss:=λp=>by
   obtain⟨e,N,K⟩:=(T.mem (prog:=prog) x).mp p;have:=List.findIdx?_eq_none_iff.mp W e N;rw[K]at this;exact Bool.noConfusion this
  have D:∀(b:Bool) {O:A4} {P:Unit->A4->Prop},P () O->wpAny (model prog w) A (match b with | true=>rule "set.scan.the-table-gave-way" | false=>pure ()) P E O :=
   λb O P X=>by cases b<;>first | exact AE X | exact DF X
  have d:=layNew_perm t n (hashStr w x) (.str x m);have g:=layNew_fits t n (hashStr w x) (.str x m);have k:=Yk t n (hashStr w x) (.str x m);show wpAny _ _ (match layNew t n (hashStr w x) (.str x m)with | (n,t,f,F)=>_) _ _ _;generalize layNew t n (hashStr w x) (.str x m)=L at d g k⊢;obtain⟨c,t1,f,F⟩:=L;dsimp only at d g k⊢;rw[DD]at d;have q:∀u:HS (Int×A2),u.toList.Perm c.toList->MV w u (ss ++ [x]):=λu G=>by
   refine⟨λe N=>?_,?_,?_⟩
   .rcases AJ.mp (d.mem_iff.mp (G.mem_iff.mp N))with z | z
    .exact T.el e z
    .exact⟨x,m,AC.mp z⟩
   .refine((G.trans d).map _).trans ?_;rw[AL];exact T.pm.append (.refl _)
   .rw[CH];refine⟨T.nd,by simp,λy hy z hz=>?_⟩;rw[AC.mp hz];rintro rfl;exact p hy
  have l:c.size=ss.length+1:=by
   have:=(q c (.refl _)).len;rw[AS]at this;exact this
  refine AA (D _ ?_);have H:∀i:IH,i.led=t.led->i.plain=false->i.fits c.size=true->wpAny (model prog w) A (do
    storeSet a c i
    if(!f&&i.tooFull)=true then do
      (match(relayAll i c (SetTable.grown c.size)).2.2 with | true=>rule "set.scan.the-table-gave-way" | false=>pure ())
      storeSet a (relayAll i c (SetTable.grown c.size)).1 (relayAll i c (SetTable.grown c.size)).2.1
      pure (some true)
     else pure (some true)) (λr s'=>wpAny (model prog w) A (match r with | some v=>pure v | none=>setAddHashedIn a (.str x m) (hashStr w x) 99999) Q E s') E s:=by
   intro i Y Z f2;refine AA (HK S.ho S.hd ?_ (by rw[l,sizeLine_eq];lia));have B:=Fi S.ho S.hd c i;have I:=DN s.heap a (Obj.putSet c i);split
   .have K:=relayAll_perm i c (SetTable.grown c.size);have hf:=relayAll_fits i c (SetTable.grown c.size);obtain⟨R,U⟩:=Qr i c (SetTable.grown c.size) Z;have J:(relayAll i c (SetTable.grown c.size)).1.size=c.size:=by rw[<-AX,K.length_eq,AX]
    refine AA (D _ ?_);refine AA (HK B rfl ?_ (by rw[J,l,sizeLine_eq];lia));refine AE (AE (h _ true (I.trans (DN _ a _)) ?_));rw[AI p];exact⟨_,_,_,_,⟨Fi B rfl _ _,S.ex,rfl,hf,R.trans (Y.trans S.led),(λz=>by rw[U]at z;cases z),by rw[J,l];lia⟩,q _ K⟩
   .refine AE (AE (h _ true I ?_));rw[AI p];exact⟨_,c,_,i,⟨B,S.ex,rfl,f2,Y.trans S.led,(λz=>by rw[Z]at z;cases z),by rw[l];lia⟩,q _ (.refl _)⟩
  cases V:t1.plain with
  | true =>
   rw[AO rfl,hashByValue_scannable 8 (x:=Value.str x m) rfl];refine AA (AE ?_);exact H { t1 with plain:=false } k rfl (SetTable.fits_plain_off g)
  | false =>
   rw[AI (by decide)];refine AA (AE ?_);exact H t1 k V g
end
end ST
namespace L2
open PySem PySem.Spec PyProof.Rows
def r9(w:HW)(a:A3)(ss:A0 Str):HO:=.ext λh=>ST.WS w h a ss
section
variable{X:Cx}{pins:A0 (A3×Obj)}{σ:St}{H:Hp}{s:A4}{a:A3}{ss:A0 Str}
theorem Xk{P:HU}{w:HW}{H:Hp}{h:H_}(z:ST.WS w h a ss):IR P w H h a (r9 w a ss) :=
 ⟨z,let⟨o,_,_,_,S,_⟩:=z;⟨o,S.ho⟩,λd e ⟨o,b,c,t,S,r⟩ k=>⟨o,b,c,t,S.at (k o S.ho),r⟩⟩
theorem Inv.setw(I:Inv X pins σ H s)(e:H a=some (r9 X.w a ss)):ST.WS X.w s.heap a ss:=by
 obtain⟨z,_⟩:=(show IR X.prog X.w H s.heap a (r9 X.w a ss)from I.hok a _ e);exact z
def Xh(l:A0 Str)(x:Str):A0 Str:=if x∈l then l else l ++ [x]
def zDj(w:HW):V->A0 V->Hp->VK->Prop:=λx b H Q=>∃a l k,x = .ref a/\b = [.str k]/\H a=some (r9 w a l)/\l.length+1<4096/\Q .non (HX H a (r9 w a (Xh l k)))
theorem WS.typeIs{ss:A0 Str}(z:ST.WS X.w s.heap a ss):s.TypeIs (.ref a) "set":=let⟨o,_,_,_,S,_⟩:=z;⟨o,S.ho,S.ex.1⟩
theorem Zj:PV X "set.add" (zDj X.w):=by
 intro pins s σ H x n v p Q I g i h;obtain⟨a,l,k,rfl,rfl,d,j,q⟩:=h;cases g;obtain⟨u,rfl,⟨r,rfl⟩⟩:=i.one;have z:=I.setw d;refine CI F.slot_set_add (WS.typeIs z) F.entry_set_add ?_ (F.args_set_add_2 _ _);unfold Builtin.«set.add» Builtin.Frozenset.oneOther;simp only[List.isEmpty_nil,bind_assoc];unfold Builtin.Frozenset.addrOf setAdd;refine AA (AE ?_)
 try dsimp only
 refine AA (AE ?_)
 try dsimp only
 refine AA ?_;refine BO ?_;refine AA (wpAny_pyHash_str ?_);refine ST.QJ (s:={ s with toks:=s.toks+1 }) z j λt b c f=>?_;show wpAny _ _ (ret Value.none) _ _ _;refine AE ⟨_,rfl,.non,_,I.write (x:=a) (e:=a) (t':=s.toks+1) (by rw[d];exact VC) (.inl rfl) (λb q m e=>(c.2 b m).trans e) (let⟨o,_,_,_,S,_⟩:=f;⟨o,S.ho⟩) (Xk f),rfl,q⟩
def zGi(w:HW)(neg:Bool):R2:=λx y H Q=>∃a l k,y = .ref a/\x = .str k/\H a=some (r9 w a l)/\Q (.bl (if neg then !decide (k∈l)else decide (k∈l))) H
theorem Ew:KH X (compareOp .NotIn) (zGi X.w true):=by
 intro pins s σ H x y v u Q I b c h;obtain⟨a,l,k,rfl,rfl,d,q⟩:=h;cases c;obtain⟨e,rfl⟩:=b;exact wpAny_notInSet_of (knd:=C8 X.prog X.w) (k:=.inr k) (X1 k e) rfl (I.setw d).setOf ⟨.bl (!decide (k∈l)),H,I.tok _,rfl,q⟩
end
def Inv.drawn{X:Cx}{a:A0 (A3×Obj)}{σ:St}{H:Hp}{s:A4}(I:Inv X a σ H s)(d:Drawn):Inv X a σ H { s with drawn:=d } :=
 ⟨I.ok,I.os,I.bare,I.base,I.loc,I.cell,I.free,I.freeC,I.pin,I.hok,I.len⟩
section
variable{X:Cx}
theorem Hw(Y:X.calm=true):J9 X (.builtin "sorted") (λxs H Q=>∃(p:A3) (ss:A0 Str),xs = [.ref p]/\H p=some (r9 X.w p ss)/\∀(l:A3) (d:A0 Str),H l=none->d.Perm ss->d.Pairwise OG->Q (.ref l) (HX H l (.lst (d.map V.str)))):=by
 intro O s σ H xs j Q I r h;obtain⟨p,ss,rfl,Z,q⟩:=h;obtain⟨u,rfl,ru⟩:=X4 r;cases ru;obtain⟨o,es,ep,t,S,T⟩:=I.setw Z;refine TS.KP (ST.PN (show X.A.in1.handled=none from I.ok.hd Y) S λC c k1 g1 P D f=>?_);have R:∀v∈c,∃x g,v=Value.str x g:=λv m=>by
  obtain⟨e,E,rfl⟩:=BJ.mp (f.mem_iff.mp m);obtain⟨x,g,rfl⟩:=T.el e E;exact⟨x,g,rfl⟩
 have n:StrsAre c (c.map strOf):=by
  have:∀l:A0 A2,(∀v∈l,∃x g,v=Value.str x g)->StrsAre l (l.map strOf):=by
   intro l
   induction l with
   | nil=>exact λ_=>.nil
   | cons v r F =>
    intro h;obtain⟨x,g,rfl⟩:=h v (AZ ..);exact .cons _ _ (F λu z=>h u (AN _ z))
  exact this c R
 have U:c.length=es.size:=by rw[f.length_eq,AB,AX]
 have W:=S.few;have G:(c.map strOf).Perm ss:=by
  refine(f.map strOf).trans ?_;rw[BW];refine List.Perm.trans (FD ?_) T.pm;refine List.map_congr_left λe E=>?_;obtain⟨x,g,rfl⟩:=T.el e E;rfl
 refine⟨P,by rw[sizeLine_eq];lia,strKind,oneType',λs2 _=>TS.MM n,λout h' e ho k hg=>?_⟩;obtain⟨J,hs⟩:=ho;have K:∀v∈out.toList,∃x t,v = .str x t:=λv m=>R v (J.mem_iff.mp m);have m:IG ((out.toList.map strOf).map V.str) out.toList:=by
  have:∀j:A0 A2,(∀v∈j,∃x t,v = .str x t)->IG ((j.map strOf).map V.str) j:=by
   intro j
   induction j with
   | nil=>exact λ_=>.nil
   | cons v r F =>
    intro h;obtain⟨x,t,rfl⟩:=h v (AZ ..);exact .cons ⟨t,rfl⟩ (F λu z=>h u (AN _ z))
  exact this _ K
 have i:(out.toList.map strOf).Perm ss:=(J.map strOf).trans G;have L:(out.toList.map strOf).Pairwise OG:=by
  rw[DV];refine(FC.mp hs).imp fun{u v} ⟨z,M,q⟩=>?_;obtain⟨x,t,rfl⟩:=K u z;obtain⟨y,t',rfl⟩:=K v M;have q':decide (y.cps.toList<x.cps.toList)=false:=q;exact HD q'
 have k0:∀b o,s.heap.get? b=some o->h'.get? b=some o:=λb o eb=>k b o (k1 b o eb);have B:s.heap.objs.size<=C.heap.objs.size:=DQ D;have hn:H C.heap.objs.size=none:=I.hok.fresh B;obtain⟨N,g',d',t',o'⟩:=C;have eo:o'=s.os:=P;have eg:g'=s.gens:=g1;subst eo;subst eg;refine⟨.ref N.objs.size,HX H N.objs.size (.lst ((out.toList.map strOf).map V.str)),?_,rfl,q _ _ hn i L⟩;exact(I.laid (a:=N.objs.size) (o:=.lst ((out.toList.map strOf).map V.str)) (t':=t') k0 B ⟨by rw[AB,AB,J.length_eq,sizeLine_eq];lia,out.toList,e,m,by simpa using hg⟩).drawn d'
end
def Ot(P:HU)(w:HW)(a:A3)(b:A0 (A0 IM×A3)):HO:=.ext λh=>ST.MZ (C8 P w) h a b
def Ki(H:Hp)(a:A0 (A0 IM×A3)):Prop:=∀q∈a,H q.2=some (.tup (q.1.map kV))
section
variable{X:Cx}{pins:A0 (A3×Obj)}{σ:St}{H:Hp}{s:A4}{a:A3}{ks:A0 (A0 IM×A3)}
theorem Lz(P:HU)(w:HW):ST.Flat (C8 P w):=λv ⟨x,h⟩=>(C8 P w).byValue x v h
theorem Uw(P:HU)(w:HW):ST.RS (C8 P w):=λv ⟨x,h⟩=>by
 rcases G7 (show Dd x v=true from h)with⟨i,t,_,rfl⟩ | ⟨y,t,_,rfl⟩<;>rfl
theorem Xe{P:HU}{w:HW}{H:Hp}{h:H_}(z:ST.MZ (C8 P w) h a ks):IR P w H h a (Ot P w a ks) :=
 ⟨z,let⟨o,_,_,_,e,_⟩:=z;⟨o,e⟩,λd f ⟨o,b,c,t,e,r⟩ k=>⟨o,b,c,t,k o e,r⟩⟩
theorem Inv.sett(I:Inv X pins σ H s)(e:H a=some (Ot X.prog X.w a ks)):ST.MZ (C8 X.prog X.w) s.heap a ks:=by
 obtain⟨z,_⟩:=(show IR X.prog X.w H s.heap a (Ot X.prog X.w a ks)from I.hok a _ e);exact z
theorem Ni:J9 X (.type "set") (λxs H Q=>xs = []/\∀p,H p=none->Q (.ref p) (HX H p (Ot X.prog X.w p []))):=by
 intro pins s σ H xs c Q I r h;obtain⟨rfl,q⟩:=h;cases r;refine call_set_0 λa=>⟨.ref s.heap.objs.size,_,I.laid (t':=s.toks) (λb o e=>AD _ e) (VD _) (Xe ?_),rfl,q _ (I.hok.fresh (VD _))⟩;exact⟨_,#[],0,_,AY _ rfl,⟨rfl,rfl,rfl⟩,rfl,.refl _,⟨rfl,rfl,.inl rfl,by show 0*5<7*3;decide⟩⟩
def zGh(P:HU)(w:HW):R2:=λx y H Q=>∃a p ks k,y = .ref a/\x = .ref p/\H a=some (Ot P w a ks)/\H p=some (.tup (k.map kV))/\Ki H ks/\(∀q∈ks,q.1≠k)/\Q (.bl false) H
theorem Nd(b:X.A.units+1<cLine):KH X (compareOp .In) (zGh X.prog X.w):=by
 intro pins s σ H x y v u Q I c d h;obtain⟨a,p,ks,k,rfl,rfl,e,f,g,i,q⟩:=h;cases d;cases c;exact ST.RN (neg:=false) b (Lz _ _) (I.sett e) (λz j=>Aa I.hok (g z j)) (Aa I.hok f) i ⟨.bl false,H,I.tok _,rfl,q⟩
def zAy(P:HU)(w:HW):V->A0 V->Hp->VK->Prop:=λx b H Q=>∃a p ks k,x = .ref a/\b = [.ref p]/\H a=some (Ot P w a ks)/\H p=some (.tup (k.map kV))/\Ki H ks/\(∀q∈ks,q.1≠k)/\ks.length+1<=300/\Q .non (HX H a (Ot P w a (ks ++ [(k,p)])))
theorem Xy(d:X.A.units+1<cLine):PV X "set.add" (zAy X.prog X.w):=by
 intro pins s σ H x B v C Q I f g h;obtain⟨a,p,ks,k,rfl,rfl,c,i,j,l,m,q⟩:=h;cases f;obtain⟨u,rfl,n⟩:=g.one;cases n;refine ST.QX d (Lz _ _) (Uw _ _) (I.sett c) (λz r=>Aa I.hok (j z r)) (Aa I.hok i) l m λD t z=>?_;exact⟨.non,_,I.write (x:=a) (e:=a) (by rw[c];exact VC) (.inl rfl) (λb q y e=>(t.2 b y).trans e) (let⟨o,_,_,_,e,_⟩:=z;⟨o,e⟩) (Xe z),rfl,q⟩
end
section
variable{X:Cx}
theorem Rs:J9 X (.builtin "isinstance") (λxs H Q=>∃x n t b,xs = [x,.ty n]/\MD X.K H x t/\PySem.W.kitOne X.K t (.type n)=some b/\Q (.bl b) H):=by
 intro a s σ H xs g Q I r h;obtain⟨x,n,t,b,rfl,c,d,q⟩:=h;obtain⟨u,v,rfl,e,f⟩:=r.two;cases f;exact Qj I e c d λi=>⟨.bl b,H,I.tok _,rfl,q⟩
end
mutual
def Rp(K:VA)(H:Hp):PyData->V->Prop
 | .none,v=>v = .non
 | .bool b,v=>v = .bl b
 | .int i,v=>v = .int i
 | .str x,v=>v = .str x
 | .list d,v=>∃a c,v = .ref a/\IC K H a c/\PF K H d c
 | .tuple d,v=>∃a c,v = .ref a/\IZ K H a c/\PF K H d c
 | .dict _,_=>False
def PF(K:VA)(H:Hp):A0 PyData->A0 V->Prop
 | [],a=>a = []
 | d::b,a=>∃v r,a=v::r/\Rp K H d v/\PF K H b r
end
section
variable{X:Cx}{pins:A0 (A3×Obj)}{σ:St}{H:Hp}{s:A4}
mutual
theorem Inv.reads(I:Inv X pins σ H s):∀(d:PyData) (v:V) (u:A2),Rp X.K H d v->RelV v u->∃as,Reads s.heap u d as
 | .none,v,u,h,r=>by
  cases(show v = .non by simpa [Rp] using h);cases r;exact⟨_,.none⟩
 | .bool b,v,u,h,r=>by
  cases(show v = .bl b by simpa [Rp] using h);cases r;exact⟨_,.bool b⟩
 | .int i,v,u,h,r=>by
  cases(show v = .int i by simpa [Rp] using h);obtain⟨t,rfl⟩:=r;exact⟨_,.int i t⟩
 | .str x,v,u,h,r=>by
  cases(show v = .str x by simpa [Rp] using h);obtain⟨t,rfl⟩:=r;exact⟨_,.str x t⟩
 | .list j,v,u,h,r=>by
  obtain⟨a,c,e,k,l⟩:=(show ∃a c,v=V.ref a/\IC X.K H a c/\PF X.K H j c by simpa [Rp] using h);subst e;cases r;obtain⟨f,m,⟨o,n,e,p,q,g⟩,_⟩:=I.list k;obtain⟨as,z⟩:=I.readsAll j c f l m;exact⟨_,.list e p g (by simpa using z)⟩
 | .tuple j,v,u,h,r=>by
  obtain⟨a,c,e,k,l⟩:=(show ∃a c,v=V.ref a/\IZ X.K H a c/\PF X.K H j c by simpa [Rp] using h);subst e;cases r;obtain⟨f,m,⟨o,e,p,n,g⟩,_⟩:=I.tuple k;obtain⟨as,z⟩:=I.readsAll j c f l m;exact⟨_,.tuple e p g (by simpa using z)⟩
 | .dict _,v,u,h,r=>by simp[Rp]at h
theorem Inv.readsAll(I:Inv X pins σ H s):∀(a:A0 PyData) (vs:A0 V) (us:A0 A2),PF X.K H a vs->IG vs us->∃as,ReadsAll s.heap us a as
 | [],vs,us,h,r=>by
  cases(show vs = [] by simpa [PF] using h);cases r;exact⟨_,.nil⟩
 | d::a,vs,us,h,r=>by
  obtain⟨v,b,e,c,f⟩:=(show ∃v r,vs=v::r/\Rp X.K H d v/\PF X.K H a r by simpa [PF] using h);subst e;cases r with
  | cons g i =>
   obtain⟨as,z⟩:=I.reads d v _ c g;obtain⟨k,j⟩:=I.readsAll a b _ f i;exact⟨_,.cons z j⟩
end
def Pl(d:PyData):Prop:=d.canLay0=true/\d.depth<=50
def SW(K:VA):R2:=λx y H Q=>∃d e,Rp K H d x/\Rp K H e y/\Pl d/\Pl e/\Q (.bl (PyData.eqv d e)) H
def Zs(K:VA):R2:=λx y H Q=>∃d e,Rp K H d x/\Rp K H e y/\Pl d/\Pl e/\Q (.bl (!PyData.eqv d e)) H
def zDo(m:X.A.units+64<cLine):KH X (compareOp .Eq) (SW X.K):=by
 intro a s σ H x y v u Q I f g h;obtain⟨d,e,i,j,b,c,q⟩:=h;obtain⟨n,k⟩:=I.reads d x v i f;obtain⟨o,l⟩:=I.reads e y u j g;exact PySem.SeqAt.compareEq_reads k l b.1 c.1 (by have:=b.2;have:=c.2;lia) ⟨.bl (PyData.eqv d e),H,I,rfl,q⟩
def zAx(m:X.A.units+64<cLine):KH X (compareOp .NotEq) (Zs X.K):=by
 intro a s σ H x y v u Q I f g h;obtain⟨d,e,i,j,b,c,q⟩:=h;obtain⟨n,k⟩:=I.reads d x v i f;obtain⟨o,l⟩:=I.reads e y u j g;exact PySem.SeqAt.compareNe_reads k l b.1 c.1 (by have:=b.2;have:=c.2;lia) ⟨.bl (!PyData.eqv d e),H,I,rfl,q⟩
def SR(K:VA)(neg:Bool):R2:=λx y H Q=>∃d a,Rp K H d x/\(Rp K H (.list a) y\/Rp K H (.tuple a) y)/\Pl d/\PyData.canLayAll0 a=true/\Q (.bl (if neg then !(a.any λz=>PyData.eqv z d)else a.any λz=>PyData.eqv z d)) H
def zCk(n:X.A.units+64<cLine):KH X (compareOp .In) (SR X.K false):=by
 intro f s σ H x y v u Q I k g h;obtain⟨d,b,l,h2,c,i,q⟩:=h;obtain⟨o,j⟩:=I.reads d x v l k;have a:X.A.units+1+min (PyData.depthAll b) d.depth<cLine:=by have:=c.2;lia
 rcases h2 with h2 | h2
 .obtain⟨m,e⟩:=I.reads (.list b) y u h2 g;exact PySem.SeqAt.in_list_reads e j i c.1 a ⟨.bl _,H,I,rfl,q⟩
 .obtain⟨m,e⟩:=I.reads (.tuple b) y u h2 g;exact PySem.SeqAt.in_tuple_reads e j i c.1 a ⟨.bl _,H,I,rfl,q⟩
def Qt(n:X.A.units+64<cLine):KH X (compareOp .NotIn) (SR X.K true):=by
 intro f s σ H x y v u Q I k g h;obtain⟨d,b,l,h2,c,i,q⟩:=h;obtain⟨o,j⟩:=I.reads d x v l k;have a:X.A.units+1+min (PyData.depthAll b) d.depth<cLine:=by have:=c.2;lia
 rcases h2 with h2 | h2
 .obtain⟨m,e⟩:=I.reads (.list b) y u h2 g;exact PySem.SeqAt.notIn_list_reads e j i c.1 a ⟨.bl _,H,I,rfl,q⟩
 .obtain⟨m,e⟩:=I.reads (.tuple b) y u h2 g;exact PySem.SeqAt.notIn_tuple_reads e j i c.1 a ⟨.bl _,H,I,rfl,q⟩
end
section
variable{X:Cx}
def Sx(K:VA):V->A0 V->Hp->VK->Prop:=λx b H Q=>∃(l:A3) (a:A0 Str) (y:Str) (j:Nat),x = .ref l/\b = [.str y]/\IC K H l (a.map V.str)/\a[j]?=some y/\(∀m,m<j->a[m]?≠some y)/\Q (.int (j:Nat)) H
theorem X7{ss:A0 Str}{us:A0 A2}(h:IG (ss.map V.str) us){i:Nat}(hi:i<us.length):∃x t,ss[i]?=some x/\us[i] = .str x t:=by
 have b:=h.length;rw[AB]at b;obtain⟨x,a⟩:∃x,ss[i]?=some x:=⟨ss[i]'(by lia),AF (by lia)⟩;obtain⟨u,c,t,rfl⟩:=h.get (i:=i) (x:=.str x) (by rw[AH,a];rfl);refine⟨x,t,a,?_⟩;have:=AF hi;rw[c]at this;exact(BT this).symm
theorem Qq:PV X "list.index" (Sx X.K):=by
 intro B s σ H x W v Y Q I L M h;obtain⟨l,Z,y,j,rfl,rfl,N,C,k,q⟩:=h;cases L;obtain⟨u,rfl,⟨D,rfl⟩⟩:=M.one;obtain⟨a,r,⟨o,n,e,E,O,c⟩,G⟩:=I.list N;have d:=r.length;rw[AB]at d G;have b:j<a.length:=by
  have:=(AM.mp C).1;lia
 obtain⟨P,R,J,S⟩:=o;simp only at E O c;subst E c
 let p:A2->Bool:=λv=>match v with | .str x _=>x == y | _=>false
 have T:=PySem.SeqAt.list_indexAt l a.toArray n R S (.str y D) p j (by simpa using b) (by rw[sizeLine_eq]at G;lia) ?_ ?_
 .refine call_meets F.slot_list_index ⟨_,e,rfl⟩ F.entry_list_index (F.args_list_index_2 _ _) T ⟨e,?_,?_⟩
  .intro v U;have w:v∈a:=by simpa using U
   obtain⟨i,V,rfl⟩:=List.getElem_of_mem w;obtain⟨x,t,_,f⟩:=X7 r V;rw[f];exact PySem.SeqAt.EqAt.str_str x t y D
  .exact⟨.int (j:Nat),H,I.tok _,⟨_,rfl⟩,q⟩
 .obtain⟨x,t,g,f⟩:=X7 r b;rw[C]at g;cases g;show p (a.toArray[j]'(by simpa using b))=true;rw[show a.toArray[j]'(by simpa using b)=a[j]from by simp,f];exact beq_self_eq_true y
 .intro m hm z;have A:m<a.length:=by simpa using hm
  obtain⟨x,t,g,f⟩:=X7 r A;show p (a.toArray[m]'hm)=false;rw[show a.toArray[m]'hm=a[m]from by simp,f];show(x == y)=false;rw[beq_eq_false_iff_ne];rintro rfl;exact k m z g
end
end L2
namespace L2
open PySem PySem.Spec PyProof.Rows
section
variable{X:Cx}
def Hi(x:Str)(n:Nat):Str:=⟨(List.replicate n x.cps).foldl (· ++ ·) #[]⟩
theorem Up(x:Str):Hi x 1=x:=by
 unfold Hi;simp
theorem Fz:∀(n:Nat) (a:HS Nat),(List.replicate n (#[]:HS Nat)).foldl (· ++ ·) a=a
 | 0,_=>rfl
 | n+1,a=>by rw[C_,G_,Array.append_empty];exact Fz n a
theorem Mj(a:HS Nat):∀(n:Nat) (b:HS Nat),((List.replicate n a).foldl (· ++ ·) b).size=b.size+n*a.size
 | 0,_=>by simp
 | n+1,b=>by rw[C_,G_,Mj a n,Array.size_append,Nat.succ_mul];lia
theorem Oe:KH X (binaryOp .Mult) (λx y H Q=>∃z i n,x = .str z/\y = .int i/\i =((n:Nat):Int)/\n<=100/\z.length<=1000/\Q (.str (Hi z n)) H):=by
 intro j s σ H x y v u Q I l m h;obtain⟨z,i,n,rfl,rfl,w,o,e,q⟩:=h;obtain⟨t,rfl⟩:=l;obtain⟨A,rfl⟩:=m;have d:z.length=z.cps.size:=rfl;refine PySem.P.mul_str ?_ ?_ ?_ ?_
 .rw[AK (by lia),AK (by lia)];rfl
 .intro f _ p;have k:(z.length:Int)*i<=1000*100:=Int.mul_le_mul (by lia) (by lia) (by lia) (by lia);have:=Int.le_ediv_of_mul_le (a:=(z.length:Int)) (b:=2^63-1) (c:=i) (by lia) (by lia);lia
 .intro _ _;have k:z.length*i.toNat<=1000*100:=Nat.mul_le_mul e (by lia);unfold Builtin.Str.tooLong;exact AK (by rw[sizeLine_eq];lia)
 .have r:i.toNat=n:=by lia
  rw[r];by_cases f:i<1
  .rw[AO f];have:n=0:=by lia
   subst this;exact⟨by decide,.str (Hi z 0),H,I.tok _,⟨_,rfl⟩,q⟩
  .rw[AI f];by_cases g:(i == 1||z.length == 0)=true
   .rw[AO g];have e:Hi z n=z:=by
     rcases Bool.or_eq_true _ _▸g with z1 | z1
     .have:n=1:=by have:=eq_of_beq z1;lia
      subst this;exact Up z
     .have:z.cps = #[]:=Array.eq_empty_of_size_eq_zero (by rw[d]at z1;exact eq_of_beq z1);unfold Hi;rw[this,Fz];cases z;simp at this;rw[this]
    rw[e]at q;exact⟨.str z,H,I,⟨t,rfl⟩,q⟩
   .rw[AI g];refine⟨?_,.str (Hi z n),H,I.tok _,⟨_,rfl⟩,q⟩;show(Hi z n).cps.size<=sizeLine;unfold Hi;rw[Mj,sizeLine_eq];have k:n*z.cps.size<=100*1000:=Nat.mul_le_mul o (by rw[<-d];exact e);simp only[Array.size_empty];lia
set_option genInjectivity false in
structure Fn(K:VA)(mg:Str->A5 A2)(x:Str)(st:IK)(ps:A0 Str) where
 f:A3
 fd:IT
 F:PK K x x st f fd
 b:Binds K fd ps []
 m:mg x=some (.ref f)
set_option genInjectivity false in
structure Mt(K:VA)(C:A3)(m qual:Str)(st:IK)(ps:A0 Str) where
 f:A3
 fd:IT
 F:PK K m qual st f fd
 b:Binds K fd ps []
 m:QG K C m f
theorem E4{x:Str}{st:IK}{ps:A0 Str}{k:Nat}{sp:Sp}{e:IB}{a:A0 IB}{t:TA}{p c:Pos}(D:Fn X.K X.mg x st ps)(G:II X.prog X.w X.K X.mg X.base JP k D.f D.fd ps sp)(h:JT k X.A)(i:PA X (e::a) t)
  (j:Gl X x:=by rfl) (d:(x ==("__debug__":Str))=false:=by decide) (l:starEach (e::a) X.env =(false,eval e X.env)::starEach a X.env:=by rfl) (g:(backTo c (starEach a X.env)).any (·.1)=false:=by rfl) :
  PE X (.Call (.Name x p) (e::a) [] c) (Rr sp [] E0 t):=Zw G h j D.m D.F.kp D.b .nil J6 i d l g
def Th(P:HU)(w:HW)(x:V)(H:Hp):Prop:=∃p,x = .ref p/\((∃l,H p=some (Os P w p l))\/(∃l,H p=some (r9 w p l))\/∃a,H p=some (Ot P w p a))
theorem zBb{c:A0 (A3×Obj)}{σ:St}{H:Hp}{s:A4}{x:V}{v:A2}(I:Inv X c σ H s)(r:RelV x v)(ty:Th X.prog X.w x H):s.TypeIs v "set"/\∀a,v = .ref a->∃d,s.heap.get? a=some d/\d.dict=none:=by
 obtain⟨p,rfl,h⟩:=ty;cases r;have z:∃o,s.heap.get? p=some o/\o.ExactSet:=by
  rcases h with⟨l,h⟩ | ⟨l,h⟩ | ⟨l,h⟩
  .obtain⟨o,_,_,_,e,b,_⟩:=I.set h;exact⟨o,e,b⟩
  .obtain⟨o,_,_,_,S,_⟩:=I.setw h;exact⟨o,S.ho,S.ex⟩
  .obtain⟨o,_,_,_,e,b,_⟩:=I.sett h;exact⟨o,e,b⟩
 obtain⟨o,e,b⟩:=z;refine⟨⟨o,e,b.1⟩,λa f=>?_⟩;cases f;exact⟨o,e,b.2.1⟩
def zGq(P:HU)(w:HW)(r:V->A0 V->Hp->VK->Prop)(b:TE)(t:TA):TE:=λσ H Q=>b σ H λx a=>Th P w x a/\t σ a λc d=>r x c d Q
theorem Yu{o e:IB}{i:TE}{t:TA}{c a:Pos}{r:V->A0 V->Hp->VK->Prop}(m:PV X "set.add" r)(n:PE X o i)(p:PA X [e] t)
  (d:attributeBase o "add" X.env (eval o X.env)=eval o X.env:=by rfl)
  (g:((backTo a (starEach [e] X.env)).all (λx=>!x.1) &&(backToKw a (keywordEach [] X.env)).all (λx=>x.1.isSome)
   && decide ([e].length +([]:A0 Keyword).length +(if([]:A0 Keyword).isEmpty then 0 else 1)<30))=true:=by rfl)
  (f:(c.endLine == a.line)=true:=by rfl) (q:starEach [e] X.env = [(false,eval e X.env)]:=by rfl) :
  PE X (.Call (.Attribute o "add" c) [e] [] a) (zGq X.prog X.w r i t):=by
 intro b s σ H Q I h;refine wpAny_Call_method_late d g f rfl (I7 (n b s σ H _ I h) λv u ⟨x,y,j,k,ty,z⟩=>?_);obtain⟨A,B⟩:=zBb j k ty;refine⟨"set", "set.add",F.plainAttrs_set,F.slot_set_add,F.type_set_add,A,B,?_⟩;have l:=p a b u σ y _ j z;rw[q]at l⊢;refine Calls.callWith_builtin rfl (Calls.evalArgs_plain ?_);exact I7 l λC D ⟨E,G,J,K,L⟩=>m b D σ G x E v C Q J k K L
theorem zFl{x:Str}{i:Int}{a:Pos}(h:∃t,X.mg x=some (.int i t))(b:Gl X x:=by rfl)(c:(x ==("__debug__":Str))=false:=by decide):PE X (.Name x a) (tC (.int i)):=by
 obtain⟨t,e⟩:=h;exact Px b e ⟨t,rfl⟩ c
theorem zFt{x y:Str}{a:Pos}(h:∃t,X.mg x=some (.str y t))(b:Gl X x:=by rfl)(c:(x ==("__debug__":Str))=false:=by decide):PE X (.Name x a) (tC (.str y)):=by
 obtain⟨t,e⟩:=h;exact Px b e ⟨t,rfl⟩ c
theorem Z8{x:Str}{n:String}{a:Pos}(b:X.mg x=none)(c:bootBuiltins x=some (.type n))(d:Gl X x:=by rfl)(e:x≠ "__name__":=by decide)(f:(x ==("__debug__":Str))=false:=by decide):PE X (.Name x a) (tC (.ty n)) :=
 Zx d b c rfl e f
theorem G9{x:Str}{id:String}{r:A0 V->Hp->VK->Prop}{e:IB}{a:A0 IB}{t:TA}{p b:Pos}(f:J9 X (.builtin id) r)(g:X.mg x=none)(h:bootBuiltins x=some (.builtin id))(i:PA X (e::a) t)(j:Gl X x:=by rfl)(k:x≠ "__name__":=by decide)(c:(x ==("__debug__":Str))=false:=by decide)
  (l:starEach (e::a) X.env =(false,eval e X.env)::starEach a X.env:=by rfl) (d:(backTo b (starEach a X.env)).any (·.1)=false:=by rfl):PE X (.Call (.Name x p) (e::a) [] b) (SA r t):=Wd f j g h i k c l d
theorem X3{x:Str}{T:String}{r:A0 V->Hp->VK->Prop}{e:IB}{a:A0 IB}{t:TA}{p b:Pos}(f:J9 X (.type T) r)(g:X.mg x=none)(h:bootBuiltins x=some (.type T))(i:PA X (e::a) t)(j:Gl X x:=by rfl)(k:x≠ "__name__":=by decide)(c:(x ==("__debug__":Str))=false:=by decide)
  (l:starEach (e::a) X.env =(false,eval e X.env)::starEach a X.env:=by rfl) (d:(backTo b (starEach a X.env)).any (·.1)=false:=by rfl):PE X (.Call (.Name x p) (e::a) [] b) (SA r t):=Pp f j g h i k c l d
theorem N0{a:KM}{cl:A0 (Str×A3)}{N':A0 Str}{cap:A0 (A5 Nat)}(c:NX X a cl N' cap)(e:QP X cl)(d:closureFor a X.env=pure cl:=by rfl)(kind:a.kind = .function:=by rfl)(b:∀y∈a.names,y.2≠ .cell:=by decide +kernel)
  (f:∀y∈a.names,y.2 = .local->a.names.lookup y.1=some .local:=by decide +kernel) (g:((relabel a X.env).names.all λy=>!(y.2 == .cell||y.2 == .free)||(cl.lookup y.1).isSome)=true:=by rfl):MJ X a cl N' cap:=⟨kind,b,f,d,e,g,c⟩
theorem LV{a:KM}{cl:A0 (Str×A3)}{N':A0 Str}{b:A0 (A3×Obj)}{c:A0 A3}{d:A4}{e:Hp}{x:Str}{f:Pos}(i:Nat)(g:N'.Nodup:=by decide +kernel)(hi:N'[i]?=some x:=by rfl)(h:Loc (LS X a cl N' b c d e).env.scope x:=by exact Or.inl rfl)
  (j:(LS X a cl N' b c d e).env.scope.names.lookup x=some .local:=by rfl):PG (LS X a cl N' b c d e) (.Name x f) (P5 i):=G5 (X:=LS X a cl N' b c d e) g hi h (.inr j)
def N9:bootBuiltins "len" = some (.builtin "len"):=by decide +kernel
def Gw:bootBuiltins "enumerate" = some (.type "enumerate"):=by decide +kernel
def zDx:bootBuiltins "min" = some (.builtin "min"):=by decide +kernel
def zDe:bootBuiltins "max" = some (.builtin "max"):=by decide +kernel
def Xt:bootBuiltins "abs" = some (.builtin "abs"):=by decide +kernel
def R8:bootBuiltins "sorted" = some (.builtin "sorted"):=by decide +kernel
def Xw:bootBuiltins "int" = some (.type "int"):=by decide +kernel
def Kh:bootBuiltins "str" = some (.type "str"):=by decide +kernel
def Ji:bootBuiltins "bool" = some (.type "bool"):=by decide +kernel
def P1:bootBuiltins "list" = some (.type "list"):=by decide +kernel
def Ba:bootBuiltins "tuple" = some (.type "tuple"):=by decide +kernel
def Mh:bootBuiltins "set" = some (.type "set"):=by decide +kernel
def C9:bootBuiltins "isinstance" = some (.builtin "isinstance"):=by decide +kernel
def Po:bootBuiltins "all" = some (.builtin "all"):=by decide +kernel
def JU(a:A3)(b H:Hp):Prop:=∀o,b a=some o->H a=some o
def Sm(D:A0 A3)(H H':Hp):Prop:=∀b o,H b=some o->b∉D->H' b=some o
def Cv.at{b H:Hp}(h:Cv b H)(a:A3):JU a b H:=λo e=>h a o e
def Cv.new{H:Hp}{p:A3}{o:HO}(h:H p=none):Cv H (HX H p o):=λb u e=>by rw[B7 (A9 e h)];exact e
def Cv.upd{a H:Hp}{p:A3}{o:HO}(s:Cv a H)(h:a p=none):Cv a (HX H p o):=λb u e=>by rw[B7 (A9 e h)];exact s b u e
def Cv.sm{D:A0 A3}{H H':Hp}(h:Cv H H'):Sm D H H':=λb o e _=>h b o e
def Sm.refl(D:A0 A3)(H:Hp):Sm D H H:=λ_ _ e _=>e
def Sm.trans{D:A0 A3}{H d e:Hp}(a:Sm D H d)(b:Sm D d e):Sm D H e:=λc o h n=>b c o (a c o h n) n
def Sm.new{D:A0 A3}{H c:Hp}{p:A3}{o:HO}(a:Sm D H c)(h:c p=none):Sm D H (L2.HX c p o):=λb u e n=>by
 have:=a b u e n;rw[B7 (A9 this h)];exact this
def Sm.upd{D:A0 A3}{H c:Hp}{p:A3}{o:HO}(a:Sm D H c)(h:p∈D):Sm D H (L2.HX c p o):=λb u e n=>by
 rw[B7 (show b≠p from λz=>n (by rw[z];exact h))];exact a b u e n
def Sm.updN{D:A0 A3}{H c:Hp}{p:A3}{o:HO}(a:Sm D H c)(h:H p=none):Sm D H (L2.HX c p o):=λb u e n=>by rw[B7 (A9 e h)];exact a b u e n
def JU.seqL{K:VA}{H H':Hp}{a:A3}{xs:A0 V}(e:JU a H H')(h:IC K H a xs):IC K H' a xs:=by
 rcases h with(h | ⟨o,h⟩) | h
 .exact .inl (.inl (e _ h))
 .exact .inl (.inr ⟨o,e _ h⟩)
 .exact .inr h
def JU.seqT{K:VA}{H H':Hp}{a:A3}{xs:A0 V}(e:JU a H H')(h:IZ K H a xs):IZ K H' a xs:=by
 rcases h with(h | ⟨o,h⟩) | h
 .exact .inl (.inl (e _ h))
 .exact .inl (.inr ⟨o,e _ h⟩)
 .exact .inr h
def QK(K:VA)(H:Hp)(a:A3)(xs:A0 V):Prop:=IC K H a xs\/IZ K H a xs
def JU.seq{K:VA}{H H':Hp}{a:A3}{xs:A0 V}(e:JU a H H')(h:QK K H a xs):QK K H' a xs:=h.imp e.seqL e.seqT
structure NK(J:It)(xs:A0 V)(a:A3)(H0:Hp):Prop where
 go:∀H i,JU a H0 H->i<xs.length->J.go i H
 stop:∀H,JU a H0 H->J.stop xs.length H
 yld:∀H i x H',JU a H0 H->i<xs.length->J.yld i H x H'->H'=H/\xs[i]?=some x
def O_{K:VA}{b:Hp}{a:A3}{xs:A0 V}(h:IC K b a xs):NK (P7 K a) xs a b :=
 ⟨λH i k c=>⟨xs,xs[i],k.seqL h,AF c⟩,λH k=>⟨xs,k.seqL h,VD _⟩,λH i x d k c ⟨e,y⟩=>⟨e,y xs (k.seqL h)⟩⟩
def asT{K:VA}{b:Hp}{a:A3}{xs:A0 V}(h:IZ K b a xs):NK (Itt K a) xs a b :=
 ⟨λH i k c=>⟨xs,xs[i],k.seqT h,AF c⟩,λH k=>⟨xs,k.seqT h,VD _⟩,λH i x d k c ⟨e,y⟩=>⟨e,y xs (k.seqT h)⟩⟩
def Ut{J:It}{n:Nat}{g:TG}{f:TS}{D:Ends}{σ:St}{H:Hp}(Pv:Nat->St->Hp->Prop)(j:Pv 0 σ H)(b:∀i σ H,i<n->Pv i σ H->J.go i H)(c:∀σ H,Pv n σ H->J.stop n H)
  (k:∀i σ H x H',i<n->Pv i σ H->J.yld i H x H'->g x σ H' λσ2 d=>f { D with nx:=Pv (i+1),ct:=Pv (i+1),bk:=D.nx } σ2 d) (l:∀σ H,Pv n σ H->D.nx σ H) :
  ∃W:Nat->Nat->St->Hp->Prop,(∃m,W 0 m σ H)/\∀i m σ H,W i m σ H ->
   (J.stop i H/\D.nx σ H)\/(J.go i H/\∃N:St->Hp->Prop,(∀σ' H',N σ' H'->∃h,h < m/\W (i+1) h σ' H')/\∀x H',J.yld i H x H'->g x σ H' λσ2 d=>f { D with nx:=N,ct:=N,bk:=D.nx } σ2 d):=by
 refine⟨λi m σ H=>m=n-i/\i<=n/\Pv i σ H,⟨n,by simp,BP _,j⟩,?_⟩;rintro i m σ H ⟨rfl,q,p⟩;by_cases a:i<n
 .exact .inr ⟨b i σ H a p,Pv (i+1),λσ' H' o=>⟨n-(i+1),by lia,rfl,a,o⟩,λx H' y=>k i σ H x H' a p y⟩
 .have e:i=n:=by lia
  subst e;exact .inl ⟨c σ H p,l σ H p⟩
def zAu{J:It}{xs:A0 V}{a:A3}{f:Hp}(as:NK J xs a f){g:TG}{h:TS}{D:Ends}{σ:St}{H:Hp}(Pv:Nat->St->Hp->Prop)(k:Pv 0 σ H)(c:∀i σ H,i<=xs.length->Pv i σ H->JU a f H)
  (l:∀i σ H x,xs[i]?=some x->Pv i σ H->g x σ H λσ2 d=>h { D with nx:=Pv (i+1),ct:=Pv (i+1),bk:=D.nx } σ2 d) (o:∀σ H,Pv xs.length σ H->D.nx σ H) :
  ∃W:Nat->Nat->St->Hp->Prop,(∃m,W 0 m σ H)/\∀i m σ H,W i m σ H ->
   (J.stop i H/\D.nx σ H)\/(J.go i H/\∃N:St->Hp->Prop,(∀σ' H',N σ' H'->∃j,j < m/\W (i+1) j σ' H')/\∀x H',J.yld i H x H'->g x σ H' λσ2 d=>h { D with nx:=N,ct:=N,bk:=D.nx } σ2 d) :=
 Ut (n:=xs.length) Pv k (λi σ H b p=>as.go H i (c i σ H (DQ b) p) b) (λσ H p=>as.stop H (c _ σ H (VD _) p)) (λi σ H x H' b p y=>by
  obtain⟨rfl,e⟩:=as.yld H i x H' (c i σ H (DQ b) p) b y;exact l i σ _ x e p) o
def Hq{J:It}{n:Nat}{g:TG}{f:TT}{em:RP}{σ:St}{H:Hp}{Q:St->Hp->Prop}(Pv:Nat->St->Hp->Prop)(j:Pv 0 σ H)(c:∀i σ H,i<n->Pv i σ H->J.go i H)(d:∀σ H,Pv n σ H->J.stop n H)
  (k:∀i σ H x H' (N:St->Hp->Prop),i<n->Pv i σ H->J.yld i H x H'->(∀σ' H',Pv (i+1) σ' H'->N σ' H')->g x σ H' λσ2 l=>f σ2 l λb h=>if b=true then em σ2 h N else N σ2 h)
  (o:∀σ H,Pv n σ H->Q σ H):Au g f em J σ H Q:=by
 refine⟨λi m σ H=>m=n-i/\i<=n/\Pv i σ H,⟨n,by simp,BP _,j⟩,?_⟩;rintro i m σ H ⟨rfl,r,p⟩;by_cases a:i<n
 .exact .inr ⟨c i σ H a p,λx H' y=>k i σ H x H' _ a p y λσ3 s q=>⟨n-(i+1),by lia,rfl,a,q⟩⟩
 .have e:i=n:=by lia
  subst e;exact .inl ⟨d σ H p,o σ H p⟩
def O9{J:It}{xs:A0 V}{a:A3}{f:Hp}(as:NK J xs a f){g:TG}{h:TT}{em:RP}{σ:St}{H:Hp}{Q:St->Hp->Prop}(Pv:Nat->St->Hp->Prop)(k:Pv 0 σ H)(d:∀i σ H,i<=xs.length->Pv i σ H->JU a f H)
  (l:∀i σ H x (N:St->Hp->Prop),xs[i]?=some x->Pv i σ H->(∀σ' H',Pv (i+1) σ' H'->N σ' H')->g x σ H λσ2 m=>h σ2 m λb j=>if b=true then em σ2 j N else N σ2 j)
  (o:∀σ H,Pv xs.length σ H->Q σ H):Au g h em J σ H Q :=
 Hq (n:=xs.length) Pv k (λi σ H c p=>as.go H i (d i σ H (DQ c) p) c) (λσ H p=>as.stop H (d _ σ H (VD _) p)) (λi σ H x H' N c p y q=>by
  obtain⟨rfl,e⟩:=as.yld H i x H' (d i σ H (DQ c) p) c y;exact l i σ _ x N e p q) o
def Ci{em:RP}{N:St->Hp->Prop}{σ:St}{H:Hp}{i:Nat}{x:V}(h:em (σ.set i (some x)) H N):P5 i x σ H λσ2 c=>Ev σ2 c λb a=>if b=true then em σ2 a N else N σ2 a:=by
 show if true=true then em (σ.set i (some x)) H N else N (σ.set i (some x)) H
 rw[AO rfl];exact h
section
variable{X:Cx}(K:VA)(P:HU)(w:HW){tg:IB}
theorem MT{l:IB}{tl:TE}(a:PE X l tl)(b:X.K=K:=by rfl):PI X tg l (zBa K tl):=by subst b;exact Xx a
theorem piT{l:IB}{tl:TE}(a:PE X l tl)(b:X.K=K:=by rfl):PI X tg l (zFf K tl):=by subst b;exact zCp a
theorem SQ{a:IB}{c:TA}{p b:Pos}(d:X.mg "range" = none)(e:PA X [a] c)(f:Gl X "range":=by rfl)(g:starEach [a] X.env = [(false,eval a X.env)]:=by rfl):PI X tg (.Call (.Name "range" p) [a] [] b) (zBw c):=Ta f d e g
theorem QV{a:A0 IB}{k:Nat}{t:QY}{n:Nat}{b:Pos}(h:SK X a t)(d:X.calm=true:=by rfl)(e:(assignEach a X.env).length=n:=by rfl)(c:(assignEach a X.env).findIdx? (·.1)=none:=by rfl)(f:X.K=K:=by rfl):PG X (.Tuple a k b) (zEi K n t):=by subst f;exact zDg d h e c
theorem MU{e:IB}{b:TE}{f:Str}{a:Pos}(c:PE X e b)(d:attributeBase e f X.env (eval e X.env)=eval e X.env:=by rfl)(g:X.K=K:=by rfl):PE X (.Attribute e f a) (zGm K b f):=by subst g;exact zCb c d
theorem QU{o a:IB}{d e:TE}{f:Str}{c b:Pos}(g:PE X o d)(h:PE X a e)(i:swapsWith a (some (.Attribute o f b)) c.line X.env=pure false:=by rfl)(j:X.K=K:=by rfl):PS X (.Assign [.Attribute o f b] a c) (zGo K d e f):=by subst j;exact zEd g h i
theorem Q0(b:X.K=K:=by rfl):J9 X (.builtin "len") (λxs H Q=>∃p a,xs = [.ref p]/\(IC K H p a\/IZ K H p a)/\Q (.int a.length) H):=by subst b;exact Gu
theorem S7(b:X.K=K:=by rfl):J9 X (.type "list") (λxs H Q=>∃p a,xs = [.ref p]/\(IC K H p a\/IZ K H p a)/\∀l,H l=none->Q (.ref l) (HX H l (.lst a))):=by subst b;exact Gp
theorem Qi(a:X.calm=true:=by rfl)(b:X.K=K:=by rfl):J9 X (.builtin "all") (λxs H Q=>∃(p:A3) (bs:A0 Bool),xs = [.ref p]/\IC K H p (bs.map V.bl)/\Q (.bl (bs.all id)) H):=by subst b;exact Vp a
theorem Kz(b:X.K=K:=by rfl):J9 X (.builtin "sorted") (λxs H Q=>∃(p:A3) (ss:A0 Str),xs = [.ref p]/\IC K H p (ss.map V.str)/\∀(l:A3) (a:A0 Str),H l=none->a.Perm ss->a.Pairwise OG->Q (.ref l) (HX H l (.lst (a.map V.str)))):=by subst b;exact Ae
theorem Kv(b:X.K=K:=by rfl):J9 X (.builtin "sorted") (λxs H Q=>∃(p:A3) (ps:A0 IL),xs = [.ref p]/\IC K H p (ps.map λq=>V.ref q.1)/\(∀q∈ps,G6 H q)/\∀(l:A3) (a:A0 IL),H l=none->a.Perm ps->a.Pairwise S_->Q (.ref l) (HX H l (.lst (a.map λq=>V.ref q.1)))):=by subst b;exact Gv
theorem Lw(b:X.calm=true:=by rfl)(hw:X.w=w:=by rfl):J9 X (.builtin "sorted") (λxs H Q=>∃(p:A3) (ss:A0 Str),xs = [.ref p]/\H p=some (r9 w p ss)/\∀(l:A3) (a:A0 Str),H l=none->a.Perm ss->a.Pairwise OG->Q (.ref l) (HX H l (.lst (a.map V.str)))):=by subst hw;exact Hw b
theorem Q3(a:X.K=K:=by rfl):J9 X (.builtin "isinstance") (λxs H Q=>∃x n t b,xs = [x,.ty n]/\MD K H x t/\PySem.W.kitOne K t (.type n)=some b/\Q (.bl b) H):=by subst a;exact Rs
theorem Zz(a:X.prog=P:=by rfl)(hw:X.w=w:=by rfl):J9 X (.type "set") (λxs H Q=>xs = []/\∀p,H p=none->Q (.ref p) (HX H p (Os P w p []))):=by subst a;subst hw;exact Ps
theorem Vv(a:X.prog=P:=by rfl)(hw:X.w=w:=by rfl):J9 X (.type "set") (λxs H Q=>xs = []/\∀p,H p=none->Q (.ref p) (HX H p (Ot P w p []))):=by subst a;subst hw;exact Ni
theorem zFz(a:X.A.units+64<cLine)(b:X.K=K:=by rfl):KH X (compareOp .In) (SR K false):=by subst b;exact zCk a
theorem Lj(a:X.A.units+64<cLine)(b:X.K=K:=by rfl):KH X (compareOp .NotIn) (SR K true):=by subst b;exact Qt a
theorem Nn(a:X.A.units+64<cLine)(b:X.K=K:=by rfl):KH X (compareOp .Eq) (SW K):=by subst b;exact zDo a
theorem Gc(a:X.A.units+64<cLine)(b:X.K=K:=by rfl):KH X (compareOp .NotEq) (Zs K):=by subst b;exact zAx a
theorem Nz(a:X.K=K:=by rfl):KH X (compareOp .In) (SD K false):=by subst a;exact Ts
theorem T6(a:X.K=K:=by rfl):KH X (compareOp .NotIn) (SD K true):=by subst a;exact Hu
theorem zFs(a:X.prog=P:=by rfl)(hw:X.w=w:=by rfl):KH X (compareOp .In) (zGe P w false):=by subst a;subst hw;exact Rj
theorem zFw(a:X.A.units+1<cLine)(b:X.prog=P:=by rfl)(hw:X.w=w:=by rfl):KH X (compareOp .In) (zGh P w):=by subst b;subst hw;exact Nd a
theorem zDd(a:X.prog=P:=by rfl)(hw:X.w=w:=by rfl):PV X "set.add" (zBq P w):=by subst a;subst hw;exact zDa
theorem zDz(a:X.A.units+1<cLine)(b:X.prog=P:=by rfl)(hw:X.w=w:=by rfl):PV X "set.add" (zAy P w):=by subst b;subst hw;exact Xy a
theorem Su{o e:IB}{g:TE}{t:TA}{b a:Pos}{r:V->A0 V->Hp->VK->Prop}(h:PV X "set.add" r)(i:PE X o g)(j:PA X [e] t)
  (c:attributeBase o "add" X.env (eval o X.env)=eval o X.env:=by rfl)
  (f:((backTo a (starEach [e] X.env)).all (λx=>!x.1) &&(backToKw a (keywordEach [] X.env)).all (λx=>x.1.isSome)
   && decide ([e].length +([]:A0 Keyword).length +(if([]:A0 Keyword).isEmpty then 0 else 1)<30))=true:=by rfl)
  (d:(b.endLine == a.line)=true:=by rfl) (k:starEach [e] X.env = [(false,eval e X.env)]:=by rfl) (l:X.prog=P:=by rfl) (hw:X.w=w:=by rfl) :
  PE X (.Call (.Attribute o "add" b) [e] [] a) (zGq P w r g t):=by subst l;subst hw;exact Yu h i j c f d k
theorem K2(a:X.K=K:=by rfl):TB X (SV K):=by subst a;exact Yi
theorem OM(a:X.K=K:=by rfl):TB X (zGa K):=by subst a;exact zDu
theorem Ln(a:X.K=K:=by rfl):PV X "list.index" (Sx K):=by subst a;exact Qq
theorem ptV{a:IB}{c:TE}(d:PE X a c)(e:∀b,isTrue a X.env b =(do let v <-b;standAt a.pos;holding [v] (truthy v)):=by intro _;rfl)(f:X.K=K:=by rfl):PT X a (λσ H Q=>c σ H λx H'=>∃k,zFd K x H' k/\Q k H'):=by subst f;exact Ur d e
theorem Li{T id:String}{name:Str}{o e:IB}{d:A0 IB}{k:TE}{t:TA}{c a:Pos}{r:V->A0 V->Hp->VK->Prop}(l:PlainAttrs T)(h:Slot T name id)(j:typeOf (.builtin id)=pure (.type "method_descriptor"))(m:PV X id r)(n:PE X o k)(p:PA X (e::d) t)
  (f:attributeBase o name X.env (eval o X.env)=eval o X.env:=by rfl)
  (i:((backTo a (starEach (e::d) X.env)).all (λx=>!x.1) &&(backToKw a (keywordEach [] X.env)).all (λx=>x.1.isSome)
   && decide ((e::d).length +([]:A0 Keyword).length +(if([]:A0 Keyword).isEmpty then 0 else 1)<30))=true:=by rfl)
  (g:(c.endLine == a.line)=true:=by rfl) (q:starEach (e::d) X.env =(false,eval e X.env)::starEach d X.env:=by rfl) (b:(backTo a (starEach d X.env)).any (·.1)=false:=by rfl) (s:X.K=K:=by rfl) :
  PE X (.Call (.Attribute o name c) (e::d) [] a) (tBM K T r k t):=by subst s;exact zFg l h j m n p f i g q b
theorem zAi{T id:String}{name:Str}{o:IB}{g:TE}{a b:Pos}{r:V->A0 V->Hp->VK->Prop}(h:PlainAttrs T)(e:Slot T name id)(f:typeOf (.builtin id)=pure (.type "method_descriptor"))(i:PV X id r)(j:PE X o g)
  (c:attributeBase o name X.env (eval o X.env)=eval o X.env:=by rfl) (d:(a.endLine == b.line)=true:=by rfl) (k:X.K=K:=by rfl):PE X (.Call (.Attribute o name a) [] [] b) (zGn K T r g):=by subst k;exact zAz h e f i j c d
end
section
variable{prog:HU}{w:HW}{A:IA}{E:A2->A4->Prop}{s:A4}
theorem Ja{t:A3}{vs:A0 A2}{Q:A0 A2->A4->Prop}(k:IsTup s.heap t vs.toArray)(hsz:vs.length<=sizeLine)(h:∀h',(∀b u,s.heap.get? b=some u->h'.get? b=some u)->s.heap.objs.size<=h'.objs.size->Q vs { s with heap:=h' }):wpAny (model prog w) A (collect (.ref t)) Q E s:=by
 obtain⟨o,m,p,n,q⟩:=k;unfold collect;refine AA (wpAny_runValue (DH F.entry_proto_collect ?_));rw[show A.under _=A.in1 from Around.under_plainId F.plain_proto_collect _];show wpAny _ A.in1 (newList [] >>= λl=>again (.builtin "list.__iadd__" ⟨[l,.ref t],[]⟩)) _ _ s;refine AA (BU (AE ⟨plainId_quiet F.plain_list_iadd _,DH F.entry_list_iadd ?_⟩));rw[show A.under _=A.in1 from Around.under_plainId F.plain_list_iadd _];show wpAny _ A.in1 (Builtin.List.listExtendWith (.ref s.heap.objs.size) (.ref t) (.ref s.heap.objs.size)) _ _ _;have i:(s.heap.push { cls:=.type "list",data:=.seq ([]:A0 A2).toArray }).get? s.heap.objs.size=some { cls:=.type "list",data:=.seq #[] 0 }:=AY _ rfl;have v:=BZ (Obj.mapSeq (· ++ vs.toArray)) i rfl;have d:wpAny (model prog w) A (match Value.ref s.heap.objs.size with
   | Value.ref a=>do
    match(<-load a).data with
     | Data.seq x _=>pure x.toList
     | _=>unsupported "internal:collect"
   | _=>unsupported "internal:collect") Q E { s with heap:=(s.heap.push { cls:=.type "list",data:=.seq ([]:A0 A2).toArray }).update s.heap.objs.size (Obj.mapSeq (· ++ vs.toArray)) }:=by
  show wpAny _ A (load s.heap.objs.size >>= _) _ _ _;refine AA (wpAny_load v (AE ?_));show Q ((#[]:HS A2)++vs.toArray).toList _;rw[show((#[]:HS A2)++vs.toArray).toList=vs from by simp];exact h _ (λb u j=>(BG _ _ (GO (AG j))).trans (AD _ j)) (by rw[GN,CQ];lia)
 refine B_ (wpAny_extend_seq (A:=A) (hsz:=by rw[AR];exact hsz) (R:=λr g=>r = .ok (.ret (.ref s.heap.objs.size))/\g ={ s with heap:=(s.heap.push { cls:=.type "list",data:=.seq ([]:A0 A2).toArray }).update s.heap.objs.size (Obj.mapSeq (· ++ vs.toArray)) })
  (s:={ s with heap:=s.heap.push { cls:=.type "list",data:=.seq ([]:A0 A2).toArray } }) _ t _ 0 (.inr rfl) i (AD _ m) p q ⟨rfl,rfl⟩) (λf g z=>?_) (λe g z=>absurd z.1 (by simp))
 match f,z with
 | .done f,⟨y,B⟩=>subst B;cases y;exact d
 | .again c,z=>exact⟨z.1,FJ z.2 λr D C=>by obtain⟨rfl,rfl⟩:=C;exact d⟩
end
theorem He:J9 X (.builtin "sorted") (λxs H Q=>∃(p:A3) (ss:A0 Str),xs = [.ref p]/\QK X.K H p (ss.map V.str)/\∀(l:A3) (a:A0 Str),H l=none->a.Perm ss->a.Pairwise OG->Q (.ref l) (HX H l (.lst (a.map V.str)))):=by
 intro f s σ H xs c Q I r h;obtain⟨p,ss,rfl,hq,q⟩:=h;rcases hq with hq | hq
 .exact Ae f s σ H _ c Q I r ⟨p,ss,rfl,hq,q⟩
 obtain⟨u,rfl,G⟩:=X4 r;cases G;obtain⟨J,E,⟨o,i,L,n,M⟩,W⟩:=I.tuple hq;have j:=Y3 E;have Y:=E.length;refine TS.KP (Ja ⟨o,i,L,n,M⟩ (by lia) λF N g=>?_);refine⟨rfl,by lia,strKind,oneType',λZ _=>TS.MM j,λout O e i k P=>?_⟩;obtain⟨m,R⟩:=i;have w:∀v∈out.toList,∃x t,v = .str x t:=λv z=>j.all v (m.mem_iff.mp z);have z:IG ((out.toList.map strOf).map V.str) out.toList:=by
  have:∀c:A0 A2,(∀v∈c,∃x t,v = .str x t)->IG ((c.map strOf).map V.str) c:=by
   intro c
   induction c with
   | nil=>exact λ_=>.nil
   | cons v r S =>
    intro h;obtain⟨x,t,rfl⟩:=h v (AZ ..);exact .cons ⟨t,rfl⟩ (S λu A=>h u (AN _ A))
  exact this _ w
 have d:(out.toList.map strOf).Perm ss:=by
  have:=m.map strOf
  rwa [j.strs]at this
 have B:(out.toList.map strOf).Pairwise OG:=by
  rw[DV];refine(FC.mp R).imp fun{u v} ⟨A,C,q⟩=>?_;obtain⟨x,t,rfl⟩:=w u A;obtain⟨y,t',rfl⟩:=w v C;have T:decide (y.cps.toList<x.cps.toList)=false:=q;exact HD T
 have D:∀b o,s.heap.get? b=some o->O.get? b=some o:=λb o U=>k b o (N b o U);refine⟨.ref F.objs.size,HX H F.objs.size (.lst ((out.toList.map strOf).map V.str)),?_,rfl,q _ _ (I.hok.fresh g) d B⟩;refine I.laid (t':=s.toks) D g ⟨?_,out.toList,e,z,by simpa using P⟩;rw[AB,AB,m.length_eq];lia
theorem Mx{f:A0 (A3×Obj)}{σ:St}{H:Hp}{s:A4}{A:IA}{E:A2->A4->Prop}{Q:A2->A4->Prop}{b:Bool}{x:V}{u t:A2}{l:A3}{its:A0 A2}(I:Inv X f σ H s)(g:RelV x u)(ty:MD X.K H x t)(i:IsTup s.heap l its.toArray)(e:PySem.W.kitAny X.K t its=some b)(m:(∃y,x = .str y)\/(∃a xs,x = .ref a/\(H a=some (.lst xs)\/H a=some (.tup xs))))(h:∀r,Q (.bool b) { s with toks:=r }) :
  wpAny (model X.prog X.w) A (call (.builtin "isinstance") [u,.ref l]) Q E s:=by
 obtain⟨⟨G,J,v,B⟩,j,C,n,D⟩:=i;cases C;cases D;rcases m with⟨y,rfl⟩ | ⟨a,xs,rfl,ea | ea⟩
 .cases ty;obtain⟨t,q⟩:=(show ∃t,u=Value.str y t from g);cases q;exact VR PySem.W.kitx_str I.kIn VC j e (λz=>nomatch z) h
 .cases(show u=Value.ref a from g);have d:t = .type "list":=by cases ty with
   | lst=>rfl
   | frz=>rfl
   | tup c=>rw[ea]at c;cases c
   | dK c=>rw[ea]at c;cases c
   | dT c=>rw[ea]at c;cases c
   | ins c=>rw[ea]at c;cases c
  subst d;obtain⟨_,_,n,_,k⟩:=(show IR X.prog X.w H s.heap a (.lst xs)from I.hok a _ ea);exact VR PySem.W.kitx_list I.kIn ⟨_,k,rfl⟩ j e (λz=>nomatch z) h
 .cases(show u=Value.ref a from g);have d:t = .type "tuple":=by cases ty with
   | tup=>rfl
   | frz c=>rw[ea]at c;cases c
   | lst c=>rw[ea]at c;cases c
   | dK c=>rw[ea]at c;cases c
   | dT c=>rw[ea]at c;cases c
   | ins c=>rw[ea]at c;cases c
  subst d;obtain⟨_,_,_,p⟩:=(show IR X.prog X.w H s.heap a (.tup xs)from I.hok a _ ea);obtain⟨o,k,F,_⟩:=p;exact VR PySem.W.kitx_tuple I.kIn ⟨o,k,F⟩ j e (λz=>nomatch z) h
def zDk(K:VA):A0 V->Hp->VK->Prop:=λc H Q=>∃(x:V) (p:A3) (d:A0 String) (t:A2) (b:Bool),c = [x,.ref p]/\H p=some (.tup (d.map V.ty))/\MD K H x t/\((∃y,x = .str y)\/(∃a c,x = .ref a/\(H a=some (.lst c)\/H a=some (.tup c))))/\PySem.W.kitAny K t (d.map Value.type)=some b/\Q (.bl b) H
theorem Qe:∀{ns:A0 String} {us:A0 A2},IG (ns.map V.ty) us->us=ns.map Value.type
 | [],_,.nil=>rfl
 | _::_,_,.cons r t=>by rw[BM,Qe t];cases r;rfl
theorem Nq:J9 X (.builtin "isinstance") (zDk X.K):=by
 intro c s σ H l m Q I r h;obtain⟨x,p,n,t,b,rfl,e,f,g,i,q⟩:=h;obtain⟨u,v,rfl,j,a⟩:=r.two;cases a;obtain⟨k,a,d,o⟩:=I.tuple (IZ.of e);rw[Qe a]at d;exact Mx I j f d i g λw=>⟨.bl b,H,I.tok _,rfl,q⟩
variable(K:VA)
theorem Um(b:X.K=K:=by rfl):J9 X (.builtin "sorted") (λxs H Q=>∃(p:A3) (ss:A0 Str),xs = [.ref p]/\QK K H p (ss.map V.str)/\∀(l:A3) (a:A0 Str),H l=none->a.Perm ss->a.Pairwise OG->Q (.ref l) (HX H l (.lst (a.map V.str)))):=by subst b;exact He
theorem Wq(a:X.K=K:=by rfl):J9 X (.builtin "isinstance") (zDk K):=by subst a;exact Nq
section
variable{prog:HU}{w:HW}{A:IA}{E:A2->A4->Prop}{s:A4}{it l:A3}{i:Nat}{items:HS A2}{x:A2}{Q:A2->A4->Prop}
theorem Yr{α:Type}{Q:α->A4->Prop}(a:A.handled=none)(h:∀h' e,(∀b o,s.heap.get? b=some o->h'.get? b=some o)->(∃o,h'.get? e=some o/\o.cls = .type "StopIteration")->E (.ref e) { s with heap:=h' }):wpAny (model prog w) A (Builtin.SmallTypes.stopIteration (α:=α)) Q E s:=by
 refine AA (AA (GL (AA (AE (BU ?_ (sizeOk_excFields ..)))) (by show 0<=sizeLine;decide)));refine AA (wpAny_handled ?_);rw[a];exact wpAny_throw (h _ _ (λb o e=>AD _ (AD _ e)) ⟨_,AY _ rfl,rfl⟩)
theorem T4(a:s.heap.IsTupleIter it l i)(g:s.heap.IsTuple l items)(h:items[i]?=some x)
  (j:∀h',h'.IsTupleIter it l (i+1)->Heap.SameBut it s.heap h'->Q x { s with heap:=h' }):wpAny (model prog w) A (Builtin.SmallTypes.nextOf (.ref it)) Q E s:=by
 obtain⟨o,d,k,b⟩:=id a;obtain⟨m,e,_,n,f⟩:=g;refine AA (CJ a.typeIs F.slot_tuple_iterator_next (CI F.slot_tuple_iterator_next a.typeIs F.entry_tuple_iterator_next ?_ (F.args_tuple_iterator_next_1 _)));refine AA (AE (AA (CF d b rfl ?_)));refine DI (c:=(Value.ref l == Value.none)=true) rfl ?_;refine AA (CF d b rfl (AA (DZ e f ?_)));dsimp only;rw[show items[(i:Int).toNat]?=some x from h];refine AA (EB d b (EI 1) (AE ⟨x,rfl,AE (j _ ⟨_,BZ _ d (Obj.isFreed_of_fields (Obj.data_mapFields b _)),(Obj.cls_mapFields o _).trans k,(Obj.data_mapFields b _).trans ?_⟩ (DN _ _ _))⟩));rfl
theorem d9(j:A.handled=none)(a:s.heap.IsTupleIter it l i)(m:s.heap.IsTuple l items)(n:items[i]?=none)
  (p:∀h' e,Heap.ExtBut it s.heap h'->(∃o,h'.get? e=some o/\o.cls = .type "StopIteration")->E (.ref e) { s with heap:=h' }):wpAny (model prog w) A (Builtin.SmallTypes.nextOf (.ref it)) Q E s:=by
 obtain⟨o,d,r,f⟩:=id a;obtain⟨t,g,_,u,h⟩:=m;refine AA (CJ a.typeIs F.slot_tuple_iterator_next (CI F.slot_tuple_iterator_next a.typeIs F.entry_tuple_iterator_next ?_ (F.args_tuple_iterator_next_1 _)));refine AA (AE (AA (CF d f rfl ?_)));refine DI (c:=(Value.ref l == Value.none)=true) rfl ?_;refine AA (CF d f rfl (AA (DZ g h ?_)));dsimp only;rw[show items[(i:Int).toNat]?=none from n];refine AA (DF (AA (EB d f (FQ 1) ?_)));exact Yr j λh' e k d=>p h' e (λb o q e=>k b o (((DN _ _ _).2 b q).trans e)) d
theorem Qm{M:Model}{α β:Type}{a b:α}{i u v:β}{f:α->β->Sem (ForInStep β)}{Q:β->A4->Prop}(h:wpAny M A (f a i) (λr c=>r = .yield u/\wpAny M A (f b u) (λr c=>r = .yield v/\Q v c) E c) E s):wpAny M A (forIn [a,b] i f) Q E s:=by
 rw[List.forIn_cons];refine AA (B_ h (λr c z=>?_) λe c z=>z);obtain⟨rfl,z⟩:=z;show wpAny M A (forIn [b] u f) Q E c;rw[List.forIn_cons];refine AA (B_ z (λr c z=>?_) λe c z=>z);obtain⟨rfl,z⟩:=z;exact AE z
theorem Dc{z TI TO d f m l2:A3}{r t:Nat}{xs K:HS A2}{x y a b:A2}(D:ZipApart z TI TO d f m l2)(hz:IsZip s.heap z TI TO .none)(B:IsPair s.heap TI (.ref d) (.ref f))(C:IsPair s.heap TO a b)
  (h1:s.heap.IsTupleIter d m r) (h2:s.heap.IsTupleIter f l2 t) (T:s.heap.IsTuple m xs) (U:s.heap.IsTuple l2 K) (V:xs[r]?=some x) (W:K[t]?=some y)
  (X:∀h',IsZip h' z TI TO (rawInt s.heap.objs.size)->IsPair h' TO x y->h'.IsTupleIter d m (r+1)->h'.IsTupleIter f l2 (t+1)->IsPair h' s.heap.objs.size x y->h'.objs.size=s.heap.objs.size+1->(∀c o,c≠z->c≠TO->c≠d->c≠f->s.heap.get? c=some o->h'.get? c=some o)->Q (.ref s.heap.objs.size) { s with heap:=h' }) :
  wpAny (model prog w) A (Builtin.«zip.__next__» ⟨[.ref z],[]⟩) (λfin Y=>∃v,fin = .done (.ret v)/\Q v Y) E s:=by
 obtain⟨F,gg,dd,tt,oo⟩:=s;refine AA (AE (AA (CF hz rfl rfl (AA (CF hz rfl rfl (AA (DZ B rfl ?_)))))));refine DI rfl (AA (AA (CF hz rfl rfl (AE (FB rfl ?_)))));refine AA (DF (AA (CF hz rfl rfl (AA (DG hz (FQ 4) λh3 Z g=>?_)))));have a3:=h1.extBut g.extBut D.i1z;have b3:=h2.extBut g.extBut D.i2z;have c3:=T.extBut g.extBut D.l1z;have d3:=U.extBut g.extBut D.l2z;have e3:=(g.2 TO D.TOz).trans C;refine AA ?_;rw[show(#[Value.ref d,Value.ref f].toList.zipIdx) = [(Value.ref d,0),(Value.ref f,1)]from rfl];refine Qm (u:=(none,())) (v:=(none,())) ?_;refine AA (wpAny_onRaise (DI rfl (AA (T4 a3 c3 V λh4 a4 h=>AE ?_))));have L:=(h.2 TO D.TOi1).trans e3;refine AA (DZ L rfl (AA (wpAny_updateSeq_pair L λh5 e5 i=>AA (wpAny_letGo (AE ⟨rfl,?_⟩)))));have b5:=(b3.extBut h.extBut D.i12.symm).extBut i.extBut D.TOi2.symm;have d5:=(d3.extBut h.extBut D.l2i1).extBut i.extBut D.l2TO;refine AA (wpAny_onRaise (DI rfl (AA (T4 b5 d5 W λh6 b6 j=>AE ?_))));have M:=(j.2 TO D.TOi2).trans e5;refine AA (DZ M rfl (AA (wpAny_updateSeq_pair M λn N k=>AA (wpAny_letGo (AE ⟨rfl,?_⟩)))));have z7:=(k.2 z D.TOz.symm).trans ((j.2 z D.i2z.symm).trans ((i.2 z D.TOz.symm).trans ((h.2 z D.i1z.symm).trans Z)));have G:n.objs.size=F.objs.size:=k.1.trans (j.1.trans (i.1.trans (h.1.trans g.1)));have O:∀{c:A3} {o:Obj},F.get? c=some o->c≠n.objs.size:=λe=>by rw[G];exact BA (AG e)
 refine AA (DZ N rfl (AA (GL (AA (AA (DG (AD _ z7) (FQ 4) λh8 z8 H=>DG z8 (Nat.succ_lt_succ (FQ 3)) λp P I=>AE ⟨_,rfl,?_⟩))) (by show 2<=sizeLine;decide))));have q:∀{c:A3} {o:Obj},c≠z->n.get? c=some o->p.get? c=some o:=λl e=>(I.2 _ l).trans ((H.2 _ l).trans (AD _ e));have J:p.objs.size=F.objs.size+1:=I.1.trans (H.1.trans ((CQ ..).trans (congrArg (· + 1) G)));have R:p.get? n.objs.size=some ⟨.type "tuple",none,.seq #[x,y],#[]⟩:=(I.2 _ (O hz).symm).trans ((H.2 _ (O hz).symm).trans (AY _ rfl));rw[G]at P R⊢;refine X p P (q D.TOz N) (a4.at λo e=>?_) (b6.at λo e=>?_) R J λc o l S n1 n2 e=>q l ?_
 .exact q D.i1z ((k.2 _ D.TOi1.symm).trans ((j.2 _ D.i12).trans ((i.2 _ D.TOi1.symm).trans e)))
 .exact q D.i2z ((k.2 _ D.TOi2.symm).trans e)
 .exact(k.2 _ S).trans ((j.2 _ n2).trans ((i.2 _ S).trans ((h.2 _ n1).trans ((g.2 _ l).trans e))))
theorem Fe{z TI TO a b f l2:A3}{j:Nat}{xs:HS A2}{Q:PySem.Fin->A4->Prop}(p:A.handled=none)(D:ZipApart z TI TO a b f l2)(hz:IsZip s.heap z TI TO .none)(g:IsPair s.heap TI (.ref a) (.ref b))
  (h1:s.heap.IsTupleIter a f j) (r:s.heap.IsTuple f xs) (t:xs[j]?=none)
  (u:∀h' e,(∀c o,c≠z->c≠TO->c≠a->c≠b->s.heap.get? c=some o->h'.get? c=some o)->(∃o,h'.get? e=some o/\o.cls = .type "StopIteration")->E (.ref e) { s with heap:=h' }) :
  wpAny (model prog w) A (Builtin.«zip.__next__» ⟨[.ref z],[]⟩) Q E s:=by
 obtain⟨B,C,F,tt,G⟩:=s;refine AA (AE (AA (CF hz rfl rfl (AA (CF hz rfl rfl (AA (DZ g rfl ?_)))))));refine DI rfl (AA (AA (CF hz rfl rfl (AE (FB rfl ?_)))));refine AA (DF (AA (CF hz rfl rfl (AA (DG hz (FQ 4) λH k h=>?_)))));refine AA ?_;rw[show(#[Value.ref a,Value.ref b].toList.zipIdx) = [(Value.ref a,0),(Value.ref b,1)]from rfl,List.forIn_cons];refine AA (AA (wpAny_onRaise (DI rfl (AA (d9 p (h1.extBut h.extBut D.i1z) (r.extBut h.extBut D.l1z) t λI e i d=>?_)))));refine DG (i z _ D.i1z.symm k) (FQ 4) λv J l=>u v e (λc o m _ x _ e=>(l.2 _ m).trans (i c o x ((h.2 _ m).trans e))) ?_;obtain⟨o,d,n⟩:=d;have y:e≠z:=λq=>by
  subst q;rw[i e _ D.i1z.symm k]at d;cases d;exact absurd (show Value.type "zip" = .type "StopIteration" from n) (by decide)
 exact⟨o,(l.2 _ y).trans d,n⟩
theorem Me{z TI TO:A3}{a:A2}(hz:IsZip s.heap z TI TO a):s.TypeIs (.ref z) "zip":=⟨_,hz,rfl⟩
theorem Ys(O:A.handled=none)(z TI TO f g j l2:A3)(D:ZipApart z TI TO f g j l2)(xs v:HS A2)(P:xs.size<=v.size) :
  WalksT prog w A z [z,TI,TO,f,g,j,l2] [z,TO,f,g] xs.size (λi C=>∃x y,xs[i]?=some x/\v[i]?=some y/\C = #[x,y])
   (λi h=>IsZip h z TI TO .none/\IsPair h TI (.ref f) (.ref g)/\(∃a b,IsPair h TO a b)/\h.IsTupleIter f j i/\h.IsTupleIter g l2 i/\h.IsTuple j xs/\h.IsTuple l2 v)
   (λi T h=>IsZip h z TI TO (rawInt T)/\IsPair h TI (.ref f) (.ref g)/\(∃a b,IsPair h TO a b)/\h.IsTupleIter f j (i+1)/\h.IsTupleIter g l2 (i+1)/\h.IsTuple j xs/\h.IsTuple l2 v/\T≠z/\T≠TO/\T≠f/\T≠g) where
 sub:=by simp
 frame:=λi h B ⟨c,l,⟨a,b,p⟩,m,r,n,t⟩ k=>⟨k z (by simp) _ c,k TI (by simp) _ l,⟨a,b,k TO (by simp) _ p⟩,m.at (k f (by simp)),r.at (k g (by simp)),n.at (k j (by simp)),t.at (k l2 (by simp))⟩
 item:=λi s Q E K ⟨c,l,⟨a,b,p⟩,m,r,n,t⟩ G=>by
  have H:xs[i]?=some xs[i]:=EG K;have L:v[i]?=some (v[i]'(BI K P)):=EG _;refine AA (GD (CJ (Me c) F.slot_zip_next (CI F.slot_zip_next (Me c) F.entry_zip_next (Dc D c l p m r n t H L λB I R S U V sz k=>AE ?_) (F.args_zip_next_1 _))));refine G _ _ B s.toks ⟨_,_,H,L,rfl⟩ (VD _) ⟨_,V,rfl,_,rfl⟩ ⟨I,k TI _ D.TIz D.TITO D.TIi1 D.TIi2 l,⟨_,_,R⟩,S,U,n.at λo e=>k j o D.l1z D.l1TO D.l1i1 D.l1i2 e,t.at λo e=>k l2 o D.l2z D.l2TO D.l2i1 D.l2i2 e,?_,?_,?_,?_⟩ λb o d e=>?_
  .exact(BA (AG c)).symm
  .exact(BA (AG p)).symm
  .obtain⟨o,e,_⟩:=m;exact(BA (AG e)).symm
  .obtain⟨o,e,_⟩:=r;exact(BA (AG e)).symm
  .simp only[AW,AQ,or_false,not_or]at d;exact k b o d.1 d.2.1 d.2.2.1 d.2.2.2 e
 go:=λM k W i T s Q E ⟨c,l,⟨a,b,p⟩,m,r,n,t,_⟩ G=>wpAny_letOwnedTupleGo_zip c λB I u=>G B ⟨I,(u.2 _ D.TIz).trans l,⟨a,b,(u.2 _ D.TOz).trans p⟩,m.extBut u.extBut D.i1z,r.extBut u.extBut D.i2z,n.extBut u.extBut D.l1z,t.extBut u.extBut D.l2z⟩ λb o d e=>(u.2 b λq=>d (by rw[q];exact AZ ..)).trans e
 apart:=λi T h ⟨_,_,_,_,_,_,_,X,Y,Z,n4⟩ N=>by
  simp only[AW,AQ,or_false]at N;rcases N with e | e | e | e
  .exact X e
  .exact Y e
  .exact Z e
  .exact n4 e
 done:=λs Q E ⟨c,l,⟨a,b,p⟩,m,r,n,t⟩ G=>by
  have H:xs[xs.size]?=none:=EC (VD _);refine AA (GD (CJ (Me c) F.slot_zip_next (CI F.slot_zip_next (Me c) F.entry_zip_next (Fe O D c l m n H λB e k J=>?_) (F.args_zip_next_1 _))));obtain⟨o,J,hc⟩:=J;refine AA (FP ⟨o,J,hc⟩ isSubtype_stop (AE (G B s.toks λb o d e=>?_)));simp only[AW,AQ,or_false,not_or]at d;exact k b o d.1 d.2.1 d.2.2.1 d.2.2.2 e
 self:=λi s Q E ⟨c,_⟩ q=>HP c q
end
section
variable{prog:HU}{w:HW}{A:IA}{E:A2->A4->Prop}{s:A4}
theorem Ac{M:Model}{T:String}{vs:A0 A2}{Q:A2->A4->Prop}(h:Q (.ref s.heap.objs.size) { s with heap:=s.heap.push { cls:=.type T,data:=.fields vs.toArray } })(a:sizeOk (.fields vs.toArray)):wpAny M A (Builtin.SmallTypes.newRecord (.type T) vs) Q E s:=BU h a
theorem Rw{d l2:A3}{xs n:HS A2}{Q:A2->A4->Prop}(y:s.heap.IsTuple d xs)(z:s.heap.IsTuple l2 n)
  (B:∀h',IsZip h' (s.heap.objs.size+4) (s.heap.objs.size+2) (s.heap.objs.size+3) .none->IsPair h' (s.heap.objs.size+2) (.ref s.heap.objs.size) (.ref (s.heap.objs.size+1))->IsPair h' (s.heap.objs.size+3) .none .none ->
   h'.IsTupleIter s.heap.objs.size d 0->h'.IsTupleIter (s.heap.objs.size+1) l2 0->(∀c o,s.heap.get? c=some o->h'.get? c=some o)->Q (.ref (s.heap.objs.size+4)) { s with heap:=h' }) :
  wpAny (model prog w) A (call (.type "zip") [.ref d,.ref l2]) Q E s:=by
 refine callType_new (S:=λA R j=>j=s/\∀h',IsZip h' (s.heap.objs.size+4) (s.heap.objs.size+2) (s.heap.objs.size+3) .none->IsPair h' (s.heap.objs.size+2) (.ref s.heap.objs.size) (.ref (s.heap.objs.size+1))->IsPair h' (s.heap.objs.size+3) .none .none ->
   h'.IsTupleIter s.heap.objs.size d 0->h'.IsTupleIter (s.heap.objs.size+1) l2 0->(∀c o,s.heap.get? c=some o->h'.get? c=some o)->R (.ok (.ret (.ref (s.heap.objs.size+4)))) { s with heap:=h' }) F.called_zip rfl (F.typeCall_zip_2 _ _) (F.newCall_zip_2 _ _) (λ_=>F.args_object_init_3 _ _ _) F.entry_zip_new (.of_wp λprog w A R j l=>?_) ⟨rfl,λh' p C D G H k=>⟨⟨_,p,rfl⟩,B h' p C D G H k⟩⟩
 obtain⟨rfl,l⟩:=l;obtain⟨a,I,J,tt,K⟩:=j;refine AA (AA (AE (DI rfl (AA (EE sub_zip (DI rfl (AE ?_)))))))
 let b:=a.push { cls:=.type "tuple_iterator",data:=.fields #[.ref d,.int 0 0] }
 let f:=b.push { cls:=.type "tuple_iterator",data:=.fields #[.ref l2,.int 0 0] }
 let g:=f.push { cls:=.type "tuple",data:=.seq #[.ref a.objs.size,.ref b.objs.size] }
 let i:=g.push { cls:=.type "tuple",data:=.seq #[.none,.none] }
 have r:b.objs.size=a.objs.size+1:=CQ ..;have t:f.objs.size=a.objs.size+2:=(CQ ..).trans (congrArg (· + 1) r);have x:g.objs.size=a.objs.size+3:=(CQ ..).trans (congrArg (· + 1) t);have L:i.objs.size=a.objs.size+4:=(CQ ..).trans (congrArg (· + 1) x);have m:b.IsTuple l2 n:=z.at λo e=>AD _ e;have M:b.get? a.objs.size=some { cls:=.type "tuple_iterator",data:=.fields #[.ref d,.int 0 0] }:=AY _ rfl;have N:f.get? b.objs.size=some { cls:=.type "tuple_iterator",data:=.fields #[.ref l2,.int 0 0] }:=AY _ rfl;have O:g.get? f.objs.size=some { cls:=.type "tuple",data:=.seq #[.ref a.objs.size,.ref b.objs.size] }:=AY _ rfl;have P:i.get? g.objs.size=some { cls:=.type "tuple",data:=.seq #[.none,.none] }:=AY _ rfl;have u:∀{h:H_} {o:Obj} {c:A3} {q:Obj},h.get? c=some q->(h.push o).get? c=some q:=λe=>AD _ e;refine DI rfl (AA (AA (Qm (u:=#[.ref a.objs.size]) (v:=#[.ref a.objs.size,.ref b.objs.size]) (AA (BO (FW y (AE ⟨rfl,AA (BO (FW m (AE ⟨rfl,AE ?_⟩)))⟩)))))));refine AA (GL (AA (GL (AA (Ac (AE ⟨_,rfl,?_⟩) ?_)) (by show 2<=sizeLine;decide))) (by show 2<=sizeLine;decide))
 .have T:=AY i (o:={ cls:=.type "zip",data:=.fields #[.none,.bool false,.bool false,.ref f.objs.size,.ref g.objs.size] }) rfl;have q:=l (i.push { cls:=.type "zip",data:=.fields #[.none,.bool false,.bool false,.ref f.objs.size,.ref g.objs.size] });rw[show(Shared.mk a I J tt K).heap.objs.size=a.objs.size from rfl,<-r,<-t,<-x,<-L]at q;exact q T (u (u O)) (u P) ⟨_,u (u (u (u M))),rfl,rfl⟩ ⟨_,u (u (u N)),rfl,rfl⟩ λc o e=>u (u (u (u (u e))))
 .show 5<=sizeLine+2;decide
end
def SS(e:Hp->A3->A0 V->Prop)(a b:A3):It :=
  ⟨λi H=>∃c d x y,e H a c/\e H b d/\c.length<=d.length/\c[i]?=some x/\d[i]?=some y,λi H v f=>∃T x y,v = .ref T/\H T=none/\f=HX H T (.tup [x,y])/\(∀c,e H a c->c[i]?=some x)/\∀d,e H b d->d[i]?=some y,
   λi H=>∃c d,e H a c/\e H b d/\c.length<=d.length/\c.length=i⟩
def Tp(isIt:H_->A3->A3->Nat->Prop)(z TI TO c d a b:A3)(i:Nat)(h:H_):Prop:=IsZip h z TI TO .none/\IsPair h TI (.ref c) (.ref d)/\(∃u v,IsPair h TO u v)/\isIt h c a i/\isIt h d b i
section
variable{P:HU}{w:HW}{K:VA}{elts:A0 IB}{kk:Nat}{tp:Pos}{isIt:H_->A3->A3->Nat->Prop}{isq:H_->A3->HS A2->Prop}{sq:Hp->A3->A0 V->Prop}
theorem Gj(oI:∀h c l i,isIt h c l i->∃o,h.get? c=some o/\∀v,o.data≠ .cell v)(kI:∀h h' c l i,isIt h c l i->(∀o,h.get? c=some o->h'.get? c=some o)->isIt h' c l i)
  (gI:∀(X:Cx) f σ H s c xs,X.K=K->Inv X f σ H s->sq H c xs->∃its,IG xs its/\isq s.heap c its.toArray) (uI:∀(X:Cx) f σ H s c xs D,X.K=K->Inv X f σ H s->sq H c xs->sq H c D->xs=D)
  (z TI TO g j a b:A3) (WI:∀(A:IA),A.handled=none->∀xs D:HS A2,xs.size<=D.size->WalksT P w A z [z,TI,TO,g,j,a,b] [z,TO,g,j] xs.size (λi G=>∃x y,xs[i]?=some x/\D[i]?=some y/\G = #[x,y])
   (λi h=>IsZip h z TI TO .none/\IsPair h TI (.ref g) (.ref j)/\(∃a b,IsPair h TO a b)/\isIt h g a i/\isIt h j b i/\isq h a xs/\isq h b D)
   (λi T h=>IsZip h z TI TO (rawInt T)/\IsPair h TI (.ref g) (.ref j)/\(∃a b,IsPair h TO a b)/\isIt h g a (i+1)/\isIt h j b (i+1)/\isq h a xs/\isq h b D/\T≠z/\T≠TO/\T≠g/\T≠j)) :
  MN P w K (.Tuple elts kk tp) (SS sq a b) [z,TI,TO,g,j] z (Tp isIt z TI TO g j a b) where
 mem:=AZ ..
 obj:=λi h st c t=>by
  obtain⟨h1,R,⟨u,v,U⟩,V,Y⟩:=st;simp only[AW,AQ,or_false]at t;rcases t with rfl | rfl | rfl | rfl | rfl
  .exact⟨_,h1,λv z=>by cases z⟩
  .exact⟨_,R,λv z=>by cases z⟩
  .exact⟨_,U,λv z=>by cases z⟩
  .exact oI _ _ _ _ V
  .exact oI _ _ _ _ Y
 keep:=λi h h' st k=>by
  obtain⟨h1,R,⟨u,v,U⟩,V,Y⟩:=st;exact⟨k z (by simp) _ h1,k TI (by simp) _ R,⟨u,v,k TO (by simp) _ U⟩,kI _ _ _ _ _ V (k g (by simp)),kI _ _ _ _ _ Y (k j (by simp))⟩
 item:=by
  intro X hP hw L t i f s σ H E I S st hg;subst hP hw;obtain⟨xs,D,x,y,hq,hr,M,hx,hy⟩:=hg;obtain⟨its,rv,p⟩:=gI _ _ _ _ _ _ _ L I hq;obtain⟨N,F,p'⟩:=gI _ _ _ _ _ _ _ L I hr;obtain⟨u,hu,ru⟩:=rv.get hx;obtain⟨v,hv,rv'⟩:=F.get hy;have hl:=rv.length;have O:=F.length;have W:=WI X.A (I.ok.hd t) its.toArray N.toArray (by rw[AR,AR,<-hl,<-O];exact M);have hi:i<its.toArray.size:=by rw[AR];exact(AM.mp hu).1
  obtain⟨s1,s2,s3,Z,s5⟩:=id st;refine W.item i s _ _ hi ⟨s1,s2,s3,Z,s5,p,p'⟩ λT G h' tk hvs hT ht hm k=>?_;obtain⟨x',y',hx',hy',rfl⟩:=hvs;have ex:x'=u:=BT (hx'.symm.trans ((DY ..).trans hu));have ey:y'=v:=BT (hy'.symm.trans ((DY ..).trans hv));subst ex ey;refine⟨.ref T,rfl,W.go elts kk tp i T _ _ _ hm λR C k2=>?_⟩;have kk2:∀b o,b∉[z,TI,TO,g,j]->s.heap.get? b=some o->R.get? b=some o:=λc o d ec=>by
   have n4:c∉[z,TO,g,j]:=λm=>d (by
    simp only[AW,AQ,or_false]at m⊢;exact m.imp_right .inr)
   exact k2 c o n4 (k c o n4 ec)
  have hT2:R.IsTuple T #[x',y']:=ht.at λo e=>k2 T o (W.apart i T h' hm) e;have J:∀c∈[z,TI,TO,g,j],∃B,s.heap.get? c=some B:=λc d=>by
   obtain⟨u3,v3,U⟩:=s3;obtain⟨o4,V,_⟩:=oI _ _ _ _ Z;obtain⟨o5,Y,_⟩:=oI _ _ _ _ s5;simp only[AW,AQ,or_false]at d;rcases d with rfl | rfl | rfl | rfl | rfl
   .exact⟨_,s1⟩
   .exact⟨_,s2⟩
   .exact⟨_,U⟩
   .exact⟨_,V⟩
   .exact⟨_,Y⟩
  refine⟨.ref T,HX H T (.tup [x,y]),I.turnLaid (fp:=[z,TI,TO,g,j]) kk2 S J hT ⟨?_,[x',y'],.cons ru (.cons rv' .nil),hT2⟩,rfl,⟨T,x,y,rfl,I.hok.fresh hT,rfl,λzs hz=>by rw[uI _ _ _ _ _ _ _ _ L I hz hq];exact hx,λzs hz=>by rw[uI _ _ _ _ _ _ _ _ L I hz hr];exact hy⟩,⟨C.1,C.2.1,C.2.2.1,C.2.2.2.1,C.2.2.2.2.1⟩,λc d=>?_⟩
  .show 2<=sizeLine;decide
  .obtain⟨B,eb⟩:=J c d;rw[B7 (BA (BI (AG eb) hT))];exact(S c d).1
 done:=by
  intro X hP hw L t i f s σ H E I S st hg;subst hP hw;obtain⟨xs,D,hq,hr,M,hx⟩:=hg;obtain⟨its,rv,p⟩:=gI _ _ _ _ _ _ _ L I hq;obtain⟨N,F,p'⟩:=gI _ _ _ _ _ _ _ L I hr;have hl:=rv.length;have O:=F.length;have W:=WI X.A (I.ok.hd t) its.toArray N.toArray (by rw[AR,AR,<-hl,<-O];exact M);have hi:i=its.toArray.size:=by rw[AR,<-hl,hx]
  obtain⟨s1,s2,s3,Z,s5⟩:=id st;rw[hi]at Z s5;refine W.done s _ _ ⟨s1,s2,s3,Z,s5,p,p'⟩ λh' tk k=>⟨rfl,?_⟩;have nf:∀b u,H b=some u->b∉[z,TI,TO,g,j]:=λb u e hb=>by rw[(S b hb).1]at e;cases e
  have k':∀c o,c∉[z,TI,TO,g,j]->s.heap.get? c=some o->h'.get? c=some o:=λc o d ec=>k c o (λm=>d (by
    simp only[AW,AQ,or_false]at m⊢;exact m.imp_right .inr)) ec
  refine I.step (h':=h') (H':=H) (t':=tk) (g':=s.gens) (d':=s.drawn) (ch:=[z,TI,TO,g,j]) (λb hb=>let⟨_,f1,_,f3,f4,f5⟩:=S b hb;⟨f3,f1,f4,f5⟩) (λb B _ _ t e _=>k' b B t e) (λb B _ _ t e _=>⟨B.slots,k' b B t e⟩) (λ_ _ _ _ n=>n)
   (λb B t e=>⟨B,k' b B t e⟩) (λ_ _ e=>e) (λ_ _ _ e=>e) (λb ps e=>⟨#[],by rw[e];simp⟩) (λm hm=>?_) (λb u eb=>?_) I.bare
  .obtain⟨B,es,ep,ho,r⟩:=hm;exact⟨B,es,ep,k' _ B (λhb=>(S _ hb).2.1 rfl) ho,r⟩
  .refine(I.hok b u eb).stay (λc v t q=>k' c v ?_ q) (λ_ q=>q) λ_ _ q=>q;rcases t with z | z
   .rw[z];exact nf b u eb
   .exact nf c _ z
 self:=λA i s Q E st h=>HP st.1 h
theorem Td(z TI TO f g a b:A3)(D:ZipApart z TI TO f g a b):MN P w K (.Tuple elts kk tp) (SS (IC K) a b) [z,TI,TO,f,g] z (Tp Heap.IsListIter z TI TO f g a b) :=
 Gj (isq:=Heap.IsList) (λh c l i ⟨o,e,_,d⟩=>⟨o,e,λv z=>by rw[d]at z;cases z⟩) (λh C c l i z k=>z.at k) (λX j σ H s c m n I q=>by subst n;obtain⟨r,u,p,_⟩:=I.list q;exact⟨r,u,p.isList⟩) (λX j σ H s c m t n I q x=>by subst n;exact I.list_inj q x)
  z TI TO f g a b λA y m t B=>by
   have W:=WalksT.zip2 (prog:=P) (w:=w) y z TI TO f g a b D m t
   rwa [FY B]at W
theorem Ox(z TI TO f g a b:A3)(D:ZipApart z TI TO f g a b):MN P w K (.Tuple elts kk tp) (SS (IZ K) a b) [z,TI,TO,f,g] z (Tp Heap.IsTupleIter z TI TO f g a b) :=
 Gj (isq:=Heap.IsTuple) (λh c l i ⟨o,e,_,d⟩=>⟨o,e,λv z=>by rw[d]at z;cases z⟩) (λh C c l i z k=>z.at k) (λX j σ H s c m n I q=>by subst n;obtain⟨r,u,p,_⟩:=I.tuple q;exact⟨r,u,p⟩) (λX j σ H s c m t n I q x=>by subst n;exact I.tuple_inj q x)
  z TI TO f g a b λA y m t B=>Ys y z TI TO f g a b D m t B
end
section
variable{X:Cx}{elts:A0 IB}{kk:Nat}{tp:Pos}
def zGk(K:VA)(R:It->Hp->Prop)(a b:A3)(xs c:A0 V)(H:Hp):Prop:=IC K H a xs/\IC K H b c/\R (SS (IC K) a b) H\/IZ K H a xs/\IZ K H b c/\R (SS (IZ K) a b) H
def zCu(K:VA)(c:TA):TI:=λσ H R=>c σ H λd e=>∃a b f g,d = [.ref a,.ref b]/\zGk K R a b f g e
theorem Yz:bootBuiltins "zip" = some (.type "zip"):=by decide +kernel
theorem zAc{a b:IB}{M:TA}{p i:Pos}(O:Gl X "zip")(P:X.mg "zip" = none)(Q:PA X [a,b] M)(S:starEach [a,b] X.env =(false,eval a X.env)::starEach [b] X.env:=by rfl)(w:(backTo i (starEach [b] X.env)).any (·.1)=false:=by rfl):PI X (.Tuple elts kk tp) (.Call (.Name "zip" p) [a,b] [] i) (zCu X.K M):=by
 intro f s σ H R I h;refine Call_ (Ah I O P Yz (VP (I7 (Q i f s σ H _ I h) λus d ⟨vs,x,g,T,U⟩=>?_) S w));obtain⟨l,m,xs,ys,e,q⟩:=U;subst e;obtain⟨u,v,rfl,V,W⟩:=T.two;cases V;cases W;have j:∀c∈[d.heap.objs.size+4,d.heap.objs.size+2,d.heap.objs.size+3,d.heap.objs.size,d.heap.objs.size+1],Dp X f x c:=λc N=>by
  have n:d.heap.objs.size<=c:=by
   simp only[AW,AQ,or_false]at N;rcases N with rfl | rfl | rfl | rfl | rfl
   .exact EH ..
   .exact EH ..
   .exact EH ..
   .exact VD _
   .exact EH ..
  exact g.fpOk n (g.hok.fresh n)
 rcases q with⟨y,z,q⟩ | ⟨y,z,q⟩
 .obtain⟨A,Y,o,Z⟩:=g.list y;obtain⟨B,ry,r,C⟩:=g.list z;have D:l<d.heap.objs.size:=by obtain⟨_,e,_⟩:=o.isList;exact AG e
  have E:m<d.heap.objs.size:=by obtain⟨_,e,_⟩:=r.isList;exact AG e
  refine call_zip_2 o.isList r.isList λh' t F G J L hsz k=>HP t ?_;exact⟨d.heap.objs.size+4,_,_,_,x,rfl,g.kept (t':=d.toks) k,Td _ _ _ _ _ l m (zipApart_new D E),⟨t,F,⟨_,_,G⟩,J,L⟩,j,q⟩
 .obtain⟨A,Y,o,Z⟩:=g.tuple y;obtain⟨B,ry,r,C⟩:=g.tuple z;have D:l<d.heap.objs.size:=by obtain⟨_,e,_⟩:=id o;exact AG e
  have E:m<d.heap.objs.size:=by obtain⟨_,e,_⟩:=id r;exact AG e
  refine Rw o r λh' t F G J L k=>HP t ?_;exact⟨d.heap.objs.size+4,_,_,_,x,rfl,g.kept (t':=d.toks) k,Ox _ _ _ _ _ l m (zipApart_new D E),⟨t,F,⟨_,_,G⟩,J,L⟩,j,q⟩
variable(K:VA)
theorem zHu{a b:IB}{e:TA}{p c:Pos}(f:X.mg "zip" = none)(g:PA X [a,b] e)(h:Gl X "zip":=by rfl)(i:starEach [a,b] X.env =(false,eval a X.env)::starEach [b] X.env:=by rfl)(d:(backTo c (starEach [b] X.env)).any (·.1)=false:=by rfl)(j:X.K=K:=by rfl):PI X (.Tuple elts kk tp) (.Call (.Name "zip" p) [a,b] [] c) (zCu K e):=by subst j;exact zAc h f g i d
end
section
variable{prog:HU}{w:HW}{A:IA}{E:A2->A4->Prop}{s:A4}{e it l:A3}{i:Nat}{items:HS A2}{x old:A2}{Q:A2->A4->Prop}
theorem Bv(d:IsEnum s.heap e it (i:Int) old)(h1:s.heap.IsTupleIter it l i)(G:s.heap.IsTuple l items)(H:items[i]?=some x)(f:e≠it)
  (I:∀h',IsEnumOut h' e it ((i:Int)+1) x s.heap.objs.size->h'.IsTupleIter it l (i+1)->h'.get? s.heap.objs.size=some { cls:=.type "tuple",data:=.seq #[.int (i:Int) s.toks,x] }->(∀b o,b≠e->b≠it->s.heap.get? b=some o->h'.get? b=some o)->Q (.ref s.heap.objs.size) { s with heap:=h',toks:=s.toks+1 }) :
  wpAny (model prog w) A (Builtin.«enumerate.__next__» ⟨[.ref e],[]⟩) (λfin J=>∃v,fin = .done (.ret v)/\Q v J) E s:=by
 obtain⟨p,U,V,tt,W⟩:=s;refine AA (AE (AA (CF d rfl rfl (AA (T4 h1 G H λK L j=>?_)))));have k:=(j.2 e f).trans d;refine AA (CF k rfl rfl (AA (CF k rfl rfl (FB rfl ?_))));refine AA (wpAny_mkInt (AA (DG k (CM rfl) λX M q=>AA (DG M (CM rfl) λg N r=>?_))));have t:g.objs.size=p.objs.size:=r.1.trans (q.1.trans j.1);have m:∀{c:A3} {o:Obj},p.get? c=some o->c≠g.objs.size:=λe=>by rw[t];exact BA (AG e)
 refine AA (GL ?_ (by show 2<=sizeLine;decide));have n:=AD { cls:=.type "tuple",data:=.seq [.int (i:Int) tt,x].toArray } N;refine AA (AA (CF n rfl rfl (AE (FB rfl ?_))));refine AA (DF (AA (CF n rfl rfl (AA (DG n (CM rfl) λY O u=>?_)))));refine AA (AA (DG O (CM rfl) λZ P y=>DG P (CM rfl) λh B C=>AA (wpAny_letGo (AE ⟨_,rfl,?_⟩))));have R:∀{c:A3} {o:Obj},c≠e->g.get? c=some o->h.get? c=some o:=λa z=>(C.2 _ a).trans ((y.2 _ a).trans ((u.2 _ a).trans (AD _ z)));have D:∀{c:A3} {o:Obj},c≠e->K.get? c=some o->h.get? c=some o:=λa z=>R a ((r.2 _ a).trans ((q.2 _ a).trans z));have F:h.get? g.objs.size=some { cls:=.type "tuple",data:=.seq #[.int (i:Int) tt,x] }:=(C.2 _ (m d).symm).trans ((y.2 _ (m d).symm).trans ((u.2 _ (m d).symm).trans (AY _ rfl)));rw[t]at B F⊢;exact I h B (L.at λo z=>D f.symm z) F λb o S T z=>D S ((j.2 _ T).trans z)
theorem Db{Q:PySem.Fin->A4->Prop}(a:A.handled=none)(b:IsEnum s.heap e it (i:Int) old)(h1:s.heap.IsTupleIter it l i)(c:s.heap.IsTuple l items)(d:items[i]?=none)
  (f:∀h' z,Heap.ExtBut it s.heap h'->(∃o,h'.get? z=some o/\o.cls = .type "StopIteration")->E (.ref z) { s with heap:=h' }) :
  wpAny (model prog w) A (Builtin.«enumerate.__next__» ⟨[.ref e],[]⟩) Q E s :=
 AA (AE (AA (CF b rfl rfl (AA (d9 a h1 c d f)))))
theorem Fo(a:IsEnum s.heap e it (i:Int) old):s.TypeIs (.ref e) "enumerate":=⟨_,a,rfl⟩
theorem Zd(G:A.handled=none)(e it l:A3)(j:e≠it)(m:l≠e)(u:l≠it)(items:HS A2) :
  WalksT prog w A e [e,it,l] [e,it] items.size (λi n=>∃t x,items[i]?=some x/\n = #[.int (i:Int) t,x])
   (λi h=>(∃old,IsEnum h e it (i:Int) old)/\h.IsTupleIter it l i/\h.IsTuple l items)
   (λi T h=>(∃x,IsEnumOut h e it ((i:Int)+1) x T)/\h.IsTupleIter it l (i+1)/\h.IsTuple l items/\T≠e/\T≠it) where
 sub:=by simp
 frame:=λi h g ⟨⟨old,a⟩,c,d⟩ k=>⟨⟨old,k e (by simp) _ a⟩,c.at (k it (by simp)),d.at (k l (by simp))⟩
 item:=λi s Q E H ⟨⟨old,a⟩,c,d⟩ p=>by
  have r:items[i]?=some items[i]:=EG H;refine AA (GD (CJ (Fo a) F.slot_enumerate_next (CI F.slot_enumerate_next (Fo a) F.entry_enumerate_next (Bv a c d r j λg v I J k=>AE ?_) (F.args_enumerate_next_1 _))));refine p _ _ g (s.toks+1) ⟨_,_,r,rfl⟩ (VD _) ⟨_,J,rfl,_,rfl⟩ ⟨⟨_,v⟩,I,d.at λo z=>k l o m u z,?_,?_⟩ λb o f z=>?_
  .exact(BA (AG a)).symm
  .obtain⟨o,z,_⟩:=c;exact(BA (AG z)).symm
  .simp only[AW,AQ,or_false,not_or]at f;exact k b o f.1 f.2 z
 go:=λC k K i T s Q E ⟨⟨x,a⟩,c,d,_⟩ p=>wpAny_letOwnedTupleGo_enum a λg v y=>p g ⟨⟨_,v⟩,c.extBut y.extBut j.symm,d.extBut y.extBut m⟩ λb o f z=>(y.2 b λq=>f (by rw[q];exact AZ ..)).trans z
 apart:=λi T h ⟨_,_,_,L,M⟩ D=>by
  simp only[AW,AQ,or_false]at D;rcases D with z | z
  .exact L z
  .exact M z
 done:=λs Q E ⟨⟨old,a⟩,c,d⟩ p=>by
  have r:items[items.size]?=none:=EC (VD _);refine AA (GD (CJ (Fo a) F.slot_enumerate_next (CI F.slot_enumerate_next (Fo a) F.entry_enumerate_next (Db G a c d r λg z k B=>?_) (F.args_enumerate_next_1 _))));obtain⟨o,B,N⟩:=B;refine AA (FP ⟨o,B,N⟩ isSubtype_stop (AE (p g s.toks λb o f z=>?_)));simp only[AW,AQ,or_false,not_or]at f;exact k b o f.2 z
 self:=λi s Q E ⟨⟨_,a⟩,_⟩ q=>HL a q
theorem zBk{M:Model}{α:Type}{c:Prop}[Decidable c]{a b:Sem α}{Q:α->A4->Prop}(h1:wpAny M A a Q E s)(h2:wpAny M A b Q E s):wpAny M A (if c then a else b) Q E s:=by
 by_cases h:c
 .rw[AO h];exact h1
 .rw[AI h];exact h2
theorem Od(n:s.heap.IsTuple l items)
  (p:∀h',IsEnum h' (s.heap.objs.size+1) s.heap.objs.size 0 .none->h'.IsTupleIter s.heap.objs.size l 0->(∀b o,s.heap.get? b=some o->h'.get? b=some o)->Q (.ref (s.heap.objs.size+1)) { s with heap:=h' }) :
  wpAny (model prog w) A (call (.type "enumerate") [.ref l]) Q E s:=by
 refine callType_new (S:=λA R f=>f=s/\∀h',IsEnum h' (s.heap.objs.size+1) s.heap.objs.size 0 .none->h'.IsTupleIter s.heap.objs.size l 0->(∀b o,s.heap.get? b=some o->h'.get? b=some o)->R (.ok (.ret (.ref (s.heap.objs.size+1)))) { s with heap:=h' })
  F.called_enumerate rfl (F.typeCall_enumerate_1 _) (F.newCall_enumerate_1 _) (λ_=>F.args_object_init_2 _ _) F.entry_enumerate_new (.of_wp λprog w A R f g=>?_) ⟨rfl,λh' h t k=>⟨⟨_,h,rfl⟩,p h' h t k⟩⟩
 obtain⟨rfl,g⟩:=g;obtain⟨c,i,j,tt,m⟩:=f;have u:(c.push { cls:=.type "tuple_iterator",data:=.fields #[.ref l,.int 0 0] }).objs.size=c.objs.size+1:=CQ ..;refine AA (AA (AE (DI rfl (AA (EE sub_enumerate (DI rfl (AE ?_)))))));refine FB rfl (AA (AA (wpAny_stack_any λst=>AE ?_)));have d:wpAny (model prog w) A.in1 (pyIter (.ref l) >>= λv=>Builtin.SmallTypes.newRecord (.type "enumerate") (Builtin.SmallTypes.ownedTupleFields ++ [v,rawInt 0,.none,.none]) >>= λr=>ret r) (λd f=>∃v,d = .done (.ret v)/\R (.ok (.ret v)) f) (λe f=>R (.error e) f) ⟨c,i,j,tt,m⟩:=by
  refine AA (FW n (AA (Ac (AE ⟨_,rfl,?_⟩) (by show 6<=sizeLine+2;decide))));have x:=AY (c.push { cls:=.type "tuple_iterator",data:=.fields #[.ref l,.int 0 0] }) (o:={ cls:=.type "enumerate",data:=.fields #[.none,.bool false,.ref c.objs.size,rawInt 0,.none,.none] }) rfl;have q:=g ((c.push { cls:=.type "tuple_iterator",data:=.fields #[.ref l,.int 0 0] }).push { cls:=.type "enumerate",data:=.fields #[.none,.bool false,.ref c.objs.size,rawInt 0,.none,.none] });rw[show(Shared.mk c i j tt m).heap.objs.size=c.objs.size from rfl,<-u]at q;exact q x ⟨_,AD _ (AY _ rfl),rfl,rfl⟩ λb o z=>AD _ (AD _ z)
 exact zBk (AA (EE (a:=(Value.ref l,none)) rfl d)) (AA (EE (a:=(Value.ref l,none)) rfl d))
end
def SU(c:Hp->A3->A0 V->Prop)(a:A3):It :=
 ⟨λi H=>∃b x,c H a b/\b[i]?=some x,λi H v d=>∃T x,v = .ref T/\H T=none/\d=HX H T (.tup [.int i,x])/\∀b,c H a b->b[i]?=some x,λi H=>∃b,c H a b/\b.length=i⟩
section
variable{P:HU}{w:HW}{K:VA}{elts:A0 IB}{kk:Nat}{tp:Pos}{isIt:H_->A3->A3->Nat->Prop}{isq:H_->A3->HS A2->Prop}{sq:Hp->A3->A0 V->Prop}
theorem Dn(oI:∀h c l i,isIt h c l i->∃o,h.get? c=some o/\∀v,o.data≠ .cell v)(kI:∀h h' c l i,isIt h c l i->(∀o,h.get? c=some o->h'.get? c=some o)->isIt h' c l i)
  (gI:∀(X:Cx) g σ H s c xs,X.K=K->Inv X g σ H s->sq H c xs->∃its,IG xs its/\isq s.heap c its.toArray) (uI:∀(X:Cx) g σ H s c xs ys,X.K=K->Inv X g σ H s->sq H c xs->sq H c ys->xs=ys)
  (nE:∀h c e f i d its,IsEnum h e f i d->isq h c its->c≠e) (nI:∀h c l i its e,isIt h e l i->isq h c its->c≠e)
  (a f e:A3) (hei:e≠f) (WI:∀(A:IA),A.handled=none->a≠e->a≠f->∀items:HS A2,WalksT P w A e [e,f,a] [e,f] items.size (λi C=>∃t x,items[i]?=some x/\C = #[.int (i:Int) t,x])
   (λi h=>(∃d,IsEnum h e f (i:Int) d)/\isIt h f a i/\isq h a items)
   (λi T h=>(∃x,IsEnumOut h e f ((i:Int)+1) x T)/\isIt h f a (i+1)/\isq h a items/\T≠e/\T≠f)) :
  MN P w K (.Tuple elts kk tp) (SU sq a) [e,f] e (λi h=>(∃d,IsEnum h e f (i:Int) d)/\isIt h f a i) where
 mem:=AZ ..
 obj:=λi h st b hb=>by
  obtain⟨⟨d,U⟩,V⟩:=st;rcases AW.mp hb with rfl | hb
  .exact⟨_,U,λv z=>by cases z⟩
  .rw[AC.mp hb];exact oI _ _ _ _ V
 keep:=λi h h' st k=>⟨let⟨d,U⟩:=st.1;⟨d,k e (by simp) _ U⟩,kI _ _ _ _ _ st.2 (k f (by simp))⟩
 item:=by
  intro X Y Z L y i g s σ H E I F st hg;subst Y Z;obtain⟨xs,x,M,N⟩:=hg;obtain⟨its,rv,p⟩:=gI _ _ _ _ _ _ _ L I M;obtain⟨u,hu,ru⟩:=rv.get N;obtain⟨⟨d,O⟩,R⟩:=id st;have W:=WI X.A (I.ok.hd y) (nE _ _ _ _ _ _ _ O p) (nI _ _ _ _ _ _ R p) its.toArray;have hi:i<its.toArray.size:=by rw[AR];exact(AM.mp hu).1
  refine W.item i s _ _ hi ⟨st.1,st.2,p⟩ λT C h' tk hv hT ht S k=>?_;obtain⟨t,x',hx',rfl⟩:=hv;have ex:x'=u:=BT (hx'.symm.trans ((DY ..).trans hu));subst ex;refine⟨.ref T,rfl,W.go elts kk tp i T _ _ _ S λV J k2=>?_⟩;have hT2:V.IsTuple T #[.int i t,x']:=ht.at λo z=>k2 T o (W.apart i T h' S) z;have D:∀c∈[e,f],∃j,s.heap.get? c=some j:=λc B=>by
   rcases AW.mp B with rfl | hb
   .exact⟨_,O⟩
   .rw[AC.mp hb];obtain⟨o,h4,_⟩:=oI _ _ _ _ R;exact⟨o,h4⟩
  refine⟨.ref T,HX H T (.tup [.int i,x]),I.turnLaid (fp:=[e,f]) (λb o hb G=>k2 b o hb (k b o hb G)) F D hT ⟨?_,[.int i t,x'],.cons ⟨t,rfl⟩ (.cons ru .nil),hT2⟩,rfl,⟨T,x,rfl,I.hok.fresh hT,rfl,λzs hz=>by rw[uI _ _ _ _ _ _ _ _ L I hz M];exact N⟩,⟨J.1,J.2.1⟩,λc B=>?_⟩
  .show 2<=sizeLine;decide
  .obtain⟨j,G⟩:=D c B;rw[B7 (BA (BI (AG G) hT))];exact(F c B).1
 done:=by
  intro X Y Z L y i g s σ H E I F st hg;subst Y Z;obtain⟨xs,M,N⟩:=hg;obtain⟨its,rv,p⟩:=gI _ _ _ _ _ _ _ L I M;obtain⟨⟨d,O⟩,R⟩:=id st;have W:=WI X.A (I.ok.hd y) (nE _ _ _ _ _ _ _ O p) (nI _ _ _ _ _ _ R p) its.toArray;have hi:i=its.toArray.size:=by rw[AR,<-rv.length,N]
  rw[hi]at st;refine W.done s _ _ ⟨st.1,st.2,p⟩ λh' tk k=>⟨rfl,?_⟩;refine I.step (h':=h') (H':=H) (t':=tk) (g':=s.gens) (d':=s.drawn) (ch:=[e,f]) (λb hb=>let⟨_,f1,_,f3,f4,f5⟩:=F b hb;⟨f3,f1,f4,f5⟩) (λb j _ _ y e _=>k b j y e) (λb j _ _ y e _=>⟨j.slots,k b j y e⟩) (λ_ _ _ _ n=>n)
   (λb j y e=>⟨j,k b j y e⟩) (λ_ _ e=>e) (λ_ _ _ e=>e) (λb ps e=>⟨#[],by rw[e];simp⟩) (λm S=>?_) (λb u G=>?_) I.bare
  .obtain⟨j,es,ep,ho,r⟩:=S;exact⟨j,es,ep,k _ j (λhb=>(F _ hb).2.1 rfl) ho,r⟩
  .have nf:∀b u,H b=some u->b∉[e,f]:=λb u e hb=>by rw[(F b hb).1]at e;cases e
   refine(I.hok b u G).stay (λc v y q=>k c v ?_ q) (λ_ q=>q) λ_ _ q=>q;rcases y with z | z
   .rw[z];exact nf b u G
   .exact nf c _ z
 self:=λA i s Q E st h=>let⟨_,he⟩:=st.1;HL he h
theorem Ob(a b e:A3)(j:e≠b):MN P w K (.Tuple elts kk tp) (SU (IC K) a) [e,b] e (λi h=>(∃m,IsEnum h e b (i:Int) m)/\h.IsListIter b a i) :=
 Dn (isIt:=Heap.IsListIter) (isq:=Heap.IsList) (λh c l i ⟨o,e,_,d⟩=>⟨o,e,λv z=>by rw[d]at z;cases z⟩) (λh L c l i z k=>z.at k) (λX n σ H s c B t I u=>by subst t;obtain⟨f,C,p,_⟩:=I.list u;exact⟨f,C,p.isList⟩) (λX n σ H s c B M t I u D=>by subst t;exact I.list_inj u D)
  (λh c e b i m f E ⟨o,q,r,_⟩ z=>by
   rw[z,E]at q;cases q;exact absurd (show Value.type "enumerate" = .type "list" from r) (by decide))
  (λh c l i f e ⟨N,x,y,_⟩ ⟨o,q,r,_⟩ z=>by
   rw[z,x]at q;cases q;rw[y]at r;exact absurd r (by decide)) a b e j λA F G J g=>WalksT.enumerate F e b a j G J g
theorem Mw(a b e:A3)(j:e≠b):MN P w K (.Tuple elts kk tp) (SU (IZ K) a) [e,b] e (λi h=>(∃m,IsEnum h e b (i:Int) m)/\h.IsTupleIter b a i) :=
 Dn (isIt:=Heap.IsTupleIter) (isq:=Heap.IsTuple) (λh c l i ⟨o,e,_,d⟩=>⟨o,e,λv z=>by rw[d]at z;cases z⟩) (λh L c l i z k=>z.at k) (λX n σ H s c B t I u=>by subst t;obtain⟨f,C,p,_⟩:=I.tuple u;exact⟨f,C,p⟩) (λX n σ H s c B M t I u D=>by subst t;exact I.tuple_inj u D)
  (λh c e b i m f E ⟨o,q,r,_⟩ z=>by
   rw[z,E]at q;cases q;exact absurd (show Value.type "enumerate" = .type "tuple" from r) (by decide))
  (λh c l i f e ⟨N,x,y,_⟩ ⟨o,q,r,_⟩ z=>by
   rw[z,x]at q;cases q;rw[y]at r;exact absurd r (by decide)) a b e j λA F G J g=>Zd F e b a j G J g
end
section
variable{X:Cx}{elts:A0 IB}{kk:Nat}{tp:Pos}
def zDi(K:VA)(R:It->Hp->Prop)(a:A3)(xs:A0 V)(H:Hp):Prop:=IC K H a xs/\R (SU (IC K) a) H\/IZ K H a xs/\R (SU (IZ K) a) H
def Ww(K:VA)(b:TA):TI:=λσ H R=>b σ H λc d=>∃a e,c = [.ref a]/\zDi K R a e d
theorem Vw{a:IB}{v:TA}{p i:Pos}(w:Gl X "enumerate")(x:X.mg "enumerate" = none)(y:bootBuiltins "enumerate" = some (.type "enumerate"))(A:PA X [a] v)(B:starEach [a] X.env = [(false,eval a X.env)]:=by rfl):PI X (.Tuple elts kk tp) (.Call (.Name "enumerate" p) [a] [] i) (Ww X.K v):=by
 intro d s σ H R I h;refine Call_ (Ah I w x y (VP (I7 (A i d s σ H _ I h) λM c ⟨N,n,f,C,D⟩=>?_) B rfl));obtain⟨l,O,e,q⟩:=D;subst e;obtain⟨u,rfl,E⟩:=X4 C;cases E;have j:∀b∈[c.heap.objs.size+1,c.heap.objs.size],Dp X d n b:=λb hb=>by
  rcases AW.mp hb with z | hb
  .rw[z];exact f.fpOk (DM _) (f.hok.fresh (DM _))
  .rw[AC.mp hb];exact f.fpOk (VD _) (f.hok.fresh (VD _))
 rcases q with⟨o,q⟩ | ⟨o,q⟩
 .obtain⟨r,F,t,G⟩:=f.list o;exact call_enumerate_list t.isList λJ m g L k=>HL m ⟨c.heap.objs.size+1,_,_,_,n,rfl,f.kept (t':=c.toks) k,Ob l c.heap.objs.size (c.heap.objs.size+1) (Nat.succ_ne_self _),⟨⟨_,m⟩,g⟩,j,q⟩
 .obtain⟨r,F,t,G⟩:=f.tuple o;exact Od t λJ m g k=>HL m ⟨c.heap.objs.size+1,_,_,_,n,rfl,f.kept (t':=c.toks) k,Mw l c.heap.objs.size (c.heap.objs.size+1) (Nat.succ_ne_self _),⟨⟨_,m⟩,g⟩,j,q⟩
end
def Kw{K:VA}{R:It->Hp->Prop}{a:A3}{xs:A0 V}{H H':Hp}(h:QK K H a xs)(k:JU a H H')(q:∀c:Hp->A3->A0 V->Prop,(∀b,JU a H b->c b a xs)->R (SU c a) H'):zDi K R a xs H':=by
 rcases h with h | h
 .exact .inl ⟨k.seqL h,q _ λb k=>k.seqL h⟩
 .exact .inr ⟨k.seqT h,q _ λb k=>k.seqT h⟩
section
variable{X:Cx}(K:VA)
theorem zFo{b:A0 IB}{kk:Nat}{e:Pos}{a:IB}{d:TA}{p c:Pos}(f:X.mg "enumerate" = none)(g:PA X [a] d)(h:Gl X "enumerate":=by rfl)(i:starEach [a] X.env = [(false,eval a X.env)]:=by rfl)(j:X.K=K:=by rfl) :
  PI X (.Tuple b kk e) (.Call (.Name "enumerate" p) [a] [] c) (Ww K d):=by subst j;exact Vw h f Gw g i
end
section
variable{X:Cx}{tg iter elt:IB}{ifs:A0 IB}{scope:KM}{cl:A0 (Str×A3)}{N':A0 Str}{cap:A0 (A5 Nat)}{wi:TI}{pos:Pos}
theorem Hd{e:IB}{gs:A0 Comprehension}{newAcc:Sem A2}{p2:Pos}{use:A5 (A2->Sem Unit)}{Qv:A2->A4->Prop}(q:clausesOf e =⟨tg,iter,ifs,0⟩::gs)(o:A3->HO)(hs:∀x,foldedSetIterable iter X.env x=pure x)(S:MJ X scope cl N' cap)(hc:X.calm=true)(hi:PI X tg iter wi)
  {lp:A3->It->St->Hp->(St->Hp->Prop)->Prop}
  (r:∀(a:A0 (A3×Obj)) (s:A4) (σ:St) (H:Hp) (Q:A2->A4->Prop) (E:A2->A4->Prop),Inv X a σ H s->(∀g,Inv X a σ (HX H s.heap.objs.size (o s.heap.objs.size)) g->(∀b f,s.heap.get? b=some f->g.heap.get? b=some f)->Q (.ref s.heap.objs.size) g)->wpAny (model X.prog X.w) X.A newAcc Q E s)
  (G:∀(a:A0 (A3×Obj)) (L:A0 A3) (s3:A4) (M:Hp) (D l:A3) (fp:A0 A3) (tn:Nat->H_->Prop) (J:It) (σ:St) (s:A4) (H:Hp) (Q:St->Hp->Prop) (R:Result->A4->Prop),
   MN X.prog X.w X.K tg J fp l tn->Inv (LS X scope cl N' a L s3 M) [] σ H s->tn 0 s.heap->(∀b∈fp,Dp (LS X scope cl N' a L s3 M) [] H b)->lp D J σ H Q ->
   (∀g σ' H',Inv (LS X scope cl N' a L s3 M) [] σ' H' g->Q σ' H'->R (.ok .next) g) ->
   codeAny (model X.prog X.w) X.A (.compLoop e 0 (.ref l) (.ref D) (compEnvC scope cl s3.heap.objs.size X.env)) R s)
  (N:∀l D i,X.A.under (.compStart e 0 (.ref l) (.ref D) i)=X.A) (t:∀l D i,(model X.prog X.w).den (.compStart e 0 (.ref l) (.ref D) i) =(compStart e 0 (.ref l) (.ref D) i).onRaise (λx=>do noteFrame x i;standAt theWindowsPlace))
  {a:A0 (A3×Obj)} {s:A4} {σ:St} {H:Hp} {Q:V->Hp->Prop} (I:Inv X a σ H s) (h:Jx wi o cap lp σ H Q)
  (u:∀(D:A3) (fp:A0 A3) (k:Hp) (s3 g:A4) (σ':St) (H':Hp),Inv X a σ k s3->(∀b∈fp,Dp X a k b)->Inv (LS X scope cl N' a fp s3 k) [] σ' H' g->Q (.ref D) H'->compPost (model X.prog X.w) X.A X.xe use Qv (.ref D) s3.heap.objs.size (.ok .next) g) :
  wpAny (model X.prog X.w) X.A (comprehension e scope X.env p2 newAcc false (eval iter X.env) use) Qv X.xe s:=by
 refine wpAny_comprehension_free q hs S.clos S.kind S.loc (I7 (hi a s σ H _ I h) λv s1 B=>I7 B λitv j h2=>?_);obtain⟨l,fp,tn,J,k,O,I2,T,C,f2,R2⟩:=h2;subst O;refine r a j σ k _ _ I2 λs3 P k3=>?_;have hD:k j.heap.objs.size=none:=I2.hok.fresh (VD _);have n:∀b∈fp,Dp X a (HX k j.heap.objs.size (o j.heap.objs.size)) b/\∃f,s3.heap.get? b=some f:=λb m=>by
  obtain⟨f,e,_⟩:=T.obj _ _ C b m;obtain⟨U,fr⟩:=f2 b m;exact⟨⟨by rw[B7 (BA (AG e))];exact U,fr⟩,f,k3 b f e⟩
 refine wpAny_newFunctionEnv S.nocell (by intro y hy;simp at hy) (λB W Y=>?_) S.kind;have hk:∀b f,s3.heap.get? b=some f->B.get? b=some f:=λb f e=>(Y.2 b (BA (AG e))).trans (AD _ e);have I4:Inv (LS X scope cl N' a fp s3 (HX k j.heap.objs.size (o j.heap.objs.size))) [] (Xr cap σ) (HX k j.heap.objs.size (o j.heap.objs.size)) { s3 with heap:=B,toks:=s3.toks +([]:A0 (Str×A2)).length } :=
  P.block S hc n W hk
 have F:tn 0 B:=T.keep 0 _ _ C λb m f e=>hk b f (k3 b f e);refine Dt (X:=LS X scope cl N' a fp s3 (HX k j.heap.objs.size (o j.heap.objs.size))) (gs:=⟨tg,iter,ifs,0⟩::gs) (e:=e) (d:=0) (tg:=tg) (iter:=iter) (ifs:=ifs) (N _ _ _) (t _ _ _) q rfl T F ?_;refine G a fp s3 _ j.heap.objs.size l fp tn J (Xr cap σ) _ _ _ _ T I4 F (λb m=>?_) (R2 _ hD) λg σ' H' I' q'=>?_
 .obtain⟨⟨U,f1,Z,f3,f4,f5⟩,f,eo⟩:=n b m;refine⟨U,BA (AG eo),λhf=>?_,.inl m,λx c e=>f4 x c (S.cin.get e),λp hp=>f5 p (by simpa [LS] using hp)⟩;rcases AW.mp (P.stkSub b hf)with z | z
  .exact f1 z
  .exact Z z
 .exact u _ fp _ s3 g σ' H' P (λb m=>(n b m).1) I' q'
theorem U9{i:Nat}{x:Str}{o j:Pos}{g:TG}{V:TT}{W:TE}(hN:X.N.Nodup)(hi:X.N[i]?=some x)(hx:Loc X.env.scope x)(S:MJ X scope cl N' cap)(p:X.calm=true)(hI:PI X tg iter wi)
  (t:∀(d:A0 (A3×Obj)) (y:A0 A3) (l:A4) (A:Hp),PG (LS X scope cl N' d y l A) tg g/\SJ (LS X scope cl N' d y l A) ifs V/\PE (LS X scope cl N' d y l A) elt W)
  (hs:∀x,foldedSetIterable iter X.env x=pure x:=by intro _;rfl)
  (F:swapsWith (.ListComp elt [⟨tg,iter,ifs,0⟩] scope j) (some (.Name x o)) pos.line X.env=pure true:=by rfl)
  (G:X.fn x=true\/X.env.scope.names.lookup x=some .local:=by first | exact .inl rfl | exact .inr rfl | assumption) :
  PS X (.Assign [.Name x o] (.ListComp elt [⟨tg,iter,ifs,0⟩] scope j) pos) (SO (Jx wi (λ_=>.lst []) cap λD J σ H Q=>Au g V (Y6 D W) J σ H Q) (P5 i)):=by
 intro d s σ H D I h;rw[exec_Assign];refine AA (EZ (AA (EE F (FB rfl (AA (AA ?_))))));refine Hd (newAcc:=newList []) (p2:=firstIterPos [⟨tg,iter,ifs,0⟩] j) rfl (λ_=>.lst []) hs S p hI (λd s σ H Q E I h=>?_) (λd y l A D it fp tn J σ s H Q R T I st G h hR=>?_) (λ_ _ _=>rfl) (λ_ _ _=>rfl) I h λE fp H2 l s' σ' H' Y K L q=>?_
 .refine wpAny_newList ?_;exact h _ (I.lnew (t':=s.toks) (its:=[]) .nil (BP _)) λb f e=>AD _ e
 .obtain⟨b1,b2,b3⟩:=t d y l A;exact o7 (X:=LS X scope cl N' d y l A) rfl rfl p rfl (Dx elt tg iter ifs scope j _ _ _) b1 b2 (Ko rfl b3) T I st G h hR
 .have IX:Inv X d σ H' s':=Y.unblock K L ⟨rfl,λ_ _=>rfl⟩;have w:Dp X d H' l.heap.objs.size:=Y.fpOk (VD _) L.free;obtain⟨m,hn,_⟩:=L.loc;show wpAny _ _ (assign (.Name x o) X.env (.ref E)) _ _ _;refine wpAny_assign_Name (Cf (v:=.ref E) IX hN hi hx rfl (λC M ⟨a,O,ha⟩=>?_) G);have nC:l.heap.objs.size≠a:=by
   rcases ha with rfl | ha
   .exact w.2.1
   .exact(w.2.2.2.2.1 _ _ ha).symm
  refine⟨m,?_,λh' B=>AE (AE ?_)⟩
  .obtain⟨f,P,U,e1,r⟩:=hn;exact⟨f,P,U,(O.2 _ nC).trans e1,r⟩
  refine⟨_,H',?_,q⟩;have k:∀b f,b∉[l.heap.objs.size]->C.heap.get? b=some f->h'.get? b=some f:=λb f t e=>(B.2 b λz=>t (AC.mpr z)).trans e;refine M.step (h':=h') (H':=H') (t':=C.toks) (g':=C.gens) (d':=C.drawn) (ch:=[l.heap.objs.size]) (λb t=>by rw[AC.mp t];exact⟨w.2.2.2.1,w.2.1,w.2.2.2.2⟩) (λb f _ _ p e _=>k b f p e) (λb f _ _ p e _=>⟨f.slots,k b f p e⟩) (λ_ _ _ _ n=>n)
   (λb f p e=>⟨f,k b f p e⟩) (λ_ _ e=>e) (λ_ _ _ e=>e) (λb ps e=>⟨#[],by rw[e];simp⟩) (λm hm=>?_) (λb u Z=>?_) M.bare
  .obtain⟨f,P,U,ho,r⟩:=hm;exact⟨f,P,U,k _ f (λt=>w.2.1 (AC.mp t).symm) ho,r⟩
  .have nf:∀b u,H' b=some u->b∉[l.heap.objs.size]:=λb u e t=>by rw[AC.mp t,w.1]at e;cases e
   refine(M.hok b u Z).stay (λc v p q=>k c v ?_ q) (λ_ q=>q) λ_ _ q=>q;rcases p with z | z
   .rw[z];exact nf b u Z
   .exact nf c _ z
end
structure IsC(K:VA)(C:A3):Prop where
 ha:PySem.W.findIn K (.ref C) "__class__" = some (some (.builtin "object.__class__"))
 hn:PySem.W.specialIn K (.builtin "object.__class__") "__get__" = some (some (.builtin "getset_descriptor.__get__"))
 htk:PySem.W.takesIn K (.builtin "object.__class__")=some true
 hm:PySem.W.mroIn K C (.type "object")=some true
 one:PySem.W.kitOne K (.ref C) (.ref C)=some true
def NF(K:VA)(a:A3):PySem.W.kitOne K (.ref a) (.ref a)=some true:=AO (beq_self_eq_true _)
def Cd(l xs:A0 Str):A0 Str:=xs.foldl Xh l
def Uo(l:A0 Str)(x:Str):(Xh l x).length<=l.length+1:=by
 unfold Xh;split
 .lia
 .rw[AS];exact VD _
def zBp{w:HW}{h h':H_}{a:A3}{ss:A0 Str}(z:ST.WS w h a ss)(k:∀o,h.get? a=some o->h'.get? a=some o):ST.WS w h' a ss:=by
 obtain⟨o,b,c,t,S,r⟩:=z;exact⟨o,b,c,t,S.at (k o S.ho),r⟩
section
variable{prog:HU}{w:HW}{A:IA}{R:Result->A4->Prop}{I:A3}{fp wr:A0 A3}{G:HS GenState->HS GenState->Prop}{n:Nat}{P:Nat->A2->Prop}{St:Nat->A4->Prop}
theorem Tr(W:WalksS prog w A.in1 I fp wr G n P St)(S:A3)(d:S∉fp)(xs:A0 Str)(E:xs.length=n)(f:∀i v,P i v->∃x t,xs[i]?=some x/\v = .str x t) :
  ∀(k i:Nat) (s:A4) (ss:A0 Str),n-i=k->i<=n->St i s->ST.WS w s.heap S ss->ss.length+k<4096 ->
   (∀s',Moved (S::wr) G s s'->ST.WS w s'.heap S (Cd ss (xs.drop i))->R (.ok (.ret .none)) s') ->
   codeAny (model prog w) A (.builtin "set.update.loop" ⟨[.ref S,.ref I],[]⟩) R s:=by
 have g:S∉wr:=λh=>d (W.sub _ h);have a:∀b∈wr,b∈S::wr:=λb j=>AN _ j;intro k
 induction k with
 | zero =>
  intro i s ss H J c y _ z;have B:i=n:=by lia
  subst B;refine DH F.entry_set_update_loop ?_;rw[Around.under_plainId F.plain_set_update_loop _];refine AA (W.done s _ _ c λs' l=>?_);have q:=z s' (l.mono a);rw[<-E,HQ]at q;exact AE (q (zBp y λo=>l.heap S o g))
 | succ k K =>
  intro i s ss H J c y T z;refine DH F.entry_set_update_loop ?_;rw[Around.under_plainId F.plain_set_update_loop _];refine AA (W.item i s _ _ (by lia) c λv s' L m l=>?_);obtain⟨x,t,M,rfl⟩:=f i v L;show wpAny _ A.in1 (holding [Value.str x t] (setAdd S (.str x t)) >>= _) _ _ s';refine AA (BO ?_);unfold setAdd;refine BO (AA (wpAny_pyHash_str ?_));refine ST.QJ (s:={ s' with toks:=s'.toks+1 }) (zBp y λo=>l.heap S o g) (by lia) λU b p N=>?_;refine AE ⟨plainId_quiet F.plain_set_update_loop _,K (i+1) _ (Xh ss x) (by lia) (by lia) (W.frame _ s' _ _ m (DM _) λb j o e=>?_) N (by have:=Uo ss x;lia) λC r u=>?_⟩
  .rw[p.2 b (λh:b=S=>d (by rw[<-h];exact j))];exact e
  .refine z C (Moved.trans W.gtrans ((l.mono a).then_heap (DM _) λb o j e=>?_) r) ?_
   .rw[p.2 b (λh:b=S=>j (by rw[h];exact AZ))];exact e
   .have O:xs.drop i=x::xs.drop (i+1):=by
     obtain⟨D,Q⟩:=AM.mp M;rw[<-Q];exact DU D
    rw[O];exact u
end
section
variable{prog:HU}{w:HW}{A:IA}{E:A2->A4->Prop}{s:A4}
abbrev K_(w:HW):Obj:={ cls:=.type "set",dict:=none,data:=.set #[] 0 (.fresh 0 0 (!(w.params.followText "set-order"))) }
theorem Wg{h:H_}{a:A3}(e:h.get? a=some (K_ w)):ST.WS w h a [] :=
 ⟨_,#[],0,_,⟨e,⟨rfl,rfl,rfl⟩,rfl,by rfl,rfl,λ_=>rfl,by decide⟩,⟨λe b=>by simp at b,by simp,DC⟩⟩
theorem Vo(a:A2){Q₁:A2->A4->Prop}(h:Q₁ (.ref s.heap.objs.size) { s with heap:=s.heap.push (K_ w) }) :
  codeAny (model prog w) A (.call (.builtin "set.__new__") ⟨[.type "set",a],[]⟩) (wants Q₁ E) s:=by
 refine codeAny_of_tree ?_;show wpAny _ A.in1 (do checkBuiltinCall "set.__new__" ⟨[.type "set",a],[]⟩;again (.builtin "set.__new__" ⟨[.type "set",a],[]⟩)) _ _ s;refine AA (EE (F.newCall_set_1 a) (AE ⟨plainId_quiet F.plain_set_new _,DH F.entry_set_new ?_⟩));rw[Around.under_plainId F.plain_set_new _];unfold Builtin.«set.__new__» Builtin.Frozenset.newClass;have b:=sub_set_self;obtain⟨c,g,d,e,os⟩:=s;dsimp only;wp_walk;refine GQ (AE ?_);dsimp only;simp only[newObj];refine AA (wpAny_alloc (AE ?_));exact AE h
set_option maxHeartbeats 3200000 in
theorem Dz{l:A3}{g H:Obj}{z:String}{xs:A0 Str}{n:Nat}{P:Nat->A2->Prop}{St:A3->Nat->H_->Prop}{Q:A2->A4->Prop}(hh:A.handled=none)(j:s.heap.get? l=some g)(k:g.cls = .type z)
  (hs1:isSubtype (.type z) (.type "set")=pure false) (hs2:isSubtype (.type z) (.type "frozenset")=pure false) (hne:(Value.type z == Value.type "dict")=false)
  (J:∀{A:IA} {E:A2->A4->Prop} {Q:A2->A4->Prop} (s1:A4),s1.heap.get? l=some g->Q (.ref s1.heap.objs.size) { s1 with heap:=s1.heap.push H }->wpAny (model prog w) A (pyIter (.ref l)) Q E s1)
  (hW:∀(A:IA) (I:A3),A.handled=none->l≠I->Walks prog w A I [I,l] [I] n P (St I)) (K:∀(h:H_) (I:A3),h.get? I=some H->h.get? l=some g->St I 0 h) (m:H.isFreed=false)
  (hn:xs.length=n) (p:∀i v,P i v->∃x t,xs[i]?=some x/\v = .str x t) (B:n<4096)
  (h:∀(h':H_) (C:Nat),ST.WS w h' s.heap.objs.size (Cd [] xs)->(∀b o,s.heap.get? b=some o->h'.get? b=some o)->Q (.ref s.heap.objs.size) { s with heap:=h',toks:=C }) :
  wpAny (model prog w) A (call (.type "set") [.ref l]) Q E s:=by
 obtain⟨c,tl,hmro⟩:=F.called_set.mro;have L:=F.called_set.made;have hsub:=F.called_set.sub;refine wpAny_call (codeAny_of_tree ?_);show wpAny _ _ (callAny (.type "set") _) _ _ _;refine AE ⟨Code.quiet_builtin _ (by decide +kernel),DH F.entry_type_call ?_⟩;rw[Around.under_plain (weight_type_call_type "set" [.ref l] []) rfl];have h1:=F.called_set.notType;have h2:=F.called_set.canCreate;have hct:=F.typeCall_set_1 (.ref l)
 repeat (any_goals (first | assumption | wp_step))
 refine FJ (Vo (.ref l) (E:=E) (Q₁:=λq h0=>q = .ref s.heap.objs.size/\h0 ={ s with heap:=s.heap.push (K_ w) }) ⟨rfl,rfl⟩) λr h0 d=>?_;cases r with
 | error e=>exact d
 | ok M =>
  cases M with
  | ret q =>
   obtain⟨rfl,rfl⟩:=d;have hS:(s.heap.push (K_ w)).get? s.heap.objs.size=some (K_ w):=AY _ rfl;have hT:Shared.TypeIs { s with heap:=s.heap.push (K_ w) } (.ref s.heap.objs.size) "set":=⟨_,hS,rfl⟩;have hli:=F.called_set.init.lookup;have hbi:=F.called_set.init.bind (.ref s.heap.objs.size)
   repeat (any_goals (first | assumption | wp_step))
   refine FJ (codeAny_call_builtin (R:=wants (λr i1=>r = .none/\∃h' C,i1 ={ s with heap:=h',toks:=C }/\ST.WS w h' s.heap.objs.size (Cd [] xs) /\
     (∀b o,s.heap.get? b=some o->h'.get? b=some o)) E) F.called_set.init.plain F.entry_set_init (check_set_init_1 hT ?_)) λr₂ i1 d₂=>?_
   .have a:(s.heap.push (K_ w)).get? l=some g:=AD _ j;obtain⟨ocls,N,O,D⟩:=g;simp only at k;subst k;unfold Builtin.«set.__init__» noKeywords Builtin.Frozenset.updateFrom;generalize S:pyIter=PI;wp_walk;subst S;refine J _ a ?_;refine AA (wpAny_runValue ?_);have u:l<s.heap.objs.size:=AG j;have T:A.in1.in1.in1.handled=none:=by simp[hh]
    have y:l≠(s.heap.push (K_ w)).objs.size:=by
     rw[CQ];exact BA (EU u)
    have U:s.heap.objs.size∉[(s.heap.push (K_ w)).objs.size,l]:=by
     rw[CQ];simp only[AW,AQ,or_false,not_or];exact⟨BA (EI _),GO u⟩
    refine Tr ((hW _ _ T y).toS) s.heap.objs.size U xs hn p (n-0) 0 _ [] rfl (BP _) (K _ _ (AY _ m) (AD _ a)) (Wg (AD _ hS)) (by simpa using B) λs' G f=>?_;obtain⟨h',g',d',V,W⟩:=s';have eg:g'=s.gens:=G.gens;have ed:d'=s.drawn:=G.drawn;have eo:W=s.os:=G.os;subst eg;subst ed;subst eo;show wpAny _ _ _ _ _ _;refine AE ?_;show wpAny _ _ (ret Value.none) _ _ _;refine AE ⟨rfl,h',V,rfl,f,λb o e=>?_⟩;have B:=AG e;have X:b≠s.heap.objs.size:=BA B;have Y:b≠(s.heap.push (K_ w)).objs.size:=by
     rw[CQ];exact BA (EU B)
    exact G.heap b o (by simp only[AW,AQ,or_false,not_or];exact⟨X,Y⟩) (AD _ (AD _ e))
   .cases r₂ with
    | error e=>exact d₂
    | ok M₂ =>
     cases M₂ with
     | ret r =>
      obtain⟨rfl,h',C,rfl,f,Z⟩:=d₂
      repeat (any_goals (first | assumption | wp_step))
      exact h _ _ f Z
     | _=>exact d₂.elim
  | _=>exact d.elim
end
def Eo:isSubtype (.type "tuple") (.type "set")=pure false:=by rw[isSubtype_type];kernel_rfl
def i9:isSubtype (.type "tuple") (.type "frozenset")=pure false:=by rw[isSubtype_type];kernel_rfl
def Im:∀{xs l:A0 Str},xs.Nodup->(∀x∈xs,x∉l)->Cd l xs=l++xs
 | [],l,_,_=>(CC l).symm
 | x::xs,l,c,a=>by
  obtain⟨d,f⟩:=CD.mp c;show Cd (Xh l x) xs=_;have e:Xh l x=l ++ [x]:=AI (a x (AZ ..));rw[e,Im f λy b hm=>?_,BF]
  .rfl
  .rcases AJ.mp hm with hm | hm
   .exact a y (AN _ b) hm
   .exact d (AC.mp hm▸b)
def Pk{ss:A0 Str}{its:A0 A2}(r:IG (ss.map V.str) its)(i:Nat)(v:A2)(e:its.toArray[i]?=some v):∃x t,ss[i]?=some x/\v = .str x t:=by
 rw[DY]at e;cases h:ss[i]? with
 | none =>
  have:=r.none_of (i:=i) (by rw[AH,h];rfl);rw[this]at e;cases e
 | some x =>
  obtain⟨u,a,t,b⟩:=r.get (i:=i) (x:=.str x) (by rw[AH,h];rfl);rw[a]at e;cases e;exact⟨x,t,rfl,b⟩
theorem Ra(K:VA)(w:HW)(E:X.calm=true:=by rfl)(J:X.K=K:=by rfl)(hw:X.w=w:=by rfl):J9 X (.type "set") (λxs H Q=>∃(p:A3) (ss:A0 Str),xs = [.ref p]/\(IC K H p (ss.map V.str)\/IZ K H p (ss.map V.str))/\ss.Nodup/\ss.length<4096/\∀l,H l=none->Q (.ref l) (HX H l (r9 w l ss))):=by
 subst J;subst hw;intro g s σ H xs R Q I r h;obtain⟨p,ss,rfl,hq,L,G,q⟩:=h;obtain⟨u,rfl,M⟩:=X4 r;cases M;have N:Cd [] ss=ss:=Im L λ_ _ h=>nomatch h
 have i:∀(t:H_) (v:Nat),ST.WS X.w t s.heap.objs.size (Cd [] ss)->(∀b o,s.heap.get? b=some o->t.get? b=some o)->EP X g σ Q (.ref s.heap.objs.size) { s with heap:=t,toks:=v }:=λt v z k=>by
  rw[N]at z;exact⟨.ref s.heap.objs.size,_,I.laid (t':=v) k (VD _) (Xk z),rfl,q _ (I.hok.fresh (VD _))⟩
 rcases hq with hq | hq
 .obtain⟨d,j,x,O⟩:=I.list hq;have a:=j.length;rw[AB]at a;obtain⟨o,y,c,n,m⟩:=x.isList;exact Dz (I.ok.hd E) y c F.sub_list_set F.sub_list_frozenset (by decide) (λP e q=>FI ⟨_,e,c,n,m⟩ q) (λA I B f=>Walks.list B I p f d.toArray) (λh I C D=>⟨⟨_,C,rfl,rfl⟩,⟨_,D,c,n,m⟩⟩) rfl (by simp[a]) (Pk j) (by simpa [<-a] using G) i
 .obtain⟨d,j,x,O⟩:=I.tuple hq;have a:=j.length;rw[AB]at a;obtain⟨o,y,c,n,m⟩:=x;exact Dz (I.ok.hd E) y c Eo i9 (by decide) (λP e q=>FW ⟨_,e,c,n,m⟩ q) (λA I B f=>Walks.tuple B I p f d.toArray) (λh I C D=>⟨⟨_,C,rfl,rfl⟩,⟨_,D,c,n,m⟩⟩) rfl (by simp[a]) (Pk j) (by simpa [<-a] using G) i
theorem zCr(w:HW)(hw:X.w=w:=by rfl):PV X "set.add" (zDj w):=by subst hw;exact Zj
section
variable{X:Cx}{tg iter elt:IB}{ifs:A0 IB}{scope:KM}{cl:A0 (Str×A3)}{N':A0 Str}{cap:A0 (A5 Nat)}{wi:TI}{pos:Pos}
theorem Vf{i:Nat}{x:Str}{p j:Pos}{g:TG}{W:TT}{a b:IB}{Y Z:TE}(hN:X.N.Nodup)(hi:X.N[i]?=some x)(hx:Loc X.env.scope x)(S:MJ X scope cl N' cap)(t:X.calm=true)(hI:PI X tg iter wi)
  (w:∀(d:A0 (A3×Obj)) (y:A0 A3) (l:A4) (A:Hp),PG (LS X scope cl N' d y l A) tg g/\SJ (LS X scope cl N' d y l A) ifs W/\PE (LS X scope cl N' d y l A) a Y/\PE (LS X scope cl N' d y l A) b Z)
  (hs:∀x,foldedSetIterable iter X.env x=pure x:=by intro _;rfl)
  (G:swapsWith (.DictComp a b [⟨tg,iter,ifs,0⟩] scope j) (some (.Name x p)) pos.line X.env=pure true:=by rfl)
  (K:X.fn x=true\/X.env.scope.names.lookup x=some .local:=by first | exact .inl rfl | exact .inr rfl | assumption) :
  PS X (.Assign [.Name x p] (.DictComp a b [⟨tg,iter,ifs,0⟩] scope j) pos) (SO (Jx wi (λ_=>.dK []) cap λD J σ H Q=>Au g W (Et D Y Z) J σ H Q) (P5 i)):=by
 intro d s σ H D I h;rw[exec_Assign];refine AA (EZ (AA (EE G (FB rfl (AA (AA ?_))))));refine Hd (newAcc:=newDict) (p2:=firstIterPos [⟨tg,iter,ifs,0⟩] j) rfl (λ_=>.dK []) hs S t hI (λd s σ H Q E I h=>?_) (λd y l A D it fp tn J σ s H Q R T I st K h hR=>?_) (λ_ _ _=>rfl) (λ_ _ _=>rfl) I h λE fp H2 l s' σ' H' I3 L M q=>?_
 .refine BU ?_;exact h _ (I.laid (a:=s.heap.objs.size) (o:=.dK []) (t':=s.toks) (λ_ _ q=>AD _ q) (VD _) (Fj s.heap I.big)) λb f e=>AD _ e
 .obtain⟨b1,b2,b3,b4⟩:=w d y l A;exact o7 (X:=LS X scope cl N' d y l A) rfl rfl t rfl (Ec a b tg iter ifs scope j _ _ _) b1 b2 (Ku rfl b3 b4) T I st K h hR
 .have IX:Inv X d σ H' s':=I3.unblock L M ⟨rfl,λ_ _=>rfl⟩;have B:Dp X d H' l.heap.objs.size:=I3.fpOk (VD _) M.free;obtain⟨m,hn,_⟩:=M.loc;show wpAny _ _ (assign (.Name x p) X.env (.ref E)) _ _ _;refine wpAny_assign_Name (Cf (v:=.ref E) IX hN hi hx rfl (λF O ⟨a,P,ha⟩=>?_) K);have nC:l.heap.objs.size≠a:=by
   rcases ha with rfl | ha
   .exact B.2.1
   .exact(B.2.2.2.2.1 _ _ ha).symm
  refine⟨m,?_,λh' C=>AE (AE ?_)⟩
  .obtain⟨f,U,V,e1,r⟩:=hn;exact⟨f,U,V,(P.2 _ nC).trans e1,r⟩
  refine⟨_,H',?_,q⟩;have k:∀b f,b∉[l.heap.objs.size]->F.heap.get? b=some f->h'.get? b=some f:=λb f w e=>(C.2 b λz=>w (AC.mpr z)).trans e;refine O.step (h':=h') (H':=H') (t':=F.toks) (g':=F.gens) (d':=F.drawn) (ch:=[l.heap.objs.size]) (λb w=>by rw[AC.mp w];exact⟨B.2.2.2.1,B.2.1,B.2.2.2.2⟩) (λb f _ _ t e _=>k b f t e) (λb f _ _ t e _=>⟨f.slots,k b f t e⟩) (λ_ _ _ _ n=>n)
   (λb f t e=>⟨f,k b f t e⟩) (λ_ _ e=>e) (λ_ _ _ e=>e) (λb ps e=>⟨#[],by rw[e];simp⟩) (λm hm=>?_) (λb u eb=>?_) O.bare
  .obtain⟨f,U,V,ho,r⟩:=hm;exact⟨f,U,V,k _ f (λw=>B.2.1 (AC.mp w).symm) ho,r⟩
  .have nf:∀b u,H' b=some u->b∉[l.heap.objs.size]:=λb u e w=>by rw[AC.mp w,B.1]at e;cases e
   refine(O.hok b u eb).stay (λc v t q=>k c v ?_ q) (λ_ q=>q) λ_ _ q=>q;rcases t with z | z
   .rw[z];exact nf b u eb
   .exact nf c _ z
end
theorem Vn(E:X.calm=true):J9 X (.builtin "any") (λxs H Q=>∃(p:A3) (bs:A0 Bool),xs = [.ref p]/\IC X.K H p (bs.map V.bl)/\Q (.bl (bs.any id)) H):=by
 intro B s σ H xs M Q I r h;obtain⟨p,bs,rfl,F,q⟩:=h;obtain⟨u,rfl,t⟩:=X4 r;cases t;obtain⟨a,w,x,N⟩:=I.list F;refine call_any_walk (FI x.isList ?_);have y:p≠s.heap.objs.size:=by
  obtain⟨o,n,e,_⟩:=x;exact BA (AG e)
 refine⟨s.heap.objs.size,_,_,_,_,_,λi=>bs.getD i false,rfl,Walks.list (A:=X.A.in1) (show X.A.in1.handled=none from I.ok.hd E) _ p y a.toArray,⟨⟨_,AY _ rfl,rfl,rfl⟩,?_⟩,λi v O P R G J=>?_,λS T k=>?_⟩
 .obtain⟨o,n,e,c,d,L⟩:=x;exact⟨o,AD _ e,c,n,L⟩
 .have f:(bs.map V.bl)[i]?=some (V.bl (bs.getD i false))/\RelV (V.bl (bs.getD i false)) v:=by
   have g:a[i]?=some v:=by simpa using G
   have j:i<a.length:=(AM.mp g).1;have m:=w.length;rw[AB]at m;have e:(bs.map V.bl)[i]?=some (V.bl (bs.getD i false)):=by
    rw[AH,AF (by lia)];simp[CA,AF (show i<bs.length by lia)]
   obtain⟨u,C,t⟩:=w.get e;rw[g]at C;cases C;exact⟨e,t⟩
  cases f.2;exact CY J
 .have m:=w.length;rw[AB]at m;have e:(List.range a.toArray.size).any (λi=>bs.getD i false)=bs.any id:=by
   rw[AR,<-m,F_,GP,GP];constructor
   .rintro⟨i,j,z⟩;have l:=DA.mp j;refine⟨bs[i],DL l,?_⟩;simpa [CA,AF l] using z
   .rintro⟨b,f,z⟩;obtain⟨i,j,rfl⟩:=EA.mp f;refine⟨i,DA.mpr j,?_⟩;simpa [CA,AF j] using z
  rw[e];exact⟨.bl (bs.any id),H,I.kept λb o D=>k b o (by
   intro f;have:b=s.heap.objs.size:=by simpa using f
   exact absurd (AG D) (by rw[this];exact CZ _)) (AD _ D),rfl,q⟩
theorem zBt:bootBuiltins "any" = some (.builtin "any"):=by decide +kernel
variable(K:VA)
theorem zBm(a:X.calm=true:=by rfl)(b:X.K=K:=by rfl):J9 X (.builtin "any") (λxs H Q=>∃(p:A3) (bs:A0 Bool),xs = [.ref p]/\IC K H p (bs.map V.bl)/\Q (.bl (bs.any id)) H):=by subst b;exact Vn a
def X0(kvs more:A0 (IM×V)):A0 (IM×V):=more.foldl (λa b=>Bf a b.1 b.2) kvs
def KV.mrg:∀{more:A0 (IM×V)} {a:A0 (IM×A2)} {kvs:A0 (IM×V)} {vs:A0 (IM×A2)},KV kvs vs->KV more a->KV (X0 kvs more) (merged vs a)
 | [],[],_,_,r,_=>r
 | [],_::_,_,_,_,b=>by cases b
 | _::_,[],_,_,_,b=>by cases b
 | (k,y)::m,(c,u)::n,kvs,vs,r,b=>by
  cases b with
  | cons h t =>
   obtain⟨e,d⟩:=h;have e:k=c:=e;subst e;show KV (X0 (Bf kvs k y) m) (merged (stored vs k u) n);exact KV.mrg (r.put k d) t
def S9(kvs more:A0 (IM×V)):(X0 kvs more).length<=kvs.length+more.length:=by
 induction more generalizing kvs with
 | nil=>exact VD _
 | cons a r b =>
  have c:=b (Bf kvs a.1 a.2);have d:=V3 kvs a.1 a.2;show(X0 (Bf kvs a.1 a.2) r).length<=kvs.length +(r.length+1);lia
theorem Sh:J9 X (.type "dict") (λxs H Q=>∃p kvs,xs = [.ref p]/\H p=some (.dK kvs)/\∀l,H l=none->Q (.ref l) (HX H l (.dK kvs))):=by
 intro d s σ H xs m Q I r h;obtain⟨p,kvs,rfl,f,q⟩:=h;obtain⟨u,rfl,g⟩:=X4 r;cases g;obtain⟨z,i,n,a,j⟩:=Uy I.hok f;refine kt_call_dict i j (by rw[<-a.length];exact z) λt c k=>?_;refine⟨.ref s.heap.objs.size,HX H s.heap.objs.size (.dK kvs),I.laid (t':=s.toks) (λb o e=>?_) (VD _) (Mi z (beq_eq_false_iff_ne.mpr (GO I.big)) a c),rfl,q _ I.fresh⟩;rw[k.2 b (BA (AG e))];exact AD _ e
theorem zEp{b:A0 (A3×Obj)}{σ:St}{H:Hp}{s:A4}{a o:A3}{kvs more:A0 (IM×V)}{A:IA}{E:A2->A4->Prop}{Q:A2->A4->Prop}(I:Inv X b σ H s)(i:H a=some (.dK kvs))(n:H o=some (.dK more))(p:a≠o)(j:kvs.length+more.length<=sizeLine)
  (h:∀k,Inv X b σ (HX H a (.dK (X0 kvs more))) k->Q .none k):wpAny (model X.prog X.w) A (call (.builtin "dict.update") [.ref a,.ref o]) Q E s:=by
 obtain⟨z,r,t,d,l⟩:=Uy I.hok i;obtain⟨B,e,f,c,g⟩:=Uy I.hok n;refine call_meetsIn PySem.F.slot_dict_update l.typeIs PySem.F.entry_dict_update (PySem.F.args_dict_update_2 _ _) (meets_dict_update (C8 X.prog X.w) a o p e) ⟨t,f,l,g,by rw[<-d.length,<-c.length];exact j,λu m _ v=>?_⟩;have x:∃q,u.get? a=some q:=let⟨q,_,_,y,_⟩:=m;⟨q,y⟩;exact h _ (Pu I (t':=s.toks) (by rw[i];exact VC) v x (Mi (VE (S9 ..) j) r (d.mrg c) m))
def zFk(f ty:TE):TE:=λσ H Q=>f σ H λx e=>∃a,x = .ref a/\IsD e a/\ty σ e λy d=>∃o c b,y = .ref o/\d a=some (.dK c)/\d o=some (.dK b)/\a≠o/\c.length+b.length<=sizeLine/\Q .non (HX d a (.dK (X0 c b)))
theorem Iw{o e:IB}{b c:Pos}{g ty:TE}(k:PE X o g)(l:PE X e ty)(m:M1 X o "update" b e c):PE X (.Call (.Attribute o "update" b) [e] [] c) (zFk g ty):=by
 intro f s σ H Q I h;refine wpAny_Call_method m.base m.few m.line PySem.F.plainAttrs_dict PySem.F.slot_dict_update PySem.F.type_dict_update (I7 (k f s σ H _ I h) λu n ⟨x,p,i,q,a,r,d,t⟩=>?_);subst r;obtain rfl:u=Value.ref a:=q;obtain⟨v,w,_⟩:=Xi i d;refine⟨v,w,?_⟩;rw[m.trees];refine Calls.callWith_builtin rfl (Calls.evalArgs_plain (Calls.spliced_cons (I7 (l f n σ p _ i t) λz O ⟨y,P,A,B,C,D,j,E,G,J,K,L,M⟩=>Calls.spliced_nil ?_)));subst E;obtain rfl:z=Value.ref C:=B;exact zEp A G J K L λR N=>⟨.non,_,N,rfl,M⟩
theorem Jt:bootBuiltins "dict" = some (.type "dict"):=by decide +kernel
def Lf:entryFor table "dict.update.loop" = some Builtin.«dict.update.loop»:=entryFor_of_tree (by kernel_rfl)
def Bb:plainId "dict.update.loop" = true:=by decide +kernel
section
variable{prog:HU}{w:HW}{A:IA}{E:A2->A4->Prop}{s:A4}
theorem Em{a:A3}{xs:HS A2}{k:Nat}{l:HS (A5 A2)}{name:Str}{Q:A5 A2->A4->Prop}
  (m:s.heap.get? a=some { cls:=.type "list",dict:=none,data:=.seq xs k,slots:=l }) (c:typeLookup (.type "list") name=pure none) (f:(["__module__","__name__","__qualname__","__doc__","__annotations__"]:A0 Str).contains name=false) (q:A.handled=none)
  (h:∀h' n,(∀b o,s.heap.get? b=some o->h'.get? b=some o)->Q none { s with heap:=h',toks:=n }) (hsz:name.length+100<=sizeLine) :
  wpAny (model prog w) A (getAttr? (.ref a) name) Q E s:=by
 obtain⟨r,g,d,n,os⟩:=s;have p:∀i,(⟨r,g,d,i,os⟩:A4).TypeIs (.ref a) "list":=λ_=>⟨_,m,rfl⟩;have t:=sub_AttributeError;have u:=F.slot_list_getattribute.lookup;have v:=F.slot_list_getattribute.bind (.ref a);have x:=am_list_getattr_none;unfold getAttr? getAttrBy? getAttrBy
 repeat (any_goals (first | assumption | exact p _ | ((with_reducible show wpAny _ _ (call (Value.builtin "list.__getattribute__") _ _) _ _ _);refine call_meets F.slot_list_getattribute (p _) am_entry_list_getattribute (F.args_list_getattribute_2 _ _) (meets_getattribute_miss_list a xs k l name _ c f hsz) ⟨m,q,λh' i e j=>?_⟩) | wp_step))
 obtain⟨y,z,B⟩:=j.there;show wpAny _ _ (getattributeRaised _ _ _ _ _ _ _) _ _ _;unfold getattributeRaised
 repeat (any_goals (first | assumption | wp_step))
 exact h _ _ j.keeps
end
section
variable{prog:HU}{w:HW}{A:IA}{R:Result->A4->Prop}{I:A3}{fp wr:A0 A3}{G:HS GenState->HS GenState->Prop}{n:Nat}{P:Nat->A2->Prop}{St:Nat->A4->Prop}{K:Type}[DecidableEq K]{knd:KeyKind prog w K}
theorem Qx(W:WalksS prog w A.in1 I fp wr G n P St)(D:A3)(p:D∉fp)(Z:H_)(more:A0 (K×A2))(hn:more.length=n)
  (x:∀i v,P i v->∃t o k c u m,v = .ref t/\t∉D::wr/\Z.get? t=some o/\o.cls = .type "tuple"/\o.data = .seq #[c,u] m/\more[i]?=some (k,u)/\knd.is k c=true) :
  ∀(k i:Nat) (s:A4) (kvs:A0 (K×A2)) (M:Tok),n-i=k->i<=n->St i s->(∀b o,b∉D::wr->Z.get? b=some o->s.heap.get? b=some o)->s.heap.DictOf knd D kvs->kvs.length+k<=sizeLine ->
   (∀f,Moved (D::wr) G s f->f.heap.DictOf knd D (merged kvs (more.drop i))->R (.ok (.ret .none)) f) ->
   codeAny (model prog w) A (.builtin "dict.update.loop" ⟨[.ref D,.ref I,.int (i:Int) M,.none],[]⟩) R s:=by
 have y:D∉wr:=λh=>p (W.sub _ h);have a:∀b∈wr,b∈D::wr:=λb d=>AN _ d;have B:∀{h N:H_} {kvs:A0 (K×A2)},h.DictOf knd D kvs->(∀o,h.get? D=some o->N.get? D=some o)->N.DictOf knd D kvs:=λ⟨o,es,ep,ho,r⟩ k=>⟨o,es,ep,k o ho,r⟩;intro k
 induction k with
 | zero =>
  intro i s kvs M hk hi g O Q _ S;have U:i=n:=by lia
  subst U;refine DH Lf ?_;rw[Around.under_plainId Bb _];refine AA (W.done s _ _ g λf j=>?_);have q:=S f (j.mono a);rw[<-hn,HQ]at q;show wpAny _ _ (Builtin.Dict.addKeywords D [] >>= _) _ _ _;exact AA (AE (AE (q (B Q λo=>j.heap D o y))))
 | succ k ih =>
  intro i s kvs M hk hi g O Q hz S;refine DH Lf ?_;rw[Around.under_plainId Bb _];refine AA (W.item i s _ _ (by lia) g λv f hP C j=>?_);obtain⟨t,o,kk,c,u,m,rfl,E,ht,hc,V,hx,F⟩:=x i v hP;have H:f.heap.get? t=some o:=j.heap t o (λz=>E (a _ z)) (O t o E ht);refine AA (BO (AA (wpAny_tryCatch ?_)));unfold Builtin.Dict.pairItems;refine AA (EY (T := "tuple") ⟨o,H,hc⟩ ?_);rw[AO (by decide)];refine AA (DZ H V (AE ?_));show wpAny _ _ (holding [c,u] (dictSet D c u)) _ _ _;refine BO (wpAny_dictSet_pairs F (B Q λo=>j.heap D o y) (λN d' l=>?_) (by lia));refine AE ⟨plainId_quiet Bb _,ih (i+1) _ (stored kvs kk u) _ (by lia) (by lia) (W.frame _ f _ _ C (DM _) λb d o e=>?_) (λb o d e=>?_) d' (by
   have:=stored_length_le kvs kk u;lia) λX J L=>?_⟩
  .rw[l.2 b (λh:b=D=>p (by rw[<-h];exact d))];exact e
  .rw[l.2 b (λh:b=D=>d (by rw[h];exact AZ))];exact j.heap b o (λz=>d (a _ z)) (O b o d e)
  .refine S X (Moved.trans W.gtrans ((j.mono a).then_heap (DM _) λb o d e=>?_) J) ?_
   .rw[l.2 b (λh:b=D=>d (by rw[h];exact AZ))];exact e
   .have V:more.drop i =(kk,u)::more.drop (i+1):=by
     obtain⟨Y,ex⟩:=AM.mp hx;rw[<-ex];exact DU Y
    rw[V];exact L
end
theorem Dl:∀{as:A0 A3} {its:A0 A2},IG (as.map V.ref) its->its=as.map Value.ref
 | [],_,.nil=>rfl
 | _::_,_,.cons r t=>by rw[BM,Dl t];cases r;rfl
theorem Qz{b:A0 (A3×Obj)}{σ:St}{H:Hp}{s:A4}(I:Inv X b σ H s):∀ps:A0 (A3×IM×V),(∀q∈ps,H q.1=some (.tup [kV q.2.1,q.2.2]))->∃more:A0 (IM×A2),KV (ps.map λq=>q.2) more /\
  ∀(i:Nat) (q:A3×IM×V),ps[i]?=some q->∃(o:Obj) (a u:A2) (m:Nat),s.heap.get? q.1=some o/\o.cls = .type "tuple"/\o.data = .seq #[a,u] m/\more[i]?=some (q.2.1,u)/\(C8 X.prog X.w).is q.2.1 a=true
 | [],_=>⟨[],.nil,λi q h=>by simp at h⟩
 | p::ps,h=>by
  obtain⟨more,r,d⟩:=Qz I ps λq c=>h q (AN _ c);obtain⟨_,e,f,o,g,j,n,k⟩:=(show IR X.prog X.w H s.heap p.1 (.tup [kV p.2.1,p.2.2])from I.hok _ _ (h p (AZ ..)));obtain⟨a,u,rfl,l,t⟩:=f.two;refine⟨(p.2.1,u)::more,.cons ⟨rfl,t⟩ r,λi q c=>?_⟩;cases i with
  | zero=>cases c;exact⟨o,a,u,n,g,j,by simpa using k,rfl,Ho l⟩
  | succ i=>exact d i q c
theorem Ve(hc:X.calm=true):J9 X (.type "dict") (λxs H Q=>∃(p:A3) (ps:A0 (A3×IM×V)),xs = [.ref p]/\H p=some (.lst (ps.map λq=>V.ref q.1))/\(∀q∈ps,H q.1=some (.tup [kV q.2.1,q.2.2]))/\ps.length<=1000/\∀l,H l=none->Q (.ref l) (HX H l (.dK (X0 [] (ps.map λq=>q.2))))):=by
 intro R s σ H xs us Q I r h;obtain⟨p,ps,rfl,hp,ht,hl,q⟩:=h;obtain⟨u,rfl,ru⟩:=X4 r;cases ru;obtain⟨a,G,rv,g,hz⟩:=I.lst hp;have S:a =(ps.map λq=>q.1).map Value.ref:=Dl (by rw[BW];exact rv);obtain⟨j,U,hm⟩:=Qz I ps ht;have lm:j.length=ps.length:=by rw[<-U.length,AB]
 have W:a.toArray.size=ps.length:=by rw[S];simp
 have t:p<s.heap.objs.size:=AG g;refine callType_codes (Q₁:=λx h0=>x = .ref s.heap.objs.size/\h0 ={ s with heap:=s.heap.push { cls:=.type "dict",data:=.dict #[] } }) PySem.F.kt_called_dict (PySem.F.kt_typeCall_dict_1 _) PySem.F.entry_dict_init (kt_code_dict_new _ ⟨rfl,rfl⟩) ?_;rintro x h0 ⟨rfl,rfl⟩;have c:(s.heap.push { cls:=.type "dict",data:=.dict #[] }).DictOf (C8 X.prog X.w) s.heap.objs.size []:=Heap.DictOf.new s.heap;have k:(s.heap.push { cls:=.type "dict",data:=.dict #[] }).get? p=some { cls:=.type "list",data:=.seq a.toArray G }:=AD _ g;refine⟨c.typeIs,PySem.F.args_dict_init_2 _ _,?_⟩;unfold Builtin.«dict.__init__»;refine AA ?_;unfold Builtin.Dict.selfAndRest;refine AA (wpAny_notOrdered_dict c.typeIs ?_);show wpAny _ _ (pure (s.heap.objs.size,[Value.ref p])) _ _ _;refine AE ?_;show wpAny _ _ (Builtin.Dict.updateFrom "dict.__init__" s.heap.objs.size (.ref p) [] .none) _ _ _;unfold Builtin.Dict.updateFrom;refine AA (EY (T := "list") ⟨_,k,rfl⟩ ?_);rw[AO (by decide)];have Y:X.A.in1.in1.handled=none:=I.ok.hd hc;refine AA (Em k (am_miss_of_fast (by decide +kernel)) (by decide +kernel) Y (λn tk1 J=>?_) (by decide +kernel));refine FB rfl ?_;have y:n.DictOf (C8 X.prog X.w) s.heap.objs.size []:=let⟨o,K,L,g,r⟩:=c;⟨o,K,L,J _ _ g,r⟩;have B:=J _ _ k;have d:s.heap.objs.size<n.objs.size:=let⟨_,_,_,g,_⟩:=y;AG g;have C:p≠n.objs.size:=BA (Nat.lt_trans t d);refine AA (DF (AA (FI (l:=p) (items:=a.toArray) ⟨_,B,rfl,G,rfl⟩ (AE ⟨plainId_quiet Bb _,?_⟩))));have Z:∀b o,s.heap.get? b=some o->n.get? b=some o:=λb o e=>J b o (AD _ e);refine Qx (A:=X.A.in1) (knd:=C8 X.prog X.w) ((Walks.list (A:=X.A.in1.in1) Y n.objs.size p C a.toArray).toS) s.heap.objs.size ?_ n j (lm.trans W.symm) (λi v E=>?_) _ 0 _ [] _ rfl (BP _) ⟨⟨_,AY _ rfl,rfl,rfl⟩,⟨_,AD _ B,rfl,G,rfl⟩⟩ (λb o _ e=>AD _ e) (let⟨o,K,L,g,r⟩:=y;⟨o,K,L,AD _ g,r⟩) ?_ λs' f M=>?_
 .simp only[AW,AQ,or_false,not_or];exact⟨BA d,GO t⟩
 .have E:a.toArray[i]?=some v:=E;rw[DY,S,BW,AH]at E;obtain⟨z,N,rfl⟩:=BH.mp E;obtain⟨o,O,u,m,e1,e2,e3,e4,e5⟩:=hm i z N;have D:=AG e1;refine⟨z.1,o,z.2.1,O,u,m,rfl,?_,Z _ _ e1,e2,e3,e4,e5⟩;simp only[AW,AQ,or_false,not_or];exact⟨BA D,BA (Nat.lt_trans D d)⟩
 .rw[W,sizeLine_eq];simp;lia
 .obtain⟨h',g',d',tk',P⟩:=s';have eg:g'=s.gens:=f.gens;have ed:d'=s.drawn:=f.drawn;have eo:P=s.os:=f.os;subst eg;subst ed;subst eo;refine⟨rfl,.ref s.heap.objs.size,HX H s.heap.objs.size (.dK (X0 [] (ps.map λq=>q.2))),I.laid (λb o eb=>?_) (VD _) (Mi ?_ (beq_eq_false_iff_ne.mpr (GO I.big)) (KV.mrg .nil U) M),rfl,q _ I.fresh⟩
  .have D:=AG eb;refine f.heap b o ?_ (AD _ (Z b o eb));simp only[AW,AQ,or_false,not_or];exact⟨BA D,BA (Nat.lt_trans D d)⟩
  .have:=S9 [] (ps.map λq=>q.2);rw[AB]at this;rw[sizeLine_eq];simp at this;lia
end
section
variable{prog:HU}{w:HW}{A:IA}{E:A2->A4->Prop}{s:A4}
theorem Gy{g:A3}{xs:HS A2}{fp k:A0 A3}{St:Nat->H_->Prop}(W:Walks prog w A g fp k xs.size (λi v=>xs[i]?=some v) St):∀(n i:Nat) (s:A4) (Q:A0 A2->A4->Prop),St i s.heap->i+n<=xs.size ->
  (∀h' m,St (i+n) h'->(∀b o,b∉k->s.heap.get? b=some o->h'.get? b=some o)->Q ((xs.toList.drop i).take n) { s with heap:=h',toks:=m })->wpAny (model prog w) A (draw (.ref g) n) Q E s
 | 0,i,s,Q,a,_,h=>by
  show wpAny _ _ (pure []) Q E s;exact AE (by simpa using h s.heap s.toks a λb o _ e=>e)
 | n+1,i,s,Q,a,p,h=>by
  have c:i<xs.size:=by lia
  show wpAny _ _ (pyNext (.ref g) >>= _) Q E s;refine AA (W.item i s _ _ c a λv C r t d u=>?_);have x:v=xs[i]:=by
   have:xs[i]?=some v:=t;rw[EG c]at this;exact(BT this).symm
  refine AA (BO (Gy W n (i+1) _ _ d (by lia) λy j f z=>AE ?_));have B:xs.toList.drop i=xs[i]::xs.toList.drop (i+1):=by simp[DU,c]
  have q:=h y j (by rw[show i +(n+1)=i+1+n by lia];exact f) λb o l e=>z b o l (u b o l e);rw[B,List.take_succ_cons,<-x]at q;exact q
theorem Js{l:A3}{items:HS A2}{a:A0 (Bool×(A2->Sem Unit))}{Q:Unit->A4->Prop}(q:A.handled=none)(g:s.heap.IsList l items)
  (r:a.length=items.size) (d:a.findIdx? (·.1)=none)
  (h:∀h' t,(∀b o,s.heap.get? b=some o->h'.get? b=some o)->wpAny (model prog w) A (assignInOrder (a.map (·.2)) items.toList) Q E { s with heap:=h',toks:=t }) :
  wpAny (model prog w) A (unpack (.ref l) a) Q E s:=by
 have i:l≠s.heap.objs.size:=by obtain⟨o,j,_⟩:=g;exact BA (AG j)
 have W:=Walks.list (prog:=prog) (w:=w) (A:=A) q s.heap.objs.size l i items;unfold unpack;rw[r,d];refine AA (BO ?_);unfold unpackItems;refine AA ?_;unfold notIterableAtAll;refine AA (GB g.typeIs slot_list_iter.lookup ?_);refine AE ?_;simp only[BD,CO];refine AA (BO (FI g ?_));have k:(s.heap.push { cls:=.type "list_iterator",data:=.fields #[.ref l,.int 0 0] }).IsList l items:=by
  obtain⟨o,j,u,n,v⟩:=g;exact⟨o,AD _ j,u,n,v⟩
 refine AA (BO (Gy W items.size 0 _ _ ⟨⟨_,AY _ rfl,rfl,rfl⟩,k⟩ (by lia) λD x c y=>?_));have f:List.take items.size (List.drop 0 items.toList)=items.toList:=by
  rw[EQ];exact DT (by simp)
 rw[f,AI (by simp)];refine AA (BO (W.done _ _ _ (by rw[EL]at c;exact c) λB m C=>?_));simp only[Option.isSome_none,BD,CO];refine AE (h B m λb o e=>?_);have p:b∉[s.heap.objs.size]:=λz=>absurd (AG e) (by rw[AC.mp z];exact CZ _);exact C b o p (y b o p (AD _ e))
end
section
variable{X:Cx}{pos:Pos}
def zGv(K:VA)(n:Nat)(t:QY):TG:=λv σ H Q=>∃a b,v = .ref a/\IC K H a b/\b.length=n/\t b σ H Q
theorem Yb{c:A0 IB}{k:Nat}{t:QY}{n:Nat}(g:X.calm=true)(h:SK X c t)
  (i:(assignEach c X.env).length=n:=by rfl) (d:(assignEach c X.env).findIdx? (·.1)=none:=by rfl):PG X (.Tuple c k pos) (zGv X.K n t):=by
 intro b s σ H v u Q I r e;obtain⟨a,j,l,m,o,e⟩:=e;subst l;cases r;obtain⟨p,f,q,y⟩:=I.list m;rw[assign_Tuple];refine AA (EZ (Js (I.ok.hd g) q.isList (by simp[i,<-o,f.length]) d λz w x=>?_));exact h b _ σ H j _ Q (I.kept (t':=w) x) (by simpa using f) e
variable(K:VA)
theorem pgL{a:A0 IB}{k:Nat}{t:QY}{n:Nat}(h:SK X a t)(c:X.calm=true:=by rfl)(d:(assignEach a X.env).length=n:=by rfl)(b:(assignEach a X.env).findIdx? (·.1)=none:=by rfl)(e:X.K=K:=by rfl):PG X (.Tuple a k pos) (zGv K n t):=by subst e;exact Yb c h d b
theorem Uf(a:X.calm=true:=by rfl):J9 X (.type "dict") (λxs H Q=>∃(p:A3) (ps:A0 (A3×IM×V)),xs = [.ref p]/\H p=some (.lst (ps.map λq=>V.ref q.1))/\(∀q∈ps,H q.1=some (.tup [kV q.2.1,q.2.2]))/\ps.length<=1000/\∀l,H l=none->Q (.ref l) (HX H l (.dK (X0 [] (ps.map λq=>q.2))))):=Ve a
end
section
variable{X:Cx}(K:VA)
theorem TK(a:X.K=K:=by rfl):RR X (zEl K):=by subst a;exact QS
end
section
variable{prog:HU}{w:HW}{A:IA}{E:A2->A4->Prop}{s:A4}
theorem Ug{t b:A3}{vs g:A0 A2}{Q:A2->A4->Prop}(o:IsTup s.heap t vs.toArray)(p:IsTup s.heap b g.toArray)(q:vs = [])(h:Q (.ref b) s):wpAny (model prog w) A (binaryOp .Add (.ref t) (.ref b)) Q E s:=by
 obtain⟨⟨r,u,i,v⟩,j,k,n,l⟩:=id o;obtain⟨⟨m,e,data2,f⟩,a,c,x,d⟩:=id p;simp only at k l c d;subst k l c d;exact concat_meets ⟨_,j,rfl⟩ ⟨_,a,rfl⟩ noFill_tuple_add seq_tuple_add VN VO (PySem.F.args_tuple_add_2 _ _)
  (tuple_addW0 t b vs.toArray g.toArray n x u e v f (by simp[q])) ⟨j,a,h⟩
end
section
variable{X:Cx}(K:VA)
def zFb:R2:=λx y H Q=>∃a b c d,x = .ref a/\y = .ref b/\IZ K H a c/\IZ K H b d/\d≠[]/\c.length+d.length<=sizeLine /\
 (c = []->Q (.ref b) H)/\(c≠[]->∀p,H p=none->Q (.ref p) (HX H p (.tup (c++d))))
theorem Ya(n:X.K=K:=by rfl):KH X (binaryOp .Add) (zFb K):=by
 subst n;intro d s σ H x y v u Q I e f h;obtain⟨a,b,g,o,i,j,k,l,p,q,r,t⟩:=h;by_cases c:g = []
 .subst i j c;cases e;cases f;obtain⟨w,A,B,_⟩:=I.tuple k;obtain⟨m,D,C,_⟩:=I.tuple l;exact Ug B C (A.nil_iff.mpr rfl) ⟨.ref b,H,I,rfl,r rfl⟩
 .exact Ym _ _ _ _ _ _ _ _ _ I e f ⟨a,b,g,o,i,j,k,l,c,q,λz=>absurd z p,λ_=>t c⟩
end
def XO(x C:A3)(d:A5 A3):HO:=.ext λh=>∃o a,h.get? x=some o/\o.cls = .ref C/\o.dict=d/\o.data = .fields a
def XO.ok{P:HU}{w:HW}{H:Hp}{h:H_}{x C:A3}{d:A5 A3}{o:Obj}{vs:HS A2}(e:h.get? x=some o)(a:o.cls = .ref C)(b:o.dict=d)(c:o.data = .fields vs):IR P w H h x (XO x C d) :=
 ⟨⟨o,vs,e,a,b,c⟩,⟨o,e⟩,λf g ⟨o,vs,e,r⟩ k=>⟨o,vs,k o e,r⟩⟩
def Fl(H:Hp)(n:Nat)(x:A3)(h:H_):Prop :=
 ∃o a,h.get? x=some o/\o.data = .fields a/\1<a.size/\(a[1]?=some .none\/∃T b ts,a[1]?=some (.ref T)/\T≠x/\n<=T/\H T=none/\h.get? T=some b/\b.data = .fields ts/\3<ts.size)
structure RX(P:HU)(w:HW)(base:H_)(fs:A0 QQ)(env:QQ)(outer:A0 QQ)(H0:Hp)(s0:A4)(x C:A3)(d:A5 A3)(H:Hp)(s:A4):Prop where
 os:s.os=s0.os
 bare:AllBare s.gens
 un:Un (NV fs) [] H0 H s0.heap s.heap
 hok:MX P w H s.heap
 bsz:base.objs.size<=s0.heap.objs.size
 bs:∀b o,base.get? b=some o->s.heap.get? b=some o/\H b=none
 funs:s.heap.FunFrames base (env::outer)
 frf:∀b∈NV (env::outer),H b=none
 loc:∃L,env.frame=some L
 old:∀b o,s0.heap.get? b=some o->b∉NV fs->b∉NV (env::outer)
 sub:∀b∈NV fs,b∈NV (env::outer)
 hx:H x=some (XO x C d)
 nx:s0.heap.objs.size<=x
 fl:Fl H s0.heap.objs.size x s.heap
section
variable{P:HU}{w:HW}{base:H_}{env:QQ}{fs outer:A0 QQ}{H0 H:Hp}{s0 s:A4}{x C:A3}{d:A5 A3}{h':H_}
theorem RX.chg(r:RX P w base fs env outer H0 s0 x C d H s){TT:A0 A3}(tt:∀T∈TT,H T=none/\s0.heap.objs.size<=T/\∃o ts,s.heap.get? T=some o/\o.data = .fields ts)
  (a:∀b o,b≠x->b∉TT->b∉NV (env::outer)->s.heap.get? b=some o->h'.get? b=some o)
  (f:∀b o,b∈NV (env::outer)->s.heap.get? b=some o->∃B,h'.get? b=some { o with slots:=B })
  (N:∀T∈TT,∃o,h'.get? T=some o) (D:∀o,s.heap.get? x=some o->∃vs,h'.get? x=some { o with data:=.fields vs }) (O:Fl H s0.heap.objs.size x h') :
  RX P w base fs env outer H0 s0 x C d H { s with heap:=h' }:=by
 obtain⟨Q,V,L,E,F,G⟩:∃o vs,s.heap.get? x=some o/\o.cls = .ref C/\o.dict=d/\o.data = .fields vs:=(r.hok x _ r.hx).1;obtain⟨R,l⟩:=D Q L;have S:∀b,b∈NV (env::outer)->b≠x:=λb g z=>by
  have:=r.frf b g;rw[z,r.hx]at this;cases this
 have U:∀b,b∈NV (env::outer)->b∉TT:=λb g z=>by
  obtain⟨_,o,I,i⟩:=r.funs.mem g;obtain⟨_,_,m,ts,h,j⟩:=tt b z;rw[I]at h;cases h;exact i ts j
 have p:∀b o,s0.heap.get? b=some o->b≠x/\b∉TT:=λb o e=>⟨λz=>absurd (AG e) (by rw[z];exact Nat.not_lt.mpr r.nx),λz=>absurd (AG e) (Nat.not_lt.mpr (tt b z).2.1)⟩;have k:∀b o,s.heap.get? b=some o->∃m,h'.get? b=some m:=λb o e=>by
  by_cases t:b=x
  .rw[t];exact⟨_,l⟩
  by_cases v:b∈TT
  .exact N b v
  by_cases y:b∈NV (env::outer)
  .obtain⟨B,q⟩:=f b o y e;exact⟨_,q⟩
  .exact⟨_,a b o t v y e⟩
 have R_:∀b u,H b=some u->b≠x->∀o,s.heap.get? b=some o->h'.get? b=some o:=λb u e c o I =>
  a b o c (λz=>by rw[(tt b z).1]at e;cases e) (λz=>by rw[r.frf b z]at e;cases e) I
 refine⟨r.os,r.bare,⟨λb o e n g A=>?_,λb o e n g A=>?_,r.un.free,λb o e A=>?_,r.un.tups,r.un.frzs,r.un.tbls⟩,λb u e=>?_,r.bsz,λb o e=>?_,?_,r.frf,r.loc,r.old,r.sub,r.hx,r.nx,O⟩
 .exact a b o (p b o e).1 (p b o e).2 (r.old b o e g) (r.un.keep b o e n g A)
 .obtain⟨B,q⟩:=r.un.slot b o e n g A;obtain⟨J,K⟩:=f b _ (r.sub b g) q;exact⟨J,K⟩
 .obtain⟨m,q⟩:=r.un.there b o e A;exact k b m q
 .by_cases c:b=x
  .subst c;rw[r.hx]at e;cases e;exact XO.ok l E F rfl
  .refine(r.hok b u e).stay (λM o g q=>?_) (λ_ q=>q) λ_ _ q=>q;rcases g with z | z
   .subst z;exact R_ M u e c o q
   .refine R_ M _ z (λK=>?_) o q;rw[K,r.hx]at z;cases z
 .refine⟨a b o (λz=>?_) (λz=>?_) (λz=>?_) (r.bs b o e).1,(r.bs b o e).2⟩
  .have:=(r.bs b o e).2;rw[z,r.hx]at this;cases this
  .exact absurd (AG e) (Nat.not_lt.mpr (VE r.bsz (tt b z).2.1))
  .have:=(r.funs.mem z).1;rw[e]at this;cases this
 .refine r.funs.of_keeps λb o e i=>?_;by_cases t:b=x
  .subst t;rw[L]at e;cases e;exact absurd G (i _)
  by_cases v:b∈TT
  .obtain⟨_,_,m,ts,h,j⟩:=tt b v;rw[e]at h;cases h;exact absurd j (i _)
  by_cases y:b∈NV (env::outer)
  .obtain⟨B,q⟩:=f b o y e;exact⟨_,q,rfl⟩
  .exact⟨o,a b o t v y e,rfl⟩
def Tb(H:Hp)(n:Nat)(x:A3)(h:H_):Prop :=
 ∃o a T b ts,h.get? x=some o/\o.data = .fields a/\a[1]?=some (.ref T)/\T≠x/\n<=T/\H T=none/\h.get? T=some b/\b.data = .fields ts/\3<ts.size
theorem Tb.fl{H:Hp}{n:Nat}{x:A3}{h:H_}(t:Tb H n x h):Fl H n x h:=by
 obtain⟨o,b,T,c,ts,e,d,a,r⟩:=t;exact⟨o,b,e,d,(CS.mp a).1,.inr ⟨T,c,ts,a,r⟩⟩
theorem zHg{o:Obj}{vs:HS A2}(f:HS A2->HS A2)(e:o.data = .fields vs):Obj.mapFields f o ={ o with data:=.fields (f vs) }:=by
 obtain⟨a,b,c,d⟩:=o;have e:c = .fields vs:=e;subst e;rfl
section
variable{M:Model}{A:IA}{E:A2->A4->Prop}{Q:Unit->A4->Prop}
theorem RX.entry(r:RX P w base fs env outer H0 s0 x C d H s)(n:A.frames=some (env::outer)){L:A3}(B:env.frame=some L){e:A2}{f:Bool}
  (h:∀h',RX P w base fs env outer H0 s0 x C d H { s with heap:=h' }->Tb H s0.heap.objs.size x h'->Q () { s with heap:=h' }) :
  wpAny M A (do let a <-frameOf env;let pl <-entryPlaceOf L f;let b <-EntryCells.newEntry e a .none (rawInt L) .none pl;setField (.ref x) 1 b) Q E s:=by
 obtain⟨o,J,c,p,g,_⟩:=id r.fl;have i:∀b,b∈NV (env::outer)->b≠x:=λb j z=>by
  have:=r.frf b j;rw[z,r.hx]at this;cases this
 refine AA (wpAny_frameOf_fun n r.funs B λq0 m₁=>?_);refine AA (wpAny_entryPlaceOf λpl t=>?_);unfold EntryCells.newEntry newFields;refine AA (BU ?_ (t.sizeOk5 _ _ _ _ _));have r3:q0.get? x=some o:=(m₁.2.1 x λD=>i x D rfl).trans c;have k:3 <([e,Value.ref L,.none,rawInt L,.none] ++(if pl.isEmpty then List.replicate 6 Value.none else pl)).toArray.size:=by
  simp only[AR,AS,BQ,List.length_nil];lia
 generalize ([e,Value.ref L,.none,rawInt L,.none] ++(if pl.isEmpty then List.replicate 6 Value.none else pl)).toArray=ts at k;have c₂:=AD (h:=q0) { cls:=.type "traceback",dict:=none,data:=.fields ts } r3;have l:q0.objs.size≠x:=GO (AG r3);have F₃:=(BG (q0.push { cls:=.type "traceback",dict:=none,data:=.fields ts }) (Obj.mapFields (·.setIfInBounds 1 (Value.ref q0.objs.size))) (Ne.symm l)).trans (AY q0 rfl);have c₃:=BZ (Obj.mapFields (·.setIfInBounds 1 (Value.ref q0.objs.size))) c₂ (Obj.isFreed_of_fields (Obj.data_mapFields p _));rw[zHg _ p]at c₃;have y:Tb H s0.heap.objs.size x ((q0.push { cls:=.type "traceback",dict:=none,data:=.fields ts }).update x (Obj.mapFields (·.setIfInBounds 1 (Value.ref q0.objs.size)))) :=
  ⟨_,_,q0.objs.size,_,ts,c₃,rfl,by simp[g],l,VE r.nx (DQ (AG r3)),r.hok.fresh (by rw[m₁.1];exact VD _),F₃,rfl,k⟩
 refine EB c₂ p g (h _ (r.chg (TT:=[]) (λ_ z=>nomatch z) (λb u j _ v q=>?_) (λb u j q=>?_) (λ_ z=>nomatch z) (λu q=>?_) y.fl) y)
 .rw[BG _ _ (Ne.symm j)];exact AD _ ((m₁.2.1 b v).trans q)
 .obtain⟨G,I⟩:=m₁.2.2 b u q;refine⟨G,?_⟩;rw[BG _ _ (Ne.symm (i b j))];exact AD _ I
 .rw[c]at q;cases q;exact⟨_,c₃⟩
theorem RX.setT(r:RX P w base fs env outer H0 s0 x C d H s){o k:Obj}{vs ts:HS A2}{T:A3}{v:A2}(l:s.heap.get? x=some o)(m:o.data = .fields vs)(h1:vs[1]?=some (.ref T))(n:T≠x)(p:s0.heap.objs.size<=T)(t:H T=none)(e:s.heap.get? T=some k)(a:k.data = .fields ts)(u:3<ts.size)
  (h:∀h',RX P w base fs env outer H0 s0 x C d H { s with heap:=h' }->Tb H s0.heap.objs.size x h'->Q () { s with heap:=h' }):wpAny M A (setField (.ref T) 3 v) Q E s:=by
 have c:=(BG s.heap (Obj.mapFields (·.setIfInBounds 3 v)) n).trans l;have f:=BZ (Obj.mapFields (·.setIfInBounds 3 v)) e (Obj.isFreed_of_fields (Obj.data_mapFields a _));have y:Tb H s0.heap.objs.size x (s.heap.update T (Obj.mapFields (·.setIfInBounds 3 v))):=⟨o,vs,T,_,_,c,m,h1,n,p,t,f,Obj.data_mapFields a _,by simpa using u⟩;refine EB e a u (h _ (r.chg (TT:=[T]) (λb z=>?_) (λb g B i _ q=>?_) (λb g B q=>?_) (λb z=>?_) (λg q=>?_) y.fl) y)
 .rw[AC.mp z];exact⟨t,p,_,_,e,a⟩
 .rw[BG _ _ (λz=>i (by rw[z];exact AC.mpr rfl))];exact q
 .refine⟨g.slots,?_⟩;rw[BG _ _ (λz=>by
   obtain⟨_,F,D,j⟩:=r.funs.mem B;rw[<-z,e]at D;cases D;exact j _ a)]
  exact q
 .rw[AC.mp z];exact⟨_,f⟩
 .rw[l]at q;cases q;exact⟨vs,by rw[c,<-m]⟩
theorem RX.note(r:RX P w base fs env outer H0 s0 x C d H s)(b:A.frames=some (env::outer))
  (h:∀h',RX P w base fs env outer H0 s0 x C d H { s with heap:=h' }->Tb H s0.heap.objs.size x h'->Q () { s with heap:=h' }):wpAny M A (noteFrame (.ref x) env) Q E s:=by
 obtain⟨L,j⟩:=r.loc;obtain⟨o,p,g,i,q,c⟩:=id r.fl;unfold noteFrame;simp only[j];rcases c with f | ⟨T,t,ts,f,l,m,n,e,a,k⟩
 .refine AA (CF g i f ?_);rw[AI (by decide)];exact r.entry b j h
 .refine AA (CF g i f ?_);rw[AO (show(Value.ref T != Value.none)=true from by simp)];refine AA (CF e a (EG k) ?_);split
  .exact AE (h s.heap r ⟨o,p,T,t,ts,g,i,f,l,m,n,e,a,k⟩)
  .refine AA (r.setT g i f l m n e a k λh' u _=>?_);exact u.entry b j h
theorem RX.flight(r:RX P w base fs env outer H0 s0 x C d H s){i:A5 A3}
  (h:∀h',RX P w base fs env outer H0 s0 x C d H { s with heap:=h' }->(Tb H s0.heap.objs.size x s.heap->Tb H s0.heap.objs.size x h')->Q () { s with heap:=h' }):wpAny M A (setFlight (.ref x) i) Q E s:=by
 obtain⟨o,t,b,f,j,c⟩:=id r.fl;unfold setFlight;rcases c with a | ⟨T,u,ts,a,k,l,m,e,g,n⟩
 .refine AA (CF b f a ?_);rw[AI (by decide)];exact AE (h s.heap r id)
 .refine AA (CF b f a ?_);rw[AO (show(Value.ref T != Value.none)=true from by simp)];exact r.setT b f a k l m e g n λh' p q=>h h' p λ_=>q
end
end
def RU(P:HU)(w:HW):QR:=λa H s E e b =>
 ∃x C d c,e = .ref x/\b.os=s.os/\AllBare b.gens/\Un (NV a) [] H c s.heap b.heap/\MX P w c b.heap/\c x=some (XO x C d)/\s.heap.objs.size<=x/\Tb c s.heap.objs.size x b.heap/\E (.ref C) d c
structure XC(K:VA)(C:A3)(bm:A0 A2):Prop where
 obj:∃nm q N bs hdct sn sub ab col dd k0 k1 k2 k3 k5,K.lookup C=some (excClassObj nm q C N bs bm hdct sn sub ab col dd k0 k1 k2 k3 k5 "ValueError.__new__")
 tail:PySem.W.tailIn K [.type "ValueError",.type "Exception",.type "BaseException",.type "object"] bm=true
 kp:PySem.W.keepIn K (.ref C)=true
 sa:PySem.W.findIn K (.ref C) "__setattr__" = some (some (.builtin "object.__setattr__"))
 hd:PySem.W.hasDictIn K C=true
def XC.base{K:VA}{C:A3}{a:A0 A2}(c:XC K C a){h:H_}(X:K.In h):a.contains (.type "BaseException")=true:=(PySem.W.tail_of_in X c.tail).hasType rfl
def PEx(X:Cx)(e:IB)(t:XK->TE):Prop:=∀(a:A0 (A3×Obj)) (s:A4) (σ:St) (H:Hp) (Q:VK) (E:XK),Inv X a σ H s->t E σ H Q ->
 wpAny (model X.prog X.w) X.A (eval e X.env) (EP X a σ Q) (λd f=>∃b c,Inv X a σ c b/\RU X.prog X.w X.stack c b E d f) s
section
variable{X:Cx}{pins:A0 (A3×Obj)}{σ:St}{H:Hp}{s:A4}
theorem r8{M:Model}{A:IA}{E:A2->A4->Prop}{i:Nat}{x:Str}{B:Pos}{Q:Unit->A4->Prop}(I:Inv X pins σ H s)(P:X.N.Nodup)(hi:X.N[i]?=some x)(f:X.env.scope.names.lookup x=some .local)
  (h:∀G,Inv X pins (σ.set i none) H G->Q () G):wpAny M A (do bindName X.env x .none;unbindBehindTheSuite X.env x B) Q E s:=by
 obtain⟨m,J,R⟩:=id I.loc;have t:(X.env.scope.kind == .class||(X.env.scope.kind == .module&&X.env.locals != X.env.globals))=false:=by rw[I.ok.kind];rfl
 have u:=I.cne;refine wpAny_nameGoes_keeps f J t λS v C g=>?_;obtain⟨oL,_,_,T,_⟩:=id J;have D:∀b o,X.s₀.heap.get? b=some o->b≠X.env.locals:=λb o e=>BA (BI (AG e) I.ok.above);have a:MX X.prog X.w H S:=λb U e=>by
  refine(I.hok b U e).stay (λc K hc q=>(g.2 c ?_).trans q) (λ_ q=>q) λ_ _ q=>q;rintro rfl;rcases hc with rfl | hc
  .rw[I.free]at e;cases e
  .rw[I.free]at hc;cases hc
 refine h _ ⟨I.ok,I.os,I.bare,⟨λb o e n F f=>?_,λb o e n F f=>?_,I.base.free,λb o e f=>?_,I.base.tups,I.base.frzs,I.base.tbls⟩,⟨_,C,λj y V l r W=>?_⟩,λy c e=>?_,I.free,I.freeC,λp Y=>?_,a,by simpa using I.len⟩
 .exact(g.2 b (D b o e)).trans (I.base.keep b o e n F f)
 .obtain⟨Z,l⟩:=I.base.slot b o e n F f;exact⟨Z,(g.2 b (D b o e)).trans l⟩
 .obtain⟨o',l⟩:=I.base.there b o e f;exact⟨o',(g.2 b (D b o e)).trans l⟩
 .have L:j≠i:=λz=>by
   rw[z,List.getElem?_set]at r;split at r
   .split at r<;>cases r
   .rename_i q;exact q rfl
  rw[GM (Ne.symm L)]at r;obtain⟨u',r',q⟩:=R j y V l r W;refine⟨u',r',?_⟩;rcases q with⟨k,e⟩ | ⟨k,c,e,z⟩
  .refine .inl ⟨k,?_⟩;have:y≠x:=λe=>L (Eh P l (e▸hi));simp[this,e]
  .exact .inr ⟨k,c,e,z.sameBut g (u y c e)⟩
 .obtain⟨K,z⟩:=I.cell y c e;exact⟨K,z.sameBut g (u y c e)⟩
 .obtain⟨e,n,O,nf,d⟩:=I.pin p Y;exact⟨(g.2 p.1 O).trans e,n,O,nf,d⟩
end
section
variable{M:Model}{A:IA}{E:A2->A4->Prop}{h:H_}{g:HS GenState}{dn:Drawn}{tk:Nat}{os:OsState}
variable{nm q nm' q':Str}{C N S N':A3}{bs bm bs' bm':A0 A2}{hdct hdct':Bool}{sn sn':A0 Str}{sub sub':A0 A2}{ab ab':Bool}{col col':A5 Bool}{dd dd':A5 A3}{k0 k1 k2 k3 k5 j0 j1 j2 j3 j5:A5 A2}{newId newId':String}
theorem zHa{e:A3}{c:Obj}{Q:Bool->A4->Prop}(d:h.get? C=some (excClassObj nm q C N bs bm hdct sn sub ab col dd k0 k1 k2 k3 k5 newId))(i:h.get? S=some (excClassObj nm' q' S N' bs' bm' hdct' sn' sub' ab' col' dd' j0 j1 j2 j3 j5 newId'))(j:h.get? e=some c)(a:c.cls = .ref C)
  (k:bm'.contains (.type "BaseException")=true) (l:(Value.ref C::bm).contains (.ref S)=true) (m:Q true ⟨h,g,dn,tk,os⟩):wpAny M A (excMatches (.ref e) (.ref S)) Q E ⟨h,g,dn,tk,os⟩:=by
 have b:(Value.ref S::bm').contains (.type "BaseException")=true:=by rw[List.contains_cons,k,Bool.or_true]
 have f:=tc_notTuple;unfold excMatches
 repeat (first | (with_reducible refine wpAny_loadPart_at j ?_;rw[a]) | with_reducible refine wpAny_loadPart_at i ?_ | with_reducible refine wpAny_loadPart_at d ?_ | (with_reducible refine wpAny_isSubtype_exc i ?_;rw[b]) | (with_reducible refine wpAny_isSubtype_exc d ?_;rw[l]) | wp_step)
 exact m
end
abbrev Xm(X:Cx)(a:A2):Cx:={ X with A:=X.A.mark (some a),calm:=false }
section
variable{X:Cx}{pins:A0 (A3×Obj)}{σ:St}{H:Hp}{s:A4}{ev:A2}
theorem Inv.mark(I:Inv X pins σ H s)(ev:A2):Inv (Xm X ev) pins σ H s :=
 ⟨⟨I.ok.mod,I.ok.kind,I.ok.glob,I.ok.blt,I.ok.above,I.ok.inj,I.ok.has,I.ok.cab,λz=>absurd z (by simp),I.ok.frames,I.ok.stk,I.ok.exf,I.ok.bs,I.ok.bsz,I.ok.noex,I.ok.exfs,I.ok.funs,I.ok.frf⟩,I.os,I.bare,I.base,I.loc,I.cell,I.free,I.freeC,I.pin,I.hok,I.len⟩
theorem Inv.unmark(a:X.Ok)(I:Inv (Xm X ev) pins σ H s):Inv X pins σ H s:=⟨a,I.os,I.bare,I.base,I.loc,I.cell,I.free,I.freeC,I.pin,I.hok,I.len⟩
end
def Dh(i:Nat)(D:Ends):Ends:={ nx:=λσ H=>D.nx (σ.set i none) H,rt:=D.rt,bk:=λσ H=>D.bk (σ.set i none) H,ct:=λσ H=>D.ct (σ.set i none) H }
structure XG(K:VA)(C:A3):Prop where
 ga:PySem.W.findIn K (.ref C) "__getattribute__" = some (some (.builtin "BaseException.__getattribute__"))
 gn:PySem.W.findIn K (.ref C) "__getattr__" = some none
 mb:PySem.W.mroIn K C (.type "BaseException")=some true
 hd:PySem.W.hasDictIn K C=true
def NA{K:VA}{e q:Str}{C N:A3}{bs b:A0 A2}{a:Bool}{f:A0 Str}{sub:A0 A2}{g:Bool}{c:A5 Bool}{h:A5 A3}{i j m n o:A5 A2}
  (l:K.lookup C=some (excClassObj e q C N bs b a f sub g c h i j m n o "ValueError.__new__")) (t:PySem.W.tailIn K [.type "ValueError",.type "Exception",.type "BaseException",.type "object"] b=true) (k:PySem.W.keepIn K (.ref C)=true)
  (s:PySem.W.findIn K (.ref C) "__setattr__" = some (some (.builtin "object.__setattr__"))) (d:PySem.W.hasDictIn K C=true):XC K C b:=⟨⟨_,_,_,_,_,_,_,_,_,_,_,_,_,_,_,l⟩,t,k,s,d⟩
section
variable{X:Cx}{k:Nat}{f C:A3}{fd:IT}{ps:A0 Str}{sp:Sp}{x m:Str}{p pos apos:Pos}{e o:IB}{es:A0 IB}{ta:TE}{t:TA}
theorem Zr{a:A0 (A3×Obj)}{σ:St}{H:Hp}{s:A4}{Q:VK}{E:XK}{us:A0 A2}{vs:A0 V}(F:II X.prog X.w X.K X.mg X.base (RU X.prog X.w) k f fd ps sp)(j:JT k X.A)(l:Binds X.K fd ps [])
  (I:Inv X a σ H s) (r:IG vs us) (h:sp vs H Q E):wpAny (model X.prog X.w) X.A (call (.ref f) us) (EP X a σ Q) (λm c=>∃d g,Inv X a σ g d/\RU X.prog X.w X.stack g d E m c) s:=by
 have n:us.length=ps.length:=by rw[<-r.length];exact F.len _ _ _ _ h
 have i:=l s us I.kIn (by rw[CC];exact n);rw[CC]at i;refine wpAny_call (FJ (F.run X.A X.stack s H ⟨us,[]⟩ us vs Q E j I.env0 i r h) λr c b=>?_);cases r with
 | error e=>exact⟨_,_,I,b⟩
 | ok o =>
  cases o with
  | ret u=>exact I.after b
  | next=>exact VB b
  | brk=>exact VB b
  | cont=>exact VB b
theorem Bc{pl:Sem Bool}(d:∀e s,¬X.xe e s)(y:PE X o ta)(c:QO X.K C)(j:QG X.K C m f)(F:II X.prog X.w X.K X.mg X.base (RU X.prog X.w) k f fd ps sp)(B:JT k X.A)(D:Binds X.K fd ps [])(G:PA X (e::es) t)
  (g:starEach (e::es) X.env =(false,eval e X.env)::starEach es X.env:=by rfl) (i:(backTo pos (starEach es X.env)).any (·.1)=false:=by rfl)
  (J:eval (.Call (.Attribute o m apos) (e::es) [] pos) X.env =(do
   let n <-eval o X.env
   standAt apos.atName
   let(f,first) <-holding [n] (getMethod n m pl)
   callWith pos f first (backTo pos (starEach (e::es) X.env)) (backToKw pos (keywordEach [] X.env))):=by rfl) :
  PEx X (.Call (.Attribute o m apos) (e::es) [] pos) (λE=>Ye C m sp [] E ta t):=by
 intro b s σ H Q E I h;refine PySem.W.methodCall_KW (pl:=pl) (B_ (y b s σ H _ I h) (λu L ⟨x,M,p,N,a,S,T,O,P,l,q⟩=>?_) λ_ _ z=>(d _ _ z).elim) J;subst O;obtain rfl:u=Value.ref a:=N;refine t8 p P c j l ?_;refine PySem.W.callWith_K (first:=[.ref a]) (h₀:=X.base) I.ok.mod.kin j.kp (B_ (G pos b L σ M _ p q) (λus U ⟨vs,Y,v,r,R⟩=>⟨v.kIn,?_⟩) λ_ _ z=>(d _ _ z).elim) g i;refine Zr (us:=.ref a::us) (vs:=.ref a::vs) F B D v (.cons rfl r) ?_;rw[<-CC (V.ref a::vs)];exact R
end
def TM(X:Cx)(st:A0 IK)(t:XK->TS):Prop:=∀(a:A0 (A3×Obj)) (s:A4) (σ:St) (H:Hp) (D:Ends) (E:XK),Inv X a σ H s->t E D σ H ->
 wpAny (model X.prog X.w) X.A (execs st X.env) (SP X a D) (λd e=>∃b c,Inv X a σ c b/\RU X.prog X.w X.stack c b E d e) s
section
variable{X:Cx}{c e:IB}{pos p1:Pos}{a b:A0 IK}
theorem Ti{k:TT}{t u:XK->TS}(j:∀e s,¬X.xe e s)(p:PT X c k)(q:TM X a t)(r:TM X b u):TM X [.If c a b pos] (λE=>zGp k (t E) (u E)):=by
 intro f s σ H D E I h;refine HM (wpAny_If (B_ (p f s σ H _ I h) (λd l ⟨m,n,o⟩=>?_) λ_ _ z=>(j _ _ z).elim));have v:∀g i,SP X f D g i->_:=λg i z=>z;cases d with
 | true =>
  refine B_ (q f l σ m D E n o) (λg w z=>?_) λx i z=>?_
  .cases g with
   | next=>exact EV z
   | brk=>exact z
   | cont=>exact z
   | ret u=>exact z
  .exact z
 | false =>
  refine B_ (r f l σ m D E n o) (λg w z=>?_) λx i z=>?_
  .cases g with
   | next=>exact EV z
   | brk=>exact z
   | cont=>exact z
   | ret u=>exact z
  .exact z
end
def zEn(K:VA)(S:A3)(i:Nat)(t:XK->TS)(c:TS):TS:=λD σ H =>
 t (λe d a=>∃C b,e = .ref C/\XC K C b/\(Value.ref C::b).contains (.ref S)=true/\∀x,a x=some (XO x C d)->c (Dh i D) (σ.set i (some (.ref x))) a) D σ H
def Yq{X:Cx}{S:A3}{T:A0 A2}{i:Nat}{n c:Str}{cp hp U:Pos}{b₀:IK}{P j:A0 IK}{t:XK->TS}{th:TS}(V:∀e s,¬X.xe e s)(st:X.stack=X.env::X.outer)(fr:X.env.frame=some X.env.locals)(E:X.N.Nodup)(hi:X.N[i]?=some n)(a:X.env.scope.names.lookup n=some .local)
  (hg:Gl X c) (hm:X.mg c=some (.ref S)) (cS:XC X.K S T) (he:TM X P t) (hh:∀ev,QE (Xm X ev) (b₀::j) th) (W:(c ==("__debug__":Str))=false:=by decide) :
  PS X (.Try P [.ExceptHandler (some (.Name c cp)) (some n) (b₀::j) hp] [] [] U) (zEn X.K S i t th):=by
 intro g s σ H D I h;refine wpAny_Try_except ?_;refine B_ (he g s σ H _ _ I h) (λfl s1 z=>?_) λev s' z=>?_
 .cases fl with
  | next=>exact EV z
  | brk=>exact z
  | cont=>exact z
  | ret u=>exact z
 obtain⟨s1,H1,F,x,C,d,G,rfl,os,k,un,J,hx,nx,P,C',bm,ec,cC,L,q⟩:=z;cases ec;have Y:Inv X g σ G s':=F.call' os un J k (λb z=>absurd z (by simp));have r:RX X.prog X.w X.base X.stack X.env X.outer H1 s1 x C d G s':=⟨os,k,un,J,VE F.ok.bsz F.sz,Y.bs,by have:=Y.stack;rw[st]at this;exact this,by have:=Y.stkFree;rw[st]at this;exact this,⟨_,fr⟩,λb o _ M=>by rw[st]at M;exact M,λb M=>by rw[st]at M;exact M,hx,nx,P.fl⟩;have Z:X.A.frames=some (X.env::X.outer):=by rw[I.ok.frames,st]
 refine r.note Z λh' r' t'=>r'.flight λh2 l _=>?_;have Q:Inv X g σ G { s' with heap:=h2 }:=F.call' l.os l.un l.hok l.bare (λb z=>absurd z (by simp));refine wpAny_handleBy_cons (codeAny_handlers_test ?_) (by intro q;cases q);refine Fm (Q.mark (.ref x)) hg hm ?_ W;obtain⟨nm,q1,N,bs,hdct,sn,sub,ab,col,dd,k0,k1,k2,k3,k5,O⟩:=cC.obj;obtain⟨nm',q1',N',bs',hdct',sn',sub',ab',col',dd',j0,j1,j2,j3,j5,m⟩:=cS.obj;obtain⟨ox,vx,ex,hcx,_⟩:∃o vs,h2.get? x=some o/\o.cls = .ref C/\o.dict=d/\o.data = .fields vs:=(l.hok x _ l.hx).1;refine zHa (Q.kIn _ _ O) (Q.kIn _ _ m) ex hcx (cS.base Q.kIn) L ?_;refine codeAny_handlers_suite_as (l.flight λh4 R _=>?_);have I4:Inv X g σ G { s' with heap:=h4 }:=F.call' R.os R.un R.hok R.bare (λb z=>absurd z (by simp));refine U6 I4 E hi (.inl a) (v:=.ref x) rfl (λs5 I5=>?_) (.inr a);refine B_ (hh (.ref x) g s5 _ G (Dh i D) (I5.mark _) (q x hx)) (λf s6 z=>?_) λ_ _ z=>(V _ _ z).elim;cases f with
 | next =>
  obtain⟨σ',H6,p,y⟩:=z;exact r8 (p.unmark I.ok) E hi a λs7 B=>⟨_,_,B,y⟩
 | brk =>
  obtain⟨σ',H6,p,y⟩:=z;exact r8 (p.unmark I.ok) E hi a λs7 B=>⟨_,_,B,y⟩
 | cont =>
  obtain⟨σ',H6,p,y⟩:=z;exact r8 (p.unmark I.ok) E hi a λs7 B=>⟨_,_,B,y⟩
 | ret u =>
  obtain⟨v,σ',H6,p,r6,y⟩:=z;exact r8 (p.unmark I.ok) E hi a λs7 B=>⟨v,_,_,B,r6,y⟩
def KV.atV{kvs:A0 (IM×V)}{vs:A0 (IM×A2)}(h:KV kvs vs):∀{i:Nat} {k:IM} {v:V},kvs[i]?=some (k,v)->∃u,vs[i]?=some (k,u)/\RelV v u:=by
 induction h with
 | nil=>intro i k v e;rw[List.getElem?_nil]at e;cases e
 | cons r _ c =>
  intro i k v e;cases i with
  | zero =>
   rw[List.getElem?_cons_zero]at e⊢;cases e;obtain⟨a,b⟩:=r;exact⟨_,by rw[show k=_ from a],b⟩
  | succ i=>exact c e
section
variable{X:Cx}{i:Nat}{x:Str}{e:IB}{pos pos':Pos}
theorem Fa{t:XK->TE}(b:X.N.Nodup)(hi:X.N[i]?=some x)(c:Loc X.env.scope x)(d:PEx X e t)(f:swapsWith e (some (.Name x pos')) pos.line X.env=pure false:=by rfl)(g:X.fn x=true\/X.env.scope.names.lookup x=some .local:=by first | exact .inl rfl | exact .inr rfl | assumption) :
  TM X [.Assign [.Name x pos'] e pos] (λE=>SO (t E) (P5 i)):=by
 intro a s σ H D E I h;refine HM (wpAny_Assign_Name (B_ (d a s σ H _ E I h) (λv o ⟨y,j,k,l,m⟩=>?_) λ_ _ z=>z) f);exact U6 k b hi c l (λp n=>EV ⟨_,j,n,m⟩) g
end
end L2
namespace TS
open PySem
section
variable{prog:HU}{w:HW}{K:Type}[DecidableEq K]{knd:KeyKind prog w K}{A:IA}{E:A2->A4->Prop}{s:A4}
theorem Sr{d:A3}{kvs:A0 (K×A2)}{Q:Bool->A4->Prop}(e:s.heap.DictOf knd d kvs)(h:Q false s):wpAny (model prog w) A (Builtin.List.listLengthHint (.ref d)) Q E s:=by
 unfold Builtin.List.listLengthHint;refine AA (GB e.typeIs F.slot_dict_len.lookup ?_);generalize c:("dict.__len__":String)=f;wp_delta;rw[show splitId f=some ("dict", "__len__")from by subst c;decide +kernel];subst c;refine AA (FP (T := "dict") (b:=true) e.typeIs (by rw[isSubtype_type];kernel_rfl) ?_);refine wpAny_ite_split (λa=>absurd a (by decide)) (λ_=>?_);refine wpAny_ite_split (λ_=>?_) (λa=>absurd (by decide +kernel) a);refine AA (EY (T := "dict") e.typeIs ?_);exact AE h
def zAj(knd:KeyKind prog w K)(kvs:A0 (K×A2))(i:Nat)(v:A2):Prop:=∃k x,kvs[i]?=some (k,x)/\knd.is k v=true
theorem Kb{R:Result->A4->Prop}{d:A3}{kvs:A0 (K×A2)}{ep:Nat}(I:A.handled=none)(J:(d == sysModules)=false)(i:s.heap.DictAt knd d kvs ep)(D:kvs.length<=2^24)(S:A3)(res:A2)(c₀:Nat)(a:s.heap.get? S=some { cls:=.type "list",data:=.seq #[] c₀ })
  (L:∀h' u g n,(∀b o,b≠S->s.heap.get? b=some o->h'.get? b=some o)->h'.get? S=some { cls:=.type "list",dict:=none,data:=.seq g n,slots:=#[] } ->
   ItemsOf (zAj knd kvs) g kvs.length->R (.ok (.ret res)) { s with heap:=h',toks:=u }) :
  wpAny (model prog w) A.in1 (Builtin.List.listExtendWith (.ref S) (.ref d) res)
   (λfin l=>match fin with | .done f=>R (.ok f) l | .again n=>n.quiet=true/\codeAny (model prog w) A n R l) (λe l=>R (.error e) l) s:=by
 have E:=i.dictOf.typeIs;obtain⟨X,Y,v,M,_⟩:=id i;have j:S≠d:=λe=>by
  obtain⟨Z,G,N⟩:=E;rw[<-e,a]at G;cases G;exact absurd N (by intro z;injection z with z;revert z;decide)
 have x:d<s.heap.objs.size:=AG v;have p:S<s.heap.objs.size:=AG a;have m:S≠s.heap.objs.size:=BA p;have y:S∉[s.heap.objs.size,d]:=λi=>by
  rcases AW.mp i with e | e
  .exact m e
  .exact j (AC.mp e)
 have W:=(Walks.dictKeys (prog:=prog) (w:=w) (A:=A.in1) (knd:=knd) I s.heap.objs.size d (BA x) kvs ep).toS;have q:∀(h:H_) (r3 u:Nat),(h.IsKeyIter s.heap.objs.size d 0 kvs.length ep/\h.DictAt knd d kvs ep)->(∀b o,b≠S->s.heap.get? b=some o->h.get? b=some o) ->
   h.get? S=some { cls:=.type "list",data:=.seq #[] r3 }->codeAny (model prog w) A (.builtin "list.extend.loop" ⟨[.ref S,.ref s.heap.objs.size,res],[]⟩) R { s with heap:=h,toks:=u }:=by
  intro h r3 u k O a₁;refine codeAny_extend_loopS W (by rw[sizeLine_eq];lia) S y res kvs.length 0 _ #[] r3 rfl (BP _) k a₁ (ItemsOf.nil _) λl g n i B r=>?_;rw[Moved.eq_with i];refine L l.heap l.toks g n (λb o t e=>i.heap b o (λhmem=>?_) (O b o t e)) B r;rcases AW.mp hmem with P | hmem
  .exact t P
  .exact absurd (AG e) (by rw[AC.mp hmem];exact CZ _)
 unfold Builtin.List.listExtendWith;refine AA (EY (T := "dict") E ?_);have Q:Builtin.List.listSameRef (.ref S) (.ref d)=false:=by simp[Builtin.List.listSameRef,j]
 have U:(Value.type "dict" == Value.type "list")=false:=by decide
 have V:(Value.type "dict" == Value.type "tuple")=false:=by decide
 simp only[Q,U,V,Bool.or_false,BD,CO];refine AA (wpAny_pyIter_dict J i ?_);have C:∀H,(s.heap.push H).DictAt knd d kvs ep:=λH=>i.at' λo e=>AD _ e;refine AA (BO (Sr (knd:=knd) (kvs:=kvs) (C _).dictOf ?_));have k₁:(s.heap.push { cls:=.type "dict_keyiterator",data:=.fields #[.ref d,.int 0 0,.int kvs.length 0,.int ep 0] }).IsKeyIter s.heap.objs.size d 0 kvs.length ep:=⟨_,AY _ rfl,rfl,rfl⟩;have a₁:=AD { cls:=.type "dict_keyiterator",data:=.fields #[.ref d,.int 0 0,.int kvs.length 0,.int ep 0] } a;refine wpAny_ite_split (λ_=>?_) (λ_=>AE ⟨plainId_quiet F.plain_extend_loop _,q _ c₀ _ ⟨k₁,C _⟩ (λb o _ e=>AD _ e) a₁⟩);refine AA (DF ?_);refine AA ?_;show wpAny _ _ (updateSeq S (·.push .none) >>= λ_=>updateSeq S (·.pop)) _ _ _;refine AA (wpAny_updateSeq a₁ rfl ?_);have a₂:=BZ (Obj.mapSeq (·.push Value.none)) a₁ rfl;refine wpAny_updateSeq (hz:=by seq_fits) a₂ rfl ?_;have a₃:=BZ (Obj.mapSeq (·.pop)) a₂ rfl;refine AE ⟨plainId_quiet F.plain_extend_loop _,q _ _ _ ⟨k₁.at λo e=>?_,(C { cls:=.type "dict_keyiterator",data:=.fields #[.ref d,.int 0 0,.int kvs.length 0,.int ep 0] }).at' λo e=>?_⟩ (λb o t e=>?_) a₃⟩
 .exact(BG _ _ m).trans ((BG _ _ m).trans e)
 .exact(BG _ _ j).trans ((BG _ _ j).trans e)
 .exact(BG _ _ (Ne.symm t)).trans ((BG _ _ (Ne.symm t)).trans (AD _ e))
end
end TS
namespace L2
open PySem PySem.Spec PyProof.Rows
section
variable{X:Cx}
theorem Du:∀{ss:A0 Str} {us:A0 A2},us.length=ss.length->(∀(i:Nat) (v:A2),us[i]?=some v->∃x t,ss[i]?=some x/\v = .str x t)->IG (ss.map V.str) us
 | [],[],_,_=>.nil
 | [],_::_,h,_=>by cases h
 | _::_,[],h,_=>by cases h
 | y::ss,u::us,h,a=>by
  obtain⟨x,t,e,rfl⟩:=a 0 u rfl;cases e;exact .cons ⟨t,rfl⟩ (Du (by simpa using h) λi v b=>a (i+1) v b)
end
section
variable{P:HU}{w:HW}{K:VA}{mg:Str->A5 A2}{base:H_}
theorem PK.o1{x a:Str}{st:IK}{f:A3}{g:IT}{N ps:A0 Str}{k:Nat}{sp:Sp}(F:PK K x a st f g)(S:HZ N ps (B6 st))
  (b:∀(d:A2) (A:IA) (c:A0 QQ) (s:A4) (H:Hp) (vs:A0 V) (Q:VK) (E:XK),JT k (A.deeper (envOfC a (B6 st) s.heap.objs.size f d))->sp vs H Q E ->
   ∃t,QE (Yp JP P w K mg base N a (B6 st) f d A c s H E).nox (S0 st) t/\t { nx:=λ_ H'=>Q .non H',rt:=Q } (Eg N vs) H) (e:∀vs H Q E,sp vs H Q E->vs.length=ps.length:=by intro _ _ _ _ h;repeat first | (obtain⟨h,_⟩:=h;subst h;rfl) | (obtain⟨_,h⟩:=h)):II P w K mg base JP (k+1) f g ps sp:=F.ok S e b
end
end L2
namespace TS
open PySem
section
variable{prog:HU}{w:HW}{K:Type}[DecidableEq K]{knd:KeyKind prog w K}{A:IA}{E:A2->A4->Prop}{s:A4}
theorem Sg{R:Result->A4->Prop}{d:A3}{kvs:A0 (K×A2)}{ep:Nat}(e:A.handled=none)(f:(d == sysModules)=false)(g:s.heap.DictAt knd d kvs ep)(c:kvs.length<=2^24)(S:A3)(h:s.heap.get? S=some { cls:=.type "list",data:=.seq #[] })
  (i:∀h' j a k,(∀b o,b≠S->s.heap.get? b=some o->h'.get? b=some o)->h'.get? S=some { cls:=.type "list",dict:=none,data:=.seq a k,slots:=#[] } ->
   ItemsOf (zAj knd kvs) a kvs.length->R (.ok (.ret (.ref S))) { s with heap:=h',toks:=j }):codeAny (model prog w) A (.builtin "list.__iadd__" ⟨[.ref S,.ref d],[]⟩) R s:=by
 refine DH F.entry_list_iadd ?_;rw[Around.under_plainId F.plain_list_iadd _];show wpAny _ A.in1 (Builtin.List.listExtendWith (.ref S) (.ref d) (.ref S)) _ _ _;exact Kb (A:=A) e f g c S _ 0 h i
theorem OZ{Q:A0 A2->A4->Prop}{d:A3}{kvs:A0 (K×A2)}{ep:Nat}(i:A.handled=none)(j:(d == sysModules)=false)(k:s.heap.DictAt knd d kvs ep)(c:kvs.length<=2^24)
  (m:∀h' h a,(∀b o,s.heap.get? b=some o->h'.get? b=some o)->s.heap.objs.size<h'.objs.size->ItemsOf (zAj knd kvs) a kvs.length->Q a.toList { s with heap:=h',toks:=h }):wpAny (model prog w) A (collect (.ref d)) Q E s:=by
 unfold collect;refine AA (wpAny_runValue (DH F.entry_proto_collect ?_));rw[Around.under_plainId F.plain_proto_collect _];show wpAny _ A.in1 (newList [] >>= λl=>again (.builtin "list.__iadd__" ⟨[l,.ref d],[]⟩)) _ _ s;refine AA (BU ?_);refine AE ⟨plainId_quiet F.plain_list_iadd _,Sg (A:=A) (s:={ s with heap:=s.heap.push { cls:=.type "list",data:=.seq ([]:A0 A2).toArray } }) i j (k.at' λo e=>AD _ e) c s.heap.objs.size (AY _ rfl) λh' h a p n f g=>?_⟩;show wpAny _ A (load s.heap.objs.size >>= _) _ _ _;refine AA (wpAny_load f ?_);exact AE (m h' h a (λb o e=>n b o (BA (AG e)) (AD _ e)) (AG f) g)
end
end TS
namespace L2
open PySem PySem.Spec PyProof.Rows
section
variable{X:Cx}
theorem Vb(hc:X.calm=true:=by rfl):J9 X (.builtin "sorted") (λxs H Q=>∃(d:A3) (kvs:A0 (IM×V)) (ss:A0 Str),xs = [.ref d]/\Rd H d (.dK kvs)/\(kvs.map λk=>k.1)=ss.map Sum.inr/\∀(l:A3) (n:A0 Str),H l=none->n.Perm ss->n.Pairwise OG->Q (.ref l) (HX H l (.lst (n.map V.str)))):=by
 intro pins s σ H xs c Q I r h;obtain⟨d,kvs,ss,rfl,E,hk,q⟩:=h;obtain⟨u,rfl,ru⟩:=X4 r;cases ru;obtain⟨o,p,j,f,r,g,ep,C,F,G,J⟩:∃o,kvs.length<=sizeLine/\(d == sysModules)=false/\∃f,KV kvs f/\∃g ep,s.heap.get? d=some o/\o.ExactDict/\o.data = .dict g ep/\(PySem.KeysOf (C8 X.prog X.w) g/\Pairs (C8 X.prog X.w) g.toList f/\(f.map (·.1)).Nodup):=by
  rcases E with E | ⟨o,E⟩
  .obtain⟨p,j,f,r,o,g,ep,C,F,G,J⟩:=(show IR X.prog X.w H s.heap d (.dK kvs)from I.hok d _ E);exact⟨o,p,j,f,r,g,ep,C,F,G,J⟩
  .obtain⟨C,p,j,f,r,o',g,ep,M,F,G,J⟩:=(show IR X.prog X.w H s.heap d (.frz o (.dK kvs))from I.hok d _ E);exact⟨o',p,j,f,r,g,ep,M,F,G,J⟩
 have hl:kvs.length=f.length:=r.length;have N:kvs.length=ss.length:=by have:=congrArg List.length hk;simpa using this
 refine TS.KP (TS.OZ (A:=X.A.in1) (knd:=C8 X.prog X.w) (kvs:=f) (ep:=ep) (show X.A.in1.handled=none from I.ok.hd hc) j ⟨o,g,C,F,G,J⟩ (by rw[sizeLine_eq]at p;lia) λO tk z k1 g1 m=>?_);have hn:z.toList.length=ss.length:=by have:=m.1;rw[AX];lia
 have D:IG (ss.map V.str) z.toList:=Du hn λi v D=>by
  obtain⟨k,x,e,kk⟩:=m.2 i v (by simpa using D);have P:i<kvs.length:=by rw[hl];exact(AM.mp e).1
  have hx:kvs[i]?=some (kvs[i].1,kvs[i].2):=AF P;obtain⟨u,K,_⟩:=r.atV hx;rw[K]at e;cases e;have h2:=congrArg (λl=>l[i]?) hk;rw[AH,hx,AH,HB]at h2;obtain⟨x',R,ex⟩:=BH.mp h2.symm;rw[<-ex]at kk;rcases G7 (show Dd (.inr x') v=true from kk)with⟨i,t,S,e2⟩ | ⟨y,t,S,e2⟩
  .cases S
  .cases S;exact⟨_,t,R,e2⟩
 have j:=Y3 D;refine⟨rfl,by rw[sizeLine_eq]at p⊢;lia,strKind,oneType',λs2 _=>TS.MM j,λout h' e C k hg=>?_⟩;obtain⟨T,hs⟩:=C;have U:∀v∈out.toList,∃x t,v = .str x t:=λv D=>j.all v (T.mem_iff.mp D);have W:IG ((out.toList.map strOf).map V.str) out.toList:=by
  have:∀c:A0 A2,(∀v∈c,∃x t,v = .str x t)->IG ((c.map strOf).map V.str) c:=by
   intro c
   induction c with
   | nil=>exact λ_=>.nil
   | cons v r Y =>
    intro h;obtain⟨x,t,rfl⟩:=h v (AZ ..);exact .cons ⟨t,rfl⟩ (Y λu K=>h u (AN _ K))
  exact this _ U
 have Z:z.toList.map strOf=ss:=by
  have:∀{ss:A0 Str} {c:A0 A2},IG (ss.map V.str) c->c.map strOf=ss:=by
   intro ss
   induction ss with
   | nil=>intro c h;cases h;rfl
   | cons x r Y =>
    intro c h;cases h with
    | cons a b =>
     obtain⟨t,rfl⟩:=a;rw[BM,Y b];rfl
  exact this D
 have B:(out.toList.map strOf).Perm ss:=by rw[<-Z];exact T.map strOf
 have hpw:(out.toList.map strOf).Pairwise OG:=by
  rw[DV];refine(FC.mp hs).imp fun{u v} ⟨K,hv',q⟩=>?_;obtain⟨x,t,rfl⟩:=U u K;obtain⟨y,t',rfl⟩:=U v hv';have q':decide (y.cps.toList<x.cps.toList)=false:=q;exact HD q'
 have k0:∀b o,s.heap.get? b=some o->h'.get? b=some o:=λb o eb=>k b o (k1 b o eb);have L:s.heap.objs.size<=O.objs.size:=DQ g1;exact⟨.ref O.objs.size,_,I.laid (a:=O.objs.size) (o:=.lst ((out.toList.map strOf).map V.str)) (t':=tk) k0 L ⟨by rw[AB,AB,T.length_eq,hn,<-N];exact p,out.toList,e,W,by simpa using hg⟩,rfl,q _ _ (I.hok.fresh L) B hpw⟩
end
end L2
namespace HT
open PySem PyProof.Rows PySem.Spec
section
variable{prog:HU}{w:HW}{A:IA}{E:A2->A4->Prop}{s:A4}
theorem NH{t b:A3}{items:HS A2}{g i:A2}{lo hi:A5 Int}{Q:A2->A4->Prop}(a:IsTup s.heap t items)(j:s.heap.IsSliceOf b g i .none)(pl:IsPart g lo)(k:IsPart i hi)
  (hw:JL items.size 0 lo=0/\JL items.size items.size hi=items.size) (h:Q (.ref t) s):wpAny (model prog w) A (getItem (.ref t) (.ref b)) Q E s:=by
 obtain⟨os,c,d,l⟩:=id j;have e:s.TypeIs (.ref b) "slice":=⟨os,c,d⟩;unfold getItem
 try with_reducible refine BO ?_
 first | refine AA (AE ?_) | skip
 refine AA (wpAny_sequenceKey a.typeIs (by decide) ?_);refine AA (CJ (name:=Str.ofString "__getitem__") a.typeIs PyProof.Rows.slot_tuple_getitem
  (CI PyProof.Rows.slot_tuple_getitem a.typeIs entry_tuple_getitem ?_ (args_tuple_getitem _ _)))
 show wpAny _ _ (Builtin.Tuple.tupleItemsOf (.ref t) >>= _) _ _ s;refine AA (tupleItemsOf_ a ?_);refine AA (EY e ?_);rw[AO (by decide)];refine AA (V5 j pl k ?_);have f:((((JL items.size 0 lo:Nat):Int) == 0 &&(1:Int) == 1 &&(JL items.size items.size hi-JL items.size 0 lo) == items.size)=true):=by
  rw[hw.1,hw.2];simp
 show wpAny _ _ (if(((JL items.size 0 lo:Nat):Int) == 0 &&(1:Int) == 1 &&(JL items.size items.size hi-JL items.size 0 lo) == items.size)=true then _ else _) _ _ s;rw[AO f];unfold Builtin.Tuple.tupleIsExact;refine AA (AA (EY a.typeIs (AE ?_)));rw[AO (by decide)];refine AA (DF ?_);show wpAny _ _ (ret (Value.ref t)) _ _ _;exact AE ⟨_,rfl,AE h⟩
end
end HT
namespace L2
open PySem PySem.Spec PyProof.Rows
section
variable{X:Cx}
def zGj(K:VA):V->A5 Int->A5 Int->Hp->VK->Prop:=λx lo c H Q=>∃a b,x = .ref a/\IZ K H a b/\(HT.JL b.length 0 lo=0/\HT.JL b.length b.length c=b.length)/\Q (.ref a) H
theorem Zt:RR X (zGj X.K):=by
 intro d s σ H x v n o lo p t Q I f g i j h;obtain⟨a,k,rfl,l,m,q⟩:=h;cases f;obtain⟨c,r,e,u⟩:=I.tuple l;have b:c.toArray.size=k.length:=by rw[AR];exact r.length.symm
 refine⟨"tuple",_,PyProof.Rows.slot_tuple_getitem.lookup,e.typeIs,?_⟩;exact HT.NH e g i j (by rw[b];exact m) ⟨.ref a,H,I,rfl,q⟩
def zFe(K:VA):V->A5 Int->A5 Int->Hp->VK->Prop:=λx lo a H Q=>zEl K x lo a H Q\/zGj K x lo a H Q
theorem zHk(K:VA)(a:X.K=K:=by rfl):RR X (zFe K):=by subst a;exact QS.or Zt
end
end L2
namespace Sw
open PySem L2
def KA(i:Nat):IK:=PySem.Challenge.pw_strikeweave_k66_what_was_looked_at.main.body.getD i (.Pass ⟨0,0,0,0⟩)
abbrev LJ:IK:=KA 12
abbrev NP:IK:=KA 13
abbrev N_:IK:=KA 14
abbrev OU:IK:=KA 15
abbrev PL:IK:=KA 16
abbrev OS:IK:=KA 21
abbrev MS:IK:=KA 22
abbrev LN:IK:=KA 23
abbrev NU:IK:=KA 24
abbrev PM:IK:=KA 25
abbrev OO:IK:=KA 26
abbrev OT:IK:=KA 29
abbrev LZ:IK:=KA 30
abbrev Le:IK:=KA 31
abbrev OP:IK:=KA 33
abbrev OC:IK:=KA 34
abbrev OB:IK:=KA 35
abbrev LE:IK:=KA 36
abbrev NR:IK:=KA 37
abbrev OQ:IK:=KA 38
abbrev OD:IK:=KA 39
abbrev NS:IK:=KA 40
abbrev LL:IK:=KA 41
abbrev LK:IK:=KA 42
abbrev LM:IK:=KA 43
abbrev ND:IK:=KA 44
abbrev OF:IK:=KA 45
abbrev MP:IK:=KA 46
abbrev Lr:IK:=KA 47
abbrev MQ:IK:=KA 48
abbrev P_:IK:=KA 49
abbrev OE:IK:=KA 50
abbrev OA:IK:=KA 51
abbrev NQ:IK:=KA 52
abbrev NC:IK:=KA 53
abbrev NT:IK:=KA 54
abbrev MY:IK:=J8 (KA 3) 0
abbrev MC:IK:=J8 (KA 4) 0
abbrev L_:IK:=J8 (KA 20) 0
abbrev LP:IK:=J8 (KA 20) 1
abbrev KY:IK:=J8 (KA 20) 2
abbrev L0:IK:=J8 (KA 20) 3
abbrev NE:IK:=J8 (KA 20) 4
abbrev LO:IK:=J8 (KA 20) 5
abbrev Kc:IK:=J8 (KA 28) 0
abbrev KZ:IK:=J8 (KA 28) 1
abbrev KR:IK:=J8 (KA 28) 2
abbrev KI:IK:=J8 (KA 28) 3
abbrev KD:IK:=J8 (KA 28) 4
abbrev MA:IK:=J8 (KA 28) 5
abbrev LQ:IK:=J8 (KA 28) 6
abbrev OL:IK:=J8 (KA 28) 7
abbrev NL:IK:=J8 (KA 28) 8
abbrev KJ:IK:=J8 (KA 28) 9
abbrev LR:IK:=J8 (KA 28) 10
set_option genInjectivity false in
structure Tx(K:VA)(mg:Str->A5 A2) where
 aH:Fn K mg "rounds_beside" LJ ["web","known"]
 aR:Fn K mg "one_round" NP ["web","words","number"]
 aN:Fn K mg "wordless" N_ ["web","words"]
 bb:Fn K mg "all_out" OU ["web","words","name"]
 bf:Fn K mg "one_in" PL ["web","words","name"]
 a3:Fn K mg "is_name" OS ["thing"]
 aS:Fn K mg "check_names" MS ["names"]
 aI:Fn K mg "check_strikes" LN ["names","strikes"]
 aY:Fn K mg "is_strike" NU ["names","thing"]
 bg:Fn K mg "behind" PM ["web","some"]
 bc:Fn K mg "reached" OO ["steps","some"]
 bd:Fn K mg "copy_of" OT ["web"]
 aE:Fn K mg "words_beside" LZ ["web","stay"]
 aO:Fn K mg "otherwise_in" Le ["old","new"]
 a4:Fn K mg "_law_mix" OP ["_law_cell","_law_k"]
 aV:Fn K mg "_law_left" OC ["_law_script","_law_k"]
 ai:Fn K mg "_law_pick" OB ["_law_left_here","_law_many"]
 aG:Fn K mg "_law_many_names" LE ["_law_left_here","_law_many"]
 aZ:Fn K mg "_law_masks" NR ["_law_names","_law_strikes"]
 a5:Fn K mg "_law_hit" OQ ["_law_view","_law_mask"]
 aW:Fn K mg "_law_kept" OD ["_law_view","_law_mask"]
 a0:Fn K mg "_law_least" NS ["_law_view"]
 aJ:Fn K mg "_law_web_drawn" LL ["_law_left_here"]
 ay:Fn K mg "_law_word_rows" LK ["_law_own"]
 aK:Fn K mg "_law_otherwise" LM ["_law_old","_law_new"]
 ax:Fn K mg "_law_a_name" ND ["_law_left_here","_law_own"]
 a7:Fn K mg "_law_deed" OF ["_law_left_here","_law_own"]
 aT:Fn K mg "_law_is_name" MP ["_law_word"]
 aP:Fn K mg "_law_word_due" Lr ["_law_own","_law_deed_here"]
 aU:Fn K mg "_law_changed" MQ ["_law_own","_law_deed_here"]
 bh:Fn K mg "_law_kind" P_ ["_law_error"]
 a8:Fn K mg "_law_done" OE ["_law_keeper","_law_deed_here"]
 au:Fn K mg "_law_same" OA ["_law_found","_law_due"]
 a1:Fn K mg "_law_reach" NQ ["_law_own","_law_some"]
 aX:Fn K mg "_law_weight" NC ["_law_own"]
 ad:A3
 ag:QO K ad
 a9:mg "Web" = some (.ref ad)
 aL:JG K ad "names"
 a2:JG K ad "strikes"
 aD:JG K ad "strikers_by_name"
 aF:JG K ad "struck_by_name"
 bt:A3
 bs:IT
 bu:PK K "__init__" "Web.__init__" L_ bt bs
 az:Binds K bs ["self","names","strikes"] []
 ba:Mk K ad bt
 ac:Mt K ad "all_names" "Web.all_names" LP ["self"]
 ae:Mt K ad "all_strikes" "Web.all_strikes" KY ["self"]
 av:Mt K ad "strikers" "Web.strikers" L0 ["self","name"]
 as:Mt K ad "struck" "Web.struck" NE ["self","name"]
 aj:Mt K ad "check_has" "Web.check_has" LO ["self","name"]
 aa:A3
 ab:QO K aa
 bB:mg "Keeper" = some (.ref aa)
 af:JG K aa "web"
 aA:JG K aa "given"
 aQ:JG K aa "reckoned"
 bi:JG K aa "past"
 bo:A3
 bn:IT
 bp:PK K "__init__" "Keeper.__init__" Kc bo bn
 bq:Binds K bn ["self","web"] []
 bC:Mk K aa bo
 aq:Mt K aa "put_name" "Keeper.put_name" KZ ["self","name"]
 ap:Mt K aa "take_name" "Keeper.take_name" KR ["self","name"]
 am:Mt K aa "put_strike" "Keeper.put_strike" KI ["self","one","other"]
 al:Mt K aa "take_strike" "Keeper.take_strike" KD ["self","one","other"]
 aB:Mt K aa "words" "Keeper.words" MA ["self"]
 an:Mt K aa "looked" "Keeper.looked" LQ ["self"]
 bI:Mt K aa "undo" "Keeper.undo" OL ["self"]
 bJ:Mt K aa "web_now" "Keeper.web_now" NL ["self"]
 ao:Mt K aa "has_strike" "Keeper.has_strike" KJ ["self","one","other"]
 ak:Mt K aa "change" "Keeper.change" LR ["self","web","changed"]
 bK:A3
 bL:A0 A2
 bv:XC K bK bL
 bw:mg "StrikeError" = some (.ref bK)
 bM:A3
 bN:A0 A2
 bO:XC K bM bN
 bP:mg "BadName" = some (.ref bM)
 bQ:A3
 bR:A0 A2
 bS:XC K bQ bR
 bT:mg "BadStrike" = some (.ref bQ)
 bU:A3
 bV:A0 A2
 bW:XC K bU bV
 bX:mg "BadWeave" = some (.ref bU)
 bY:A3
 bZ:A0 A2
 b0:XC K bY bZ
 b1:mg "BadRow" = some (.ref bY)
 b2:A3
 b3:A0 A2
 b4:XC K b2 b3
 b5:mg "NoName" = some (.ref b2)
 b6:A3
 b7:A0 A2
 b8:XC K b6 b7
 b9:mg "NoStrike" = some (.ref b6)
 ca:A3
 cb:A0 A2
 cc:XC K ca cb
 cd:mg "NoMove" = some (.ref ca)
 ce:A3
 cf:A0 A2
 cg:XC K ce cf
 ch:mg "TooMany" = some (.ref ce)
 ci:XG K bM
 cj:IsC K bM
 ck:(Value.ref bM::bN).contains (.ref bK)=true
 cl:PySem.W.kitOne K (.ref bM) (.ref bM)=some true
 cm:PySem.W.kitOne K (.ref bM) (.ref bQ)=some false
 cn:PySem.W.kitOne K (.ref bM) (.ref bU)=some false
 co:PySem.W.kitOne K (.ref bM) (.ref bY)=some false
 cp:PySem.W.kitOne K (.ref bM) (.ref b2)=some false
 cq:PySem.W.kitOne K (.ref bM) (.ref b6)=some false
 cr:PySem.W.kitOne K (.ref bM) (.ref ca)=some false
 cs:PySem.W.kitOne K (.ref bM) (.ref ce)=some false
 ct:PySem.W.kitOne K (.ref bM) (.type "ValueError")=some true
 cu:JG K bM "place"
 cv:A3
 cw:IT
 cx:PK K "__init__" "BadName.__init__" MY cv cw
 cy:Binds K cw ["self","place"] []
 cz:QG K bM "__init__" cv
 cA:XG K bQ
 cB:IsC K bQ
 cC:(Value.ref bQ::bR).contains (.ref bK)=true
 cD:PySem.W.kitOne K (.ref bQ) (.ref bM)=some false
 cE:PySem.W.kitOne K (.ref bQ) (.ref bQ)=some true
 cF:PySem.W.kitOne K (.ref bQ) (.ref bU)=some false
 cG:PySem.W.kitOne K (.ref bQ) (.ref bY)=some false
 cH:PySem.W.kitOne K (.ref bQ) (.ref b2)=some false
 cI:PySem.W.kitOne K (.ref bQ) (.ref b6)=some false
 cJ:PySem.W.kitOne K (.ref bQ) (.ref ca)=some false
 cK:PySem.W.kitOne K (.ref bQ) (.ref ce)=some false
 cL:PySem.W.kitOne K (.ref bQ) (.type "ValueError")=some true
 cM:JG K bQ "place"
 cN:A3
 cO:IT
 cP:PK K "__init__" "BadStrike.__init__" MC cN cO
 cQ:Binds K cO ["self","place"] []
 cR:QG K bQ "__init__" cN
 cS:XG K b2
 cT:IsC K b2
 cU:(Value.ref b2::b3).contains (.ref bK)=true
 cV:PySem.W.kitOne K (.ref b2) (.ref bM)=some false
 cW:PySem.W.kitOne K (.ref b2) (.ref bQ)=some false
 cX:PySem.W.kitOne K (.ref b2) (.ref bU)=some false
 cY:PySem.W.kitOne K (.ref b2) (.ref bY)=some false
 cZ:PySem.W.kitOne K (.ref b2) (.ref b2)=some true
 c0:PySem.W.kitOne K (.ref b2) (.ref b6)=some false
 c1:PySem.W.kitOne K (.ref b2) (.ref ca)=some false
 c2:PySem.W.kitOne K (.ref b2) (.ref ce)=some false
 c3:PySem.W.kitOne K (.ref b2) (.type "ValueError")=some true
 c4:PySem.W.findIn K (.ref b2) "__init__" = some (some (.builtin "ValueError.__init__"))
 c5:XG K b6
 c6:IsC K b6
 c7:(Value.ref b6::b7).contains (.ref bK)=true
 c8:PySem.W.kitOne K (.ref b6) (.ref bM)=some false
 c9:PySem.W.kitOne K (.ref b6) (.ref bQ)=some false
 da:PySem.W.kitOne K (.ref b6) (.ref bU)=some false
 db:PySem.W.kitOne K (.ref b6) (.ref bY)=some false
 dc:PySem.W.kitOne K (.ref b6) (.ref b2)=some false
 dd:PySem.W.kitOne K (.ref b6) (.ref b6)=some true
 de:PySem.W.kitOne K (.ref b6) (.ref ca)=some false
 df:PySem.W.kitOne K (.ref b6) (.ref ce)=some false
 dg:PySem.W.kitOne K (.ref b6) (.type "ValueError")=some true
 dh:PySem.W.findIn K (.ref b6) "__init__" = some (some (.builtin "ValueError.__init__"))
 bD:∃t,mg "LETTERS" = some (.str "abcdefghijklmnopqrstuvwxyz" t)
 bx:∃t,mg "LONGEST_NAME" = some (.int 8 t)
 ar:mg "len" = none
 aM:mg "range" = none
 a6:mg "enumerate" = none
 bE:mg "zip" = none
 bF:mg "min" = none
 bG:mg "max" = none
 bz:mg "abs" = none
 aC:mg "sorted" = none
 bA:mg "int" = none
 bj:mg "str" = none
 bl:mg "bool" = none
 aw:mg "list" = none
 be:mg "tuple" = none
 bm:mg "dict" = none
 bk:mg "set" = none
 ah:mg "isinstance" = none
 br:mg "all" = none
 bH:mg "any" = none
 di:mg "ValueError" = none
end Sw
namespace L2
open PySem
def KL{N ps:A0 Str}{a:KM}(h1:a.kind = .function:=by rfl)(h2:a.isCoroutine=false:=by rfl)(b:a.isGenerator=false:=by rfl)(c:N.Nodup:=by decide +kernel)(d:N.take ps.length=ps:=by rfl)(e:∀x∈ps,a.names.lookup x=some .local\/a.names.lookup x=some .cell:=by decide +kernel)(f:∀y∈a.names,y.2≠ .free:=by decide +kernel):HZ N ps a:=⟨h1,h2,b,c,d,e,f⟩
def Rm{j k:Nat}{A:IA}(h:JT k A)(e:j<=k:=by decide):JT j A:=h.mono e
def Fr{J:It}{xs:A0 V}{a:A3}{d:Hp}(as:NK J xs a d){g:TG}{e:TS}{D:Ends}{σ:St}{H:Hp}(Pv:Nat->St->Hp->Prop)(h:Pv 0 σ H)(j:∀i σ H,i<=xs.length->Pv i σ H->JU a d H)
  (k:∀i σ H x,xs[i]?=some x->Pv i σ H->∀b:Ends,(∀σ' H',Pv (i+1) σ' H'->b.nx σ' H')->b.rt=D.rt->g x σ H λσ2 c=>e b σ2 c) (l:∀σ H,Pv xs.length σ H->D.nx σ H) :
  ∃W:Nat->Nat->St->Hp->Prop,(∃m,W 0 m σ H)/\∀i m σ H,W i m σ H ->
   (J.stop i H/\D.nx σ H)\/(J.go i H/\∃N:St->Hp->Prop,(∀σ' H',N σ' H'->∃f,f < m/\W (i+1) f σ' H')/\∀x H',J.yld i H x H'->g x σ H' λσ2 c=>e { D with nx:=N,ct:=N,bk:=D.nx } σ2 c) :=
 zAu as Pv h j (λi σ H x n o=>k i σ H x n o _ (λ_ _ z=>z) rfl) l
def U0{lo:Int}{n:Nat}{g:TG}{c:TS}{D:Ends}{σ:St}{H:Hp}(Pv:Nat->St->Hp->Prop)(e:Pv 0 σ H)
  (f:∀i σ H,i<n->Pv i σ H->∀a:Ends,(∀σ' H',Pv (i+1) σ' H'->a.nx σ' H')->a.rt=D.rt->g (.int (lo+i)) σ H λσ2 b=>c a σ2 b) (h:∀σ H,Pv n σ H->D.nx σ H) :
  ∃W:Nat->Nat->St->Hp->Prop,(∃m,W 0 m σ H)/\∀i m σ H,W i m σ H ->
   ((QM lo n).stop i H/\D.nx σ H)\/((QM lo n).go i H/\∃N:St->Hp->Prop,(∀σ' H',N σ' H'->∃d,d < m/\W (i+1) d σ' H')/\∀x H',(QM lo n).yld i H x H'->g x σ H' λσ2 b=>c { D with nx:=N,ct:=N,bk:=D.nx } σ2 b) :=
 Hk Pv e (λi σ H j k=>f i σ H j k _ (λ_ _ z=>z) rfl) h
def C3{α:Type}{A C:α->Prop}{a:α}(e:A a)(h:C a):∃v,A v/\C v:=⟨a,e,h⟩
def V7{α0 α1 α2:Type}{d e f g h i:α0->α1->α2->Prop}{a:α0}{b:α1}{c:α2}(j:d a b c)(h1:e a b c)(h2:f a b c)(k:g a b c)(l:h a b c)(m:i a b c):∃a b c,d a b c/\e a b c/\f a b c/\g a b c/\h a b c/\i a b c:=⟨a,b,c,j,h1,h2,k,l,m⟩
def zFq{α0 α1 α2 α3 α4 α5 α6:Type}{h i j k:α0->α1->α2->α3->α4->α5->α6->Prop}{a:α0}{b:α1}{c:α2}{d:α3}{e:α4}{f:α5}{g:α6}(l:h a b c d e f g)(h1:i a b c d e f g)(h2:j a b c d e f g)(m:k a b c d e f g):∃a b c d e f g,h a b c d e f g/\i a b c d e f g/\j a b c d e f g/\k a b c d e f g:=⟨a,b,c,d,e,f,g,l,h1,h2,m⟩
def B9{α0 α1:Type}{c d e:α0->α1->Prop}{a:α0}{b:α1}(f:c a b)(h1:d a b)(h2:e a b):∃a b,c a b/\d a b/\e a b:=⟨a,b,f,h1,h2⟩
def B3{t u:TS}{D:Ends}{σ:St}{H:Hp}(h:∀N:St->Hp->Prop,(∀σ' H',u D σ' H'->N σ' H')->t { D with nx:=N } σ H):TD t u D σ H:=h _ λ_ _ z=>z
def zDn{i:Nat}{v:V}{t u:TS}{D:Ends}{σ:St}{H:Hp}(h:∀N:St->Hp->Prop,(∀σ' H',u D σ' H'->N σ' H')->t { D with nx:=N } (σ.set i (some v)) H):P5 i v σ H (λσ2 a=>TD t u D σ2 a):=h _ λ_ _ z=>z
end L2
namespace Sw
open PySem L2
section
variable{P:HU}{w:HW}{K:VA}{mg:Str->A5 A2}{base:H_}
def Ka(c:Nat):Bool:=decide (97<=c)&&decide (c<=122)
def P8(x:Str):Bool:=decide (1<=x.length)&&decide (x.length<=8)&&x.cps.toList.all Ka
theorem Jg:("abcdefghijklmnopqrstuvwxyz":Str).cps.toList=List.range' 97 26:=by decide +kernel
theorem Tf(c:Nat):decide (c∈("abcdefghijklmnopqrstuvwxyz":Str).cps.toList)=Ka c:=by
 rw[Jg];unfold Ka;by_cases a:97<=c
 .by_cases b:c<=122
  .rw[AU (List.mem_range'_1.mpr (by lia)),AU a,AU b];rfl
  .rw[AK (λz=>by have:=List.mem_range'_1.mp z;lia),AK b,HH]
 .rw[AK (λz=>by have:=List.mem_range'_1.mp z;lia),AK a,DP]
theorem Oo:HZ ["thing"] ["thing"] (B6 OS):=KL
def Oq:Sp:=λb H Q _=>∃x,b = [.str x]/\x.length<=1000/\∀a,Cv H a->Q (.bl (P8 x)) a
theorem Dw(T:Tx K mg):II P w K mg base JP 1 T.a3.f T.a3.fd ["thing"] Oq:=by
 refine T.a3.F.o1 Oo λr A b s H B Q E C h=>?_
 .obtain⟨x,rfl,G,k⟩:=h;refine⟨_,(B0 (K0 (PW.pt (Ar (a7 (T0 (G9 (Q3 K) T.ah C9 (A6 (pv 0) (A6 (Z8 T.bj Kh) A8))))) (X2 (a7 (Uq Vr Vr B4 (G9 Ag T.ar N9 (A6 (pv 0) A8)) (zFl T.bx)))))) (B5 (C0 Ij)) D9)
   (B5 (C0 (G9 (Qi K) T.br Po (A6 (U7 (N':=["letter"]) (cap:=[none]) (cl:=[]) (N0 trivial trivial) rfl (Xd (pv 0)) (λ_ _ _ _=>by exact⟨(LV 0),P0,(Q8 Sa (pv 0) (zFt T.bD) rfl)⟩)) A8))))),?_⟩
  have d:x.length<=sizeLine:=by rw[sizeLine_eq];lia
  have m:x.cps.size=x.length:=rfl;refine C3 rfl ⟨.str x, "str",_,true,rfl,.str x,rfl,C3 rfl ?_⟩;refine N8 ?_;refine C3 rfl ⟨x,rfl,d,B9 rfl rfl (C3 rfl ?_)⟩;refine Y7 (λa=>?_) (λa=>?_)
  .have a:(1:Int)<=(x.length:Int):=BV a;refine B9 rfl rfl (C3 rfl ?_);by_cases o:(x.length:Int)<=8
   .rw[AU o];refine N8 ?_;refine C3 rfl ⟨x,rfl,λD p=>?_⟩;refine Hq (n:=x.cps.size) (λi σ g=>(∃v,σ = [v])/\Cv H g/\g D=some (.lst ((x.cps.toList.take i).map λc=>V.bl (Ka c)))) ⟨⟨_,rfl⟩,Cv.new p,A7⟩ (λi _ _ q _=>q) (λ_ _ _=>rfl) ?_ ?_
    .rintro i σ t v g N q ⟨⟨I,rfl⟩,j,l⟩ ⟨rfl,c,u,rfl⟩ y;refine Ci ?_;refine C3 rfl (B9 rfl rfl ⟨_,l,?_,?_⟩)
     .rw[AB,A_,sizeLine_eq];lia
     .rw[PySem.StrLaws.found_one,Tf];refine y _ _ ⟨⟨_,rfl⟩,j.upd p,?_⟩;rw[A7];have:x.cps.toList[i]?=some c:=by rw[BL];exact u
      rw[List.take_add_one,this,AL];rfl
    .rintro σ t ⟨_,j,l⟩;refine⟨D,x.cps.toList.map Ka,rfl,IC.of ?_,?_⟩
     .rw[l,<-AX,BN,BW];rfl
     .have e:(x.cps.toList.map Ka).all id=P8 x:=by
       unfold P8;rw[AU (show 1<=x.length by lia),AU (show x.length<=8 by lia),List.all_map];rfl
      rw[e];exact k _ j
   .rw[AK o];refine Z0 ?_;have e:P8 x=false:=by
     unfold P8;rw[AK (show ¬x.length<=8 by lia),HH,DP]
    have:=k H (Cv.refl H);rw[e]at this;exact this
  .have a:¬(1:Int)<=(x.length:Int):=λz=>a (AU z);refine C3 rfl ?_;refine Z0 ?_;have e:P8 x=false:=by
    unfold P8;rw[AK (show ¬1<=x.length by lia),DP,DP]
   have:=k H (Cv.refl H);rw[e]at this;exact this
theorem D8{α:Type}{l:A0 α}{i:Nat}{x:α}(h:l[i]?=some x):l.take (i+1)=l.take i ++ [x]:=by
 rw[List.take_add_one,h];rfl
theorem Y1{α:Type}{l:A0 α}{i:Nat}{x:α}(a:l.Nodup)(h:l[i]?=some x):x∉l.take i:=by
 intro b;obtain⟨j,c,e⟩:=List.getElem_of_mem b;have d:j<i:=by rw[A_]at c;lia
 rw[List.getElem_take]at e;obtain⟨g,f⟩:=AM.mp h;have:=(List.getElem_inj a).mp (e.trans f.symm);lia
theorem JY:HZ ["names","seen","place","name"] ["names"] (B6 MS):=KL
def X5(ss:A0 Str):Prop:=(∀x∈ss,P8 x=true)/\ss.Nodup/\ss.length<=100
def Ct(K:VA):Sp:=λc H Q _=>∃(p:A3) (a:A0 Str),c = [.ref p]/\QK K H p (a.map V.str)/\X5 a/\∀b,Cv H b->Q .non b
theorem Gr{x:Str}(h:P8 x=true):1<=x.length/\x.length<=8:=by
 unfold P8 at h;rw[DB,DB]at h;exact⟨BV h.1.1,BV h.1.2⟩
theorem Da(T:Tx K mg):II P w K mg base JP 2 T.aS.f T.aS.fd ["names"] (Ct K):=by
 refine T.aS.F.o1 JY λU A B s H vs Q E J h=>?_
 .obtain⟨a,b,rfl,V,⟨W,X,hL⟩,k⟩:=h;have hu:=Q2 J;refine⟨_,(B0 (C6 (i:=1) JY.nd rfl (.inl rfl) (Di (Zz P w) (by rfl) T.bk Mh))
   (B5 (U2 PassesOwn.never rfl (zFo K T.a6 (A6 (pv 0) A8)) (QV K (n:=2) (E5 (G5 (i:=2) JY.nd rfl (.inl rfl)) (E5 (G5 (i:=3) JY.nd rfl (.inl rfl)) R0)))
   (B0 (K0 (PW.pt (Ar (a7 (T0 (E4 T.a3 (Dw T) (Rm J) (A6 (pv 3) A8)))) (X2 (B8 (zFs P w) (pv 3) (pv 1) rfl)))) (B5 Y0) D9)
   (B5 (I9 (Su P w (zDd P w) (pv 1) (A6 (pv 3) A8)))))))),?_⟩
  refine⟨rfl,λp L=>?_⟩;have M:Cv H (HX H p (Os P w p [])):=Cv.new L;refine C3 rfl ⟨a,C3 rfl (Kw V (M.at a) λsq C=>Ut (n:=b.length) (λi σ g=>∃l m,σ = [some (.ref a),some (.ref p),l,m]/\Cv H g/\g p=some (Os P w p ((b.take i).map Sum.inr))) ⟨_,_,rfl,M,A7⟩ ?_ ?_ ?_ ?_)⟩
  .rintro i σ g r ⟨l,m,rfl,c,o⟩;exact⟨_,_,C _ (c.at a),by rw[AH,AF r];rfl⟩
  .rintro σ g ⟨l,m,rfl,c,o⟩;exact⟨_,C _ (c.at a),by rw[AB]⟩
  .rintro i σ g v H' r ⟨l,m,rfl,c,o⟩ ⟨t,x,rfl,N,rfl,u⟩;have u:=u _ (C _ (c.at a));have j:b[i]?=some b[i]:=AF r;rw[AH,j]at u;cases u;have Y:b[i]∈b:=DL r;have q:=W _ Y;have O:=Gr q;have D:p≠t:=A9 o N;refine⟨t,C3 rfl ⟨IZ.of A7,rfl,_,C3 rfl (B9 rfl rfl ?_)⟩⟩;refine C3 rfl ⟨b[i],rfl,by lia,λR S=>⟨_,rfl,?_⟩⟩;rw[q];refine N8 ?_;have G:Cv H R:=(c.trans (Cv.new N)).trans S;have I:R p=some (Os P w p ((b.take i).map Sum.inr)):=S _ _ (by rw[B7 D];exact o);have d:¬(Sum.inr b[i]:IM)∈(b.take i).map Sum.inr:=λz=>by
    obtain⟨y,Z,e⟩:=BJ.mp z;cases e;exact Y1 X j Z
   refine C3 rfl (C3 rfl ⟨p,_,Sum.inr b[i],rfl,rfl,I,C3 rfl ?_⟩);rw[AI (by decide),AK d];refine N8 ?_;refine C3 rfl ⟨⟨p,rfl,.inl ⟨_,I⟩⟩,C3 rfl ⟨p,_,Sum.inr b[i],rfl,rfl,I,?_,?_⟩⟩
   .rw[AB,A_];lia
   .refine⟨_,C3 rfl ⟨G.upd L,?_⟩⟩;rw[A7];unfold zEj;rw[AI d,D8 j,AL];rfl
  .rintro σ g ⟨l,m,rfl,c,o⟩;exact k g c
def Gh(ss:A0 Str):(ss.map V.str).all Ey=true:=by
 rw[EJ];intro v a;obtain⟨x,_,rfl⟩:=BJ.mp a;rfl
def Rg(x:Str)(ss:A0 Str):inV (.str x) (ss.map V.str)=decide (x∈ss):=by
 unfold inV;rw[List.any_map]
 induction ss with
 | nil=>rfl
 | cons y r a =>
  rw[GE,a];show((y == x)||decide (x∈r))=decide (x∈y::r);by_cases e:x=y
  .subst e;simp
  .have:(y == x)=false:=by simpa using λz=>e z.symm
   rw[this,Bool.false_or];by_cases h:x∈r
   .rw[AU h,AU (AN _ h)]
   .rw[AK h,AK (λz=>(AW.mp z).elim e h)]
def y6{K:VA}{H:Hp}{p:A3}{x:Str}{ss:A0 Str}{Q:VK}(h:QK K H p (ss.map V.str))(q:Q (.bl (decide (x∈ss))) H):SD K false (.str x) (.ref p) H Q :=
 ⟨p,_,rfl,h,rfl,Gh ss,by rw[AI (by decide),Rg];exact q⟩
def P4{K:VA}{H:Hp}{p:A3}{x:Str}{ss:A0 Str}{Q:VK}(h:QK K H p (ss.map V.str))(q:Q (.bl (!decide (x∈ss))) H):SD K true (.str x) (.ref p) H Q :=
 ⟨p,_,rfl,h,rfl,Gh ss,by rw[AO rfl,Rg];exact q⟩
theorem Gf:HZ ["names","thing"] ["names","thing"] (B6 NU):=KL
def Hj(K:VA):Sp:=λb H Q _=>∃(p:A3) (a:A0 Str) (t:A3) (x y:Str),b = [.ref p,.ref t]/\QK K H p (a.map V.str)/\H t=some (.tup [.str x,.str y])/\x∈a/\y∈a/\Q (.bl true) H
theorem Hb(T:Tx K mg):II P w K mg base JP 1 T.aY.f T.aY.fd ["names","thing"] (Hj K):=by
 refine T.aY.F.o1 Gf λe A c s H j Q E l h=>?_
 .obtain⟨p,m,t,x,y,rfl,d,b,g,i,k⟩:=h;refine⟨_,(B0 (K0 (PW.pt (Ar (a7 (T0 (G9 (Q3 K) T.ah C9 (A6 (pv 1) (A6 (Z8 T.be Ba) A8))))) (X2 (B8 Co (G9 (Q0 K) T.ar N9 (A6 (pv 1) A8)) B4 (C5 _))))) (B5 (C0 Ij)) D9)
   (B5 (C0 (Bh (Q8 (Nz K) (E6 (OM K) (pv 1) B4 (λ_ _=>rfl)) (pv 0) rfl) (Dq (Q8 (Nz K) (E6 (OM K) (pv 1) B4 (λ_ _=>rfl)) (pv 0) rfl)))))),?_⟩
  refine C3 rfl ⟨_, "tuple",_,true,rfl,.tup b,rfl,C3 rfl ?_⟩;refine N8 ?_;refine C3 rfl (B9 (a:=t) rfl (.inr (IZ.of b)) ⟨rfl,C3 rfl ?_⟩);refine N8 ?_;refine C3 rfl ⟨t,_,B9 rfl rfl ⟨IZ.of b,rfl,C3 rfl (y6 d ⟨_,rfl,?_⟩)⟩⟩;rw[AU g];refine Z0 ?_;refine C3 rfl ⟨t,_,B9 rfl rfl ⟨IZ.of b,rfl,C3 rfl (y6 d ?_)⟩⟩;rw[AU i];exact k
structure ME(ss:A0 Str)(ps:A0 IL):Prop where
 nm:∀q∈ps,q.2.1∈ss/\q.2.2∈ss
 nd:(ps.map λq=>q.2).Nodup
 len:ps.length<=200
def G0(ps:A0 IL):A0 V:=ps.map λq=>V.ref q.1
def Jy(ps:A0 IL):A0 (A0 IM×A3):=ps.map λq=>([.inr q.2.1,.inr q.2.2],q.1)
theorem Tz{H:Hp}{ps:A0 IL}(h:∀q∈ps,G6 H q):Ki H (Jy ps):=λk a=>by
 obtain⟨q,b,rfl⟩:=BJ.mp a;exact h q b
theorem J2{H H':Hp}{ps:A0 IL}(s:Cv H H')(h:∀q∈ps,G6 H q):∀q∈ps,G6 H' q:=λq a=>s _ _ (h q a)
theorem JK:HZ ["names","strikes","seen","place","strike"] ["names","strikes"] (B6 LN):=KL
def At(K:VA):Sp:=λd H Q _=>∃(p:A3) (b:A0 Str) (a:A3) (ps:A0 IL),d = [.ref p,.ref a]/\QK K H p (b.map V.str)/\IC K H a (G0 ps)/\(∀q∈ps,G6 H q)/\ME b ps/\∀c,Cv H c->Q .non c
theorem An(T:Tx K mg):II P w K mg base JP 2 T.aI.f T.aI.fd ["names","strikes"] (At K):=by
 refine T.aI.F.o1 JK λW A C s H vs Q E M h=>?_
 .obtain⟨n,X,a,ps,rfl,Y,u,N,⟨Z,hD,hL⟩,k⟩:=h;have O:=Q2 M;refine⟨_,(B0 (C6 (i:=2) JK.nd rfl (.inl rfl) (Di (Vv P w) (by rfl) T.bk Mh))
   (B5 (U2 PassesOwn.never rfl (zFo K T.a6 (A6 (pv 1) A8)) (QV K (n:=2) (E5 (G5 (i:=3) JK.nd rfl (.inl rfl)) (E5 (G5 (i:=4) JK.nd rfl (.inl rfl)) R0)))
   (B0 (K0 (PW.pt (Ar (a7 (T0 (E4 T.aY (Hb T) (Rm M) (A6 (pv 0) (A6 (pv 4) A8))))) (X2 (B8 (zFw P w O) (pv 4) (pv 2) rfl)))) (B5 Y0) D9)
   (B5 (I9 (Su P w (zDz P w O) (pv 2) (A6 (pv 4) A8)))))))),?_⟩
  refine⟨rfl,λp R=>?_⟩;have S:Cv H (HX H p (Ot P w p [])):=Cv.new R;refine C3 rfl ⟨a,C3 rfl (.inl ⟨(S.at a).seqL u,Ut (n:=ps.length) (λi σ b=>∃j v4,σ = [some (.ref n),some (.ref a),some (.ref p),j,v4]/\Cv H b/\b p=some (Ot P w p (Jy (ps.take i)))) ⟨_,_,rfl,S,A7⟩ ?_ ?_ ?_ ?_⟩)⟩
  .rintro i σ b y ⟨D,j,rfl,c,l⟩;exact⟨_,_,(c.at a).seqL u,by unfold G0;rw[AH,AF y];rfl⟩
  .rintro σ b ⟨D,j,rfl,c,l⟩;exact⟨_,(c.at a).seqL u,by unfold G0;rw[AB]⟩
  .rintro i σ b v H' y ⟨D,j,rfl,c,l⟩ ⟨t,x,rfl,U,rfl,m⟩;have m:=m _ ((c.at a).seqL u);have d:ps[i]?=some ps[i]:=AF y;unfold G0 at m;rw[AH,d]at m;cases m;have V:ps[i]∈ps:=DL y;obtain⟨G,I⟩:=Z _ V;have J:p≠t:=A9 l U;have B:Cv H (HX b t (.tup [.int i,.ref ps[i].1])):=c.trans (Cv.new U);have g:=B _ _ (N _ V);refine⟨t,C3 rfl ⟨IZ.of A7,rfl,_,C3 rfl (B9 rfl rfl ?_)⟩⟩;refine C3 rfl (C3 rfl ⟨n,X,ps[i].1,ps[i].2.1,ps[i].2.2,rfl,(B.at n).seq Y,g,G,I,C3 rfl ?_⟩);refine N8 ?_;have L:(HX b t (.tup [.int i,.ref ps[i].1])) p=some (Ot P w p (Jy (ps.take i))):=by rw[B7 J];exact l
   have o:Ki (HX b t (.tup [.int i,.ref ps[i].1])) (Jy (ps.take i)):=Tz (J2 B λq g=>N q (DE g));have r:∀q∈Jy (ps.take i),q.1≠[.inr ps[i].2.1,.inr ps[i].2.2]:=λq g e=>by
    obtain⟨z,hz,rfl⟩:=BJ.mp g;have e':z.2=ps[i].2:=by
     obtain⟨z1,z2,z3⟩:=z;simp only[List.cons.injEq,Sum.inr.injEq,and_true]at e;exact Prod.ext e.1 e.2
    have h1:(ps.map λq=>q.2)[i]?=some ps[i].2:=by rw[AH,d];rfl
    refine Y1 hD h1 ?_;rw[<-List.map_take,<-e'];exact BJ.mpr ⟨z,hz,rfl⟩
   refine C3 rfl (C3 rfl ⟨p,ps[i].1,_,[.inr ps[i].2.1,.inr ps[i].2.2],rfl,rfl,L,g,o,r,C3 rfl ?_⟩);refine N8 ?_;refine C3 rfl ⟨⟨p,rfl,.inr (.inr ⟨_,L⟩)⟩,C3 rfl ⟨p,ps[i].1,_,[.inr ps[i].2.1,.inr ps[i].2.2],rfl,rfl,L,g,o,r,?_,?_⟩⟩
   .unfold Jy;rw[AB,A_];lia
   .refine⟨_,C3 rfl ⟨B.upd R,?_⟩⟩;rw[A7,D8 d];unfold Jy;rw[AL];rfl
  .rintro σ b ⟨D,j,rfl,c,l⟩;exact k b c
def la(kvs:A0 (IM×V))(n:Str):A3:=match V8 kvs (.inr n)with | some (.ref l)=>l | _=>0
def Cg(kvs:A0 (IM×V))(n m:Str)(v:V):V8 (Bf kvs (Sum.inr n:IM) v) (.inr m)=if m=n then some v else V8 kvs (.inr m):=by
 rw[Wo];by_cases e:m=n
 .rw[AO e,AO (by rw[e])]
 .rw[AI e,AI (λz=>e (Sum.inr.inj z))]
def Ea(kvs:A0 (IM×V))(n m:Str)(p:A3):la (Bf kvs (.inr n) (.ref p)) m=if m=n then p else la kvs m:=by
 unfold la;rw[Cg];by_cases e:m=n
 .rw[AO e,AO e]
 .rw[AI e,AI e]
structure DOk(H0:Hp)(kvs:A0 (IM×V))(ns:A0 Str):Prop where
 val:∀n∈ns,V8 kvs (.inr n)=some (.ref (la kvs n))
 inj:∀n∈ns,∀m∈ns,la kvs n=la kvs m->n=m
 fr:∀n∈ns,H0 (la kvs n)=none
def Wr{K:VA}{J:It}{a:A3}{ns:A0 Str}{H:Hp}{σ:St}{Q:St->Hp->Prop}(as:NK J (ns.map V.str) a H)(hσ:∃v,σ = [v])(G:ns.Nodup)(I:ns.length<=1000){D:A3}(y:H D=none)
  (q:∀σ kvs H',Cv H H'->H' D=some (.dK kvs)->DOk H kvs ns->(∀n∈ns,H' (la kvs n)=some (.lst []))->(∀n∈ns,la kvs n≠D)->Q σ H') :
  Au (P5 0) Ev (Et D (X8 0) (SX Ip)) J σ (HX H D (.dK [])) Q:=by
 obtain⟨v,rfl⟩:=hσ;refine O9 as (λi σ d=>(∃v,σ = [v])/\∃kvs,Cv H d/\d D=some (.dK kvs)/\kvs.length<=i/\DOk H kvs (ns.take i)/\(∀n∈ns.take i,d (la kvs n)=some (.lst []))/\∀n∈ns.take i,la kvs n≠D)
  ⟨⟨v,rfl⟩,[],Cv.new y,A7,BP _,⟨λn h=>by simp at h,λn h=>by simp at h,λn h=>by simp at h⟩,λn h=>by simp at h,λn h=>by simp at h⟩ (λi σ d _ ⟨_,kvs,j,_⟩=>j.at a) ?_ ?_
 .rintro i σ d x N r ⟨⟨v,rfl⟩,kvs,j,u,B,s,l,w⟩ C;rw[AH]at r;have E:i<ns.length:=by
   rcases Nat.lt_or_ge i ns.length with z | z
   .exact z
   .rw[GF z]at r;cases r
  have t:ns[i]?=some ns[i]:=AF E;rw[t]at r;cases r;refine Ci ?_;refine C3 rfl ⟨BP _,λp o=>?_⟩;have f:D≠p:=A9 u o;refine⟨kvs,.inr ns[i],by rw[B7 f];exact u,rfl,by rw[sizeLine_eq];lia,C _ _ ⟨⟨_,rfl⟩,Bf kvs (.inr ns[i]) (.ref p),?_,A7,?_,⟨?_,?_,?_⟩,?_,?_⟩⟩
  .exact(j.trans (Cv.new o)).upd y
  .have:=V3 kvs (Sum.inr ns[i]:IM) (.ref p);lia
  all_goals rw[D8 t]
  .intro n b;rw[Cg,Ea];by_cases e:n=ns[i]
   .rw[AO e,AO e]
   .rw[AI e,AI e];rcases AJ.mp b with z | z
    .exact s.val n z
    .exact absurd (AC.mp z) e
  .intro n b m A;rw[Ea,Ea];have c:∀k∈ns.take i ++ [ns[i]],k≠ns[i]->k∈ns.take i:=λk F e=>(AJ.mp F).elim id λz=>absurd (AC.mp z) e;by_cases e:n=ns[i]
   .by_cases g:m=ns[i]
    .exact λ_=>e.trans g.symm
    .rw[AO e,AI g];intro z;have:=l m (c m A g);rw[<-z,o]at this;cases this
   .by_cases g:m=ns[i]
    .rw[AI e,AO g];intro z;have:=l n (c n b e);rw[z,o]at this;cases this
    .rw[AI e,AI g];exact s.inj n (c n b e) m (c m A g)
  .intro n b;rw[Ea];by_cases e:n=ns[i]
   .rw[AO e];exact j.free o
   .rw[AI e];rcases AJ.mp b with z | z
    .exact s.fr n z
    .exact absurd (AC.mp z) e
  .intro n b;rw[Ea];by_cases e:n=ns[i]
   .rw[AO e,B7 f.symm,A7]
   .rw[AI e];rcases AJ.mp b with z | z
    .rw[B7 (w n z),B7 (A9 (l n z) o)];exact l n z
    .exact absurd (AC.mp z) e
  .intro n b;rw[Ea];by_cases e:n=ns[i]
   .rw[AO e];exact f.symm
   .rw[AI e];rcases AJ.mp b with z | z
    .exact w n z
    .exact absurd (AC.mp z) e
 .rintro σ d ⟨_,kvs,j,u,B,s,l,w⟩;rw[AB]at *;rw[BN]at *;exact q σ kvs d j u s l w
def B2(a:A0 IL)(n:Str):A0 Str:=(a.filter λq=>decide (q.2.2=n)).map λq=>q.2.1
def C2(a:A0 IL)(n:Str):A0 Str:=(a.filter λq=>decide (q.2.1=n)).map λq=>q.2.2
def Bg(a:A0 IL)(q:IL)(n:Str):B2 (a ++ [q]) n=B2 a n ++(if q.2.2=n then [q.2.1]else []):=by
 unfold B2;rw[CT,AL];by_cases e:q.2.2=n
 .rw[AO e,BR,AO (AU e)];rfl
 .rw[AI e,BR,AI (by simp[e])];rfl
def Fd(a:A0 IL)(q:IL)(n:Str):C2 (a ++ [q]) n=C2 a n ++(if q.2.1=n then [q.2.2]else []):=by
 unfold C2;rw[CT,AL];by_cases e:q.2.1=n
 .rw[AO e,BR,AO (AU e)];rfl
 .rw[AI e,BR,AI (by simp[e])];rfl
def wf(a b c d:A3):A0 (Str×V):=[("names",.ref a),("strikes",.ref b),("strikers_by_name",.ref c),("struck_by_name",.ref d)]
structure TL(ns:A0 Str)(qs:A0 IL):Prop where
 nd:ns.Nodup
 len:ns.length<=100
 srt:ns.Pairwise OG
 mem:∀q∈qs,q.2.1∈ns/\q.2.2∈ns
 ndq:(qs.map λq=>q.2).Nodup
 lenq:qs.length<=200
 srq:qs.Pairwise S_
structure IQ(C:A3)(H:Hp)(x:A3)(ns:A0 Str)(qs:A0 IL):Prop where
 ok:TL ns qs
 ex:∃dx a b c d kc kd,H x=some (.ins C dx (wf a b c d))/\H a=some (.lst (ns.map V.str))/\H b=some (.lst (G0 qs))/\(∀q∈qs,G6 H q)/\H c=some (.dK kc)/\H d=some (.dK kd) /\
  (∀n∈ns,∃l,V8 kc (.inr n)=some (.ref l)/\H l=some (.lst ((B2 qs n).map V.str)))/\∀n∈ns,∃l,V8 kd (.inr n)=some (.ref l)/\H l=some (.lst ((C2 qs n).map V.str))
theorem KE:HZ ["self","names","strikes","one","other"] ["self","names","strikes"] (B6 L_):=KL
def Bz(K:VA)(C:A3):Sp:=λf H Q _=>∃(x g n:A3) (b:A0 Str) (a:A3) (ps:A0 IL),f = [.ref x,.ref n,.ref a]/\H x=some (.ins C g [])/\QK K H n (b.map V.str)/\X5 b /\
 H a=some (.lst (G0 ps))/\(∀q∈ps,G6 H q)/\ME b ps/\∀c d e,c.Perm b->c.Pairwise OG->d.Perm ps->d.Pairwise S_->Sm [x] H e->IQ C e x c d->(∀z h u,H z=some (.lst h)->IQ C (HX e z u) x c d)->Q .non e
theorem Q9(T:Tx K mg):II P w K mg base JP 3 T.bt T.bs ["self","names","strikes"] (Bz K T.ad):=by
 refine T.bu.o1 KE λcdv A outer s H vs Q E hr h=>?_
 .obtain⟨x,r,n,ss,a,ps,rfl,hx,hS,hN,hP,hI,hO,k⟩:=h;have hu:=Q2 hr;refine⟨_,(B0 (I9 (E4 T.aS (Da T) (Rm hr) (A6 (pv 1) A8)))
   (B0 (I9 (E4 T.aI (An T) (Rm hr) (A6 (pv 1) (A6 (pv 2) A8))))
   (B0 (QU K (pv 0) (G9 (Um K) T.aC R8 (A6 (pv 1) A8)))
   (B0 (QU K (pv 0) (G9 (Kv K) T.aC R8 (A6 (pv 2) A8)))
   (B0 (QU K (pv 0) (Nh (N':=["name"]) (cap:=[none]) (cl:=[]) (N0 trivial trivial) rfl (MT K (MU K (pv 0))) (λ_ _ _ _=>by exact⟨(LV 0),P0,(pv 0),(E7 A8)⟩)))
   (B0 (QU K (pv 0) (Nh (N':=["name"]) (cap:=[none]) (cl:=[]) (N0 trivial trivial) rfl (MT K (MU K (pv 0))) (λ_ _ _ _=>by exact⟨(LV 0),P0,(pv 0),(E7 A8)⟩)))
   (B5 (U2 PassesOwn.never rfl (MT K (MU K (pv 0))) (QV K (n:=2) (E5 (G5 (i:=3) KE.nd rfl (.inl rfl)) (E5 (G5 (i:=4) KE.nd rfl (.inl rfl)) R0)))
   (B0 (I9 (Li K VG VH VI K7 (U5 hu (MU K (pv 0)) (pv 4) (λ_ _=>rfl)) (A6 (pv 3) A8)))
   (B5 (I9 (Li K VG VH VI K7 (U5 hu (MU K (pv 0)) (pv 3) (λ_ _=>rfl)) (A6 (pv 4) A8))))))))))))),?_⟩
  obtain⟨hN1,hN2,hN3⟩:=id hN;obtain⟨hO1,hO2,hO3⟩:=id hO;refine B3 λZ1 hZ1=>?_;refine C3 rfl ⟨n,ss,rfl,hS,hN,λH1 s1=>?_⟩;refine hZ1 _ _ (B3 λZ2 hZ2=>?_);refine C3 rfl (C3 rfl ⟨n,ss,a,ps,rfl,(s1.at n).seq hS,IC.of (s1 _ _ hP),J2 s1 hI,hO,λH2 s2=>?_⟩);refine hZ2 _ _ (B3 λZ3 hZ3=>?_);have s12:=s1.trans s2;refine C3 rfl ⟨n,ss,rfl,(s12.at n).seq hS,λp j hl1 p1 w1=>?_⟩;have U:x≠p:=A9 (s12 _ _ hx) hl1;refine C3 rfl ⟨x,T.ad,r,[],rfl,by rw[B7 U];exact s12 _ _ hx,T.ag,T.aL,by decide,?_⟩;have hxa:a≠x:=J7 hP hx (by intro z;cases z);have k3:Sm [x] H (HX (HX H2 p (.lst (j.map V.str))) x (.ins T.ad r (P9 "names" (.ref p) []))):=(Sm.new s12.sm hl1).upd (by simp);have e3:(HX (HX H2 p (.lst (j.map V.str))) x (.ins T.ad r (P9 "names" (.ref p) []))) p=some (.lst (j.map V.str)):=by rw[B7 U.symm,A7]
  generalize hH3:HX (HX H2 p (.lst (j.map V.str))) x (.ins T.ad r (P9 "names" (.ref p) []))=H3 at k3 e3⊢;refine hZ3 _ _ (B3 λZ4 hZ4=>?_);have x3:H3 x=some (.ins T.ad r [("names",.ref p)]):=by rw[<-hH3,A7];rfl
  have t:∀{b:A3},b≠x->b∉[x]:=λh z=>h (AC.mp z);have pin3:∀q∈ps,G6 H3 q:=λq J=>k3 _ _ (hI q J) (t (J7 (hI q J) hx (by intro z;cases z)));refine C3 rfl ⟨a,ps,rfl,IC.of (k3 _ _ hP (t hxa)),pin3,λB D hl2 p2 w2=>?_⟩;have W:x≠B:=A9 x3 hl2;refine C3 rfl ⟨x,T.ad,r,[("names",.ref p)],rfl,by rw[B7 W];exact x3,T.ag,T.a2,by simp,?_⟩;have k4:Sm [x] H3 (HX (HX H3 B (.lst (G0 D))) x (.ins T.ad r (P9 "strikes" (.ref B) [("names",.ref p)]))):=(Sm.new (Sm.refl _ _) hl2).upd (by simp);have e4:(HX (HX H3 B (.lst (G0 D))) x (.ins T.ad r (P9 "strikes" (.ref B) [("names",.ref p)]))) B=some (.lst (G0 D)):=by rw[B7 W.symm,A7]
  have Z:(HX (HX H3 B (.lst (G0 D))) x (.ins T.ad r (P9 "strikes" (.ref B) [("names",.ref p)]))) x=some (.ins T.ad r [("names",.ref p),("strikes",.ref B)]):=by rw[A7];rfl
  refine hZ4 _ _ ?_;show TD _ _ _ _ (HX (HX H3 B (.lst (G0 D))) x (.ins T.ad r (P9 "strikes" (.ref B) [("names",.ref p)])));generalize HX (HX H3 B (.lst (G0 D))) x (.ins T.ad r (P9 "strikes" (.ref B) [("names",.ref p)]))=H4 at k4 e4 Z⊢;have f4:H4 p=some (.lst (j.map V.str)):=k4 _ _ e3 (t U.symm);have C:∀q∈D,G6 H4 q:=λq J=>k4 _ _ (pin3 q (p2.mem_iff.mp J)) (t (J7 (pin3 q (p2.mem_iff.mp J)) x3 (by intro z;cases z)));have ndn:j.Nodup:=p1.nodup_iff.mpr hN2;have lnn:j.length<=1000:=by rw[p1.length_eq];lia
  refine B3 λZ5 hZ5=>?_;refine C3 rfl ⟨x,T.ad,r,_,C3 rfl ⟨Z,T.ag,T.aL,rfl,p,rfl,⟨_,IC.of f4⟩,λc hc=>Wr (K:=K) (O_ (IC.of f4)) ⟨_,rfl⟩ ndn lnn hc λ_ N H5 s5 e5 D5 c5 n5=>?_⟩⟩;have x5:=s5 _ _ Z;refine C3 rfl ⟨x,T.ad,r,C3 rfl ⟨x5,T.ag,T.aD,by simp,?_⟩⟩;have k6:Sm [x] H5 (HX H5 x (.ins T.ad r (P9 "strikers_by_name" (.ref c) [("names",.ref p),("strikes",.ref B)]))):=(Sm.refl _ _).upd (by simp);have x6:(HX H5 x (.ins T.ad r (P9 "strikers_by_name" (.ref c) [("names",.ref p),("strikes",.ref B)]))) x=some (.ins T.ad r [("names",.ref p),("strikes",.ref B),("strikers_by_name",.ref c)]):=by rw[A7];rfl
  generalize HX H5 x (.ins T.ad r (P9 "strikers_by_name" (.ref c) [("names",.ref p),("strikes",.ref B)]))=H6 at k6 x6⊢;refine hZ5 _ _ (B3 λZ6 hZ6=>?_);have X:∀{b:A3} {o:HO},H4 b=some o->b≠x->H6 b=some o:=λe I=>k6 _ _ (s5 _ _ e) (t I);have f6:=X f4 U.symm;have g6:=X e4 W.symm;have c6:H6 c=some (.dK N):=k6 _ _ e5 (t (A9 Z hc).symm);have cl6:∀n∈j,H6 (la N n)=some (.lst []):=λn f=>k6 _ _ (c5 n f) (t (A9 Z (D5.fr n f)).symm);refine C3 rfl ⟨x,T.ad,r,_,C3 rfl ⟨x6,T.ag,T.aL,rfl,p,rfl,⟨_,IC.of f6⟩,λd hd=>Wr (K:=K) (O_ (IC.of f6)) ⟨_,rfl⟩ ndn lnn hd λ_ O H7 s7 e7 D7 c7 n7=>?_⟩⟩;have x7:=s7 _ _ x6;refine C3 rfl ⟨x,T.ad,r,C3 rfl ⟨x7,T.ag,T.aF,by simp,?_⟩⟩;have k8:Sm [x] H7 (HX H7 x (.ins T.ad r (P9 "struck_by_name" (.ref d) [("names",.ref p),("strikes",.ref B),("strikers_by_name",.ref c)]))):=(Sm.refl _ _).upd (by simp);have x8:(HX H7 x (.ins T.ad r (P9 "struck_by_name" (.ref d) [("names",.ref p),("strikes",.ref B),("strikers_by_name",.ref c)]))) x=some (.ins T.ad r (wf p B c d)):=by rw[A7];rfl
  generalize HX H7 x (.ins T.ad r (P9 "struck_by_name" (.ref d) [("names",.ref p),("strikes",.ref B),("strikers_by_name",.ref c)]))=H8 at k8 x8⊢;refine hZ6 _ _ ?_;have Y:∀{b:A3} {o:HO},H6 b=some o->b≠x->H8 b=some o:=λe I=>k8 _ _ (s7 _ _ e) (t I);have f8:=Y f6 U.symm;have g8:=Y g6 W.symm;have c8:=Y c6 (A9 Z hc).symm;have d8:H8 d=some (.dK O):=k8 _ _ e7 (t (A9 x6 hd).symm);have cl8:∀n∈j,H8 (la N n)=some (.lst []):=λn f=>Y (cl6 n f) (A9 Z (D5.fr n f)).symm;have dl8:∀n∈j,H8 (la O n)=some (.lst []):=λn f=>k8 _ _ (c7 n f) (t (A9 x6 (D7.fr n f)).symm);have pin8:∀q∈D,G6 H8 q:=λq J=>Y (X (C q J) (J7 (C q J) Z (by intro z;cases z))) (J7 (C q J) Z (by intro z;cases z));have dif:∀n∈j,∀m∈j,la N n≠la O m:=λn f m M=>A9 (cl6 n f) (D7.fr m M);have L:∀{b:A3} {o:HO},H4 b=some o->b≠x->(∀n∈j,b≠la N n)/\∀n∈j,b≠la O n:=λe I=>⟨λn f=>A9 e (D5.fr n f),λn f=>A9 (X e I) (D7.fr n f)⟩;have kall:Sm [x] H H8:=λb o e I=>by
   have hb':b≠x:=λz=>I (by simp[z]);exact Y (X (k4 _ _ (k3 _ _ e I) I) hb') hb'
  have odif:∀{b:A3} {o:HO},H b=some o->b≠x->(∀n∈j,b≠la N n)/\∀n∈j,b≠la O n:=λe I=>L (k4 _ _ (k3 _ _ e (t I)) (t I)) I;have xdif:(∀n∈j,x≠la N n)/\∀n∈j,x≠la O n:=⟨λn f=>A9 Z (D5.fr n f),λn f=>A9 x6 (D7.fr n f)⟩;have cdif:(∀n∈j,c≠la N n)/\∀n∈j,c≠la O n:=⟨λn f=>(n5 n f).symm,λn f=>A9 c6 (D7.fr n f)⟩;have ddif:(∀n∈j,d≠la N n)/\∀n∈j,d≠la O n:=⟨λn f=>(A9 (cl6 n f) hd).symm,λn f=>(n7 n f).symm⟩;refine⟨_,rfl,x,T.ad,r,_,_,rfl,x8,T.ag,T.a2,rfl,B,rfl,⟨_,IC.of g8⟩,Fr (O_ (IC.of g8)) (λi σ S=>(∃v3 v4,σ = [some (.ref x),some (.ref n),some (.ref a),v3,v4]) /\
   (∀b o,H8 b=some o->((∀n∈j,b≠la N n)/\∀n∈j,b≠la O n)->S b=some o)/\(∀n∈j,S (la N n)=some (.lst ((B2 (D.take i) n).map V.str)))/\∀n∈j,S (la O n)=some (.lst ((C2 (D.take i) n).map V.str)))
   ⟨⟨_,_,rfl⟩,λb o e _=>e,cl8,dl8⟩ ?_ ?_ ?_⟩
  .rintro i σ S _ ⟨_,R,_⟩ o e;exact R _ _ e (L e4 W.symm)
  .rintro i σ S v hv ⟨⟨v3,v4,rfl⟩,R,h2,h3⟩ D1 hD1 _;unfold G0 at hv;rw[AH]at hv;cases J:D[i]? with
   | none=>rw[J]at hv;cases hv
   | some q =>
    rw[J]at hv;cases hv;have M:q∈D:=BB J;have hq9:G6 S q:=R _ _ (pin8 q M) (L (C q M) (J7 (C q M) Z (by intro z;cases z)));obtain⟨m1,m2⟩:=hO1 q (p2.mem_iff.mp M);have m1:q.2.1∈j:=p1.mem_iff.mpr m1;have m2:q.2.2∈j:=p1.mem_iff.mpr m2;have hlen:∀l:A0 IL,l.length<=200->∀n,(B2 l n).length<=200/\(C2 l n).length<=200:=λl hl n=>by
     unfold B2 C2;rw[AB,AB];exact⟨VE (BC ..) hl,VE (BC ..) hl⟩
    have hl200:(D.take i).length<=200:=by
     rw[A_];have:=p2.length_eq;lia
    have x9:S x=some (.ins T.ad r (wf p B c d)):=R _ _ x8 xdif;refine⟨q.1,C3 rfl ⟨IZ.of hq9,rfl,_,C3 rfl (B9 rfl rfl ?_)⟩⟩;refine C3 rfl ⟨x,T.ad,r,_,C3 rfl ⟨x9,T.ag,T.aD,rfl,C3 rfl ⟨c,.ref (la N q.2.2),rfl,by rw[<-D5.val _ m2];exact LC.k (k:=Sum.inr q.2.2) (R _ _ c8 cdif),.inl ⟨rfl,_,IC.of (h2 _ m2)⟩,C3 rfl ⟨_,B9 rfl rfl ⟨h2 _ m2,?_,?_⟩⟩⟩⟩⟩
    .rw[AB,sizeLine_eq];have:=(hlen _ hl200 q.2.2).1;lia
    have x10:(HX S (la N q.2.2) (.lst ((B2 (D.take i) q.2.2).map V.str ++ [.str q.2.1]))) x=some (.ins T.ad r (wf p B c d)):=by rw[B7 (xdif.1 _ m2)];exact x9
    have d10:(HX S (la N q.2.2) (.lst ((B2 (D.take i) q.2.2).map V.str ++ [.str q.2.1]))) d=some (.dK O):=by rw[B7 (ddif.1 _ m2)];exact R _ _ d8 ddif
    have l10:(HX S (la N q.2.2) (.lst ((B2 (D.take i) q.2.2).map V.str ++ [.str q.2.1]))) (la O q.2.1)=some (.lst ((C2 (D.take i) q.2.1).map V.str)):=by rw[B7 (dif _ m2 _ m1).symm];exact h3 _ m1
    refine C3 rfl ⟨x,T.ad,r,_,C3 rfl ⟨x10,T.ag,T.aF,rfl,C3 rfl ⟨d,.ref (la O q.2.1),rfl,by rw[<-D7.val _ m1];exact LC.k (k:=Sum.inr q.2.1) d10,.inl ⟨rfl,_,IC.of l10⟩,C3 rfl ⟨_,B9 rfl rfl ⟨l10,?_,?_⟩⟩⟩⟩⟩
    .rw[AB,sizeLine_eq];have:=(hlen _ hl200 q.2.1).2;lia
    refine hD1 _ _ ⟨⟨_,_,rfl⟩,λb o e I=>?_,λm M=>?_,λm M=>?_⟩
    .rw[B7 (I.2 _ m1),B7 (I.1 _ m2)];exact R b o e I
    .rw[B7 (dif m M _ m1),D8 J,Bg];by_cases e:q.2.2=m
     .rw[<-e,A7,AO rfl,AL];rfl
     .rw[AI e,CC,B7 (λz=>e (D5.inj _ M _ m2 z).symm)];exact h2 m M
    .rw[D8 J,Fd];by_cases e:q.2.1=m
     .rw[<-e,A7,AO rfl,AL];rfl
     .rw[AI e,CC,B7 (λz=>e (D7.inj _ M _ m1 z).symm),B7 (dif _ m2 _ M).symm];exact h3 m M
  .rintro σ S ⟨_,R,h2,h3⟩;have hlq:(G0 D).length=D.length:=by unfold G0;rw[AB]
   rw[hlq,BN]at h2 h3;have mk:∀G:Hp,(∀b o,S b=some o->(b=x\/b=p\/b=B\/b=c\/b=d\/(∃q∈D,b=q.1)\/(∃n∈j,b=la N n)\/∃n∈j,b=la O n)->G b=some o)->IQ T.ad G x j D:=λG g =>
    ⟨⟨ndn,by rw[p1.length_eq];exact hN3,w1,λq J=>⟨p1.mem_iff.mpr (hO1 q (p2.mem_iff.mp J)).1,p1.mem_iff.mpr (hO1 q (p2.mem_iff.mp J)).2⟩,(p2.map _).nodup_iff.mpr hO2,by rw[p2.length_eq];exact hO3,w2⟩,r,p,B,c,d,N,O,g _ _ (R _ _ x8 xdif) (.inl rfl),g _ _ (R _ _ f8 (L f4 U.symm)) (.inr (.inl rfl)),g _ _ (R _ _ g8 (L e4 W.symm)) (.inr (.inr (.inl rfl))),
     λq M=>g _ _ (R _ _ (pin8 q M) (L (C q M) (J7 (C q M) Z (by intro z;cases z)))) (.inr (.inr (.inr (.inr (.inr (.inl ⟨q,M,rfl⟩)))))),g _ _ (R _ _ c8 cdif) (.inr (.inr (.inr (.inl rfl)))),g _ _ (R _ _ d8 ddif) (.inr (.inr (.inr (.inr (.inl rfl))))),
     λn f=>⟨_,D5.val n f,g _ _ (h2 n f) (.inr (.inr (.inr (.inr (.inr (.inr (.inl ⟨n,f,rfl⟩)))))))⟩,λn f=>⟨_,D7.val n f,g _ _ (h3 n f) (.inr (.inr (.inr (.inr (.inr (.inr (.inr ⟨n,f,rfl⟩)))))))⟩⟩
   refine k j D S p1 w1 p2 w2 (λb o e I=>?_) (mk S λb o e _=>e) λz zs u hz=>mk _ λb o e I=>?_
   .have hb':b≠x:=λz=>I (by simp[z]);exact R _ _ (kall b o e I) (odif e hb')
   .have zx:z≠x:=J7 hz hx (by intro y;cases y);have z3:=k3 _ _ hz (t zx);have z4:=k4 _ _ z3 (t zx);have nz:b≠z:=by
     rcases I with rfl | rfl | rfl | rfl | rfl | ⟨q,J,rfl⟩ | ⟨n,f,rfl⟩ | ⟨n,f,rfl⟩
     .exact zx.symm
     .exact(A9 (s12 _ _ hz) hl1).symm
     .exact(A9 z3 hl2).symm
     .exact(A9 z4 hc).symm
     .exact(A9 (X z4 zx) hd).symm
     .exact J7 (hI q (p2.mem_iff.mp J)) hz (by intro y;cases y)
     .exact((odif hz zx).1 n f).symm
     .exact((odif hz zx).2 n f).symm
    rw[B7 nz];exact e
def IQ.same{C:A3}{H H':Hp}{x:A3}{ns:A0 Str}{g:A0 IL}(h:IQ C H x ns g)(s:Cv H H'):IQ C H' x ns g:=by
 obtain⟨i,j,a,b,c,d,k,m,o,p,q,r,t,u,w,y⟩:=h;exact⟨i,j,a,b,c,d,k,m,s _ _ o,s _ _ p,s _ _ q,J2 s r,s _ _ t,s _ _ u,λn f=>let⟨l,v,e⟩:=w n f;⟨l,v,s _ _ e⟩,λn f=>let⟨l,v,e⟩:=y n f;⟨l,v,s _ _ e⟩⟩
theorem Al:HZ ["self"] ["self"] (B6 LP):=KL
def Il(C:A3):Sp:=λb H Q _=>∃(x:A3) (a:A0 Str) (c:A0 IL),b = [.ref x]/\IQ C H x a c/\∀l,H l=none->Q (.ref l) (HX H l (.lst (a.map V.str)))
theorem E3(T:Tx K mg):II P w K mg base JP 1 T.ac.f T.ac.fd ["self"] (Il T.ad):=by
 refine T.ac.F.o1 Al λg A e s H m Q E n h=>?_
 .obtain⟨x,o,p,rfl,⟨q,i,a,b,c,d,r,t,j,l,u,v,y,z,B,C⟩,k⟩:=h;refine⟨_,(B5 (C0 (X3 (S7 K) T.aw P1 (A6 (MU K (pv 0)) A8)))),?_⟩;exact⟨_,rfl,x,T.ad,i,_,_,rfl,j,T.ag,T.aL,rfl,a,_,rfl,.inl (IC.of l),k⟩
theorem Ao:HZ ["self","name"] ["self","name"] (B6 LO):=KL
def Gn(C:A3):Sp:=λb H Q _=>∃(x:A3) (n:Str) (a:A0 Str) (c:A0 IL),b = [.ref x,.str n]/\IQ C H x a c/\n∈a/\Q .non H
theorem O0(T:Tx K mg):II P w K mg base JP 1 T.aj.f T.aj.fd ["self","name"] (Gn T.ad):=by
 refine T.aj.F.o1 Ao λg A e s H o Q E p h=>?_
 .obtain⟨x,n,q,r,rfl,⟨t,i,a,b,c,d,u,v,j,l,y,z,B,C,D,G⟩,m,k⟩:=h;refine⟨_,(B5 (K0 (B8 (T6 K) (pv 1) (MU K (pv 0)) rfl) (B5 Y0) D9)),?_⟩;refine C3 rfl (C3 rfl ⟨x,T.ad,i,_,C3 rfl ⟨j,T.ag,T.aL,rfl,P4 (.inl (IC.of l)) ⟨_,rfl,?_⟩⟩⟩);rw[AU m];exact N8 k
theorem n8:HZ ["self"] ["self"] (B6 KY):=KL
def Cu(C:A3):Sp:=λb H Q _=>∃(x:A3) (c:A0 Str) (a:A0 IL),b = [.ref x]/\IQ C H x c a/\∀l,H l=none->Q (.ref l) (HX H l (.lst (G0 a)))
theorem J4(T:Tx K mg):II P w K mg base JP 1 T.ae.f T.ae.fd ["self"] (Cu T.ad):=by
 refine T.ae.F.o1 n8 λg A e s H m Q E n h=>?_
 .obtain⟨x,o,p,rfl,⟨q,i,a,b,c,d,r,t,j,u,l,v,y,z,B,C⟩,k⟩:=h;refine⟨_,(B5 (C0 (X3 (S7 K) T.aw P1 (A6 (MU K (pv 0)) A8)))),?_⟩;exact⟨_,rfl,x,T.ad,i,_,_,rfl,j,T.ag,T.a2,rfl,b,_,rfl,.inl (IC.of l),k⟩
theorem Fb:HZ ["self","name"] ["self","name"] (B6 NE):=KL
def Qb(C:A3):Sp:=λc H Q _=>∃(x:A3) (n:Str) (a:A0 Str) (b:A0 IL),c = [.ref x,.str n]/\IQ C H x a b/\n∈a/\∀l,H l=none->Q (.ref l) (HX H l (.lst ((C2 b n).map V.str)))
theorem V0(T:Tx K mg):II P w K mg base JP 2 T.as.f T.as.fd ["self","name"] (Qb T.ad):=by
 refine T.as.F.o1 Fb λr A g s H C Q E i h=>?_
 .obtain⟨x,n,t,u,rfl,j,o,k⟩:=h;have y:=Q2 i;obtain⟨D,p,a,b,c,d,G,I,q,J,L,M,N,z,O,B⟩:=id j;refine⟨_,(B0 (I9 (P2 (pv 0) T.ag T.aj.m (O0 T) (Rm i) T.aj.b .nil J6 (A6 (pv 1) A8)))
   (B5 (C0 (X3 (S7 K) T.aw P1 (A6 (U5 y (MU K (pv 0)) (pv 1) (λ_ _=>rfl)) A8))))),?_⟩
  refine C3 rfl ⟨x,p,C3 rfl ⟨q,rfl,C3 rfl ⟨x,n,t,u,rfl,j,o,?_⟩⟩⟩;obtain⟨l,v,e⟩:=B n o;exact⟨_,rfl,x,T.ad,p,_,_,rfl,q,T.ag,T.aF,rfl,_,rfl,d,_,rfl,by rw[<-v];exact LC.k (k:=Sum.inr n) z,l,_,rfl,.inl (IC.of e),k⟩
theorem Cm:HZ ["self","name"] ["self","name"] (B6 L0):=KL
def Ir(C:A3):Sp:=λc H Q _=>∃(x:A3) (n:Str) (a:A0 Str) (b:A0 IL),c = [.ref x,.str n]/\IQ C H x a b/\n∈a/\∀l,H l=none->Q (.ref l) (HX H l (.lst ((B2 b n).map V.str)))
theorem W6(T:Tx K mg):II P w K mg base JP 2 T.av.f T.av.fd ["self","name"] (Ir T.ad):=by
 refine T.av.F.o1 Cm λr A g s H C Q E i h=>?_
 .obtain⟨x,n,t,u,rfl,j,o,k⟩:=h;have y:=Q2 i;obtain⟨D,p,a,b,c,d,G,I,q,J,L,M,z,N,B,O⟩:=id j;refine⟨_,(B0 (I9 (P2 (pv 0) T.ag T.aj.m (O0 T) (Rm i) T.aj.b .nil J6 (A6 (pv 1) A8)))
   (B5 (C0 (X3 (S7 K) T.aw P1 (A6 (U5 y (MU K (pv 0)) (pv 1) (λ_ _=>rfl)) A8))))),?_⟩
  refine C3 rfl ⟨x,p,C3 rfl ⟨q,rfl,C3 rfl ⟨x,n,t,u,rfl,j,o,?_⟩⟩⟩;obtain⟨l,v,e⟩:=B n o;exact⟨_,rfl,x,T.ad,p,_,_,rfl,q,T.ag,T.aD,rfl,_,rfl,c,_,rfl,by rw[<-v];exact LC.k (k:=Sum.inr n) z,l,_,rfl,.inl (IC.of e),k⟩
def U1{K:VA}{a D:A3}{ts:A0 Str}{r:St}{k:TT}{H:Hp}{Q:St->Hp->Prop}(p:Str->Bool)(e:H a=some (.lst (ts.map V.str)))(w:ts.length<=1000)(l:H D=none)
  (x:∀y∈ts,∀j,Cv H j->∀m:Bool->Hp->Prop,(∀f,Cv j f->m (p y) f)->k (some (.str y)::r) j m) (h:∀σ f,Cv H f->f D=some (.lst ((ts.filter p).map V.str))->Q σ f) (n:A5 V) :
  Au (P5 0) k (Y6 D (X8 0)) (P7 K a) (n::r) (HX H D (.lst [])) Q:=by
 refine O9 (O_ (K:=K) (IC.of e)) (λi σ g=>(∃v,σ=v::r)/\Cv H g/\g D=some (.lst (((ts.take i).filter p).map V.str)))
  ⟨⟨_,rfl⟩,Cv.new l,A7⟩ (λi σ j _ ⟨_,z,_⟩=>z.at a) ?_ ?_
 .rintro i σ g v N o ⟨⟨n,rfl⟩,b,d⟩ q;rw[AH]at o;obtain⟨y,s,rfl⟩:=BH.mp o;refine x y (BB s) g b _ λA t=>?_;have d:=t _ _ d;have b:=b.trans t;have u:(ts.take (i+1)).filter p =(ts.take i).filter p++if p y=true then [y]else []:=by
   rw[D8 s,CT,BR,D_]
  have B:(((ts.take i).filter p).map V.str).length<=1000:=by
   rw[AB];have:=BC p (ts.take i);rw[A_]at this;lia
  refine Y7 (λc=>C3 rfl ⟨_,d,by rw[sizeLine_eq];lia,q _ _ ⟨⟨_,rfl⟩,b.upd l,?_⟩⟩) (λc=>q _ _ ⟨⟨_,rfl⟩,b,?_⟩)
  .rw[A7,u,AO c,AL];rfl
  .rw[u,AI c,CC];exact d
 .rintro σ g ⟨_,b,d⟩;rw[AB,BN]at d;exact h σ g b d
abbrev OK:Str := "in"
abbrev KU:Str := "out"
abbrev NY:Str := "open"
def WD(kvs:A0 (IM×V))(f:Str->A5 Str):Prop:=∀n,V8 kvs (.inr n) =(f n).map V.str
def Xl(f:Str->A5 Str)(l:A0 Str)(w:Str)(n:Str):A5 Str:=if n∈l then some w else f n
def N7{f:Str->A5 Str}{l:A0 Str}{w n:Str}(h:n∈l):Xl f l w n=some w:=AO h
def J3{f:Str->A5 Str}{l:A0 Str}{w n:Str}(h:n∉l):Xl f l w n=f n:=AI h
def WD.mrg{w:Str}:∀{l:A0 Str} {kvs:A0 (IM×V)} {f:Str->A5 Str},WD kvs f->WD (X0 kvs (l.map λn=>(Sum.inr n,V.str w))) (Xl f l w)
 | [],_,_,h=>λn=>by rw[J3 AQ];exact h n
 | a::l,kvs,f,h=>λn=>by
  have c:WD (Bf kvs (.inr a) (.str w)) (Xl f [a] w):=λm=>by
   rw[Cg];by_cases e:m=a
   .rw[AO e,N7 (AC.mpr e)];rfl
   .rw[AI e,J3 λz=>e (AC.mp z)];exact h m
  refine(WD.mrg (l:=l) c n).trans ?_;by_cases e:n∈l
  .rw[N7 e,N7 (AN _ e)]
  .rw[J3 e];by_cases b:n=a
   .rw[N7 (AC.mpr b),N7 (b▸AZ ..)]
   .rw[J3 λz=>b (AC.mp z),J3 λz=>(AW.mp z).elim b e]
def C4(a:A0 IL)(f:Str->A5 Str)(n:Str):Bool:=((B2 a n).map λy=>decide (f y=some KU)).all id
def K8(a:A0 IL)(f:Str->A5 Str)(n:Str):Bool:=((B2 a n).map λy=>decide (f y=some OK)).any id
def OH{b:A0 IL}{f:Str->A5 Str}{n:Str}:C4 b f n=true↔∀y∈B2 b n,f y=some KU:=by
 unfold C4;rw[List.all_map,EJ];exact⟨λh y a=>BV (h y a),λh y a=>AU (h y a)⟩
def OV{b:A0 IL}{f:Str->A5 Str}{n:Str}:K8 b f n=true↔∃y∈B2 b n,f y=some OK:=by
 unfold K8;rw[List.any_map,GP];exact⟨λ⟨y,a,h⟩=>⟨y,a,BV h⟩,λ⟨y,a,h⟩=>⟨y,a,AU h⟩⟩
def zCt{K:VA}{a D:A3}{ts:A0 Str}{r:St}{l:TE}{H:Hp}{Q:St->Hp->Prop}(g:Str->V)(e:H a=some (.lst (ts.map V.str)))(s:ts.length<=1000)(m:H D=none)
  (t:∀y∈ts,∀d,Cv H d->∀n:VK,(∀b,Cv d b->n (g y) b)->l (some (.str y)::r) d n) (h:∀σ b,Cv H b->b D=some (.lst (ts.map g))->Q σ b) (o:A5 V) :
  Au (P5 0) Ev (Y6 D l) (P7 K a) (o::r) (HX H D (.lst [])) Q:=by
 refine O9 (O_ (K:=K) (IC.of e)) (λi σ c=>(∃v,σ=v::r)/\Cv H c/\c D=some (.lst ((ts.take i).map g)))
  ⟨⟨_,rfl⟩,Cv.new m,A7⟩ (λi σ d _ ⟨_,u,_⟩=>u.at a) ?_ ?_
 .rintro i σ c v N p ⟨⟨o,rfl⟩,f,j⟩ w;rw[AH]at p;obtain⟨y,k,rfl⟩:=BH.mp p;have x:=(AM.mp k).1;refine Ci (t y (BB k) c f _ λz q=>⟨_,q _ _ j,?_,w _ _ ⟨⟨_,rfl⟩,(f.trans q).upd m,?_⟩⟩)
  .rw[AB,A_,sizeLine_eq];lia
  .rw[A7,D8 k,AL];rfl
 .rintro σ c ⟨_,f,j⟩;rw[AB,BN]at j;exact h σ c f j
def Kp{K:VA}{a D:A3}{ts:A0 Str}{r:St}{f:TE}{H:Hp}{Q:St->Hp->Prop}(p:Str->Bool)(e:H a=some (.lst (ts.map V.str)))(c:ts.length<=1000)(j:H D=none)
  (k:∀y∈ts,∀d,Cv H d->∀g:VK,(∀b,Cv d b->g (.bl (p y)) b)->f (some (.str y)::r) d g) (h:∀σ b,Cv H b->b D=some (.lst ((ts.map p).map V.bl))->Q σ b) (i:A5 V) :
  Au (P5 0) Ev (Y6 D f) (P7 K a) (i::r) (HX H D (.lst [])) Q:=zCt (λy=>V.bl (p y)) e c j k (λσ b l m=>h σ b l (by rw[m,BW];rfl)) i
def Lv{K:VA}{a D:A3}{ts:A0 Str}{w:Str}{H:Hp}{Q:St->Hp->Prop}(e:H a=some (.lst (ts.map V.str)))(o:ts.Nodup)(p:ts.length<=1000)(k:H D=none)
  (h:∀σ f,Cv H f->f D=some (.dK (ts.map λn=>(Sum.inr n,V.str w)))->Q σ f) (l:A5 V) :
  Au (P5 0) Ev (Et D (X8 0) (tC (.str w))) (P7 K a) [l] (HX H D (.dK [])) Q:=by
 refine O9 (O_ (K:=K) (IC.of e)) (λi σ b=>(∃v,σ = [v])/\Cv H b/\b D=some (.dK ((ts.take i).map λn=>(Sum.inr n,V.str w))))
  ⟨⟨_,rfl⟩,Cv.new k,A7⟩ (λi σ t _ ⟨_,q,_⟩=>q.at a) ?_ ?_
 .rintro i σ b v N m ⟨⟨l,rfl⟩,g,d⟩ r;rw[AH]at m;obtain⟨y,j,rfl⟩:=BH.mp m;have u:=(AM.mp j).1;refine Ci (C3 rfl ⟨_,.inr y,d,rfl,?_,r _ _ ⟨⟨_,rfl⟩,g.upd k,?_⟩⟩)
  .rw[AB,A_,sizeLine_eq];lia
  .rw[A7];unfold Bf;rw[AI,D8 j,AL];rfl;rw[List.any_map,GP];rintro⟨z,s,c⟩;have c:(Sum.inr z:IM) = .inr y:=BV c;cases c;exact Y1 o j s
 .rintro σ b ⟨_,g,d⟩;rw[AB,BN]at d;exact h σ b g d
abbrev Row:Type:=Str×Str×V
def RL(H:Hp)(l:A3)(a:A0 (A3×Row)):Prop:=H l=some (.lst (a.map λq=>V.ref q.1))/\∀q∈a,H q.1=some (.tup [.str q.2.1,.str q.2.2.1,q.2.2.2])
def RL.same{H H':Hp}{l:A3}{a:A0 (A3×Row)}(h:RL H l a)(s:Cv H H'):RL H' l a:=⟨s _ _ h.1,λq b=>s _ _ (h.2 q b)⟩
def RL.app{H H':Hp}{a b c:A3}{d ts:A0 (A3×Row)}(h:RL H a d)(h':RL H b ts)(e:H' c=some (.lst ((d.map λq=>V.ref q.1)++ts.map λq=>V.ref q.1)))(k:∀q o,H q=some (.tup o)->H' q=some (.tup o)):RL H' c (d++ts) :=
 ⟨by rw[e,AL],λq f=>k _ _ ((AJ.mp f).elim (h.2 q) (h'.2 q))⟩
def Zn{K:VA}{a D:A3}{ts:A0 Str}{B:TA}{r:St}{H:Hp}{Q:St->Hp->Prop}{C:TT}(p:Str->Bool)(g:Str->A0 V)(L:∀y,(g y).length<=3)(e:H a=some (.lst (ts.map V.str)))(M:ts.length<=1000)(E:H D=none)(O:∀y d (l:A0 V->Hp->Prop),l (g y) d->B (some (.str y)::r) d l)
  (s:∀y∈ts,∀d,Cv H d->∀l:Bool->Hp->Prop,l (p y) d->C (some (.str y)::r) d l)
  (h:∀σ (b:A0 (A3×Str)) u,Cv H u->u D=some (.lst (b.map λq=>V.ref q.1))->(∀q∈b,u q.1=some (.tup (g q.2)))->b.map (λq=>q.2)=ts.filter p->Q σ u) (F:A5 V) :
  Au (P5 0) C (Y6 D (zEk B)) (P7 K a) (F::r) (HX H D (.lst [])) Q:=by
 refine O9 (O_ (K:=K) (IC.of e)) (λi σ f=>(∃v,σ=v::r)/\Cv H f/\∃b:A0 (A3×Str),f D=some (.lst (b.map λq=>V.ref q.1))/\(∀q∈b,f q.1=some (.tup (g q.2)))/\b.map (λq=>q.2) =(ts.take i).filter p)
  ⟨⟨_,rfl⟩,Cv.new E,[],A7,λq h=>absurd h AQ,rfl⟩ (λi σ d _ ⟨_,P,_⟩=>P.at a) ?_ ?_
 .rintro i σ f v N G ⟨⟨F,rfl⟩,m,b,j,n,k⟩ I;rw[AH]at G;obtain⟨y,w,rfl⟩:=BH.mp G;have U:=(AM.mp w).1;have R:=congrArg List.length k;rw[AB]at R;have S:=BC p (ts.take i);rw[A_]at S;have J:(ts.take (i+1)).filter p =(ts.take i).filter p++if p y=true then [y]else []:=by
   rw[D8 w,CT,BR,D_]
  refine s y (BB w) f m _ ?_;refine Y7 (λc=>O _ _ _ ⟨VE (L y) (by show 3<=sizeLine;decide),λt s=>?_⟩) (λc=>I _ _ ⟨⟨_,rfl⟩,m,b,j,n,by rw[J,AI c,CC];exact k⟩);have x:=Cv.new (o:=.tup (g y)) s;have A:t≠D:=(A9 j s).symm;refine⟨_,x _ _ j,by rw[AB,sizeLine_eq];lia,I _ _ ⟨⟨_,rfl⟩,(m.trans x).upd E,b ++ [(t,y)],by rw[A7,AL];rfl,λq T=>?_,by rw[J,AO c,AL,k];rfl⟩⟩;rcases AJ.mp T with c | c
  .exact(B7 (J7 (n q c) j (by intro z;cases z))).trans (x _ _ (n q c))
  .rw[AC.mp c];exact(B7 A).trans A7
 .rintro σ f ⟨_,m,b,j,n,k⟩;rw[AB,BN]at k;exact h σ b f m j n k
def Jf{K:VA}{a D:A3}{ts:A0 Str}{w:Str}{v3:V}{j:TE}{r:St}{H:Hp}{Q:St->Hp->Prop}{k:TT}(p:Str->Bool)(e:H a=some (.lst (ts.map V.str)))(g:ts.length<=1000)(m:H D=none)(o:∀y b (c:VK),c v3 b->j (some (.str y)::r) b c)
  (s:∀y∈ts,∀b,Cv H b->∀c:Bool->Hp->Prop,c (p y) b->k (some (.str y)::r) b c)
  (h:∀σ f d,Cv H d->RL d D f->f.map (λq=>q.2) =(ts.filter p).map (λn=>(n,w,v3))->Q σ d) (l:A5 V) :
  Au (P5 0) k (Y6 D (zEk (V4 (X8 0) (V4 (tC (.str w)) (V4 j Ip))))) (P7 K a) (l::r) (HX H D (.lst [])) Q :=
 Zn p (λy=>[.str y,.str w,v3]) (λ_=>VD _) e g m (λy b c i=>⟨_,rfl,o _ _ _ i⟩) s (λσ f d t u v x=>h σ (f.map λq=>(q.1,q.2,w,v3)) d t ⟨by rw[u,BW];rfl,λq i=>let⟨z,A,e⟩:=BJ.mp i;e▸v z A⟩ (by rw[<-x,BW,BW];rfl)) l
def y4{l:A0 Str}:l.filter (λ_=>true)=l:=List.filter_eq_self.mpr λ_ _=>rfl
def Iv(C:A3):Sp:=λe H Q _=>∃(x d:A3) (c:A0 Str) (g:A0 IL) (a:A0 (IM×V)) (f:Str->A5 Str),e = [.ref x,.ref d]/\IQ C H x c g/\H d=some (.dK a)/\WD a f/\∀l b,Cv H b->H l=none->b l=some (.lst ((c.filter λn=>(f n).isNone).map V.str))->Q (.ref l) b
theorem Jb:HZ ["web","words"] ["web","words"] (B6 N_):=KL
theorem i6(T:Tx K mg):II P w K mg base JP 2 T.aN.f T.aN.fd ["web","words"] (Iv T.ad):=by
 refine T.aN.F.o1 Jb λz A j s H S Q E r h=>?_
 .obtain⟨x,d,a,B,C,f,rfl,t,G,I,k⟩:=h;have J:=Q2 r;refine⟨_,(B5 (C0 (U7 (N':=["name","words"]) (cap:=[none,some 1]) (cl:=[("words",_)]) (N0 ⟨⟨rfl,rfl,rfl,rfl⟩,trivial⟩ ⟨rfl,trivial⟩) rfl (MT K (I0 (pv 0) T.ag T.ac.m (E3 T) (Rm r) T.ac.b .nil J6)) (λ_ _ _ _=>by exact⟨(LV 0),(K5 (zBy (Ss J (pv 0) (pv 1)))),(pv 0)⟩)))),?_⟩;obtain⟨L,M,U,b,c,W,X,Y,N,_⟩:=id t;have Z:=L.len;refine C3 rfl ⟨x,M,C3 rfl ⟨N,rfl,x,a,B,rfl,t,λg l=>?_⟩⟩;have i:=Cv.new (o:=.lst (a.map V.str)) l;have p:(HX H g (.lst (a.map V.str))) g=some (.lst (a.map V.str)):=A7;generalize HX H g (.lst (a.map V.str))=H2 at i p⊢;refine⟨g,rfl,⟨_,IC.of p⟩,λD u=>?_⟩;refine U1 (λn=>(f n).isNone) p (by lia) u (λy hy v q Q' O=>?_) (λσ v q R=>k D v (i.trans q) (i.free u) R) _;refine C3 rfl (C3 rfl ⟨d,_,rfl,LC.k (k:=Sum.inr y) (q _ _ (i _ _ G)),_,rfl,?_⟩);rw[I y];have e:(!((f y).map V.str).isSome) =(f y).isNone:=by cases f y<;>rfl
  rw[e];exact O _ λb o e=>e
def Oc(C:A3):Sp:=λg H Q _=>∃(x d:A3) (n:Str) (b:A0 Str) (c:A0 IL) (a:A0 (IM×V)) (f:Str->A5 Str),g = [.ref x,.ref d,.str n]/\IQ C H x b c/\n∈b/\H d=some (.dK a)/\WD a f/\∀e,Cv H e->Q (.bl (C4 c f n)) e
def Qs(C:A3):Sp:=λg H Q _=>∃(x d:A3) (n:Str) (b:A0 Str) (c:A0 IL) (a:A0 (IM×V)) (f:Str->A5 Str),g = [.ref x,.ref d,.str n]/\IQ C H x b c/\n∈b/\H d=some (.dK a)/\WD a f/\∀e,Cv H e->Q (.bl (K8 c f n)) e
theorem Wv{H:Hp}{d:A3}{kvs:A0 (IM×V)}{f:Str->A5 Str}{y w:Str}{r:St}{Q:VK}(a:H d=some (.dK kvs))(b:WD kvs f)(h:Q (.bl (decide (f y=some w))) H):ON rEq (Kf (X8 1) (X8 0)) (tC (.str w)) (some (.str y)::some (.ref d)::r) H Q:=by
 refine C3 rfl ⟨d,rfl,.inl ⟨kvs,.inl a⟩,C3 rfl ⟨_,LC.k (k:=Sum.inr y) a,?_⟩⟩;rw[b y];cases e:f y with
 | none=>rw[e]at h;exact⟨rfl,h⟩
 | some z =>
  rw[e]at h;refine⟨rfl,?_⟩;have g:decide (V.str z=V.str w)=decide (some z=some w):=EK.mpr ⟨λc=>by injection c with c;rw[c],λc=>by injection c with c;rw[c]⟩;show Q (.bl (decide (V.str z=V.str w))) H;rw[g];exact h
theorem Mo:HZ ["web","words","name"] ["web","words","name"] (B6 OU):=KL
theorem Tv:HZ ["web","words","name"] ["web","words","name"] (B6 PL):=KL
theorem Ol(T:Tx K mg):II P w K mg base JP 3 T.bb.f T.bb.fd ["web","words","name"] (Oc T.ad):=by
 refine T.bb.F.o1 Mo λv A i s H U Q E r h=>?_
 .obtain⟨x,d,n,z,a,B,f,rfl,t,C,G,I,k⟩:=h;have J:=Q2 r;refine⟨_,(B5 (C0 (G9 (Qi K) T.br Po (A6 (U7 (N':=["striker","words"]) (cap:=[none,some 1]) (cl:=[("words",_)]) (N0 ⟨⟨rfl,rfl,rfl,rfl⟩,trivial⟩ ⟨rfl,trivial⟩) rfl (MT K (P2 (pv 0) T.ag T.av.m (W6 T) (Rm r) T.av.b .nil J6 (A6 (pv 2) A8))) (λ_ _ _ _=>by exact⟨(LV 0),P0,(Q8 V2 (Y2 J (pv 1) (pv 0) ⟨rfl,rfl,rfl,rfl⟩) C1 (C5 _))⟩)) A8)))),?_⟩;obtain⟨L,M,W,b,c,X,Y,Z,N,_⟩:=id t;have lq:=L.lenq;have ls:(B2 a n).length<=a.length:=by unfold B2;rw[AB];exact BC ..
  refine C3 rfl ⟨x,M,C3 rfl ⟨N,rfl,C3 rfl ⟨x,n,z,a,rfl,t,C,λg j=>?_⟩⟩⟩;have l:=Cv.new (o:=.lst ((B2 a n).map V.str)) j;have p:(HX H g (.lst ((B2 a n).map V.str))) g=some (.lst ((B2 a n).map V.str)):=A7;generalize HX H g (.lst ((B2 a n).map V.str))=H2 at l p⊢;refine⟨g,rfl,⟨_,IC.of p⟩,λD O=>?_⟩;exact Kp (λy=>decide (f y=some KU)) p (by lia) O (λy hy u q Q' R=>Wv (q _ _ (l _ _ G)) I (R _ λb o e=>e)) (λσ u q S=>⟨D,_,rfl,IC.of S,k u (l.trans q)⟩) _
theorem Rb(T:Tx K mg):II P w K mg base JP 3 T.bf.f T.bf.fd ["web","words","name"] (Qs T.ad):=by
 refine T.bf.F.o1 Tv λv A i s H U Q E r h=>?_
 .obtain⟨x,d,n,z,a,B,f,rfl,t,C,G,I,k⟩:=h;have J:=Q2 r;refine⟨_,(B5 (C0 (G9 (zBm K) T.bH zBt (A6 (U7 (N':=["striker","words"]) (cap:=[none,some 1]) (cl:=[("words",_)]) (N0 ⟨⟨rfl,rfl,rfl,rfl⟩,trivial⟩ ⟨rfl,trivial⟩) rfl (MT K (P2 (pv 0) T.ag T.av.m (W6 T) (Rm r) T.av.b .nil J6 (A6 (pv 2) A8))) (λ_ _ _ _=>by exact⟨(LV 0),P0,(Q8 V2 (Y2 J (pv 1) (pv 0) ⟨rfl,rfl,rfl,rfl⟩) C1 (C5 _))⟩)) A8)))),?_⟩;obtain⟨L,M,W,b,c,X,Y,Z,N,_⟩:=id t;have lq:=L.lenq;have ls:(B2 a n).length<=a.length:=by unfold B2;rw[AB];exact BC ..
  refine C3 rfl ⟨x,M,C3 rfl ⟨N,rfl,C3 rfl ⟨x,n,z,a,rfl,t,C,λg j=>?_⟩⟩⟩;have l:=Cv.new (o:=.lst ((B2 a n).map V.str)) j;have p:(HX H g (.lst ((B2 a n).map V.str))) g=some (.lst ((B2 a n).map V.str)):=A7;generalize HX H g (.lst ((B2 a n).map V.str))=H2 at l p⊢;refine⟨g,rfl,⟨_,IC.of p⟩,λD O=>?_⟩;exact Kp (λy=>decide (f y=some OK)) p (by lia) O (λy hy u q Q' R=>Wv (q _ _ (l _ _ G)) I (R _ λb o e=>e)) (λσ u q S=>⟨D,_,rfl,IC.of S,k u (l.trans q)⟩) _
def bor(x y:Nat):Builtin.bitOr (x:Int) (y:Int) =((x ||| y:Nat):Int):=by
 have b:¬0<=Builtin.bitNot (x:Int):=by unfold Builtin.bitNot;lia
 have c:¬0<=Builtin.bitNot (y:Int):=by unfold Builtin.bitNot;lia
 have a:∀z:Int,Builtin.bitNot (Builtin.bitNot z)=z:=λz=>by unfold Builtin.bitNot;lia
 rw[Builtin.bitOr,PyProof.Rows.bitAnd_nn b c,a,a,a];rfl
def zEv(x y:Nat):Builtin.bitAnd (x:Int) (y:Int) =((x &&& y:Nat):Int):=by simp[Builtin.bitAnd]
def zFp(k:Nat):(1:Int)*2 ^((k:Int).toNat) =((2^k:Nat):Int):=by rw[Int.one_mul,CL,Int.natCast_pow];rfl
def zCj(m k:Nat):decide (V.int (Builtin.bitAnd ((m:Int) / 2 ^((k:Int).toNat)) 1)=V.int 1)=m.testBit k:=by
 have a:(m:Int) / 2 ^((k:Int).toNat) =((m / 2^k:Nat):Int):=by rw[CL,Int.natCast_ediv,Int.natCast_pow];rfl
 have b:Builtin.bitAnd ((m / 2^k:Nat):Int) 1 =((m / 2^k % 2:Nat):Int):=by
  rw[show(1:Int) =((1:Nat):Int)from rfl,zEv,Nat.and_one_is_mod]
 rw[a,b,Nat.testBit_eq_decide_div_mod_eq];refine EK.mpr ⟨λh=>?_,λh=>?_⟩
 .injection h with h;lia
 .rw[h];rfl
def Kr(m:Nat):V:=.int (m:Int)
structure MB(ns:A0 Str)(ks:A0 (Str×Str))(B:A0 Nat):Prop where
 len:B.length=ns.length
 bit:∀i j,(B.getD i 0).testBit j=true↔∃k∈ks,ns[i]?=some k.1/\ns[j]?=some k.2
def MB.zero(ns:A0 Str):MB ns [] (List.replicate ns.length 0):=by
 refine⟨GG,λi j=>?_⟩;have e:(List.replicate ns.length 0).getD i 0=0:=by
  rw[CA,List.getElem?_replicate];by_cases h:i<ns.length
  .rw[AO h];rfl
  .rw[AI h];rfl
 rw[e,FR];simp
def Ax{α:Type}{l:A0 α}(h:l.Nodup){i j:Nat}{x:α}(hi:l[i]?=some x)(c:l[j]?=some x):i=j:=by
 obtain⟨a,e⟩:=AM.mp hi;obtain⟨b,d⟩:=AM.mp c;exact(List.getElem_inj h).mp (e.trans d.symm)
def MB.step{ns:A0 Str}{l:A0 (Str×Str)}{B:A0 Nat}(h:MB ns l B)(m:ns.Nodup){a b:Nat}{x y:Str}(f:ns[a]?=some x)(n:ns[b]?=some y):MB ns (l ++ [(x,y)]) (B.set a (B.getD a 0 ||| 2^b)):=by
 have g:a<B.length:=by rw[h.len];exact(AM.mp f).1
 refine⟨by rw[List.length_set];exact h.len,λi j=>?_⟩;by_cases e:a=i
 .subst e;have e:(B.set a (B.getD a 0 ||| 2^b)).getD a 0=B.getD a 0 ||| 2^b:=by
   rw[CA,HG g];rfl
  rw[e,Nat.testBit_or,Bool.or_eq_true,h.bit,Nat.testBit_two_pow,decide_eq_true_iff];constructor
  .rintro(⟨k,hk,c,d⟩ | rfl)
   .exact⟨k,CB _ hk,c,d⟩
   .exact⟨(x,y),BK _ (AC.mpr rfl),f,n⟩
  .rintro⟨k,hk,c,d⟩;rcases AJ.mp hk with hk | hk
   .exact .inl ⟨k,hk,c,d⟩
   .rw[AC.mp hk]at d;exact .inr (Ax m n d)
 .have o:(B.set a (B.getD a 0 ||| 2^b)).getD i 0=B.getD i 0:=by
   rw[CA,GM e,<-CA]
  rw[o,h.bit];constructor
  .rintro⟨k,hk,c,d⟩;exact⟨k,CB _ hk,c,d⟩
  .rintro⟨k,hk,c,d⟩;rcases AJ.mp hk with hk | hk
   .exact⟨k,hk,c,d⟩
   .rw[AC.mp hk]at c;exact absurd (Ax m f c) e
def zEb{x y:Str}(h:x.cps.toList=y.cps.toList):x=y:=by
 cases x;cases y;exact congrArg Str.mk (Array.toList_inj.mp h)
def Wp{x y:Str}(h1:OG x y)(h2:OG y x):x=y:=zEb (List.le_antisymm (as:=x.cps.toList) (bs:=y.cps.toList) h1 h2)
def M0{a b:A0 Str}(h1:a.Pairwise OG)(h2:b.Pairwise OG)(h:a.Perm b):a=b:=List.Perm.eq_of_pairwise (λ_ _ _ _=>Wp) h1 h2 h
def PR(nx:Str->A0 Str)(ss:A0 Str)(x:Str):Prop:=∀S:Str->Prop,(∀y∈ss,S y)->(∀y z,S y->z∈nx y->S z)->S x
def PR.of{nx:Str->A0 Str}{ss:A0 Str}{x:Str}(h:x∈ss):PR nx ss x:=λ_ a _=>a x h
def PR.step{nx:Str->A0 Str}{ss:A0 Str}{y z:Str}(h:PR nx ss y)(hz:z∈nx y):PR nx ss z:=λS b a=>a y z (h S b a) hz
def Bj:∀{l m:A0 Str},l.Nodup->(∀x∈l,x∈m)->l.length<=m.length
 | [],_,_,_=>BP _
 | x::l,m,c,h=>by
  obtain⟨d,e⟩:=CD.mp c;have a:=h x (AZ ..);have f:=Bj (m:=m.erase x) e λy b=>(List.mem_erase_of_ne (λz:y=x=>d (z▸b))).mpr (h y (AN _ b));rw[List.length_erase_of_mem a]at f;have:=List.length_pos_of_mem a;rw[BQ];lia
structure RI(nx:Str->A0 Str)(ns ss se wa:A0 Str)(ex:Str->Prop):Prop where
 nd:se.Nodup
 ndw:wa.Nodup
 sub:∀x∈se,x∈ns
 rch:∀x∈se,PR nx ss x
 beg:∀x∈ss,x∈se
 wai:∀x∈wa,x∈se
 cl:∀x∈se,x∈wa\/ex x\/∀y∈nx x,y∈se
abbrev S1:Str->Prop:=λ_=>False
section
variable{nx:Str->A0 Str}{ns ss se wa:A0 Str}{ex:Str->Prop}
theorem Xb{l:A0 Str}{x:Str}(d:l.Nodup)(f:x∉l):(l ++ [x]).Nodup :=
 CH.mpr ⟨d,CD.mpr ⟨AQ,DC⟩,λa g b c e=>f (by rw[AC]at c;exact c▸e▸g)⟩
theorem RI.init(a:ss.Nodup)(sub:∀x∈ss,x∈ns):RI nx ns ss ss ss S1:=⟨a,a,sub,λ_ h=>.of h,λ_ h=>h,λ_ h=>h,λ_ h=>.inl h⟩
theorem RI.add(h:RI nx ns ss se wa ex){x:Str}(b:x∉se)(c:x∈ns)(d:PR nx ss x):RI nx ns ss (se ++ [x]) (wa ++ [x]) ex where
 nd:=Xb h.nd b
 ndw:=Xb h.ndw λz=>b (h.wai x z)
 sub:=λy a=>(AJ.mp a).elim (h.sub y) λz=>AC.mp z▸c
 rch:=λy a=>(AJ.mp a).elim (h.rch y) λz=>AC.mp z▸d
 beg:=λy a=>CB _ (h.beg y a)
 wai:=λy a=>(AJ.mp a).elim (λz=>CB _ (h.wai y z)) λz=>BK _ z
 cl:=λy a=>(AJ.mp a).elim (λz=>(h.cl y z).elim (λq=>.inl (CB _ q)) λq=>.inr (q.elim .inl λq=>.inr λv e=>CB _ (q v e))) λz=>.inl (BK _ z)
theorem RI.pop(h:RI nx ns ss se wa S1){a:A0 Str}{x:Str}(c:a.Nodup)(h1:∀y∈wa,y∈a\/y=x)(h2:∀y∈a,y∈wa):RI nx ns ss se a (λy=>y=x) :=
 ⟨h.nd,c,h.sub,h.rch,h.beg,λy b=>h.wai y (h2 y b),λy b=>(h.cl y b).elim (λq=>(h1 y q).elim .inl λz=>.inr (.inl z)) λq=>q.elim (λz=>z.elim) λz=>.inr (.inr z)⟩
theorem RI.done{x:Str}(h:RI nx ns ss se wa (λy=>y=x))(a:∀y∈nx x,y∈se):RI nx ns ss se wa S1 :=
 ⟨h.nd,h.ndw,h.sub,h.rch,h.beg,h.wai,λy b=>(h.cl y b).elim .inl λq=>.inr (.inr (q.elim (λz=>z▸a) id))⟩
theorem RI.fin(h:RI nx ns ss se [] S1)(x:Str):x∈se↔PR nx ss x :=
 ⟨h.rch x,λr=>r (·∈se) h.beg λy z a b=>(h.cl y a).elim (λq=>absurd q AQ) λq=>q.elim (λz=>z.elim) λq=>q z b⟩
theorem RI.len(h:RI nx ns ss se wa ex):se.length<=ns.length:=Bj h.nd h.sub
theorem RI.lenw(h:RI nx ns ss se wa ex):wa.length<=ns.length:=Bj h.ndw λx a=>h.sub x (h.wai x a)
end
def six{d n:Nat}(h:d<n):seqIndex? (d:Int) n=some d:=by
 unfold seqIndex?;simp;lia
def JS{α:Type}{l:A0 α}{i:Nat}{x:α}(h:l[i]?=some x):(x::l.eraseIdx i).Perm l:=ST.JS h
def Hv{α β:Type}(f:α->β):∀(l:A0 α) (i:Nat),(l.map f).eraseIdx i =(l.eraseIdx i).map f
 | [],_=>rfl
 | _::_,0=>rfl
 | a::l,i+1=>by
  show f a ::(l.map f).eraseIdx i=f a ::(l.eraseIdx i).map f;rw[Hv f l i]
def Wc{a b c:A0 Str}(d:(b++c).Perm a)(h1:∀x∈a,P8 x=true)(h2:a.Nodup)(f:a.length<=100):X5 c:=by
 refine⟨λx e=>h1 x (d.mem_iff.mp (BK _ e)),?_,?_⟩
 .exact(CH.mp (d.nodup_iff.mpr h2)).2.1
 .have:=d.length_eq;rw[AS]at this;lia
def Uc{c a b:A0 Str}{d:Nat}{x:Str}(e:(a++b).Perm c)(h:a[d]?=some x):(a.eraseIdx d ++(b ++ [x])).Perm c:=by
 refine List.Perm.trans ?_ e;rw[<-BF];refine CU.trans ?_;rw[<-BF];exact(JS h).append_right b
def MF{p b:A3}{H H':Hp}{o:HO}(h:Sm [p] H H')(e:H b=some o)(n:b≠p):H' b=some o:=h b o e λz=>n (AC.mp z)
section
variable{ns l:A0 Str}{A O:(Str->A5 Str)->Str->Bool}{f:Str->A5 Str}{w n:Str}{num:Int}
def wl(ns:A0 Str)(f:Str->A5 Str):A0 Str:=ns.filter λn=>(f n).isNone
def J1(ns:A0 Str)(A:(Str->A5 Str)->Str->Bool)(f:Str->A5 Str):A0 Str:=(wl ns f).filter (A f)
def JD(ns:A0 Str)(A:(Str->A5 Str)->Str->Bool)(f:Str->A5 Str):Str->A5 Str:=Xl f (J1 ns A f) OK
def OW(ns:A0 Str)(A O:(Str->A5 Str)->Str->Bool)(f:Str->A5 Str):Str->A5 Str:=Xl (JD ns A f) (J1 ns O (JD ns A f)) KU
def V6(ns:A0 Str)(A O:(Str->A5 Str)->Str->Bool)(f:Str->A5 Str)(num:Int):A0 Row:=((J1 ns A f).map λn=>(n,OK,V.int num)) ++(J1 ns O (JD ns A f)).map λn=>(n,KU,V.int num)
theorem JZ:n∈wl ns f↔n∈ns/\f n=none:=by unfold wl;rw[AV,Option.isNone_iff_eq_none]
theorem Jm(h:n∈J1 ns A f):n∈ns/\f n=none:=JZ.mp (AV.mp h).1
theorem zDv(h:∀n∈l,n∈ns/\f n=none)(i:l.Nodup)(j:ns.Nodup):(wl ns (Xl f l w)).length+l.length<=(wl ns f).length:=by
 rw[<-AS];refine Bj (CH.mpr ⟨j.filter _,i,λa k b m e=>?_⟩) λx o=>?_
 .have:=(JZ.mp k).2;rw[e,N7 m]at this;cases this
 .rcases AJ.mp o with c | c
  .obtain⟨p,g⟩:=JZ.mp c;refine JZ.mpr ⟨p,?_⟩;by_cases d:x∈l
   .rw[N7 d]at g;cases g
   .rw[J3 d]at g;exact g
  .exact JZ.mpr (h x c)
theorem Xv(a:ns.Nodup):(wl ns (Xl f (J1 ns A f) w)).length +(J1 ns A f).length<=(wl ns f).length:=zDv (λ_ h=>Jm h) ((a.filter _).filter _) a
theorem Te(a:ns.Nodup):(wl ns (OW ns A O f)).length +(V6 ns A O f num).length<=(wl ns f).length:=by
 have b:(wl ns (JD ns A f)).length+_<=_:=Xv (A:=A) (f:=f) (w:=OK) a;have c:(wl ns (OW ns A O f)).length+_<=_:=Xv (A:=O) (f:=JD ns A f) (w:=KU) a;unfold V6;rw[AS,AB,AB];lia
theorem Vs(h:V6 ns A O f num = []):OW ns A O f=f:=by
 obtain⟨a,b⟩:=List.append_eq_nil_iff.mp h;have a:=GU.mp a;have b:=GU.mp b;have c:JD ns A f=f:=by unfold JD;rw[a];exact funext λn=>J3 AQ
 unfold OW;rw[b,c];exact funext λn=>J3 AQ
inductive PU(ns:A0 Str)(A O:(Str->A5 Str)->Str->Bool):(Str->A5 Str)->Int->A0 Row->Prop
 | stop {f:Str->A5 Str} {num:Int}:V6 ns A O f num = []->PU ns A O f num ((wl ns f).map λn=>(n,NY,V.non))
 | step {f:Str->A5 Str} {num:Int} {t:A0 Row}:V6 ns A O f num≠[]->PU ns A O (OW ns A O f) (num+1) t->PU ns A O f num (V6 ns A O f num++t)
theorem OY:PySem.PyData.strOk OK=true/\PySem.PyData.strOk KU=true/\PySem.PyData.strOk NY=true:=⟨by decide +kernel,by decide +kernel,by decide +kernel⟩
theorem IP{b:A0 IL}{n y:Str}:y∈B2 b n↔(y,n)∈b.map λq=>q.2:=by
 unfold B2;rw[BJ,BJ];constructor
 .rintro⟨q,a,rfl⟩;obtain⟨c,d⟩:=AV.mp a;exact⟨q,c,Prod.ext rfl (BV d)⟩
 .rintro⟨q,a,e⟩;exact⟨q,AV.mpr ⟨a,AU (congrArg Prod.snd e)⟩,congrArg Prod.fst e⟩
end
inductive GW(sk:Str->A0 Str):Str->Bool->Prop
 | inn {n:Str}:(∀y∈sk n,GW sk y false)->GW sk n true
 | out {n y:Str}:y∈sk n->GW sk y true->GW sk n false
def GW.ne{sk:Str->A0 Str}{n:Str}{b:Bool}(h:GW sk n b):¬GW sk n (!b):=by
 induction h with
 | inn _ a =>
  intro c;cases c with
  | out d g=>exact a _ d g
 | out d _ a =>
  intro c;cases c with
  | inn g=>exact a (g _ d)
def GW.cong{sk a:Str->A0 Str}{U:Str->Prop}(f:∀n,U n->∀y∈sk n,U y)(d:∀n,U n->∀y,y∈sk n↔y∈a n){n:Str}{b:Bool}(h:GW sk n b):U n->GW a n b:=by
 induction h with
 | inn _ e=>exact λu=>.inn λy c=>e y ((d _ u y).mpr c) (f _ u y ((d _ u y).mpr c))
 | out c _ e=>exact λu=>.out ((d _ u _).mp c) (e (f _ u _ c))
open Classical in
def G8(sk:Str->A0 Str)(n:Str):Str:=if GW sk n true then OK else if GW sk n false then KU else NY
def RE:OK≠KU/\OK≠NY/\KU≠NY:=by decide +kernel
section
variable{sk sk':Str->A0 Str}{n:Str}
theorem NB:G8 sk n=OK↔GW sk n true:=by
 unfold G8;by_cases h:GW sk n true
 .rw[AO h];exact⟨λ_=>h,λ_=>rfl⟩
 .rw[AI h];refine⟨λe=>?_,λz=>absurd z h⟩;split at e
  .exact absurd e.symm RE.1
  .exact absurd e.symm RE.2.1
theorem MK:G8 sk n=KU↔GW sk n false:=by
 unfold G8;by_cases h:GW sk n true
 .rw[AO h];exact⟨λe=>absurd e RE.1,λz=>absurd z h.ne⟩
 .rw[AI h];by_cases a:GW sk n false
  .rw[AO a];exact⟨λ_=>a,λ_=>rfl⟩
  .rw[AI a];exact⟨λe=>absurd e.symm RE.2.2,λz=>absurd z a⟩
theorem Dj{U:Str->Prop}(e:∀n,U n->∀y∈sk n,U y)(c:∀n,U n->∀y,y∈sk n↔y∈sk' n)(u:U n):G8 sk n=G8 sk' n:=by
 have d:∀n,U n->∀y∈sk' n,U y:=λn u y f=>e n u y ((c n u y).mpr f);have i:∀b,GW sk n b↔GW sk' n b:=λb=>⟨λh=>h.cong e c u,λh=>h.cong d (λn u y=>(c n u y).symm) u⟩;unfold G8;by_cases a:GW sk n true
 .rw[AO a,AO ((i _).mp a)]
 .rw[AI a,AI λz=>a ((i _).mpr z)];by_cases b:GW sk n false
  .rw[AO b,AO ((i _).mp b)]
  .rw[AI b,AI λz=>b ((i _).mpr z)]
theorem Ux:PySem.PyData.strOk (G8 sk n)=true:=by
 unfold G8;split
 .exact OY.1
 .split
  .exact OY.2.1
  .exact OY.2.2
end
section
variable{ns:A0 Str}{qs:A0 IL}{f:Str->A5 Str}
def RQ(qs:A0 IL)(f:Str->A5 Str):Prop:=∀n w,f n=some w->w=G8 (B2 qs) n
theorem RQ.nxt1(h:RQ qs f):RQ qs (JD ns (C4 qs) f):=λn w e=>by
 unfold Sw.JD at e;by_cases c:n∈J1 ns (C4 qs) f
 .rw[N7 c]at e;cases e;have a:=OH.mp (AV.mp c).2;exact(NB.mpr (.inn λy b=>MK.mp (h y _ (a y b)).symm)).symm
 .rw[J3 c]at e;exact h n w e
theorem RQ.nxt(h:RQ qs f):RQ qs (OW ns (C4 qs) (K8 qs) f):=λn w e=>by
 unfold Sw.OW at e;by_cases c:n∈J1 ns (K8 qs) (Sw.JD ns (C4 qs) f)
 .rw[N7 c]at e;cases e;obtain⟨y,a,b⟩:=OV.mp (AV.mp c).2;exact(MK.mpr (.out a (NB.mp (h.nxt1 y _ b).symm))).symm
 .rw[J3 c]at e;exact h.nxt1 n w e
theorem Sd{num:Int}(h:RQ qs f)(sub:∀n∈ns,∀y∈B2 qs n,y∈ns)(e:V6 ns (C4 qs) (K8 qs) f num = []){n:Str}(a:n∈wl ns f):G8 (B2 qs) n=NY:=by
 obtain⟨k,l⟩:=List.append_eq_nil_iff.mp e;have k:=GU.mp k;have l:=GU.mp l;have p:JD ns (C4 qs) f=f:=by unfold JD;rw[k];exact funext λn=>J3 AQ
 rw[p]at l;have i:∀{n:Str} {b:Bool},GW (B2 qs) n b->n∈ns->f n=none->False:=fun{n b} g=>by
  induction g with
  | inn g o =>
   intro a c;have m:_∈J1 ns (C4 qs) f:=AV.mpr ⟨JZ.mpr ⟨a,c⟩,OH.mpr λy d=>?_⟩
   .rw[k]at m;cases m
   cases j:f y with
   | none=>exact(o y d (sub _ a y d) j).elim
   | some w=>rw[h y w j,MK.mpr (g y d)]
  | out d g o =>
   intro a c;have m:_∈J1 ns (K8 qs) f:=AV.mpr ⟨JZ.mpr ⟨a,c⟩,OV.mpr ⟨_,d,?_⟩⟩
   .rw[l]at m;cases m
   cases j:f _ with
   | none=>exact(o (sub _ a _ d) j).elim
   | some w=>rw[h _ w j,NB.mpr g]
 obtain⟨a,c⟩:=JZ.mp a;unfold G8;rw[AI λg=>i g a c,AI λg=>i g a c]
theorem PU.words{num:Int}{r:A0 Row}(h:PU ns (C4 qs) (K8 qs) f num r)(sub:∀n∈ns,∀y∈B2 qs n,y∈ns)(k:ns.Nodup):RQ qs f->(∀q∈r,q.2.1=G8 (B2 qs) q.1)/\(r.map λq=>q.1).Perm (wl ns f):=by
 induction h with
 | stop e =>
  refine λs=>⟨λq l=>?_,?_⟩
  .obtain⟨n,i,rfl⟩:=BJ.mp l;exact(Sd s sub e i).symm
  .rw[BW];show(List.map (λn=>n) _).Perm _;rw[List.map_id']
 | @step f num t E _ x =>
  intro s;obtain⟨z,A⟩:=x s.nxt;have m:∀n,n∈J1 ns (C4 qs) f->n∈ns/\f n=none:=λn h=>Jm h;have o:∀n,n∈J1 ns (K8 qs) (Sw.JD ns (C4 qs) f)->n∈ns/\Sw.JD ns (C4 qs) f n=none:=λn h=>Jm h;have B:∀n,n∈J1 ns (C4 qs) f->G8 (B2 qs) n=OK:=λn h=>(s.nxt1 (ns:=ns) n OK (N7 h)).symm;have C:∀n,n∈J1 ns (K8 qs) (Sw.JD ns (C4 qs) f)->G8 (B2 qs) n=KU:=λn h=>(s.nxt (ns:=ns) n KU (N7 h)).symm;refine⟨λq l=>?_,?_⟩
  .rcases AJ.mp l with c | c
   .rcases AJ.mp c with c | c
    .obtain⟨n,i,rfl⟩:=BJ.mp c;exact(B n i).symm
    .obtain⟨n,i,rfl⟩:=BJ.mp c;exact(C n i).symm
   .exact z q c
  .have e:((V6 ns (C4 qs) (K8 qs) f num++t).map λq=>q.1) =(J1 ns (C4 qs) f++J1 ns (K8 qs) (Sw.JD ns (C4 qs) f))++t.map λq=>q.1:=by
    unfold V6;rw[AL,AL,BW,BW];congr 2
    .exact List.map_id' _
    .exact List.map_id' _
   rw[e];refine(A.append_left _).trans ?_;have p:(J1 ns (C4 qs) f).Nodup:=(k.filter _).filter _;have u:(J1 ns (K8 qs) (Sw.JD ns (C4 qs) f)).Nodup:=(k.filter _).filter _;refine(List.perm_ext_iff_of_nodup (CH.mpr ⟨CH.mpr ⟨p,u,λa v b w e=>?_⟩,k.filter _,λa v b w e=>?_⟩) (k.filter _)).mpr λn=>?_
   .subst e;have:=(o a w).2;unfold Sw.JD at this;rw[N7 v]at this;cases this
   .subst e;have g:=(JZ.mp w).2;unfold Sw.OW at g;rcases AJ.mp v with c | c
    .by_cases d:a∈J1 ns (K8 qs) (Sw.JD ns (C4 qs) f)
     .rw[N7 d]at g;cases g
     .rw[J3 d]at g;unfold Sw.JD at g;rw[N7 c]at g;cases g
    .rw[N7 c]at g;cases g
   .show n∈_++wl ns (Sw.OW ns (C4 qs) (K8 qs) f)↔n∈wl ns f;rw[AJ,AJ,JZ,JZ];constructor
    .rintro((h | h) | h)
     .exact m n h
     .refine⟨(o n h).1,?_⟩;have:=(o n h).2;unfold Sw.JD at this;by_cases d:n∈J1 ns (C4 qs) f
      .exact(m n d).2
      .rwa [J3 d]at this
     .refine⟨h.1,?_⟩;have g:=h.2;unfold Sw.OW at g;by_cases d:n∈J1 ns (K8 qs) (Sw.JD ns (C4 qs) f)
      .rw[N7 d]at g;cases g
      .rw[J3 d]at g;unfold Sw.JD at g;by_cases j:n∈J1 ns (C4 qs) f
       .exact(m n j).2
       .rwa [J3 j]at g
    .rintro⟨i,D⟩;by_cases d:n∈J1 ns (C4 qs) f
     .exact .inl (.inl d)
     by_cases j:n∈J1 ns (K8 qs) (Sw.JD ns (C4 qs) f)
     .exact .inl (.inr j)
     refine .inr ⟨i,?_⟩;unfold Sw.OW;rw[J3 j];unfold Sw.JD;rw[J3 d];exact D
def WG(ns:A0 Str)(qs:A0 IL)(n:Str):A5 Str:=if n∈ns then some (G8 (B2 qs) n)else none
theorem Vi{n:Str}(h:n∈ns):WG ns qs n=some (G8 (B2 qs) n):=AO h
end
def Vd{H H':Hp}{d b:A3}{o:HO}(k:Sm [d] H H')(e:H' d=some o)(h:H' b=none):H b=none:=by
 cases a:H b with
 | none=>rfl
 | some c =>
  have:=MF k a (A9 e h).symm;rw[h]at this;cases this
def Cv.smd{a H H':Hp}{d:A3}(s:Cv a H)(h:a d=none)(k:Sm [d] H H'):Cv a H':=λb o e=>MF k (s b o e) (A9 e h)
def Hz(C:A3):Sp:=λj H Q _=>∃(g:Hp) (x d:A3) (num:Int) (h:A0 Str) (c:A0 IL) (b:A0 (IM×V)) (f:Str->A5 Str),j = [.ref x,.ref d,.int num]/\Cv g H/\g d=none/\IQ C g x h c/\H d=some (.dK b)/\WD b f/\b.length<=1000 /\
 ∀l i a e,Sm [d] H e->H l=none->RL e l i->i.map (λq=>q.2)=V6 h (C4 c) (K8 c) f num->e d=some (.dK a)->WD a (OW h (C4 c) (K8 c) f)->a.length<=b.length+i.length->Q (.ref l) e
theorem LF:HZ ["web","words","number","ins","outs"] ["web","words","number"] (B6 NP):=KL
set_option maxHeartbeats 4000000 in
theorem Ad(T:Tx K mg):II P w K mg base JP 4 T.aR.f T.aR.fd ["web","words","number"] (Hz T.ad):=by
 refine T.aR.F.o1 LF λcdv A outer s H vs Q E hr h=>?_
 .obtain⟨H0,x,d,num,b,a,m,f,rfl,s0,hd0,hW,hd,hf,hk,k⟩:=h;refine⟨_,(B0 (U9 (i:=3) (N':=["name","web","words"]) (cap:=[none,some 0,some 1]) (cl:=[("words",_),("web",_)]) LF.nd rfl (.inl rfl) (N0 ⟨⟨rfl,rfl,rfl,rfl⟩,⟨⟨rfl,rfl,rfl,rfl⟩,trivial⟩⟩ ⟨rfl,⟨rfl,trivial⟩⟩) rfl (MT K (E4 T.aN (i6 T) (Rm hr) (A6 (pv 0) (A6 (pv 1) A8)))) (λ_ _ _ _=>by exact⟨(LV 0),(K5 (T0 (E4 T.bb (Ol T) (Rm hr) (A6 (pv 1) (A6 (pv 2) (A6 (pv 0) A8)))))),(pv 0)⟩))
   (B0 (I9 (Iw (pv 1) (Nh (N':=["name"]) (cap:=[none]) (cl:=[]) (N0 trivial trivial) rfl (MT K (pv 3)) (λ_ _ _ _=>by exact⟨(LV 0),P0,(pv 0),C1⟩)) ⟨rfl,rfl,rfl,rfl⟩))
   (B0 (U9 (i:=4) (N':=["name","web","words"]) (cap:=[none,some 0,some 1]) (cl:=[("words",_),("web",_)]) LF.nd rfl (.inl rfl) (N0 ⟨⟨rfl,rfl,rfl,rfl⟩,⟨⟨rfl,rfl,rfl,rfl⟩,trivial⟩⟩ ⟨rfl,⟨rfl,trivial⟩⟩) rfl (MT K (E4 T.aN (i6 T) (Rm hr) (A6 (pv 0) (A6 (pv 1) A8)))) (λ_ _ _ _=>by exact⟨(LV 0),(K5 (T0 (E4 T.bf (Rb T) (Rm hr) (A6 (pv 1) (A6 (pv 2) (A6 (pv 0) A8)))))),(pv 0)⟩))
   (B0 (I9 (Iw (pv 1) (Nh (N':=["name"]) (cap:=[none]) (cl:=[]) (N0 trivial trivial) rfl (MT K (pv 4)) (λ_ _ _ _=>by exact⟨(LV 0),P0,(pv 0),C1⟩)) ⟨rfl,rfl,rfl,rfl⟩))
   (B5 (C0 (E9 Dr (U7 (N':=["name","number"]) (cap:=[none,some 2]) (cl:=[("number",_)]) (N0 ⟨⟨rfl,rfl,rfl,rfl⟩,trivial⟩ ⟨rfl,trivial⟩) rfl (MT K (pv 3)) (λ_ _ _ _=>by exact⟨(LV 0),P0,(J5 (A6 (pv 0) (A6 C1 (A6 (pv 1) A8))))⟩)) (U7 (N':=["name","number"]) (cap:=[none,some 2]) (cl:=[("number",_)]) (N0 ⟨⟨rfl,rfl,rfl,rfl⟩,trivial⟩ ⟨rfl,trivial⟩) rfl (MT K (pv 4)) (λ_ _ _ _=>by exact⟨(LV 0),P0,(J5 (A6 (pv 0) (A6 C1 (A6 (pv 1) A8))))⟩))))))))),?_⟩
  have ok:=hW.ok;have ln:=ok.len;have nn:=ok.nd;have p:∀g:Str->A5 Str,(wl b g).length<=100:=λg=>VE (BC ..) ln;have li:(J1 b (C4 a) f).length<=100:=VE (BC ..) (p _);have lo:(J1 b (K8 a) (JD b (C4 a) f)).length<=100:=VE (BC ..) (p _);refine B3 λN1 hN1=>?_;refine C3 rfl (C3 rfl ⟨x,d,b,a,m,f,rfl,hW.same s0,hd,hf,λl1 H1 s1 hl1 e1=>?_⟩);refine⟨l1,rfl,⟨_,IC.of e1⟩,λO U=>?_⟩;refine U1 (C4 a f) e1 (VE (p f) (by decide)) U (λy W G u X hQ=>?_) (λσ H2 s2 v=>?_) _
  .refine C3 rfl (C3 rfl (C3 rfl ⟨x,d,y,b,a,m,f,rfl,(hW.same s0).same (s1.trans u),(JZ.mp W).1,(s1.trans u) _ _ hd,hf,λG' B=>⟨_,rfl,hQ G' B⟩⟩))
  have v:H2 O=some (.lst ((J1 b (C4 a) f).map V.str)):=v;have C:=s1.trans s2;have r:=C _ _ hd;refine hN1 _ _ (B3 λN2 hN2=>?_);refine C3 rfl ⟨d,rfl,.inl ⟨_,.inl r⟩,C3 rfl ⟨O,rfl,⟨_,IC.of v⟩,λE1 D=>?_⟩⟩;refine Lv v ((nn.filter _).filter _) (VE li (by decide)) D (λσ H3 Y e3=>?_) _;have I:=Y _ _ r;have R:=hf.mrg (w:=OK) (l:=J1 b (C4 a) f);have m1:=S9 m ((J1 b (C4 a) f).map λn=>(Sum.inr n,V.str OK));rw[AB]at m1;refine⟨E1,m,_,rfl,I,e3,(A9 r D),by rw[AB,sizeLine_eq];lia,hN2 _ _ (B3 λN3 hN3=>?_)⟩;have n1:O≠d:=J7 (Y _ _ v) I (by intro z;cases z);have k4:Sm [d] H (HX H3 d (.dK (X0 m ((J1 b (C4 a) f).map λn=>(Sum.inr n,V.str OK))))):=(C.trans Y).sm.upd (by simp);have Z:(HX H3 d (.dK (X0 m ((J1 b (C4 a) f).map λn=>(Sum.inr n,V.str OK))))) d=some (.dK (X0 m ((J1 b (C4 a) f).map λn=>(Sum.inr n,V.str OK)))):=A7;have e4:(HX H3 d (.dK (X0 m ((J1 b (C4 a) f).map λn=>(Sum.inr n,V.str OK))))) O=some (.lst ((J1 b (C4 a) f).map V.str)):=(B7 n1).trans (Y _ _ v);generalize X0 m ((J1 b (C4 a) f).map λn=>(Sum.inr n,V.str OK))=j at R m1 k4 Z e4⊢;generalize HX H3 d (.dK j)=H4 at k4 Z e4⊢;have W4:=hW.same (Cv.smd s0 hd0 k4);have R:WD j (JD b (C4 a) f):=R;clear s1 s2 C Y e1 v e3 r I hl1 U D;refine C3 rfl (C3 rfl ⟨x,d,b,a,j,JD b (C4 a) f,rfl,W4,Z,R,λl2 H5 s5 hl2 e5=>?_⟩);refine⟨l2,rfl,⟨_,IC.of e5⟩,λD2 hD2=>?_⟩;refine U1 (K8 a (JD b (C4 a) f)) e5 (VE (p _) (by decide)) hD2 (λy W G u X hQ=>?_) (λσ H6 s6 S=>?_) _
  .refine C3 rfl (C3 rfl (C3 rfl ⟨x,d,y,b,a,j,JD b (C4 a) f,rfl,W4.same (s5.trans u),(JZ.mp W).1,(s5.trans u) _ _ Z,R,λG' B=>⟨_,rfl,hQ G' B⟩⟩))
  have S:H6 D2=some (.lst ((J1 b (K8 a) (JD b (C4 a) f)).map V.str)):=S;have J:=s5.trans s6;have L:=J _ _ Z;refine hN3 _ _ (B3 λN4 hN4=>?_);refine C3 rfl ⟨d,rfl,.inl ⟨_,.inl L⟩,C3 rfl ⟨D2,rfl,⟨_,IC.of S⟩,λE2 hE2=>?_⟩⟩;refine Lv S ((nn.filter _).filter _) (VE lo (by decide)) hE2 (λσ H7 s7 e7=>?_) _;have hd7:=s7 _ _ L;have k2:=R.mrg (w:=KU) (l:=J1 b (K8 a) (JD b (C4 a) f));have m2:=S9 j ((J1 b (K8 a) (JD b (C4 a) f)).map λn=>(Sum.inr n,V.str KU));rw[AB]at m2;refine⟨E2,j,_,rfl,hd7,e7,(A9 L hE2),by rw[AB,sizeLine_eq];lia,hN4 _ _ ?_⟩;have n2:D2≠d:=J7 (s7 _ _ S) hd7 (by intro z;cases z);have k8:Sm [d] H (HX H7 d (.dK (X0 j ((J1 b (K8 a) (JD b (C4 a) f)).map λn=>(Sum.inr n,V.str KU))))):=(k4.trans (J.trans s7).sm).upd (by simp);have d8:(HX H7 d (.dK (X0 j ((J1 b (K8 a) (JD b (C4 a) f)).map λn=>(Sum.inr n,V.str KU))))) d=some (.dK (X0 j ((J1 b (K8 a) (JD b (C4 a) f)).map λn=>(Sum.inr n,V.str KU)))):=A7;have a8:(HX H7 d (.dK (X0 j ((J1 b (K8 a) (JD b (C4 a) f)).map λn=>(Sum.inr n,V.str KU))))) O=some (.lst ((J1 b (C4 a) f).map V.str)):=(B7 n1).trans (s7 _ _ (J _ _ e4));have b8:(HX H7 d (.dK (X0 j ((J1 b (K8 a) (JD b (C4 a) f)).map λn=>(Sum.inr n,V.str KU))))) D2=some (.lst ((J1 b (K8 a) (JD b (C4 a) f)).map V.str)):=(B7 n2).trans (s7 _ _ S);generalize X0 j ((J1 b (K8 a) (JD b (C4 a) f)).map λn=>(Sum.inr n,V.str KU))=M at k2 m2 k8 d8 a8 b8⊢;generalize HX H7 d (.dK M)=H8 at k8 d8 a8 b8⊢;have k2:WD M (OW b (C4 a) (K8 a) f):=k2;refine C3 rfl ⟨O,rfl,⟨_,IC.of a8⟩,λR1 hR1=>?_⟩;refine Jf (v3:=.int num) (λ_=>true) a8 (VE li (by decide)) hR1 (λy G X N=>⟨_,rfl,N⟩) (λy W G u X N=>N) (λσ rs1 H9 s9 L9 q9=>?_) _;rw[y4]at q9;refine C3 rfl ⟨D2,rfl,⟨_,IC.of (s9 _ _ b8)⟩,λR2 hR2=>?_⟩;refine Jf (v3:=.int num) (λ_=>true) (s9 _ _ b8) (VE lo (by decide)) hR2 (λy G X N=>⟨_,rfl,N⟩) (λy W G u X N=>N) (λσ rs2 HA sA LA qA=>?_) _;rw[y4]at qA;have L9:=L9.same sA;have lr1:=congrArg List.length q9;have lr2:=congrArg List.length qA;rw[AB,AB]at lr1 lr2;refine⟨R1,R2,_,_,rfl,rfl,L9.1,LA.1,by rw[AB,AB,sizeLine_eq];lia,λc hc=>?_⟩;have uB:=Cv.new (o:=.lst ((rs1.map λq=>V.ref q.1)++rs2.map λq=>V.ref q.1)) hc;have t:=s9.trans sA;refine k c (rs1++rs2) M _ (k8.trans (t.trans uB).sm) (Vd (k8.trans t.sm) (t _ _ d8) hc) (L9.app LA A7 λq o e=>uB _ _ e) ?_ (uB _ _ (t _ _ d8)) k2 (by rw[AS];lia);rw[AL,q9,qA];rfl
def RL.smd{H H':Hp}{l d:A3}{a:A0 (A3×Row)}{kvs:A0 (IM×V)}(h:RL H l a)(e:H d=some (.dK kvs))(k:Sm [d] H H'):RL H' l a :=
 ⟨MF k h.1 (J7 h.1 e (by intro z;cases z)),λq b=>MF k (h.2 q b) (J7 (h.2 q b) e (by intro z;cases z))⟩
def zCc(H:Hp)(ns:A0 Str)(c:A0 IL)(d:Str->A5 Str)(Q:VK):Prop:=∀l a b,Cv H b->H l=none->RL b l a->PU ns (C4 c) (K8 c) d 1 (a.map λq=>q.2)->a.length<=100->Q (.ref l) b
def Pd(C:A3):Sp:=λf H Q _=>∃(x d:A3) (b:A0 Str) (e:A0 IL) (a:A0 (IM×V)) (c:Str->A5 Str),f = [.ref x,.ref d]/\IQ C H x b e/\H d=some (.dK a)/\WD a c/\a.length +(wl b c).length<=100/\zCc H b e c Q
theorem IU:HZ ["web","known","words","rows","number","fresh"] ["web","known"] (B6 LJ):=KL
set_option maxHeartbeats 4000000 in
theorem As(T:Tx K mg):II P w K mg base JP 5 T.aH.f T.aH.fd ["web","known"] (Pd T.ad):=by
 refine T.aH.F.o1 IU λcdv A outer s H vs Q E hr h=>?_
 .obtain⟨x,d0,ns,N,p,f0,rfl,hW,hd0,hf0,l0,k⟩:=h;refine⟨_,(B0 (C6 (i:=2) IU.nd rfl (.inl rfl) (X3 Sh T.bm Jt (A6 (pv 1) A8)))
   (B0 (C6 (i:=3) IU.nd rfl (.inl rfl) (E7 A8))
   (B0 (C6 (i:=4) IU.nd rfl (.inl rfl) B4)
   (B0 (C6 (i:=5) IU.nd rfl (.inl rfl) (E4 T.aR (Ad T) (Rm hr) (A6 (pv 0) (A6 (pv 2) (A6 (pv 4) A8)))))
   (B0 (Bd PassesOwn.never (ptV K (pv 5)) (B0 (I9 (Li K VG PySem.F.slot_list_extend PySem.F.type_list_extend Oy (pv 3) (A6 (pv 5) A8)))
   (B0 (zCl (i:=4) IU.nd rfl (Or.inl rfl) B4 zBu)
   (B5 (C6 (i:=5) IU.nd rfl (.inl rfl) (E4 T.aR (Ad T) (Rm hr) (A6 (pv 0) (A6 (pv 2) (A6 (pv 4) A8)))))))))
   (B5 (C0 (E9 Dr (pv 3) (U7 (N':=["name"]) (cap:=[none]) (cl:=[]) (N0 trivial trivial) rfl (MT K (E4 T.aN (i6 T) (Rm hr) (A6 (pv 0) (A6 (pv 2) A8)))) (λ_ _ _ _=>by exact⟨(LV 0),P0,(J5 (A6 (pv 0) (A6 C1 (A6 g7 A8))))⟩)))))))))),?_⟩
  have ok:=hW.ok;have ln:=ok.len;have nn:=ok.nd;unfold zCc at k;generalize hA:C4 N=A at k;generalize hO:K8 N=O at k;have R:∀g:Str->A5 Str,(wl ns g).length<=100:=λg=>VE (BC ..) ln;refine B3 λN1 hN1=>?_;refine C3 rfl ⟨d0,_,rfl,hd0,λd S=>?_⟩;have u1:=Cv.new (o:=.dK p) S;have f1:(HX H d (.dK p)) d=some (.dK p):=A7;generalize HX H d (.dK p)=H1 at u1 f1⊢;refine hN1 _ _ (B3 λN2 hN2=>?_);refine⟨BP _,λr U=>?_⟩;have W:=Cv.new (o:=.lst []) U;have f2:(HX H1 r (.lst [])) r=some (.lst []):=A7;generalize HX H1 r (.lst [])=H2 at W f2⊢;have hr':=u1.free U;refine hN2 _ _ (B3 λN3 hN3=>?_);refine hN3 _ _ (B3 λN4 hN4=>?_);refine C3 rfl (C3 rfl (C3 rfl ⟨H,x,d,1,ns,N,p,f0,rfl,u1.trans W,S,hW,W _ _ f1,hf0,by lia,λl B a H3 k3 hl L3 q3 e3 X RH=>?_⟩));rw[hA,hO]at q3 X;have L2:RL H2 r []:=⟨f2,λq h=>absurd h AQ⟩;have lr:l≠r:=(A9 f2 hl).symm;have rw0:=Te (ns:=ns) (A:=A) (O:=O) (f:=f0) (num:=1) nn;have lw0:=R f0;have lq:=congrArg List.length q3;rw[AB]at lq;refine hN4 _ _ (B3 λN5 hN5=>?_);refine⟨λm σ v=>∃(num:Int) (l:A3) (a:A0 (IM×V)) (f:Str->A5 Str) (n B:A0 (A3×Row)),σ = [some (.ref x),some (.ref d0),some (.ref d),some (.ref r),some (.int num),some (.ref l)]/\Cv H v/\v d=some (.dK a)/\WD a (OW ns A O f)/\RL v r n/\RL v l B/\l≠r /\
   B.map (λq=>q.2)=V6 ns A O f num/\(∀t,PU ns A O f num t->PU ns A O f0 1 ((n.map λq=>q.2)++t))/\m =(wl ns (OW ns A O f)).length+B.length/\a.length +(wl ns (OW ns A O f)).length<=100/\n.length+m<=100,⟨_,1,l,a,_,[],B,rfl,Cv.smd (u1.trans W) S k3,e3,X,L2.smd (W _ _ f1) k3,L3,lr,q3,λt h=>h,rfl,by lia,by show 0+_<=_;lia⟩,?_⟩
  rintro m σ v ⟨num,l,a,f,n,B,rfl,s4,e4,C,u,Ll,nlr,I,W4,rfl,Y,ld4⟩;refine C3 rfl ⟨_,.inl ⟨_,IC.of Ll.1,rfl⟩,?_⟩;cases B with
  | nil =>
   refine N8 (hN5 _ _ ?_);have I:=I.symm;rw[Vs I]at C Y ld4;refine C3 rfl (C3 rfl (C3 rfl ⟨x,d,ns,N,a,f,rfl,hW.same s4,e4,C,λl1 H5 Z hl1 M=>⟨l1,rfl,⟨_,IC.of M⟩,λD hD=>?_⟩⟩));refine Jf (v3:=.non) (r:=[]) (λ_=>true) M (VE (R f) (by decide)) hD (λy G Q' hq=>hq) (λy hy G sg Q' hq=>hq) (λσ j H6 s6 L6 J=>?_) _;rw[y4]at J;have s56:=Z.trans s6;have u:=u.same s56;have l2:=congrArg List.length J;rw[AB,AB]at l2;have l2:j.length =(wl ns f).length:=l2;have l0:([]:A0 (A3×Row)).length=0:=rfl;refine⟨r,D,_,_,rfl,rfl,u.1,L6.1,by rw[AB,AB,sizeLine_eq];lia,λc hc=>?_⟩;have u7:=Cv.new (o:=.lst ((n.map λq=>V.ref q.1)++j.map λq=>V.ref q.1)) hc;have s46:=s4.trans s56;exact k c (n++j) _ (s46.trans u7) (s46.free hc) (u.app L6 A7 λq o e=>u7 _ _ e) (by rw[AL,J];exact W4 _ (.stop I)) (by rw[AS];lia)
  | cons L b =>
   refine Z0 ⟨_,λ_ _ z=>z,B3 λM1 hM1=>?_⟩;refine C3 rfl ⟨.inl ⟨rfl,_,IC.of u.1⟩,C3 rfl ⟨r,l,_,_,rfl,rfl,u.1,Ll.1,by rw[AB,AB,sizeLine_eq];lia,hM1 _ _ (B3 λM2 hM2=>?_)⟩⟩;have Z:=s4.upd (o:=.lst ((n.map λq=>V.ref q.1) ++(L::b).map λq=>V.ref q.1)) hr';have nrd:r≠d:=J7 u.1 e4 (by intro z;cases z);have M:(HX v r (.lst ((n.map λq=>V.ref q.1) ++(L::b).map λq=>V.ref q.1))) d=some (.dK a):=(B7 nrd.symm).trans e4;have L5:RL (HX v r (.lst ((n.map λq=>V.ref q.1) ++(L::b).map λq=>V.ref q.1))) r (n++L::b):=u.app Ll A7 λq o e=>(B7 (J7 e u.1 (by intro z;cases z))).trans e;have ne:V6 ns A O f num≠[]:=λc=>by rw[c]at I;cases I
   generalize HX v r (.lst ((n.map λq=>V.ref q.1) ++(L::b).map λq=>V.ref q.1))=H5 at Z M L5⊢;have lc:(L::b).length=b.length+1:=rfl;refine C3 rfl ⟨_,_,rfl,rfl,hM2 _ _ ?_⟩;refine C3 rfl (C3 rfl (C3 rfl ⟨H,x,d,num+1,ns,N,a,_,rfl,Z,S,hW,M,C,by lia,λl' j kv2 H6 k6 hl6 L6 J e6 wd6 len6=>?_⟩));rw[hA,hO]at J wd6;have rwl:=Te (ns:=ns) (A:=A) (O:=O) (f:=OW ns A O f) (num:=num+1) nn;have l6:=congrArg List.length J;rw[AB]at l6;refine⟨(wl ns (OW ns A O (OW ns A O f))).length+j.length,by lia,_,l',kv2,OW ns A O f,n++L::b,j,rfl,Cv.smd Z S k6,e6,wd6,L5.smd M k6,L6,(A9 L5.1 hl6).symm,J,λt ht=>?_,rfl,by lia,by rw[AS];lia⟩;rw[AL,I,BF];exact W4 _ (.step ne ht)
def Mg{n e w m:Nat}(h:e+1<=n)(a:2 *(n-e)+w<m):2 *(n-(e+1)) +(w+1)<m:=by
 have b:n-(e+1)+1=n-e:=Nat.succ_pred_eq_of_pos (HE h);rw[<-b]at a;lia
def Se(H:Hp)(kvs:A0 (IM×V))(ns:A0 Str)(nx:Str->A0 Str):Prop:=∀n∈ns,∃l,V8 kvs (.inr n)=some (.ref l)/\H l=some (.lst ((nx n).map V.str))
def zGr(H:Hp)(ns ss:A0 Str)(nx:Str->A0 Str)(Q:VK):Prop:=∀(l:A3) (ts:A0 Str) (a:Hp),Cv H a->H l=none->a l=some (.lst (ts.map V.str))->ts.Nodup->ts.Pairwise OG->(∀x,x∈ts↔PR nx ss x)->(∀x∈ts,x∈ns)->Q (.ref l) a
def Mq(K:VA):Sp:=λg H Q _=>∃(d a:A3) (c:A0 (IM×V)) (b e:A0 Str) (f:Str->A0 Str),g = [.ref d,.ref a]/\H d=some (.dK c)/\Se H c b f/\(∀n∈b,∀y∈f n,y∈b)/\b.length<=100/\(∀y∈e,y∈b)/\e.Nodup/\QK K H a (e.map V.str)/\zGr H b e f Q
theorem zCs{H:Hp}{p:A3}{x:Str}{a:A0 Str}{Q:VK}(e:H p=some (r9 w p a))(q:Q (.bl (!decide (x∈a))) H):zGi w true (.str x) (.ref p) H Q:=⟨p,a,x,rfl,rfl,e,q⟩
theorem KQ:HZ ["steps","some","seen","waiting","here","name"] ["steps","some"] (B6 OO):=KL
set_option maxHeartbeats 1000000 in
theorem Mu(T:Tx K mg):II P w K mg base JP 1 T.bc.f T.bc.fd ["steps","some"] (Mq K):=by
 refine T.bc.F.o1 KQ λcdv A outer s H vs Q E hr h=>?_
 .obtain⟨d,a,kvs,J,g,L,rfl,hd,hv,hc,hl,B,C,hS,k⟩:=h;have hu:=Q2 hr;refine⟨_,(B0 (C6 (i:=2) KQ.nd rfl (.inl rfl) (X3 (Ra K w) T.bk Mh (A6 (pv 1) A8)))
   (B0 (C6 (i:=3) KQ.nd rfl (.inl rfl) (X3 (S7 K) T.aw P1 (A6 (pv 1) A8)))
   (B0 (Bd PassesOwn.never (ptV K (pv 3)) (B0 (C6 (i:=4) KQ.nd rfl (.inl rfl) (zAi K VG PySem.F.slot_list_pop PySem.F.type_list_pop Wz (pv 3)))
   (B5 (U2 PassesOwn.never rfl (MT K (U5 hu (pv 0) (pv 4) (λ_ _=>rfl))) (G5 (i:=5) KQ.nd rfl (.inl rfl))
   (B5 (K0 (B8 Ew (pv 5) (pv 2) rfl) (B0 (I9 (Su P w (zCr w) (pv 2) (A6 (pv 5) A8)))
   (B5 (I9 (Li K VG VH VI K7 (pv 3) (A6 (pv 5) A8))))) D9))))))
   (B5 (C0 (G9 (Lw w) T.aC R8 (A6 (pv 2) A8))))))),?_⟩
  have hls:=Bj C B;refine B3 λZ1 hZ1=>?_;refine C3 rfl ⟨a,g,rfl,hS,C,by lia,λp hp=>?_⟩;have Z:=Cv.new (o:=r9 w p g) hp;have f1:(HX H p (r9 w p g)) p=some (r9 w p g):=A7;generalize HX H p (r9 w p g)=H1 at Z f1⊢;refine hZ1 _ _ (B3 λZ2 hZ2=>?_);refine C3 rfl ⟨a,_,rfl,(Z.at a).seq hS,λq hq=>?_⟩;have u2:=Cv.new (o:=.lst (g.map V.str)) hq;have f2:(HX H1 q (.lst (g.map V.str))) q=some (.lst (g.map V.str)):=A7;generalize HX H1 q (.lst (g.map V.str))=H2 at u2 f2⊢;have D:p≠q:=A9 f1 hq;have R:=Z.free hq;refine hZ2 _ _ (B3 λZ3 hZ3=>?_);refine⟨λm σ G=>∃v4 M r S,σ = [some (.ref d),some (.ref a),some (.ref p),some (.ref q),v4,M]/\m=2 *(J.length-r.length)+S.length/\Cv H G/\G p=some (r9 w p r)/\G q=some (.lst (S.map V.str))/\RI L J g r S S1,
   ⟨_,none,none,g,g,rfl,rfl,Z.trans u2,u2 _ _ f1,f2,.init C B⟩,?_⟩
  rintro m σ G ⟨v4,M,r,S,rfl,rfl,s3,e3,g3,R3⟩;refine C3 rfl ⟨_,.inl ⟨_,IC.of g3,rfl⟩,?_⟩;rcases List.eq_nil_or_concat S with rfl | ⟨e,x,rfl⟩
  .refine N8 (hZ3 _ _ ?_);refine C3 rfl ⟨p,r,rfl,e3,λl ts hl pm so=>?_⟩;have u4:=Cv.new (o:=.lst (ts.map V.str)) hl;exact k l ts _ (s3.trans u4) (s3.free hl) A7 (pm.nodup_iff.mpr R3.nd) so (λy=>pm.mem_iff.trans (R3.fin y)) λy t=>R3.sub y (pm.mem_iff.mp t)
  .rw[List.concat_eq_append]at *;rw[AO (by simp)];refine⟨_,λ_ _ z=>z,B3 λN1 hN1=>?_⟩;have R4:RI L J g r e (λy=>y=x):=R3.pop (CH.mp R3.ndw).1 (λy t=>(AJ.mp t).imp id AC.mp) λy t=>CB _ t;have hx:x∈r:=R3.wai x (BK _ (AC.mpr rfl));refine C3 rfl ⟨.inl ⟨rfl,_,IC.of g3⟩,q,_,.str x,rfl,rfl,g3,by simp,?_⟩;have ed:((e ++ [x]).map V.str).dropLast=e.map V.str:=by simp
   rw[ed];have s4:=s3.upd (o:=.lst (e.map V.str)) R;have g4:(HX G q (.lst (e.map V.str))) q=some (.lst (e.map V.str)):=A7;have e4:(HX G q (.lst (e.map V.str))) p=some (r9 w p r):=(B7 D).trans e3;generalize HX G q (.lst (e.map V.str))=H4 at s4 g4 e4⊢;refine hN1 _ _ ?_;obtain⟨l,vl,el⟩:=hv x (R3.sub x hx);refine C3 rfl (C3 rfl ⟨d,.ref l,rfl,by rw[<-vl];exact LC.k (k:=Sum.inr x) (s4 _ _ hd),l,rfl,⟨_,IC.of (s4 _ _ el)⟩,?_⟩);refine Fr (O_ (K:=K) (IC.of el)) (λi σ u=>∃M b c,σ = [some (.ref d),some (.ref a),some (.ref p),some (.ref q),some (.str x),M]/\2 *(J.length-b.length)+c.length<2 *(J.length-r.length) +(e ++ [x]).length/\Cv H u/\u p=some (r9 w p b)/\u q=some (.lst (c.map V.str))/\RI L J g b c (λy=>y=x)/\x∈b/\∀y∈(L x).take i,y∈b)
    ⟨_,r,e,rfl,by rw[AS];exact EI _,s4,e4,g4,R4,hx,λy t=>absurd t AQ⟩ ?_ ?_ ?_
   .rintro i σ u _ ⟨_,_,_,_,_,N,_⟩;exact N.at l
   .rintro i σ u v U ⟨M,b,c,rfl,hm,N,O,g5,I,j,t5⟩ D1 W _;rw[AH]at U;obtain⟨y,t,rfl⟩:=BH.mp U;have X:y∈L x:=BB t;have ht:∀{n:A0 Str},(∀z∈b,z∈n)->y∈n->∀z∈(L x).take (i+1),z∈n:=λh1 h2 z hz=>by
     rw[D8 t]at hz;exact(AJ.mp hz).elim (λq=>h1 z (t5 z q)) λq=>AC.mp q▸h2
    refine C3 rfl (C3 rfl (zCs O ⟨_,rfl,Y7 (λh=>?_) λh=>?_⟩))
    .have Y:y∉b:=λz=>by rw[AU z]at h;cases h
     have en:Xh b y=b ++ [y]:=AI Y;have R6:=I.add Y (hc x (I.sub x j) y X) ((I.rch x j).step X);have l6:=R6.len;have lw:=I.lenw;refine B3 λO1 hO1=>?_;refine C3 rfl ⟨⟨p,rfl,.inr (.inl ⟨_,O⟩)⟩,C3 rfl ⟨p,b,y,rfl,rfl,O,by rw[AS,DX]at l6;lia,?_⟩⟩;rw[en];have s6:=N.upd (o:=r9 w p (b ++ [y])) hp;have e6:(HX u p (r9 w p (b ++ [y]))) p=some (r9 w p (b ++ [y])):=A7;have g6:(HX u p (r9 w p (b ++ [y]))) q=some (.lst (c.map V.str)):=(B7 D.symm).trans g5;generalize HX u p (r9 w p (b ++ [y]))=H6 at s6 e6 g6⊢;refine hO1 _ _ ?_;refine C3 rfl ⟨.inl ⟨rfl,_,IC.of g6⟩,C3 rfl ⟨q,_,_,rfl,rfl,g6,by rw[AB,sizeLine_eq];lia,W _ _ ⟨_,b ++ [y],c ++ [y],rfl,?_,s6.upd R,(B7 D).trans e6,?_,R6,CB _ j,ht (λz hz=>CB _ hz) (BK _ (AC.mpr rfl))⟩⟩⟩
     .rw[AS,DX]at l6⊢;rw[AS,DX];exact Mg l6 hm
     .rw[A7,AL];rfl
    .have hys:y∈b:=by
      by_cases z:y∈b
      .exact z
      .rw[AK z]at h;exact absurd rfl h
     exact W _ _ ⟨_,b,c,rfl,hm,N,O,g5,I,j,ht (λ_ z=>z) hys⟩
   .rintro σ u ⟨M,b,c,rfl,hm,N,O,g5,I,j,t5⟩;rw[AB,BN]at t5;exact⟨_,hm,_,_,b,c,rfl,rfl,N,O,g5,I.done t5⟩
def Uk{J:It}{a:A3}{ns:A0 Str}{H:Hp}{Q:St->Hp->Prop}{u:TE}{nx:Str->A0 Str}{k:A5 V}(as:NK J (ns.map V.str) a H)(L:ns.length<=1000){D:A3}(w:H D=none)
  (E:∀n∈ns,∀b,Cv H b->∀y:VK,(∀l d,Cv b d->b l=none->d l=some (.lst ((nx n).map V.str))->y (.ref l) d)->u [some (.str n),k] b y)
  (q:∀σ kvs H',Cv H H'->H' D=some (.dK kvs)->Se H' kvs ns nx->Q σ H') :
  Au (P5 0) Ev (Et D (X8 0) u) J [none,k] (HX H D (.dK [])) Q:=by
 refine O9 as (λi σ b=>(∃v,σ = [v,k])/\∃kvs,Cv H b/\b D=some (.dK kvs)/\kvs.length<=i/\∀n∈ns.take i,∃l,l≠D/\V8 kvs (.inr n)=some (.ref l)/\b l=some (.lst ((nx n).map V.str)))
  ⟨⟨_,rfl⟩,[],Cv.new w,A7,BP _,λn h=>absurd h AQ⟩ (λi σ b _ ⟨_,kvs,c,_⟩=>c.at a) ?_ ?_
 .rintro i σ b x N A ⟨⟨v,rfl⟩,kvs,c,f,F,g⟩ G;rw[AH]at A;obtain⟨m,o,rfl⟩:=BH.mp A;have M:i<ns.length:=(AM.mp o).1;refine Ci ?_;refine C3 rfl (E m (BB o) b c _ λp d r I K=>?_);refine⟨kvs,.inr m,r _ _ f,rfl,by rw[sizeLine_eq];lia,G _ _ ⟨⟨_,rfl⟩,Bf kvs (.inr m) (.ref p),(c.trans r).upd w,A7,?_,λn j=>?_⟩⟩
  .have:=V3 kvs (Sum.inr m:IM) (.ref p);lia
  .rw[Cg];by_cases e:n=m
   .rw[AO e,e];have B:p≠D:=(A9 f I).symm;exact⟨p,B,rfl,(B7 B).trans K⟩
   .rw[AI e];rw[D8 o]at j;obtain⟨l,C,s,t⟩:=g n ((AJ.mp j).elim id λz=>absurd (AC.mp z) e);exact⟨l,C,s,(B7 C).trans (r _ _ t)⟩
 .rintro σ b ⟨_,kvs,c,f,F,g⟩;rw[AB,BN]at g;exact q σ kvs b c f λn j=>let⟨l,_,s,t⟩:=g n j;⟨l,s,t⟩
def T7{ns:A0 Str}{a:A0 IL}(h:∀q∈a,q.2.1∈ns/\q.2.2∈ns):∀n∈ns,∀y∈C2 a n,y∈ns:=λn _ y b=>by
 obtain⟨q,c,rfl⟩:=BJ.mp b;exact(h q (AV.mp c).1).2
def g9{ns:A0 Str}{a:A0 IL}(h:∀q∈a,q.2.1∈ns/\q.2.2∈ns):∀n∈ns,∀y∈B2 a n,y∈ns:=λn _ y b=>by
 obtain⟨q,c,rfl⟩:=BJ.mp b;exact(h q (AV.mp c).1).1
def Ou(K:VA)(C:A3):Sp:=λe H Q _=>∃(x a:A3) (c b:A0 Str) (d:A0 IL),e = [.ref x,.ref a]/\IQ C H x c d/\(∀y∈b,y∈c)/\b.Nodup/\QK K H a (b.map V.str)/\zGr H c b (C2 d) Q
theorem Sc:HZ ["web","some"] ["web","some"] (B6 PM):=KL
theorem Tw(T:Tx K mg):II P w K mg base JP 3 T.bg.f T.bg.fd ["web","some"] (Ou K T.ad):=by
 refine T.bg.F.o1 Sc λS A t s H vs Q E j h=>?_
 .obtain⟨x,a,e,U,u,rfl,v,i,y,W,k⟩:=h;have hu:=Q2 j;refine⟨_,(B5 (C0 (E4 T.bc (Mu T) (Rm j) (A6 (Nh (N':=["name","web"]) (cap:=[none,some 0]) (cl:=[("web",_)]) (N0 ⟨⟨rfl,rfl,rfl,rfl⟩,trivial⟩ ⟨rfl,trivial⟩) rfl (MT K (I0 (pv 0) T.ag T.ac.m (E3 T) (Rm j) T.ac.b .nil J6)) (λ_ _ _ _=>by exact⟨(LV 0),P0,(pv 0),(P2 (pv 1) T.ag T.as.m (V0 T) (Rm j) T.as.b .nil J6 (A6 (pv 0) A8))⟩)) (A6 (pv 1) A8))))),?_⟩;obtain⟨z,N,a1,b,c,d,kc,kd,O,_⟩:=id v;refine C3 rfl ⟨x,N,C3 rfl ⟨O,rfl,x,e,u,rfl,v,λp B=>?_⟩⟩;have q:=Cv.new (o:=.lst (e.map V.str)) B;have C:(HX H p (.lst (e.map V.str))) p=some (.lst (e.map V.str)):=A7;generalize HX H p (.lst (e.map V.str))=H2 at q C⊢;refine⟨p,rfl,⟨_,IC.of C⟩,λD X=>?_⟩;refine Uk (nx:=C2 u) (O_ (K:=K) (IC.of C)) (by have:=z.len;lia) X (λn Y H1 R Q' Z=>?_) λσ G H3 s3 e3 I=>?_
  .have W1:=(v.same q).same R;refine C3 rfl ⟨x,N,C3 rfl ⟨R _ _ (q _ _ O),rfl,C3 rfl ⟨x,n,e,u,rfl,W1,Y,λl r=>?_⟩⟩⟩;exact Z l _ (Cv.new r) r A7
  .have g:=q.trans s3;refine C3 rfl ⟨D,a,G,e,U,_,rfl,e3,I,T7 z.mem,z.len,i,y,(g.at a).seq W,λl ts H4 s4 r e4 J L m4 M=>?_⟩;exact k l ts H4 (g.trans s4) (g.free r) e4 J L m4 M
def Kq(a:IM×V):∀(l c:A0 (IM×V)),X0 c (l ++ [a])=Bf (X0 c l) a.1 a.2
 | [],_=>rfl
 | b::l,c=>Kq a l (Bf c b.1 b.2)
def Be:∀{more b:A0 (IM×V)},((b++more).map λk=>k.1).Nodup->X0 b more=b++more
 | [],b,_=>(CC b).symm
 | a::m,b,h=>by
  have c:V8 b a.1=none:=by
   cases e:V8 b a.1 with
   | none=>rfl
   | some v =>
    rw[AL,BM]at h;exact absurd rfl ((CH.mp h).2.2 _ (Pg e) _ (AZ ..))
  show X0 (Bf b a.1 a.2) m=_;rw[Lb a.2 c,Be (by rw[BF];exact h),BF];rfl
def My(f:Str->A5 Str)(l:A0 Str)(g:Str->Str)(n:Str):A5 Str:=if n∈l then some (g n)else f n
def WD.mrgG{g:Str->Str}:∀{l:A0 Str} {kvs:A0 (IM×V)} {f:Str->A5 Str},WD kvs f->WD (X0 kvs (l.map λn=>(Sum.inr n,V.str (g n)))) (My f l g)
 | [],_,_,h=>λn=>(h n).trans (by unfold My;rw[AI AQ])
 | a::l,kvs,f,h=>λn=>by
  have c:WD (Bf kvs (.inr a) (.str (g a))) (My f [a] g):=λm=>by
   rw[Cg];unfold My;by_cases e:m=a
   .rw[AO e,AO (AC.mpr e),e];rfl
   .rw[AI e,AI λz=>e (AC.mp z)];exact h m
  refine(WD.mrgG (l:=l) c n).trans ?_;unfold My;by_cases e:n∈l
  .rw[AO e,AO (AN _ e)]
  .rw[AI e];by_cases b:n=a
   .rw[AO (AC.mpr b),AO (b▸AZ ..)]
   .rw[AI λz=>b (AC.mp z),AI λz=>(AW.mp z).elim b e]
def Wb{K:VA}{J:It}{a C:A3}{b:A0 (A3×Row)}{H:Hp}{Q:St->Hp->Prop}(as:NK J (b.map λq=>V.ref q.1) a H)(o:∀q∈b,H q.1=some (.tup [.str q.2.1,.str q.2.2.1,q.2.2.2]))(p:b.length<=1000)(m:H C=none)
  (h:∀σ k,Cv H k->k C=some (.dK (X0 [] (b.map λq=>((Sum.inr q.2.1:IM),V.str q.2.2.1))))->Q σ k) (d e f:A5 V) :
  Au (zEi K 3 (Ms (P5 0) (Ms (P5 1) (Ms (P5 2) zEt)))) Ev (Et C (X8 0) (X8 1)) J [d,e,f] (HX H C (.dK [])) Q:=by
 refine O9 as (λi σ c=>(∃d e f,σ = [d,e,f])/\Cv H c/\c C=some (.dK (X0 [] ((b.take i).map λq=>((Sum.inr q.2.1:IM),V.str q.2.2.1)))))
  ⟨⟨_,_,_,rfl⟩,Cv.new m,A7⟩ (λi σ w _ ⟨_,r,_⟩=>r.at a) ?_ ?_
 .rintro i σ c v N n ⟨⟨d,e,f,rfl⟩,g,j⟩ s;rw[AH]at n;obtain⟨y,l,rfl⟩:=BH.mp n;have x:=(AM.mp l).1;have t:=g _ _ (o y (BB l));refine⟨y.1,C3 rfl ⟨IZ.of t,rfl,_,C3 rfl ⟨_,C3 rfl (B9 rfl rfl ?_)⟩⟩⟩;have u:=S9 [] ((b.take i).map λq=>((Sum.inr q.2.1:IM),V.str q.2.2.1));rw[AB,A_]at u;have A:([]:A0 (IM×V)).length=0:=rfl;show Et C (X8 0) (X8 1) [some (.str y.2.1),some (.str y.2.2.1),some y.2.2.2] c N;refine C3 rfl (C3 rfl ⟨_,Sum.inr y.2.1,j,rfl,by rw[sizeLine_eq];lia,s _ _ ⟨⟨_,_,_,rfl⟩,g.upd m,?_⟩⟩);rw[A7,D8 l,AL];exact congrArg (λz=>some (HO.dK z)) (Kq (Sum.inr y.2.1,V.str y.2.2.1) _ _).symm
 .rintro σ c ⟨_,g,j⟩;rw[AB,BN]at j;exact h σ c g j
def zDs(H:Hp)(ns:A0 Str)(d:A0 IL)(Q:VK):Prop:=∀l a b,Cv H b->H l=none->b l=some (.dK a)->WD a (WG ns d)->(∀c:A0 Str,(a.map λq=>q.1)=c.map Sum.inr->c.Perm ns->Q (.ref l) b)
theorem LH:HZ ["web","stay","given"] ["web","stay"] (B6 LZ):=KL
def Nj(C:A3):Sp:=λf H Q _=>∃(x d:A3) (a:A0 Str) (b:A0 IL) (c:A0 Str) (e:Str->Str),f = [.ref x,.ref d]/\IQ C H x a b/\H d=some (.dK (c.map λn=>(Sum.inr n,V.str (e n))))/\c.Nodup/\(∀n∈c,n∈a/\e n=G8 (B2 b) n)/\zDs H a b Q
set_option maxHeartbeats 4000000 in
theorem V9(T:Tx K mg):II P w K mg base JP 6 T.aE.f T.aE.fd ["web","stay"] (Nj T.ad):=by
 refine T.aE.F.o1 LH λcdv A N s H vs Q E hr h=>?_
 .obtain⟨x,d0,u,r,j,m,rfl,hW,v,nk,J,q⟩:=h;refine⟨_,(B0 (C6 (i:=2) LH.nd rfl (.inl rfl) (X3 Sh T.bm Jt (A6 (pv 1) A8)))
   (B0 (I9 (Iw (pv 2) (Nh (N':=["name","word","number"]) (cap:=[none,none,none]) (cl:=[]) (N0 trivial trivial) rfl (MT K (E4 T.aH (As T) (Rm hr) (A6 (pv 0) (A6 (pv 1) A8)))) (λ_ _ _ _=>by exact⟨(QV K (n:=3) (E5 (LV 0) (E5 (LV 1) (E5 (LV 2) R0)))),P0,(pv 0),(pv 1)⟩)) ⟨rfl,rfl,rfl,rfl⟩))
   (B5 (C0 (pv 2))))),?_⟩
  have O:=hW.ok;have ln:=O.len;have y:=O.nd;refine B3 λN1 R=>?_;refine C3 rfl ⟨d0,_,rfl,v,λd S=>?_⟩;have L:=Cv.new (o:=.dK (j.map λn=>((Sum.inr n:IM),V.str (m n)))) S;have M:(HX H d (.dK (j.map λn=>((Sum.inr n:IM),V.str (m n))))) d=some (.dK (j.map λn=>((Sum.inr n:IM),V.str (m n)))):=A7;generalize HX H d (.dK (j.map λn=>((Sum.inr n:IM),V.str (m n))))=H1 at L M⊢;have B:WD (j.map λn=>((Sum.inr n:IM),V.str (m n))) (My (λ_=>none) j m):=by
   have h1:X0 [] (j.map λn=>((Sum.inr n:IM),V.str (m n))) = []++j.map λn=>((Sum.inr n:IM),V.str (m n)):=Be (by
    rw[FZ,BW];exact List.Pairwise.map _ (λa b h e=>h (Sum.inr.inj e)) nk)
   have h2:=WD.mrgG (l:=j) (kvs:=[]) (f:=λ_=>none) (g:=m) λn=>rfl;rw[h1]at h2;exact h2
  have U:RQ r (My (λ_=>none) j m):=λn w e=>by
   unfold My at e;by_cases c:n∈j
   .rw[AO c]at e;rw[<-BT e];exact(J n c).2
   .rw[AI c]at e;cases e
  have p:∀n,n∈wl u (My (λ_=>none) j m)↔n∈u/\n∉j:=λn=>by
   rw[JZ];unfold My;by_cases c:n∈j
   .rw[AO c];exact⟨λz=>(by cases z.2),λz=>absurd c z.2⟩
   .rw[AI c];exact⟨λz=>⟨z.1,c⟩,λz=>⟨z.1,rfl⟩⟩
  have C:(j++wl u (My (λ_=>none) j m)).Perm u:=(List.perm_ext_iff_of_nodup (CH.mpr ⟨nk,y.filter _,λa ha b hb e=>((p b).mp hb).2 (e▸ha)⟩) y).mpr λn=>by
   rw[AJ];refine Iff.trans (or_congr Iff.rfl (p n)) ?_;by_cases c:n∈j
   .exact⟨λ_=>(J n c).1,λ_=>.inl c⟩
   .exact⟨λz=>z.elim (λz=>absurd z c) λz=>z.1,λz=>.inr ⟨z,c⟩⟩
  have lk:=C.length_eq;rw[AS]at lk;refine R _ _ (B3 λN2 W=>?_);refine C3 rfl ⟨_,rfl,.inl ⟨_,.inl M⟩,?_⟩;refine C3 rfl (C3 rfl ⟨x,d0,u,r,_,_,rfl,hW.same L,L _ _ v,B,by rw[AB];lia,λl t H2 s2 hl L2 S2 QA=>?_⟩);refine⟨l,rfl,⟨_,IC.of L2.1⟩,λD X=>?_⟩;refine Wb (O_ (K:=K) (IC.of L2.1)) L2.2 (by lia) X (λσ H3 s3 e3=>?_) _ _ _;obtain⟨w2,Y⟩:=S2.words (g9 O.mem) y U;generalize wl u (My (λ_=>none) j m)=ws at C lk Y p;have Z:(t.map λq=>q.2.1).Nodup:=by
   have:=Y.nodup_iff.mpr ((CH.mp (C.nodup_iff.mpr y)).2.1)
   rwa [BW]at this
  have G:(t.map λq=>q.2.1).Perm ws:=by rwa [BW]at Y
  have e4:X0 [] (t.map λq=>((Sum.inr q.2.1:IM),V.str q.2.2.1)) =(t.map λq=>q.2.1).map λn=>((Sum.inr n:IM),V.str (G8 (B2 r) n)):=by
   rw[Be (by
    rw[FZ,BW];exact List.Pairwise.map _ (λa b h e=>h (Sum.inr.inj e)) (DV.mp Z)),FZ,BW]
   exact List.map_congr_left λq hq=>by
    have:=w2 q.2 (BJ.mpr ⟨q,hq,rfl⟩);show _ =((Sum.inr q.2.1:IM),V.str (G8 (B2 r) q.2.1));rw[this]
  rw[e4]at e3;have I:=s2.trans s3;have f3:=I _ _ M;have lw:=G.length_eq;refine⟨D,_,_,rfl,f3,e3,λe=>?_,by rw[AB,AB,sizeLine_eq];lia,?_⟩
  .rw[<-e,s2 _ _ M]at X;cases X
  have u4:=((L.trans I).upd (o:=.dK (X0 (j.map λn=>((Sum.inr n:IM),V.str (m n))) ((t.map λq=>q.2.1).map λn=>((Sum.inr n:IM),V.str (G8 (B2 r) n))))) S);refine W _ _ (C3 rfl (q d _ _ u4 S A7 ?_ (j++t.map λq=>q.2.1) ?_ ((CV j G).trans C)))
  .intro n;refine(WD.mrgG (g:=G8 (B2 r)) B n).trans (congrArg (Option.map V.str) ?_);unfold My WG;by_cases c:n∈t.map λq=>q.2.1
   .rw[AO c,AO ((p n).mp (G.mem_iff.mp c)).1]
   .rw[AI c];by_cases k:n∈j
    .rw[AO k,AO (J n k).1,(J n k).2]
    .rw[AI k,AI λz=>c (G.mem_iff.mpr ((p n).mpr ⟨z,k⟩))]
  .rw[Be]
   .rw[AL,BW,BW];have e5:((λq:IM×V=>q.1)∘λn:Str=>((Sum.inr n:IM),V.str (m n)))=Sum.inr:=rfl;have e6:((λq:IM×V=>q.1)∘λn:Str=>((Sum.inr n:IM),V.str (G8 (B2 r) n)))=Sum.inr:=rfl;rw[e5,e6,<-AL]
   .rw[AL,BW,BW];have e5:((λq:IM×V=>q.1)∘λn:Str=>((Sum.inr n:IM),V.str (m n)))=Sum.inr:=rfl;have e6:((λq:IM×V=>q.1)∘λn:Str=>((Sum.inr n:IM),V.str (G8 (B2 r) n)))=Sum.inr:=rfl;show((j.map Sum.inr) ++(t.map λq=>q.2.1).map Sum.inr:A0 IM).Nodup;rw[<-AL];exact List.Pairwise.map _ (λa b h e=>h (Sum.inr.inj e)) (((CV j G).trans C).nodup_iff.mpr y)
def oV(o:A5 Str):V:=(o.map V.str).getD .non
abbrev Row3:Type:=Str×A5 Str×Str
def R3(H:Hp)(l:A3)(a:A0 (A3×Row3)):Prop:=H l=some (.lst (a.map λq=>V.ref q.1))/\∀q∈a,H q.1=some (.tup [.str q.2.1,oV q.2.2.1,.str q.2.2.2])
def R3.same{H H':Hp}{l:A3}{a:A0 (A3×Row3)}(h:R3 H l a)(s:Cv H H'):R3 H' l a:=⟨s _ _ h.1,λq b=>s _ _ (h.2 q b)⟩
def Ty(f:Str->A5 Str)(g:Str->Str)(n:Str):Bool:=!decide (f n=some (g n))
def Cr(f:Str->A5 Str)(g:Str->Str)(ns:A0 Str):A0 Row3:=(ns.filter (Ty f g)).map λn=>(n,f n,g n)
def Vl(o:A5 Str)(y:Str):zEo (oV o) (.str y)=true/\(!decide (oV o = .str y))=!decide (o=some y):=by
 cases o with
 | none=>exact⟨rfl,rfl⟩
 | some x =>
  refine⟨rfl,?_⟩;show(!decide (V.str x=V.str y))=_;by_cases e:x=y
  .rw[e,AU rfl,AU rfl]
  .rw[AK (λz=>e (by cases z;rfl)),AK (λz=>e (by cases z;rfl))]
theorem Xz{K:VA}{a D:A3}{ss:A0 Str}{r:St}{f:Str->A5 Str}{g:Str->Str}{B:TT}{C:TE}{H:Hp}{Q:St->Hp->Prop}(e:H a=some (.lst (ss.map V.str)))(P:ss.length<=1000)(E:H D=none)
  (u:∀y∈ss,∀d,Cv H d->∀m:Bool->Hp->Prop,m (Ty f g y) d->B (some (.str y)::r) d m)
  (R:∀y∈ss,∀d,Cv H d->∀m:VK,(∀t,d t=none->m (.ref t) (HX d t (.tup [.str y,oV (f y),.str (g y)])))->C (some (.str y)::r) d m)
  (h:∀σ w b,Cv H w->R3 w D b->(b.map λq=>q.2)=Cr f g ss->Q σ w) (F:A5 V) :
  Au (P5 0) B (Y6 D C) (P7 K a) (F::r) (HX H D (.lst [])) Q:=by
 refine O9 (O_ (K:=K) (IC.of e)) (λi σ j=>(∃v,σ=v::r)/\Cv H j/\∃b,R3 j D b/\(b.map λq=>q.2)=Cr f g (ss.take i))
  ⟨⟨_,rfl⟩,Cv.new E,[],⟨A7,λq p=>absurd p AQ⟩,rfl⟩ (λi σ d _ ⟨_,S,_⟩=>S.at a) ?_ ?_
 .rintro i σ j v N G ⟨⟨F,rfl⟩,k,b,s,l⟩ I;rw[AH]at G;obtain⟨y,J,rfl⟩:=BH.mp G;have L:=BB J;have M:Cr f g (ss.take (i+1))=Cr f g (ss.take i)++if Ty f g y=true then [(y,f y,g y)]else []:=by
   unfold Cr;rw[D8 J,CT,BR,D_,AL];by_cases c:Ty f g y=true
   .rw[AO c,AO c];rfl
   .rw[AI c,AI c];rfl
  have U:b.length<=1000:=by
   have O:=congrArg List.length l;unfold Cr at O;have:=BC (Ty f g) (ss.take i);rw[AB,AB]at O;rw[A_]at this;lia
  refine u y L j k _ (Y7 (λc=>R y L j k _ λt u=>?_) (λc=>I _ _ ⟨⟨_,rfl⟩,k,b,s,by rw[M,AI c,CC];exact l⟩));have x:=Cv.new (o:=.tup [.str y,oV (f y),.str (g y)]) u;have A:(HX j t (.tup [.str y,oV (f y),.str (g y)])) t=some (.tup [.str y,oV (f y),.str (g y)]):=A7;generalize HX j t (.tup [.str y,oV (f y),.str (g y)])=X at x A⊢;have n:=s.same x;refine⟨_,n.1,by rw[AB,sizeLine_eq];lia,I _ _ ⟨⟨_,rfl⟩,(k.trans x).upd E,b ++ [(t,y,f y,g y)],⟨?_,λq p=>?_⟩,?_⟩⟩
  .rw[A7,AL];rfl
  .have T:q.1≠D:=by
    rcases AJ.mp p with c | c
    .exact J7 (n.2 q c) n.1 (by intro z;cases z)
    .rw[AC.mp c];exact J7 A n.1 (by intro z;cases z)
   rw[B7 T];rcases AJ.mp p with c | c
   .exact n.2 q c
   .rw[AC.mp c];exact A
  .rw[AL,l,M,AO c];rfl
 .rintro σ j ⟨_,k,b,s,l⟩;rw[AB,BN]at l;exact h σ j b k s l
theorem Bm:HZ ["old","new"] ["old","new"] (B6 Le):=KL
def Go:Sp:=λk H Q _=>∃(d e:A3) (h b:A0 (IM×V)) (f:Str->A5 Str) (g:Str->Str) (i a:A0 Str),k = [.ref d,.ref e]/\H d=some (.dK h)/\WD h f/\H e=some (.dK b)/\(b.map λq=>q.1)=i.map Sum.inr/\i.Perm a/\a.Pairwise OG/\a.length<=100/\(∀n∈a,V8 b (.inr n)=some (.str (g n))) /\
 ∀l j c,Cv H c->H l=none->R3 c l j->(j.map λq=>q.2)=Cr f g a->Q (.ref l) c
theorem Cb(T:Tx K mg):II P w K mg base JP 1 T.aO.f T.aO.fd ["old","new"] (Go):=by
 refine T.aO.F.o1 Bm λL A v s H vs Q E M h=>?_
 .obtain⟨d,e,kd,N,f,g,O,i,rfl,R,S,G,U,W,X,ln,Y,q⟩:=h;have r:=Q2 M;refine⟨_,(B5 (C0 (U7 (N':=["name","new","old"]) (cap:=[none,some 1,some 0]) (cl:=[("old",_),("new",_)]) (N0 ⟨⟨rfl,rfl,rfl,rfl⟩,⟨⟨rfl,rfl,rfl,rfl⟩,trivial⟩⟩ ⟨rfl,⟨rfl,trivial⟩⟩) rfl (MT K (G9 Vb T.aC R8 (A6 (pv 1) A8))) (λ_ _ _ _=>by exact⟨(LV 0),(K5 (B8 Co (Y2 r (pv 2) (pv 0) ⟨rfl,rfl,rfl,rfl⟩) (U5 r (pv 1) (pv 0) (λ_ _=>rfl)) (C5 _))),(J5 (A6 (pv 0) (A6 (Y2 r (pv 2) (pv 0) ⟨rfl,rfl,rfl,rfl⟩) (A6 (U5 r (pv 1) (pv 0) (λ_ _=>rfl)) A8))))⟩)))),?_⟩;refine C3 rfl ⟨e,N,O,rfl,.inl G,U,λl Z hl p3 x=>?_⟩;rw[M0 x X (p3.trans W)];have j:=Cv.new (o:=.lst (i.map V.str)) hl;have z:(HX H l (.lst (i.map V.str))) l=some (.lst (i.map V.str)):=A7;generalize HX H l (.lst (i.map V.str))=I at j z⊢;refine⟨l,rfl,⟨_,IC.of z⟩,λD J=>?_⟩;have m:∀(y:Str) (a:Hp) (c:VK),Cv I a->c (oV (f y)) a->Kf (X8 2) (X8 0) [some (.str y),some (.ref e),some (.ref d)] a c:=λy a c b B=>by
   have u:=b _ _ (j _ _ R);refine C3 rfl ⟨d,rfl,.inl ⟨_,.inl u⟩,C3 rfl ⟨_,LC.k (k:=.inr y) u,?_⟩⟩;rw[S y];exact B
  have n:∀(y:Str),y∈i->∀(a:Hp) (c:VK),Cv I a->c (.str (g y)) a->zBf (X8 1) (X8 0) [some (.str y),some (.ref e),some (.ref d)] a c:=λy p a c b B=>by
   refine C3 rfl (C3 rfl ⟨e,_,rfl,?_,B⟩);have:=LC.k (k:=.inr y) (b _ _ (j _ _ G));rw[Y y p]at this;exact this
  refine Xz (f:=f) (g:=g) z (by lia) J (λy p a b c C=>?_) (λy p a b c C=>?_) (λσ a rs b L2 u=>q D rs a (j.trans b) (j.free J) L2 u) _
  .unfold t4 ON;refine m y a _ b ?_;refine n y p a _ b ?_;refine⟨(Vl _ _).1,_,rfl,?_⟩;rw[(Vl _ _).2];exact C
  .exact C3 rfl (m y a _ b (n y p a _ b ⟨by show 3<=sizeLine;rw[sizeLine_eq];lia,λt ht=>C t ht⟩))
def eK(H:Hp)(k p:A3):Hp:=λb=>if b=k\/b=p then none else H b
def W9{H:Hp}{k p b:A3}(h1:b≠k)(h2:b≠p):eK H k p b=H b:=AI λz=>z.elim h1 h2
def Pc{H:Hp}{k p b:A3}{o:HO}(e:eK H k p b=some o):b≠k/\b≠p/\H b=some o:=by
 by_cases h:b=k\/b=p
 .unfold eK at e;rw[AO h]at e;cases e
 .have a:b≠k:=λz=>h (.inl z);have c:b≠p:=λz=>h (.inr z);rw[W9 a c]at e;exact⟨a,c,e⟩
def U4{H:Hp}{k p:A3}:Cv (eK H k p) H:=λb o e=>(Pc e).2.2
def Bt(k p:A3)(H H':Hp):Prop:=∀b o,b≠k->b≠p->H b=some o->H' b=some o
def Bt.eK{k p:A3}{H H':Hp}(h:Bt k p H H'):Cv (eK H k p) (eK H' k p):=λb o e=>by
 obtain⟨a,c,e⟩:=Pc e;rw[W9 a c];exact h b o a c e
def Bt.of{k p:A3}{H H':Hp}(h:Cv H H'):Bt k p H H':=λb o _ _ e=>h b o e
def Bt.trans{k p:A3}{H H' a:Hp}(h:Bt k p H H')(h':Bt k p H' a):Bt k p H a:=λb o c d e=>h' b o c d (h b o c d e)
def Bt.k{k p:A3}{H H':Hp}{o:HO}(h:Bt k p H H'):Bt k p H (HX H' k o):=λb q a c e=>(B7 a).trans (h b q a c e)
def Bt.p{k p:A3}{H H':Hp}{o:HO}(h:Bt k p H H'):Bt k p H (HX H' p o):=λb q c a e=>(B7 a).trans (h b q c a e)
def Gz{H:Hp}{k p:A3}{o:HO}:eK (HX H k o) k p=eK H k p:=funext λb=>by
 by_cases h:b=k\/b=p
 .unfold eK;rw[AO h,AO h]
 .have a:b≠k:=λz=>h (.inl z);rw[W9 a (λz=>h (.inr z)),W9 a (λz=>h (.inr z)),B7 a]
def Yy{H:Hp}{k p:A3}{o:HO}:eK (HX H p o) k p=eK H k p:=funext λb=>by
 by_cases h:b=k\/b=p
 .unfold eK;rw[AO h,AO h]
 .have a:b≠p:=λz=>h (.inr z);rw[W9 (λz=>h (.inl z)) a,W9 (λz=>h (.inl z)) a,B7 a]
def IQ.keepD{C D:A3}{H H':Hp}{x d i:A3}{j:A0 (Str×V)}{ns:A0 Str}{m:A0 IL}(h:IQ C H x ns m)(p:H d=some (.ins D i j))(nx:x≠d)(k:∀b o,b≠d->H b=some o->H' b=some o):IQ C H' x ns m:=by
 obtain⟨r,s,a,b,c,t,u,w,y,A,B,E,F,G,I,J⟩:=h;have f:∀{b:A3} {o:HO},H b=some o->o≠ .ins D i j->H' b=some o:=λe n=>k _ _ (J7 e p n) e;exact⟨r,s,a,b,c,t,u,w,k _ _ nx y,f A (by intro z;cases z),f B (by intro z;cases z),λq K=>f (E q K) (by intro z;cases z),f F (by intro z;cases z),f G (by intro z;cases z),λn g=>let⟨l,v,e⟩:=I n g;⟨l,v,f e (by intro z;cases z)⟩,λn g=>let⟨l,v,e⟩:=J n g;⟨l,v,f e (by intro z;cases z)⟩⟩
def kf(x g r p:A3):A0 (Str×V):=[("web",.ref x),("given",.ref g),("reckoned",.ref r),("past",.ref p)]
structure QD(ns:A0 Str)(qs:A0 IL)(ns2:A0 Str)(qs2:A0 IL)(ss ts:A0 Str):Prop where
 nd:ts.Nodup
 so:ts.Pairwise OG
 sub:∀x∈ts,x∈ns2
 rch:∀x,x∈ts↔PR (C2 qs2) ss x
 stay:∀n∈ns2,n∉ts->WG ns qs n=some (G8 (B2 qs2) n)
structure KN(CK CW:A3)(H:Hp)(k p:A3)(ns:A0 Str)(qs:A0 IL)(rk:A0 Str)(m:Nat):Prop where
 ex:∃(dk x g r:A3) (kvs:A0 (IM×V)) (ks:A0 Str) (rl pl:A0 V),H k=some (.ins CK dk (kf x g r p))/\IQ CW (eK H k p) x ns qs/\H g=some (.dK kvs)/\WD kvs (WG ns qs)/\(kvs.map λq=>q.1)=ks.map Sum.inr/\ks.Perm ns/\H p=some (.lst pl)/\pl.length<=m/\(eK H k p) r=some (.lst (rk.map V.str))
 nm:∀n∈ns,P8 n=true
def KN.same{b c:A3}{H H':Hp}{k p:A3}{ns:A0 Str}{d:A0 IL}{e:A0 Str}{m:Nat}(h:KN b c H k p ns d e m)(s:Cv H H'):KN b c H' k p ns d e m :=
 ⟨let⟨f,x,g,r,a,i,j,l,n,o,q,t,u,v,w,y,z⟩:=h.ex;⟨f,x,g,r,a,i,j,l,s _ _ n,o.same (Bt.of s).eK,s _ _ q,t,u,v,s _ _ w,y,(Bt.of s).eK _ _ z⟩,h.nm⟩
theorem Df{C:A3}{H:Hp}{h l2:A3}{ss:A0 Str}{ps:A0 IL}{R:Hp->Prop}{E:XK}{y a:A3}(r:H y=none)(i:H a=none)(s:H h=some (.lst (ss.map V.str)))(t:H l2=some (.lst (G0 ps)))(j:∀q∈ps,G6 H q)(w:X5 ss)(x:ME ss ps)
  (q:∀(ns:A0 Str) (g:A0 IL) (H':Hp),ns.Perm ss->ns.Pairwise OG->g.Perm ps->g.Pairwise S_->Cv H H'->IQ C H' y ns g->(∀z k u,H z=some (.lst k)->IQ C (HX H' z u) y ns g)->R H') :
  Bz K C [.ref y,.ref h,.ref l2] (HX (HX H a (.own y)) y (.ins C a [])) (λv A=>v = .non/\R A) E:=by
 have c:Cv H (HX (HX H a (.own y)) y (.ins C a [])):=λb o e=>by
  rw[B7 (A9 e r),B7 (A9 e i)];exact e
 refine⟨y,a,h,ss,l2,ps,rfl,A7,.inl (IC.of (c _ _ s)),w,c _ _ t,J2 c j,x,λl m B n d p f D F G=>⟨rfl,?_⟩⟩;exact q l m B n d p f (λb o e=>D b o (c b o e) (by simpa using A9 e r)) F λz k u I=>G z k u (c _ _ I)
theorem Op:HZ ["web"] ["web"] (B6 OT):=KL
def zAe(C:A3):Sp:=λe H Q _=>∃(x:A3) (b:A0 Str) (d:A0 IL),e = [.ref x]/\IQ C H x b d/\(∀n∈b,P8 n=true) /\
 ∀(y:A3) (a:A0 IL) (c:Hp),a.Perm d->Cv H c->H y=none->IQ C c y b a->(∀z f u,H z=some (.lst f)->IQ C (HX c z u) y b a)->Q (.ref y) c
theorem Oh(T:Tx K mg):II P w K mg base JP 5 T.bd.f T.bd.fd ["web"] (zAe T.ad):=by
 refine T.bd.F.o1 Op λN A j s H vs Q E k h=>?_
 .obtain⟨x,d,g,rfl,W,O,q⟩:=h;obtain⟨e,B,a1,b,c,d',kc,R,C,_,_,l,_⟩:=id W;refine⟨_,(B5 (C0 (j7 T.ba (Q9 T) (Rm k) rfl T.a9 T.az .nil J6 (A6 (I0 (pv 0) T.ag T.ac.m (E3 T) (Rm k) T.ac.b .nil J6) (A6 (I0 (pv 0) T.ag T.ae.m (J4 T) (Rm k) T.ae.b .nil J6) A8))))),?_⟩;refine C3 rfl ⟨x,B,C3 rfl ⟨C,rfl,x,d,g,rfl,W,λn p=>?_⟩⟩;have i:=Cv.new (o:=.lst (d.map V.str)) p;have D:(HX H n (.lst (d.map V.str))) n=some (.lst (d.map V.str)):=A7;generalize HX H n (.lst (d.map V.str))=S at i D⊢;refine C3 rfl ⟨x,B,C3 rfl ⟨i _ _ C,rfl,x,d,g,rfl,W.same i,λG r=>?_⟩⟩;have I:=Cv.new (o:=.lst (G0 g)) r;have U:(HX S G (.lst (G0 g))) G=some (.lst (G0 g)):=A7;have a:=i.trans I;intro y dy J t X;refine Df J t (I _ _ D) U (J2 a l) ⟨O,e.nd,e.len⟩ ⟨e.mem,e.ndq,e.lenq⟩ λY v Z pn sn pq sq s' L M=>?_;rw[M0 sn e.srt pn]at L M;exact q y v Z pq (a.trans s') (a.free J) L λz zs u hz=>M z zs u (a _ _ hz)
theorem o0:HZ ["self","web"] ["self","web"] (B6 Kc):=KL
def Vq(d e:A3):Sp:=λg H Q _=>∃(k h x:A3) (b:A0 Str) (f:A0 IL),g = [.ref k,.ref x]/\H k=some (.ins d h [])/\IQ e H x b f/\x≠k/\(∀n∈b,P8 n=true) /\
 ∀(p:A3) (a:A0 IL) (c:Hp),a.Perm f->Bt k p H c->H p=none->KN d e c k p b a [] 0->Q .non c
set_option maxHeartbeats 1000000 in
theorem Cz(T:Tx K mg):II P w K mg base JP 7 T.bo T.bn ["self","web"] (Vq T.aa T.ad):=by
 refine T.bp.o1 o0 λcdv A D s H vs Q E hr h=>?_
 .obtain⟨k,a,x,j,qs,rfl,hk,W,nx,hN,q⟩:=h;refine⟨_,(B0 (QU K (pv 0) (E4 T.bd (Oh T) (Rm hr) (A6 (pv 1) A8)))
   (B0 (QU K (pv 0) (E4 T.aE (V9 T) (Rm hr) (A6 (MU K (pv 0)) (A6 Vg A8))))
   (B0 (QU K (pv 0) (E7 A8))
   (B5 (QU K (pv 0) (E7 A8)))))),?_⟩
  refine B3 λN1 F=>?_;refine C3 rfl ⟨x,j,qs,rfl,W,hN,λy c v p1 s1 hy W1 _=>?_⟩;have l:=s1 _ _ hk;have G:y≠k:=(A9 hk hy).symm;refine C3 rfl ⟨k,T.aa,a,[],rfl,l,T.ab,T.af,by decide,?_⟩;refine F _ _ (B3 λN2 I=>?_);have J:(HX v k (.ins T.aa a (P9 "web" (.ref y) []))) k=some (.ins T.aa a [("web",.ref y)]):=A7;have b2:Bt k k H (HX v k (.ins T.aa a (P9 "web" (.ref y) []))):=(Bt.of s1).k;have L:IQ T.ad (eK (HX v k (.ins T.aa a (P9 "web" (.ref y) []))) k k) y j c:=by
   rw[Gz];exact W1.keepD l G λb o hb e=>(W9 hb hb).trans e
  generalize HX v k (.ins T.aa a (P9 "web" (.ref y) []))=H2 at J b2 L⊢;refine C3 rfl ⟨k,T.aa,a,_,_,rfl,J,T.ab,T.af,rfl,?_⟩;intro d hd;have M:=Cv.new (o:=.dK []) hd;have f3:(HX H2 d (.dK [])) d=some (.dK []):=A7;generalize HX H2 d (.dK [])=H3 at M f3⊢;refine⟨y,d,j,c,[],λ_ => "",rfl,(L.same U4).same M,f3,DC,λn hn=>absurd hn AQ,λg N B s4 hg e4 O ks k4 p4=>?_⟩;have i:=M.trans s4;have h4:=i _ _ J;have W4:=L.same (Bt.of i (k:=k) (p:=k)).eK;have R:g≠k:=J7 e4 h4 (by intro z;cases z);refine C3 rfl ⟨k,T.aa,a,_,rfl,h4,T.ab,T.aA,CM rfl,?_⟩;have S:(HX B k (.ins T.aa a (P9 "given" (.ref g) [("web",.ref y)]))) k=some (.ins T.aa a [("web",.ref y),("given",.ref g)]):=A7;have b5:Bt k k H (HX B k (.ins T.aa a (P9 "given" (.ref g) [("web",.ref y)]))):=(b2.trans (Bt.of i)).k;have W5:IQ T.ad (eK (HX B k (.ins T.aa a (P9 "given" (.ref g) [("web",.ref y)]))) k k) y j c:=by
   rw[Gz];exact W4
  have e5:=(B7 (o:=.ins T.aa a (P9 "given" (.ref g) [("web",.ref y)])) R).trans e4;generalize HX B k (.ins T.aa a (P9 "given" (.ref g) [("web",.ref y)]))=H5 at S b5 W5 e5⊢;refine I _ _ (B3 λN3 U=>?_);refine⟨BP _,λr m=>?_⟩;have t:=Cv.new (o:=.lst []) m;have f6:(HX H5 r (.lst [])) r=some (.lst []):=A7;have rk:r≠k:=(A9 S m).symm;generalize HX H5 r (.lst [])=C at t f6⊢;refine C3 rfl ⟨k,T.aa,a,_,rfl,t _ _ S,T.ab,T.aQ,CM rfl,?_⟩;have V:(HX C k (.ins T.aa a (P9 "reckoned" (.ref r) [("web",.ref y),("given",.ref g)]))) k=some (.ins T.aa a [("web",.ref y),("given",.ref g),("reckoned",.ref r)]):=A7;have X:Bt k k H (HX C k (.ins T.aa a (P9 "reckoned" (.ref r) [("web",.ref y),("given",.ref g)]))):=(b5.trans (Bt.of t)).k;have W7:IQ T.ad (eK (HX C k (.ins T.aa a (P9 "reckoned" (.ref r) [("web",.ref y),("given",.ref g)]))) k k) y j c:=by
   rw[Gz];exact W5.same (Bt.of t).eK
  have Y:=(B7 (o:=.ins T.aa a (P9 "reckoned" (.ref r) [("web",.ref y),("given",.ref g)])) R).trans (t _ _ e5);have Z:=(B7 (o:=.ins T.aa a (P9 "reckoned" (.ref r) [("web",.ref y),("given",.ref g)])) rk).trans f6;generalize HX C k (.ins T.aa a (P9 "reckoned" (.ref r) [("web",.ref y),("given",.ref g)]))=H7 at V X W7 Y Z⊢;refine U _ _ ⟨BP _,λp f=>?_⟩;have u:=Cv.new (o:=.lst []) f;have f8:(HX H7 p (.lst [])) p=some (.lst []):=A7;have pk:p≠k:=(A9 V f).symm;have pg:p≠g:=(A9 Y f).symm;have W8:IQ T.ad (eK (HX H7 p (.lst [])) k p) y j c:=by
   rw[Yy];refine W7.same λb o e=>?_;obtain⟨b1,_,e⟩:=Pc e;rw[W9 b1 (A9 e f)];exact e
  have rp:r≠p:=A9 Z f;have f9:=u _ _ Z;generalize HX H7 p (.lst [])=H8 at u f8 W8 f9⊢;refine C3 rfl ⟨k,T.aa,a,_,rfl,u _ _ V,T.ab,T.bi,CM rfl,?_⟩;have hp:H p=none:=by
   cases e:H p with
   | none=>rfl
   | some o =>
    have:=X p o pk pk e;rw[f]at this;cases this
  refine q p c _ p1 (Bt.k λb o h1 _ e=>u _ _ (X b o h1 h1 e)) hp ⟨⟨a,y,g,r,N,ks,[],[],A7,by rw[Gz];exact W8,(B7 R).trans (u _ _ Y),O,k4,p4,(B7 pk).trans f8,VD _,by rw[Gz,W9 rk rp];exact f9⟩,hN⟩
def Zb{K:VA}{a C:A3}{ns:A0 Str}{r:St}{p:Str->Bool}{g:Str->Str}{u:TT}{w:TE}{H:Hp}{Q:St->Hp->Prop}(e:H a=some (.lst (ns.map V.str)))(F:ns.Nodup)(G:ns.length<=1000)(x:H C=none)
  (I:∀y∈ns,∀b,Cv H b->∀k:Bool->Hp->Prop,k (p y) b->u (some (.str y)::r) b k)
  (J:∀y∈ns,p y=true->∀b,Cv H b->∀k:VK,k (.str (g y)) b->w (some (.str y)::r) b k)
  (h:∀σ m,Cv H m->m C=some (.dK ((ns.filter p).map λn=>((Sum.inr n:IM),V.str (g n))))->Q σ m) (z:A5 V) :
  Au (P5 0) u (Et C (X8 0) w) (P7 K a) (z::r) (HX H C (.dK [])) Q:=by
 refine O9 (O_ (K:=K) (IC.of e)) (λi σ f=>(∃v,σ=v::r)/\Cv H f/\f C=some (.dK (((ns.take i).filter p).map λn=>((Sum.inr n:IM),V.str (g n)))))
  ⟨⟨_,rfl⟩,Cv.new x,A7⟩ (λi σ b _ ⟨_,L,_⟩=>L.at a) ?_ ?_
 .rintro i σ f v N A ⟨⟨z,rfl⟩,j,l⟩ B;rw[AH]at A;obtain⟨y,o,rfl⟩:=BH.mp A;have D:=BB o;have E:(ns.take (i+1)).filter p =(ns.take i).filter p++if p y=true then [y]else []:=by
   rw[D8 o,CT,BR,D_]
  have P:(((ns.take i).filter p).map λn=>((Sum.inr n:IM),V.str (g n))).length<=1000:=by
   rw[AB];have:=BC p (ns.take i);rw[A_]at this;lia
  refine I y D f j _ (Y7 (λc=>?_) (λc=>B _ _ ⟨⟨_,rfl⟩,j,by rw[E,AI c,CC];exact l⟩));refine C3 rfl (J y D c f j _ ⟨_,Sum.inr y,l,rfl,by rw[sizeLine_eq];lia,B _ _ ⟨⟨_,rfl⟩,j.upd x,?_⟩⟩);have M:V8 (((ns.take i).filter p).map λn=>((Sum.inr n:IM),V.str (g n))) (Sum.inr y:IM)=none:=by
   cases e:V8 (((ns.take i).filter p).map λn=>((Sum.inr n:IM),V.str (g n))) (Sum.inr y:IM)with
   | none=>rfl
   | some v =>
    obtain⟨q,O,s⟩:=BJ.mp (Pg e);obtain⟨d,t,rfl⟩:=BJ.mp O;have s:d=y:=Sum.inr.inj s;exact absurd (s▸(AV.mp t).1) (Y1 F o)
  rw[A7,Lb _ M,E,AO c,AL];rfl
 .rintro σ f ⟨_,j,l⟩;rw[AB,BN]at l;exact h σ f j l
def JR{b:A0 IL}{n y:Str}:y∈C2 b n↔(n,y)∈b.map λq=>q.2:=by
 unfold C2;rw[BJ,BJ];constructor
 .rintro⟨q,a,rfl⟩;obtain⟨c,d⟩:=AV.mp a;exact⟨q,c,Prod.ext (BV d) rfl⟩
 .rintro⟨q,a,e⟩;exact⟨q,AV.mpr ⟨a,AU (congrArg Prod.fst e)⟩,congrArg Prod.snd e⟩
def Eb{ns a ss ts:A0 Str}{f b:A0 IL}(e:∀q∈b,q.2.1∈a/\q.2.2∈a)(mt:∀x,x∈ts↔PR (C2 b) ss x)(d:∀n∈a,n∉ss->n∈ns/\∀y,y∈B2 f n↔y∈B2 b n){n:Str}(g:n∈a)(i:n∉ts) :
  n∈ns/\G8 (B2 b) n=G8 (B2 f) n:=by
 have out:∀n,n∉ts->n∉ss:=λn h c=>h ((mt n).mpr (PR.of c));refine⟨(d n g (out n i)).1,Dj (U:=λn=>n∈a/\n∉ts) (λn u y j=>⟨g9 e n u.1 y j,λc=>u.2 ((mt n).mpr (PR.step ((mt y).mp c) (JR.mpr (IP.mp j))))⟩) (λn u y=>((d n u.1 (out n u.2)).2 y).symm) ⟨g,i⟩⟩
theorem JC:HZ ["self","web","changed","reckoned","stay","given","told"] ["self","web","changed"] (B6 LR):=KL
def Ql(K:VA)(i h:A3):Sp:=λo H Q _=>∃(k p x a:A3) (e b d:A0 Str) (f c:A0 IL) (r:A0 Str) (m:Nat),o = [.ref k,.ref x,.ref a]/\KN i h H k p e f r m/\m<=1000/\IQ h (eK H k p) x b c/\(∀n∈b,P8 n=true)/\a≠p/\H a=some (.lst (d.map V.str))/\(∀y∈d,y∈b)/\d.Nodup /\
 (∀n∈b,n∉d->n∈e/\∀y,y∈B2 f n↔y∈B2 c n) /\
 ∀l j ts g,Bt k p H g->KN i h g k p b c ts (m+1)->QD e f b c d ts->H l=none->R3 (eK g k p) l j->(j.map λq=>q.2)=Cr (WG e f) (G8 (B2 c)) b->Q (.ref l) g
set_option maxHeartbeats 1000000 in
theorem O8(T:Tx K mg):II P w K mg base JP 7 T.ak.f T.ak.fd ["self","web","changed"] (Ql K T.aa T.ad):=by
 refine T.ak.F.o1 JC λcdv A outer s H vs Q E hr h=>?_
 .obtain⟨k,p,x,a,ns,r,ss,qs,J,rk,m,rfl,hK,lm,W2,N2,nap,ha,hss,nds,hch,q⟩:=h;have hu:=Q2 hr;refine⟨_,(B0 (C6 (i:=3) JC.nd rfl (.inr rfl) (E4 T.bg (Tw T) (Rm hr) (A6 (pv 1) (A6 (pv 2) A8))))
   (B0 (Vf (i:=4) (N':=["name","self","reckoned"]) (cap:=[none,some 0,some 3]) (cl:=[("self",_),("reckoned",_)]) JC.nd rfl (.inl rfl) (N0 ⟨⟨rfl,rfl,rfl,rfl⟩,⟨⟨rfl,rfl,rfl,rfl⟩,trivial⟩⟩ ⟨rfl,⟨rfl,trivial⟩⟩) rfl (MT K (I0 (pv 1) T.ag T.ac.m (E3 T) (Rm hr) T.ac.b .nil J6)) (λ_ _ _ _=>by exact⟨(LV 0),(K5 (B8 (T6 K) (pv 0) (pv 2) rfl)),(pv 0),(U5 hu (MU K (pv 1)) (pv 0) (λ_ _=>rfl))⟩))
   (B0 (C6 (i:=5) JC.nd rfl (.inl rfl) (E4 T.aE (V9 T) (Rm hr) (A6 (pv 1) (A6 (pv 4) A8))))
   (B0 (C6 (i:=6) JC.nd rfl (.inl rfl) (E4 T.aO (Cb T) (Rm hr) (A6 (MU K (pv 0)) (A6 (pv 5) A8))))
   (B0 (I9 (Li K VG VH VI K7 (MU K (pv 0)) (A6 (J5 (A6 (MU K (pv 0)) (A6 (MU K (pv 0)) A8))) A8)))
   (B0 (QU K (pv 0) (pv 1))
   (B0 (QU K (pv 0) (pv 5))
   (B0 (QU K (pv 0) (pv 3))
   (B5 (C0 (pv 6))))))))))),?_⟩
  obtain⟨d,N,v,j,kv0,ks0,rl0,B,O,W0,hg0,wd0,kk0,pk0,hp,lp⟩:=hK.ex;have S:=W2.same U4;refine B3 λM1 hM1=>?_;refine C3 rfl (C3 rfl ⟨x,a,r,ss,J,rfl,S,hss,nds,.inl (IC.of ha),λl ts H1 s1 hl e1 ndt sot mt sbt=>?_⟩);refine hM1 _ _ (B3 λM2 hM2=>?_);have W21:=S.same s1;obtain⟨C,dx,a1,b1,c1,d1,kc,kd,ex,_⟩:=id W21;refine C3 rfl ⟨x,dx,C3 rfl ⟨ex,rfl,x,r,J,rfl,W21,λl2 hl2=>?_⟩⟩;have s2:=Cv.new (o:=.lst (r.map V.str)) hl2;have f2:(HX H1 l2 (.lst (r.map V.str))) l2=some (.lst (r.map V.str)):=A7;generalize HX H1 l2 (.lst (r.map V.str))=H2 at s2 f2⊢;refine⟨l2,rfl,⟨_,IC.of f2⟩,λD hD=>?_⟩;have s12:=s1.trans s2;refine Zb (p:=λn=>!decide (n∈ts)) (g:=G8 (B2 J)) f2 C.nd (by have:=C.len;lia) hD (λy hy H3 s3 Q' hQ=>?_) (λy hy c H3 s3 Q' hQ=>?_) (λσ H3 s3 e3=>?_) _
  .exact C3 rfl (C3 rfl (P4 (.inl (IC.of (s3 _ _ (s2 _ _ e1)))) ⟨_,rfl,hQ⟩))
  .have R:=s12.trans s3;refine C3 rfl ⟨k,T.aa,d,_,_,rfl,R _ _ O,T.ab,T.aA,rfl,C3 rfl ⟨v,_,rfl,?_,hQ⟩⟩;have hd:=LC.k (k:=.inr y) (R _ _ hg0);obtain⟨m1,m2⟩:=Eb C.mem mt hch hy (by simpa using c);rw[wd0 y,Vi m1,<-m2]at hd;exact hd
  have s13:=s12.trans s3;refine hM2 _ _ (B3 λM3 hM3=>?_);refine C3 rfl (C3 rfl ⟨x,D,r,J,_,_,rfl,S.same s13,e3,C.nd.filter _,λn hn=>⟨(AV.mp hn).1,rfl⟩,λI kv1 H4 s4 hg1 e4 wd4 ks1 k4 p4=>?_⟩);have G:=s13.trans s4;refine hM3 _ _ (B3 λM4 hM4=>?_);refine C3 rfl ⟨k,T.aa,d,_,_,rfl,G _ _ O,T.ab,T.aA,rfl,?_⟩;refine C3 rfl ⟨v,I,kv0,kv1,WG ns qs,G8 (B2 J),ks1,r,rfl,G _ _ hg0,wd0,e4,k4,p4,C.srt,C.len,λn hn=>by rw[wd4 n,Vi hn];rfl,λlo rs H5 s5 hlo R5 q5=>?_⟩;have U:=G.trans s5;have L:=U _ _ O;have W:=U _ _ hp;refine hM4 _ _ (B3 λM5 hM5=>?_);refine C3 rfl ⟨k,T.aa,d,_,_,rfl,L,T.ab,T.bi,rfl,.inl ⟨rfl,_,IC.of W⟩,?_⟩;refine C3 rfl ⟨k,T.aa,d,_,_,rfl,L,T.ab,T.af,rfl,?_⟩;refine C3 rfl ⟨k,T.aa,d,_,_,rfl,L,T.ab,T.aA,rfl,?_⟩;refine⟨by show 2<=sizeLine;rw[sizeLine_eq];lia,λX ht6=>?_⟩;have s6:=Cv.new (o:=.tup [.ref N,.ref v]) ht6;generalize HX H5 X (.tup [.ref N,.ref v])=H6 at s6⊢;have Y:=U.trans s6;refine⟨p,B,_,rfl,rfl,Y _ _ hp,by rw[sizeLine_eq];lia,hM5 _ _ (B3 λM6 hM6=>?_)⟩;have M:k≠p:=J7 O hp (by intro z;cases z);have b7:Bt k p H (HX H6 p (.lst (B ++ [.ref X]))):=(Bt.of Y).p;have b57:Bt k p H5 (HX H6 p (.lst (B ++ [.ref X]))):=(Bt.of s6).p;have h7:(HX H6 p (.lst (B ++ [.ref X]))) k=some (.ins T.aa d (kf N v j p)):=(B7 M).trans (Y _ _ O);have p7:(HX H6 p (.lst (B ++ [.ref X]))) p=some (.lst (B ++ [.ref X])):=A7;generalize HX H6 p (.lst (B ++ [.ref X]))=H7 at b7 b57 h7 p7⊢;refine C3 rfl (C3 rfl ⟨k,T.aa,d,_,rfl,h7,T.ab,T.af,CM rfl,?_⟩);have h8:(HX H7 k (.ins T.aa d (P9 "web" (.ref x) (kf N v j p)))) k=some (.ins T.aa d (kf x v j p)):=A7;have b8:=b7.k (o:=.ins T.aa d (P9 "web" (.ref x) (kf N v j p)));have b58:=b57.k (o:=.ins T.aa d (P9 "web" (.ref x) (kf N v j p)));have p8:=(B7 (o:=.ins T.aa d (P9 "web" (.ref x) (kf N v j p))) M.symm).trans p7;generalize HX H7 k (.ins T.aa d (P9 "web" (.ref x) (kf N v j p)))=H8 at h8 b8 b58 p8⊢;refine hM6 _ _ (B3 λM7 hM7=>?_);refine C3 rfl (C3 rfl ⟨k,T.aa,d,_,rfl,h8,T.ab,T.aA,CM rfl,?_⟩);have h9:(HX H8 k (.ins T.aa d (P9 "given" (.ref I) (kf x v j p)))) k=some (.ins T.aa d (kf x I j p)):=A7;have b9:=b8.k (o:=.ins T.aa d (P9 "given" (.ref I) (kf x v j p)));have b59:=b58.k (o:=.ins T.aa d (P9 "given" (.ref I) (kf x v j p)));have p9:=(B7 (o:=.ins T.aa d (P9 "given" (.ref I) (kf x v j p))) M.symm).trans p8;generalize HX H8 k (.ins T.aa d (P9 "given" (.ref I) (kf x v j p)))=H9 at h9 b9 b59 p9⊢;refine hM7 _ _ (B3 λM8 hM8=>?_);refine C3 rfl (C3 rfl ⟨k,T.aa,d,_,rfl,h9,T.ab,T.aQ,CM rfl,?_⟩);have h10:(HX H9 k (.ins T.aa d (P9 "reckoned" (.ref l) (kf x I j p)))) k=some (.ins T.aa d (kf x I l p)):=A7;have Z:=b9.k (o:=.ins T.aa d (P9 "reckoned" (.ref l) (kf x I j p)));have u:=b59.k (o:=.ins T.aa d (P9 "reckoned" (.ref l) (kf x I j p)));have p10:=(B7 (o:=.ins T.aa d (P9 "reckoned" (.ref l) (kf x I j p))) M.symm).trans p9;generalize HX H9 k (.ins T.aa d (P9 "reckoned" (.ref l) (kf x I j p)))=H10 at h10 Z u p10⊢;refine hM8 _ _ (C3 rfl ?_);have h04:H4 k≠none:=by rw[G _ _ O];intro z;cases z
  have lok:∀{b:A3} {o:HO},H5 b=some o->H4 b=none->b≠k/\b≠p:=fun{b o} e n=>⟨λz=>(by rw[z,G _ _ O]at n;cases n),λz=>(by rw[z,G _ _ hp]at n;cases n)⟩;have e5:=s5 _ _ e4;have e15:=(((s2.trans s3).trans s4).trans s5) _ _ e1;have lk:l≠k:=(A9 O hl).symm;have lp':l≠p:=(A9 hp hl).symm;refine q lo rs ts H10 Z ⟨⟨d,x,I,l,kv1,ks1,ts.map V.str,_,h10,W2.same Z.eK,u _ _ (J7 e5 L (by intro z;cases z)) (J7 e5 W (by intro z;cases z)) e5,wd4,k4,p4,p10,by rw[AS];exact FN lp.1,by rw[W9 lk lp'];exact u _ _ lk lp' e15⟩,N2⟩ ⟨ndt,sot,sbt,mt,λn hn ht=>let⟨m1,m2⟩:=Eb C.mem mt hch hn ht;by rw[Vi m1,m2]⟩ (G.free hlo) ⟨?_,λt ht=>?_⟩ q5
  .obtain⟨z1,z2⟩:=lok R5.1 hlo;rw[W9 z1 z2];exact u _ _ z1 z2 R5.1
  .have z1:=J7 (R5.2 t ht) L (by intro z;cases z);have z2:=J7 (R5.2 t ht) W (by intro z;cases z);rw[W9 z1 z2];exact u _ _ z1 z2 (R5.2 t ht)
def Ld{C j:A3}{H:Hp}{y k p m:A3}{r:A0 (Str×V)}{ns:A0 Str}{s:A0 IL}(h:IQ C (HX H p (.own p)) y ns s)(w:H k=some (.ins j m r))(x:y≠k):IQ C (eK H k p) y ns s:=by
 obtain⟨A,t,a,b,c,u,B,D,E,F,G,I,J,K,L,M⟩:=h;have g:∀{b:A3} {o:HO},(HX H p (.own p)) b=some o->o≠ .own p->b≠p/\H b=some o:=fun{b o} e n=>by
  have d:b≠p:=λq=>by
   rw[q,A7]at e;exact n (BT e).symm
  rw[B7 d]at e;exact⟨d,e⟩
 have f:∀{b:A3} {o:HO},(HX H p (.own p)) b=some o->o≠ .own p->o≠ .ins j m r->eK H k p b=some o:=fun{b o} e n N=>by
  obtain⟨d,e⟩:=g e n;rw[W9 (J7 e w N) d];exact e
 have O:eK H k p y=some (.ins C t (wf a b c u)):=by
  obtain⟨d,e⟩:=g E (by intro z;cases z);rw[W9 x d];exact e
 exact⟨A,t,a,b,c,u,B,D,O,f F (by intro z;cases z) (by intro z;cases z),f G (by intro z;cases z) (by intro z;cases z),λq P=>f (I q P) (by intro z;cases z) (by intro z;cases z),f J (by intro z;cases z) (by intro z;cases z),f K (by intro z;cases z) (by intro z;cases z),(λn i=>let⟨l,v,e⟩:=L n i;⟨l,v,f e (by intro z;cases z) (by intro z;cases z)⟩),λn i=>let⟨l,v,e⟩:=M n i;⟨l,v,f e (by intro z;cases z) (by intro z;cases z)⟩⟩
theorem Y9:HZ ["self","one","other"] ["self","one","other"] (B6 KJ):=KL
def zBn(f g:A3):Sp:=λh H Q _=>∃(k p:A3) (a b:Str) (c:A0 Str) (d:A0 IL) (i:A0 Str) (m:Nat),h = [.ref k,.str a,.str b]/\KN f g H k p c d i m/\a∈c/\b∈c/\∀e,Cv H e->Q (.bl (decide ((a,b)∈d.map λq=>q.2))) e
theorem S6(T:Tx K mg):II P w K mg base JP 3 T.ao.f T.ao.fd ["self","one","other"] (zBn T.aa T.ad):=by
 refine T.ao.F.o1 Y9 λB A i s H J Q E d h=>?_
 .obtain⟨k,p,a,b,j,c,L,m,rfl,C,z,D,q⟩:=h;have M:=Q2 d;refine⟨_,(B0 (I9 (P2 (MU K (pv 0)) T.ag T.aj.m (O0 T) (Rm d) T.aj.b .nil J6 (A6 (pv 1) A8)))
   (B0 (I9 (P2 (MU K (pv 0)) T.ag T.aj.m (O0 T) (Rm d) T.aj.b .nil J6 (A6 (pv 2) A8)))
   (B5 (C0 (Q8 (Nz K) (pv 2) (P2 (MU K (pv 0)) T.ag T.as.m (V0 T) (Rm d) T.as.b .nil J6 (A6 (pv 1) A8)) rfl))))),?_⟩
  obtain⟨n,x,g,r,N,O,R,S,o,G,U,V,kk,X,Y,Z⟩:=C.ex;have W:=G.same U4;obtain⟨ok,t,a1,b1,c1,d1,kc,kd,u,_⟩:=id W;refine B3 λM1 v=>?_;refine C3 rfl ⟨k,T.aa,n,_,_,rfl,o,T.ab,T.af,rfl,x,t,?_⟩;refine C3 rfl ⟨u,rfl,C3 rfl ⟨x,a,j,c,rfl,W,z,?_⟩⟩;refine v _ _ (B3 λM2 y=>?_);refine C3 rfl ⟨k,T.aa,n,_,_,rfl,o,T.ab,T.af,rfl,x,t,?_⟩;refine C3 rfl ⟨u,rfl,C3 rfl ⟨x,b,j,c,rfl,W,D,?_⟩⟩;refine y _ _ ?_;refine C3 rfl (C3 rfl ⟨k,T.aa,n,_,_,rfl,o,T.ab,T.af,rfl,x,t,?_⟩);refine C3 rfl ⟨u,rfl,C3 rfl ⟨x,a,j,c,rfl,W,z,λl I=>?_⟩⟩;refine y6 (.inl (IC.of A7)) ?_;have e:decide (b∈C2 c a)=decide ((a,b)∈c.map λq=>q.2):=EK.mpr JR;rw[e];exact q _ (Cv.new I)
theorem Z7:HZ ["self","one","other"] ["self","one","other"] (B6 KI):=KL
def l9(g h:A3):Sp:=λj H Q _=>∃(k p:A3) (a b:Str) (d:A0 Str) (e:A0 IL) (n:A0 Str) (m:Nat),j = [.ref k,.str a,.str b]/\KN g h H k p d e n m/\m<=1000/\a∈d/\b∈d/\(a,b)∉(e.map λq=>q.2)/\e.length+1<=200 /\
 ∀l i c ts f,Bt k p H f->KN g h f k p d c ts (m+1)->QD d e d c [b] ts->(c.map λq=>q.2).Perm ((e.map λq=>q.2) ++ [(a,b)])->H l=none->R3 (eK f k p) l i->(i.map λq=>q.2)=Cr (WG d e) (G8 (B2 c)) d->Q (.ref l) f
set_option maxHeartbeats 1000000 in
theorem Y8(T:Tx K mg):II P w K mg base JP 8 T.am.f T.am.fd ["self","one","other"] (l9 T.aa T.ad):=by
 refine T.am.F.o1 Z7 λcdv A outer s H vs Q E C h=>?_
 .obtain⟨k,p,a,b,j,i,rk,m,rfl,D,lm,ha,hb,G,lq,q⟩:=h;have hu:=Q2 C;refine⟨_,(B0 (K0 (T0 (P2 (pv 0) T.ab T.ao.m (S6 T) (Rm C) T.ao.b .nil J6 (A6 (pv 1) (A6 (pv 2) A8)))) (B5 Y0) D9)
   (B5 (C0 (P2 (pv 0) T.ab T.ak.m (O8 T) (Rm C) T.ak.b .nil J6 (A6 (j7 T.ba (Q9 T) (Rm C) rfl T.a9 T.az .nil J6 (A6 (I0 (MU K (pv 0)) T.ag T.ac.m (E3 T) (Rm C) T.ac.b .nil J6) (A6 (E9 Dr (I0 (MU K (pv 0)) T.ag T.ae.m (J4 T) (Rm C) T.ae.b .nil J6) (E7 (A6 (J5 (A6 (pv 1) (A6 (pv 2) A8))) A8))) A8))) (A6 (E7 (A6 (pv 2) A8)) A8)))))),?_⟩
  refine B3 λM1 hM1=>?_;obtain⟨Z,x,g,r,kv,ks,rl,pl,I,W0,hg,wd,kk,pk,hp,lp⟩:=D.ex;have W:=W0.same U4;obtain⟨J,dx,a1,b1,c1,d1,kc,kd,ex,_,_,pin,_⟩:=id W;refine C3 rfl ⟨k,Z,?_⟩;refine C3 rfl ⟨I,rfl,C3 rfl (C3 rfl ⟨k,p,a,b,j,i,rk,m,rfl,D,ha,hb,λH1 s1=>⟨_,rfl,?_⟩⟩)⟩;rw[AK G];refine N8 (hM1 _ _ ?_);have L:=s1 _ _ I;refine C3 rfl ⟨k,Z,C3 rfl ⟨L,rfl,?_⟩⟩;refine C3 rfl ⟨k,T.aa,Z,_,_,rfl,L,T.ab,T.af,rfl,x,dx,C3 rfl ⟨s1 _ _ ex,rfl,x,j,i,rfl,W.same s1,λl1 hl1=>?_⟩⟩;have M:=s1.trans (Cv.new (o:=.lst (j.map V.str)) hl1);have N:(HX H1 l1 (.lst (j.map V.str))) l1=some (.lst (j.map V.str)):=A7;generalize HX H1 l1 (.lst (j.map V.str))=H2 at M N⊢;refine C3 rfl ⟨k,T.aa,Z,_,_,rfl,M _ _ I,T.ab,T.af,rfl,x,dx,C3 rfl ⟨M _ _ ex,rfl,x,j,i,rfl,W.same M,λl2 hl2=>?_⟩⟩;have u3:=Cv.new (o:=.lst (G0 i)) hl2;have s3:=M.trans u3;have f3:(HX H2 l2 (.lst (G0 i))) l2=some (.lst (G0 i)):=A7;have N:=u3 _ _ N;generalize HX H2 l2 (.lst (G0 i))=H3 at s3 N f3⊢;refine C3 rfl (C3 rfl ⟨by show 2<=sizeLine;rw[sizeLine_eq];lia,λt ht=>⟨by show 1<=sizeLine;rw[sizeLine_eq];lia,λl3 O=>?_⟩⟩);have u4:=Cv.new (o:=.tup [.str a,.str b]) ht;have f4:(HX H3 t (.tup [.str a,.str b])) t=some (.tup [.str a,.str b]):=A7;generalize HX H3 t (.tup [.str a,.str b])=H4 at u4 f4 O⊢;have u5:=Cv.new (o:=.lst [.ref t]) O;have f5:(HX H4 l3 (.lst [.ref t])) l3=some (.lst [.ref t]):=A7;generalize HX H4 l3 (.lst [.ref t])=H5 at u5 f5⊢;have R:=u4.trans u5;refine⟨l2,l3,G0 i,[.ref t],rfl,rfl,R _ _ f3,f5,by unfold G0;rw[AB,sizeLine_eq];show i.length+1<=_;lia,λl4 hl4=>?_⟩;have u6:=Cv.new (o:=.lst (G0 i ++ [.ref t])) hl4;have f6:(HX H5 l4 (.lst (G0 i ++ [.ref t]))) l4=some (.lst (G0 (i ++ [(t,a,b)]))):=by rw[A7];unfold G0;rw[AL];rfl
  generalize HX H5 l4 (.lst (G0 i ++ [.ref t]))=H6 at u6 f6⊢;have S:=R.trans u6;have s6:=s3.trans S;have U:∀q∈i ++ [(t,a,b)],G6 H6 q:=λq hq=>by
   rcases AJ.mp hq with c | c
   .exact J2 s6 pin q c
   .rw[AC.mp c];exact u6 _ _ (u5 _ _ f4)
  intro y dy ny ndy ney;refine Df ny ndy (S _ _ N) f6 U ⟨D.nm,J.nd,J.len⟩ ⟨λq hq=>?_,?_,by rw[AS];exact lq⟩ λns2 u H7 pn sn pq sq s7 W7 C7=>?_
  .rcases AJ.mp hq with c | c
   .exact J.mem q c
   .rw[AC.mp c];exact⟨ha,hb⟩
  .rw[AL];exact CH.mpr ⟨J.ndq,CD.mpr ⟨AQ,DC⟩,λc hc d hd e=>G (by rw[AC.mp hd]at e;exact(show c =(a,b)from e)▸hc)⟩
  rw[M0 sn J.srt pn]at W7 C7;have v:=s6.trans s7;refine C3 rfl ⟨by show 1<=sizeLine;rw[sizeLine_eq];lia,λl5 X=>?_⟩;have u8:=Cv.new (o:=.lst [.str b]) X;have f8:(HX H7 l5 (.lst [.str b])) l5=some (.lst ([b].map V.str)):=A7;generalize HX H7 l5 (.lst [.str b])=H8 at u8 f8⊢;have B:=v.trans u8;have Y:(u.map λq=>q.2).Perm ((i.map λq=>q.2) ++ [(a,b)]):=(pq.map _).trans (FD (AL ..));have Wk:IQ T.ad (eK H7 k p) y j u:=Ld (C7 p pl (.own p) (s6 _ _ hp)) (v _ _ I) (A9 (s6 _ _ I) ny).symm;refine⟨k,p,y,l5,j,j,[b],i,u,rk,m,rfl,D.same B,lm,Wk.same (Bt.of u8).eK,D.nm,(A9 (v _ _ hp) X).symm,f8,λz hz=>by rw[AC.mp hz];exact hb,CD.mpr ⟨AQ,DC⟩,λn hn nb=>⟨hn,λz=>?_⟩,λl rs ts H9 b9 K9 k9 hl9 R9 q9=>q l rs u ts H9 ((Bt.of B).trans b9) K9 k9 Y (B.free hl9) R9 q9⟩;rw[IP,IP,Y.mem_iff,AJ,AC];exact⟨.inl,λz=>z.resolve_right λe=>nb (by cases e;exact AC.mpr rfl)⟩
theorem NZ:HZ ["_law_cell","_law_k","_law_m"] ["_law_cell","_law_k"] (B6 OP):=KL
def zCg:Sp:=λb H Q _=>∃(a k:Int),b = [.int a,.int k]/\0<=k/\k<=2000000/\∀m:Int,0<=m->m<1999999973->Q (.int m) H
theorem Dv(T:Tx K mg):II P w K mg base JP 1 T.a4.f T.a4.fd ["_law_cell","_law_k"] zCg:=by
 refine T.a4.F.o1 NZ λd A b s H e Q E g h=>?_
 .obtain⟨a,k,rfl,j,l,q⟩:=h;refine⟨_,(B0 (C6 (i:=2) NZ.nd rfl (.inl rfl) (E9 Ds (E9 c9 (E9 T9 (E9 T9 (E9 Ds (pv 0) B4) (E9 c9 (E9 c9 (pv 1) (pv 1)) B4)) B4) B4) B4))
   (B5 (C0 (E9 Ds (E9 c9 (pv 2) (pv 2)) B4)))),?_⟩
  refine C3 rfl (B9 rfl rfl ⟨(show(0:Int)<2147483629 by decide),C3 rfl (C3 rfl (B9 rfl rfl ⟨.inl ⟨by lia,by lia⟩,B9 rfl rfl ⟨.inr ⟨by decide,by decide⟩,B9 rfl rfl (B9 rfl rfl (B9 rfl rfl ⟨.inr ⟨by decide,by decide⟩,B9 rfl rfl ⟨(show(0:Int)<2147483647 by decide),?_⟩⟩))⟩⟩))⟩);generalize c:(a % 2147483629+k*k*7919+11)*48271 % 2147483647=m;have n:0<=m:=by rw[<-c];exact GC _ (by decide)
  have o:m<2147483647:=by rw[<-c];exact FA _ (by decide)
  exact⟨_,rfl,_,rfl,_,_,rfl,rfl,.inl ⟨by lia,by lia⟩,_,_,rfl,rfl,(show(0:Int)<1999999973 by decide),q _ (GC _ (by decide)) (FA _ (by decide))⟩
def IJ(H:Hp)(p:A3)(c:Int):Prop:=∃a b:Int,H p=some (.lst [.int a,.int b,.int c])/\0<=c
theorem IJ.isS{H:Hp}{p:A3}{c:Int}(h:IJ H p c):(H p).isSome=true:=by
 obtain⟨_,_,e,_⟩:=h;rw[e];rfl
theorem IJ.get{H:Hp}{p:A3}{c:Int}(h:IJ H p c):H p=some ((H p).get h.isS):=(Option.some_get _).symm
theorem IJ.cast{H:Hp}{p:A3}{c a:Int}(h:IJ H p c)(e:c=a):IJ H p a:=e▸h
theorem IJ.upd{H:Hp}{p a:A3}{c:Int}{o:HO}(h:IJ H p c)(n:p≠a):IJ (L2.HX H a o) p c:=by
 obtain⟨x,y,e,z⟩:=h;exact⟨x,y,by rw[B7 n];exact e,z⟩
theorem IJ.same{H H':Hp}{p:A3}{c:Int}(h:IJ H p c)(s:Cv H H'):IJ H' p c:=by
 obtain⟨x,y,e,z⟩:=h;exact⟨x,y,s _ _ e,z⟩
theorem zGt(c:Bool):-(2^64) <(if c=true then(1:Int)else 0)/\(if c=true then(1:Int)else 0)<2^64:=by cases c<;>exact⟨by decide,by decide⟩
theorem NO:HZ ["_law_script","_law_k","_law_cell"] ["_law_script","_law_k"] (B6 OC):=KL
def Ze(K:VA):Sp:=λb H Q _=>∃(p:A3) (c:A0 Int) (k:Nat),b = [.ref p,.int (k:Int)]/\IC K H p (c.map V.int)/\k<=1000/\∀l a,H l=none->Cv H a->IJ a l 0->Q (.ref l) a
theorem Bs(T:Tx K mg):II P w K mg base JP 1 T.aV.f T.aV.fd ["_law_script","_law_k"] (Ze K):=by
 refine T.aV.F.o1 NO λo A g s H t Q E u h=>?_
 .obtain⟨p,d,k,rfl,n,v,q⟩:=h;refine⟨_,(B0 (C6 (i:=2) NO.nd rfl (.inl rfl) (Fc (B8 Ny (pv 1) (G9 (Q0 K) T.ar N9 (A6 (pv 0) A8)) (C5 _)) (E6 (K2 K) (pv 0) (pv 1) (λ_ _=>rfl)) B4))
   (B5 (C0 (E7 (A6 (E9 c9 (G9 Km T.bz Xt (A6 (pv 2) A8)) (X3 Pr T.bA Xw (A6 (Q8 zEx (G9 Km T.bz Xt (A6 (pv 2) A8)) (E9 zDh B4 B4) (C5 _)) A8))) (A6 (E9 T9 (pv 2) (E9 c9 B4 (pv 1))) (A6 B4 A8))))))),?_⟩
  refine C3 rfl (C3 rfl (B9 (a:=p) rfl (.inl n) (B9 rfl rfl (C3 rfl ?_))));have j:decide ((k:Int) <((d.map V.int).length:Int))=true->∃c:Int,P6 (d.map V.int) (k:Int)=some (.int c):=λb=>by
   have b:(k:Int) <((d.map V.int).length:Int):=BV b;rw[AB]at b;have m:d[k]?=some (d[k]'(by lia)):=AF (by lia);exact⟨_,Q5 (by rw[AH,m];rfl)⟩
  refine Y7 (λb=>?_) (λb=>?_)
  .obtain⟨c,r⟩:=j b;refine C3 rfl (C3 rfl ⟨p,_,B9 rfl rfl ⟨n,r,?_⟩⟩)
   (repeat first | refine⟨_,rfl,?_⟩ | refine⟨_,_,rfl,rfl,?_⟩)
   refine⟨⟨by decide,by decide,by decide⟩,?_⟩
   (repeat first | refine⟨_,rfl,?_⟩ | refine⟨_,_,rfl,rfl,?_⟩)
   refine .inr ⟨_,rfl,?_⟩
   (repeat first | refine⟨_,rfl,?_⟩ | refine⟨_,_,rfl,rfl,?_⟩)
   refine⟨.inr ?_,?_⟩
   .exact zGt _
   (repeat first | refine⟨_,rfl,?_⟩ | refine⟨_,_,rfl,rfl,?_⟩)
   refine⟨.inl ⟨by decide,by decide⟩,?_⟩
   (repeat first | refine⟨_,rfl,?_⟩ | refine⟨_,_,rfl,rfl,?_⟩)
   exact⟨by show 3<=sizeLine;decide,λl e=>q l _ e (Cv.new e) ⟨_,_,A7,by decide⟩⟩
  .skip;(repeat first | refine⟨_,rfl,?_⟩ | refine⟨_,_,rfl,rfl,?_⟩)
   refine⟨⟨by decide,by decide,by decide⟩,?_⟩
   (repeat first | refine⟨_,rfl,?_⟩ | refine⟨_,_,rfl,rfl,?_⟩)
   refine .inr ⟨_,rfl,?_⟩
   (repeat first | refine⟨_,rfl,?_⟩ | refine⟨_,_,rfl,rfl,?_⟩)
   refine⟨.inr ?_,?_⟩
   .exact zGt _
   (repeat first | refine⟨_,rfl,?_⟩ | refine⟨_,_,rfl,rfl,?_⟩)
   refine⟨.inl ⟨by decide,by decide⟩,?_⟩
   (repeat first | refine⟨_,rfl,?_⟩ | refine⟨_,_,rfl,rfl,?_⟩)
   exact⟨by show 3<=sizeLine;decide,λl e=>q l _ e (Cv.new e) ⟨_,_,A7,by decide⟩⟩
theorem NN:HZ ["_law_left_here","_law_many","_law_digit"] ["_law_left_here","_law_many"] (B6 OB):=KL
def Oz:Sp:=λe H Q _=>∃(p:A3) (c a:Int),e = [.ref p,.int a]/\IJ H p c/\c<=1000000/\0<a/\a<=1000000 /\
 ∀(d:Nat) b,(d:Int)<a->Sm [p] H b->IJ b p (c+1)->Q (.int (d:Int)) b
theorem D0(T:Tx K mg):II P w K mg base JP 2 T.ai.f T.ai.fd ["_law_left_here","_law_many"] Oz:=by
 refine T.ai.F.o1 NN λu A o s H x Q E r h=>?_
 .obtain⟨p,c,j,rfl,⟨a,b,e,y⟩,z,k,B,q⟩:=h;refine⟨_,(B0 (Ab (E9 T9 (E6 (K2 K) (pv 0) B4 (λ_ _=>rfl)) B4) (Lq (pv 0) B4 Av))
   (B0 (K0 (B8 Yt (E6 (K2 K) (pv 0) B4 (λ_ _=>rfl)) B4 (C5 _)) (B0 (C6 (i:=2) NN.nd rfl (.inl rfl) (E9 Ds (E6 (K2 K) (pv 0) B4 (λ_ _=>rfl)) (pv 1)))
   (B0 (Ab (E9 Ft (E6 (K2 K) (pv 0) B4 (λ_ _=>rfl)) (pv 1)) (Lq (pv 0) B4 Av))
   (B5 (C0 (pv 2))))) D9)
   (B5 (C0 (E9 Ds (E9 Ft (E4 T.a4 (Dv T) (Rm r) (A6 (E4 T.a4 (Dv T) (Rm r) (A6 (E6 (K2 K) (pv 0) B4 (λ_ _=>rfl)) (A6 (E6 (K2 K) (pv 0) B4 (λ_ _=>rfl)) A8))) (A6 (E9 T9 (E6 (K2 K) (pv 0) B4 (λ_ _=>rfl)) B4) A8))) B4) (pv 1)))))),?_⟩
  have t:∀d:Int,0<=d->d<j->∀l m,Q (.int d) (HX (HX H p (.lst [.int a,.int b,.int (c+1)])) p (.lst [.int l,.int m,.int (c+1)]))/\Q (.int d) (HX H p (.lst [.int l,.int m,.int (c+1)])):=λd v g l m=>by
   obtain⟨n,rfl⟩:=Int.eq_ofNat_of_zero_le v;exact⟨q n _ g (((Sm.refl _ _).upd (by simp)).upd (by simp)) ⟨l,m,A7,by lia⟩,q n _ g ((Sm.refl _ _).upd (by simp)) ⟨l,m,A7,by lia⟩⟩
  refine C3 rfl ⟨p,_,B9 rfl rfl ⟨IC.of e,rfl,B9 rfl rfl (C3 rfl ⟨p,_,_,2,rfl,rfl,e,rfl,?_⟩)⟩⟩;refine C3 rfl ⟨p,_,B9 rfl rfl ⟨IC.of A7,rfl,B9 rfl rfl (C3 rfl ?_)⟩⟩;refine Y7 (λg=>?_) (λg=>?_)
  .have g:(0:Int)<a:=BV g;refine C3 rfl ⟨p,_,B9 rfl rfl ⟨IC.of A7,rfl,C3 rfl (B9 rfl rfl ⟨k,?_⟩)⟩⟩;refine C3 rfl ⟨p,_,B9 rfl rfl ⟨IC.of A7,rfl,C3 rfl (B9 rfl rfl ⟨⟨k,by lia⟩,C3 rfl ⟨p,_,_,0,rfl,rfl,A7,rfl,?_⟩⟩)⟩⟩;exact⟨_,rfl,(t _ (GC _ (by lia)) (FA _ k) _ _).1⟩
  .refine C3 rfl ⟨p,_,B9 rfl rfl ⟨IC.of A7,rfl,C3 rfl ⟨p,_,B9 rfl rfl ⟨IC.of A7,rfl,_,C3 rfl ⟨by lia,by lia,λC D G=>?_⟩⟩⟩⟩⟩;refine C3 rfl ⟨p,_,B9 rfl rfl ⟨IC.of A7,rfl,B9 rfl rfl ⟨_,C3 rfl ⟨by lia,by lia,λI J L=>?_⟩⟩⟩⟩;refine B9 rfl rfl ⟨⟨by decide,by decide⟩,C3 rfl (B9 rfl rfl ⟨k,?_⟩)⟩;exact(t _ (GC _ (by lia)) (FA _ k) _ _).2
def pd(k:Str×Str):PyData:=.tuple [.str k.1,.str k.2]
def O7{x:Str}(h:P8 x=true):PySem.PyData.strOk x=true:=by
 unfold P8 at h;rw[DB]at h;unfold PySem.PyData.strOk;rw[<-Array.all_toList,EJ];intro c a;have:=(EJ.mp h.2) c a;unfold Ka at this;rw[DB]at this;have:=BV this.2;exact AU (by lia)
def j8{K:VA}{H:Hp}{t:A3}{k:Str×Str}(h:H t=some (.tup [.str k.1,.str k.2])):Rp K H (pd k) (.ref t):=by
 unfold pd;simp only[Rp,PF];exact⟨t,_,rfl,IZ.of h,_,_,rfl,rfl,_,_,rfl,rfl,rfl⟩
def Gi{K:VA}{H:Hp}:∀{ps:A0 IL},(∀q∈ps,G6 H q)->PF K H (ps.map λq=>pd q.2) (G0 ps)
 | [],_=>by simp[PF,G0]
 | q::r,h=>by
  show PF K H (pd q.2::r.map λq=>pd q.2) (V.ref q.1::G0 r);simp only[PF];exact⟨_,_,rfl,j8 (h q (AZ ..)),Gi λz a=>h z (AN _ a)⟩
def El{K:VA}{H:Hp}{l:A3}{ps:A0 IL}(a:H l=some (.lst (G0 ps)))(h:∀q∈ps,G6 H q):Rp K H (.list (ps.map λq=>pd q.2)) (.ref l):=by
 simp only[Rp];exact⟨l,_,rfl,IC.of a,Gi h⟩
def Tm(a b:Str×Str):PyData.eqv (pd a) (pd b)=decide (a=b):=by
 unfold pd;rw[PyData.eqv,PyData.eqvAll,PyData.eqvAll,PyData.eqvAll,PyData.eqv,PyData.eqv];by_cases c:a.1=b.1
 .by_cases d:a.2=b.2
  .rw[AU (Prod.ext c d),c,d];simp
  .rw[AK λz=>d (congrArg Prod.snd z)];simp[d]
 .rw[AK λz=>c (congrArg Prod.fst z)];simp[c]
def Cl(k:Str×Str):∀ps:A0 IL,((ps.map λq=>pd q.2).any λz=>PyData.eqv z (pd k))=decide (k∈ps.map λq=>q.2)
 | []=>rfl
 | q::r=>by
  rw[BM,GE,Cl k r,Tm,BM];by_cases e:q.2=k
  .rw[AU e,Bool.true_or,AU (show k∈q.2::_ from by rw[<-e];exact AZ ..)]
  .rw[AK e,Bool.false_or];by_cases h:k∈r.map λq=>q.2
   .rw[AU h,AU (AN _ h)]
   .rw[AK h,AK λz=>(AW.mp z).elim (λz=>e z.symm) h]
def Bw{k:Str×Str}(h1:PySem.PyData.strOk k.1=true)(h2:PySem.PyData.strOk k.2=true):(pd k).canLay0=true:=by
 unfold pd;simp[PyData.canLay0,PyData.canLayAll0,h1,h2]
def Fu:∀{ps:A0 IL},(∀q∈ps,PySem.PyData.strOk q.2.1=true/\PySem.PyData.strOk q.2.2=true)->PyData.canLayAll0 (ps.map λq=>pd q.2)=true
 | [],_=>rfl
 | q::r,h=>by
  rw[BM,PyData.canLayAll0,Bw (h q (AZ ..)).1 (h q (AZ ..)).2,Fu λz a=>h z (AN _ a)];rfl
def Dm{K:VA}{H:Hp}{t l:A3}{k:Str×Str}{ps:A0 IL}{Q:VK}(b:H t=some (.tup [.str k.1,.str k.2]))(c:H l=some (.lst (G0 ps)))(d:∀q∈ps,G6 H q)
  (a:PySem.PyData.strOk k.1=true/\PySem.PyData.strOk k.2=true) (e:∀q∈ps,PySem.PyData.strOk q.2.1=true/\PySem.PyData.strOk q.2.2=true) (q:Q (.bl (!decide (k∈ps.map λq=>q.2))) H):SR K true (.ref t) (.ref l) H Q :=
 ⟨pd k,_,j8 b,.inl (El c d),⟨Bw a.1 a.2,by simp[pd,PyData.depth,PyData.depthAll]⟩,Fu e,by rw[AO rfl,Cl];exact q⟩
structure FL(H:Hp)(l:A3)(ps:A0 IL)(ss:A0 Str):Prop where
 at_:H l=some (.lst (G0 ps))
 pin:∀q∈ps,G6 H q
 nm:∀q∈ps,q.2.1∈ss/\q.2.2∈ss
 nd:(ps.map λq=>q.2).Nodup
def FL.sm{H H':Hp}{p l:A3}{c:Int}{ps:A0 IL}{ss:A0 Str}(h:FL H l ps ss)(L:IJ H p c)(n:l≠p)(s:Sm [p] H H'):FL H' l ps ss:=by
 obtain⟨x,y,e,_⟩:=L;exact⟨MF s h.at_ n,λq a=>MF s (h.pin q a) (J7 (h.pin q a) e (by intro z;cases z)),h.nm,h.nd⟩
def FL.new{H:Hp}{l t:A3}{o:HO}{ps:A0 IL}{ss:A0 Str}(h:FL H l ps ss)(n:H t=none):FL (HX H t o) l ps ss :=
 ⟨by rw[B7 (A9 h.at_ n)];exact h.at_,λq a=>by unfold G6;rw[B7 (A9 (h.pin q a) n)];exact h.pin q a,h.nm,h.nd⟩
def FL.put{H:Hp}{l t:A3}{ps:A0 IL}{ss:A0 Str}{x y:Str}(h:FL H l ps ss)(k:Nat)(b:H t=some (.tup [.str x,.str y]))(e:x∈ss)(f:y∈ss)(g:(x,y)∉ps.map λq=>q.2) :
  FL (HX H l (.lst ((G0 ps).take k++V.ref t ::(G0 ps).drop k))) l (ps.take k ++(t,x,y)::ps.drop k) ss:=by
 have c:(ps.take k ++(t,x,y)::ps.drop k).Perm ((t,x,y)::ps):=by
  refine List.perm_middle.trans (List.Perm.cons _ ?_);rw[BX]
 have d:∀q∈ps.take k ++(t,x,y)::ps.drop k,q =(t,x,y)\/q∈ps:=λq a=>AW.mp (c.mem_iff.mp a);refine⟨?_,λq a=>?_,λq a=>?_,?_⟩
 .rw[A7];unfold G0;rw[AL,List.map_take,BM,List.map_drop]
 .unfold G6;rcases d q a with rfl | z
  .rw[B7 (J7 b h.at_ (by intro z;cases z))];exact b
  .rw[B7 (J7 (h.pin q z) h.at_ (by intro z;cases z))];exact h.pin q z
 .rcases d q a with rfl | z
  .exact⟨e,f⟩
  .exact h.nm q z
 .rw[(c.map _).nodup_iff];show((x,y)::ps.map λq=>q.2).Nodup;exact CD.mpr ⟨g,h.nd⟩
def FL.app{H:Hp}{l t:A3}{ps:A0 IL}{ss:A0 Str}{x y:Str}(h:FL H l ps ss)(a:H t=some (.tup [.str x,.str y]))(b:x∈ss)(c:y∈ss)(d:(x,y)∉ps.map λq=>q.2) :
  FL (HX H l (.lst (G0 ps ++ [V.ref t]))) l (ps ++ [(t,x,y)]) ss:=by
 have:=h.put ps.length a b c d;have e:(G0 ps).length=ps.length:=by unfold G0;rw[AB]
 rw[<-e,BN,HQ,e,BN,HQ]at this;exact this
def Lh{K:VA}{a D:A3}{b:A0 IL}{r:St}{m:TT}{H:Hp}{Q:St->Hp->Prop}(p:IL->Bool)(e:H a=some (.lst (G0 b)))(x:b.length<=1000)(n:H D=none)
  (z:∀y∈b,∀k,Cv H k->∀o:Bool->Hp->Prop,(∀g,Cv k g->o (p y) g)->m (some (.ref y.1)::r) k o) (h:∀σ g,Cv H g->g D=some (.lst (G0 (b.filter p)))->Q σ g) (q:A5 V) :
  Au (P5 0) m (Y6 D (X8 0)) (P7 K a) (q::r) (HX H D (.lst [])) Q:=by
 refine O9 (O_ (K:=K) (IC.of e)) (λi σ j=>(∃v,σ=v::r)/\Cv H j/\j D=some (.lst (G0 ((b.take i).filter p))))
  ⟨⟨_,rfl⟩,Cv.new n,A7⟩ (λi σ k _ ⟨_,A,_⟩=>A.at a) ?_ ?_
 .rintro i σ j v N l ⟨⟨q,rfl⟩,f,d⟩ s;unfold G0 at l;rw[AH]at l;obtain⟨y,t,rfl⟩:=BH.mp l;refine z y (BB t) j f _ λB u=>?_;have d:=u _ _ d;have f:=f.trans u;have w:(b.take (i+1)).filter p =(b.take i).filter p++if p y=true then [y]else []:=by
   rw[D8 t,CT,BR,D_]
  have C:(G0 ((b.take i).filter p)).length<=1000:=by
   unfold G0;rw[AB];have:=BC p (b.take i);rw[A_]at this;lia
  refine Y7 (λc=>C3 rfl ⟨_,d,by rw[sizeLine_eq];lia,s _ _ ⟨⟨_,rfl⟩,f.upd n,?_⟩⟩) (λc=>s _ _ ⟨⟨_,rfl⟩,f,?_⟩)
  .rw[A7,w,AO c];unfold G0;rw[AL];rfl
  .rw[w,AI c,CC];exact d
 .rintro σ j ⟨_,f,d⟩;unfold G0 at d;rw[AB,BN]at d;exact h σ j f d
theorem J_:HZ ["self","one","other","strikes"] ["self","one","other"] (B6 KD):=KL
def Z9(g h:A3):Sp:=λj H Q _=>∃(k p:A3) (a b:Str) (d:A0 Str) (e:A0 IL) (n:A0 Str) (m:Nat),j = [.ref k,.str a,.str b]/\KN g h H k p d e n m/\m<=1000/\a∈d/\b∈d/\(a,b)∈(e.map λq=>q.2) /\
 ∀l i c ts f,Bt k p H f->KN g h f k p d c ts (m+1)->QD d e d c [b] ts->(c.map λq=>q.2).Perm ((e.map λq=>q.2).filter λq=>!decide (q =(a,b)))->H l=none->R3 (eK f k p) l i->(i.map λq=>q.2)=Cr (WG d e) (G8 (B2 c)) d->Q (.ref l) f
set_option maxHeartbeats 1000000 in
theorem X6(T:Tx K mg):II P w K mg base JP 8 T.al.f T.al.fd ["self","one","other"] (Z9 T.aa T.ad):=by
 refine T.al.F.o1 J_ λcdv A outer s H vs Q E I h=>?_
 .obtain⟨k,p,a,b,j,u,rk,m,rfl,v,lm,ha,hb,hab,q⟩:=h;have hu:=Q2 I;refine⟨_,(B0 (K0 (a7 (T0 (P2 (pv 0) T.ab T.ao.m (S6 T) (Rm I) T.ao.b .nil J6 (A6 (pv 1) (A6 (pv 2) A8))))) (B5 Y0) D9)
   (B0 (U9 (i:=3) (N':=["pair","one","other"]) (cap:=[none,some 1,some 2]) (cl:=[("other",_),("one",_)]) J_.nd rfl (.inl rfl) (N0 ⟨⟨rfl,rfl,rfl,rfl⟩,⟨⟨rfl,rfl,rfl,rfl⟩,trivial⟩⟩ ⟨rfl,⟨rfl,trivial⟩⟩) rfl (MT K (I0 (MU K (pv 0)) T.ag T.ae.m (J4 T) (Rm I) T.ae.b .nil J6)) (λ_ _ _ _=>by exact⟨(LV 0),(K5 (B8 (Gc K I.units) (pv 0) (J5 (A6 (pv 1) (A6 (pv 2) A8))) (C5 _))),(pv 0)⟩))
   (B5 (C0 (P2 (pv 0) T.ab T.ak.m (O8 T) (Rm I) T.ak.b .nil J6 (A6 (j7 T.ba (Q9 T) (Rm I) rfl T.a9 T.az .nil J6 (A6 (I0 (MU K (pv 0)) T.ag T.ac.m (E3 T) (Rm I) T.ac.b .nil J6) (A6 (pv 3) A8))) (A6 (E7 (A6 (pv 2) A8)) A8))))))),?_⟩
  refine B3 λM1 hM1=>?_;obtain⟨Z,x,g,r,kv,ks,rl,pl,N,W0,hg,wd,kk,pk,hp,lp⟩:=v.ex;have W:=W0.same U4;obtain⟨G,dx,a1,b1,c1,d1,kc,kd,ex,_,_,O,_⟩:=id W;refine C3 rfl ⟨k,Z,C3 rfl ⟨N,rfl,C3 rfl (C3 rfl ⟨k,p,a,b,j,u,rk,m,rfl,v,ha,hb,λH1 s1=>⟨_,rfl,?_⟩⟩)⟩⟩;rw[AU hab];refine N8 (hM1 _ _ (B3 λM2 hM2=>?_));have hk1:=s1 _ _ N;refine C3 rfl ⟨k,T.aa,Z,_,_,rfl,hk1,T.ab,T.af,rfl,x,dx,C3 rfl ⟨s1 _ _ ex,rfl,x,j,u,rfl,W.same s1,λl2 hl2=>?_⟩⟩;have s2:=s1.trans (Cv.new (o:=.lst (G0 u)) hl2);have f2:(HX H1 l2 (.lst (G0 u))) l2=some (.lst (G0 u)):=A7;generalize HX H1 l2 (.lst (G0 u))=H2 at s2 f2⊢;refine⟨l2,rfl,⟨_,IC.of f2⟩,λD hD=>?_⟩;refine Lh (λq=>!decide (q.2 =(a,b))) f2 (by have:=G.lenq;lia) hD (λy hy R s3 Q' hQ=>?_) (λσ R s3 e3=>?_) _
  .have ey:=s3 _ _ (s2 _ _ (O y hy));obtain⟨m1,m2⟩:=G.mem y hy;have oy:PySem.PyData.strOk y.2.1=true/\PySem.PyData.strOk y.2.2=true:=⟨O7 (v.nm _ m1),O7 (v.nm _ m2)⟩;have S:PySem.PyData.strOk a=true/\PySem.PyData.strOk b=true:=⟨O7 (v.nm _ ha),O7 (v.nm _ hb)⟩;unfold t4 ON;refine C3 rfl (C3 rfl (C3 rfl ⟨by show 2<=sizeLine;rw[sizeLine_eq];lia,λt ht=>?_⟩));have J:=Cv.new (o:=.tup [.str a,.str b]) ht;have U:(HX R t (.tup [.str a,.str b])) t=some (.tup [.str a,.str b]):=A7;generalize HX R t (.tup [.str a,.str b])=H4 at J U⊢;refine⟨pd y.2,pd (a,b),j8 (J _ _ ey),j8 U,⟨Bw oy.1 oy.2,by simp[pd,PyData.depth,PyData.depthAll]⟩,⟨Bw S.1 S.2,by simp[pd,PyData.depth,PyData.depthAll]⟩,?_⟩;rw[Tm];exact⟨_,rfl,hQ _ J⟩
  refine hM2 _ _ ?_;have d:=s2.trans s3;refine C3 rfl ⟨k,Z,C3 rfl ⟨d _ _ N,rfl,?_⟩⟩;refine C3 rfl ⟨k,T.aa,Z,_,_,rfl,d _ _ N,T.ab,T.af,rfl,x,dx,C3 rfl ⟨d _ _ ex,rfl,x,j,u,rfl,W.same d,λl1 hl1=>?_⟩⟩;have J:=Cv.new (o:=.lst (j.map V.str)) hl1;have U:(HX R l1 (.lst (j.map V.str))) l1=some (.lst (j.map V.str)):=A7;generalize HX R l1 (.lst (j.map V.str))=H4 at J U⊢;have B:=d.trans J;refine C3 rfl ?_;intro y dy ny ndy ney;refine Df ny ndy U (J _ _ e3) (λq hq=>J2 B O q (AV.mp hq).1) ⟨v.nm,G.nd,G.len⟩ ⟨λq hq=>G.mem q (AV.mp hq).1,G.ndq.sublist (GV.map _),VE (BC ..) G.lenq⟩ λns2 C H7 pn sn pq sq s7 W7 C7=>?_;rw[M0 sn G.srt pn]at W7 C7;have L:=B.trans s7;refine C3 rfl ⟨by show 1<=sizeLine;rw[sizeLine_eq];lia,λl5 X=>?_⟩;have u8:=Cv.new (o:=.lst [.str b]) X;have f8:(HX H7 l5 (.lst [.str b])) l5=some (.lst ([b].map V.str)):=A7;generalize HX H7 l5 (.lst [.str b])=H8 at u8 f8⊢;have M:=L.trans u8;have Y:(C.map λq=>q.2).Perm ((u.map λq=>q.2).filter λq=>!decide (q =(a,b))):=(pq.map _).trans (FD (by rw[HC];rfl));have Wk:IQ T.ad (eK H7 k p) y j C:=Ld (C7 p pl (.own p) (B _ _ hp)) (L _ _ N) (A9 (B _ _ N) ny).symm;refine⟨k,p,y,l5,j,j,[b],u,C,rk,m,rfl,v.same M,lm,Wk.same (Bt.of u8).eK,v.nm,(A9 (L _ _ hp) X).symm,f8,λz hz=>by rw[AC.mp hz];exact hb,CD.mpr ⟨AQ,DC⟩,λn hn nb=>⟨hn,λz=>?_⟩,λl rs ts H9 b9 K9 k9 hl9 R9 q9=>q l rs C ts H9 ((Bt.of M).trans b9) K9 k9 Y (M.free hl9) R9 q9⟩;rw[IP,IP,Y.mem_iff,AV];exact⟨λc=>⟨c,by
   rw[AK λe:(z,n) =(a,b)=>nb (by cases e;exact AC.mpr rfl)];rfl⟩,λc=>c.1⟩
theorem l8:HZ ["self","name"] ["self","name"] (B6 KZ):=KL
def Bi(g h:A3):Sp:=λj H Q _=>∃(k p:A3) (a:Str) (d:A0 Str) (e:A0 IL) (n:A0 Str) (m:Nat),j = [.ref k,.str a]/\KN g h H k p d e n m/\m<=1000/\P8 a=true/\a∉d/\d.length+1<=100 /\
 ∀l i b c ts f,Bt k p H f->KN g h f k p b c ts (m+1)->QD d e b c [a] ts->b.Perm (d ++ [a])->c.Perm e->H l=none->R3 (eK f k p) l i->(i.map λq=>q.2)=Cr (WG d e) (G8 (B2 c)) b->Q (.ref l) f
set_option maxHeartbeats 1000000 in
theorem n9(T:Tx K mg):II P w K mg base JP 8 T.aq.f T.aq.fd ["self","name"] (Bi T.aa T.ad):=by
 refine T.aq.F.o1 l8 λcdv A outer s H vs Q E t h=>?_
 .obtain⟨k,p,a,i,j,rk,m,rfl,hK,lm,ha,I,lq,q⟩:=h;have hu:=Q2 t;refine⟨_,(B0 (K0 (PW.pt (Ar (a7 (T0 (E4 T.a3 (Dw T) (Rm t) (A6 (pv 1) A8)))) (X2 (B8 (Nz K) (pv 1) (I0 (MU K (pv 0)) T.ag T.ac.m (E3 T) (Rm t) T.ac.b .nil J6) rfl)))) (B5 Y0) D9)
   (B5 (C0 (P2 (pv 0) T.ab T.ak.m (O8 T) (Rm t) T.ak.b .nil J6 (A6 (j7 T.ba (Q9 T) (Rm t) rfl T.a9 T.az .nil J6 (A6 (E9 Dr (I0 (MU K (pv 0)) T.ag T.ac.m (E3 T) (Rm t) T.ac.b .nil J6) (E7 (A6 (pv 1) A8))) (A6 (I0 (MU K (pv 0)) T.ag T.ae.m (J4 T) (Rm t) T.ae.b .nil J6) A8))) (A6 (E7 (A6 (pv 1) A8)) A8)))))),?_⟩
  refine B3 λM1 hM1=>?_;obtain⟨R,x,g,r,kv,ks,rl,pl,D,W0,hg,wd,kk,pk,hp,lp⟩:=hK.ex;have W:=W0.same U4;obtain⟨J,dx,a1,b1,c1,d1,kc,kd,ex,_,_,pin,_⟩:=id W;refine C3 rfl ⟨a,rfl,by have:=(Gr ha).2;lia,λH1 S=>⟨_,rfl,?_⟩⟩;rw[ha];have hk1:=S _ _ D;refine N8 (C3 rfl (C3 rfl ⟨k,T.aa,R,_,_,rfl,hk1,T.ab,T.af,rfl,x,dx,C3 rfl ⟨S _ _ ex,rfl,x,i,j,rfl,W.same S,λl1 hl1=>?_⟩⟩));have G:=S.trans (Cv.new (o:=.lst (i.map V.str)) hl1);refine y6 (.inl (IC.of A7)) ⟨_,rfl,?_⟩;generalize HX H1 l1 (.lst (i.map V.str))=H2 at G⊢;rw[AK I];refine N8 (hM1 _ _ ?_);refine C3 rfl ⟨k,R,C3 rfl ⟨G _ _ D,rfl,?_⟩⟩;refine C3 rfl ⟨k,T.aa,R,_,_,rfl,G _ _ D,T.ab,T.af,rfl,x,dx,C3 rfl ⟨G _ _ ex,rfl,x,i,j,rfl,W.same G,λU hl2=>?_⟩⟩;have u3:=Cv.new (o:=.lst (i.map V.str)) hl2;have L:(HX H2 U (.lst (i.map V.str))) U=some (.lst (i.map V.str)):=A7;generalize HX H2 U (.lst (i.map V.str))=H3 at u3 L⊢;have s3:=G.trans u3;refine C3 rfl ⟨by show 1<=sizeLine;rw[sizeLine_eq];lia,λX hl3=>?_⟩;have u4:=Cv.new (o:=.lst [.str a]) hl3;have f4:(HX H3 X (.lst [.str a])) X=some (.lst [.str a]):=A7;have L:=u4 _ _ L;generalize HX H3 X (.lst [.str a])=H4 at u4 f4 L⊢;have s4:=s3.trans u4;refine⟨U,X,_,_,rfl,rfl,L,f4,by rw[AB,sizeLine_eq];show i.length+1<=_;lia,λl4 hl4=>?_⟩;have u5:=Cv.new (o:=.lst (i.map V.str ++ [.str a])) hl4;have f5:(HX H4 l4 (.lst (i.map V.str ++ [.str a]))) l4=some (.lst ((i ++ [a]).map V.str)):=by rw[A7,AL];rfl
  generalize HX H4 l4 (.lst (i.map V.str ++ [.str a]))=H5 at u5 f5⊢;have Y:=s4.trans u5;refine C3 rfl ⟨k,T.aa,R,_,_,rfl,Y _ _ D,T.ab,T.af,rfl,x,dx,C3 rfl ⟨Y _ _ ex,rfl,x,i,j,rfl,W.same Y,λl6 hl6=>?_⟩⟩;have u6:=Cv.new (o:=.lst (G0 j)) hl6;have f6:(HX H5 l6 (.lst (G0 j))) l6=some (.lst (G0 j)):=A7;generalize HX H5 l6 (.lst (G0 j))=H6 at u6 f6⊢;have Z:=Y.trans u6;have nda:(i ++ [a]).Nodup:=CH.mpr ⟨J.nd,CD.mpr ⟨AQ,DC⟩,λc hc d hd e=>I (by rw[<-AC.mp hd,<-e];exact hc)⟩;have M:∀n∈i ++ [a],P8 n=true:=λn N=>(AJ.mp N).elim (hK.nm n) λc=>by rw[AC.mp c];exact ha
  intro y dy ny ndy ney;refine Df ny ndy (u6 _ _ f5) f6 (J2 Z pin) ⟨M,nda,by rw[AS];exact lq⟩ ⟨λq hq=>⟨AJ.mpr (.inl (J.mem q hq).1),AJ.mpr (.inl (J.mem q hq).2)⟩,J.ndq,J.lenq⟩ λu v H7 pn sn pq sq s7 W7 C7=>?_;have B:=Z.trans s7;refine C3 rfl ⟨by show 1<=sizeLine;rw[sizeLine_eq];lia,λl7 O=>?_⟩;have u8:=Cv.new (o:=.lst [.str a]) O;have f8:(HX H7 l7 (.lst [.str a])) l7=some (.lst ([a].map V.str)):=A7;generalize HX H7 l7 (.lst [.str a])=H8 at u8 f8⊢;have C:=B.trans u8;have Wk:IQ T.ad (eK H7 k p) y u v:=Ld (C7 p pl (.own p) (Z _ _ hp)) (B _ _ D) (A9 (Z _ _ D) ny).symm;refine⟨k,p,y,l7,i,u,[a],j,v,rk,m,rfl,hK.same C,lm,Wk.same (Bt.of u8).eK,λn N=>M n (pn.mem_iff.mp N),(A9 (B _ _ hp) O).symm,f8,λz hz=>by rw[AC.mp hz];exact pn.mem_iff.mpr (AJ.mpr (.inr (AC.mpr rfl))),CD.mpr ⟨AQ,DC⟩,λn N nb=>⟨(AJ.mp (pn.mem_iff.mp N)).resolve_right nb,λz=>?_⟩,λl rs ts H9 b9 K9 k9 hl9 R9 q9=>q l rs u v ts H9 ((Bt.of C).trans b9) K9 k9 pn pq (C.free hl9) R9 q9⟩;rw[IP,IP,(pq.map λq:IL=>q.2).mem_iff]
def Ih{b:A0 IL}(h:(b.map λq=>q.2).Nodup)(n:Str):(C2 b n).Nodup:=by
 unfold C2;refine DV.mpr (List.Pairwise.imp_of_mem (fun{x y} c d a e=>a (Prod.ext ?_ e)) ((DV.mp h).filter _));rw[BV (AV.mp c).2,BV (AV.mp d).2]
theorem JA:HZ ["self","name","struck","names","strikes"] ["self","name"] (B6 KR):=KL
def Aj(g h:A3):Sp:=λj H Q _=>∃(k p:A3) (a:Str) (d:A0 Str) (e:A0 IL) (o:A0 Str) (m:Nat),j = [.ref k,.str a]/\KN g h H k p d e o m/\m<=1000/\a∈d /\
 ∀l i b c ts f,Bt k p H f->KN g h f k p b c ts (m+1)->QD d e b c ((C2 e a).filter λn=>!decide (n=a)) ts->b=d.filter (λn=>!decide (n=a))->(c.map λq=>q.2).Perm ((e.map λq=>q.2).filter λq=>!decide (a=q.1\/a=q.2))->H l=none->R3 (eK f k p) l i->(i.map λq=>q.2)=Cr (WG d e) (G8 (B2 c)) b->Q (.ref l) f
set_option maxHeartbeats 1000000 in
theorem i5(T:Tx K mg):II P w K mg base JP 8 T.ap.f T.ap.fd ["self","name"] (Aj T.aa T.ad):=by
 refine T.ap.F.o1 JA λcdv A outer s H vs Q E M h=>?_
 .obtain⟨k,p,a,v,d,rk,m,rfl,hK,lm,ha,q⟩:=h;have hu:=Q2 M;refine⟨_,(B0 (U9 (i:=2) (N':=["other","name"]) (cap:=[none,some 1]) (cl:=[("name",_)]) JA.nd rfl (.inl rfl) (N0 ⟨⟨rfl,rfl,rfl,rfl⟩,trivial⟩ ⟨rfl,trivial⟩) rfl (MT K (P2 (MU K (pv 0)) T.ag T.as.m (V0 T) (Rm M) T.as.b .nil J6 (A6 (pv 1) A8))) (λ_ _ _ _=>by exact⟨(LV 0),(K5 (B8 Co (pv 0) (pv 1) (C5 _))),(pv 0)⟩))
   (B0 (U9 (i:=3) (N':=["one","name"]) (cap:=[none,some 1]) (cl:=[("name",_)]) JA.nd rfl (.inl rfl) (N0 ⟨⟨rfl,rfl,rfl,rfl⟩,trivial⟩ ⟨rfl,trivial⟩) rfl (MT K (I0 (MU K (pv 0)) T.ag T.ac.m (E3 T) (Rm M) T.ac.b .nil J6)) (λ_ _ _ _=>by exact⟨(LV 0),(K5 (B8 Co (pv 0) (pv 1) (C5 _))),(pv 0)⟩))
   (B0 (U9 (i:=4) (N':=["pair","name"]) (cap:=[none,some 1]) (cl:=[("name",_)]) JA.nd rfl (.inl rfl) (N0 ⟨⟨rfl,rfl,rfl,rfl⟩,trivial⟩ ⟨rfl,trivial⟩) rfl (MT K (I0 (MU K (pv 0)) T.ag T.ae.m (J4 T) (Rm M) T.ae.b .nil J6)) (λ_ _ _ _=>by exact⟨(LV 0),(K5 (B8 (T6 K) (pv 1) (pv 0) rfl)),(pv 0)⟩))
   (B5 (C0 (P2 (pv 0) T.ab T.ak.m (O8 T) (Rm M) T.ak.b .nil J6 (A6 (j7 T.ba (Q9 T) (Rm M) rfl T.a9 T.az .nil J6 (A6 (pv 3) (A6 (pv 4) A8))) (A6 (pv 2) A8)))))))),?_⟩
  obtain⟨dk,x,g,r,kv,ks,rl,pl,N,W0,hg,wd,kk,pk,hp,lp⟩:=hK.ex;have W:=W0.same U4;obtain⟨j,dx,a1,b1,c1,d1,kc,kd,ex,_,_,R,_⟩:=id W;refine B3 λM1 hM1=>?_;refine C3 rfl ⟨k,T.aa,dk,_,_,rfl,N,T.ab,T.af,rfl,x,dx,C3 rfl ⟨ex,rfl,C3 rfl ⟨x,a,v,d,rfl,W,ha,λl1 hl1=>?_⟩⟩⟩;have s1:=Cv.new (o:=.lst ((C2 d a).map V.str)) hl1;have f1:(HX H l1 (.lst ((C2 d a).map V.str))) l1=some (.lst ((C2 d a).map V.str)):=A7;generalize HX H l1 (.lst ((C2 d a).map V.str))=H1 at s1 f1⊢;have lst:(C2 d a).length<=1000:=by
   unfold C2;rw[AB];have:=BC (λq:IL=>decide (q.2.1=a)) d;have:=j.lenq;lia
  refine⟨l1,rfl,⟨_,IC.of f1⟩,λD hD=>?_⟩;refine U1 (λn=>!decide (n=a)) f1 lst hD (λy hy H2 s2 Q' S=>?_) (λσ H2 s2 t=>?_) _
  .unfold t4 ON;refine C3 rfl (C3 rfl ⟨rfl,_,rfl,?_⟩);have:(!decide (V.str y=V.str a))=!decide (y=a):=congrArg Bool.not (EK.mpr ⟨λz=>V.str.inj z,λz=>congrArg V.str z⟩);rw[this];exact S H2 λb o e=>e
  refine hM1 _ _ (B3 λM2 hM2=>?_);have B:=s1.trans s2;refine C3 rfl ⟨k,T.aa,dk,_,_,rfl,B _ _ N,T.ab,T.af,rfl,x,dx,C3 rfl ⟨B _ _ ex,rfl,x,v,d,rfl,W.same B,λl3 hl3=>?_⟩⟩;have u3:=Cv.new (o:=.lst (v.map V.str)) hl3;have f3:(HX H2 l3 (.lst (v.map V.str))) l3=some (.lst (v.map V.str)):=A7;have t:=u3 _ _ t;generalize HX H2 l3 (.lst (v.map V.str))=H3 at u3 f3 t⊢;have s03:=B.trans u3;refine⟨l3,rfl,⟨_,IC.of f3⟩,λD2 hD2=>?_⟩;refine U1 (λn=>!decide (n=a)) f3 (by have:=j.len;lia) hD2 (λy hy H4 s4 Q' S=>?_) (λσ H4 s4 O=>?_) _
  .unfold t4 ON;refine C3 rfl (C3 rfl ⟨rfl,_,rfl,?_⟩);have:(!decide (V.str y=V.str a))=!decide (y=a):=congrArg Bool.not (EK.mpr ⟨λz=>V.str.inj z,λz=>congrArg V.str z⟩);rw[this];exact S H4 λb o e=>e
  refine hM2 _ _ (B3 λM3 hM3=>?_);have C:=s03.trans s4;have t:=s4 _ _ t;refine C3 rfl ⟨k,T.aa,dk,_,_,rfl,C _ _ N,T.ab,T.af,rfl,x,dx,C3 rfl ⟨C _ _ ex,rfl,x,v,d,rfl,W.same C,λl5 hl5=>?_⟩⟩;have u5:=Cv.new (o:=.lst (G0 d)) hl5;have f5:(HX H4 l5 (.lst (G0 d))) l5=some (.lst (G0 d)):=A7;have t:=u5 _ _ t;have O:=u5 _ _ O;generalize HX H4 l5 (.lst (G0 d))=H5 at u5 f5 t O⊢;have U:=C.trans u5;refine⟨l5,rfl,⟨_,IC.of f5⟩,λD3 hD3=>?_⟩;refine Lh (λq=>!decide (a=q.2.1\/a=q.2.2)) f5 (by have:=j.lenq;lia) hD3 (λy hy H6 X Q' S=>?_) (λσ H6 X e6=>?_) _
  .have ey:=X _ _ (U _ _ (R y hy));refine C3 rfl (C3 rfl ?_);refine P4 (ss:=[y.2.1,y.2.2]) (.inr (IZ.of ey)) ⟨_,rfl,?_⟩;have:(!decide (a∈[y.2.1,y.2.2]))=!decide (a=y.2.1\/a=y.2.2):=congrArg Bool.not (EK.mpr (by rw[AW,AC]));rw[this];exact S H6 λb o e=>e
  refine hM3 _ _ ?_;have u:=U.trans X;have t:=X _ _ t;have O:=X _ _ O;refine C3 rfl ⟨k,dk,C3 rfl ⟨u _ _ N,rfl,?_⟩⟩;refine C3 rfl (C3 rfl ?_);intro y dy ny ndy ney;refine Df ny ndy O e6 (λq hq=>J2 u R q (AV.mp hq).1) ⟨λn G=>hK.nm n (AV.mp G).1,j.nd.filter _,VE (BC ..) j.len⟩ ⟨λq hq=>?_,j.ndq.sublist (GV.map _),VE (BC ..) j.lenq⟩ λI J H7 pn sn pq sq s7 W7 C7=>?_
  .obtain⟨q1,q2⟩:=AV.mp hq;have q3:¬(a=q.2.1\/a=q.2.2):=by simpa using q2
   exact⟨AV.mpr ⟨(j.mem q q1).1,by rw[AK λe=>q3 (.inl e.symm)];rfl⟩,AV.mpr ⟨(j.mem q q1).2,by rw[AK λe=>q3 (.inr e.symm)];rfl⟩⟩
  have Y:I=v.filter λn=>!decide (n=a):=M0 sn (j.srt.filter _) pn;have L:=u.trans s7;have Wk:IQ T.ad (eK H7 k p) y I J:=Ld (C7 p pl (.own p) (u _ _ hp)) (L _ _ N) (A9 (u _ _ N) ny).symm;have Z:(J.map λq=>q.2).Perm ((d.map λq=>q.2).filter λq=>!decide (a=q.1\/a=q.2)):=(pq.map _).trans (FD (by rw[HC];rfl));have nDp:D≠p:=(A9 (s1 _ _ hp) hD).symm;refine C3 rfl ⟨k,p,y,D,v,I,(C2 d a).filter (λn=>!decide (n=a)),d,J,rk,m,rfl,hK.same L,lm,Wk,λn G=>hK.nm n (by rw[Y]at G;exact(AV.mp G).1),nDp,s7 _ _ t,λz hz=>?_,?_,λn G nb=>⟨by rw[Y]at G;exact(AV.mp G).1,λz=>?_⟩,λl rs ts H9 b9 K9 k9 hl9 R9 q9=>q l rs I J ts H9 ((Bt.of L).trans b9) K9 k9 Y Z (L.free hl9) R9 q9⟩
  .obtain⟨z1,z2⟩:=AV.mp hz;rw[Y];exact AV.mpr ⟨T7 j.mem a ha z z1,z2⟩
  .exact List.Pairwise.filter _ (Ih j.ndq a)
  .rw[IP,IP,Z.mem_iff,AV];refine⟨λc=>⟨c,?_⟩,λc=>c.1⟩;have na:n≠a:=λe=>by
    rw[Y]at G;have:=(AV.mp G).2;rw[e,AU rfl]at this;cases this
   have:¬(a=z\/a=n):=λo=>o.elim (λe=>nb (AV.mpr ⟨JR.mpr (e▸c),by rw[AK na];rfl⟩)) λe=>na e.symm;rw[AK this];rfl
structure PD(H:Hp)(p v:A3)(ns:A0 Str)(ks:A0 (Str×Str))(A B:A0 Nat):Prop where
 ex:∃a s t,H v=some (.lst [.ref a,.ref s,.ref t])/\H a=some (.lst (ns.map V.str))/\H s=some (.lst (A.map Kr))/\H t=some (.lst (B.map Kr))/\v≠p/\a≠p/\s≠p/\t≠p
 mA:MB ns (ks.map λk=>(k.2,k.1)) A
 mB:MB ns ks B
def Pm{n j:Nat}(h:j<n):RM n (j:Int)=some j:=by
 unfold RM;rw[AO (by lia),AO (by lia),CL]
def Ej{B:A0 Nat}{a:Nat}(h:a<B.length):P6 (B.map Kr) (a:Int)=some (.int ((B.getD a 0:Nat):Int)):=by
 refine Q5 ?_;rw[AH,AF h,CA,AF h];rfl
def Lc(n:Nat):(List.replicate ((n:Int).toNat) [V.int 0]).flatten =(List.replicate n 0).map Kr:=by
 rw[CL]
 induction n with
 | zero=>rfl
 | succ n a =>
  rw[C_,FK,a,C_,BM];rfl
def Lm(B:A0 Nat)(a m:Nat):(B.map Kr).set a (.int (m:Int)) =(B.set a m).map Kr:=by
 rw[List.map_set];rfl
theorem JJ:HZ ["_law_names","_law_strikes","_law_strikers","_law_struck","_law_one","_law_other","_law_a","_law_b"] ["_law_names","_law_strikes"] (B6 NR):=KL
def Wl:Sp:=λe H Q _=>∃(n a:A3) (b:A0 Str) (ps:A0 IL),e = [.ref n,.ref a]/\H n=some (.lst (b.map V.str))/\X5 b/\H a=some (.lst (G0 ps))/\(∀q∈ps,G6 H q)/\ME b ps /\
 ∀v c A B d,H v=none->Cv H d->c.Perm b->c.Pairwise OG->(∀p o,H p=some o->PD d p v c (ps.map λq=>q.2) A B)->Q (.ref v) d
set_option maxHeartbeats 2000000 in
theorem Hc(T:Tx K mg):II P w K mg base JP 1 T.aZ.f T.aZ.fd ["_law_names","_law_strikes"] Wl:=by
 refine T.aZ.F.o1 JJ λcdv A outer s H vs Q E hr h=>?_
 .obtain⟨n,a,ss,ps,rfl,hn,hN,ha,hP,hO,q⟩:=h;refine⟨_,(B0 (C6 (i:=0) JJ.nd rfl (.inl rfl) (G9 (Kz K) T.aC R8 (A6 (pv 0) A8)))
   (B0 (Tj (i:=2) (j:=3) rfl JJ.nd rfl rfl (by decide) rfl rfl (A6 (E9 Wu (E7 (A6 B4 A8)) (G9 (Q0 K) T.ar N9 (A6 (pv 0) A8))) (A6 (E9 Wu (E7 (A6 B4 A8)) (G9 (Q0 K) T.ar N9 (A6 (pv 0) A8))) A8)) rfl)
   (B0 (U2 PassesOwn.never rfl (MT K (pv 1)) (QV K (n:=2) (E5 (G5 (i:=4) JJ.nd rfl (.inl rfl)) (E5 (G5 (i:=5) JJ.nd rfl (.inl rfl)) R0)))
   (B0 (Tj (i:=6) (j:=7) rfl JJ.nd rfl rfl (by decide) rfl rfl (A6 (Li K VG VJ VL (Ln K) (pv 0) (A6 (pv 4) A8)) (A6 (Li K VG VJ VL (Ln K) (pv 0) (A6 (pv 5) A8)) A8)) rfl)
   (B0 (Ab (E9 Wf (E6 (K2 K) (pv 2) (pv 7) (λ_ _=>rfl)) (E9 Tc B4 (pv 6))) (Lq (pv 2) (pv 7) Av))
   (B5 (Ab (E9 Wf (E6 (K2 K) (pv 3) (pv 6) (λ_ _=>rfl)) (E9 Tc B4 (pv 7))) (Lq (pv 3) (pv 6) Av))))))
   (B5 (C0 (E7 (A6 (pv 0) (A6 (pv 2) (A6 (pv 3) A8))))))))),?_⟩
  refine C3 rfl ⟨n,ss,rfl,IC.of hn,λl b hl D srt=>?_⟩;have R:b.Nodup:=D.nodup_iff.mpr hN.2.1;have S:(b.map V.str).length=b.length:=AB ..;have ln:b.length<=100:=by rw[D.length_eq];exact hN.2.2
  have s1:Cv H (HX H l (.lst (b.map V.str))):=Cv.new hl;refine⟨by show 1<=sizeLine;decide,λU d=>?_⟩;have s2:=s1.trans (Cv.new (o:=.lst [V.int 0]) d);refine C3 rfl (B9 (a:=l) rfl (.inl (IC.of ((Cv.new d) _ _ A7))) ⟨U,B9 rfl rfl ⟨A7,by lia,by lia,by rw[S,CL,sizeLine_eq];show 1*b.length<=_;lia,λs W=>?_⟩⟩);rw[S,Lc];have hs1:HX H l (.lst (b.map V.str)) s=none:=(Cv.new d).free W;have G:H s=none:=s2.free W;have nls:l≠s:=A9 A7 hs1;have s3:=s2.trans (Cv.new (o:=.lst ((List.replicate b.length 0).map Kr)) W);refine⟨by show 1<=sizeLine;decide,λI r=>?_⟩;have s4:=s3.trans (Cv.new (o:=.lst [V.int 0]) r);have X:(HX (HX (HX (HX H l (.lst (b.map V.str))) U (.lst [V.int 0])) s (.lst ((List.replicate b.length 0).map Kr))) I (.lst [V.int 0])) l=some (.lst (b.map V.str)) :=
   (Cv.new r) _ _ ((Cv.new W) _ _ ((Cv.new d) _ _ A7))
  have es:(HX (HX (HX (HX H l (.lst (b.map V.str))) U (.lst [V.int 0])) s (.lst ((List.replicate b.length 0).map Kr))) I (.lst [V.int 0])) s=some (.lst ((List.replicate b.length 0).map Kr)):=(Cv.new r) _ _ A7;generalize hG:HX (HX (HX (HX H l (.lst (b.map V.str))) U (.lst [V.int 0])) s (.lst ((List.replicate b.length 0).map Kr))) I (.lst [V.int 0])=H4 at s4 X es⊢;have et2:H4 I=some (.lst [V.int 0]):=by rw[<-hG];exact A7
  refine C3 rfl (B9 (a:=l) rfl (.inl (IC.of X)) ⟨I,B9 rfl rfl ⟨et2,by lia,by lia,by rw[S,CL,sizeLine_eq];show 1*b.length<=_;lia,λt Y=>?_⟩⟩);rw[S,Lc];have J:l≠t:=A9 X Y;have e:s≠t:=A9 es Y;have s5:=s4.trans (Cv.new (o:=.lst ((List.replicate b.length 0).map Kr)) Y);have L:H t=none:=s4.free Y;refine⟨_,C3 rfl (C3 rfl ⟨a,rfl,⟨_,IC.of (s5 _ _ ha)⟩,?_⟩)⟩;refine Fr (O_ (K:=K) (IC.of ha)) (λi σ u=>(∃v4 v5 v6 v7,σ = [some (.ref l),some (.ref a),some (.ref s),some (.ref t),v4,v5,v6,v7])/\Cv H u/\u l=some (.lst (b.map V.str)) /\
   ∃A B:A0 Nat,u s=some (.lst (A.map Kr))/\u t=some (.lst (B.map Kr))/\MB b ((ps.take i).map λq=>(q.2.2,q.2.1)) A/\MB b ((ps.take i).map λq=>q.2) B) ?_ ?_ ?_ ?_
  .exact⟨⟨_,_,_,_,rfl⟩,s5,by rw[B7 J];exact X,_,_,by rw[B7 e];exact es,A7,MB.zero b,MB.zero b⟩
  .rintro i σ u hi ⟨_,g,_⟩;exact g.at a
  .rintro i σ u v c ⟨⟨v4,v5,v6,v7,rfl⟩,g,x,A,B,Z,h4,y,C⟩ D1 hD1 _;unfold G0 at c;rw[AH]at c;cases M:ps[i]? with
   | none=>rw[M]at c;cases c
   | some q =>
    rw[M]at c;cases c;have hm:q∈ps:=BB M;obtain⟨m1,m2⟩:=hO.nm q hm;have m1:q.2.1∈b:=D.mem_iff.mpr m1;have m2:q.2.2∈b:=D.mem_iff.mpr m2;obtain⟨j,N⟩:=List.mem_iff_getElem?.mp m1;obtain⟨k,O⟩:=List.mem_iff_getElem?.mp m2;have lj:j<b.length:=(AM.mp N).1;have lk:k<b.length:=(AM.mp O).1;refine⟨q.1,C3 rfl ⟨IZ.of (g _ _ (hP q hm)),rfl,_,C3 rfl (B9 rfl rfl ?_)⟩⟩;refine C3 rfl ⟨.inl ⟨rfl,_,IC.of x⟩,C3 rfl ⟨l,b,q.2.1,j,rfl,rfl,IC.of x,N,λm hm z=>by have:=Ax R z N;lia,?_⟩⟩;refine C3 rfl ⟨.inl ⟨rfl,_,IC.of x⟩,C3 rfl ⟨l,b,q.2.2,k,rfl,rfl,IC.of x,O,λm hm z=>by have:=Ax R z O;lia,?_⟩⟩;refine⟨_,C3 rfl ?_⟩;refine C3 rfl (C3 rfl ⟨s,_,B9 rfl rfl ⟨IC.of Z,Ej (by rw[y.len];exact lk),C3 rfl (B9 rfl rfl ⟨⟨by lia,by lia,by decide⟩,B9 rfl rfl ?_⟩)⟩⟩);dsimp only;rw[zFp,bor];refine C3 rfl (C3 rfl ⟨s,_,_,k,rfl,rfl,Z,Pm (by rw[AB,y.len];exact lk),?_⟩);rw[Lm];refine C3 rfl (C3 rfl ⟨t,_,B9 rfl rfl ⟨IC.of (by rw[B7 e.symm];exact h4),Ej (by rw[C.len];exact lj),C3 rfl (B9 rfl rfl ⟨⟨by lia,by lia,by decide⟩,B9 rfl rfl ?_⟩)⟩⟩);dsimp only;rw[zFp,bor];refine C3 rfl (C3 rfl ⟨t,_,_,j,rfl,rfl,by rw[B7 e.symm];exact h4,Pm (by rw[AB,C.len];exact lj),?_⟩);rw[Lm];refine hD1 _ _ ⟨⟨_,_,_,_,rfl⟩,(g.upd G).upd L,?_,A.set k (A.getD k 0 ||| 2^j),_,?_,A7,?_,?_⟩
    .rw[B7 J,B7 nls];exact x
    .rw[B7 e,A7]
    .rw[D8 M,AL];exact y.step R O N
    .rw[D8 M,AL];exact C.step R N O
  .rintro σ u ⟨⟨v4,v5,v6,v7,rfl⟩,g,x,A,B,Z,h4,y,C⟩;have lr:(G0 ps).length=ps.length:=by unfold G0;rw[AB]
   rw[lr,BN]at y C;refine C3 rfl (C3 rfl (C3 rfl ⟨by show 3<=sizeLine;decide,λv c=>?_⟩));have s9:=Cv.new (o:=.lst [.ref l,.ref s,.ref t]) c;refine q v b A B _ (g.free c) (g.trans s9) D srt λp o hp=>⟨⟨l,s,t,A7,s9 _ _ x,s9 _ _ Z,s9 _ _ h4,(A9 (g _ _ hp) c).symm,(A9 hp hl).symm,(A9 hp G).symm,(A9 hp L).symm⟩,?_,C⟩;rw[BW];exact y
def TC(B:A0 Nat)(m j:Nat):Prop:=∃k,m.testBit k=true/\(B.getD k 0).testBit j=true
def MW(n:Nat)(A B:A0 Nat)(m j:Nat):Prop:=j<n/\∀b,(A.getD j 0).testBit b=true->TC B m b
def Ii(a h:Nat):decide (V.int (Builtin.bitAnd (a:Int) (Builtin.bitNot (h:Int)))=V.int 0)=true↔∀b,a.testBit b=true->h.testBit b=true:=by
 rw[decide_eq_true_iff,PyProof.Rows.bitAnd_not,zEv];constructor
 .intro e b c;injection e with e;have e:a=a &&& h:=by lia
  rw[e,Nat.testBit_and,DB]at c;exact c.2
 .intro k;have e:a &&& h=a:=Nat.eq_of_testBit_eq λb=>by
   rw[Nat.testBit_and];cases c:a.testBit b with
   | false=>rfl
   | true=>rw[k b c];rfl
  rw[e,Int.sub_self]
def Yg(d k j:Nat):(d ||| 2^k).testBit j=true↔d.testBit j=true\/j=k:=by
 rw[Nat.testBit_or,Bool.or_eq_true,Nat.testBit_two_pow,decide_eq_true_iff];exact⟨λh=>h.imp id Eq.symm,λh=>h.imp id Eq.symm⟩
theorem LG:HZ ["_law_view","_law_mask","_law_hit_here","_law_k"] ["_law_view","_law_mask"] (B6 OQ):=KL
def zAv:Sp:=λb H Q _=>∃(p v:A3) (m:Nat) (a:A0 Str) (c:A0 (Str×Str)) (A B:A0 Nat),b = [.ref v,.int (m:Int)]/\PD H p v a c A B/\a.length<=100 /\
 ∀h:Nat,(∀j,h.testBit j=true↔TC B m j)->Q (.int (h:Int)) H
theorem Do(T:Tx K mg):II P w K mg base JP 1 T.a5.f T.a5.fd ["_law_view","_law_mask"] zAv:=by
 refine T.a5.F.o1 LG λx A g s H J Q E L h=>?_
 .obtain⟨p,v,m,M,N,A,B,rfl,y,O,q⟩:=h;obtain⟨⟨a,s,t,r,C,R,D,_⟩,S,u⟩:=id y;refine⟨_,(B0 (C6 (i:=2) LG.nd rfl (.inl rfl) B4)
   (B0 (U2 PassesOwn.never rfl (SQ T.aM (A6 (G9 (Q0 K) T.ar N9 (A6 (E6 (K2 K) (pv 0) B4 (λ_ _=>rfl)) A8)) A8)) (G5 (i:=3) LG.nd rfl (.inl rfl))
   (B5 (K0 (B8 V2 (E9 Kg (E9 Qa (pv 1) (pv 3)) B4) B4 (C5 _)) (B5 (C6 (i:=2) LG.nd rfl (.inl rfl) (E9 Wf (pv 2) (E6 (K2 K) (E6 (K2 K) (pv 0) B4 (λ_ _=>rfl)) (pv 3) (λ_ _=>rfl))))) D9)))
   (B5 (C0 (pv 2))))),?_⟩
  refine C3 rfl ⟨v,_,B9 rfl rfl ⟨IC.of r,rfl,B9 (a:=a) rfl (.inl (IC.of C)) (C3 rfl ⟨?_,?_,?_⟩)⟩⟩
  .lia
  .rw[AB];lia
  rw[AB,CL];refine U0 (λi σ l=>l=H/\∃(h:Nat) (n:A5 V),σ = [some (.ref v),some (.int (m:Int)),some (.int (h:Int)),n]/\∀j,h.testBit j=true↔∃k,k<i/\m.testBit k=true/\(B.getD k 0).testBit j=true) ?_ ?_ ?_
  .exact⟨rfl,0,_,rfl,λj=>by rw[FR];simp⟩
  .rintro i σ l G ⟨rfl,h,n,rfl,d⟩ U c _;rw[Int.zero_add];refine C3 rfl (C3 rfl (B9 rfl rfl ⟨(show(0:Int)<=(i:Int) by lia),B9 rfl rfl ⟨rfl,C3 rfl ?_⟩⟩));dsimp only;rw[zCj];refine Y7 (λo=>?_) (λo=>?_)
   .refine C3 rfl (C3 rfl ⟨v,_,B9 rfl rfl ⟨IC.of r,rfl,C3 rfl ⟨t,_,B9 rfl rfl ⟨IC.of D,Ej (by rw[u.len];exact G),B9 rfl rfl ?_⟩⟩⟩⟩);dsimp only;rw[bor];refine c _ _ ⟨rfl,_,_,rfl,λj=>?_⟩;rw[Nat.testBit_or,Bool.or_eq_true,d];constructor
    .rintro(⟨k,b,h2⟩ | h2)
     .exact⟨k,by lia,h2⟩
     .exact⟨i,by lia,o,h2⟩
    .rintro⟨k,b,h2⟩;by_cases e:k=i
     .rw[e]at h2;exact .inr h2.2
     .exact .inl ⟨k,by lia,h2⟩
   .refine c _ _ ⟨rfl,h,_,rfl,λj=>?_⟩;rw[d];constructor
    .rintro⟨k,b,h2⟩;exact⟨k,by lia,h2⟩
    .rintro⟨k,b,h2⟩;by_cases e:k=i
     .rw[e]at h2;exact absurd h2.1 o
     .exact⟨k,by lia,h2⟩
  .rintro σ l ⟨rfl,h,n,rfl,d⟩;refine C3 rfl (q h λj=>?_);rw[d];constructor
   .rintro⟨k,b,h2⟩;exact⟨k,h2⟩
   .rintro⟨k,b,h2⟩;refine⟨k,?_,b,h2⟩;obtain⟨z,_,I,_⟩:=(u.bit k j).mp h2;exact(AM.mp I).1
theorem KC:HZ ["_law_view","_law_mask","_law_hit_here","_law_kept_here","_law_k"] ["_law_view","_law_mask"] (B6 OD):=KL
def Yd:Sp:=λb H Q _=>∃(p v:A3) (m:Nat) (a:A0 Str) (c:A0 (Str×Str)) (A B:A0 Nat),b = [.ref v,.int (m:Int)]/\PD H p v a c A B/\a.length<=100 /\
 ∀h:Nat,(∀j,h.testBit j=true↔MW a.length A B m j)->Q (.int (h:Int)) H
theorem Bo(T:Tx K mg):II P w K mg base JP 2 T.aW.f T.aW.fd ["_law_view","_law_mask"] Yd:=by
 refine T.aW.F.o1 KC λM A x s H Z Q E N h=>?_
 .obtain⟨p,v,m,O,R,A,B,rfl,I,S,q⟩:=h;obtain⟨⟨a,s,t,J,U,W,e4,_⟩,X,mB⟩:=id I;refine⟨_,(B0 (C6 (i:=2) KC.nd rfl (.inl rfl) (E4 T.a5 (Do T) (Rm N) (A6 (pv 0) (A6 (pv 1) A8))))
   (B0 (C6 (i:=3) KC.nd rfl (.inl rfl) B4)
   (B0 (U2 PassesOwn.never rfl (SQ T.aM (A6 (G9 (Q0 K) T.ar N9 (A6 (E6 (K2 K) (pv 0) B4 (λ_ _=>rfl)) A8)) A8)) (G5 (i:=4) KC.nd rfl (.inl rfl))
   (B5 (K0 (B8 V2 (E9 Kg (E6 (K2 K) (E6 (K2 K) (pv 0) B4 (λ_ _=>rfl)) (pv 4) (λ_ _=>rfl)) (zFm zBe (pv 2))) B4 (C5 _)) (B5 (C6 (i:=3) KC.nd rfl (.inl rfl) (E9 Wf (pv 3) (E9 Tc B4 (pv 4))))) D9)))
   (B5 (C0 (pv 3)))))),?_⟩
  refine C3 rfl (C3 rfl (zFq (a:=p) (b:=v) (c:=m) (d:=O) (e:=R) (f:=A) (g:=B) rfl I S λo k=>?_));refine C3 rfl ⟨v,_,B9 rfl rfl ⟨IC.of J,rfl,B9 (a:=a) rfl (.inl (IC.of U)) (C3 rfl ⟨?_,?_,?_⟩)⟩⟩
  .lia
  .rw[AB];lia
  rw[AB,CL];refine U0 (λi σ y=>y=H/\∃(h:Nat) (C:A5 V),σ = [some (.ref v),some (.int (m:Int)),some (.int (o:Int)),some (.int (h:Int)),C]/\∀j,h.testBit j=true↔MW i A B m j) ?_ ?_ ?_
  .exact⟨rfl,0,_,rfl,λj=>by rw[FR];exact⟨λz=>(by cases z),λz=>absurd z.1 (Nat.not_lt_zero _)⟩⟩
  .rintro i σ y Y ⟨rfl,h,C,rfl,u⟩ D1 r _;rw[Int.zero_add];refine C3 rfl ⟨v,_,B9 rfl rfl ⟨IC.of J,rfl,C3 rfl ⟨s,_,B9 rfl rfl ⟨IC.of W,Ej (by rw[X.len];exact Y),C3 rfl (C3 rfl (B9 rfl rfl ⟨rfl,C3 rfl ?_⟩))⟩⟩⟩⟩;dsimp only;have L:=Ii (A.getD i 0) o;refine Y7 (λD=>?_) (λD=>?_)
   .refine C3 rfl (C3 rfl (B9 rfl rfl ⟨⟨by lia,by lia,by decide⟩,B9 rfl rfl ?_⟩));dsimp only;rw[zFp,bor];refine r _ _ ⟨rfl,_,_,rfl,λj=>?_⟩;rw[Yg,u];constructor
    .rintro(⟨G,l⟩ | rfl)
     .exact⟨by lia,l⟩
     .exact⟨by lia,λb n=>(k b).mp (L.mp D b n)⟩
    .rintro⟨G,l⟩;by_cases e:j=i
     .exact .inr e
     .exact .inl ⟨by lia,l⟩
   .refine r _ _ ⟨rfl,h,_,rfl,λj=>?_⟩;rw[u];constructor
    .rintro⟨G,l⟩;exact⟨by lia,l⟩
    .rintro⟨G,l⟩;by_cases e:j=i
     .subst e;exact absurd (L.mpr λb n=>(k b).mpr (l b n)) D
     .exact⟨by lia,l⟩
  .rintro σ y ⟨rfl,h,C,rfl,u⟩;exact⟨_,rfl,q h u⟩
def SL(n m:Nat):Prop:=∀j,m.testBit j=true->j<n
def SL.zero(n:Nat):SL n 0:=λj a=>by rw[FR]at a;cases a
def Sub(c a:Nat):Prop:=∀j,c.testBit j=true->a.testBit j=true
def S8(m i:Nat):A0 Nat:=(List.range i).filter λk=>m.testBit k
def Ix(m i:Nat):S8 m (i+1)=S8 m i++if m.testBit i=true then [i]else []:=by
 unfold S8;rw[List.range_succ,CT,BR,D_]
def Gb(m i:Nat):(S8 m i).length<=i:=VE (BC ..) (by rw[DW];exact VD _)
def Xu{m r:Nat}(s:Sub m r):∀n,(S8 m n).length<=(S8 r n).length/\((S8 m n).length =(S8 r n).length->∀j,j<n->m.testBit j=r.testBit j)
 | 0=>⟨VD _,λ_ j h=>absurd h (Nat.not_lt_zero _)⟩
 | n+1=>by
  obtain⟨b,d⟩:=Xu s n;have f:∀z,(S8 z (n+1)).length =(S8 z n).length+if z.testBit n=true then 1 else 0:=λz=>by
   rw[Ix,AS];split<;>rfl
  rw[f,f];cases a:m.testBit n with
  | true =>
   rw[s n a];refine⟨by simp;exact b,λe j g=>?_⟩;by_cases c:j=n
   .rw[c,a,s n a]
   .exact d (by simpa using e) j (by lia)
  | false =>
   cases i:r.testBit n with
   | true=>exact⟨by simp;lia,λe=>by simp at e;lia⟩
   | false =>
    refine⟨by simp;exact b,λe j g=>?_⟩;by_cases c:j=n
    .rw[c,a,i]
    .exact d (by simpa using e) j (by lia)
def zDq{n m r:Nat}(s:Sub m r)(lo:SL n r)(a:m≠r):(S8 m n).length <(S8 r n).length:=by
 obtain⟨b,d⟩:=Xu s n;refine FS b λe=>a (Nat.eq_of_testBit_eq λj=>?_);by_cases c:j<n
 .exact d e j c
 .rw[ET.mpr λz=>c (lo j z),ET.mpr λz=>c (lo j (s j z))]
def MW.up{n:Nat}{A B:A0 Nat}{m r j:Nat}(s:Sub m r)(h:MW n A B m j):MW n A B r j:=⟨h.1,λb a=>let⟨k,c,d⟩:=h.2 b a;⟨k,s k c,d⟩⟩
theorem JX:HZ ["_law_view","_law_mask","_law_more"] ["_law_view"] (B6 NS):=KL
def Hg(n:Nat)(A B:A0 Nat)(m:Nat):Prop:=SL n m/\(∀j,m.testBit j=true↔MW n A B m j)/\∀X:Nat->Prop,(∀(r:Nat) j,(∀i,r.testBit i=true->X i)->MW n A B r j->X j)->∀j,m.testBit j=true->X j
def Rx:Sp:=λb H Q _=>∃(p v:A3) (a:A0 Str) (c:A0 (Str×Str)) (A B:A0 Nat),b = [.ref v]/\PD H p v a c A B/\a.length<=100/\∀m:Nat,Hg a.length A B m->Q (.int (m:Int)) H
theorem Hy(T:Tx K mg):II P w K mg base JP 3 T.a0.f T.a0.fd ["_law_view"] Rx:=by
 refine T.a0.F.o1 JX λR A l s H V Q E D h=>?_
 .obtain⟨p,v,a,I,A,B,rfl,J,L,q⟩:=h;refine⟨_,(B0 (C6 (i:=1) JX.nd rfl (.inl rfl) B4)
   (B0 (C6 (i:=2) JX.nd rfl (.inl rfl) (E4 T.aW (Bo T) (Rm D) (A6 (pv 0) (A6 B4 A8))))
   (B0 (Bd PassesOwn.never (B8 Co (pv 2) (pv 1) (C5 _)) (B0 (C6 (i:=1) JX.nd rfl (.inl rfl) (pv 2))
   (B5 (C6 (i:=2) JX.nd rfl (.inl rfl) (E4 T.aW (Bo T) (Rm D) (A6 (pv 0) (A6 (pv 1) A8)))))))
   (B5 (C0 (pv 1)))))),?_⟩
  refine B3 λW n=>?_;refine n _ _ (B3 λY o=>?_);refine C3 rfl ⟨p,v,0,a,I,A,B,rfl,J,L,λr u=>?_⟩;refine o _ _ (B3 λZ x=>?_);refine⟨λt σ G=>G=H/\∃m r:Nat,σ = [some (.ref v),some (.int (m:Int)),some (.int (r:Int))]/\SL a.length m/\(∀j,r.testBit j=true↔MW a.length A B m j)/\Sub m r/\t +(S8 m a.length).length=a.length/\∀X:Nat->Prop,(∀(r:Nat) j,(∀i,r.testBit i=true->X i)->MW a.length A B r j->X j)->∀j,m.testBit j=true->X j,⟨a.length-(S8 0 a.length).length,rfl,0,r,rfl,SL.zero _,u,(λj h=>by rw[FR]at h;cases h),by have:=Gb 0 a.length;lia,λX _ j h=>by rw[FR]at h;cases h⟩,?_⟩;rintro t σ G ⟨rfl,m,r,rfl,lo,d,sub,ht,M⟩;have g:SL a.length r:=λj k=>((d j).mp k).1;refine C3 rfl (C3 rfl ⟨rfl,_,rfl,Y7 (λz=>?_) λz=>x _ _ (C3 rfl (q m ⟨lo,?_,M⟩))⟩)
  .have S:m≠r:=λe=>by
    rw[e]at z;simp at z
   refine⟨λσ' N=>N=G/\∃b:Nat,σ' = [some (.ref v),some (.int (r:Int)),some (.int (b:Int))]/\∀j,b.testBit j=true↔MW a.length A B r j,λσ' N ⟨e,b,U,h⟩=>?_,?_⟩
   .have:=zDq sub g S;have:=Gb r a.length;exact⟨a.length-(S8 r a.length).length,by lia,e,r,b,U,g,h,λj k=>(h j).mpr (((d j).mp k).up sub),by lia,λX O j k=>O m j (M X O) ((d j).mp k)⟩
   .refine B3 λN4 y=>?_;refine C3 rfl (y _ _ ?_);exact C3 rfl (C3 rfl ⟨p,v,r,a,I,A,B,rfl,J,L,λb C=>⟨rfl,b,rfl,C⟩⟩)
  .have e:m=r:=Decidable.byContradiction λc=>z (by simpa using (show ¬((r:Int) =(m:Int))from λe=>c (by lia)));rw[<-e]at d;exact d
def LU:A0 Str:=["b","ab","x","know","c","m","ba","aba","xa","knowa","ca","ma","bbb","abbb","xbb","knowbb","cbb","mbb","bccc","abccc","xccc","knowccc","cccc","mccc","bdddd","abdddd","xdddd","knowdddd","cdddd","mdddd"]
abbrev SC:A0 Str:=["b","ab","x","know","c","m"]
abbrev QW:Str := "aabcd"
theorem PQ:(∀x∈LU,P8 x=true)/\LU.Nodup:=⟨by decide +kernel,by decide +kernel⟩
def zGb(i:Nat):A5 Str:=(SC[i % 6]?).bind λx=>(QW.cps.toList[i / 6]?).map λc=>x++Hi ⟨#[c]⟩ (i / 6)
theorem Wh:∀i:Fin 30,zGb i.1=LU[i.1]?/\((LU[i.1]?).map λx=>decide (x.length<=8))=some true:=by decide +kernel
theorem Zu{i:Nat}(h:i<30):∃x c y,P6 (SC.map V.str) ((i:Int) % 6)=some (.str x)/\P6 QW.cps.toList ((i:Int) / 6)=some c/\x++Hi ⟨#[c]⟩ (i / 6)=y/\LU[i]?=some y/\x.length +(Hi ⟨#[c]⟩ (i / 6)).length<=8:=by
 obtain⟨a,b⟩:=Wh ⟨i,h⟩;unfold zGb at a;simp only at a b;cases d:SC[i % 6]? with
 | none=>rw[d]at a;rw[<-a]at b;cases b
 | some x =>
  cases f:QW.cps.toList[i / 6]? with
  | none=>rw[d,f]at a;rw[<-a]at b;cases b
  | some c =>
   rw[d,f]at a;have a:some (x++Hi ⟨#[c]⟩ (i / 6))=LU[i]?:=a;refine⟨x,c,_,?_,?_,rfl,a.symm,?_⟩
   .exact Q5 (j:=i % 6) (by rw[AH,d];rfl)
   .exact Q5 (j:=i / 6) f
   .rw[<-a]at b;have:(x++Hi ⟨#[c]⟩ (i / 6)).length<=8:=by
     have b:some (decide ((x++Hi ⟨#[c]⟩ (i / 6)).length<=8))=some true:=b;exact BV (BT b)
    have e:(x++Hi ⟨#[c]⟩ (i / 6)).length=x.length +(Hi ⟨#[c]⟩ (i / 6)).length:=Array.size_append;lia
theorem JW:HZ ["_law_left_here","_law_many","_law_some","_law_k"] ["_law_left_here","_law_many"] (B6 LE):=KL
def Ee:Sp:=λe H Q _=>∃(p:A3) (c:Int) (a:Nat),e = [.ref p,.int (a:Int)]/\IJ H p c/\c<=900000/\a<=30 /\
 ∀l (b:A0 Str) d,H l=none->Sm [p] H d->d l=some (.lst (b.map V.str))->b.length=a->X5 b->(∀x∈b,x∈LU)->IJ d p (c+a)->Q (.ref l) d
set_option maxHeartbeats 2000000 in
theorem y8(T:Tx K mg):II P w K mg base JP 3 T.aG.f T.aG.fd ["_law_left_here","_law_many"] Ee:=by
 refine T.aG.F.o1 JW λcdv A M s H vs Q E hr h=>?_
 .obtain⟨p,c,l,rfl,hL,c1,m1,q⟩:=h;obtain⟨a0,b0,e0,c0⟩:=id hL;refine⟨_,(B0 (C6 (i:=2) JW.nd rfl (.inr rfl) (E7 A8))
   (@B0 _ _ _ _ _ (U2 PassesOwn.never rfl (SQ T.aM (A6 B4 A8)) (G5 (i:=3) JW.nd rfl (.inl rfl))
   (@B5 _ _ _ (I9 (Li K VG VH VI K7 (pv 2) (@A6 _ _ _ _ _ (@E9 _ _ _ _ _ _ _ _ Np (@E6 _ _ _ _ _ _ _ (K2 K) (@E7 _ _ _ _ (@A6 _ _ _ _ _ C1 (@A6 _ _ _ _ _ C1 (@A6 _ _ _ _ _ C1 (@A6 _ _ _ _ _ C1 (@A6 _ _ _ _ _ C1 (@A6 _ _ _ _ _ C1 A8 (by rfl)) (by rfl)) (by rfl)) (by rfl)) (by rfl)) (by rfl))) (E9 Ds (pv 3) B4) (λ_ _=>rfl)) (E9 Oe (E6 zCz C1 (E9 Ft (pv 3) B4) (λ_ _=>rfl)) (E9 Ft (pv 3) B4))) A8 (by rfl))))))
   (B5 (C0 (U7 (N':=["_law_k","_law_some","_law_left_here"]) (cap:=[none,some 2,some 0]) (cl:=[("_law_some",_),("_law_left_here",_)]) (N0 ⟨⟨rfl,rfl,rfl,rfl⟩,⟨⟨rfl,rfl,rfl,rfl⟩,trivial⟩⟩ ⟨rfl,⟨rfl,trivial⟩⟩) rfl (SQ T.aM (A6 (pv 1) A8)) (λ_ _ _ _=>by exact⟨(LV 0),P0,(Li K VG PySem.F.slot_list_pop PySem.F.type_list_pop Uu (pv 1) (A6 (E4 T.ai (D0 T) (Rm hr) (A6 (pv 2) (A6 (G9 (Q0 K) T.ar N9 (A6 (pv 1) A8)) A8))) A8))⟩)))))),?_⟩
  refine⟨BP _,λa I=>?_⟩;have u:p≠a:=A9 e0 I;refine C3 rfl ⟨by decide,by decide,?_⟩;refine U0 (λi σ g=>(∃O,σ = [some (.ref p),some (.int (l:Int)),some (.ref a),O])/\Cv H g/\g a=some (.lst ((LU.take i).map V.str))) ?_ ?_ ?_
  .exact⟨⟨_,rfl⟩,Cv.new I,A7⟩
  .rintro i σ g o ⟨⟨O,rfl⟩,r,k⟩ D1 R _;have o:i<30:=o;obtain⟨x,ch,y,n1,n2,n3,n4,n5⟩:=Zu o;rw[Int.zero_add];refine C3 rfl ⟨.inl ⟨rfl,_,IC.of k⟩,by show 6<=sizeLine;decide,λt ht=>?_⟩;have S:a≠t:=A9 k ht;refine C3 rfl (B9 rfl rfl ⟨(show(0:Int)<6 by decide),t,_,B9 rfl rfl ⟨IC.of A7,n1,C3 rfl (B9 rfl rfl ⟨⟨by decide,by decide⟩,_,B9 rfl rfl ⟨by decide,n2,C3 rfl (B9 rfl rfl ⟨⟨by decide,by decide⟩,_,_,i / 6,rfl,rfl,by lia,by lia,by show 1<=1000;decide,B9 rfl rfl ⟨by rw[sizeLine_eq];lia,?_⟩⟩)⟩⟩)⟩⟩);rw[n3];refine⟨a,B9 rfl rfl ⟨by rw[B7 S];exact k,?_,R _ _ ⟨⟨_,rfl⟩,?_,?_⟩⟩⟩
   .rw[AB,A_,sizeLine_eq];lia
   .exact(r.trans (Cv.new ht)).upd I
   .rw[A7,D8 n4,AL];rfl
  .rintro σ g ⟨⟨O,rfl⟩,r,k⟩;have k:g a=some (.lst (LU.map V.str)):=k;dsimp only[TD,SO,P5,zGw,SA,V4,Ip];refine C3 rfl (C3 rfl ⟨by lia,by lia,λD v=>?_⟩);have z:p≠D:=A9 (r _ _ e0) v;have m:a≠D:=A9 k v;have B:H D=none:=r.free v;rw[CL];refine Hq (n:=l) (λi σ g=>(∃U,σ = [U,some (.ref a),some (.ref p)])/\Sm [p] H g/\IJ g p (c+i)/\∃e j:A0 Str,g a=some (.lst (e.map V.str))/\g D=some (.lst (j.map V.str))/\(e++j).Perm LU/\j.length=i) ?_ ?_ ?_ ?_ ?_
   .exact⟨⟨_,rfl⟩,(r.trans (Cv.new v)).sm,(hL.cast (by lia)).same (r.trans (Cv.new v)),LU,[],by rw[B7 m];exact k,A7,by rw[CC],rfl⟩
   .intro i σ g o _;exact o
   .intro σ g _;exact VD _
   .rintro i σ g x H' N o ⟨⟨U,rfl⟩,W,X,e,j,k,Y,C,J⟩ ⟨rfl,rfl⟩ hN;have hlen:e.length=30-i:=by
     have:=C.length_eq;rw[AS,J]at this;have:e.length+i=30:=this;lia
    refine Ci ?_;refine C3 rfl ⟨.inl ⟨rfl,_,IC.of k⟩,C3 rfl (C3 rfl (B9 (a:=a) rfl (.inl (IC.of k)) (V7 (a:=p) (b:=c+i) rfl X (by lia) ?_ ?_ λd H2 hd Z L2=>?_)))⟩
    .rw[AB];lia
    .rw[AB];lia
    rw[AB]at hd;have G:d<e.length:=by lia
    have L:e[d]?=some e[d]:=AF G;have ea2:=MF Z k u.symm;have eb2:=MF Z Y z.symm;refine⟨a,_,_,d,.str e[d],rfl,rfl,ea2,by lia,by lia,six (by rw[AB];exact G),by rw[AH,L];rfl,_,by rw[B7 m.symm];exact eb2,?_,?_⟩
    .rw[AB,sizeLine_eq];lia
    refine hN _ _ ⟨⟨_,rfl⟩,?_,?_,e.eraseIdx d,j ++ [e[d]],?_,?_,Uc C L,by rw[AS,J];rfl⟩
    .exact((W.trans Z).updN I).updN B
    .exact((L2.cast (by lia)).upd u).upd z
    .rw[B7 m,A7,Hv]
    .rw[A7,AL];rfl
   .rintro σ g ⟨⟨U,rfl⟩,W,X,e,j,k,Y,C,J⟩;exact q D j g B W Y J (Wc C PQ.1 PQ.2 (by decide)) (λx L=>C.mem_iff.mp (BK _ L)) X
section
variable{ns:A0 Str}{ks:A0 (Str×Str)}{A B:A0 Nat}{m:Nat}{sk:Str->A0 Str}
theorem Wt(c:MB ns (ks.map λk=>(k.2,k.1)) A)(i j:Nat):(A.getD i 0).testBit j=true↔∃x y,ns[j]?=some x/\ns[i]?=some y/\(x,y)∈ks:=by
 rw[c.bit];constructor
 .rintro⟨k,d,a,b⟩;obtain⟨q,e,rfl⟩:=BJ.mp d;exact⟨q.1,q.2,b,a,e⟩
 .rintro⟨x,y,a,b,f⟩;exact⟨(y,x),BJ.mpr ⟨(x,y),f,rfl⟩,b,a⟩
theorem To(c:MB ns ks B)(i j:Nat):(B.getD i 0).testBit j=true↔∃x y,ns[i]?=some x/\ns[j]?=some y/\(x,y)∈ks:=by
 rw[c.bit];exact⟨λ⟨k,d,a,b⟩=>⟨k.1,k.2,a,b,d⟩,λ⟨x,y,a,b,e⟩=>⟨(x,y),e,a,b⟩⟩
theorem Mf(q:MB ns (ks.map λk=>(k.2,k.1)) A)(s:MB ns ks B)(t:Hg ns.length A B m)(f:∀n y,y∈sk n↔(y,n)∈ks)(c:∀k∈ks,k.1∈ns/\k.2∈ns){j:Nat}(h:m.testBit j=true):∃n,ns[j]?=some n/\GW sk n true:=by
 refine t.2.2 (λj=>∃n,ns[j]?=some n/\GW sk n true) (λr j u d=>?_) j h;obtain⟨i,d⟩:=d;refine⟨ns[j],AF i,GW.inn λy a=>?_⟩;have a:=(f _ _).mp a;obtain⟨b,v,e⟩:=EA.mp (c _ a).1;have l:ns[b]?=some y:=by rw[AF v,e]
 obtain⟨k,w,C⟩:=d b ((Wt q j b).mpr ⟨y,_,l,AF i,a⟩);obtain⟨z,D,g⟩:=u k w;obtain⟨x,F,o,p,E⟩:=(To s k b).mp C;rw[D]at o;cases o;rw[l]at p;cases p;exact GW.out ((f _ _).mpr E) g
theorem Ke(p:MB ns (ks.map λk=>(k.2,k.1)) A)(q:MB ns ks B)(r:Hg ns.length A B m)(f:∀n y,y∈sk n↔(y,n)∈ks)(c:∀k∈ks,k.1∈ns/\k.2∈ns){n:Str}{b:Bool}(g:GW sk n b):∀i,ns[i]?=some n->if b=true then m.testBit i=true else TC B m i:=by
 induction g with
 | inn h d =>
  rename_i n;intro i a;refine(r.2.1 i).mpr ⟨(AM.mp a).1,λb s=>?_⟩;obtain⟨x,y,t,j,u⟩:=(Wt p i b).mp s;rw[a]at j;cases j;exact d x ((f _ _).mpr u) b t
 | out h g d =>
  rename_i n y;intro i a;have l:=(f _ _).mp h;obtain⟨k,v,e⟩:=EA.mp (c _ l).1;have o:ns[k]?=some y:=by rw[AF v,e]
  exact⟨k,d k o,(To q k i).mpr ⟨y,n,o,a,l⟩⟩
theorem Tq(e:MB ns (ks.map λk=>(k.2,k.1)) A)(b:MB ns ks B)(f:Hg ns.length A B m)(c:∀n y,y∈sk n↔(y,n)∈ks)(a:∀k∈ks,k.1∈ns/\k.2∈ns){j:Nat}(h:TC B m j):∃n,ns[j]?=some n/\GW sk n false:=by
 obtain⟨k,i,l⟩:=h;obtain⟨z,o,g⟩:=Mf e b f c a i;obtain⟨x,y,d,p,q⟩:=(To b k j).mp l;rw[o]at d;cases d;exact⟨y,p,GW.out ((c _ _).mpr q) g⟩
theorem Sv(e:MB ns (ks.map λk=>(k.2,k.1)) A)(f:MB ns ks B)(l:Hg ns.length A B m)(o:∀n y,y∈sk n↔(y,n)∈ks)(a:∀k∈ks,k.1∈ns/\k.2∈ns){h i:Nat}(p:∀j,h.testBit j=true↔TC B m j){n:Str}(hi:ns[i]?=some n) :
  (if m.testBit i=true then G8 sk n=OK/\h.testBit i=false else if h.testBit i=true then G8 sk n=KU else G8 sk n=NY):=by
 by_cases c:m.testBit i=true
 .rw[AO c];obtain⟨z,b,g⟩:=Mf e f l o a c;rw[hi]at b;cases b;refine⟨NB.mpr g,ET.mpr λd=>?_⟩;obtain⟨z,b,q⟩:=Tq e f l o a ((p i).mp d);rw[hi]at b;cases b;exact g.ne q
 .rw[AI c];have r:¬GW sk n true:=λg=>c (Ke e f l o a g i hi);by_cases d:h.testBit i=true
  .rw[AO d];obtain⟨z,b,g⟩:=Tq e f l o a ((p i).mp d);rw[hi]at b;cases b;exact MK.mpr g
  .rw[AI d];have s:¬GW sk n false:=λg=>d ((p i).mpr (Ke e f l o a g i hi));unfold G8;rw[AI r,AI s]
end
structure JM(X:A0 A3)(H:Hp)(o:A3)(ss:A0 Str)(ps:A0 IL):Prop where
 ex:∃a b,H o=some (.lst [.ref a,.ref b])/\H a=some (.lst (ss.map V.str))/\H b=some (.lst (G0 ps))/\o∉X/\a∉X/\b∉X
 pin:∀q∈ps,G6 H q/\q.1∉X
 nm:X5 ss
 st:ME ss ps
def JM.sm{X:A0 A3}{H H':Hp}{o:A3}{ss:A0 Str}{ps:A0 IL}(h:JM X H o ss ps)(s:Sm X H H'):JM X H' o ss ps:=by
 obtain⟨⟨a,b,i,j,k,e,f,g⟩,c,l,m⟩:=h;exact⟨⟨a,b,s _ _ i e,s _ _ j f,s _ _ k g,e,f,g⟩,λq d=>⟨s _ _ (c q d).1 (c q d).2,(c q d).2⟩,l,m⟩
def JM.same{X:A0 A3}{H H':Hp}{o:A3}{ss:A0 Str}{ps:A0 IL}(h:JM X H o ss ps)(s:Cv H H'):JM X H' o ss ps:=h.sm s.sm
def Re(m k:Nat):Builtin.bitAnd ((m:Int) / 2 ^((k:Int).toNat)) 1=if m.testBit k=true then 1 else 0:=by
 have a:(m:Int) / 2 ^((k:Int).toNat) =((m / 2^k:Nat):Int):=by rw[CL,Int.natCast_ediv,Int.natCast_pow];rfl
 have b:Builtin.bitAnd ((m / 2^k:Nat):Int) 1 =((m / 2^k % 2:Nat):Int):=by
  rw[show(1:Int) =((1:Nat):Int)from rfl,zEv,Nat.and_one_is_mod]
 rw[a,b,Nat.testBit_eq_decide_div_mod_eq];rcases Nat.mod_two_eq_zero_or_one (m / 2^k)with h | h
 .rw[h];rfl
 .rw[h];rfl
def n6(m h k:Nat):Str:=if m.testBit k=true then "in" else if h.testBit k=true then "out" else "open"
def zAg{m h k:Nat}(n:¬(m.testBit k=true/\h.testBit k=true)):P6 [V.str "open",.str "in",.str "out"] (Builtin.bitAnd ((m:Int) / 2 ^((k:Int).toNat)) 1+2*Builtin.bitAnd ((h:Int) / 2 ^((k:Int).toNat)) 1)=some (.str (n6 m h k)):=by
 rw[Re,Re];unfold n6;by_cases b:m.testBit k=true
 .rw[AO b,AO b,AI λa=>n ⟨b,a⟩];rfl
 .rw[AI b,AI b];by_cases a:h.testBit k=true
  .rw[AO a,AO a];rfl
  .rw[AI a,AI a];rfl
def j9(ns:A0 Str)(ps:A0 IL):A0 (Str×Str):=ns.map λn=>(n,G8 (B2 ps) n)
theorem IV:HZ ["_law_own","_law_view","_law_mask","_law_hit_here","_law_rows","_law_k","_law_name"] ["_law_own"] (B6 LK):=KL
def We:Sp:=λe H Q _=>∃(X:A0 A3) (o:A3) (d:A0 Str) (ps:A0 IL),e = [.ref o]/\JM X H o d ps /\
 ∀l b (c:A0 IL) a,Cv H a->H l=none->b.Perm d->b.Pairwise OG->a l=some (.lst (G0 c))->(∀q∈c,G6 a q/\H q.1=none)->(c.map λq=>q.2)=j9 b ps->Q (.ref l) a
set_option maxHeartbeats 1000000 in
theorem S4(T:Tx K mg):II P w K mg base JP 4 T.ay.f T.ay.fd ["_law_own"] We:=by
 refine T.ay.F.o1 IV λcdv A outer s H vs Q E Y h=>?_
 .obtain⟨X,o,ss,ps,rfl,hO,q⟩:=h;have hu:=Q2 Y;refine⟨_,(B0 (C6 (i:=1) IV.nd rfl (.inl rfl) (E4 T.aZ (Hc T) (Rm Y) (A6 (E6 (K2 K) (pv 0) B4 (λ_ _=>rfl)) (A6 (E6 (K2 K) (pv 0) B4 (λ_ _=>rfl)) A8))))
   (B0 (C6 (i:=2) IV.nd rfl (.inl rfl) (E4 T.a0 (Hy T) (Rm Y) (A6 (pv 1) A8)))
   (B0 (C6 (i:=3) IV.nd rfl (.inl rfl) (E4 T.a5 (Do T) (Rm Y) (A6 (pv 1) (A6 (pv 2) A8))))
   (B0 (C6 (i:=4) IV.nd rfl (.inl rfl) (E7 A8))
   (B0 (U2 PassesOwn.never rfl (zFo K T.a6 (A6 (E6 (K2 K) (pv 1) B4 (λ_ _=>rfl)) A8)) (QV K (n:=2) (E5 (G5 (i:=5) IV.nd rfl (.inl rfl)) (E5 (G5 (i:=6) IV.nd rfl (.inl rfl)) R0)))
   (B5 (I9 (Li K VG VH VI K7 (pv 4) (A6 (J5 (A6 (pv 6) (A6 (E6 (K2 K) (E7 (A6 C1 (A6 C1 (A6 C1 A8)))) (E9 T9 (E9 Kg (E9 Qa (pv 2) (pv 5)) B4) (E9 c9 B4 (E9 Kg (E9 Qa (pv 3) (pv 5)) B4))) (λ_ _=>rfl)) A8))) A8)))))
   (B5 (C0 (pv 4)))))))),?_⟩
  obtain⟨⟨a,b,e1,e2,e3,n1,n2,n3⟩,pin,nm,st⟩:=id hO;refine B3 λN1 hN1=>?_;refine C3 rfl ⟨o,_,0,_,rfl,rfl,IC.of e1,rfl,C3 rfl ⟨o,_,1,_,rfl,rfl,IC.of e1,rfl,?_⟩⟩;refine⟨a,b,ss,ps,rfl,e2,nm,e3,λq p=>(pin q p).1,st,λv e A1 B1 H1 hv s1 pn srt hV=>?_⟩;have J:=hV o _ e1;have ln:e.length<=100:=by rw[pn.length_eq];exact nm.2.2
  refine hN1 _ _ (B3 λN2 hN2=>?_);refine C3 rfl ⟨o,v,e,_,A1,B1,rfl,J,ln,λm hm=>?_⟩;refine hN2 _ _ (B3 λN3 hN3=>?_);refine C3 rfl (C3 rfl ⟨o,v,m,e,_,A1,B1,rfl,J,ln,λh hh=>?_⟩);refine hN3 _ _ (B3 λN4 hN4=>?_);refine⟨BP _,λr j=>?_⟩;have Z:=Cv.new (o:=.lst []) j;have f2:(HX H1 r (.lst [])) r=some (.lst []):=A7;generalize HX H1 r (.lst [])=H2 at Z f2⊢;obtain⟨I,s2,t2,g1,g2,_⟩:=J.ex;refine hN4 _ _ (B3 λN5 hN5=>?_);refine C3 rfl ⟨v,_,0,_,rfl,rfl,IC.of (Z _ _ g1),rfl,I,e.map V.str,rfl,?_⟩;have nr:r≠I:=(A9 g2 j).symm;have C:=λ(i:Nat) (n:Str) (L:e[i]?=some n)=>Sv J.mA J.mB hm (sk:=B2 ps) (λn y=>IP) (λk M=>by
   obtain⟨q,p,rfl⟩:=BJ.mp M;exact⟨pn.mem_iff.mpr (st.nm q p).1,pn.mem_iff.mpr (st.nm q p).2⟩) hh L
  refine Kw (.inl (IC.of g2)) (Z.at I) λsq M=>Ut (n:=e.length) (λi σ l=>∃N O,σ = [some (.ref o),some (.ref v),some (.int (m:Int)),some (.int (h:Int)),some (.ref r),N,O]/\Cv H1 l/\∃D:A0 IL,l r=some (.lst (G0 D))/\(∀q∈D,G6 l q/\H q.1=none)/\(D.map λq=>q.2)=j9 (e.take i) ps) ⟨_,_,rfl,Z,[],f2,λq p=>absurd p AQ,rfl⟩ ?_ ?_ ?_ ?_
  .rintro i σ l L ⟨N,O,rfl,B,_⟩;exact⟨_,_,M _ (B.at I),by rw[AH,AF L];rfl⟩
  .rintro σ l ⟨N,O,rfl,B,_⟩;exact⟨_,M _ (B.at I),by rw[AB]⟩
  .rintro i σ l x H4 L ⟨N,O,rfl,B,D,L3,P3,R⟩ ⟨t,x,rfl,ht,rfl,hx⟩;have hx:=hx _ (M _ (B.at I));have G:e[i]?=some e[i]:=AF L;rw[AH,G]at hx;cases hx;refine⟨t,C3 rfl ⟨IZ.of A7,rfl,_,C3 rfl (B9 rfl rfl ?_)⟩⟩;have u4:=Cv.new (o:=.tup [.int (i:Int),.str e[i]]) ht;generalize HX l t (.tup [.int (i:Int),.str e[i]])=H4 at u4⊢;have s4:=B.trans u4;have L4:=u4 _ _ L3;have lr:=congrArg List.length R;unfold j9 at lr;rw[AB,AB,A_]at lr;refine C3 rfl ⟨.inl ⟨rfl,_,IC.of L4⟩,?_⟩;have i0:(0:Int)<=(i:Int):=Int.natCast_nonneg i;have g:=C i _ G;have nq:¬(m.testBit i=true/\h.testBit i=true):=λz=>by
    rw[AO z.1]at g;rw[z.2]at g;cases g.2
   have eg:n6 m h i=G8 (B2 ps) e[i]:=by
    unfold n6;by_cases c:m.testBit i=true
    .rw[AO c]at g⊢;exact g.1.symm
    .rw[AI c]at g⊢;by_cases d:h.testBit i=true
     .rw[AO d]at g⊢;exact g.symm
     .rw[AI d]at g⊢;exact g.symm
   refine C3 rfl ⟨by show 3<=sizeLine;decide,λu hu=>?_⟩;have u5:=Cv.new (o:=.lst [.str "open",.str "in",.str "out"]) hu;have e6:(HX H4 u (.lst [.str "open",.str "in",.str "out"])) u=some (.lst [.str "open",.str "in",.str "out"]):=A7;generalize HX H4 u (.lst [.str "open",.str "in",.str "out"])=H5 at u5 e6⊢;refine C3 rfl (C3 rfl (B9 rfl rfl ⟨i0,B9 rfl rfl (C3 rfl (C3 rfl (B9 rfl rfl ⟨i0,B9 rfl rfl (B9 rfl rfl ⟨.inl ⟨by decide,by decide⟩,B9 rfl rfl ⟨u,_,B9 rfl rfl ⟨IC.of e6,zAg nq,?_⟩⟩⟩)⟩)))⟩));refine⟨by show 2<=sizeLine;decide,λS U=>?_⟩;have u6:=Cv.new (o:=.tup [.str e[i],.str (n6 m h i)]) U;have f6:(HX H5 S (.tup [.str e[i],.str (n6 m h i)])) S=some (.tup [.str e[i],.str (n6 m h i)]):=A7;generalize HX H5 S (.tup [.str e[i],.str (n6 m h i)])=H6 at u6 f6⊢;have s6:=(s4.trans u5).trans u6;have W:=(u4.trans u5).trans u6;have L6:=W _ _ L3;have tr:S≠r:=J7 f6 L6 (by intro z;cases z);refine⟨r,_,_,rfl,rfl,L6,by unfold G0;rw[AB,sizeLine_eq];lia,_,_,rfl,s6.upd j,D ++ [(S,e[i],n6 m h i)],?_,λq p=>?_,?_⟩
   .rw[A7];unfold G0;rw[AL];rfl
   .rcases AJ.mp p with c | c
    .have:=W _ _ (P3 q c).1;exact⟨(B7 (J7 this L6 (by intro z;cases z))).trans this,(P3 q c).2⟩
    .rw[AC.mp c];exact⟨(B7 tr).trans f6,(s1.trans (s4.trans u5)).free U⟩
   .rw[D8 G,AL,R,eg];unfold j9;rw[AL];rfl
  .rintro σ l ⟨N,O,rfl,B,D,L3,P3,R⟩;rw[BN]at R;exact hN5 _ _ (C3 rfl (q r e D l (s1.trans B) (s1.free j) pn srt L3 P3 R))
def Ui{K:VA}{a D:A3}{us:A0 IL}{ss:A0 Str}{r:St}{f:Str->A5 Str}{g:Str->Str}{L:TT}{M:TE}{H:Hp}{Q:St->Hp->Prop}(e:H a=some (.lst (G0 us)))(B:∀q∈us,G6 H q)(O:(us.map λq=>q.2)=ss.map λn=>(n,g n))(len:ss.length<=1000)(P:H D=none)
  (C:∀y∈ss,∀j,Cv H j->∀m:Bool->Hp->Prop,m (Ty f g y) j->L (some (.str y)::some (.str (g y))::r) j m)
  (he:∀y∈ss,∀j,Cv H j->∀m:VK,(∀t,j t=none->m (.ref t) (HX j t (.tup [.str y,oV (f y),.str (g y)])))->M (some (.str y)::some (.str (g y))::r) j m)
  (h:∀σ E b,Cv H E->R3 E D b->(b.map λq=>q.2)=Cr f g ss->Q σ E) (s w:A5 V) :
  Au (zEi K 2 (Ms (P5 0) (Ms (P5 1) zEt))) L (Y6 D M) (P7 K a) (s::w::r) (HX H D (.lst [])) Q:=by
 have lu:us.length=ss.length:=by
  have:=congrArg List.length O
  rwa [AB,AB]at this
 refine O9 (O_ (K:=K) (IC.of e)) (λi σ d=>(∃s w,σ=s::w::r)/\Cv H d/\∃b,R3 d D b/\(b.map λq=>q.2)=Cr f g (ss.take i))
  ⟨⟨_,_,rfl⟩,Cv.new P,[],⟨A7,λq x=>absurd x AQ⟩,rfl⟩ (λi σ j _ ⟨_,s1,_⟩=>s1.at a) ?_ ?_
 .rintro i σ d v N F ⟨⟨s,w,rfl⟩,k,b,A,l⟩ R;unfold G0 at F;rw[AH]at F;obtain⟨u,S,rfl⟩:=BH.mp F;have T:(us.map λq=>q.2)[i]?=some u.2:=by rw[AH,S];rfl
  rw[O,AH]at T;obtain⟨y,U,ey⟩:=BH.mp T;have X:=BB U;have G:=k _ _ (B u (BB S));have G:d u.1=some (.tup [.str y,.str (g y)]):=by
   rw[G,<-ey]
  refine⟨u.1,C3 rfl ⟨IZ.of G,rfl,_,C3 rfl (B9 rfl rfl ?_)⟩⟩;have Y:Cr f g (ss.take (i+1))=Cr f g (ss.take i)++if Ty f g y=true then [(y,f y,g y)]else []:=by
   unfold Cr;rw[D8 U,CT,BR,D_,AL];by_cases c:Ty f g y=true
   .rw[AO c,AO c];rfl
   .rw[AI c,AI c];rfl
  have hl:b.length<=1000:=by
   have Z:=congrArg List.length l;unfold Cr at Z;have:=BC (Ty f g) (ss.take i);rw[AB,AB]at Z;rw[A_]at this;lia
  refine C y X d k _ (Y7 (λc=>he y X d k _ λt C=>?_) (λc=>R _ _ ⟨⟨_,_,rfl⟩,k,b,A,by rw[Y,AI c,CC];exact l⟩));have I:=Cv.new (o:=.tup [.str y,oV (f y),.str (g y)]) C;have J:(HX d t (.tup [.str y,oV (f y),.str (g y)])) t=some (.tup [.str y,oV (f y),.str (g y)]):=A7;generalize HX d t (.tup [.str y,oV (f y),.str (g y)])=H4 at I J⊢;have p:=A.same I;refine⟨_,p.1,by rw[AB,sizeLine_eq];lia,R _ _ ⟨⟨_,_,rfl⟩,(k.trans I).upd P,b ++ [(t,y,f y,g y)],⟨?_,λq x=>?_⟩,?_⟩⟩
  .rw[A7,AL];rfl
  .have nt:q.1≠D:=by
    rcases AJ.mp x with c | c
    .exact J7 (p.2 q c) p.1 (by intro z;cases z)
    .rw[AC.mp c];exact J7 J p.1 (by intro z;cases z)
   rw[B7 nt];rcases AJ.mp x with c | c
   .exact p.2 q c
   .rw[AC.mp c];exact J
  .rw[AL,l,Y,AO c];rfl
 .rintro σ d ⟨_,k,b,A,l⟩;unfold G0 at l;rw[AB,lu,BN]at l;exact h σ d b k A l
theorem LD:HZ ["_law_old","_law_new","_law_ahead"] ["_law_old","_law_new"] (B6 LM):=KL
def Sf:Sp:=λj H Q _=>∃(a b:A3) (g c:A0 IL) (f d:A0 Str) (ps e:A0 IL),j = [.ref a,.ref b]/\H a=some (.lst (G0 g))/\(∀q∈g,G6 H q)/\(g.map λq=>q.2)=j9 f ps/\f.Nodup/\f.length<=100/\H b=some (.lst (G0 c))/\(∀q∈c,G6 H q)/\(c.map λq=>q.2)=j9 d e/\d.length<=100 /\
 ∀l i h,Cv H h->H l=none->R3 h l i->(i.map λq=>q.2)=Cr (WG f ps) (G8 (B2 e)) d->Q (.ref l) h
set_option maxHeartbeats 1000000 in
theorem Ap(T:Tx K mg):II P w K mg base JP 1 T.aK.f T.aK.fd ["_law_old","_law_new"] Sf:=by
 refine T.aK.F.o1 LD λS A B s H vs Q E U h=>?_
 .obtain⟨a,b,p,W,e,X,ps,C,rfl,Y,Z,J,nd,ln,L,pb,qb,lb,q⟩:=h;have M:=Q2 U;refine⟨_,(B0 (C6 (i:=2) LD.nd rfl (.inr rfl) (X3 Uf T.bm Jt (A6 (pv 0) A8)))
   (B5 (C0 (U7 (N':=["_law_name","_law_word","_law_ahead"]) (cap:=[none,none,some 2]) (cl:=[("_law_ahead",_)]) (N0 ⟨⟨rfl,rfl,rfl,rfl⟩,trivial⟩ ⟨rfl,trivial⟩) rfl (MT K (pv 1)) (λ_ _ _ _=>by exact⟨(QV K (n:=2) (E5 (LV 0) (E5 (LV 1) R0))),(K5 (B8 Co (Y2 M (pv 2) (pv 0) ⟨rfl,rfl,rfl,rfl⟩) (pv 1) (C5 _))),(J5 (A6 (pv 0) (A6 (Y2 M (pv 2) (pv 0) ⟨rfl,rfl,rfl,rfl⟩) (A6 (pv 1) A8))))⟩))))),?_⟩
  refine B3 λN1 G=>?_;have lu:p.length<=1000:=by
   have:=congrArg List.length J;unfold j9 at this;rw[AB,AB]at this;lia
  refine C3 rfl ⟨a,p.map λq=>(q.1,(Sum.inr q.2.1:IM),V.str q.2.2),rfl,by rw[Y,BW];rfl,λq hq=>?_,by rw[AB];exact lu,λd hd=>?_⟩
  .obtain⟨z,hz,rfl⟩:=BJ.mp hq;exact Z z hz
  have ek:X0 [] ((p.map λq=>(q.1,(Sum.inr q.2.1:IM),V.str q.2.2)).map λq=>q.2)=X0 [] (e.map λn=>((Sum.inr n:IM),V.str (G8 (B2 ps) n))):=by
   have:((p.map λq=>(q.1,(Sum.inr q.2.1:IM),V.str q.2.2)).map λq=>q.2) =(p.map λq=>q.2).map λz=>((Sum.inr z.1:IM),V.str z.2):=by
    rw[BW,BW];rfl
   rw[this,J];unfold j9;rw[BW];rfl
  rw[ek];have N:WD (X0 [] (e.map λn=>((Sum.inr n:IM),V.str (G8 (B2 ps) n)))) (WG e ps):=λn =>
   (WD.mrgG (l:=e) (kvs:=[]) (f:=λ_=>none) (g:=G8 (B2 ps)) (λn=>rfl) n).trans rfl
  generalize X0 [] (e.map λn=>((Sum.inr n:IM),V.str (G8 (B2 ps) n)))=kvs at N⊢;have m:=Cv.new (o:=.dK kvs) hd;have O:(HX H d (.dK kvs)) d=some (.dK kvs):=A7;generalize HX H d (.dK kvs)=H1 at m O⊢;refine G _ _ (C3 rfl ⟨b,rfl,⟨_,IC.of (m _ _ L)⟩,λD R=>?_⟩);have r:∀(y:Str) (v:A5 V) (c:Hp) (u:VK),Cv H1 c->u (oV (WG e ps y)) c->Kf (X8 2) (X8 0) [some (.str y),v,some (.ref d)] c u:=λy v c u j q'=>by
   have x:=j _ _ O;refine C3 rfl ⟨d,rfl,.inl ⟨_,.inl x⟩,C3 rfl ⟨_,LC.k (k:=.inr y) x,?_⟩⟩;rw[N y];exact q'
  refine Ui (f:=WG e ps) (g:=G8 (B2 C)) (m _ _ L) (J2 m pb) qb (by lia) R (λy hy c j u I=>?_) (λy hy c j u I=>?_) (λσ c rs j L2 x=>q D rs c (m.trans j) (m.free R) L2 x) _ _
  .unfold t4 ON;refine r y _ c _ j (C3 rfl ?_);refine⟨(Vl _ _).1,_,rfl,?_⟩;rw[(Vl _ _).2];exact I
  .exact C3 rfl (r y _ c _ j (C3 rfl ⟨by show 3<=sizeLine;rw[sizeLine_eq];lia,λt ht=>I t ht⟩))
def IJ.ne{H:Hp}{p n:A3}{c:Int}{ss:A0 Str}(h:IJ H p c)(d:H n=some (.lst (ss.map V.str))):n≠p:=by
 rintro rfl;obtain⟨a,b,e,_⟩:=h;rw[d]at e;cases ss with
 | nil=>cases e
 | cons x r=>cases e
def IJ.neP{H:Hp}{p n:A3}{c:Int}{ss:A0 IL}(h:IJ H p c)(d:H n=some (.lst (G0 ss))):n≠p:=by
 rintro rfl;obtain⟨a,b,e,_⟩:=h;rw[d]at e;cases ss with
 | nil=>cases e
 | cons x r=>cases e
def zDw(d:Nat)(h:d<8):∃n:Nat,n<4/\P6 [V.int 0,.int 0,.int 1,.int 1,.int 1,.int 2,.int 2,.int 3] (d:Int)=some (.int (n:Int)):=by
 suffices ∃n:Nat,n<4/\[V.int 0,.int 0,.int 1,.int 1,.int 1,.int 2,.int 2,.int 3][d]?=some (.int (n:Int)) by
  obtain⟨n,a,e⟩:=this;exact⟨n,a,Q5 e⟩
 match d,h with
 | 0,_=>exact⟨0,by lia,rfl⟩
 | 1,_=>exact⟨0,by lia,rfl⟩
 | 2,_=>exact⟨1,by lia,rfl⟩
 | 3,_=>exact⟨1,by lia,rfl⟩
 | 4,_=>exact⟨1,by lia,rfl⟩
 | 5,_=>exact⟨2,by lia,rfl⟩
 | 6,_=>exact⟨2,by lia,rfl⟩
 | 7,_=>exact⟨3,by lia,rfl⟩
def Ud{a b c d:Nat}(e:a<9)(f:b<7)(g:c<4)(i:d<4)(j:Nat)(h:j<4):∃n:Nat,n<=28/\P6 [V.int (20 +(a:Int)),.int (8 +(b:Int)),.int (4 +(c:Int)),.int (d:Int)] (j:Int)=some (.int (n:Int)):=by
 match j,h with
 | 0,_=>exact⟨20+a,by lia,Q5 (j:=0) (by rw[Int.natCast_add];rfl)⟩
 | 1,_=>exact⟨8+b,by lia,Q5 (j:=1) (by rw[Int.natCast_add];rfl)⟩
 | 2,_=>exact⟨4+c,by lia,Q5 (j:=2) (by rw[Int.natCast_add];rfl)⟩
 | 3,_=>exact⟨d,by lia,Q5 (j:=3) rfl⟩
def RG:("more":Str)∉LU:=by decide +kernel
theorem IW:HZ ["_law_left_here","_law_way","_law_size","_law_names","_law_strikes","_law_turn","_law_pair"] ["_law_left_here"] (B6 LL):=KL
def Rh:Sp:=λd H Q _=>∃(p:A3) (c:Int),d = [.ref p]/\IJ H p c/\c<=1000 /\
 ∀o a ps b,H o=none->Sm [p] H b->JM [p] b o a ps->a.length<=28->ps.length<=56->("more":Str)∉a->Q (.ref o) b
set_option maxHeartbeats 1000000 in
theorem Am(T:Tx K mg):II P w K mg base JP 4 T.aJ.f T.aJ.fd ["_law_left_here"] Rh:=by
 refine T.aJ.F.o1 IW λcdv A outer s H vs Q E l h=>?_
 .obtain⟨p,c,rfl,hL,c1,q⟩:=h;have hu:=Q2 l;refine⟨_,(B0 (C6 (i:=1) IW.nd rfl (.inl rfl) (E4 T.ai (D0 T) (Rm l) (A6 (pv 0) (A6 B4 A8))))
   (B0 (C6 (i:=2) IW.nd rfl (.inl rfl) (E7 (A6 (E9 T9 B4 (E4 T.ai (D0 T) (Rm l) (A6 (pv 0) (A6 B4 A8)))) (A6 (E9 T9 B4 (E4 T.ai (D0 T) (Rm l) (A6 (pv 0) (A6 B4 A8)))) (A6 (E9 T9 B4 (E4 T.ai (D0 T) (Rm l) (A6 (pv 0) (A6 B4 A8)))) (A6 (E4 T.ai (D0 T) (Rm l) (A6 (pv 0) (A6 B4 A8))) A8))))))
   (@B0 _ _ _ _ _ (@C6 _ _ 3 _ _ _ _ IW.nd rfl (.inl rfl) (E4 T.aG (y8 T) (Rm l) (@A6 _ _ _ _ _ (pv 0) (@A6 _ _ _ _ _ (@E6 _ _ _ _ _ _ _ (K2 K) (pv 2) (@E6 _ _ _ _ _ _ _ (K2 K) (@E7 _ _ _ _ (@A6 _ _ _ _ _ B4 (@A6 _ _ _ _ _ B4 (@A6 _ _ _ _ _ B4 (@A6 _ _ _ _ _ B4 (@A6 _ _ _ _ _ B4 (@A6 _ _ _ _ _ B4 (@A6 _ _ _ _ _ B4 (@A6 _ _ _ _ _ B4 A8 (by rfl)) (by rfl)) (by rfl)) (by rfl)) (by rfl)) (by rfl)) (by rfl)) (by rfl))) (pv 1) (λ_ _=>rfl)) (λ_ _=>rfl)) A8 (by rfl)) (by rfl))) (by rfl) (by first | exact .inl rfl | exact .inr rfl | assumption))
   (B0 (C6 (i:=4) IW.nd rfl (.inl rfl) (E7 A8))
   (B0 (U2 PassesOwn.never rfl (SQ T.aM (A6 (E4 T.ai (D0 T) (Rm l) (A6 (pv 0) (A6 (E9 T9 (E9 c9 B4 (G9 (Q0 K) T.ar N9 (A6 (pv 3) A8))) B4) A8))) A8)) (G5 (i:=5) IW.nd rfl (.inl rfl))
   (B0 (C6 (i:=6) IW.nd rfl (.inl rfl) (J5 (A6 (E6 (K2 K) (pv 3) (E4 T.ai (D0 T) (Rm l) (A6 (pv 0) (A6 (G9 (Q0 K) T.ar N9 (A6 (pv 3) A8)) A8))) (λ_ _=>rfl)) (A6 (E6 (K2 K) (pv 3) (E4 T.ai (D0 T) (Rm l) (A6 (pv 0) (A6 (G9 (Q0 K) T.ar N9 (A6 (pv 3) A8)) A8))) (λ_ _=>rfl)) A8))))
   (B5 (K0 (B8 (Lj K l.units) (pv 6) (pv 4) rfl) (B5 (I9 (Li K VG VH VI K7 (pv 4) (A6 (pv 6) A8)))) D9))))
   (B5 (C0 (E7 (A6 (pv 3) (A6 (pv 4) A8)))))))))),?_⟩
  refine B3 λN1 hN1=>?_;obtain⟨a0,b0,e0,c0⟩:=id hL;refine C3 rfl (V7 (a:=p) (b:=c) rfl hL (by lia) (by decide) (by decide) λO R hw k1 L1=>?_);refine hN1 _ _ (B3 λN2 hN2=>?_);refine C3 rfl (V7 (a:=p) rfl L1 (by lia) (by decide) (by decide) λS H2 B k2 L2=>B9 rfl rfl ?_);refine C3 rfl (V7 (a:=p) rfl L2 (by lia) (by decide) (by decide) λU H3 h2 k3 L3=>B9 rfl rfl ?_);refine C3 rfl (V7 (a:=p) rfl L3 (by lia) (by decide) (by decide) λW H4 h3 k4 L4=>B9 rfl rfl ?_);refine C3 rfl (V7 (a:=p) rfl L4 (by lia) (by decide) (by decide) λX H5 h4 k5 L5=>?_);have k15:=(((k1.trans k2).trans k3).trans k4).trans k5;refine⟨by show 4<=sizeLine;decide,λz hz=>?_⟩;have u6:=Cv.new (o:=.lst [V.int (20 +(S:Int)),.int (8 +(U:Int)),.int (4 +(W:Int)),.int (X:Int)]) hz;have Y:(HX H5 z (.lst [V.int (20 +(S:Int)),.int (8 +(U:Int)),.int (4 +(W:Int)),.int (X:Int)])) z=some (.lst [V.int (20 +(S:Int)),.int (8 +(U:Int)),.int (4 +(W:Int)),.int (X:Int)]):=A7;have L6:=L5.same u6;have k6:=k15.trans u6.sm;refine hN2 _ _ ?_;generalize HX H5 z (.lst [V.int (20 +(S:Int)),.int (8 +(U:Int)),.int (4 +(W:Int)),.int (X:Int)])=H6 at Y L6 k6⊢;refine B3 λN3 hN3=>?_;refine C3 rfl (C3 rfl ⟨by show 8<=sizeLine;decide,λz2 hz2=>?_⟩);obtain⟨j,hj,ej⟩:=zDw O (by lia);obtain⟨n,hn,en⟩:=Ud (by lia:S<9) (by lia:U<7) (by lia:W<4) (by lia:X<4) j hj;have u7:=Cv.new (o:=.lst [V.int 0,.int 0,.int 1,.int 1,.int 1,.int 2,.int 2,.int 3]) hz2;have f7:(HX H6 z2 (.lst [V.int 0,.int 0,.int 1,.int 1,.int 1,.int 2,.int 2,.int 3])) z2=some (.lst [V.int 0,.int 0,.int 1,.int 1,.int 1,.int 2,.int 2,.int 3]):=A7;have Y:=u7 _ _ Y;have L7:=L6.same u7;have k7:=k6.trans u7.sm;generalize HX H6 z2 (.lst [V.int 0,.int 0,.int 1,.int 1,.int 1,.int 2,.int 2,.int 3])=H7 at Y f7 L7 k7⊢;refine C3 rfl ⟨z2,_,_,_,rfl,rfl,IC.of f7,ej,z,_,_,_,rfl,rfl,IC.of Y,en,?_⟩;refine⟨p,_,n,rfl,L7,by lia,by lia,λa d H8 ha k8 e8 len8 Z in8 L8=>?_⟩;have k08:=k7.trans k8;have k7:Sm [p] H H7:=k7;refine hN3 _ _ (B3 λN4 hN4=>?_);refine⟨BP _,λf hf=>?_⟩;have u9:=Cv.new (o:=.lst []) hf;have f9:(HX H8 f (.lst [])) f=some (.lst []):=A7;have L9:=L8.same u9;have e9:=u9 _ _ e8;have k9:=k08.trans u9.sm;have g:p≠f:=A9 L8.get hf;generalize HX H8 f (.lst [])=H9 at f9 L9 e9 k9⊢;refine hN4 _ _ (B3 λN5 hN5=>?_);refine C3 rfl (C3 rfl ⟨a,_,rfl,.inl (IC.of e9),B9 rfl rfl ⟨.inl ⟨by decide,by decide⟩,B9 rfl rfl ?_⟩⟩);rw[AB];refine V7 (a:=p) rfl L9 (by lia) (by lia) (by lia) λD H10 ht10 G L10=>?_;refine⟨(D:Int),rfl,by lia,by lia,?_⟩;rw[CL];have k010:=k9.trans G;have ap:a≠p:=L9.ne e9;have e10:=MF G e9 ap;have f10:=MF G f9 g.symm;have nm:∀x∈d,PySem.PyData.strOk x=true:=λx hx=>O7 (Z.1 x hx);refine U0 (λi σ R=>∃v5 v6 ps,σ = [some (.ref p),some (.int (O:Int)),some (.ref z),some (.ref a),some (.ref f),v5,v6]/\Sm [p] H R/\IJ R p (c+1+1+1+1+1+n+1+2*i)/\R a=some (.lst (d.map V.str))/\FL R f ps d/\ps.length<=i) ?_ ?_ ?_
  .exact⟨_,_,[],rfl,k010,by simpa using L10,e10,⟨f10,λq M=>absurd M AQ,λq M=>absurd M AQ,DC⟩,VD _⟩
  .rintro i σ G1 hi ⟨v5,v6,ps,rfl,g1,M1,ea,I,lp⟩ D1 hD1 _;rw[Int.zero_add];have pos:0<d.length:=by lia
   refine C3 rfl (C3 rfl (C3 rfl ⟨a,_,rfl,.inl (IC.of ea),?_⟩));rw[AB];refine V7 (a:=p) rfl M1 (by lia) (by lia) (by lia) λm G2 hx1 g2 M2=>?_;have J:=MF g2 ea ap;have F2:=I.sm M1 g.symm g2;have hn1:d[m]?=some d[m]:=AF (by lia);refine⟨a,_,_,_,rfl,rfl,IC.of J,Q5 (j:=m) (by rw[AH,hn1];rfl),?_⟩;refine C3 rfl (C3 rfl (C3 rfl ⟨a,_,rfl,.inl (IC.of J),?_⟩));rw[AB];refine V7 (a:=p) rfl M2 (by lia) (by lia) (by lia) λu G3 hx2 g3 M3=>?_;have ea3:=MF g3 J ap;have F3:=F2.sm M2 g.symm g3;have hn2:d[u]?=some d[u]:=AF (by lia);refine⟨a,_,_,_,rfl,rfl,IC.of ea3,Q5 (j:=u) (by rw[AH,hn2];rfl),?_⟩;refine⟨by show 2<=sizeLine;decide,λt ht=>?_⟩;have hm1:d[m]∈d:=DL _;have hm2:d[u]∈d:=DL _;have u4:=Cv.new (o:=.tup [.str d[m],.str d[u]]) ht;have f4:(HX G3 t (.tup [.str d[m],.str d[u]])) t=some (.tup [.str d[m],.str d[u]]):=A7;have v:=F3.new (o:=.tup [.str d[m],.str d[u]]) ht;have M4:=M3.same u4;have C:=u4 _ _ ea3;have L:=((g1.trans g2).trans g3).trans u4.sm;generalize HX G3 t (.tup [.str d[m],.str d[u]])=G4 at u4 f4 v M4 C L⊢;refine C3 rfl (C3 rfl (Dm (k:=(d[m],d[u])) f4 v.at_ v.pin ⟨nm _ hm1,nm _ hm2⟩ (λq M=>⟨nm _ (v.nm q M).1,nm _ (v.nm q M).2⟩) ⟨_,rfl,?_⟩));have eM:c+1+1+1+1+1+n+1+2 *(i:Int)+1+1=c+1+1+1+1+1+n+1+2 *((i+1:Nat):Int):=by lia
   rw[eM]at M4;refine Y7 (λh3=>?_) (λh3=>hD1 _ _ ⟨_,_,ps,rfl,L,M4,C,v,by lia⟩);have h3':(d[m],d[u])∉ps.map λq=>q.2:=by simpa using h3
   refine C3 rfl ⟨.inl ⟨rfl,_,IC.of v.at_⟩,C3 rfl ⟨f,_,_,rfl,rfl,v.at_,by unfold G0;rw[AB,sizeLine_eq];lia,?_⟩⟩;have af:a≠f:=λe=>by
    have B:=v.at_;rw[<-e,C]at B;cases d with
    | nil=>exact absurd pos (by simp)
    | cons y r =>
     injection B with B;injection B with B;unfold G0 at B;cases ps with
     | nil=>cases B
     | cons y r=>cases B
   exact hD1 _ _ ⟨_,_,_,rfl,L.updN (by
    cases e:H f with
    | none=>rfl
    | some o=>exact absurd (k08 _ _ e (by simpa using g.symm)) (by rw[hf];intro z;cases z)),M4.upd g,(B7 af).trans C,v.app f4 hm1 hm2 h3',by rw[AS];exact FN lp⟩
  .rintro σ G1 ⟨v5,v6,ps,rfl,g1,M1,ea,I,lp⟩;refine hN5 _ _ (C3 rfl (C3 rfl ⟨by show 2<=sizeLine;decide,λo N=>?_⟩));have u2:=Cv.new (o:=.lst [.ref a,.ref f]) N;have ho0:H o=none:=by
    cases e:H o with
    | none=>rfl
    | some x =>
     have hop:o≠p:=λz=>by
      rw[z,M1.get]at N;cases N
     exact absurd (g1 _ _ e (by simpa using hop)) (by rw[N];intro z;cases z)
   have nop:o≠p:=λz=>by rw[z,M1.get]at N;cases N
   refine q o d ps _ ho0 (g1.trans u2.sm) ⟨⟨a,f,A7,u2 _ _ ea,u2 _ _ I.at_,by simpa using nop,by simpa using ap,by simpa using g.symm⟩,λz hz=>⟨u2 _ _ (I.pin z hz),?_⟩,Z,⟨I.nm,I.nd,by lia⟩⟩ (by lia) (by lia) (λz=>RG (in8 _ z));obtain⟨xa,xb,em,_⟩:=id M1;have:=J7 (I.pin z hz) em (by intro z;cases z);simpa using this
def JM.smp{X:A0 A3}{H H':Hp}{o p:A3}{ss:A0 Str}{ps:A0 IL}(h:JM X H o ss ps)(a:p∈X)(s:Sm [p] H H'):JM X H' o ss ps:=h.sm λb x e c=>s b x e λz=>c (by rw[AC.mp z];exact a)
def Sj:∀a:A0 PyData,PyData.eqv (.list a) (.list [])=a.isEmpty
 | []=>by rw[PyData.eqv,PyData.eqvAll];rfl
 | _::_=>by rw[PyData.eqv,PyData.eqvAll];rfl
def Er:∀{ss:A0 Str},(∀x∈ss,PySem.PyData.strOk x=true)->PyData.canLayAll0 (ss.map PyData.str)=true
 | [],_=>rfl
 | x::r,h=>by
  rw[BM,PyData.canLayAll0,PyData.canLay0,h x (AZ ..),Er λy a=>h y (AN _ a)];rfl
def Ay{K:VA}{H:Hp}:∀ss:A0 Str,PF K H (ss.map PyData.str) (ss.map V.str)
 | []=>by rw[HI,HI,PF]
 | x::r=>by
  rw[BM,BM,PF];exact⟨_,_,rfl,by rw[Rp],Ay r⟩
def y3:∀ss:A0 Str,PyData.depthAll (ss.map PyData.str)<=1
 | []=>by rw[HI,PyData.depthAll];lia
 | x::r=>by
  rw[BM,PyData.depthAll,PyData.depth];have:=y3 r;lia
def Lx{K:VA}{H:Hp}{a z:A3}{ss:A0 Str}{Q:VK}(b:H a=some (.lst (ss.map V.str)))(c:∀x∈ss,PySem.PyData.strOk x=true)(hz:H z=some (.lst []))(q:Q (.bl ss.isEmpty) H):SW K (.ref a) (.ref z) H Q :=
 ⟨.list (ss.map PyData.str),.list [],by rw[Rp];exact⟨a,_,rfl,IC.of b,Ay ss⟩,by rw[Rp];exact⟨z,_,rfl,IC.of hz,by rw[PF]⟩,⟨by rw[PyData.canLay0];exact Er c,by rw[PyData.depth];have:=y3 ss;lia⟩,⟨rfl,by simp[PyData.depth,PyData.depthAll]⟩,by
  rw[Sj];have:(ss.map PyData.str).isEmpty=ss.isEmpty:=by cases ss<;>rfl
  rw[this];exact q⟩
def zCd(d:Nat)(h:d<4):∃y:Str,PySem.PyData.strOk y=true/\P6 [V.str "nobody",.str "",.str "A",.str "zq"] (d:Int)=some (.str y):=by
 match d,h with
 | 0,_=>exact⟨"nobody",by decide +kernel,rfl⟩
 | 1,_=>exact⟨"",by decide +kernel,rfl⟩
 | 2,_=>exact⟨"A",by decide +kernel,rfl⟩
 | 3,_=>exact⟨"zq",by decide +kernel,rfl⟩
theorem Fw:HZ ["_law_left_here","_law_own"] ["_law_left_here","_law_own"] (B6 ND):=KL
def Bp:Sp:=λd H Q _=>∃(X:A0 A3) (p o:A3) (c:Int) (e:A0 Str) (ps:A0 IL),d = [.ref p,.ref o]/\IJ H p c/\c<=1000/\p∈X/\JM X H o e ps /\
 ∀(y:Str) (b:Int) a,PySem.PyData.strOk y=true->b<=c+2->Sm [p] H a->IJ a p b->Q (.str y) a
theorem Q1(T:Tx K mg):II P w K mg base JP 3 T.ax.f T.ax.fd ["_law_left_here","_law_own"] Bp:=by
 refine T.ax.F.o1 Fw λcdv A G s H vs Q E m h=>?_
 .obtain⟨X,p,o,c,I,ps,rfl,hL,c1,J,W,q⟩:=h;have hu:=Q2 m;refine⟨_,(B0 (K0 (PW.pt (Ar (B8 (Nn K m.units) (E6 (K2 K) (pv 1) B4 (λ_ _=>rfl)) (E7 A8) (C5 _)) (X2 (B8 V2 (E4 T.ai (D0 T) (Rm m) (A6 (pv 0) (A6 B4 A8))) B4 (C5 _))))) (B5 (C0 (E6 (K2 K) (E7 (A6 C1 (A6 C1 (A6 C1 (A6 C1 A8))))) (E4 T.ai (D0 T) (Rm m) (A6 (pv 0) (A6 B4 A8))) (λ_ _=>rfl)))) D9)
   (B5 (C0 (E6 (K2 K) (G9 (Kz K) T.aC R8 (A6 (E6 (K2 K) (pv 1) B4 (λ_ _=>rfl)) A8)) (E4 T.ai (D0 T) (Rm m) (A6 (pv 0) (A6 (G9 (Q0 K) T.ar N9 (A6 (E6 (K2 K) (pv 1) B4 (λ_ _=>rfl)) A8)) A8))) (λ_ _=>rfl))))),?_⟩
  obtain⟨⟨a,b,Y,Z,e3,n1,n2,n3⟩,pin,nm,st⟩:=id W;have ok:∀x∈I,PySem.PyData.strOk x=true:=λx hx=>O7 (nm.1 x hx);have ap:a≠p:=λz=>n2 (z▸J);refine B3 λN1 M=>?_;have n:∀(N:Int) (g:Hp),N<=c+1->Sm [p] H g->IJ g p N->ON (SV K) (SX (V4 (tC (V.str "nobody")) (V4 (tC (V.str "")) (V4 (tC (V.str "A")) (V4 (tC (V.str "zq")) Ip))))) (Rr Oz [] E0 (V4 (X8 0) (V4 (tC (V.int 4)) Ip))) [some (.ref p),some (.ref o)] g Q:=λN g hc k L=>by
   refine⟨by show 4<=sizeLine;decide,λz D=>?_⟩;have u:=Cv.new (o:=.lst [V.str "nobody",.str "",.str "A",.str "zq"]) D;have L2:=L.same u;have pz:z≠p:=(A9 L.get D).symm;refine C3 rfl (V7 (a:=p) rfl L2 (by lia) (by decide) (by decide) λd H3 hd k3 r=>?_);obtain⟨y,oy,ey⟩:=zCd d (by lia);exact⟨z,_,_,_,rfl,rfl,IC.of (MF k3 A7 pz),ey,q y _ H3 oy (by lia) ((k.trans u.sm).trans k3) r⟩
  refine C3 rfl ⟨o,_,0,_,rfl,rfl,IC.of Y,rfl,⟨BP _,λz D=>?_⟩⟩;have t:=Cv.new (o:=.lst []) D;have f1:(HX H z (.lst [])) z=some (.lst []):=A7;have O:=hL.same t;generalize HX H z (.lst [])=g at t f1 O⊢;refine Lx (t _ _ Z) ok f1 ⟨_,rfl,?_⟩;refine Y7 (λ_=>Z0 (n c g (by lia) t.sm O)) λne=>?_;refine C3 rfl (V7 (a:=p) rfl O (by lia) (by decide) (by decide) λd R hd k2 L2=>⟨rfl,_,rfl,?_⟩);have e:=t.sm.trans k2;refine Y7 (λ_=>n (c+1) R (by lia) e L2) λ_=>M _ _ ?_;have O2:=W.smp J e;have v:=MF e Y (λz=>n1 (z▸J));have B:=MF e Z ap;refine C3 rfl ⟨o,_,0,_,rfl,rfl,IC.of v,rfl,a,I,rfl,IC.of B,λl i hl pn srt=>?_⟩;have C:=Cv.new (o:=.lst (i.map V.str)) hl;have S:(HX R l (.lst (i.map V.str))) l=some (.lst (i.map V.str)):=A7;have r:=L2.same C;generalize HX R l (.lst (i.map V.str))=H3 at C S r⊢;refine C3 rfl (C3 rfl ⟨o,_,0,_,rfl,rfl,IC.of (C _ _ v),rfl,a,_,rfl,.inl (IC.of (C _ _ B)),?_⟩);rw[AB];have pos:0<I.length:=List.length_pos_iff.mpr λz=>ne (by rw[z];rfl);have le:=nm.2.2;refine V7 (a:=p) rfl r (by lia) (by lia) (by lia) λU H4 hd4 k4 L4=>?_;have ll:=pn.length_eq;have hi:i[U]?=some i[U]:=AF (by lia);exact⟨l,_,_,_,rfl,rfl,IC.of (MF k4 S (r.ne S)),Q5 (j:=U) (by rw[AH,hi];rfl),q _ _ H4 (ok _ (pn.mem_iff.mp (DL _))) (by lia) ((e.trans C.sm).trans k4) L4⟩
inductive IS | pn (y:Str) | tn (y:Str) | ps (a b:Str) | ts (a b:Str)
def IS.strs:IS->A0 Str
 | .pn y=>["put_name",y]
 | .tn y=>["take_name",y]
 | .ps a b=>["put_strike",a,b]
 | .ts a b=>["take_strike",a,b]
def IS.fit(ss:A0 Str)(ps:A0 IL):IS->Prop
 | .pn y=>ss.length+1<=30/\y.length<=100/\y≠ "more"
 | .ps _ _=>ps.length+1<=140
 | _=>True
structure MI(H:Hp)(t:A3)(d:IS):Prop where
 at_:H t=some (.tup (d.strs.map V.str))
 ok:∀x∈d.strs,PySem.PyData.strOk x=true
def MI.same{H H':Hp}{t:A3}{d:IS}(h:MI H t d)(s:Cv H H'):MI H' t d:=⟨s _ _ h.at_,h.ok⟩
def zEw:PySem.PyData.strOk "put_name" = true/\PySem.PyData.strOk "take_name" = true/\PySem.PyData.strOk "put_strike" = true/\PySem.PyData.strOk "take_strike" = true:=⟨by decide +kernel,by decide +kernel,by decide +kernel,by decide +kernel⟩
theorem zEc(d:Nat)(h:d<6):∃y:Str,PySem.PyData.strOk y=true/\(y.length<=100/\y≠ "more")/\P6 [V.str "",.str "A",.str "abcdefghi",.str "a b",.str "a1",.str "ab\n"] (d:Int)=some (.str y):=by
 match d,h with
 | 0,_=>exact⟨"",by decide +kernel,by decide +kernel,rfl⟩
 | 1,_=>exact⟨"A",by decide +kernel,by decide +kernel,rfl⟩
 | 2,_=>exact⟨"abcdefghi",by decide +kernel,by decide +kernel,rfl⟩
 | 3,_=>exact⟨"a b",by decide +kernel,by decide +kernel,rfl⟩
 | 4,_=>exact⟨"a1",by decide +kernel,by decide +kernel,rfl⟩
 | 5,_=>exact⟨"ab\n",by decide +kernel,by decide +kernel,rfl⟩
def QI:A0 Str:=["b","ab","x","know","c","m","ba","aba","xa","ca","ma","bbb","pq","abcdefgh","p","pp"]
theorem Kn:∀x∈QI,PySem.PyData.strOk x=true/\x.length<=100/\x≠ "more":=by decide +kernel
theorem Hh:∀ps:A0 IL,PyData.depthAll (ps.map λq=>pd q.2)<=2
 | []=>by rw[HI,PyData.depthAll];lia
 | x::r=>by
  rw[BM,PyData.depthAll];have:=Hh r;have:(pd x.2).depth<=2:=by simp[pd,PyData.depth,PyData.depthAll]
  lia
theorem Yh{K:VA}{H:Hp}{b z:A3}{ps:A0 IL}{Q:VK}(c:H b=some (.lst (G0 ps)))(a:∀q∈ps,G6 H q)(d:∀q∈ps,PySem.PyData.strOk q.2.1=true/\PySem.PyData.strOk q.2.2=true)(hz:H z=some (.lst []))(q:Q (.bl (!ps.isEmpty)) H):Zs K (.ref b) (.ref z) H Q :=
 ⟨_,.list [],El c a,by rw[Rp];exact⟨z,_,rfl,IC.of hz,by rw[PF]⟩,⟨by rw[PyData.canLay0];exact Fu d,by rw[PyData.depth];have:=Hh ps;lia⟩,⟨rfl,by simp[PyData.depth,PyData.depthAll]⟩,by
  rw[Sj];have:(ps.map λq=>pd q.2).isEmpty=ps.isEmpty:=by cases ps<;>rfl
  rw[this];exact q⟩
theorem Uj{H:Hp}{p o a b:A3}{d:Int}{v3:A5 V}{ss:A0 Str}{g:Bool->Hp->Prop}(l:H o=some (.lst [.ref a,.ref b]))(m:H a=some (.lst (ss.map V.str)))(q:∀x∈ss,PySem.PyData.strOk x=true)
  (h:∀c H',Cv H H'->(c=true->ss.length+1<=30)->g c H') :
  tOr (zGc (t4 (ON (QT λi j=>V.bl (decide (i<j))) (X8 2) (tC (V.int 2)))) (t4 (ON (QT λi j=>V.bl (decide (i<j))) (SA (λxs H Q=>∃p k,xs = [V.ref p]/\(IC K H p k\/IZ K H p k)/\Q (V.int (k.length:Int)) H) (V4 (ON (SV K) (X8 1) (tC (V.int 0))) Ip)) (tC (V.int 30)))))
   (t4 (ON (SW K) (ON (SV K) (X8 1) (tC (V.int 0))) (SX Ip))) [some (.ref p),some (.ref o),some (.int d),v3] H g:=by
 have f:t4 (ON (SW K) (ON (SV K) (X8 1) (tC (V.int 0))) (SX Ip)) [some (.ref p),some (.ref o),some (.int d),v3] H g:=by
  refine C3 rfl ⟨o,_,0,_,rfl,rfl,IC.of l,rfl,⟨BP _,λz s=>?_⟩⟩;have n:=Cv.new (o:=.lst []) s;refine Lx (n _ _ m) q A7 ⟨_,rfl,h _ _ n λc=>?_⟩;cases ss with
  | nil=>show 0+1<=30;lia
  | cons x r=>cases c
 refine C3 rfl (B9 rfl rfl ⟨_,rfl,Y7 (λ_=>?_) λ_=>N8 f⟩);refine C3 rfl ⟨o,_,0,_,rfl,rfl,IC.of l,rfl,a,_,rfl,.inl (IC.of m),B9 rfl rfl ⟨_,rfl,Y7 (λc=>h _ _ (λb o e=>e) λ_=>?_) λ_=>f⟩⟩;rw[AB]at c;have:=BV c;lia
theorem LY:HZ ["_law_left_here","_law_own","_law_way","_law_some"] ["_law_left_here","_law_own"] (B6 OF):=KL
def Yf:Sp:=λf H Q _=>∃(X:A0 A3) (p o:A3) (c:Int) (b:A0 Str) (ps:A0 IL),f = [.ref p,.ref o]/\IJ H p c/\c<=900/\p∈X/\JM X H o b ps/\ps.length<=200 /\
 ∀(t:A3) (d:IS) (e:Int) a,H t=none->e<=c+10->Sm [p] H a->IJ a p e->MI a t d->d.fit b ps->Q (.ref t) a
set_option maxHeartbeats 1000000 in
theorem Jo(T:Tx K mg):II P w K mg base JP 4 T.a7.f T.a7.fd ["_law_left_here","_law_own"] Yf:=by
 refine T.a7.F.o1 LY λcdv A outer s H vs Q E n h=>?_
 .obtain⟨X,p,o,c,ss,ps,rfl,hL,c1,v,hO,OX,q⟩:=h;have hu:=Q2 n;refine⟨_,(B0 (C6 (i:=2) LY.nd rfl (.inl rfl) (E4 T.ai (D0 T) (Rm n) (A6 (pv 0) (A6 B4 A8))))
   (@B0 _ _ _ _ _ (@K0 _ _ _ _ _ _ _ _ (PW.pt (Ar (PW.pt (Bq (B8 Ny (pv 2) B4 (C5 _)) (i7 (B8 Ny (G9 (Q0 K) T.ar N9 (A6 (E6 (K2 K) (pv 1) B4 (λ_ _=>rfl)) A8)) B4 (C5 _))))) (X2 (B8 (Nn K n.units) (E6 (K2 K) (pv 1) B4 (λ_ _=>rfl)) (E7 A8) (C5 _))))) (@B0 _ _ _ _ _ (@C6 _ _ 3 _ _ _ _ LY.nd rfl (.inl rfl) (@E7 _ _ _ _ (@A6 _ _ _ _ _ C1 (@A6 _ _ _ _ _ C1 (@A6 _ _ _ _ _ C1 (@A6 _ _ _ _ _ C1 (@A6 _ _ _ _ _ C1 (@A6 _ _ _ _ _ C1 (@A6 _ _ _ _ _ C1 (@A6 _ _ _ _ _ C1 (@A6 _ _ _ _ _ C1 (@A6 _ _ _ _ _ C1 (@A6 _ _ _ _ _ C1 (@A6 _ _ _ _ _ C1 (@A6 _ _ _ _ _ C1 (@A6 _ _ _ _ _ C1 (@A6 _ _ _ _ _ C1 (@A6 _ _ _ _ _ C1 A8 (by rfl)) (by rfl)) (by rfl)) (by rfl)) (by rfl)) (by rfl)) (by rfl)) (by rfl)) (by rfl)) (by rfl)) (by rfl)) (by rfl)) (by rfl)) (by rfl)) (by rfl)) (by rfl))) (by rfl) (by first | exact .inl rfl | exact .inr rfl | assumption))
   (@B0 _ _ _ _ _ (@K0 _ _ _ _ _ _ _ _ (B8 V2 (E4 T.ai (D0 T) (Rm n) (A6 (pv 0) (A6 B4 A8))) B4 (C5 _)) (@B5 _ _ _ (@C0 _ _ _ _ (@J5 _ _ _ _ _ (@A6 _ _ _ _ _ C1 (@A6 _ _ _ _ _ (@E6 _ _ _ _ _ _ _ (K2 K) (@E7 _ _ _ _ (@A6 _ _ _ _ _ C1 (@A6 _ _ _ _ _ C1 (@A6 _ _ _ _ _ C1 (@A6 _ _ _ _ _ C1 (@A6 _ _ _ _ _ C1 (@A6 _ _ _ _ _ C1 A8 (by rfl)) (by rfl)) (by rfl)) (by rfl)) (by rfl)) (by rfl))) (E4 T.ai (D0 T) (Rm n) (A6 (pv 0) (A6 B4 A8))) (λ_ _=>rfl)) A8 (by rfl)) (by rfl))))) D9)
   (B5 (C0 (J5 (A6 C1 (A6 (E6 (K2 K) (pv 3) (E4 T.ai (D0 T) (Rm n) (A6 (pv 0) (A6 B4 A8))) (λ_ _=>rfl)) A8))))))) D9)
   (B0 (K0 (B8 Ny (pv 2) B4 (C5 _)) (B5 (C0 (J5 (A6 C1 (A6 (E4 T.ax (Q1 T) (Rm n) (A6 (pv 0) (A6 (pv 1) A8))) A8))))) D9)
   (B0 (K0 (PW.pt (Bq (B8 Ny (pv 2) B4 (C5 _)) (i7 (B8 Ny (G9 (Q0 K) T.ar N9 (A6 (E6 (K2 K) (pv 1) B4 (λ_ _=>rfl)) A8)) B4 (C5 _))))) (B5 (C0 (J5 (A6 C1 (A6 (E4 T.ax (Q1 T) (Rm n) (A6 (pv 0) (A6 (pv 1) A8))) (A6 (E4 T.ax (Q1 T) (Rm n) (A6 (pv 0) (A6 (pv 1) A8))) A8)))))) D9)
   (B0 (K0 (PW.pt (Bq (B8 (Gc K n.units) (E6 (K2 K) (pv 1) B4 (λ_ _=>rfl)) (E7 A8) (C5 _)) (i7 (B8 Yt (E4 T.ai (D0 T) (Rm n) (A6 (pv 0) (A6 B4 A8))) B4 (C5 _))))) (B5 (C0 (E9 (Ya K) (J5 (A6 C1 A8)) (E6 (K2 K) (G9 (Kv K) T.aC R8 (A6 (E6 (K2 K) (pv 1) B4 (λ_ _=>rfl)) A8)) (E4 T.ai (D0 T) (Rm n) (A6 (pv 0) (A6 (G9 (Q0 K) T.ar N9 (A6 (E6 (K2 K) (pv 1) B4 (λ_ _=>rfl)) A8)) A8))) (λ_ _=>rfl))))) D9)
   (B5 (C0 (J5 (A6 C1 (A6 (E4 T.ax (Q1 T) (Rm n) (A6 (pv 0) (A6 (pv 1) A8))) (A6 (E4 T.ax (Q1 T) (Rm n) (A6 (pv 0) (A6 (pv 1) A8))) A8))))))))))),?_⟩
  obtain⟨⟨a,b,e1,e2,e3,n1,n2,n3⟩,pin,nm,st⟩:=id hO;have ok:∀x∈ss,PySem.PyData.strOk x=true:=λx hx=>O7 (nm.1 x hx);have ap:a≠p:=λz=>n2 (z▸v);have fresh:∀(t:A3) (B:Hp) (r:Int),Sm [p] H B->IJ B p r->B t=none->H t=none:=λt B r k L m=>by
   cases e:H t with
   | none=>rfl
   | some x =>
    have tp:t≠p:=λz=>by rw[z,L.get]at m;cases m
    exact absurd (k _ _ e (by simpa using tp)) (by rw[m];intro z;cases z)
  have C:∀(d:IS) (r:Int) (B:Hp),r<=c+10->Sm [p] H B->IJ B p r->(∀x∈d.strs,PySem.PyData.strOk x=true)->d.fit ss ps->∀t,B t=none->Q (.ref t) (HX B t (.tup (d.strs.map V.str))):=λd r B hc k L od fd t m =>
   q t d r _ (fresh t B r k L m) hc (k.trans (Cv.new m).sm) (L.same (Cv.new m)) ⟨A7,od⟩ fd
  obtain⟨ko1,ko2,ko3,Y⟩:=zEw;refine B3 λN1 hN1=>?_;refine C3 rfl (V7 (a:=p) (b:=c) rfl hL (by lia) (by decide) (by decide) λway B hw k1 L1=>?_);refine hN1 _ _ (B3 λN2 hN2=>?_);have e1a:=MF k1 e1 (λz=>n1 (z▸v));have e2a:=MF k1 e2 ap;refine Uj e1a e2a ok λbb Z s2 hbb=>?_;have k2:=k1.trans s2.sm;have L2:=L1.same s2;refine Y7 (λhb=>?_) λ_=>hN2 _ _ ?_
  .have fit:=hbb hb;refine⟨by show 16<=sizeLine;decide,λz hz=>?_⟩;have G:=Cv.new (o:=.lst [V.str "b",.str "ab",.str "x",.str "know",.str "c",.str "m",.str "ba",.str "aba",.str "xa",.str "ca",.str "ma",.str "bbb",.str "pq",.str "abcdefgh",.str "p",.str "pp"]) hz;have f3:(HX Z z (.lst [V.str "b",.str "ab",.str "x",.str "know",.str "c",.str "m",.str "ba",.str "aba",.str "xa",.str "ca",.str "ma",.str "bbb",.str "pq",.str "abcdefgh",.str "p",.str "pp"])) z=some (.lst (QI.map V.str)):=A7;have I:=L2.same G;have N:=k2.trans G.sm;generalize HX Z z (.lst [V.str "b",.str "ab",.str "x",.str "know",.str "c",.str "m",.str "ba",.str "aba",.str "xa",.str "ca",.str "ma",.str "bbb",.str "pq",.str "abcdefgh",.str "p",.str "pp"])=J at G f3 I N⊢;refine C3 rfl (V7 (a:=p) rfl I (by lia) (by decide) (by decide) λd4 H4 hd4 M O=>⟨rfl,_,rfl,?_⟩);have u:=N.trans M;refine Y7 (λ_=>?_) λ_=>?_
   .refine⟨by show 6<=sizeLine;decide,λz2 hz2=>?_⟩;have D:=Cv.new (o:=.lst [V.str "",.str "A",.str "abcdefghi",.str "a b",.str "a1",.str "ab\n"]) hz2;have L5:=O.same D;have pz:z2≠p:=(A9 O.get hz2).symm;refine C3 rfl (V7 (a:=p) rfl L5 (by lia) (by decide) (by decide) λd6 H6 hd6 R S=>?_);obtain⟨y,oy,ly,ey⟩:=zEc d6 (by lia);refine⟨z2,_,_,_,rfl,rfl,IC.of (MF R A7 pz),ey,⟨by show 2<=sizeLine;decide,λt m=>?_⟩⟩;exact C (.pn y) _ H6 (by lia) ((u.trans D.sm).trans R) S (λx hx=>by
     rcases AW.mp hx with rfl | hx
     .exact ko1
     .rw[AC.mp hx];exact oy) ⟨fit,ly⟩ t m
   .refine C3 rfl (C3 rfl (V7 (a:=p) rfl O (by lia) (by decide) (by decide) λd6 H6 hd6 R S=>?_));have zp:z≠p:=I.ne f3;have hi:QI[d6]?=some (QI[d6]'(by show d6<16;lia)):=AF _;refine⟨z,_,_,_,rfl,rfl,IC.of (MF R (MF M f3 zp) zp),Q5 (j:=d6) (by rw[AH,hi];rfl),⟨by show 2<=sizeLine;decide,λt m=>?_⟩⟩;exact C (.pn _) _ H6 (by lia) (u.trans R) S (λx hx=>by
     rcases AW.mp hx with rfl | hx
     .exact ko1
     .rw[AC.mp hx];exact(Kn _ (DL _)).1) ⟨fit,(Kn _ (DL _)).2⟩ t m
  .have O2:=hO.smp v k2;have e1b:=s2 _ _ e1a;have bp:b≠p:=λz=>n3 (z▸v);have e3b:=MF k2 e3 bp;have pin2:∀q∈ps,G6 Z q:=λq hq=>(O2.pin q hq).1;have okp:∀q∈ps,PySem.PyData.strOk q.2.1=true/\PySem.PyData.strOk q.2.2=true:=λq hq=>⟨ok _ (st.nm q hq).1,ok _ (st.nm q hq).2⟩;have two:∀(mk:Str->Str->IS) (kd:Str) (r:Int) (J:Hp),(∀y z,(mk y z).strs = [kd,y,z])->PySem.PyData.strOk kd=true->(∀y z,(mk y z).fit ss ps)->r<=c+4->Sm [p] H J->IJ J p r ->
     zEk (V4 (tC (V.str kd)) (V4 (Rr Bp [] E0 (V4 (X8 0) (V4 (X8 1) Ip))) (V4 (Rr Bp [] E0 (V4 (X8 0) (V4 (X8 1) Ip))) Ip))) [some (.ref p),some (.ref o),some (.int (way:Int)),none] J Q:=λmk kd r J hs okd hf hc k L=>by
    refine C3 rfl (C3 rfl ⟨X,p,o,r,ss,ps,rfl,L,by lia,v,hO.smp v k,λy c4 H4 oy hc4 M O=>?_⟩);refine C3 rfl (C3 rfl ⟨X,p,o,c4,ss,ps,rfl,O,by lia,v,hO.smp v (k.trans M),λz c5 H5 oz hc5 k5 L5=>?_⟩);refine⟨by show 3<=sizeLine;decide,λt m=>?_⟩;have:=C (mk y z) c5 H5 (by lia) ((k.trans M).trans k5) L5 (λx hx=>by
     rw[hs]at hx;rcases AW.mp hx with rfl | hx
     .exact okd
     .rcases AW.mp hx with rfl | hx
      .exact oy
      .rw[AC.mp hx];exact oz) (hf y z) t m
    rw[hs]at this;exact this
   refine B3 λN3 hN3=>?_;refine C3 rfl (B9 rfl rfl ⟨_,rfl,Y7 (λ_=>?_) λ_=>hN3 _ _ ?_⟩)
   .refine C3 rfl (C3 rfl ⟨X,p,o,_,ss,ps,rfl,L2,by lia,v,O2,λy c3 J oy hc3 N I=>⟨by show 2<=sizeLine;decide,λt m=>?_⟩⟩);exact C (.tn y) c3 J (by lia) (k2.trans N) I (λx hx=>by
     rcases AW.mp hx with rfl | hx
     .exact ko2
     .rw[AC.mp hx];exact oy) VC t m
   .refine B3 λN4 hN4=>?_;have U:N4 [some (.ref p),some (.ref o),some (.int (way:Int)),none] Z:=by
     refine hN4 _ _ (B3 λN5 hN5=>?_);refine C3 rfl ⟨o,_,1,_,rfl,rfl,IC.of e1b,rfl,⟨BP _,λz hz=>?_⟩⟩;have G:=Cv.new (o:=.lst []) hz;have f3:(HX Z z (.lst [])) z=some (.lst []):=A7;have I:=L2.same G;have N:=k2.trans G.sm;have W:=J2 G pin2;have e1c:=G _ _ e1b;have e3c:=G _ _ e3b;generalize HX Z z (.lst [])=J at G f3 I N W e1c e3c⊢;refine Yh e3c W okp f3 ⟨_,rfl,?_⟩;refine Y7 (λne=>?_) λ_=>N8 (hN5 _ _ (two IS.ts _ _ J (λ_ _=>rfl) Y (λ_ _=>VC) (by lia) N I));refine C3 rfl (V7 (a:=p) rfl I (by lia) (by decide) (by decide) λd4 H4 hd4 M O=>B9 rfl rfl ⟨_,rfl,?_⟩);have u:=N.trans M;refine Y7 (λ_=>?_) λ_=>hN5 _ _ (two IS.ts _ _ H4 (λ_ _=>rfl) Y (λ_ _=>VC) (by lia) u O);have O4:=hO.smp v u;have e1d:=MF M e1c (λz=>n1 (z▸v));have e3d:=MF M e3c bp;refine⟨by show 1<=sizeLine;decide,λt1 ht1=>?_⟩;have D:=Cv.new (o:=.tup [.str "take_strike"]) ht1;have f5:(HX H4 t1 (.tup [.str "take_strike"])) t1=some (.tup [.str "take_strike"]):=A7;have L5:=O.same D;have O5:=O4.same D;have k5:=u.trans D.sm;generalize HX H4 t1 (.tup [.str "take_strike"])=H5 at D f5 L5 O5 k5⊢;refine C3 rfl ⟨o,_,1,_,rfl,rfl,IC.of (D _ _ e1d),rfl,b,ps,rfl,IC.of (D _ _ e3d),λq hq=>(O5.pin q hq).1,λl g hl pm _=>?_⟩;have u6:=Cv.new (o:=.lst (g.map λq=>V.ref q.1)) hl;have f6:(HX H5 l (.lst (g.map λq=>V.ref q.1))) l=some (.lst (G0 g)):=A7;have S:=L5.same u6;have O6:=O5.same u6;have R:=k5.trans u6.sm;have f5:=u6 _ _ f5;have e1e:=u6 _ _ (D _ _ e1d);have e3e:=u6 _ _ (D _ _ e3d);generalize HX H5 l (.lst (g.map λq=>V.ref q.1))=H6 at f6 S O6 R f5 e1e e3e⊢;refine C3 rfl (C3 rfl ⟨o,_,1,_,rfl,rfl,IC.of e1e,rfl,b,_,rfl,.inl (IC.of e3e),?_⟩);have rl:(G0 ps).length=ps.length:=by unfold G0;rw[AB]
     rw[rl];have pos:0<ps.length:=List.length_pos_iff.mpr λz=>by rw[z]at ne;cases ne
     refine V7 (a:=p) rfl S (by lia) (by lia) (by lia) λd7 H7 hd7 k7 L7=>?_;have ll:=pm.length_eq;have hi:g[d7]?=some g[d7]:=AF (by lia);have hm:g[d7]∈ps:=pm.mem_iff.mp (DL _);have lp:l≠p:=S.neP f6;have e7:=((O6.smp v k7).pin _ hm).1;have t1p:t1≠p:=λz=>by
      obtain⟨xa,xb,em,_⟩:=id S;rw[z,em]at f5;cases f5
     refine⟨l,_,_,_,rfl,rfl,IC.of (MF k7 f6 lp),Q5 (j:=d7) (by unfold G0;rw[AH,hi];rfl),?_⟩;refine⟨t1,g[d7].1,_,_,rfl,rfl,IZ.of (MF k7 f5 t1p),IZ.of e7,(λz=>by cases z),by show 3<=sizeLine;decide,(λz=>by cases z),λ_ t m=>?_⟩;exact C (.ts g[d7].2.1 g[d7].2.2) _ H7 (by lia) (R.trans k7) L7 (λx hx=>by
      rcases AW.mp hx with rfl | hx
      .exact Y
      .rcases AW.mp hx with rfl | hx
       .exact(okp _ hm).1
       .rw[AC.mp hx];exact(okp _ hm).2) VC t m
    refine C3 rfl (B9 rfl rfl ⟨_,rfl,Y7 (λ_=>?_) λ_=>N8 U⟩);refine C3 rfl ⟨o,_,1,_,rfl,rfl,IC.of e1b,rfl,b,_,rfl,.inl (IC.of e3b),B9 rfl rfl ⟨_,rfl,Y7 (λfew=>?_) λ_=>U⟩⟩;have rl:(G0 ps).length=ps.length:=by unfold G0;rw[AB]
    rw[rl]at few;have:=BV few;exact two IS.ps _ _ Z (λ_ _=>rfl) ko3 (λ_ _=>by show ps.length+1<=140;lia) (by lia) k2 L2
def Zf(x:Str):A0 Str:=(x.cps.toList.filter λc=>!Ka c).map λc=>⟨#[c]⟩
def Uz(x:Str):(Zf x).isEmpty=x.cps.toList.all Ka:=by
 unfold Zf;generalize x.cps.toList=l
 induction l with
 | nil=>rfl
 | cons c r a =>
  rw[BR,List.all_cons];cases h:Ka c with
  | true=>rw[AI (by decide),a,HR]
  | false=>rw[AO (by decide),DP];rfl
def zBv{x:Str}(h:PySem.PyData.strOk x=true):∀y∈Zf x,PySem.PyData.strOk y=true:=λy b=>by
 unfold Zf at b;obtain⟨c,a,rfl⟩:=BJ.mp b;have a:=(AV.mp a).1;unfold PySem.PyData.strOk at h⊢;rw[Array.all_eq_true']at h;have:=h c (by rw[<-Array.mem_toList_iff];exact a);simpa using this
theorem LX:HZ ["_law_word","_law_letters"] ["_law_word"] (B6 MP):=KL
def Nx:Sp:=λb H Q _=>∃x:Str,b = [.str x]/\PySem.PyData.strOk x=true/\x.length<=100/\∀a,Cv H a->Q (.bl (P8 x)) a
theorem Cw(T:Tx K mg):II P w K mg base JP 1 T.aT.f T.aT.fd ["_law_word"] Nx:=by
 refine T.aT.F.o1 LX λJ A j s H W Q E p h=>?_
 .obtain⟨x,rfl,L,X,q⟩:=h;have Y:=Q2 p;refine⟨_,(B0 (C6 (i:=1) LX.nd rfl (.inr rfl) C1)
   (B5 (C0 (Bh (Wm Vr Vr B4 (G9 Ag T.ar N9 (A6 (pv 0) A8)) B4) (Dq (Q8 (Nn K p.units) (U7 (N':=["_law_sign","_law_letters"]) (cap:=[none,some 1]) (cl:=[("_law_letters",_)]) (N0 ⟨⟨rfl,rfl,rfl,rfl⟩,trivial⟩ ⟨rfl,trivial⟩) rfl (Xd (pv 0)) (λ_ _ _ _=>by exact⟨(LV 0),(K5 (B8 Gq (pv 0) (pv 1) rfl)),(pv 0)⟩)) (E7 A8) (C5 _))))))),?_⟩
  refine B3 λZ k=>?_;have l:x.length<=sizeLine:=by rw[sizeLine_eq];lia
  have r:x.cps.size=x.length:=rfl;refine k _ _ ?_;refine C3 rfl ⟨x,rfl,l,B9 rfl rfl (C3 rfl ?_)⟩;refine Y7 (λa=>?_) (λa=>?_)
  .have a:(1:Int)<=(x.length:Int):=BV a;refine B9 rfl rfl ⟨_,rfl,?_⟩;by_cases t:(x.length:Int)<=8
   .rw[AU t];refine Z0 ?_;refine C3 rfl ⟨x,rfl,λD u=>?_⟩;refine Hq (n:=x.cps.size) (λi σ m=>(∃v,σ = [v,some (.str "abcdefghijklmnopqrstuvwxyz")])/\Cv H m/\m D=some (.lst (((x.cps.toList.take i).filter λc=>!Ka c).map λc=>V.str ⟨#[c]⟩))) ⟨⟨_,rfl⟩,Cv.new u,A7⟩ (λi _ _ y _=>y) (λ_ _ _=>rfl) ?_ ?_
    .rintro i σ B v m N y ⟨⟨v0,rfl⟩,d,g⟩ ⟨rfl,c,M,rfl⟩ C;have O:x.cps.toList[i]?=some c:=by rw[BL];exact M
     have G:((x.cps.toList.take (i+1)).filter λc=>!Ka c) =((x.cps.toList.take i).filter λc=>!Ka c)++if(!Ka c)=true then [c]else []:=by
      rw[D8 O,CT,BR,D_]
     have R:=BC (λc=>!Ka c) (x.cps.toList.take i);rw[A_]at R;refine C3 rfl (C3 rfl ⟨_,_,rfl,rfl,_,rfl,?_⟩);rw[PySem.StrLaws.found_one,Tf];refine Y7 (λb=>C3 rfl ⟨_,g,by rw[AB,sizeLine_eq];lia,C _ _ ⟨⟨_,rfl⟩,d.upd u,?_⟩⟩) (λb=>C _ _ ⟨⟨_,rfl⟩,d,?_⟩)
     .rw[A7,G,AO b,AL];rfl
     .rw[G,AI b,CC];exact g
    .rintro σ B ⟨_,d,g⟩;have S:B D=some (.lst ((Zf x).map V.str)):=by
      rw[g,<-AX,BN];unfold Zf;rw[BW];rfl
     refine⟨BP _,λz U=>?_⟩;have I:=Cv.new (o:=.lst []) U;refine Lx (I _ _ S) (zBv L) A7 ?_;have e:(Zf x).isEmpty=P8 x:=by
      unfold P8;rw[Uz,AU (show 1<=x.length by lia),AU (show x.length<=8 by lia)];rfl
     rw[e];exact q _ (d.trans I)
   .rw[AK t];refine N8 ?_;have e:P8 x=false:=by
     unfold P8;rw[AK (show ¬x.length<=8 by lia),HH,DP]
    have:=q H (Cv.refl H);rw[e]at this;exact this
  .have a:¬(1:Int)<=(x.length:Int):=λz=>a (AU z);refine⟨_,rfl,N8 ?_⟩;have e:P8 x=false:=by
    unfold P8;rw[AK (show ¬1<=x.length by lia),DP,DP]
   have:=q H (Cv.refl H);rw[e]at this;exact this
def IS.can(ss:A0 Str)(ps:A0 IL):IS->Prop
 | .pn y=>P8 y=true/\y∉ss
 | .tn y=>y∈ss
 | .ps a b=>a∈ss/\b∈ss/\(a,b)∉ps.map λq=>q.2
 | .ts a b=>a∈ss/\b∈ss/\(a,b)∈ps.map λq=>q.2
def Fp{K:VA}{H:Hp}{a z:A3}{ss:A0 Str}{Q:VK}(c:H a=some (.lst (ss.map V.str)))(f:∀x∈ss,PySem.PyData.strOk x=true)(hz:H z=some (.lst []))(q:Q (.bl (!ss.isEmpty)) H):Zs K (.ref a) (.ref z) H Q:=by
 obtain⟨d,e,g,h,i,j,b⟩:=Lx (K:=K) (Q:=λv k=>v = .bl ss.isEmpty) c f hz rfl;refine⟨d,e,g,h,i,j,?_⟩;have b:PyData.eqv d e=ss.isEmpty:=(V.bl.inj b);rw[b];exact q
def Oj{J:It}{a D:A3}{ts:A0 Str}{r:St}{j:TT}{H:Hp}{Q:St->Hp->Prop}(p:Str->Bool)(as:NK J (ts.map V.str) a H)(u:ts.length<=1000)(k:H D=none)
  (w:∀y∈ts,∀g,Cv H g->∀l:Bool->Hp->Prop,(∀e,Cv g e->l (p y) e)->j (some (.str y)::r) g l) (h:∀σ e,Cv H e->e D=some (.lst ((ts.filter p).map V.str))->Q σ e) (m:A5 V) :
  Au (P5 0) j (Y6 D (X8 0)) J (m::r) (HX H D (.lst [])) Q:=by
 refine O9 as (λi σ f=>(∃v,σ=v::r)/\Cv H f/\f D=some (.lst (((ts.take i).filter p).map V.str)))
  ⟨⟨_,rfl⟩,Cv.new k,A7⟩ (λi σ g _ ⟨_,x,_⟩=>x.at a) ?_ ?_
 .rintro i σ f v N n ⟨⟨m,rfl⟩,b,d⟩ o;rw[AH]at n;obtain⟨y,q,rfl⟩:=BH.mp n;refine w y (BB q) f b _ λz s=>?_;have d:=s _ _ d;have b:=b.trans s;have t:(ts.take (i+1)).filter p =(ts.take i).filter p++if p y=true then [y]else []:=by
   rw[D8 q,CT,BR,D_]
  have A:(((ts.take i).filter p).map V.str).length<=1000:=by
   rw[AB];have:=BC p (ts.take i);rw[A_]at this;lia
  refine Y7 (λc=>C3 rfl ⟨_,d,by rw[sizeLine_eq];lia,o _ _ ⟨⟨_,rfl⟩,b.upd k,?_⟩⟩) (λc=>o _ _ ⟨⟨_,rfl⟩,b,?_⟩)
  .rw[A7,t,AO c,AL];rfl
  .rw[t,AI c,CC];exact d
 .rintro σ f ⟨_,b,d⟩;rw[AB,BN]at d;exact h σ f b d
def Zo{K:VA}{H:Hp}{t l:A3}{k:Str×Str}{ps:A0 IL}{Q:VK}(b:H t=some (.tup [.str k.1,.str k.2]))(c:H l=some (.lst (G0 ps)))(d:∀q∈ps,G6 H q)
  (a:PySem.PyData.strOk k.1=true/\PySem.PyData.strOk k.2=true) (e:∀q∈ps,PySem.PyData.strOk q.2.1=true/\PySem.PyData.strOk q.2.2=true) (q:Q (.bl (decide (k∈ps.map λq=>q.2))) H):SR K false (.ref t) (.ref l) H Q :=
 ⟨pd k,_,j8 b,.inl (El c d),⟨Bw a.1 a.2,by simp[pd,PyData.depth,PyData.depthAll]⟩,Fu e,by rw[AI (by decide),Cl];exact q⟩
def zBs(x y:Str)(ss:A0 Str):([x,y].filter λn=>!decide (n∈ss)).isEmpty=decide (x∈ss/\y∈ss):=by
 by_cases c:x∈ss
 .by_cases d:y∈ss
  .rw[BR,AU c,BR,AU d,AU ⟨c,d⟩];rfl
  .rw[BR,AU c,BR,AK d,AK λz=>d z.2];rfl
 .rw[BR,AK c,AK λz=>c z.1];rfl
def Ek{K:VA}{H:Hp}{o t a b:A3}{kd:Str}{tl ss:A0 Str}{q:A5 V}{l:Bool->Hp->Prop}(r:H t=some (.tup ((kd::tl).map V.str)))(c:Hx ((kd::tl).map V.str) (some 1) none=tl.map V.str)
  (f:¬(HT.JL ((kd::tl).map V.str).length 0 (some 1)=0/\HT.JL ((kd::tl).map V.str).length ((kd::tl).map V.str).length none =((kd::tl).map V.str).length)) (s:H a=some (.lst (ss.map V.str))) (u:∀x∈tl,PySem.PyData.strOk x=true) (E:tl.length<=10)
  (h:∀H',Cv H H'->l (!(tl.filter λn=>!decide (n∈ss)).isEmpty) H') :
  t4 (ON (Zs K) (Jx (zFf K (tSl (zEl K) (X8 1) (zCh (tC (V.int 1))) Sy)) (λ_=>HO.lst []) [none,some 2] λD J σ H Q=>Au (P5 0) (t4 (ON (SD K true) (X8 0) (X8 1))) (Y6 D (X8 0)) J σ H Q) (SX Ip)) [some (.ref o),some (.ref t),some (.ref a),some (.ref b),q] H l:=by
 refine C3 rfl ⟨1,rfl,t,_,rfl,IZ.of r,f,λd g=>?_⟩;rw[c];have i:=Cv.new (o:=.tup (tl.map V.str)) g;have j:(HX H d (.tup (tl.map V.str))) d=some (.tup (tl.map V.str)):=A7;generalize HX H d (.tup (tl.map V.str))=F at i j⊢;refine⟨d,rfl,⟨_,IZ.of j⟩,λD v=>?_⟩;refine Oj (λn=>!decide (n∈ss)) (asT (K:=K) (IZ.of j)) (by lia) v (λy G m k I w=>?_) (λσ m k A=>?_) _
 .exact C3 rfl (C3 rfl (P4 (.inl (IC.of (k _ _ (i _ _ s)))) ⟨_,rfl,w m λb o e=>e⟩))
 .refine⟨BP _,λz B=>?_⟩;have p:=Cv.new (o:=.lst []) B;exact Fp (p _ _ A) (λx C=>u x (AV.mp C).1) A7 ⟨_,rfl,h _ ((i.trans k).trans p)⟩
theorem JQ:HZ ["_law_own","_law_deed_here","_law_names","_law_strikes","_law_word"] ["_law_own","_law_deed_here"] (B6 Lr):=KL
def zAh:Sp:=λc H Q _=>∃(X:A0 A3) (o t:A3) (b:A0 Str) (ps:A0 IL) (d:IS),c = [.ref o,.ref t]/\JM X H o b ps/\MI H t d/\d.fit b ps/\(∀a,Cv H a->d.can b ps->Q .non a)/\∀r a,Cv H a->Q (.ref r) a
set_option maxHeartbeats 1000000 in
theorem Ch(T:Tx K mg):II P w K mg base JP 3 T.aP.f T.aP.fd ["_law_own","_law_deed_here"] zAh:=by
 refine T.aP.F.o1 JQ λcdv A outer s H vs Q E j h=>?_
 .obtain⟨X,o,t,G,ps,d,rfl,hO,hD,hf,Z,M⟩:=h;have hu:=Q2 j;refine⟨_,(B0 (Ab (pv 0) (pgL K (n:=2) (E5 (G5 (i:=2) JQ.nd rfl (.inr rfl)) (E5 (G5 (i:=3) JQ.nd rfl (.inl rfl)) R0))))
   (B0 (C6 (i:=4) JQ.nd rfl (.inl rfl) (E6 (OM K) (pv 1) B4 (λ_ _=>rfl)))
   (B0 (K0 (B8 V2 (pv 4) C1 (C5 _)) (B5 (C0 (Fc (PW.pt (Ar (a7 (T0 (E4 T.aT (Cw T) (Rm j) (A6 (E6 (OM K) (pv 1) B4 (λ_ _=>rfl)) A8)))) (X2 (B8 (Nz K) (E6 (OM K) (pv 1) B4 (λ_ _=>rfl)) (pv 2) rfl)))) (J5 (A6 C1 (A6 B4 A8))) g7))) D9)
   (B0 (K0 (B8 (Gc K j.units) (U7 (N':=["_law_name","_law_names"]) (cap:=[none,some 2]) (cl:=[("_law_names",_)]) (N0 ⟨⟨rfl,rfl,rfl,rfl⟩,trivial⟩ ⟨rfl,trivial⟩) rfl (piT K (X9 (TK K) (pv 1) (w4 B4) w9)) (λ_ _ _ _=>by exact⟨(LV 0),(K5 (B8 (T6 K) (pv 0) (pv 1) rfl)),(pv 0)⟩)) (E7 A8) (C5 _)) (B5 (C0 (J5 (A6 C1 (A6 g7 A8))))) D9)
   (B0 (K0 (PW.pt (Bq (B8 V2 (pv 4) C1 (C5 _)) (i7 (B8 (zFz K j.units) (X9 (TK K) (pv 1) (w4 B4) w9) (pv 3) rfl)))) (B5 (C0 (J5 (A6 C1 (A6 B4 A8))))) D9)
   (B0 (K0 (PW.pt (Bq (B8 V2 (pv 4) C1 (C5 _)) (i7 (B8 (Lj K j.units) (X9 (TK K) (pv 1) (w4 B4) w9) (pv 3) rfl)))) (B5 (C0 (J5 (A6 C1 (A6 g7 A8))))) D9)
   (B5 (C0 g7)))))))),?_⟩
  obtain⟨⟨a,b,e1,e2,e3,n1,n2,n3⟩,S,nm,st⟩:=id hO;obtain⟨v,l⟩:=id hD;have ok:∀x∈G,PySem.PyData.strOk x=true:=λx N=>O7 (nm.1 x N);refine B3 λN1 hN1=>?_;refine⟨_,rfl,o,_,rfl,IC.of e1,rfl,_,C3 rfl (B9 rfl rfl (hN1 _ _ (B3 λN2 I=>?_)))⟩;have g:∀{x y:Str},x≠y->decide (V.str x=V.str y)=false:=λh=>AK λz=>h (V.str.inj z);cases d with
  | pn y =>
   obtain⟨hf1,hf2,_⟩:=hf;refine C3 rfl ⟨t,_,0,_,rfl,rfl,IZ.of v,rfl,I _ _ (B3 λN3 u=>?_)⟩;refine C3 rfl ⟨rfl,_,rfl,Z0 ?_⟩;refine C3 rfl ⟨t,_,1,_,rfl,rfl,IZ.of v,rfl,y,rfl,l y (AN _ (AZ ..)),hf2,λU p=>⟨_,rfl,?_⟩⟩;cases hb:P8 y with
   | false=>exact Z0 (Z0 ⟨by show 2<=sizeLine;decide,λr j=>M r _ (p.trans (Cv.new j))⟩)
   | true =>
    refine N8 (C3 rfl ⟨t,_,1,_,rfl,rfl,IZ.of (p _ _ v),rfl,C3 rfl (y6 (.inl (IC.of (p _ _ e2))) ⟨_,rfl,?_⟩)⟩);by_cases c:y∈G
    .rw[AU c];exact Z0 ⟨by show 2<=sizeLine;decide,λr j=>M r _ (p.trans (Cv.new j))⟩
    .rw[AK c];exact N8 (Z _ p ⟨hb,c⟩)
  | tn y =>
   refine C3 rfl ⟨t,_,0,_,rfl,rfl,IZ.of v,rfl,I _ _ (B3 λN3 u=>?_)⟩;refine C3 rfl ⟨rfl,_,rfl,?_⟩;rw[g (by decide +kernel)];refine N8 (u _ _ (B3 λN4 B=>?_));refine Ek (tl:=[y]) v rfl (by show ¬(HT.JL 2 0 (some 1)=0/\HT.JL 2 2 none=2);decide) e2 (λx N=>l x (AN _ N)) (by show 1<=10;decide) λU p=>?_;by_cases c:y∈G
   .have e:([y].filter λn=>!decide (n∈G)) = []:=by rw[BR,AU c];rfl
    rw[e];refine N8 (B _ _ (B3 λN5 C=>?_));refine C3 rfl ⟨rfl,_,rfl,?_⟩;rw[g (by decide +kernel)];refine N8 (N8 (C _ _ (B3 λN6 D=>?_)));refine C3 rfl ⟨rfl,_,rfl,?_⟩;rw[g (by decide +kernel)];exact N8 (N8 (D _ _ (Z _ p c)))
   .have e:([y].filter λn=>!decide (n∈G)) = [y]:=by rw[BR,AK c];rfl
    rw[e];exact Z0 ⟨by show 2<=sizeLine;decide,λr j=>M r _ (p.trans (Cv.new j))⟩
  | ps x y =>
   have W:¬(HT.JL 3 0 (some 1)=0/\HT.JL 3 3 none=3):=by decide
   have ox:PySem.PyData.strOk x=true/\PySem.PyData.strOk y=true:=⟨l x (AN _ (AZ ..)),l y (AN _ (AN _ (AZ ..)))⟩;have O:∀q∈ps,PySem.PyData.strOk q.2.1=true/\PySem.PyData.strOk q.2.2=true:=λq J=>⟨ok _ (st.nm q J).1,ok _ (st.nm q J).2⟩;refine C3 rfl ⟨t,_,0,_,rfl,rfl,IZ.of v,rfl,I _ _ (B3 λN3 u=>?_)⟩;refine C3 rfl ⟨rfl,_,rfl,?_⟩;rw[g (by decide +kernel)];refine N8 (u _ _ (B3 λN4 B=>?_));refine Ek (tl:=[x,y]) v rfl W e2 (λx N=>l x (AN _ N)) (by show 2<=10;decide) λU p=>?_;rw[zBs];by_cases c:x∈G/\y∈G
   .rw[AU c];refine N8 (B _ _ (B3 λN5 C=>?_));refine C3 rfl ⟨rfl,_,rfl,?_⟩;refine Z0 (C3 rfl ⟨1,rfl,t,_,rfl,IZ.of (p _ _ v),W,λY R=>C3 rfl ?_⟩);have u2:=Cv.new (o:=.tup [.str x,.str y]) R;have f2:(HX U Y (.tup [.str x,.str y])) Y=some (.tup [.str x,.str y]):=A7;have L:=p.trans u2;refine Zo (k:=(x,y)) f2 (L _ _ e3) (λq J=>L _ _ (S q J).1) ox O ⟨_,rfl,?_⟩;by_cases m:(x,y)∈ps.map λq=>q.2
    .rw[AU m];exact Z0 ⟨by show 2<=sizeLine;decide,λr j=>M r _ (L.trans (Cv.new j))⟩
    .rw[AK m];refine N8 (C _ _ (B3 λN6 D=>?_));refine C3 rfl ⟨rfl,_,rfl,?_⟩;rw[g (by decide +kernel)];exact N8 (N8 (D _ _ (Z _ L ⟨c.1,c.2,m⟩)))
   .rw[AK c];exact Z0 ⟨by show 2<=sizeLine;decide,λr j=>M r _ (p.trans (Cv.new j))⟩
  | ts x y =>
   have W:¬(HT.JL 3 0 (some 1)=0/\HT.JL 3 3 none=3):=by decide
   have ox:PySem.PyData.strOk x=true/\PySem.PyData.strOk y=true:=⟨l x (AN _ (AZ ..)),l y (AN _ (AN _ (AZ ..)))⟩;have O:∀q∈ps,PySem.PyData.strOk q.2.1=true/\PySem.PyData.strOk q.2.2=true:=λq J=>⟨ok _ (st.nm q J).1,ok _ (st.nm q J).2⟩;refine C3 rfl ⟨t,_,0,_,rfl,rfl,IZ.of v,rfl,I _ _ (B3 λN3 u=>?_)⟩;refine C3 rfl ⟨rfl,_,rfl,?_⟩;rw[g (by decide +kernel)];refine N8 (u _ _ (B3 λN4 B=>?_));refine Ek (tl:=[x,y]) v rfl W e2 (λx N=>l x (AN _ N)) (by show 2<=10;decide) λU p=>?_;rw[zBs];by_cases c:x∈G/\y∈G
   .rw[AU c];refine N8 (B _ _ (B3 λN5 C=>?_));refine C3 rfl ⟨rfl,_,rfl,?_⟩;rw[g (by decide +kernel)];refine N8 (N8 (C _ _ (B3 λN6 D=>?_)));refine C3 rfl ⟨rfl,_,rfl,?_⟩;refine Z0 (C3 rfl ⟨1,rfl,t,_,rfl,IZ.of (p _ _ v),W,λY R=>C3 rfl ?_⟩);have u2:=Cv.new (o:=.tup [.str x,.str y]) R;have f2:(HX U Y (.tup [.str x,.str y])) Y=some (.tup [.str x,.str y]):=A7;have L:=p.trans u2;refine Dm (k:=(x,y)) f2 (L _ _ e3) (λq J=>L _ _ (S q J).1) ox O ⟨_,rfl,?_⟩;by_cases m:(x,y)∈ps.map λq=>q.2
    .rw[AU m];exact N8 (D _ _ (Z _ L ⟨c.1,c.2,m⟩))
    .rw[AK m];exact Z0 ⟨by show 2<=sizeLine;decide,λr j=>M r _ (L.trans (Cv.new j))⟩
   .rw[AK c];exact Z0 ⟨by show 2<=sizeLine;decide,λr j=>M r _ (p.trans (Cv.new j))⟩
def IS.names(ss:A0 Str):IS->A0 Str
 | .pn y=>ss ++ [y]
 | .tn y=>ss.filter λn=>!decide (n=y)
 | _=>ss
def IS.prs(c:A0 (Str×Str)):IS->A0 (Str×Str)
 | .pn _=>c
 | .tn y=>c.filter λq=>!decide (y=q.1\/y=q.2)
 | .ps a b=>c ++ [(a,b)]
 | .ts a b=>c.filter λq=>!decide (q =(a,b))
def IS.spread(ps:A0 IL):IS->A0 Str
 | .pn y=>[y]
 | .tn y=>(ps.filter λq=>decide (q.2.1=y)&&!decide (q.2.2=y)).map λq=>q.2.2
 | .ps _ b=>[b]
 | .ts _ b=>[b]
def Zg{K:VA}{a D:A3}{b:A0 IL}{r:St}{n:TT}{o:TE}{H:Hp}{Q:St->Hp->Prop}(p:IL->Bool)(e:H a=some (.lst (G0 b)))(A:b.length<=1000)(s:H D=none)
  (B:∀y∈b,∀d,Cv H d->∀k:Bool->Hp->Prop,k (p y) d->n (some (.ref y.1)::r) d k) (C:∀y∈b,∀d,Cv H d->∀k:VK,k (.str y.2.2) d->o (some (.ref y.1)::r) d k) (h:∀σ l,Cv H l->l D=some (.lst (((b.filter p).map λq=>q.2.2).map V.str))->Q σ l) (t:A5 V) :
  Au (P5 0) n (Y6 D o) (P7 K a) (t::r) (HX H D (.lst [])) Q:=by
 refine O9 (O_ (K:=K) (IC.of e)) (λi σ f=>(∃v,σ=v::r)/\Cv H f/\f D=some (.lst ((((b.take i).filter p).map λq=>q.2.2).map V.str)))
  ⟨⟨_,rfl⟩,Cv.new s,A7⟩ (λi σ d _ ⟨_,E,_⟩=>E.at a) ?_ ?_
 .rintro i σ f v N m ⟨⟨t,rfl⟩,g,j⟩ u;unfold G0 at m;rw[AH]at m;obtain⟨y,w,rfl⟩:=BH.mp m;have x:(b.take (i+1)).filter p =(b.take i).filter p++if p y=true then [y]else []:=by
   rw[D8 w,CT,BR,D_]
  have z:=BB w;have F:=BC p (b.take i);rw[A_]at F;refine B y z f g _ (Y7 (λc=>C y z f g _ ⟨_,j,by rw[AB,AB,sizeLine_eq];lia,u _ _ ⟨⟨_,rfl⟩,g.upd s,?_⟩⟩) (λc=>u _ _ ⟨⟨_,rfl⟩,g,?_⟩))
  .rw[A7,x,AO c,AL,AL];rfl
  .rw[x,AI c,CC];exact j
 .rintro σ f ⟨_,g,j⟩;unfold G0 at j;rw[AB,BN]at j;exact h σ f g j
theorem JB:HZ ["_law_own","_law_deed_here","_law_names","_law_strikes","_law_word","_law_name","_law_spread"] ["_law_own","_law_deed_here"] (B6 MQ):=KL
def Nl:Sp:=λh H Q _=>∃(X:A0 A3) (o t:A3) (e:A0 Str) (ps:A0 IL) (d:IS),h = [.ref o,.ref t]/\(∀z∈X,H z≠none)/\JM X H o e ps/\MI H t d/\d.fit e ps/\d.can e ps/\ps.length<=199 /\
 ∀r g f a b c,Cv H c->H r=none->c r=some (.tup [.ref g,.ref f])->JM X c g a b->a=d.names e->(b.map λq=>q.2)=d.prs (ps.map λq=>q.2)->c f=some (.lst ((d.spread ps).map V.str))->H f=none->Q (.ref r) c
set_option maxHeartbeats 1000000 in
theorem Cs(T:Tx K mg):II P w K mg base JP 1 T.aU.f T.aU.fd ["_law_own","_law_deed_here"] Nl:=by
 refine T.aU.F.o1 JB λcdv A outer s H vs Q E hr h=>?_
 .obtain⟨X,o,t,ss,ps,d,rfl,hX,hO,hD,hf,hc,lp,q⟩:=h;have hu:=Q2 hr;refine⟨_,(B0 (Ab (pv 0) (pgL K (n:=2) (E5 (G5 (i:=2) JB.nd rfl (.inl rfl)) (E5 (G5 (i:=3) JB.nd rfl (.inl rfl)) R0))))
   (B0 (Ab (X9 (zHk K) (pv 1) w9 (w4 B4)) (QV K (n:=2) (E5 (G5 (i:=4) JB.nd rfl (.inl rfl)) (E5 (G5 (i:=5) JB.nd rfl (.inr rfl)) R0))))
   (B0 (K0 (B8 V2 (pv 4) C1 (C5 _)) (B5 (C0 (J5 (A6 (E7 (A6 (E9 Dr (pv 2) (E7 (A6 (pv 5) A8))) (A6 (X3 (S7 K) T.aw P1 (A6 (pv 3) A8)) A8))) (A6 (E7 (A6 (pv 5) A8)) A8))))) D9)
   (B0 (K0 (B8 V2 (pv 4) C1 (C5 _)) (B0 (U9 (i:=6) (N':=["_law_pair","_law_name"]) (cap:=[none,some 5]) (cl:=[("_law_name",_)]) JB.nd rfl (.inl rfl) (N0 ⟨⟨rfl,rfl,rfl,rfl⟩,trivial⟩ ⟨rfl,trivial⟩) rfl (MT K (pv 3)) (λ_ _ _ _=>by exact⟨(LV 0),(K5 (PW.pt (Bq (B8 V2 (E6 (OM K) (pv 0) B4 (λ_ _=>rfl)) (pv 1) (C5 _)) (i7 (B8 Co (E6 (OM K) (pv 0) B4 (λ_ _=>rfl)) (pv 1) (C5 _)))))),(E6 (OM K) (pv 0) B4 (λ_ _=>rfl))⟩))
   (B5 (C0 (J5 (A6 (E7 (A6 (U7 (N':=["_law_one","_law_name"]) (cap:=[none,some 5]) (cl:=[("_law_name",_)]) (N0 ⟨⟨rfl,rfl,rfl,rfl⟩,trivial⟩ ⟨rfl,trivial⟩) rfl (MT K (pv 2)) (λ_ _ _ _=>by exact⟨(LV 0),(K5 (B8 Co (pv 0) (pv 1) (C5 _))),(pv 0)⟩)) (A6 (U7 (N':=["_law_pair","_law_name"]) (cap:=[none,some 5]) (cl:=[("_law_name",_)]) (N0 ⟨⟨rfl,rfl,rfl,rfl⟩,trivial⟩ ⟨rfl,trivial⟩) rfl (MT K (pv 3)) (λ_ _ _ _=>by exact⟨(LV 0),(K5 (B8 (T6 K) (pv 1) (pv 0) rfl)),(pv 0)⟩)) A8))) (A6 (pv 6) A8)))))) D9)
   (B0 (K0 (B8 V2 (pv 4) C1 (C5 _)) (B5 (C0 (J5 (A6 (E7 (A6 (X3 (S7 K) T.aw P1 (A6 (pv 2) A8)) (A6 (E9 Dr (pv 3) (E7 (A6 (X9 (TK K) (pv 1) (w4 B4) w9) A8))) A8))) (A6 (E7 (A6 (E6 (OM K) (pv 1) B4 (λ_ _=>rfl)) A8)) A8))))) D9)
   (B5 (C0 (J5 (A6 (E7 (A6 (X3 (S7 K) T.aw P1 (A6 (pv 2) A8)) (A6 (U7 (N':=["_law_pair","_law_deed_here"]) (cap:=[none,some 1]) (cl:=[("_law_deed_here",_)]) (N0 ⟨⟨rfl,rfl,rfl,rfl⟩,trivial⟩ ⟨rfl,trivial⟩) rfl (MT K (pv 3)) (λ_ _ _ _=>by exact⟨(LV 0),(K5 (B8 (Gc K hr.units) (pv 0) (X9 (TK K) (pv 1) (w4 B4) w9) (C5 _))),(pv 0)⟩)) A8))) (A6 (E7 (A6 (E6 (OM K) (pv 1) B4 (λ_ _=>rfl)) A8)) A8)))))))))),?_⟩
  obtain⟨⟨a,b,e1,e2,e3,n1,n2,n3⟩,k,nm,st⟩:=id hO;obtain⟨et,okd⟩:=id hD;have ok:∀x∈ss,PySem.PyData.strOk x=true:=λx hx=>O7 (nm.1 x hx);have R:∀z,H z=none->z∉X:=λz hz hx=>hX z hx hz;have fin:∀(l x y sa:A3) (U:A0 Str) (W:A0 IL) (O:Hp),Cv H O->O l=some (.lst [.ref x,.ref y])->O x=some (.lst (U.map V.str))->O y=some (.lst (G0 W))->H l=none->H x=none->H y=none ->
    (∀q∈W,G6 O q/\q.1∉X)->X5 U->ME U W->U=d.names ss->(W.map λq=>q.2)=d.prs (ps.map λq=>q.2)->O sa=some (.lst ((d.spread ps).map V.str))->H sa=none->∀r,O r=none->Q (.ref r) (HX O r (.tup [.ref l,.ref sa])) :=
   λl x y sa U W O s el ex ey l0 x0 y0 pn nm2 st2 hn hp hsa s0 r hr=>by
    have u:=Cv.new (o:=.tup [.ref l,.ref sa]) hr;exact q r l sa U W _ (s.trans u) (s.free hr) A7 ⟨⟨x,y,u _ _ el,u _ _ ex,u _ _ ey,R l l0,R x x0,R y y0⟩,λq m=>⟨u _ _ (pn q m).1,(pn q m).2⟩,nm2,st2⟩ hn hp (u _ _ hsa) s0
  refine B3 λN1 hN1=>?_;refine⟨_,rfl,o,_,rfl,IC.of e1,rfl,_,C3 rfl (B9 rfl rfl (hN1 _ _ (B3 λN2 hN2=>?_)))⟩;have g:∀{x y:Str},x≠y->decide (V.str x=V.str y)=false:=λh=>AK λz=>h (V.str.inj z);cases d with
  | pn y =>
   obtain⟨hc1,hc2⟩:=hc;refine C3 rfl ⟨2,rfl,.inr ⟨t,_,rfl,IZ.of et,by show HT.JL 2 0 none=0/\HT.JL 2 2 (some 2)=2;decide,?_⟩⟩;refine⟨t,_,rfl,IZ.of et,rfl,_,C3 rfl (B9 rfl rfl (hN2 _ _ (B3 λN3 Y=>?_)))⟩;refine C3 rfl ⟨rfl,_,rfl,Z0 ?_⟩;refine C3 rfl (C3 rfl ⟨by show 1<=sizeLine;decide,λl1 hl1=>?_⟩);have u1:=Cv.new (o:=.lst [V.str y]) hl1;have f1:(HX H l1 (.lst [V.str y])) l1=some (.lst [V.str y]):=A7;generalize HX H l1 (.lst [V.str y])=O at u1 f1⊢;refine⟨a,l1,_,_,rfl,rfl,u1 _ _ e2,f1,by rw[AB,sizeLine_eq];show ss.length+1<=_;have:=hf.1;lia,λj G=>?_⟩;have u2:=Cv.new (o:=.lst (ss.map V.str ++ [V.str y])) G;have Z:(HX O j (.lst (ss.map V.str ++ [V.str y]))) j=some (.lst ((ss ++ [y]).map V.str)):=by rw[A7,AL];rfl
   generalize HX O j (.lst (ss.map V.str ++ [V.str y]))=H2 at u2 Z⊢;have D:=u1.trans u2;refine C3 rfl ⟨b,_,rfl,.inl (IC.of (D _ _ e3)),λI hl3=>?_⟩;have u3:=Cv.new (o:=.lst (G0 ps)) hl3;have f3:(HX H2 I (.lst (G0 ps))) I=some (.lst (G0 ps)):=A7;have Z:=u3 _ _ Z;generalize HX H2 I (.lst (G0 ps))=M at u3 Z f3⊢;have N:=D.trans u3;refine⟨by show 2<=sizeLine;decide,λC p=>?_⟩;have B:=Cv.new (o:=.lst [.ref j,.ref I]) p;have S:(HX M C (.lst [.ref j,.ref I])) C=some (.lst [.ref j,.ref I]):=A7;generalize HX M C (.lst [.ref j,.ref I])=H4 at B S⊢;have s4:=N.trans B;refine C3 rfl ⟨by show 1<=sizeLine;decide,λl5 J=>?_⟩;have u5:=Cv.new (o:=.lst [V.str y]) J;have u45:=B.trans u5;have s5:=s4.trans u5;refine⟨by show 2<=sizeLine;decide,fin C j I l5 (ss ++ [y]) ps _ s5 (u5 _ _ S) (u45 _ _ Z) (u45 _ _ f3) (N.free p) (u1.free G) (D.free hl3) (λq m=>⟨s5 _ _ (k q m).1,(k q m).2⟩) ⟨λn hn=>(AJ.mp hn).elim (nm.1 n) λc=>by rw[AC.mp c];exact hc1,CH.mpr ⟨nm.2.1,CD.mpr ⟨AQ,DC⟩,λc hc d hd e=>hc2 (by rw[<-AC.mp hd,<-e];exact hc)⟩,by rw[AS];have:=hf.1;show ss.length+1<=100;lia⟩ ⟨λq m=>⟨AJ.mpr (.inl (st.nm q m).1),AJ.mpr (.inl (st.nm q m).2)⟩,st.nd,st.len⟩ rfl rfl A7 (s4.free J)⟩
  | tn y =>
   have v:∀z:Str,decide (V.str z=V.str y)=decide (z=y):=λz=>EK.mpr ⟨λe=>V.str.inj e,λe=>congrArg V.str e⟩;refine C3 rfl ⟨2,rfl,.inr ⟨t,_,rfl,IZ.of et,by show HT.JL 2 0 none=0/\HT.JL 2 2 (some 2)=2;decide,?_⟩⟩;refine⟨t,_,rfl,IZ.of et,rfl,_,C3 rfl (B9 rfl rfl (hN2 _ _ (B3 λN3 Y=>?_)))⟩;refine C3 rfl ⟨rfl,_,rfl,?_⟩;rw[g (by decide +kernel)];refine N8 (Y _ _ (B3 λN4 hN4=>?_));refine C3 rfl ⟨rfl,_,rfl,Z0 (B3 λN5 hN5=>?_)⟩;have OX:ps.length<=1000:=by lia
   refine C3 rfl ⟨b,rfl,⟨_,IC.of e3⟩,λD1 hD1=>?_⟩;refine Zg (λq=>decide (q.2.1=y)&&!decide (q.2.2=y)) e3 OX hD1 (λz hz O s1 Q' hQ=>?_) (λz hz O s1 Q' hQ=>?_) (λσ O s1 f1=>?_) _
   .have ez:=s1 _ _ (k z hz).1;refine C3 rfl ⟨z.1,_,0,_,rfl,rfl,IZ.of ez,rfl,C3 rfl ⟨rfl,_,rfl,?_⟩⟩;rw[v];by_cases c:z.2.1=y
    .rw[AU c];refine Z0 (C3 rfl ⟨z.1,_,1,_,rfl,rfl,IZ.of ez,rfl,C3 rfl ⟨rfl,_,rfl,?_⟩⟩);rw[v];rw[AU c,HR]at hQ;exact hQ
    .rw[AK c];rw[AK c,DP]at hQ;exact N8 hQ
   .exact C3 rfl ⟨z.1,_,1,_,rfl,rfl,IZ.of (s1 _ _ (k z hz).1),rfl,hQ⟩
   refine hN5 _ _ ?_;refine C3 rfl ⟨a,rfl,⟨_,IC.of (s1 _ _ e2)⟩,λD2 hD2=>?_⟩;refine U1 (λn=>!decide (n=y)) (s1 _ _ e2) (by have:=nm.2.2;lia) hD2 (λz hz H2 D Q' hQ=>?_) (λσ H2 D Z=>?_) _
   .refine C3 rfl (C3 rfl ⟨rfl,_,rfl,?_⟩);rw[v];exact hQ H2 λb o e=>e
   have s12:=s1.trans D;refine C3 rfl ⟨b,rfl,⟨_,IC.of (s12 _ _ e3)⟩,λD3 hD3=>?_⟩;refine Lh (λq=>!decide (y=q.2.1\/y=q.2.2)) (s12 _ _ e3) OX hD3 (λz hz M N Q' hQ=>?_) (λσ M N f3=>?_) _
   .have ez:=N _ _ (s12 _ _ (k z hz).1);refine C3 rfl (C3 rfl (P4 (ss:=[z.2.1,z.2.2]) (.inr (IZ.of ez)) ⟨_,rfl,?_⟩));have:(!decide (y∈[z.2.1,z.2.2]))=!decide (y=z.2.1\/y=z.2.2):=congrArg Bool.not (EK.mpr (by rw[AW,AC]));rw[this];exact hQ M λb o e=>e
   have s13:=s12.trans N;refine⟨by show 2<=sizeLine;decide,λC p=>?_⟩;have B:=Cv.new (o:=.lst [.ref D2,.ref D3]) p;have S:(HX M C (.lst [.ref D2,.ref D3])) C=some (.lst [.ref D2,.ref D3]):=A7;generalize HX M C (.lst [.ref D2,.ref D3])=H4 at B S⊢;have s14:=s13.trans B;refine C3 rfl ⟨by show 2<=sizeLine;decide,fin C D2 D3 D1 _ _ H4 s14 S (B _ _ (N _ _ Z)) (B _ _ f3) (s13.free p) (s1.free hD2) (s12.free hD3) (λq m=>⟨s14 _ _ (k q (AV.mp m).1).1,(k q (AV.mp m).1).2⟩) ⟨λn hn=>nm.1 n (AV.mp hn).1,nm.2.1.filter _,VE (BC ..) nm.2.2⟩ ⟨λq m=>?_,st.nd.sublist (GV.map _),VE (BC ..) st.len⟩ rfl (by show _=List.filter (λq:Str×Str=>!decide (y=q.1\/y=q.2)) (ps.map λq=>q.2);rw[HC];rfl) (((D.trans N).trans B) _ _ f1) hD1⟩;obtain⟨q1,q2⟩:=AV.mp m;have q3:¬(y=q.2.1\/y=q.2.2):=by simpa using q2
   exact⟨AV.mpr ⟨(st.nm q q1).1,by rw[AK λe=>q3 (.inl e.symm)];rfl⟩,AV.mpr ⟨(st.nm q q1).2,by rw[AK λe=>q3 (.inr e.symm)];rfl⟩⟩
  | ps x y =>
   obtain⟨hx,hy,hxy⟩:=hc;refine C3 rfl ⟨2,rfl,.inl ⟨t,_,rfl,IZ.of et,by show ¬(HT.JL 3 0 none=0/\HT.JL 3 3 (some 2)=3);decide,λT1 hT1=>?_⟩⟩;have u0:=Cv.new (o:=.tup (Hx ((IS.ps x y).strs.map V.str) none (some 2))) hT1;have f0:(HX H T1 (.tup (Hx ((IS.ps x y).strs.map V.str) none (some 2)))) T1=some (.tup [.str "put_strike",.str x]):=A7;generalize HX H T1 (.tup (Hx ((IS.ps x y).strs.map V.str) none (some 2)))=H0 at u0 f0⊢;refine⟨T1,_,rfl,IZ.of f0,rfl,_,C3 rfl (B9 rfl rfl (hN2 _ _ (B3 λN3 Y=>?_)))⟩;refine C3 rfl ⟨rfl,_,rfl,?_⟩;rw[g (by decide +kernel)];refine N8 (Y _ _ (B3 λN4 hN4=>?_));refine C3 rfl ⟨rfl,_,rfl,?_⟩;rw[g (by decide +kernel)];refine N8 (hN4 _ _ (B3 λN5 hN5=>?_));refine C3 rfl ⟨rfl,_,rfl,Z0 ?_⟩;refine C3 rfl ⟨a,_,rfl,.inl (IC.of (u0 _ _ e2)),λj G=>?_⟩;have u2:=Cv.new (o:=.lst (ss.map V.str)) G;have Z:(HX H0 j (.lst (ss.map V.str))) j=some (.lst (ss.map V.str)):=A7;generalize HX H0 j (.lst (ss.map V.str))=H2 at u2 Z⊢;have D:=u0.trans u2;refine C3 rfl (C3 rfl ⟨1,rfl,t,_,rfl,IZ.of (D _ _ et),by show ¬(HT.JL 3 0 (some 1)=0/\HT.JL 3 3 none=3);decide,λL hT2=>⟨by show 1<=sizeLine;decide,λl1 hl1=>?_⟩⟩);have u3:=Cv.new (o:=.tup (Hx ((IS.ps x y).strs.map V.str) (some 1) none)) hT2;have f3:(HX H2 L (.tup (Hx ((IS.ps x y).strs.map V.str) (some 1) none))) L=some (.tup [.str x,.str y]):=A7;generalize HX H2 L (.tup (Hx ((IS.ps x y).strs.map V.str) (some 1) none))=M at u3 f3 hl1⊢;have B:=Cv.new (o:=.lst [.ref L]) hl1;have S:(HX M l1 (.lst [.ref L])) l1=some (.lst [.ref L]):=A7;generalize HX M l1 (.lst [.ref L])=H4 at B S⊢;have N:=D.trans u3;have s4:=N.trans B;refine⟨b,l1,_,_,rfl,rfl,s4 _ _ e3,S,by unfold G0;rw[AB,sizeLine_eq];show ps.length+1<=_;lia,λI hl3=>?_⟩;have u5:=Cv.new (o:=.lst (G0 ps ++ [V.ref L])) hl3;have f5:(HX H4 I (.lst (G0 ps ++ [V.ref L]))) I=some (.lst (G0 (ps ++ [(L,x,y)]))):=by rw[A7];unfold G0;rw[AL];rfl
   generalize HX H4 I (.lst (G0 ps ++ [V.ref L]))=H5 at u5 f5⊢;have s5:=s4.trans u5;refine⟨by show 2<=sizeLine;decide,λC p=>?_⟩;have u6:=Cv.new (o:=.lst [.ref j,.ref I]) p;have f6:(HX H5 C (.lst [.ref j,.ref I])) C=some (.lst [.ref j,.ref I]):=A7;generalize HX H5 C (.lst [.ref j,.ref I])=H6 at u6 f6⊢;have s6:=s5.trans u6;refine C3 rfl ⟨t,_,2,_,rfl,rfl,IZ.of (s6 _ _ et),rfl,⟨by show 1<=sizeLine;decide,λl5 J=>?_⟩⟩;have u7:=Cv.new (o:=.lst [V.str y]) J;have s7:=s6.trans u7;have u27:=(((u3.trans B).trans u5).trans u6).trans u7;have u37:=((B.trans u5).trans u6).trans u7;refine⟨by show 2<=sizeLine;decide,fin C j I l5 ss (ps ++ [(L,x,y)]) _ s7 (u7 _ _ f6) (u27 _ _ Z) ((u6.trans u7) _ _ f5) (s5.free p) (u0.free G) (s4.free hl3) (λq m=>?_) nm ⟨λq m=>?_,?_,by rw[AS];show ps.length+1<=200;lia⟩ rfl (by rw[AL];rfl) A7 (s6.free J)⟩
   .rcases AJ.mp m with c | c
    .exact⟨s7 _ _ (k q c).1,(k q c).2⟩
    .rw[AC.mp c];exact⟨u37 _ _ f3,R L (D.free hT2)⟩
   .rcases AJ.mp m with c | c
    .exact st.nm q c
    .rw[AC.mp c];exact⟨hx,hy⟩
   .rw[AL];exact CH.mpr ⟨st.nd,CD.mpr ⟨AQ,DC⟩,λc hc d hd e=>hxy (by rw[AC.mp hd]at e;exact(show c =(x,y)from e)▸hc)⟩
  | ts x y =>
   obtain⟨hx,hy,hxy⟩:=hc;have ox:PySem.PyData.strOk x=true/\PySem.PyData.strOk y=true:=⟨ok x hx,ok y hy⟩;have okp:∀q∈ps,PySem.PyData.strOk q.2.1=true/\PySem.PyData.strOk q.2.2=true:=λq m=>⟨ok _ (st.nm q m).1,ok _ (st.nm q m).2⟩;refine C3 rfl ⟨2,rfl,.inl ⟨t,_,rfl,IZ.of et,by show ¬(HT.JL 3 0 none=0/\HT.JL 3 3 (some 2)=3);decide,λT1 hT1=>?_⟩⟩;have u0:=Cv.new (o:=.tup (Hx ((IS.ts x y).strs.map V.str) none (some 2))) hT1;have f0:(HX H T1 (.tup (Hx ((IS.ts x y).strs.map V.str) none (some 2)))) T1=some (.tup [.str "take_strike",.str x]):=A7;generalize HX H T1 (.tup (Hx ((IS.ts x y).strs.map V.str) none (some 2)))=H0 at u0 f0⊢;refine⟨T1,_,rfl,IZ.of f0,rfl,_,C3 rfl (B9 rfl rfl (hN2 _ _ (B3 λN3 Y=>?_)))⟩;refine C3 rfl ⟨rfl,_,rfl,?_⟩;rw[g (by decide +kernel)];refine N8 (Y _ _ (B3 λN4 hN4=>?_));refine C3 rfl ⟨rfl,_,rfl,?_⟩;rw[g (by decide +kernel)];refine N8 (hN4 _ _ (B3 λN5 hN5=>?_));refine C3 rfl ⟨rfl,_,rfl,?_⟩;rw[g (by decide +kernel)];refine N8 (hN5 _ _ ?_);refine C3 rfl ⟨a,_,rfl,.inl (IC.of (u0 _ _ e2)),λj G=>?_⟩;have u2:=Cv.new (o:=.lst (ss.map V.str)) G;have Z:(HX H0 j (.lst (ss.map V.str))) j=some (.lst (ss.map V.str)):=A7;generalize HX H0 j (.lst (ss.map V.str))=H2 at u2 Z⊢;have D:=u0.trans u2;refine C3 rfl ⟨b,rfl,⟨_,IC.of (D _ _ e3)⟩,λD3 hD3=>?_⟩;refine Lh (λq=>!decide (q.2 =(x,y))) (D _ _ e3) (by lia) hD3 (λz hz M N Q' hQ=>?_) (λσ M N f3=>?_) _
   .have ez:=N _ _ (D _ _ (k z hz).1);refine C3 rfl (C3 rfl ⟨1,rfl,t,_,rfl,IZ.of (N _ _ (D _ _ et)),by show ¬(HT.JL 3 0 (some 1)=0/\HT.JL 3 3 none=3);decide,λL hT2=>?_⟩);have B:=Cv.new (o:=.tup (Hx ((IS.ts x y).strs.map V.str) (some 1) none)) hT2;have S:(HX M L (.tup (Hx ((IS.ts x y).strs.map V.str) (some 1) none))) L=some (.tup [.str x,.str y]):=A7;generalize HX M L (.tup (Hx ((IS.ts x y).strs.map V.str) (some 1) none))=H4 at B S⊢;refine⟨pd z.2,pd (x,y),j8 (B _ _ ez),j8 S,⟨Bw (okp z hz).1 (okp z hz).2,by simp[pd,PyData.depth,PyData.depthAll]⟩,⟨Bw ox.1 ox.2,by simp[pd,PyData.depth,PyData.depthAll]⟩,?_⟩;rw[Tm];exact⟨_,rfl,hQ _ B⟩
   have s13:=D.trans N;refine⟨by show 2<=sizeLine;decide,λC p=>?_⟩;have B:=Cv.new (o:=.lst [.ref j,.ref D3]) p;have S:(HX M C (.lst [.ref j,.ref D3])) C=some (.lst [.ref j,.ref D3]):=A7;generalize HX M C (.lst [.ref j,.ref D3])=H4 at B S⊢;have s14:=s13.trans B;refine C3 rfl ⟨t,_,2,_,rfl,rfl,IZ.of (s14 _ _ et),rfl,⟨by show 1<=sizeLine;decide,λl5 J=>?_⟩⟩;have u5:=Cv.new (o:=.lst [V.str y]) J;have u45:=B.trans u5;have s15:=s14.trans u5;exact⟨by show 2<=sizeLine;decide,fin C j D3 l5 ss _ _ s15 (u5 _ _ S) ((N.trans u45) _ _ Z) (u45 _ _ f3) (s13.free p) (u0.free G) (D.free hD3) (λq m=>⟨s15 _ _ (k q (AV.mp m).1).1,(k q (AV.mp m).1).2⟩) nm ⟨λq m=>st.nm q (AV.mp m).1,st.nd.sublist (GV.map _),VE (BC ..) st.len⟩ rfl (by show _=List.filter (λq:Str×Str=>!decide (q =(x,y))) (ps.map λq=>q.2);rw[HC];rfl) A7 (s14.free J)⟩
theorem Ef:HZ ["_law_own"] ["_law_own"] (B6 NC):=KL
def Rz:Sp:=λb H Q _=>∃(X:A0 A3) (o:A3) (a:A0 Str) (ps:A0 IL),b = [.ref o]/\JM X H o a ps/\Q (.int (1000 +(a.length:Int) *(ps.length:Int))) H
theorem Ez(T:Tx K mg):II P w K mg base JP 1 T.aX.f T.aX.fd ["_law_own"] Rz:=by
 refine T.aX.F.o1 Ef λe A c s H n Q E p h=>?_
 .obtain⟨X,o,r,ps,rfl,g,q⟩:=h;refine⟨_,(B5 (C0 (E9 T9 B4 (E9 c9 (G9 (Q0 K) T.ar N9 (A6 (E6 (K2 K) (pv 0) B4 (λ_ _=>rfl)) A8)) (G9 (Q0 K) T.ar N9 (A6 (E6 (K2 K) (pv 0) B4 (λ_ _=>rfl)) A8)))))),?_⟩;obtain⟨⟨a,b,d,i,j,t,u,v⟩,k,l,st⟩:=id g;have x:=l.2.2;have y:=st.len;refine C3 rfl ⟨o,_,0,_,rfl,rfl,IC.of d,rfl,a,_,rfl,.inl (IC.of i),C3 rfl ⟨o,_,1,_,rfl,rfl,IC.of d,rfl,b,_,rfl,.inl (IC.of j),?_⟩⟩;have m:(G0 ps).length=ps.length:=by unfold G0;rw[AB]
  rw[AB,m];exact B9 rfl rfl ⟨.inl ⟨by lia,by lia⟩,B9 rfl rfl q⟩
def Pj:Sp:=λ_ _ _ _=>False
theorem zAa{f:A3}{a:IT}{ps:A0 Str}:II P w K mg base JP 0 f a ps Pj:=⟨λ_ _ _ _ h=>h.elim,λ_ _ _ _ _ _ _ _ _ _ _ _ _ h=>h.elim⟩
theorem II.calm{P:HU}{w:HW}{K:VA}{mg:Str->A5 A2}{base:H_}{CX:QR}{k:Nat}{f:A3}{b:IT}{ps:A0 Str}{sp:Sp}(F:II P w K mg base JP k f b ps sp):II P w K mg base CX k f b ps sp :=
 ⟨F.len,λA a s H args c d Q E g i j l m=>FJ (F.run A a s H args c d Q E g i j l m) λr n h=>by
  cases r with
  | ok v=>cases v<;>exact h
  | error e=>exact h.elim⟩
def IS.lead(a:A0 IL):IS->A0 Str
 | .pn y=>[y]
 | .tn y=>(C2 a y).filter λn=>!decide (n=y)
 | .ps _ b=>[b]
 | .ts _ b=>[b]
theorem I_:HZ ["_law_keeper","_law_deed_here","_law_caught","_law_found","_law_error"] ["_law_keeper","_law_deed_here"] (B6 OE):=KL
def Wi(g h:A3):Sp:=λj H Q _=>∃(k p t:A3) (e:A0 Str) (c:A0 IL) (n:A0 Str) (m:Nat) (d:IS),j = [.ref k,.ref t]/\KN g h H k p e c n m/\m<=1000/\MI H t d/\d.fit e c/\d.can e c /\
 ∀r l i a b ts f,Bt k p H f->H r=none->H l=none->(eK f k p) r=some (.tup [.str "told",.ref l])->KN g h f k p a b ts (m+1)->QD e c a b (d.lead c) ts->a.Perm (d.names e)->(b.map λq=>q.2).Perm (d.prs (c.map λq=>q.2))->R3 (eK f k p) l i->(i.map λq=>q.2)=Cr (WG e c) (G8 (B2 b)) a->Q (.ref r) f
set_option maxHeartbeats 1000000 in
theorem Ju(T:Tx K mg):II P w K mg base JP 9 T.a8.f T.a8.fd ["_law_keeper","_law_deed_here"] (Wi T.aa T.ad):=by
 have n:II P w K mg base (RU P w) 8 T.aq.f T.aq.fd ["self","name"] (Bi T.aa T.ad):=Sw.II.calm (n9 T);have j:II P w K mg base (RU P w) 8 T.ap.f T.ap.fd ["self","name"] (Aj T.aa T.ad):=Sw.II.calm (i5 T);have c:II P w K mg base (RU P w) 8 T.am.f T.am.fd ["self","one","other"] (l9 T.aa T.ad):=Sw.II.calm (Y8 T);have a:II P w K mg base (RU P w) 8 T.al.f T.al.fd ["self","one","other"] (Z9 T.aa T.ad):=Sw.II.calm (X6 T);have C:II P w K mg base JP 0 T.bh.f T.bh.fd ["_law_error"] Pj:=zAa;refine T.a8.F.o1 I_ λcdv A outer s H vs Q E I h=>?_
 .obtain⟨k,p,t,N,O,rk,m,d,rfl,hK,lm,hD,hf,R,q⟩:=h;have hu:=Q2 I;refine⟨_,(B0 (C6 (i:=2) I_.nd rfl (.inl rfl) g7)
   (B0 (C6 (i:=3) I_.nd rfl (.inl rfl) g7)
   (B0 (Yq (i:=4) (λ_ _ z=>z) rfl rfl I_.nd rfl rfl rfl T.bw T.bv (Ti (λ_ _ z=>z) (B8 V2 (E6 (OM K) (pv 1) B4 (λ_ _=>rfl)) C1 (C5 _)) (Fa (i:=3) I_.nd rfl (.inl rfl) (Bc (λ_ _ z=>z) (pv 0) T.ab T.aq.m n (Rm I) T.aq.b (A6 (E6 (OM K) (pv 1) B4 (λ_ _=>rfl)) A8))) (Ti (λ_ _ z=>z) (B8 V2 (E6 (OM K) (pv 1) B4 (λ_ _=>rfl)) C1 (C5 _)) (Fa (i:=3) I_.nd rfl (.inl rfl) (Bc (λ_ _ z=>z) (pv 0) T.ab T.ap.m j (Rm I) T.ap.b (A6 (E6 (OM K) (pv 1) B4 (λ_ _=>rfl)) A8))) (Ti (λ_ _ z=>z) (B8 V2 (E6 (OM K) (pv 1) B4 (λ_ _=>rfl)) C1 (C5 _)) (Fa (i:=3) I_.nd rfl (.inl rfl) (Bc (λ_ _ z=>z) (pv 0) T.ab T.am.m c (Rm I) T.am.b (A6 (E6 (OM K) (pv 1) B4 (λ_ _=>rfl)) (A6 (E6 (OM K) (pv 1) B4 (λ_ _=>rfl)) A8)))) (Fa (i:=3) I_.nd rfl (.inl rfl) (Bc (λ_ _ z=>z) (pv 0) T.ab T.al.m a (Rm I) T.al.b (A6 (E6 (OM K) (pv 1) B4 (λ_ _=>rfl)) (A6 (E6 (OM K) (pv 1) B4 (λ_ _=>rfl)) A8)))))))
   (λ_=>(B5 (C6 (i:=2) I_.nd rfl (.inl rfl) (pv 4)))))
   (B5 (C0 (Fc (B8 Pf (pv 2) g7 (C5 _)) (J5 (A6 C1 (A6 (pv 3) A8))) (J5 (A6 C1 (A6 (E4 T.bh C (Rm I) (A6 (pv 2) A8)) A8))))))))),?_⟩
  obtain⟨dk,x0,g0,r0,kv0,ks0,rl0,pl0,hk,_,_,_,_,_,hp,_⟩:=id hK.ex;obtain⟨D,okd⟩:=id hD;have g:∀{x y:Str},x≠y->decide (V.str x=V.str y)=false:=λh=>AK λz=>h (V.str.inj z);have S:∀(l:A3) (J:A0 (A3×Row3)) (B ts:A0 Str) (v:A0 IL) (G:Hp),Bt k p H G->H l=none->KN T.aa T.ad G k p B v ts (m+1)->QD N O B v (d.lead O) ts->B.Perm (d.names N)->(v.map λq=>q.2).Perm (d.prs (O.map λq=>q.2))->R3 (eK G k p) l J->(J.map λq=>q.2)=Cr (WG N O) (G8 (B2 v)) B->∀r,G r=none->Q (.ref r) (HX G r (.tup [.str "told",.ref l])) :=
   λl J B ts v G L U M W pn X Y Z r I=>by
    obtain⟨dk1,x1,g1,r1,kv1,ks1,rl1,pl1,hk1,_,_,_,_,_,hp1,_⟩:=M.ex;have rk:r≠k:=(A9 hk1 I).symm;have rp:r≠p:=(A9 hp1 I).symm;have u:=Cv.new (o:=.tup [.str "told",.ref l]) I;have r0:H r=none:=by
     cases e:H r with
     | none=>rfl
     | some o=>rw[L r o rk rp e]at I;cases I
    exact q r l J B v ts _ (L.trans (Bt.of u)) r0 U (by rw[W9 rk rp];exact A7) (M.same u) W pn X (Y.same (Bt.of u).eK) Z
  refine B3 λN1 hN1=>?_;refine hN1 _ _ (B3 λN2 hN2=>hN2 _ _ (B3 λN3 hN3=>?_));cases d with
  | pn y =>
   refine C3 rfl ⟨t,_,0,_,rfl,rfl,IZ.of D,rfl,⟨rfl,_,rfl,Z0 ?_⟩⟩;refine C3 rfl ⟨k,dk,C3 rfl ⟨hk,rfl,C3 rfl ⟨t,_,1,_,rfl,rfl,IZ.of D,rfl,?_⟩⟩⟩;refine⟨k,p,y,N,O,rk,m,rfl,hK,lm,R.1,R.2,by have:=hf.1;lia,λl J B v ts G L M W pn X U Y Z=>hN3 _ _ ?_⟩;exact C3 rfl ⟨rfl,_,rfl,Z0 (C3 rfl ⟨by show 2<=sizeLine;decide,S l J B ts v G L U M W pn (X.map _) Y Z⟩)⟩
  | tn y =>
   refine C3 rfl ⟨t,_,0,_,rfl,rfl,IZ.of D,rfl,⟨rfl,_,rfl,?_⟩⟩;rw[g (by decide +kernel)];refine N8 (C3 rfl ⟨t,_,0,_,rfl,rfl,IZ.of D,rfl,⟨rfl,_,rfl,Z0 ?_⟩⟩);refine C3 rfl ⟨k,dk,C3 rfl ⟨hk,rfl,C3 rfl ⟨t,_,1,_,rfl,rfl,IZ.of D,rfl,?_⟩⟩⟩;refine⟨k,p,y,N,O,rk,m,rfl,hK,lm,R,λl J B v ts G L M W en X U Y Z=>hN3 _ _ ?_⟩;exact C3 rfl ⟨rfl,_,rfl,Z0 (C3 rfl ⟨by show 2<=sizeLine;decide,S l J B ts v G L U M W (.of_eq en) X Y Z⟩)⟩
  | ps x y =>
   refine C3 rfl ⟨t,_,0,_,rfl,rfl,IZ.of D,rfl,⟨rfl,_,rfl,?_⟩⟩;rw[g (by decide +kernel)];refine N8 (C3 rfl ⟨t,_,0,_,rfl,rfl,IZ.of D,rfl,⟨rfl,_,rfl,?_⟩⟩);rw[g (by decide +kernel)];refine N8 (C3 rfl ⟨t,_,0,_,rfl,rfl,IZ.of D,rfl,⟨rfl,_,rfl,Z0 ?_⟩⟩);refine C3 rfl ⟨k,dk,C3 rfl ⟨hk,rfl,C3 rfl ⟨t,_,1,_,rfl,rfl,IZ.of D,rfl,C3 rfl ⟨t,_,2,_,rfl,rfl,IZ.of D,rfl,?_⟩⟩⟩⟩;refine⟨k,p,x,y,N,O,rk,m,rfl,hK,lm,R.1,R.2.1,R.2.2,by have:O.length+1<=140:=hf;lia,λl J v ts G L M W X U Y Z=>hN3 _ _ ?_⟩;exact C3 rfl ⟨rfl,_,rfl,Z0 (C3 rfl ⟨by show 2<=sizeLine;decide,S l J N ts v G L U M W (.refl _) X Y Z⟩)⟩
  | ts x y =>
   refine C3 rfl ⟨t,_,0,_,rfl,rfl,IZ.of D,rfl,⟨rfl,_,rfl,?_⟩⟩;rw[g (by decide +kernel)];refine N8 (C3 rfl ⟨t,_,0,_,rfl,rfl,IZ.of D,rfl,⟨rfl,_,rfl,?_⟩⟩);rw[g (by decide +kernel)];refine N8 (C3 rfl ⟨t,_,0,_,rfl,rfl,IZ.of D,rfl,⟨rfl,_,rfl,?_⟩⟩);rw[g (by decide +kernel)];refine N8 ?_;refine C3 rfl ⟨k,dk,C3 rfl ⟨hk,rfl,C3 rfl ⟨t,_,1,_,rfl,rfl,IZ.of D,rfl,C3 rfl ⟨t,_,2,_,rfl,rfl,IZ.of D,rfl,?_⟩⟩⟩⟩;refine⟨k,p,x,y,N,O,rk,m,rfl,hK,lm,R.1,R.2.1,R.2.2,λl J v ts G L M W X U Y Z=>hN3 _ _ ?_⟩;exact C3 rfl ⟨rfl,_,rfl,Z0 (C3 rfl ⟨by show 2<=sizeLine;decide,S l J N ts v G L U M W (.refl _) X Y Z⟩)⟩
def Sn:Sp:=λ_ _ _ _=>False
def Vh{K:VA}{x:Str}{H:Hp}{Q:VK}(o:PySem.PyData.strOk x=true)(q:Q (.bl true) H):SW K (.str x) (.str x) H Q:=by
 have e:Rp K H (.str x) (.str x):=by simp only[Rp]
 have p:Pl (.str x):=⟨by rw[PyData.canLay0];exact o,by rw[PyData.depth];decide⟩;exact⟨_,_,e,e,p,p,by rw[PySem.SeqAt.eqv_refl _ p.1];exact q⟩
def tyB(b:Bool):A2:=.type (bif b then "list" else "tuple")
def zBo{K:VA}:∀b,PySem.W.kitOne K (tyB b) (.type "list")=some b
 | true=>rfl
 | false=>rfl
def zCe{K:VA}:∀b,PySem.W.kitOne K (tyB b) (.type "tuple")=some !b
 | true=>rfl
 | false=>rfl
def zFi{K:VA}:∀b,PySem.W.kitAny K (tyB b) (["list","tuple"].map Value.type)=some true
 | true=>rfl
 | false=>rfl
def zBr(b:Bool):(!decide (V.bl b=V.bl b))=false:=congrArg _ (AU rfl)
def LT(b:Bool)(xs:A0 V):HO:=bif b then .lst xs else .tup xs
def Rf{K:VA}{H:Hp}{l:A3}{xs:A0 V}:∀{b:Bool},H l=some (LT b xs)->MD K H (.ref l) (tyB b)
 | true,h=>.lst h
 | false,h=>.tup h
def zDb{H:Hp}{l:A3}{xs:A0 V}:∀{b:Bool},H l=some (LT b xs)->H l=some (.lst xs)\/H l=some (.tup xs)
 | true,h=>.inl h
 | false,h=>.inr h
def sqB(K:VA)(b:Bool):Hp->A3->A0 V->Prop:=bif b then IC K else IZ K
def No{K:VA}{H:Hp}{l:A3}{xs:A0 V}:∀{b:Bool},H l=some (LT b xs)->sqB K b H l xs
 | true,h=>IC.of h
 | false,h=>IZ.of h
def Xp{K:VA}{H:Hp}{l:A3}{xs:A0 V}{b:Bool}(h:H l=some (LT b xs)):QK K H l xs:=(zDb h).imp IC.of IZ.of
def zCi{K:VA}{H:Hp}{l m:A3}{xs c:A0 V}{R:It->Hp->Prop}:∀{b:Bool},H l=some (LT b xs)->H m=some (LT b c)->R (SS (sqB K b) l m) H->zGk K R l m xs c H
 | true,h,a,q=>.inl ⟨IC.of h,IC.of a,q⟩
 | false,h,a,q=>.inr ⟨IZ.of h,IZ.of a,q⟩
theorem Jq:HZ ["_law_found","_law_due"] ["_law_found","_law_due"] (B6 OA):=KL
theorem Yx{f:A3}{a:IT}{ps:A0 Str}:II P w K mg base JP 0 f a ps Sn:=⟨λ_ _ _ _ h=>h.elim,λ_ _ _ _ _ _ _ _ _ _ _ _ _ h=>h.elim⟩
def Tt(S:Sp):Sp:=λg H Q _=>(∃a:Str,g = [.str a,.str a]/\PySem.PyData.strOk a=true/\∀c,Cv H c->Q (.bl true) c) \/
 ∃(l m:A3) (b:Bool) (e f:A0 V),g = [.ref l,.ref m]/\H l=some (LT b e)/\H m=some (LT b f)/\e.length=f.length/\e.length<=1000 /\
  (∀(i:Nat) (x y:V) (c:Hp) (h:VK) (E:XK),e[i]?=some x->f[i]?=some y->Cv H c->(∀d,Cv c d->h (.bl true) d)->S [x,y] c h E)/\∀c,Cv H c->Q (.bl true) c
theorem Hm(T:Tx K mg){n:Nat}{S:Sp}(c:II P w K mg base JP n T.au.f T.au.fd ["_law_found","_law_due"] S):II P w K mg base JP (n+1) T.au.f T.au.fd ["_law_found","_law_due"] (Tt S):=by
 refine T.au.F.ok Jq (λZ H Q E h=>?_) (λcdv A C s H Z Q E z h=>?_)
 .rcases h with⟨a,rfl,_⟩ | ⟨l,m,b,v,O,rfl,_⟩
  .rfl
  .rfl
 .refine⟨_,(B0 (K0 (T0 (G9 (Wq K) T.ah C9 (A6 (pv 1) (A6 (J5 (A6 (Z8 T.aw P1) (A6 (Z8 T.be Ba) A8))) A8)))) (B0 (K0 (PW.pt (Ar (B8 Co (G9 (Q3 K) T.ah C9 (A6 (pv 0) (A6 (Z8 T.aw P1) A8))) (G9 (Q3 K) T.ah C9 (A6 (pv 1) (A6 (Z8 T.aw P1) A8))) (C5 _)) (X2 (B8 Co (G9 (Q3 K) T.ah C9 (A6 (pv 0) (A6 (Z8 T.be Ba) A8))) (G9 (Q3 K) T.ah C9 (A6 (pv 1) (A6 (Z8 T.be Ba) A8))) (C5 _))))) (B5 (C0 Ij)) D9)
   (B5 (C0 (Bh (Q8 V2 (G9 (Q0 K) T.ar N9 (A6 (pv 0) A8)) (G9 (Q0 K) T.ar N9 (A6 (pv 1) A8)) (C5 _)) (Dq (G9 (Qi K) T.br Po (A6 (U7 (N':=["_law_one","_law_other"]) (cap:=[none,none]) (cl:=[]) (N0 trivial trivial) rfl (zHu K T.bE (A6 (pv 0) (A6 (pv 1) A8))) (λ_ _ _ _=>by exact⟨(QV K (n:=2) (E5 (LV 0) (E5 (LV 1) R0))),P0,(E4 T.au c (z.mono (VD _)) (A6 (pv 0) (A6 (pv 1) A8)))⟩)) A8))))))) D9)
   (B0 (K0 (PW.pt (Ar (B8 Pf (pv 1) g7 (C5 _)) (X2 (T0 (G9 (Q3 K) T.ah C9 (A6 (pv 1) (A6 (Z8 T.bj Kh) A8))))))) (B5 (C0 (Bh (Q8 (Nn K z.units) (pv 0) (pv 1) (C5 _)) (Dq (Q8 V2 (G9 (Q3 K) T.ah C9 (A6 (pv 0) (A6 (Z8 T.bj Kh) A8))) (G9 (Q3 K) T.ah C9 (A6 (pv 1) (A6 (Z8 T.bj Kh) A8))) (C5 _)))))) D9)
   (B0 (K0 (T0 (G9 (Q3 K) T.ah C9 (A6 (pv 1) (A6 (Z8 T.bl Ji) A8)))) (B5 (C0 (Bh (G9 (Q3 K) T.ah C9 (A6 (pv 0) (A6 (Z8 T.bl Ji) A8))) (Dq (Q8 (Nn K z.units) (pv 0) (pv 1) (C5 _)))))) D9)
   (B5 (C0 (Bh (G9 (Q3 K) T.ah C9 (A6 (pv 0) (A6 (Z8 T.bA Xw) A8))) (Bh (zBh (G9 (Q3 K) T.ah C9 (A6 (pv 0) (A6 (Z8 T.bl Ji) A8)))) (Dq (Q8 (Nn K z.units) (pv 0) (pv 1) (C5 _)))))))))),?_⟩
  rcases h with⟨b,rfl,ob,q⟩ | ⟨l,m,b,v,O,rfl,hl,hm,B,len,hS,q⟩
  .refine C3 rfl ⟨by show 2<=sizeLine;decide,λt G=>?_⟩;have j:=Cv.new (o:=.tup [.ty "list",.ty "tuple"]) G;refine⟨.str b,t,["list","tuple"],_,false,rfl,A7,.str b,.inl ⟨b,rfl⟩,rfl,?_⟩;generalize HX H t (.tup [.ty "list",.ty "tuple"])=R at j⊢;refine C3 rfl (N8 ?_);refine C3 rfl ⟨rfl,C3 rfl (N8 ?_)⟩;refine C3 rfl ⟨.str b, "str",_,true,rfl,.str b,rfl,C3 rfl (Z0 ?_)⟩;refine C3 rfl (C3 rfl (Vh ob ⟨_,rfl,Z0 ?_⟩));refine C3 rfl ⟨.str b, "str",_,true,rfl,.str b,rfl,C3 rfl ⟨.str b, "str",_,true,rfl,.str b,rfl,?_⟩⟩;exact⟨rfl,q _ j⟩
  .refine C3 rfl ⟨by show 2<=sizeLine;decide,λt G=>?_⟩;have j:=Cv.new (o:=.tup [.ty "list",.ty "tuple"]) G;have p:=j _ _ hl;have g:=j _ _ hm;refine⟨.ref m,t,["list","tuple"],_,true,rfl,A7,Rf g,.inr ⟨m,_,rfl,zDb g⟩,zFi b,?_⟩;generalize HX H t (.tup [.ty "list",.ty "tuple"])=R at j p g⊢;refine C3 rfl (Z0 ?_);refine C3 rfl ⟨.ref l, "list",_,b,rfl,Rf p,zBo b,C3 rfl ⟨.ref m, "list",_,b,rfl,Rf g,zBo b,rfl,?_⟩⟩;refine⟨false,congrArg V.bl (zBr b),N8 ?_⟩;refine C3 rfl ⟨.ref l, "tuple",_,_,rfl,Rf p,zCe b,C3 rfl ⟨.ref m, "tuple",_,_,rfl,Rf g,zCe b,rfl,?_⟩⟩;refine⟨false,congrArg V.bl (zBr !b),N8 ?_⟩;refine C3 rfl (B9 (a:=l) rfl (Xp p) (C3 rfl (B9 (a:=m) rfl (Xp g) ⟨rfl,C3 rfl ?_⟩)));refine Y7 (λ_=>?_) (λh=>absurd (AU (congrArg (λk:Nat=>V.int k) B)) h);refine C3 rfl (C3 rfl ⟨l,m,v,O,?_⟩);refine⟨rfl,zCi p g λD U=>?_⟩;refine Hq (n:=v.length) (λi σ r=>(∃W X,σ = [W,X])/\Cv R r/\r D=some (.lst ((List.replicate i true).map V.bl))) ⟨⟨_,_,rfl⟩,Cv.new U,A7⟩ ?_ ?_ ?_ ?_
   .rintro i σ r I ⟨_,d,_⟩;exact⟨_,_,_,_,No (d _ _ p),No (d _ _ g),VF B,AF I,AF (B▸I)⟩
   .rintro σ r ⟨_,d,_⟩;exact⟨_,_,No (d _ _ p),No (d _ _ g),VF B,rfl⟩
   .rintro i σ r x H3 N I ⟨⟨W,X,rfl⟩,d,J⟩ ⟨u,x,y,rfl,hu,rfl,L,hy⟩ hN;have M:=Cv.new (o:=.tup [x,y]) hu;refine⟨u,C3 rfl ⟨IZ.of A7,rfl,_,C3 rfl (B9 rfl rfl ?_)⟩⟩;refine C3 rfl (C3 rfl (hS i x y _ _ _ (L _ (No (d _ _ p))) (hy _ (No (d _ _ g))) ((j.trans d).trans M) λH4 Y=>?_));refine⟨_,Y _ _ (M _ _ J),by rw[AB,GG,sizeLine_eq];lia,hN _ _ ⟨⟨_,_,rfl⟩,((d.trans M).trans Y).upd U,?_⟩⟩;rw[A7,List.replicate_succ',AL];rfl
   .rintro σ r ⟨_,d,J⟩;have e:(List.replicate v.length true).all id=true:=EJ.mpr λx L=>(List.mem_replicate.mp L).2;have q':Q (.bl ((List.replicate v.length true).all id)) r:=e.symm▸q _ (j.trans d);exact⟨D,_,rfl,IC.of J,q'⟩
def QZ(b:Bool)(a:A0 PyData):PyData:=bif b then .list a else .tuple a
def ad(b:Bool)(l:A3):A0 A3:=bif b then [l]else []
def Ow(H:Hp):Nat->PyData->V->A0 A3->Prop
 | 0,_,_,_=>False
 | n+1,d,v,L=>(∃s:Str,d = .str s/\v = .str s/\PySem.PyData.strOk s=true/\L = []) \/
  ∃(b:Bool) (l:A3) (a:A0 V) (c:A0 PyData) (e:A0 (A0 A3)),d=QZ b c/\v = .ref l/\H l=some (LT b a)/\a.length=c.length/\a.length=e.length/\a.length<=200/\L=ad b l++e.flatten /\
   ∀(i:Nat) f x M,c[i]?=some f->a[i]?=some x->e[i]?=some M->Ow H n f x M
def Ow.keep{H H':Hp}{X:A0 A3}(k:∀a o,H a=some o->a∉X->H' a=some o)(c:∀x∈X,∀xs,H x≠some (.tup xs)):∀{n:Nat} {d:PyData} {v:V} {L:A0 A3},(∀l∈L,l∉X)->Ow H n d v L->Ow H' n d v L
 | 0,_,_,_,_,h=>h.elim
 | _+1,_,_,_,_,.inl h=>.inl h
 | n+1,_,_,_,e,.inr ⟨b,l,xs,j,m,p,q,f,r,s,t,u,h⟩=>by
  subst u;refine .inr ⟨b,l,xs,j,m,p,q,k _ _ f ?_,r,s,t,rfl,λi w x M A B g=>(h i w x M A B g).keep k c λy C=>e y (BK _ (List.mem_flatten.mpr ⟨M,BB g,C⟩))⟩;cases b with
  | true=>exact e l (.head _)
  | false=>exact λz=>c l z xs f
def Ow.same{H H':Hp}(s:Cv H H'){n:Nat}{d:PyData}{v:V}{L:A0 A3}(h:Ow H n d v L):Ow H' n d v L:=h.keep (X:=[]) (λa o e _=>s a o e) (λx z=>by cases z) λl _ z=>by cases z
def Ow.str{H:Hp}{n:Nat}{s:Str}(h:PySem.PyData.strOk s=true):Ow H (n+1) (.str s) (.str s) []:=.inl ⟨s,rfl,rfl,h,rfl⟩
def Ow.LT{H:Hp}{n:Nat}{b:Bool}{l:A3}{xs:A0 V}{a:A0 PyData}{Ls:A0 (A0 A3)}(e:H l=some (Sw.LT b xs))(c:xs.length=a.length)(l2:xs.length=Ls.length)(d:xs.length<=200)(h:∀(i:Nat) d' x M,a[i]?=some d'->xs[i]?=some x->Ls[i]?=some M->Ow H n d' x M):Ow H (n+1) (QZ b a) (.ref l) (ad b l++Ls.flatten):=.inr ⟨b,l,xs,a,Ls,rfl,rfl,e,c,l2,d,rfl,h⟩
def Mn{α:Type}:∀n:Nat,(List.replicate n ([]:A0 α)).flatten = []
 | 0=>rfl
 | n+1=>by rw[C_,FK,Mn n];rfl
def Ow.flat{H:Hp}{n:Nat}{b:Bool}{l:A3}{xs:A0 V}{a:A0 PyData}(e:H l=some (Sw.LT b xs))(c:xs.length=a.length)(d:xs.length<=200)(h:∀(i:Nat) d' x,a[i]?=some d'->xs[i]?=some x->Ow H n d' x []):Ow H (n+1) (QZ b a) (.ref l) (ad b l):=by
 have:=Ow.LT (n:=n) (Ls:=List.replicate xs.length []) e c (by rw[GG]) d λi d' x M f g j=>by
  rw[(List.mem_replicate.mp (BB j)).2];exact h i d' x f g
 rwa [Mn,CC]at this
def Ow.strs{H:Hp}{n:Nat}{b:Bool}{l:A3}{ss:A0 Str}(e:H l=some (Sw.LT b (ss.map V.str)))(f:∀s∈ss,PySem.PyData.strOk s=true)(g:ss.length<=200):Ow H (n+2) (QZ b (ss.map PyData.str)) (.ref l) (ad b l) :=
 Ow.flat e (by rw[AB,AB]) (by rw[AB];exact g) λi h x c a=>by
  rw[AH]at c a;obtain⟨s,d,rfl⟩:=BH.mp c;rw[d]at a;cases a;exact .str (f s (BB d))
def Az:Nat->Sp
 | 0=>Sn
 | n+1=>Tt (Az n)
def zAd{c a:A0 PyData}:∀{b d:Bool},QZ b c=QZ d a->b=d/\c=a
 | true,true,h=>⟨rfl,PyData.list.inj h⟩
 | false,false,h=>⟨rfl,PyData.tuple.inj h⟩
 | true,false,h=>by cases h
 | false,true,h=>by cases h
def Pz{a:A0 PyData}{s:Str}:∀{b:Bool},PyData.str s≠QZ b a
 | true,h=>by cases h
 | false,h=>by cases h
def Ow.alike{H:Hp}:∀{n:Nat} {d:PyData} {x y:V} {L M:A0 A3} {Q:VK} {E:XK},Ow H n d x L->Ow H n d y M->(∀H',Cv H H'->Q (.bl true) H')->Az n [x,y] H Q E
 | 0,_,_,_,_,_,_,_,h,_,_=>h.elim
 | n+1,d,x,y,_,_,Q,E,.inl ⟨s,f,j,o,_⟩,g,q=>by
  subst f j;rcases g with⟨v,a,c,_⟩ | ⟨b,l,r,k,m,a,_⟩
  .cases a;subst c;exact .inl ⟨s,rfl,o,q⟩
  .exact absurd a Pz
 | n+1,d,x,y,_,_,Q,E,.inr ⟨b,l,r,k,m,f,j,a,w,N,O,_,h⟩,g,q=>by
  subst f j;rcases g with⟨v,c,_⟩ | ⟨P,z,p,A,e,c,B,C,D,R,S,_,F⟩
  .exact absurd c.symm Pz
  .obtain⟨rfl,rfl⟩:=zAd c;subst B;refine .inr ⟨l,z,b,r,p,rfl,a,C,w.trans D.symm,by lia,λi x y H' T E t G s I=>?_,q⟩;have U:=(AM.mp t).1;have u:k[i]?=some (k[i]'(by lia)):=AF _;have J:m[i]?=some (m[i]'(by lia)):=AF _;have K:e[i]?=some (e[i]'(by lia)):=AF _;exact((h i _ x _ u t J).same s).alike ((F i _ y _ u G K).same s) I
theorem Ak(T:Tx K mg):∀n,II P w K mg base JP n T.au.f T.au.fd ["_law_found","_law_due"] (Az n)
 | 0=>Yx
 | n+1=>Hm T (Ak T n)
def Ub{K:VA}{a D:A3}{ss:A0 Str}{r:St}{g:Str->Str}{x:TE}{H:Hp}{Q:St->Hp->Prop}(e:H a=some (.lst (ss.map V.str)))(G:ss.length<=1000)(A:H D=none)
  (I:∀y∈ss,∀f,Cv H f->∀B:VK,(∀t,f t=none->B (.ref t) (HX f t (.tup [.str y,.str (g y)])))->x (some (.str y)::r) f B)
  (h:∀σ k b,Cv H k->k D=some (.lst (G0 b))->(∀q∈b,G6 k q)->(b.map λq=>q.2) =(ss.map λn=>(n,g n))->Q σ k) (C:A5 V) :
  Au (P5 0) Ev (Y6 D x) (P7 K a) (C::r) (HX H D (.lst [])) Q:=by
 refine O9 (O_ (K:=K) (IC.of e)) (λi σ d=>(∃v,σ=v::r)/\Cv H d/\∃b:A0 IL,d D=some (.lst (G0 b))/\(∀q∈b,G6 d q)/\(b.map λq=>q.2) =((ss.take i).map λn=>(n,g n)))
  ⟨⟨_,rfl⟩,Cv.new A,[],A7,λq p=>absurd p AQ,rfl⟩ (λi σ f _ ⟨_,J,_⟩=>J.at a) ?_ ?_
 .rintro i σ d v N E ⟨⟨C,rfl⟩,l,b,s,P3,j⟩ L;rw[AH]at E;obtain⟨y,F,rfl⟩:=BH.mp E;refine Ci (I y (BB F) d l _ λt M=>?_);have m:=Cv.new (o:=.tup [.str y,.str (g y)]) M;have u:(HX d t (.tup [.str y,.str (g y)])) t=some (.tup [.str y,.str (g y)]):=A7;generalize HX d t (.tup [.str y,.str (g y)])=P at m u⊢;have w:=m _ _ s;have O:=congrArg List.length j;rw[AB,AB,A_]at O;refine⟨_,w,by unfold G0;rw[AB,sizeLine_eq];lia,L _ _ ⟨⟨_,rfl⟩,(l.trans m).upd A,b ++ [(t,y,g y)],by rw[A7];unfold G0;rw[AL];rfl,λq p=>?_,by rw[D8 F,AL,AL,j];rfl⟩⟩;rcases AJ.mp p with c | c
  .have:=m _ _ (P3 q c);exact(B7 (J7 this w (by intro z;cases z))).trans this
  .rw[AC.mp c];exact(B7 (J7 u w (by intro z;cases z))).trans u
 .rintro σ d ⟨_,l,b,s,P3,j⟩;rw[AB,BN]at j;exact h σ d b l s P3 j
theorem Aq:HZ ["self"] ["self"] (B6 LQ):=KL
def Pi(b c:A3):Sp:=λd H Q _=>∃(k p:A3) (e:A0 Str) (f:A0 IL) (a:A0 Str) (m:Nat),d = [.ref k]/\KN b c H k p e f a m/\∀l,H l=none->Q (.ref l) (HX H l (.lst (a.map V.str)))
theorem S3(T:Tx K mg):II P w K mg base JP 1 T.an.f T.an.fd ["self"] (Pi T.aa T.ad):=by
 refine T.an.F.o1 Aq λc A a s H j Q E l h=>?_
 .obtain⟨k,p,n,o,t,m,rfl,d,q⟩:=h;refine⟨_,(B5 (C0 (X3 (S7 K) T.aw P1 (A6 (MU K (pv 0)) A8)))),?_⟩;obtain⟨e,x,g,r,u,v,y,z,i,B,C,D,kk,G,I,J,b⟩:=d.ex;exact⟨_,rfl,k,T.aa,e,_,_,rfl,i,T.ab,T.aQ,rfl,r,_,rfl,.inl (IC.of (U4 _ _ b)),q⟩
theorem Bu:HZ ["self"] ["self"] (B6 MA):=KL
def Qo(e f:A3):Sp:=λg H Q _=>∃(k p:A3) (c:A0 Str) (d:A0 IL) (h:A0 Str) (m:Nat),g = [.ref k]/\KN e f H k p c d h m/\∀l (b:A0 IL) a,Cv H a->H l=none->a l=some (.lst (G0 b))->(∀q∈b,G6 a q)->(b.map λq=>q.2)=j9 c d->Q (.ref l) a
theorem Bx(T:Tx K mg):II P w K mg base JP 2 T.aB.f T.aB.fd ["self"] (Qo T.aa T.ad):=by
 refine T.aB.F.o1 Bu λI A i s H vs Q E t h=>?_
 .obtain⟨k,p,a,u,rk,m,rfl,J,q⟩:=h;have L:=Q2 t;refine⟨_,(B5 (C0 (U7 (N':=["name","self"]) (cap:=[none,some 0]) (cl:=[("self",_)]) (N0 ⟨⟨rfl,rfl,rfl,rfl⟩,trivial⟩ ⟨rfl,trivial⟩) rfl (MT K (I0 (MU K (pv 0)) T.ag T.ac.m (E3 T) (Rm t) T.ac.b .nil J6)) (λ_ _ _ _=>by exact⟨(LV 0),P0,(J5 (A6 (pv 0) (A6 (U5 L (MU K (pv 1)) (pv 0) (λ_ _=>rfl)) A8)))⟩)))),?_⟩;obtain⟨v,x,g,r,kv,ks,rl,pl,z,M,N,O,kk,pk,hp,lp,R⟩:=J.ex;have W:=M.same U4;obtain⟨S,U,a1,b1,c1,d1,kc,kd,X,_⟩:=id W;refine C3 rfl ⟨k,T.aa,v,_,_,rfl,z,T.ab,T.af,rfl,x,U,C3 rfl ⟨X,rfl,x,a,u,rfl,W,λd j=>?_⟩⟩;have e:=Cv.new (o:=.lst (a.map V.str)) j;have l:(HX H d (.lst (a.map V.str))) d=some (.lst (a.map V.str)):=A7;generalize HX H d (.lst (a.map V.str))=H1 at e l⊢;refine⟨d,rfl,⟨_,IC.of l⟩,λD B=>?_⟩;refine Ub (g:=G8 (B2 u)) l (by have:=S.len;lia) B (λy Y C n Q' Z=>?_) (λσ C rs n e2 p2 q2=>q D rs C (e.trans n) (e.free B) e2 p2 q2) _;have c:=e.trans n;refine C3 rfl (C3 rfl ⟨k,T.aa,v,_,_,rfl,c _ _ z,T.ab,T.aA,rfl,C3 rfl ⟨g,_,rfl,?_,⟨by show 2<=sizeLine;decide,Z⟩⟩⟩);have G:=LC.k (k:=.inr y) (c _ _ N);rw[O y,Vi Y]at G;exact G
theorem JV:HZ ["_law_own","_law_some","_law_met","_law_waiting","_law_name","_law_one","_law_other"] ["_law_own","_law_some"] (B6 NQ):=KL
def Ry:Sp:=λe H Q _=>∃(X:A0 A3) (o a:A3) (d b:A0 Str) (ps:A0 IL),e = [.ref o,.ref a]/\JM X H o d ps/\H a=some (.lst (b.map V.str))/\b.Nodup/\(∀y∈b,y∈d) /\
 ∀l (ts:A0 Str) c,Cv H c->H l=none->c l=some (.lst (ts.map V.str))->(∀x,x∈ts↔PR (C2 ps) b x)->Q (.ref l) c
set_option maxHeartbeats 1000000 in
theorem Ig(T:Tx K mg):II P w K mg base JP 1 T.a1.f T.a1.fd ["_law_own","_law_some"] Ry:=by
 refine T.a1.F.o1 JV λcdv A outer s H vs Q E hr h=>?_
 .obtain⟨X,o,a,O,r,ps,rfl,hO,ha,hnd,J,k⟩:=h;have hu:=Q2 hr;refine⟨_,(B0 (Tj (i:=2) (j:=3) rfl JV.nd rfl rfl (by decide) rfl rfl (A6 (X3 (S7 K) T.aw P1 (A6 (pv 1) A8)) (A6 (X3 (S7 K) T.aw P1 (A6 (pv 1) A8)) A8)) rfl)
   (B0 (Bd PassesOwn.never (B8 (Gc K hr.units) (pv 3) (E7 A8) (C5 _)) (B0 (C6 (i:=4) JV.nd rfl (.inl rfl) (zAi K VG PySem.F.slot_list_pop PySem.F.type_list_pop Wz (pv 3)))
   (B5 (U2 PassesOwn.never rfl (MT K (E6 (K2 K) (pv 0) B4 (λ_ _=>rfl))) (QV K (n:=2) (E5 (G5 (i:=5) JV.nd rfl (.inl rfl)) (E5 (G5 (i:=6) JV.nd rfl (.inl rfl)) R0)))
   (B5 (K0 (PW.pt (Bq (B8 V2 (pv 5) (pv 4) (C5 _)) (i7 (B8 (T6 K) (pv 6) (pv 2) rfl)))) (B0 (I9 (Li K VG VH VI K7 (pv 2) (A6 (pv 6) A8)))
   (B5 (I9 (Li K VG VH VI K7 (pv 3) (A6 (pv 6) A8))))) D9))))))
   (B5 (C0 (pv 2))))),?_⟩
  obtain⟨⟨n0,b,e1,e2,e3,_⟩,pin,nm,st⟩:=id hO;have okn:∀x∈O,PySem.PyData.strOk x=true:=λx hx=>O7 (nm.1 x hx);have hc:=T7 st.nm;have hls:=Bj hnd J;refine B3 λZ1 hZ1=>?_;refine C3 rfl ⟨a,_,rfl,.inl (IC.of ha),λp hp=>?_⟩;have u1:=Cv.new (o:=.lst (r.map V.str)) hp;have f1:(HX H p (.lst (r.map V.str))) p=some (.lst (r.map V.str)):=A7;generalize HX H p (.lst (r.map V.str))=H1 at u1 f1⊢;refine C3 rfl ⟨a,_,rfl,.inl (IC.of (u1 _ _ ha)),λq hq=>?_⟩;have u2:=Cv.new (o:=.lst (r.map V.str)) hq;have f2:(HX H1 q (.lst (r.map V.str))) q=some (.lst (r.map V.str)):=A7;generalize HX H1 q (.lst (r.map V.str))=H2 at u2 f2⊢;have R:p≠q:=A9 f1 hq;have hp0:=hp;have hq0:=u1.free hq;refine⟨_,_,rfl,hZ1 _ _ (B3 λZ2 hZ2=>?_)⟩;refine⟨λm σ H3=>∃v4 Y Z D wa,σ = [some (.ref o),some (.ref a),some (.ref p),some (.ref q),v4,Y,Z]/\m=2 *(O.length-D.length)+wa.length/\Cv H H3/\H3 p=some (.lst (D.map V.str))/\H3 q=some (.lst (wa.map V.str))/\RI (C2 ps) O r D wa S1,
   ⟨_,none,none,none,r,r,rfl,rfl,u1.trans u2,u2 _ _ f1,f2,.init hnd J⟩,?_⟩
  rintro m σ H3 ⟨v4,Y,Z,D,wa,rfl,rfl,s3,B,g3,R3⟩;refine C3 rfl ⟨BP _,λz L=>?_⟩;have uz:=Cv.new (o:=.lst []) L;refine Fp (uz _ _ g3) (λx hx=>okn x (R3.sub x (R3.wai x hx))) A7 ⟨_,rfl,?_⟩;have s3:=s3.trans uz;have B:=uz _ _ B;have g3:=uz _ _ g3;generalize HX H3 z (.lst [])=H4 at s3 B g3⊢;rcases List.eq_nil_or_concat wa with rfl | ⟨l,x,rfl⟩
  .exact N8 (hZ2 _ _ (C3 rfl (k p D H4 s3 hp0 B λy=>R3.fin y)))
  .rw[List.concat_eq_append]at *;rw[show(!(l ++ [x]).isEmpty)=true by simp];refine Z0 ⟨_,λ_ _ z=>z,B3 λN1 hN1=>?_⟩;have R4:RI (C2 ps) O r D l (λy=>y=x):=R3.pop (CH.mp R3.ndw).1 (λy G=>(AJ.mp G).imp id AC.mp) λy G=>CB _ G;have hx:x∈D:=R3.wai x (BK _ (AC.mpr rfl));refine C3 rfl ⟨.inl ⟨rfl,_,IC.of g3⟩,q,_,.str x,rfl,rfl,g3,by simp,?_⟩;have ed:((l ++ [x]).map V.str).dropLast=l.map V.str:=by simp
   rw[ed];have s4:=s3.upd (o:=.lst (l.map V.str)) hq0;have g4:(HX H4 q (.lst (l.map V.str))) q=some (.lst (l.map V.str)):=A7;have e4:(HX H4 q (.lst (l.map V.str))) p=some (.lst (D.map V.str)):=(B7 R).trans B;generalize HX H4 q (.lst (l.map V.str))=H5 at s4 g4 e4⊢;refine hN1 _ _ ?_;refine C3 rfl ⟨o,_,1,_,rfl,rfl,IC.of (s4 _ _ e1),rfl,b,rfl,⟨_,IC.of (s4 _ _ e3)⟩,?_⟩;refine Fr (O_ (IC.of (s4 _ _ e3))) (λi σ I=>∃Y Z d g,σ = [some (.ref o),some (.ref a),some (.ref p),some (.ref q),some (.str x),Y,Z]/\2 *(O.length-d.length)+g.length<2 *(O.length-D.length) +(l ++ [x]).length/\Cv H I/\I p=some (.lst (d.map V.str))/\I q=some (.lst (g.map V.str))/\RI (C2 ps) O r d g (λy=>y=x)/\x∈d/\∀z∈ps.take i,z.2.1=x->z.2.2∈d)
    ⟨_,_,D,l,rfl,by rw[AS];exact EI _,s4,e4,g4,R4,hx,λy G=>absurd G AQ⟩ ?_ ?_ ?_
   .rintro i σ I _ ⟨_,_,_,_,_,_,M,_⟩;exact λu hu=>by
     rw[s4 _ _ e3]at hu;cases hu;exact M _ _ e3
   .rintro i σ I v S ⟨Y,Z,d,g,rfl,hm,M,U,g5,N,t,t5⟩ D1 W _;unfold G0 at S;rw[AH]at S;obtain⟨y,G,rfl⟩:=BH.mp S;have ym:=BB G;have ey:=M _ _ (pin y ym).1;have ht:∀{C:A0 Str},(∀z∈d,z∈C)->(y.2.1=x->y.2.2∈C)->∀z∈ps.take (i+1),z.2.1=x->z.2.2∈C:=λh1 h2 z L e=>by
     rw[D8 G]at L;exact(AJ.mp L).elim (λq=>h1 _ (t5 z q e)) λq=>by rw[AC.mp q]at e⊢;exact h2 e
    refine⟨y.1,C3 rfl ⟨IZ.of ey,rfl,_,C3 rfl (B9 rfl rfl ?_)⟩⟩;refine C3 rfl (C3 rfl ⟨rfl,_,rfl,Y7 (λc=>?_) λc=>N8 (W _ _ ⟨_,_,d,g,rfl,hm,M,U,g5,N,t,ht (λ_ z=>z) λe=>absurd (AU (congrArg V.str e)) c⟩)⟩);have c:y.2.1=x:=V.str.inj (BV c);have hyn:y.2.2∈C2 ps x:=JR.mpr (BJ.mpr ⟨y,ym,Prod.ext c rfl⟩);refine C3 rfl (C3 rfl (P4 (.inl (IC.of U)) ⟨_,rfl,Y7 (λh=>?_) λh=>?_⟩))
    .have hns:y.2.2∉d:=λz=>by rw[AU z]at h;cases h
     have R6:=N.add hns (hc x (N.sub x t) _ hyn) ((N.rch x t).step hyn);have l6:=R6.len;have lw:=N.lenw;have l100:=nm.2.2;refine B3 λO1 hO1=>?_;refine C3 rfl ⟨.inl ⟨rfl,_,IC.of U⟩,C3 rfl ⟨p,_,_,rfl,rfl,U,by rw[AS,DX]at l6;rw[AB,sizeLine_eq];lia,?_⟩⟩;have s6:=M.upd (o:=.lst (d.map V.str ++ [.str y.2.2])) hp0;have e6:(HX I p (.lst (d.map V.str ++ [.str y.2.2]))) p=some (.lst ((d ++ [y.2.2]).map V.str)):=by rw[A7,AL];rfl
     have g6:(HX I p (.lst (d.map V.str ++ [.str y.2.2]))) q=some (.lst (g.map V.str)):=(B7 R.symm).trans g5;generalize HX I p (.lst (d.map V.str ++ [.str y.2.2]))=H7 at s6 e6 g6⊢;refine hO1 _ _ ?_;refine C3 rfl ⟨.inl ⟨rfl,_,IC.of g6⟩,C3 rfl ⟨q,_,_,rfl,rfl,g6,by rw[AB,sizeLine_eq];lia,W _ _ ⟨_,_,d ++ [y.2.2],g ++ [y.2.2],rfl,?_,s6.upd hq0,(B7 R).trans e6,?_,R6,CB _ t,ht (λz L=>CB _ L) λ_=>BK _ (AC.mpr rfl)⟩⟩⟩
     .rw[AS,DX]at l6⊢;rw[AS,DX];exact Mg l6 hm
     .rw[A7,AL];rfl
    .have hys:y.2.2∈d:=by
      by_cases z:y.2.2∈d
      .exact z
      .rw[AK z]at h;exact absurd rfl h
     exact W _ _ ⟨_,_,d,g,rfl,hm,M,U,g5,N,t,ht (λ_ z=>z) λ_=>hys⟩
   .rintro σ I ⟨Y,Z,d,g,rfl,hm,M,U,g5,N,t,t5⟩;unfold G0 at t5;rw[AB,BN]at t5;refine⟨_,hm,_,_,_,d,g,rfl,rfl,M,U,g5,N.done λy G=>?_⟩;obtain⟨z,L,e⟩:=BJ.mp (JR.mp G);have:=t5 z L (congrArg Prod.fst e)
    rwa [show z.2.2=y from congrArg Prod.snd e]at this
def Nr{lo:Int}{n:Nat}{g:TG}{c:TS}{D:Ends}{σ:St}{H:Hp}(Pv:Nat->St->Hp->Prop)(f:Pv 0 σ H)
  (h:∀i σ H,i<n->Pv i σ H->∀a:Ends,(∀σ' H',Pv (i+1) σ' H'->a.nx σ' H')->(∀σ' H',Pv i σ' H'->a.bk σ' H')->g (.int (lo+i)) σ H λσ2 b=>c a σ2 b) (d:∀i σ H,Pv i σ H->D.nx σ H) :
  ∃W:Nat->Nat->St->Hp->Prop,(∃m,W 0 m σ H)/\∀i m σ H,W i m σ H ->
   ((QM lo n).stop i H/\D.nx σ H)\/((QM lo n).go i H/\∃N:St->Hp->Prop,(∀σ' H',N σ' H'->∃e,e < m/\W (i+1) e σ' H')/\∀x H',(QM lo n).yld i H x H'->g x σ H' λσ2 b=>c { D with nx:=N,ct:=N,bk:=D.nx } σ2 b) :=
 Hk Pv f (λi σ H j k=>h i σ H j k _ (λ_ _ z=>z) (d i)) (d n)
def IQ.sm{C:A3}{H H':Hp}{x p:A3}{c:Int}{ns:A0 Str}{g:A0 IL}(h:IQ C H x ns g)(L:IJ H p c)(s:Sm [p] H H'):IQ C H' x ns g:=by
 obtain⟨m,r,a,b,c,d,t,u,w,i,j,A,B,D,E,F⟩:=h;obtain⟨y,z,G,_⟩:=id L;have k:∀{b:A3} {o:HO},H b=some o->o≠ .lst [.int y,.int z,.int _]->H' b=some o:=λe n=>MF s e (J7 e G n);exact⟨m,r,a,b,c,d,t,u,k w (by intro z;cases z),MF s i (L.ne i),MF s j (L.neP j),λq I=>k (A q I) (by intro z;cases z),k B (by intro z;cases z),k D (by intro z;cases z),λn f=>let⟨l,v,e⟩:=E n f;⟨l,v,MF s e (L.ne e)⟩,λn f=>let⟨l,v,e⟩:=F n f;⟨l,v,MF s e (L.ne e)⟩⟩
def KN.sm{f i:A3}{H H':Hp}{k p l:A3}{c:Int}{ns:A0 Str}{j:A0 IL}{q:A0 Str}{m:Nat}(h:KN f i H k p ns j q m)(L:IJ H l c)(t:l≠p)(s:Sm [l] H H'):KN f i H' k p ns j q m:=by
 obtain⟨⟨C,x,g,r,a,D,E,F,u,G,v,I,J,K,M,N,w⟩,O⟩:=h;obtain⟨y,z,d,P⟩:=id L;have lk:l≠k:=J7 d u (by intro z;cases z);have A:Sm [l] (eK H k p) (eK H' k p):=λb o e n=>by
  obtain⟨Q,R,e⟩:=Pc e;rw[W9 Q R];exact s _ _ e n
 have B:IJ (eK H k p) l c:=⟨y,z,by rw[W9 lk t];exact d,P⟩;refine⟨⟨C,x,g,r,a,D,E,F,MF s u lk.symm,G.sm B A,MF s v (J7 v d (by intro z;cases z)),I,J,K,MF s M t.symm,N,?_⟩,O⟩;exact MF A w (B.ne w)
def JM.neX{X Y:A0 A3}{H:Hp}{o:A3}{ss:A0 Str}{ps:A0 IL}(h:JM X H o ss ps)(l:∀z∈Y,H z=none\/z∈X):JM Y H o ss ps:=by
 obtain⟨⟨a,b,i,j,k,m,p,r⟩,d,s,t⟩:=h;have g:∀{b:A3} {u:HO},H b=some u->b∉X->b∉Y:=fun{b u} e n z=>(l b z).elim (λc=>by rw[c]at e;cases e) n;exact⟨⟨a,b,i,j,k,g i m,g j p,g k r⟩,λq f=>⟨(d q f).1,g (d q f).1 (d q f).2⟩,s,t⟩
def w6{a ps:A0 IL}(h:(a.map λq=>q.2).Perm (ps.map λq=>q.2)):G8 (B2 a)=G8 (B2 ps) :=
 funext λn=>Dj (U:=λ_=>True) (λ_ _ _ _=>trivial) (λn _ y=>by rw[IP,IP,h.mem_iff]) trivial
def zAk{ns:A0 Str}{a ps:A0 IL}(h:(a.map λq=>q.2).Perm (ps.map λq=>q.2)):WG ns a=WG ns ps:=by
 funext n;unfold WG;rw[w6 h]
def IS.names_perm{a b:A0 Str}(h:a.Perm b):∀d:IS,(d.names a).Perm (d.names b)
 | .pn _=>h.append_right _
 | .tn _=>h.filter _
 | .ps _ _=>h
 | .ts _ _=>h
def IS.prs_perm{a b:A0 (Str×Str)}(h:a.Perm b):∀d:IS,(d.prs a).Perm (d.prs b)
 | .pn _=>h
 | .tn _=>h.filter _
 | .ps _ _=>h.append_right _
 | .ts _ _=>h.filter _
def IS.names_len{ss:A0 Str}{ps:A0 IL}(h:ss.length<=30):∀d:IS,d.fit ss ps->(d.names ss).length<=30
 | .pn _,f=>by show(ss++_).length<=30;rw[AS];exact f.1
 | .tn _,_=>VE (BC ..) h
 | .ps _ _,_=>h
 | .ts _ _,_=>h
def IS.prs_len{ss:A0 Str}{ps:A0 IL}(h:ps.length<=140):∀d:IS,d.fit ss ps->(d.prs (ps.map λq=>q.2)).length<=140
 | .pn _,_=>by show(ps.map _).length<=140;rw[AB];exact h
 | .tn _,_=>VE (BC ..) (by rw[AB];exact h)
 | .ps _ _,f=>by show(ps.map _++_).length<=140;rw[AS,AB];exact f
 | .ts _ _,_=>VE (BC ..) (by rw[AB];exact h)
def IS.fit_perm{ss ns:A0 Str}{ps a:A0 IL}(h:ns.Perm ss)(k:(a.map λq=>q.2).Perm (ps.map λq=>q.2)):∀d:IS,d.fit ss ps->d.fit ns a
 | .pn _,f=>⟨by rw[h.length_eq];exact f.1,f.2⟩
 | .tn _,_=>trivial
 | .ps _ _,f=>by
  have e:=k.length_eq;rw[AB,AB]at e;show a.length+1<=140;rw[e];exact f
 | .ts _ _,_=>trivial
def IS.can_perm{ss ns:A0 Str}{ps a:A0 IL}(h:ns.Perm ss)(k:(a.map λq=>q.2).Perm (ps.map λq=>q.2)):∀d:IS,d.can ss ps->d.can ns a
 | .pn _,c=>⟨c.1,λz=>c.2 (h.mem_iff.mp z)⟩
 | .tn _,c=>h.mem_iff.mpr c
 | .ps _ _,c=>⟨h.mem_iff.mpr c.1,h.mem_iff.mpr c.2.1,λz=>c.2.2 (k.mem_iff.mp z)⟩
 | .ts _ _,c=>⟨h.mem_iff.mpr c.1,h.mem_iff.mpr c.2.1,k.mem_iff.mpr c.2.2⟩
def PR.cong{nx c:Str->A0 Str}{ss d:A0 Str}(h1:∀y z,z∈nx y↔z∈c y)(h2:∀y,y∈ss↔y∈d){x:Str}(h:PR nx ss x):PR c d x :=
 λS a b=>h S (λy e=>a y ((h2 y).mp e)) λy z e f=>b y z e ((h1 y z).mp f)
def IS.spread_eq(ps:A0 IL):∀d:IS,d.spread ps=d.lead ps
 | .pn _=>rfl
 | .tn y=>by
  show((ps.filter λq=>decide (q.2.1=y)&&!decide (q.2.2=y)).map λq=>q.2.2) =(C2 ps y).filter λn=>!decide (n=y);unfold C2;rw[HC,List.filter_filter];congr 1;refine List.filter_congr λq _=>?_;exact Bool.and_comm _ _
 | .ps _ _=>rfl
 | .ts _ _=>rfl
def t7{a ps:A0 IL}(h:(a.map λq=>q.2).Perm (ps.map λq=>q.2))(n y:Str):y∈C2 a n↔y∈C2 ps n:=by rw[JR,JR,h.mem_iff]
def IS.lead_mem{a ps:A0 IL}(h:(a.map λq=>q.2).Perm (ps.map λq=>q.2))(x:Str):∀d:IS,x∈d.lead a↔x∈d.lead ps
 | .pn _=>Iff.rfl
 | .tn y=>by
  show x∈(C2 a y).filter _↔x∈(C2 ps y).filter _;rw[AV,AV,t7 h]
 | .ps _ _=>Iff.rfl
 | .ts _ _=>Iff.rfl
def IS.lead_nd{ss:A0 Str}{ps:A0 IL}(h:ME ss ps):∀d:IS,(d.lead ps).Nodup
 | .pn _=>CD.mpr ⟨AQ,DC⟩
 | .tn y=>(Ih h.nd y).filter _
 | .ps _ _=>CD.mpr ⟨AQ,DC⟩
 | .ts _ _=>CD.mpr ⟨AQ,DC⟩
def IS.lead_sub{ss:A0 Str}{ps:A0 IL}(h:ME ss ps):∀d:IS,d.can ss ps->∀y∈d.lead ps,y∈d.names ss
 | .pn y,_,z,e=>by rw[AC.mp e];exact BK _ (AC.mpr rfl)
 | .tn y,c,z,e=>by
  obtain⟨f,g⟩:=AV.mp e;exact AV.mpr ⟨T7 h.nm y c z f,g⟩
 | .ps a b,c,z,e=>by rw[AC.mp e];exact c.2.1
 | .ts a b,c,z,e=>by rw[AC.mp e];exact c.2.1
def IS.no_more{ss:A0 Str}{ps:A0 IL}(h:("more":Str)∉ss):∀d:IS,d.fit ss ps->("more":Str)∉d.names ss
 | .pn y,f,z=>(AJ.mp z).elim h λe=>f.2.2 (AC.mp e).symm
 | .tn y,_,z=>h (AV.mp z).1
 | .ps _ _,_,z=>h z
 | .ts _ _,_,z=>h z
def Pa{K:VA}{a D:A3}{xs:A0 V}{r:St}{j:TT}{n:TE}{H:Hp}{Q:St->Hp->Prop}(e:H a=some (.lst xs))(o:H D=none)
  (p:∀x∈xs,∀d,Cv H d->∀k:Bool->Hp->Prop,(∀b,Cv d b->k false b)->j (some x::r) d k) (h:∀σ b,Cv H b->b D=some (.lst [])->Q σ b) (l:A5 V) :
  Au (P5 0) j (Y6 D n) (P7 K a) (l::r) (HX H D (.lst [])) Q:=by
 refine O9 (O_ (K:=K) (IC.of e)) (λi σ c=>(∃v,σ=v::r)/\Cv H c/\c D=some (.lst []))
  ⟨⟨_,rfl⟩,Cv.new o,A7⟩ (λi σ d _ ⟨_,q,_⟩=>q.at a) ?_ λσ c ⟨_,f,g⟩=>h σ c f g
 rintro i σ c v N s ⟨⟨l,rfl⟩,f,g⟩ t;exact p v (BB s) c f _ λu m=>N8 (t _ _ ⟨⟨_,rfl⟩,f.trans m,m _ _ g⟩)
def Pb{K:VA}{H:Hp}{a z:A3}{Q:VK}(b:H a=some (.lst []))(hz:H z=some (.lst []))(q:Q (.bl false) H):Zs K (.ref a) (.ref z) H Q:=Fp (ss:=[]) b (λx c=>absurd c AQ) hz q
def Zp{K:VA}{H:Hp}{a z:A3}{ss:A0 Str}{Q:VK}(b:H a=some (.lst (ss.map V.str)))(hz:H z=some (.lst (ss.map V.str)))(c:∀x∈ss,PySem.PyData.strOk x=true)(q:Q (.bl false) H):Zs K (.ref a) (.ref z) H Q:=by
 have p:Pl (.list (ss.map PyData.str)):=⟨by rw[PyData.canLay0];exact Er c,by rw[PyData.depth];have:=y3 ss;lia⟩;exact⟨.list (ss.map PyData.str),.list (ss.map PyData.str),by rw[Rp];exact⟨a,_,rfl,IC.of b,Ay ss⟩,by rw[Rp];exact⟨z,_,rfl,IC.of hz,Ay ss⟩,p,p,by rw[PySem.SeqAt.eqv_refl _ p.1];exact q⟩
def Wn{H:Hp}{l:A3}{a:A0 IL}(e:H l=some (.lst (G0 a)))(c:∀q∈a,G6 H q)(j:∀q∈a,PySem.PyData.strOk q.2.1=true/\PySem.PyData.strOk q.2.2=true)(d:a.length<=200):Ow H 3 (QZ true ((a.map λq=>q.2).map λk=>QZ false ([k.1,k.2].map PyData.str))) (.ref l) [l]:=by
 refine Ow.flat (b:=true) e (by unfold G0;rw[AB,AB,AB]) (by unfold G0;rw[AB];exact d) λi p x f g=>?_;unfold G0 at g;rw[AH]at g;rw[BW,AH]at f;obtain⟨q,o,rfl⟩:=BH.mp g;rw[o]at f;cases f;have m:=BB o;exact Ow.strs (b:=false) (n:=0) (ss:=[q.2.1,q.2.2]) (c q m) (λs h=>(AW.mp h).elim (λe=>by rw[e];exact(j q m).1) λh=>by rw[AC.mp h];exact(j q m).2) (by show 2<=200;decide)
def Lp{H:Hp}{l:A3}{a:A0 IL}{ns:A0 Str}{b:A0 IL}(e:H l=some (.lst (G0 a)))(c:∀q∈a,G6 H q)(d:(a.map λq=>q.2)=j9 ns b)(f:∀n∈ns,PySem.PyData.strOk n=true)(g:ns.length<=100):Ow H 3 (QZ true ((j9 ns b).map λk=>QZ false ([k.1,k.2].map PyData.str))) (.ref l) [l]:=by
 rw[<-d];refine Wn e c (λq h=>?_) ?_
 .have:q.2∈j9 ns b:=d▸BJ.mpr ⟨q,h,rfl⟩;obtain⟨n,i,e⟩:=BJ.mp this;rw[<-e];exact⟨f n i,Ux⟩
 .have:=congrArg List.length d;unfold j9 at this;rw[AB,AB]at this;lia
structure KO(CK CW:A3)(X:A0 A3)(H:Hp)(k p o:A3)(ss:A0 Str)(ps:A0 IL)(ns:A0 Str)(qs:A0 IL)(rk:A0 Str)(m:Nat):Prop where
 kp:KN CK CW H k p ns qs rk m
 own:JM X H o ss ps
 pn:ns.Perm ss
 pq:(qs.map λq=>q.2).Perm (ps.map λq=>q.2)
 l30:ss.length<=30
 l140:ps.length<=140
 no:("more":Str)∉ss
def KO.same{a b:A3}{X:A0 A3}{H H':Hp}{k p o:A3}{ss ns c:A0 Str}{ps d:A0 IL}{m:Nat}(h:KO a b X H k p o ss ps ns d c m)(s:Cv H H'):KO a b X H' k p o ss ps ns d c m:=⟨h.kp.same s,h.own.same s,h.pn,h.pq,h.l30,h.l140,h.no⟩
def KO.neX{a b:A3}{X Y:A0 A3}{H:Hp}{k p o:A3}{ss ns c:A0 Str}{ps d:A0 IL}{m:Nat}(h:KO a b X H k p o ss ps ns d c m)(e:∀z∈Y,H z=none\/z∈X):KO a b Y H k p o ss ps ns d c m:=⟨h.kp,h.own.neX e,h.pn,h.pq,h.l30,h.l140,h.no⟩
theorem JN:HZ ["_law_script","_law_own","_law_keeper","_law_spent","_law_k","_law_left_here","_law_turn","_law_deed_here","_law_new","_law_spread","_law_found","_law_some","_law_due","_law_reach_here"] ["_law_script"] (B6 NT):=KL
def Lg(K:VA):Sp:=λb H Q _=>∃(u:A3) (a:A0 Int),b = [.ref u]/\IC K H u (a.map V.int)/\a.length<=63/\∀c,Q (.bl true) c
set_option maxHeartbeats 8000000 in
theorem zBl(T:Tx K mg){f:A3}{fd:IT}(F:PK K "law" "law" NT f fd):II P w K mg base JP 10 f fd ["_law_script"] (Lg K):=by
 have v:II P w K mg base JP 3 T.au.f T.au.fd ["_law_found","_law_due"] (Az 3):=Ak T 3;refine F.o1 JN λcdv A outer s H vs Q E B h=>?_
 .obtain⟨u,xs,rfl,hS,hlen,q⟩:=h;have hu:=Q2 B;refine⟨_,(B0 (C6 (i:=1) JN.nd rfl (.inl rfl) (E4 T.aJ (Am T) (Rm B) (A6 (E4 T.aV (Bs T) (Rm B) (A6 (pv 0) (A6 B4 A8))) A8)))
   (B0 (C6 (i:=2) JN.nd rfl (.inl rfl) (j7 T.bC (Cz T) (Rm B) rfl T.bB T.bq .nil J6 (A6 (j7 T.ba (Q9 T) (Rm B) rfl T.a9 T.az .nil J6 (A6 (E6 (K2 K) (pv 1) B4 (λ_ _=>rfl)) (A6 (E6 (K2 K) (pv 1) B4 (λ_ _=>rfl)) A8))) A8)))
   (B0 (K0 (a7 (T0 (E4 T.au v (Rm B) (A6 (I0 (pv 2) T.ab T.an.m (S3 T) (Rm B) T.an.b .nil J6) (A6 (E7 A8) A8))))) (B5 (C0 Ij)) D9)
   (B0 (C6 (i:=3) JN.nd rfl (.inl rfl) B4)
   (B0 (U2 PassesOwn.never rfl (Tn (by rfl) T.aM (A6 B4 (A6 (G9 (Sl rfl) T.bG zDe (A6 B4 (A6 (G9 (Rv rfl) T.bF zDx (A6 (G9 (Q0 K) T.ar N9 (A6 (pv 0) A8)) (A6 B4 A8))) A8))) A8))) (G5 (i:=4) JN.nd rfl (.inl rfl))
   (B0 (C6 (i:=5) JN.nd rfl (.inl rfl) (E4 T.aV (Bs T) (Rm B) (A6 (pv 0) (A6 (pv 4) A8))))
   (B0 (C6 (i:=3) JN.nd rfl (.inl rfl) (E9 T9 (pv 3) (E9 c9 B4 (E4 T.aX (Ez T) (Rm B) (A6 (pv 1) A8)))))
   (B0 (K0 (B8 Yt (pv 3) B4 (C5 _)) (B5 Vm) D9)
   (B5 (U2 PassesOwn.never rfl (SQ T.aM (A6 (E9 T9 B4 (E4 T.ai (D0 T) (Rm B) (A6 (pv 5) (A6 B4 A8)))) A8)) (G5 (i:=6) JN.nd rfl (.inl rfl))
   (B0 (C6 (i:=7) JN.nd rfl (.inl rfl) (E4 T.a7 (Jo T) (Rm B) (A6 (pv 5) (A6 (pv 1) A8))))
   (B5 (K0 (B8 Pf (E4 T.aP (Ch T) (Rm B) (A6 (pv 1) (A6 (pv 7) A8))) g7 (C5 _)) (B0 (Ab (E4 T.aU (Cs T) (Rm B) (A6 (pv 1) (A6 (pv 7) A8))) (QV K (n:=2) (E5 (G5 (i:=8) JN.nd rfl (.inl rfl)) (E5 (G5 (i:=9) JN.nd rfl (.inl rfl)) R0))))
   (B0 (C6 (i:=10) JN.nd rfl (.inl rfl) (E4 T.a8 (Ju T) (Rm B) (A6 (pv 2) (A6 (pv 7) A8))))
   (B0 (C6 (i:=11) JN.nd rfl (.inr rfl) (I0 (pv 2) T.ab T.an.m (S3 T) (Rm B) T.an.b .nil J6))
   (B0 (C6 (i:=12) JN.nd rfl (.inl rfl) (E4 T.aK (Ap T) (Rm B) (A6 (E4 T.ay (S4 T) (Rm B) (A6 (pv 1) A8)) (A6 (E4 T.ay (S4 T) (Rm B) (A6 (pv 8) A8)) A8))))
   (B0 (K0 (PW.pt (Ar (B8 Co (E6 (OM K) (pv 10) B4 (λ_ _=>rfl)) C1 (C5 _)) (Ar (a7 (T0 (G9 (Q3 K) T.ah C9 (A6 (pv 11) (A6 (Z8 T.aw P1) A8))))) (X2 (B8 (Gc K B.units) (pv 11) (G9 (Lw w) T.aC R8 (A6 (X3 (Ra K w) T.bk Mh (A6 (pv 11) A8)) A8)) (C5 _)))))) (B5 (C0 Ij)) D9)
   (B0 (C6 (i:=13) JN.nd rfl (.inr rfl) (E4 T.a1 (Ig T) (Rm B) (A6 (pv 8) (A6 (pv 9) A8))))
   (B0 (K0 (B8 (Gc K B.units) (U7 (N':=["_law_name","_law_reach_here"]) (cap:=[none,some 13]) (cl:=[("_law_reach_here",_)]) (N0 ⟨⟨rfl,rfl,rfl,rfl⟩,trivial⟩ ⟨rfl,trivial⟩) rfl (MT K (pv 11)) (λ_ _ _ _=>by exact⟨(LV 0),(K5 (B8 (T6 K) (pv 0) (pv 1) rfl)),(pv 0)⟩)) (E7 A8) (C5 _)) (B5 (C0 Ij)) D9)
   (B0 (K0 (B8 (Gc K B.units) (U7 (N':=["_law_row","_law_some"]) (cap:=[none,some 11]) (cl:=[("_law_some",_)]) (N0 ⟨⟨rfl,rfl,rfl,rfl⟩,trivial⟩ ⟨rfl,trivial⟩) rfl (MT K (pv 12)) (λ_ _ _ _=>by exact⟨(LV 0),(K5 (B8 (T6 K) (E6 (OM K) (pv 0) B4 (λ_ _=>rfl)) (pv 1) rfl)),(pv 0)⟩)) (E7 A8) (C5 _)) (B5 (C0 Ij)) D9)
   (B0 (I9 (Li K VG VH VI K7 (pv 11) (A6 C1 A8)))
   (B0 (I9 (zAi K VG PySem.F.slot_list_reverse PySem.F.type_list_reverse Nw (pv 11)))
   (B0 (K0 (B8 (Nz K) C1 (I0 (pv 2) T.ab T.an.m (S3 T) (Rm B) T.an.b .nil J6) rfl) (B5 (C0 Ij)) D9)
   (B5 (C6 (i:=1) JN.nd rfl (.inl rfl) (pv 8)))))))))))))) D9)))))))))
   (B5 (C0 (E4 T.au v (Rm B) (A6 (I0 (pv 2) T.ab T.aB.m (Bx T) (Rm B) T.aB.b .nil J6) (A6 (E4 T.ay (S4 T) (Rm B) (A6 (pv 1) A8)) A8)))))))))),?_⟩
  refine B3 λN1 hN1=>?_;refine C3 rfl ⟨u,xs,0,rfl,hS,by decide,λp0 H1 hp0 Z L1=>?_⟩;refine⟨p0,0,rfl,L1,by decide,λo ss ps H2 ho k2 O2 ls lp nom=>?_⟩;refine hN1 _ _ (B3 λN2 hN2=>?_);obtain⟨⟨a,b,e1,e2,e3,_⟩,pin,nm,st⟩:=id O2;have s2:Cv H H2:=λb o e=>k2 b o (Z b o e) (by simpa using A9 e hp0);refine C3 rfl ⟨o,_,0,_,rfl,rfl,IC.of e1,rfl,C3 rfl ⟨o,_,1,_,rfl,rfl,IC.of e1,rfl,?_⟩⟩;intro y dy ny ndy ney;refine Df ny ndy e2 e3 (λq hq=>(pin q hq).1) nm st λJ N H3 pn sn pq sq s3 W3 _=>?_;obtain⟨_,dx,_,_,_,_,_,_,ey,_⟩:=id W3;intro k dk nk ndk nek;have s0:Cv H3 (HX (HX H3 dk (.own k)) k (.ins T.aa dk [])):=λb o e=>by
   rw[B7 (A9 e nk),B7 (A9 e ndk)];exact e
  have nmn:∀n∈J,P8 n=true:=λn hn=>nm.1 n (pn.mem_iff.mp hn);refine⟨k,dk,y,J,N,rfl,A7,W3.same s0,A9 ey nk,nmn,λp O H4 pq2 b4 hp K4=>⟨rfl,?_⟩⟩;have hp3:H3 p=none:=s0.free hp;have s34:Cv H3 H4:=λb o e=>b4 b o (A9 e nk) (A9 e hp3) (s0 b o e);have X:KO T.aa T.ad [k,p] H4 k p o ss ps J O [] 0:=⟨K4,(((O2.same s3).neX (Y:=[k,p]) λz hz=>.inl (by
   rcases AW.mp hz with e | e
   .rw[e];exact nk
   .rw[AC.mp e];exact hp3)).same s34),pn,(pq2.map _).trans (pq.map _),VE ls (by decide),VE lp (by decide),nom⟩
  have L:=s2.trans (s3.trans s34);have kH:H k=none:=(s2.trans s3).free nk;have pH:H p=none:=(s2.trans s3).free hp3;clear b4 hp K4 s0 hp3 W3 ey pq sq pq2 sn pn nmn s3 s34 e1 e2 e3 pin nm st O2 k2 L1 Z s2;refine hN2 _ _ (B3 λNa hNa=>?_);obtain⟨dk,_,_,_,_,_,_,_,hk4,_⟩:=id X.kp.ex;refine C3 rfl ⟨k,dk,C3 rfl ⟨hk4,rfl,k,p,J,O,[],0,rfl,X.kp,λla hla=>?_⟩⟩;have ua:=Cv.new (o:=.lst (([]:A0 Str).map V.str)) hla;refine⟨BP _,λlb hlb=>?_⟩;have ub:=Cv.new (o:=.lst []) hlb;refine(Ow.strs (b:=true) (n:=1) (ss:=[]) (ub _ _ A7) (λx hx=>absurd hx AQ) (BP _)).alike (Ow.strs (b:=true) (n:=1) (ss:=[]) A7 (λx hx=>absurd hx AQ) (BP _)) λH5 s5=>⟨_,rfl,N8 ?_⟩;have s45:=(ua.trans ub).trans s5;have X:=X.same s45;have L:=L.trans s45;clear ua ub s5 hla hlb s45 hk4;refine hNa _ _ (B3 λN3 hN3=>?_);refine hN3 _ _ (B3 λN4 hN4=>?_);have hS4:IC K H5 u (xs.map V.int):=(L.at u).seqL hS;refine⟨_,rfl,u,_,rfl,.inl hS4,_,_,rfl,_,_,rfl,?_⟩;have hz:∀l:Int,∃z:Nat,(if(if(31:Int)<l then 31 else l) >(9:Int)then(if(31:Int)<l then 31 else l)else 9) =(z:Int)/\1<=z/\z<=31:=λl=>by
   by_cases h1:(31:Int)<l
   .rw[AO h1];exact⟨31,rfl,by decide,by decide⟩
   .rw[AI h1];by_cases h2:l>9
    .rw[AO h2];exact⟨l.toNat,by lia,by lia,by lia⟩
    .rw[AI h2];exact⟨9,rfl,by decide,by decide⟩
  obtain⟨z,ez,z1,z2⟩:=hz ((xs.map V.int).length:Int);refine⟨1,(z:Int),congrArg (λt=>[V.int 1,V.int t]) ez,⟨by lia,by lia,by lia,by lia⟩,?_⟩;rw[show((z:Int)-1).toNat=z-1 by lia];refine Nr (λi σ G=>∃(o:A3) (sp:Int) (v4 v5 v6 v7 v8 v9 R S g I:A5 V) (ss J rk:A0 Str) (ps N:A0 IL) (m:Nat),σ = [some (.ref u),some (.ref o),some (.ref k),some (.int sp),v4,v5,v6,v7,v8,v9,R,S,g,I]/\Cv H G/\KO T.aa T.ad [k,p] G k p o ss ps J N rk m/\m<=3*i) ⟨_,_,_,_,_,_,_,_,_,_,_,_,_,_,_,_,_,_,rfl,L,X,VD _⟩ ?_ ?_
  .clear X L hS4 hN1 hN2 hN3 hN4;rintro i σ F0 hi ⟨o,sp,v4,v5,v6,v7,v8,v9,R,S,g,I,ss0,J,rk,ps0,N,m,rfl,sF,KF,lm⟩ D1 hD1 hB1;refine zDn λM1 hM1=>?_;refine C3 rfl (C3 rfl ⟨u,xs,1+i,rfl,(sF.at u).seqL hS,by lia,λl F1 hl Z L1=>?_⟩);refine hM1 _ _ (B3 λM2 hM2=>?_);have K1:=KF.same Z;have sF1:=sF.trans Z;obtain⟨dk,_,_,_,_,_,_,_,hk,_,_,_,_,_,hp,_⟩:=KF.kp.ex;have lk:l≠k:=(A9 hk hl).symm;have lp:l≠p:=(A9 hp hl).symm;have K1:KO T.aa T.ad [l,k,p] F1 k p o ss0 ps0 J N rk m:=(KF.neX (Y:=[l,k,p]) λz hz=>(AW.mp hz).elim (λe=>.inl (by rw[e];exact hl)) .inr).same Z;clear Z hk hp;refine C3 rfl (C3 rfl ⟨[l,k,p],o,ss0,ps0,rfl,K1.own,⟨3,_,rfl,rfl,.inl ⟨by decide,by decide⟩,B9 rfl rfl (hM2 _ _ (B3 λM3 hM3=>?_))⟩⟩);refine C3 rfl (B9 rfl rfl ?_);refine⟨_,rfl,Y7 (λ_=>?_) λ_=>?_⟩
   .exact hB1 _ _ ⟨_,_,_,_,_,_,_,_,_,_,_,_,_,_,_,_,_,_,rfl,sF1,K1.neX λz hz=>.inr (AN _ hz),lm⟩
   refine hM3 _ _ ?_;refine C3 rfl ⟨l,0,3,rfl,L1,by decide,by decide,by decide,λd F2 hd k2 L2=>?_⟩;refine B9 rfl rfl ⟨1 +(d:Int),rfl,by lia,by lia,?_⟩;rw[show(1 +(d:Int)).toNat=1+d by lia];have lX:l∈[l,k,p]:=AZ ..;have sF2:Cv H F2:=λb o e=>k2 b o (sF1 b o e) (by simpa using A9 (sF b o e) hl);have C:KO T.aa T.ad [l,k,p] F2 k p o ss0 ps0 J N rk m:=⟨K1.kp.sm L1 lp k2,K1.own.smp lX k2,K1.pn,K1.pq,K1.l30,K1.l140,K1.no⟩;have l0:H l=none:=by
    cases e:H l with
    | none=>rfl
    | some o=>rw[sF l o e]at hl;cases hl
   refine U0 (λj σ G=>∃(o:A3) (v6 v7 v8 v9 R S g I:A5 V) (ss J rk:A0 Str) (ps N:A0 IL) (m:Nat) (c:Int),σ = [some (.ref u),some (.ref o),some (.ref k),some (.int (sp+3 *(1000 +(ss0.length:Int) *(ps0.length:Int)))),some (.int (1 +(i:Int))),some (.ref l),v6,v7,v8,v9,R,S,g,I]/\Cv H G/\IJ G l c/\c<=1+10 *(j:Int)/\KO T.aa T.ad [l,k,p] G k p o ss ps J N rk m/\m<=3*i+j) ⟨_,_,_,_,_,_,_,_,_,_,_,_,_,_,_,_,rfl,sF2,L2,by lia,C,by lia⟩ ?_ ?_
   .clear C K1 KF sF2 sF1 L1 L2 lm k2 hM1 hM2 hM3 hB1 hD1;rintro j σ F2 hj ⟨o,v6,v7,v8,v9,R,S,g,I,ss,J,rk,ps,N,m,c,rfl,s2,L2,hc,C,lm⟩ D2 hD2 _;have j3:j<3:=by lia
    refine zDn λM1 hM1=>?_;refine C3 rfl (C3 rfl ⟨[l,k,p],l,o,c,ss,ps,rfl,L2,by lia,lX,C.own,by have:=C.l140;lia,λt e c' F3 ht hc' k3 L3 D3 f3=>?_⟩);refine hM1 _ _ ?_;have s3:Cv H F3:=λb o e=>k3 b o (s2 b o e) (by simpa using A9 e l0);have kp3:=C.kp.sm L2 lp k3;have O3:=C.own.smp lX k3;refine C3 rfl (C3 rfl ⟨[l,k,p],o,t,ss,ps,e,rfl,O3,D3,f3,λF4 L hc=>?_,λr F4 L=>?_⟩)
    .refine⟨rfl,_,rfl,Z0 (B3 λM2 hM2=>?_)⟩;have O4:=O3.same L;have D4:=D3.same L;have kp4:=kp3.same L;obtain⟨dk,_,_,_,_,_,_,_,hk,W,_,_,_,_,hp,_⟩:=id kp4.ex;have hX:∀z∈[l,k,p],F4 z≠none:=λz hz=>by
      obtain⟨_,_,el,_⟩:=L3.same L;rcases AW.mp hz with h | hz
      .rw[h,el];intro z;cases z
      rcases AW.mp hz with h | hz
      .rw[h,hk];intro z;cases z
      .rw[AC.mp hz,hp];intro z;cases z
     refine C3 rfl (C3 rfl ⟨[l,k,p],o,t,ss,ps,e,rfl,hX,O4,D4,f3,hc,by have:=C.l140;lia,λr o2 sa ss2 ps2 F5 s5 hr0 er O5 en ep esa hsa=>?_⟩);refine⟨r,C3 rfl ⟨IZ.of er,rfl,_,C3 rfl (B9 rfl rfl ?_)⟩⟩;refine hM2 _ _ (B3 λM3 hM3=>?_);have s5':=s3.trans (L.trans s5);refine C3 rfl (C3 rfl ⟨k,p,t,J,N,rk,m,e,rfl,kp4.same s5,by lia,D4.same s5,e.fit_perm C.pn C.pq f3,e.can_perm C.pn C.pq hc,λr2 l2 rs ns2 O ts F6 b6 hr2 hl2 er2 K6 RK pn2 pq2 R6 e6=>?_⟩);refine hM3 _ _ (B3 λM4 hM4=>?_);have m6:Sm [l,k,p] F5 F6:=λb u e n=>b6 b u (λz=>n (by rw[z];simp)) (λz=>n (by rw[z];simp)) e;have s6:Cv H F6:=λb o e=>b6 b o (A9 e kH) (A9 e pH) (s5' b o e);have L6:IJ F6 l c':=let⟨y,z,e,h⟩:=(L3.same L).same s5;⟨y,z,b6 _ _ lk lp e,h⟩;have D6:MI F6 t e:=⟨b6 _ _ (J7 D4.at_ hk (by intro z;cases z)) (J7 D4.at_ hp (by intro z;cases z)) (D4.same s5).at_,D4.ok⟩;have O6:=(O4.same s5).sm m6;have N6:=O5.sm m6;have er6:F6 r2=some (.tup [.str "told",.ref l2]):=(Pc er2).2.2;have sk:sa≠k:=(A9 hk hsa).symm;have sp':sa≠p:=(A9 hp hsa).symm;have esa6:=b6 _ _ sk sp' esa;obtain⟨dk6,_,_,_,_,_,_,_,hk6,W2,_⟩:=id K6.ex;have U:ns2.Perm ss2:=by rw[en];exact pn2.trans (e.names_perm C.pn)
     have pq3:(O.map λq=>q.2).Perm (ps2.map λq=>q.2):=by rw[ep];exact pq2.trans (e.prs_perm C.pq)
     clear b6 hr2 hl2 er2 m6 O5 O4 D4 D3 D6 hp hX kp4 kp3 s5' s5 L s3 L3 k3 O3 er hr0 L2 s2 hk esa hsa sk sp' R6 e6;have no2:("more":Str)∉ss2:=by rw[en];exact e.no_more C.no f3
     have okn:∀n∈ns2,PySem.PyData.strOk n=true:=λn hn=>O7 (N6.nm.1 n (U.mem_iff.mp hn));have okt:∀n∈ts,PySem.PyData.strOk n=true:=λn hn=>okn n (RK.sub n hn);have lt:ts.length<=100:=by
      have:=Bj RK.nd RK.sub;rw[U.length_eq]at this;have:=N6.nm.2.2;lia
     refine C3 rfl ⟨k,dk6,C3 rfl ⟨hk6,rfl,k,p,ns2,O,ts,m+1,rfl,K6,λls hls=>?_⟩⟩;have u7:=Cv.new (o:=.lst (ts.map V.str)) hls;have f7:(HX F6 ls (.lst (ts.map V.str))) ls=some (.lst (ts.map V.str)):=A7;generalize HX F6 ls (.lst (ts.map V.str))=F7 at u7 f7⊢;refine hM4 _ _ (B3 λM5 hM5=>?_);refine C3 rfl ⟨[l,k,p],o,ss,ps,rfl,O6.same u7,λla nsa ra F8 s8 hla pna srta ea pina qa=>?_⟩;refine C3 rfl ⟨[l,k,p],o2,ss2,ps2,rfl,(N6.same u7).same s8,λlb nsb rb F9 s9 hlb pnb srtb eb pinb qb=>?_⟩;have nda:nsa.Nodup:=pna.nodup_iff.mpr O6.nm.2.1;refine⟨la,lb,ra,rb,nsa,nsb,ps,ps2,rfl,s9 _ _ ea,λq hq=>s9 _ _ (pina q hq).1,qa,nda,by rw[pna.length_eq];exact O6.nm.2.2,eb,λq hq=>(pinb q hq).1,qb,by rw[pnb.length_eq];exact N6.nm.2.2,λl3 rs3 F10 s10 hl3 R10 e10=>?_⟩;rw[M0 srta W.ok.srt (pna.trans C.pn.symm),M0 srtb W2.ok.srt (pnb.trans U.symm),<-zAk C.pq,<-w6 pq3]at e10;have s710:=(s8.trans s9).trans s10;have s6':=u7.trans s710;have f10:=s710 _ _ f7;have er10:=s6' _ _ er6;have esa10:=s6' _ _ esa6;have N10:=N6.same s6';clear u7 f7 s8 s9 s10 s710 hla hlb hl3 ea eb pina pinb qa qb srta srtb pna pnb nda er6 esa6;refine hM5 _ _ (B3 λM6 hM6=>?_);refine C3 rfl ⟨r2,_,0,_,rfl,rfl,IZ.of er10,rfl,⟨rfl,_,rfl,?_⟩⟩;rw[AU rfl];refine N8 (C3 rfl ⟨.ref ls, "list",_,true,rfl,.lst f10,rfl,?_⟩);refine⟨_,rfl,N8 (C3 rfl (C3 rfl ⟨ls,ts,rfl,.inl (IC.of f10),RK.nd,by lia,λM hss=>?_⟩))⟩;have v1:=Cv.new (o:=r9 w M ts) hss;have g1:(HX F10 M (r9 w M ts)) M=some (r9 w M ts):=A7;have f11:=v1 _ _ f10;generalize HX F10 M (r9 w M ts)=F11 at v1 g1 f11⊢;refine⟨M,ts,rfl,g1,λlc ts' hlc ptc stc=>?_⟩;rw[M0 stc RK.so ptc];have v2:=Cv.new (o:=.lst (ts.map V.str)) hlc;refine Zp (v2 _ _ f11) A7 okt ⟨_,rfl,N8 ?_⟩;have g:=v1.trans v2;have f12:=v2 _ _ f11;generalize HX F11 lc (.lst (ts.map V.str))=F12 at g f12⊢;clear v1 v2 g1 f11;refine hM6 _ _ (B3 λM7 hM7=>?_);have N12:=N10.same g;refine C3 rfl (C3 rfl ⟨[l,k,p],o2,sa,ss2,e.spread ps,ps2,rfl,N12,g _ _ esa10,by rw[e.spread_eq];exact e.lead_nd O6.st,λy hy=>by rw[en];exact e.lead_sub O6.st hc y (by rw[<-e.spread_eq];exact hy),λlr rc F13 s13 hlr er13 mr=>?_⟩);have iff:∀x,x∈ts↔x∈rc:=λx=>by
      rw[RK.rch,mr,e.spread_eq];exact⟨λz=>z.cong (λy z=>t7 pq3 y z) λy=>e.lead_mem C.pq y,λz=>z.cong (λy z=>(t7 pq3 y z).symm) λy=>(e.lead_mem C.pq y).symm⟩
     refine hM7 _ _ (B3 λM8 hM8=>?_);have f13:=s13 _ _ f12;refine C3 rfl ⟨ls,rfl,⟨_,IC.of f13⟩,λD hD=>?_⟩;refine Pa f13 hD (λx hx H1 Z Q' hQ=>?_) (λσ F14 s14 e14=>?_) _
     .obtain⟨n,hn,rfl⟩:=BJ.mp hx;refine C3 rfl (C3 rfl (P4 (.inl (IC.of (Z _ _ er13))) ⟨_,rfl,?_⟩));rw[AU ((iff n).mp hn)];exact hQ _ λb o e=>e
     refine⟨BP _,λz1 hz1=>?_⟩;have v3:=Cv.new (o:=.lst []) hz1;refine Pb (v3 _ _ e14) A7 ⟨_,rfl,N8 (hM8 _ _ (B3 λM9 hM9=>?_))⟩;have I:=(g.trans s13).trans (s14.trans v3);have f14:=(s14.trans v3) _ _ f13;generalize HX F14 z1 (.lst [])=F15 at I f14⊢;clear g s13 s14 v3 e14 hD f13 f12 f10 mr er13 hz1 hlr;have R15:=R10.same I;refine C3 rfl ⟨l3,rfl,⟨_,IC.of R15.1⟩,λD hD=>?_⟩;refine Pa R15.1 hD (λx hx H1 Z Q' hQ=>?_) (λσ F16 s16 e16=>?_) _
     .obtain⟨q,hq,rfl⟩:=BJ.mp hx;have m2:q.2∈Cr (WG J N) (G8 (B2 O)) ns2:=e10▸BJ.mpr ⟨q,hq,rfl⟩;obtain⟨n,hn,eqn⟩:=BJ.mp m2;obtain⟨h1,h2⟩:=AV.mp hn;have hnt:n∈ts:=by
       by_cases c:n∈ts
       .exact c
       .unfold Ty at h2;rw[AU (RK.stay n h1 c)]at h2;cases h2
      refine C3 rfl ⟨q.1,_,0,_,rfl,rfl,IZ.of (Z _ _ (R15.2 q hq)),rfl,C3 rfl (P4 (.inl (IC.of (Z _ _ f14))) ⟨_,rfl,?_⟩)⟩;rw[<-eqn,AU hnt];exact hQ _ λb o e=>e
     refine⟨BP _,λz2 hz2=>?_⟩;have v4:=Cv.new (o:=.lst []) hz2;refine Pb (v4 _ _ e16) A7 ⟨_,rfl,N8 (hM9 _ _ (B3 λMa hMa=>?_))⟩;have v14:=I.trans (s16.trans v4);have f16:=(s16.trans v4) _ _ f14;generalize HX F16 z2 (.lst [])=F17 at v14 f16⊢;clear I s16 v4 e16 hD f14 R15 hz2 R10 e10;have k17:=s6'.trans v14;refine C3 rfl ⟨.inl ⟨rfl,_,IC.of f16⟩,ls,_,_,rfl,rfl,f16,by rw[AB,sizeLine_eq];lia,hMa _ _ (B3 λMb hMb=>?_)⟩;refine C3 rfl ⟨.inl ⟨rfl,_,IC.of A7⟩,ls,_,rfl,rfl,A7,hMb _ _ (B3 λMc hMc=>?_)⟩;have k18:=(k17.upd (o:=.lst (ts.map V.str ++ [V.str "more"])) hls).upd (o:=.lst (ts.map V.str ++ [V.str "more"]).reverse) hls;generalize HX (HX F17 ls (.lst (ts.map V.str ++ [V.str "more"]))) ls (.lst (ts.map V.str ++ [V.str "more"]).reverse)=F18 at k18⊢;refine C3 rfl ⟨k,dk6,C3 rfl ⟨k18 _ _ hk6,rfl,k,p,ns2,O,ts,m+1,rfl,K6.same k18,λlz hlz=>?_⟩⟩;have u:=Cv.new (o:=.lst (ts.map V.str)) hlz;refine y6 (.inl (IC.of A7)) ⟨_,rfl,?_⟩;rw[AK λz=>no2 (U.mem_iff.mp (RK.sub _ z))];have s:=k18.trans u;refine N8 (hMc _ _ (C3 rfl (hD2 _ _ ⟨_,_,_,_,_,_,_,_,_,_,_,_,_,_,_,_,rfl,s6.trans s,L6.same s,by lia,⟨K6.same s,N6.same s,U,pq3,?_,?_,no2⟩,by lia⟩)))
     .rw[en];exact e.names_len C.l30 f3
     .have:=e.prs_len C.l140 f3;rw[<-ep,AB]at this;exact this
    .refine⟨rfl,_,rfl,N8 ?_⟩;exact hD2 _ _ ⟨_,_,_,_,_,_,_,_,_,_,_,_,_,_,_,_,rfl,s3.trans L,L3.same L,by lia,⟨kp3.same L,O3.same L,C.pn,C.pq,C.l30,C.l140,C.no⟩,by lia⟩
   .rintro σ G ⟨o,v6,v7,v8,v9,R,S,g,I,ss,J,rk,ps,N,m,c,rfl,sG,_,_,KG,lm⟩;exact hD1 _ _ ⟨_,_,_,_,_,_,_,_,_,_,_,_,_,_,_,_,_,_,rfl,sG,KG.neX λz hz=>.inr (AN _ hz),by lia⟩
  .rintro i σ G ⟨o,sp,v4,v5,v6,v7,v8,v9,R,S,g,I,ss,J,rk,ps,N,m,rfl,sG,KG,lm⟩;refine hN4 _ _ ?_;obtain⟨dk,_,_,_,_,_,_,_,hk,W,_⟩:=id KG.kp.ex;refine C3 rfl ⟨k,dk,_,rfl,hk,rfl,k,p,J,N,rk,m,rfl,KG.kp,λl1 r1 G2 s2 hl1 e1 p1 q1=>?_⟩;refine C3 rfl ⟨[k,p],o,ss,ps,rfl,KG.own.same s2,λl2 ns3 r2 G3 s3 hl2 U srt3 e2 p2 q2=>?_⟩;rw[M0 srt3 W.ok.srt (U.trans KG.pn.symm)]at q2;have q2:(r2.map λq=>q.2)=j9 J N:=by rw[q2];unfold j9;rw[w6 KG.pq]
   have okn:∀n∈J,PySem.PyData.strOk n=true:=λn hn=>O7 (KG.kp.nm n hn);exact(Lp (s3 _ _ e1) (J2 s3 p1) q1 okn W.ok.len).alike (Lp e2 (λq hq=>(p2 q hq).1) q2 okn W.ok.len) λG4 _=>q G4
end
section
variable{K:VA}{h:H_}{mg:Str->A5 A2}
theorem SE{us:A0 A2}(h:us.length=1):∃a,us = [a]:=List.length_eq_one_iff.mp h
theorem QA{us:A0 A2}(h:us.length=2):∃a b,us = [a,b]:=by
 cases us with
 | nil=>cases h
 | cons a r=>obtain⟨b,rfl⟩:=SE (Nat.succ.inj h);exact⟨a,b,rfl⟩
theorem RH{us:A0 A2}(h:us.length=3):∃a b c,us = [a,b,c]:=by
 cases us with
 | nil=>cases h
 | cons a r=>obtain⟨b,c,rfl⟩:=QA (Nat.succ.inj h);exact⟨a,b,c,rfl⟩
def IY{x:Str}{st:IK}{ps:A0 Str}{f:A3}{n:A2}{o i:A5 A3}{j:HS (A5 A2)}{kV e m d ct:A2}(X:K.In h)(G:h.Ns mainGlobals mg)(a:PySem.W.nsIn K mainGlobals x=some (some (.ref f)))
  (l:K.lookup f=some ⟨n,o,.func (PySem.W.fnOf x x (T8 st) (S0 st) (B6 st) .none kV e m i d ct),j⟩) (c:PySem.W.codeIn K d x=true) (k:PySem.W.keepIn K (.ref f)=true)
  (p:∀(kV e m:A2) (i:A5 A3) (d ct:A2) (us:A0 A2),us.length=ps.length->bindArgs (PySem.W.fnOf x x (T8 st) (S0 st) (B6 st) .none kV e m i d ct) ⟨us,[]⟩=pure (ps.zip us):=by intro _ _ _ _ _ _ us g;first | (obtain rfl:=FO.mp g;rfl) | (obtain⟨a,rfl⟩:=Sw.SE g;rfl) | (obtain⟨a,b,rfl⟩:=Sw.QA g;rfl) | (obtain⟨a,b,c,rfl⟩:=Sw.RH g;rfl)):Fn K mg x st ps :=
 ⟨f,_,KB l c k,(KB l c k).binds p,PySem.W.mg_of X G a⟩
def KS{C:A3}{x q:Str}{st:IK}{ps:A0 Str}{f:A3}{n:A2}{o h:A5 A3}{j:HS (A5 A2)}{kV e m d ct:A2}(a:PySem.W.findIn K (.ref C) x=some (some (.ref f)))(i:PySem.W.isFn K (.ref f)=true)
  (l:K.lookup f=some ⟨n,o,.func (PySem.W.fnOf x q (T8 st) (S0 st) (B6 st) .none kV e m h d ct),j⟩) (c:PySem.W.codeIn K d q=true) (k:PySem.W.keepIn K (.ref f)=true)
  (p:∀(kV e m:A2) (h:A5 A3) (d ct:A2) (us:A0 A2),us.length=ps.length->bindArgs (PySem.W.fnOf x q (T8 st) (S0 st) (B6 st) .none kV e m h d ct) ⟨us,[]⟩=pure (ps.zip us):=by intro _ _ _ _ _ _ us g;first | (obtain rfl:=FO.mp g;rfl) | (obtain⟨a,rfl⟩:=Sw.SE g;rfl) | (obtain⟨a,b,rfl⟩:=Sw.QA g;rfl) | (obtain⟨a,b,c,rfl⟩:=Sw.RH g;rfl)):Mt K C x q st ps :=
 ⟨f,_,KB l c k,(KB l c k).binds p,⟨a,i,k⟩⟩
theorem SB{x z:Str}{v:A2}(X:K.In h)(G:h.Ns mainGlobals mg)(a:PySem.W.nsIn K mainGlobals x=some (some v))(e:∃t,v = .str z t):∃t,mg x=some (.str z t):=by
 obtain⟨t,rfl⟩:=e;exact⟨t,PySem.W.mg_of X G a⟩
theorem SF{x:Str}{z:Int}{v:A2}(X:K.In h)(G:h.Ns mainGlobals mg)(a:PySem.W.nsIn K mainGlobals x=some (some v))(e:∃t,v = .int z t):∃t,mg x=some (.int z t):=by
 obtain⟨t,rfl⟩:=e;exact⟨t,PySem.W.mg_of X G a⟩
theorem RV{C:A3}(h:PySem.W.findIn K (.ref C) "__init__" = some (some (.builtin "ValueError.__init__"))):PySem.W.findIn K (.ref C) "__init__" = some (some (.builtin "ValueError.__init__")):=h
theorem JE{C:A3}{f:Str}(h:PySem.W.findIn K (.ref C) f=some none):JG K C f:=h
end
def SH{l:PySem.W.OpenLaw}{w:HW}{K:VA}{h:H_}{g:Str->A5 A2}{n f:A3}{r:A2}{t o:A5 A3}{j:HS (A5 A2)}{kV i p d ct:A2}(X:K.In h)(G:h.Ns mainGlobals g)(m:g "law" = some (.ref n))
  (T:Tx K g) (a:PySem.W.nsIn K mainGlobals "law" = some (some (.ref f))) (lk:K.lookup f=some ⟨r,t,.func (PySem.W.fnOf "law" "law" (T8 NT) (S0 NT) (B6 NT) .none kV i p o d ct),j⟩) (c:PySem.W.codeIn K d "law" = true) (k:PySem.W.keepIn K (.ref f)=true) :
  ∃q:IT,(∀(s:A4) (v:A2),BindsTo s q ⟨[v],[]⟩ [("_law_script",v)])/\∀b:H_,K.In b->b.Ns mainGlobals g->II l.prog w K g b JP 10 n q ["_law_script"] (Lg K):=by
 have e:=m.symm.trans (PySem.W.mg_of X G a);cases e;exact⟨PySem.W.fnOf "law" "law" (T8 NT) (S0 NT) (B6 NT) .none kV i p o d ct,λs v=>.of_eq rfl,λb _ _=>zBl T (KB lk c k)⟩
def walk{l:PySem.W.OpenLaw}{q:HU}{c:A0 Str}{o:(Str->A5 A2)->H_->Prop}{i:HW->H_->Prop}{d:DefRec}{K:Params->VA}(p:l.most=some 63)(g:d.params.defaults = [])
  (r:∀(w:HW) (h:H_),i w h->(K w.params).In h)
  (F:∀(w:HW) (e:Str->A5 A2) (j:A3) (h:H_),(K w.params).In h->h.Ns mainGlobals e->e d.name=some (.ref j) ->
   ∃m:IT,(∀(s:A4) (u:A2),BindsTo s m ⟨[u],[]⟩ [("_law_script",u)])/\∀b:H_,(K w.params).In b->b.Ns mainGlobals e->II l.prog w (K w.params) e b JP 10 j m ["_law_script"] (Lg (K w.params))) :
  PySem.W.WalkO q c o i l.row.toRowW d [] (λf vs=>PySem.call f vs) :=
 L2.RD (n:=63) (k:=10) (x := "_law_script") (CX:=λ_=>JP) (sp:=λw=>Lg (K w.params)) p (by decide) g ⟨rfl,by decide,by decide⟩ r F (λ_ _ a t v _ y=>⟨a,t,rfl,y,v,λ_=>rfl⟩) λ_ _ _ _ _ z=>z
end Sw
open PySem PySem.W PyProof.Rows
set_option maxRecDepth 100000 in
set_option maxHeartbeats 0 in
theorem PySem.Challenge.cw_strikeweave_k66_what_was_looked_at_holds : PySem.Challenge.rw_strikeweave_k66_what_was_looked_at.Holds := by
 w_on;o_law;k_head;(case hw=>w_witness2)
 k_fill
 refine Sw.walk (l:=PySem.Challenge.rw_strikeweave_k66_what_was_looked_at) rfl rfl (λw h Y=>PySem.W.kIn_of Y) ?F
 case F =>
  intro w mg fa h KX G hmg;refine' Sw.SH KX G hmg (Sw.Tx.mk (Sw.IY KX G ?a1 ?l2 ?c3 ?k4)
   (Sw.IY KX G ?a5 ?l6 ?c7 ?k8)
   (Sw.IY KX G ?a9 ?l10 ?c11 ?k12)
   (Sw.IY KX G ?a13 ?l14 ?c15 ?k16)
   (Sw.IY KX G ?a17 ?l18 ?c19 ?k20)
   (Sw.IY KX G ?a21 ?l22 ?c23 ?k24)
   (Sw.IY KX G ?a25 ?l26 ?c27 ?k28)
   (Sw.IY KX G ?a29 ?l30 ?c31 ?k32)
   (Sw.IY KX G ?a33 ?l34 ?c35 ?k36)
   (Sw.IY KX G ?a37 ?l38 ?c39 ?k40)
   (Sw.IY KX G ?a41 ?l42 ?c43 ?k44)
   (Sw.IY KX G ?a45 ?l46 ?c47 ?k48)
   (Sw.IY KX G ?a49 ?l50 ?c51 ?k52)
   (Sw.IY KX G ?a53 ?l54 ?c55 ?k56)
   (Sw.IY KX G ?a57 ?l58 ?c59 ?k60)
   (Sw.IY KX G ?a61 ?l62 ?c63 ?k64)
   (Sw.IY KX G ?a65 ?l66 ?c67 ?k68)
   (Sw.IY KX G ?a69 ?l70 ?c71 ?k72)
   (Sw.IY KX G ?a73 ?l74 ?c75 ?k76)
   (Sw.IY KX G ?a77 ?l78 ?c79 ?k80)
   (Sw.IY KX G ?a81 ?l82 ?c83 ?k84)
   (Sw.IY KX G ?a85 ?l86 ?c87 ?k88)
   (Sw.IY KX G ?a89 ?l90 ?c91 ?k92)
   (Sw.IY KX G ?a93 ?l94 ?c95 ?k96)
   (Sw.IY KX G ?a97 ?l98 ?c99 ?k100)
   (Sw.IY KX G ?a101 ?l102 ?c103 ?k104)
   (Sw.IY KX G ?a105 ?l106 ?c107 ?k108)
   (Sw.IY KX G ?a109 ?l110 ?c111 ?k112)
   (Sw.IY KX G ?a113 ?l114 ?c115 ?k116)
   (Sw.IY KX G ?a117 ?l118 ?c119 ?k120)
   (Sw.IY KX G ?a121 ?l122 ?c123 ?k124)
   (Sw.IY KX G ?a125 ?l126 ?c127 ?k128)
   (Sw.IY KX G ?a129 ?l130 ?c131 ?k132)
   (Sw.IY KX G ?a133 ?l134 ?c135 ?k136)
   (Sw.IY KX G ?a137 ?l138 ?c139 ?k140)
   _
   ⟨?g142,?g143,?g144,?g145⟩
   (PySem.W.mg_of KX G ?q141)
   (Sw.JE ?n146)
   (Sw.JE ?n147)
   (Sw.JE ?n148)
   (Sw.JE ?n149)
   _
   _
   (L2.KB ?l152 ?c153 ?k154)
   (L2.PK.binds (L2.KB ?l152 ?c153 ?k154) (λ_ _ _ _ _ _ us hl=>by obtain⟨a,b,c,rfl⟩:=Sw.RH hl;rfl))
   ⟨?g155,?a150,?i151,?k156⟩
   (Sw.KS ?a157 ?i158 ?l159 ?c160 ?k161)
   (Sw.KS ?a162 ?i163 ?l164 ?c165 ?k166)
   (Sw.KS ?a167 ?i168 ?l169 ?c170 ?k171)
   (Sw.KS ?a172 ?i173 ?l174 ?c175 ?k176)
   (Sw.KS ?a177 ?i178 ?l179 ?c180 ?k181)
   _
   ⟨?g183,?g184,?g185,?g186⟩
   (PySem.W.mg_of KX G ?q182)
   (Sw.JE ?n187)
   (Sw.JE ?n188)
   (Sw.JE ?n189)
   (Sw.JE ?n190)
   _
   _
   (L2.KB ?l193 ?c194 ?k195)
   (L2.PK.binds (L2.KB ?l193 ?c194 ?k195) (λ_ _ _ _ _ _ us hl=>by obtain⟨a,b,rfl⟩:=Sw.QA hl;rfl))
   ⟨?g196,?a191,?i192,?k197⟩
   (Sw.KS ?a198 ?i199 ?l200 ?c201 ?k202)
   (Sw.KS ?a203 ?i204 ?l205 ?c206 ?k207)
   (Sw.KS ?a208 ?i209 ?l210 ?c211 ?k212)
   (Sw.KS ?a213 ?i214 ?l215 ?c216 ?k217)
   (Sw.KS ?a218 ?i219 ?l220 ?c221 ?k222)
   (Sw.KS ?a223 ?i224 ?l225 ?c226 ?k227)
   (Sw.KS ?a228 ?i229 ?l230 ?c231 ?k232)
   (Sw.KS ?a233 ?i234 ?l235 ?c236 ?k237)
   (Sw.KS ?a238 ?i239 ?l240 ?c241 ?k242)
   (Sw.KS ?a243 ?i244 ?l245 ?c246 ?k247)
   _
   _
   (L2.NA ?l249 ?t250 ?k251 ?g252 ?g253)
   (PySem.W.mg_of KX G ?q248)
   _
   _
   (L2.NA ?l255 ?t256 ?k257 ?g258 ?g259)
   (PySem.W.mg_of KX G ?q254)
   _
   _
   (L2.NA ?l261 ?t262 ?k263 ?g264 ?g265)
   (PySem.W.mg_of KX G ?q260)
   _
   _
   (L2.NA ?l267 ?t268 ?k269 ?g270 ?g271)
   (PySem.W.mg_of KX G ?q266)
   _
   _
   (L2.NA ?l273 ?t274 ?k275 ?g276 ?g277)
   (PySem.W.mg_of KX G ?q272)
   _
   _
   (L2.NA ?l279 ?t280 ?k281 ?g282 ?g283)
   (PySem.W.mg_of KX G ?q278)
   _
   _
   (L2.NA ?l285 ?t286 ?k287 ?g288 ?g289)
   (PySem.W.mg_of KX G ?q284)
   _
   _
   (L2.NA ?l291 ?t292 ?k293 ?g294 ?g295)
   (PySem.W.mg_of KX G ?q290)
   _
   _
   (L2.NA ?l297 ?t298 ?k299 ?g300 ?g301)
   (PySem.W.mg_of KX G ?q296)
   ⟨?g302,?g303,?g304,?g305⟩
   ⟨?g306,?g307,?g308,?g309,L2.NF _ _⟩
   ?u310
   ?w311
   ?w312
   ?w313
   ?w314
   ?w315
   ?w316
   ?w317
   ?w318
   ?w319
   (Sw.JE ?n320)
   _
   _
   (L2.KB ?l323 ?c324 ?k325)
   (L2.PK.binds (L2.KB ?l323 ?c324 ?k325) (λ_ _ _ _ _ _ us hl=>by obtain⟨a,b,rfl⟩:=Sw.QA hl;rfl))
   ⟨?a321,?i322,?k325⟩
   ⟨?g326,?g327,?g328,?g329⟩
   ⟨?g330,?g331,?g332,?g333,L2.NF _ _⟩
   ?u334
   ?w335
   ?w336
   ?w337
   ?w338
   ?w339
   ?w340
   ?w341
   ?w342
   ?w343
   (Sw.JE ?n344)
   _
   _
   (L2.KB ?l347 ?c348 ?k349)
   (L2.PK.binds (L2.KB ?l347 ?c348 ?k349) (λ_ _ _ _ _ _ us hl=>by obtain⟨a,b,rfl⟩:=Sw.QA hl;rfl))
   ⟨?a345,?i346,?k349⟩
   ⟨?g350,?g351,?g352,?g353⟩
   ⟨?g354,?g355,?g356,?g357,L2.NF _ _⟩
   ?u358
   ?w359
   ?w360
   ?w361
   ?w362
   ?w363
   ?w364
   ?w365
   ?w366
   ?w367
   (Sw.RV ?g368)
   ⟨?g369,?g370,?g371,?g372⟩
   ⟨?g373,?g374,?g375,?g376,L2.NF _ _⟩
   ?u377
   ?w378
   ?w379
   ?w380
   ?w381
   ?w382
   ?w383
   ?w384
   ?w385
   ?w386
   (Sw.RV ?g387)
   (Sw.SB KX G ?v388 ?e389)
   (Sw.SF KX G ?v390 ?e391)
   (VM KX G ?z392)
   (VM KX G ?z393)
   (VM KX G ?z394)
   (VM KX G ?z395)
   (VM KX G ?z396)
   (VM KX G ?z397)
   (VM KX G ?z398)
   (VM KX G ?z399)
   (VM KX G ?z400)
   (VM KX G ?z401)
   (VM KX G ?z402)
   (VM KX G ?z403)
   (VM KX G ?z404)
   (VM KX G ?z405)
   (VM KX G ?z406)
   (VM KX G ?z407)
   (VM KX G ?z408)
   (VM KX G ?z409)
   (VM KX G ?z410)) ?aL ?lL ?cL ?kL
  case a1|l2|c3|k4|a5|l6|c7|k8|a9|l10|c11|k12|a13|l14|c15|k16|a17|l18|c19|k20|a21|l22|c23|k24|a25|l26|c27|k28|a29|l30|c31|k32|a33|l34|c35|k36|a37|l38|c39|k40|a41|l42|c43|k44|a45|l46|c47|k48|a49|l50|c51|k52|a53|l54|c55|k56|a57|l58|c59|k60|a61|l62|c63|k64|a65|l66|c67|k68|a69|l70|c71|k72|a73|l74|c75|k76|a77|l78|c79|k80|a81|l82|c83|k84|a85|l86|c87|k88|a89|l90|c91|k92|a93|l94|c95|k96|a97|l98|c99|k100|a101|l102|c103|k104|a105|l106|c107|k108|a109|l110|c111|k112|a113|l114|c115|k116|a117|l118|c119|k120|a121|l122|c123|k124|a125|l126|c127|k128|a129|l130|c131|k132|a133|l134|c135|k136|a137|l138|c139|k140|q141|g142|g143|g144|g145|n146|n147|n148|n149|a150|i151|l152|c153|k154|g155|k156|a157|i158|l159|c160|k161|a162|i163|l164|c165|k166|a167|i168|l169|c170|k171|a172|i173|l174|c175|k176|a177|i178|l179|c180|k181|q182|g183|g184|g185|g186|n187|n188|n189|n190|a191|i192|l193|c194|k195|g196|k197|a198|i199|l200|c201|k202|a203|i204|l205|c206|k207|a208|i209|l210|c211|k212|a213|i214|l215|c216|k217|a218|i219|l220|c221|k222|a223|i224|l225|c226|k227|a228|i229|l230|c231|k232|a233|i234|l235|c236|k237|a238|i239|l240|c241|k242|a243|i244|l245|c246|k247|q248|l249=>k_is
  case t250=>kernel_rfl
  case k251|g252|g253|q254|l255=>k_is
  case t256=>kernel_rfl
  case k257|g258|g259|q260|l261=>k_is
  case t262=>kernel_rfl
  case k263|g264|g265|q266|l267=>k_is
  case t268=>kernel_rfl
  case k269|g270|g271|q272|l273=>k_is
  case t274=>kernel_rfl
  case k275|g276|g277|q278|l279=>k_is
  case t280=>kernel_rfl
  case k281|g282|g283|q284|l285=>k_is
  case t286=>kernel_rfl
  case k287|g288|g289|q290|l291=>k_is
  case t292=>kernel_rfl
  case k293|g294|g295|q296|l297=>k_is
  case t298=>kernel_rfl
  case k299|g300|g301|g302|g303|g304|g305|g306|g307|g308|g309=>k_is
  case u310=>kernel_rfl
  case w311=>kit_is
  case w312=>kit_is
  case w313=>kit_is
  case w314=>kit_is
  case w315=>kit_is
  case w316=>kit_is
  case w317=>kit_is
  case w318=>kit_is
  case w319=>kit_is
  case n320|a321|i322|l323|c324|k325|g326|g327|g328|g329|g330|g331|g332|g333=>k_is
  case u334=>kernel_rfl
  case w335=>kit_is
  case w336=>kit_is
  case w337=>kit_is
  case w338=>kit_is
  case w339=>kit_is
  case w340=>kit_is
  case w341=>kit_is
  case w342=>kit_is
  case w343=>kit_is
  case n344|a345|i346|l347|c348|k349|g350|g351|g352|g353|g354|g355|g356|g357=>k_is
  case u358=>kernel_rfl
  case w359=>kit_is
  case w360=>kit_is
  case w361=>kit_is
  case w362=>kit_is
  case w363=>kit_is
  case w364=>kit_is
  case w365=>kit_is
  case w366=>kit_is
  case w367=>kit_is
  case g368|g369|g370|g371|g372|g373|g374|g375|g376=>k_is
  case u377=>kernel_rfl
  case w378=>kit_is
  case w379=>kit_is
  case w380=>kit_is
  case w381=>kit_is
  case w382=>kit_is
  case w383=>kit_is
  case w384=>kit_is
  case w385=>kit_is
  case w386=>kit_is
  case g387|v388=>k_is
  case e389=>exact⟨_,rfl⟩
  case v390=>k_is
  case e391=>exact⟨_,rfl⟩
  case z392|z393|z394|z395|z396|z397|z398|z399|z400|z401|z402|z403|z404|z405|z406|z407|z408|z409|z410|aL|lL|cL|kL=>k_is
