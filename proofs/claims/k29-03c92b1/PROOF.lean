import PyProof.Rows.All
import Wide.All
import OpenK.AllK
import Wide.FinOn
import PyProof.Rows.SortShellK
import KE.KSortTup
import Lean
import PyProof.EqAt
import PyProof.EqKinds
import PyProof.TupleCall
import PyProof.SetRoads
import PyProof.DictRoadsH
import PyProof.IsRules
import PyProof.CollectWalk
import PyProof.FactsAll.set
import PyProof.NeData
import PyProof.P3In
import PyProof.TupleOfSeq
import PyProof.ZipIter
import PyProof.Rows.ZipGen
import KE.KDictOf
import PyProof.AttrMissHeap
import PyProof.Rows.SumAny
import PyProof.DictIter
import PyProof.DictWalks
import PyProof.DictValues
import PyProof.ListRange
import PyProof.ListStr
import PyProof.DictTruth
import PySem.Challenge.RW_strikeweave_k29_lists_within_one_another
namespace PySem.W.Fast
def tw10346807568198489096:=0
def tw14221264823478888820:=0
def tw11427862108605915739:=0
def tw18046009303520187917:=0
def tw8608391043220064838:=0
def tw17973941013477562600:=0
def tw9787387706001034351:=0
def tw2713792019197621322:=0
def tw4432780831623634371:=0
def tw2787092633204451963:=0
def tw5481347876209947784:=0
def tw13125395041601616088:=0
def tw17364060143462158348:=0
def tw10797376028331612447:=0
def tw14681567464203697730:=0
def tw6657234479721237335:=0
def tw7429978987286161852:=0
def tw1736494636854235632:=0
def tw3147822058253416978:=0
def tw5823957129738617566:=0
def tw9172137406474023015:=0
def tw4659954034864634161:=0
def tw3238244091835168982:=0
def tw12290627319046956880:=0
def tw16898086474549555137:=0
def tw10043668739541972914:=0
def tw3367166945861909954:=0
def tw15790547281743822666:=0
def tw7693293654737050920:=0
def tw14105629374905958776:=0
def tw16532754871784593037:=0
def tw17107815978852847962:=0
def tw3447533422608971345:=0
def tw18420277435607874379:=0
def tw15259767432970954170:=0
def tw12753112226085910573:=0
def tw17707393780014081611:=0
def tw10648097140394451577:=0
def tw1181119701180447522:=0
def tw2749906740983574775:=0
def tw10112010493975484586:=0
def tw11854424014717729220:=0
def tw4712284610613496363:=0
def tw9232453452692538619:=0
def tw12233985208717891745:=0
def tw7069635983114983602:=0
def tw13468799198531970874:=0
def tw18328128491332451924:=0
def tw4926202737745284613:=0
def tw16568528279568982500:=0
def tw11963586027392194095:=0
def tw6484094722649258866:=0
def tw14354557185158010651:=0
def tw4176296421598666633:=0
def tw14776282690835861948:=0
def tw521302536782982784:=0
def tw970741481919286300:=0
def tw7606070338438240017:=0
def tw2836136060704634595:=0
def tw805576592090852843:=0
def tw4291635123885094539:=0
def tw560223050362526024:=0
def tw16677804186625158650:=0
def tw6807144785024554433:=0
def tw10609515464248200483:=0
def tw8608128516643427830:=0
def tw14853858856673013672:=0
def tw5261447030319342441:=0
def tw13536919178512222682:=0
def tw3381071692422571475:=0
def tw16788440095946490673:=0
def tw4761324081086378127:=0
def tw15872067440828983609:=0
def tw2632613834185701344:=0
def tw15735195433448295957:=0
def tw10785389467567448159:=0
def tw8417469701636908922:=0
def tw18120936432106616035:=0
def tw3201413486315142226:=0
def tw18380107843127943750:=0
def tw2600315800362976110:=0
def tw4978282637686929421:=0
def tw15005790679772735816:=0
def tw7223384835865933533:=0
def tw5445338847438160990:=0
def tw9558794570256648718:=0
def tw338323364614005488:=0
def tw2028439316306898498:=0
def tw422408826728702729:=0
def tw16968322610548140927:=0
def tw17451543858920343100:=0
def tw492586858091992448:=0
def tw9504547713041482585:=0
def tw14057041475131317716:=0
def tw6354828392997032942:=0
def tw3792208408577870455:=0
def tw1987846972410297556:=0
def tw220962958043087940:=0
def tw397808995942862441:=0
def tw685688033309253109:=0
def tw17699992620167155708:=0
def tw7734567520569965230:=0
def tw15286495769917791794:=0
def tw9897827218032451433:=0
def tw13749811040462132131:=0
def tw1358877207626273442:=0
def tw16717964542427590895:=0
def tw623493339987799088:=0
def tw9308204624865794919:=0
def tw7927833501759709735:=0
def tw1848055826438228666:=0
def tw9735184001360183310:=0
def tw1233886840102796284:=0
def tw5524716808206013596:=0
def tw16766171799432209762:=0
def tw4928314566526961045:=0
def tw13051528428301233629:=0
def tw5568279375329508958:=0
def tw14708614553788203673:=0
def tw7650988179465996917:=0
def tw194784947409165834:=0
def tw6550918260497508208:=0
def tw2909140775014711072:=0
def tw15478787892976296198:=0
def tw16544972190433627237:=0
def tw15532766741910747049:=0
def tw4271079310200598716:=0
def tw17101652440310733583:=0
def tw15846737133060484569:=0
def tw9611393045947287973:=0
def tw6813052716113687156:=0
def tw17523794836291993872:=0
def tw10236433014023044897:=0
def tw2228847161090543966:=0
def tw17754889684077782261:=0
def tw15449807449978733830:=0
def tw7524654772399056292:=0
def tw10343964203077280748:=0
def tw6122842722730029090:=0
def tw9763126425658022999:=0
def tw15598469979156931199:=0
def tw9830531796327400686:=0
def tw11359614278241551755:=0
def tw2465482571546780199:=0
def tw17342844129367882787:=0
def tw17775958920890293043:=0
def tw11518902774876313185:=0
def tw12699460277556398858:=0
def tw765541069480838436:=0
def tw17024789547196397598:=0
def tw16454196901286967040:=0
def tw16399170037599250370:=0
def tw11911772091578605949:=0
def tw4157574076851782883:=0
def tw18346130856440889266:=0
def tw3497673893232800334:=0
def tw3905171872934104815:=0
def tw15325887983861788586:=0
def tw16368958920967468835:=0
def tw15001523560579319001:=0
def tw15659873914470495024:=0
def tw16411793684620833153:=0
def tw11865587439009086819:=0
def tw15489369363096921731:=0
def tw4084250991854036574:=0
def tw338220825405057465:=0
def tw14064617047938850678:=0
def tw3688596527838879322:=0
def tw11845457000572948851:=0
def tw8260713040477663877:=0
def tw13319588289836773852:=0
def tw16825476148832887585:=0
def tw9079127014696611457:=0
def tw11321691337176513734:=0
def tw11087898435452483570:=0
def tw4788969304609702237:=0
def tw1747758798816248079:=0
def tw5533528072066139418:=0
def tw6082442972190421848:=0
def tw9280161554379974511:=0
def tw11406158684807293546:=0
def tw15268378067658086900:=0
def tw11853572973497698778:=0
def tw14713514568700058549:=0
def tw14235018336746858367:=0
def tw4835241300476099311:=0
def tw16263394160262256216:=0
def tw2426824564729919748:=0
def tw4641900801226981063:=0
def tw3693742386261126553:=0
def tw17457885243530111123:=0
def tw17794008375181801880:=0
def tw10158162772213991332:=0
def tw9077476654497684047:=0
def tw2142765807248301155:=0
def tw8540189241611413941:=0
def tw842594834084237419:=0
def tw10359714119651531855:=0
def tw8101099860019786203:=0
def tw12564838364461607035:=0
def tw15876987733438277895:=0
def tw11766034543523162204:=0
def tw12495765741677136159:=0
def tw15076023384884589379:=0
def tw1736280071487238738:=0
def tw2401859109339133532:=0
def tw15553546345538150937:=0
def tw999909784433484821:=0
def tw6960698641780018355:=0
def tw9506779996075734660:=0
def tw6866162070814783040:=0
def tw18270326163945590602:=0
def tw13321751666794835751:=0
def tw2608205014757131971:=0
def tw16439198028716627206:=0
def tw4485543588634762685:=0
def tw8664903121220528633:=0
def tw16005150689973762434:=0
def tw7050386841330541713:=0
def tw3590159991298711604:=0
def tw10369833503911643619:=0
def tw861041832405834458:=0
def tw15576696213302410073:=0
def tw8941439271447428998:=0
def tw13762591010552458414:=0
def tw1027969766892464125:=0
def tw7132930845147316790:=0
def tw5087405925273608264:=0
def tw17991983871520668352:=0
def tw5548018405351896711:=0
def tw14668445173313919890:=0
def tw7747293897406849780:=0
def tw867591167118470623:=0
def tw13865078486914017045:=0
def tw5226763522486864655:=0
def tw8982451053543284545:=0
def tw2231876288107078329:=0
def tw6236084793447650610:=0
def tw6622191712627132813:=0
def tw4255122356134816441:=0
def tw6430380240829240284:=0
def tw1289402793977305804:=0
def tw12986367326966803219:=0
def tw602173392024610703:=0
def tw13313221745217809342:=0
def tw17279738225597280959:=0
def tw9084386429428810497:=0
def tw12411218524876366239:=0
def tw6002796080088805535:=0
def tw10165520150540794635:=0
def tw17127415893697001341:=0
def tw10017251174196198842:=0
def tw3082525104862479706:=0
def tw4015383165936192336:=0
def tw10881341750583351225:=0
def tw10864241381477819250:=0
def tw6173707497455282100:=0
def tw1508335285411114573:=0
def tw10621372716416257038:=0
def tw8419850581228891724:=0
def tw5442348708480811386:=0
def tw12762572009786901326:=0
def tw341758442145862616:=0
def tw17471521830215466212:=0
def tw1173426339096133032:=0
def tw8372646076688594505:=0
def tw13440802251665481716:=0
def tw731290757446699125:=0
def tw15562729943530712916:=0
def tw6970019972138171743:=0
def tw11801901359693722454:=0
def tw12286219355075260724:=0
def tw7159808175514916306:=0
def tw17759697384910372962:=0
def tw6705070231512305429:=0
def tw15754614197022473087:=0
def tw8227187392093119854:=0
def tw4848028974106180035:=0
def tw5346333907205310580:=0
def tw2447117522062785483:=0
def tw8824235872363546746:=0
def tw2920247652940431917:=0
def tw13499922239410421915:=0
def tw5624371381371384523:=0
def tw1109170783268711940:=0
def tw6477179298603259351:=0
def tw7918803740698025348:=0
def tw5987200523417719031:=0
def tw5074510869951180732:=0
def tw6402837724722882122:=0
def tw3744233727921105096:=0
def tw9118649063378395163:=0
def tw12719892982053786923:=0
def tw7954460134098373587:=0
def tw7988857229283907914:=0
def tw2425723983414590806:=0
def tw17582958505285215867:=0
def tw8947736861821000589:=0
def tw12301817558018472061:=0
def tw3134993172870872705:=0
def tw6511108300302160973:=0
def tw18341094707678763479:=0
def tw13618957480626909307:=0
def tw5015821474218943462:=0
def tw14964007269356657967:=0
def tw16568213943652892995:=0
def tw881778004001884058:=0
def tw17189910099265661271:=0
def tw1933757138813281022:=0
def tw6659966412587760288:=0
def tw5462218210729974515:=0
def tw2231264980063122025:=0
def tw5916519620043981548:=0
def tw16004481966223714171:=0
def tw2450959682737743655:=0
def tw1126573887096936826:=0
def tw15832017205884742038:=0
def tw4638605890724037794:=0
def tw5017416297868904794:=0
def tw17708647646814417352:=0
def tw5396155237583136878:=0
def tw631585014655745472:=0
def tw6287790870916902688:=0
def tw3545427184929182923:=0
def tw13646063656341589713:=0
def tw16854180096460644828:=0
def tw10316367814829856373:=0
def tw9023092004615977971:=0
def tw14489374966466994685:=0
def tw12245323020319527796:=0
def tw13413153893183714987:=0
def tw10822406663266327485:=0
def tw8499071195768215579:=0
def tw8400988041010696051:=0
def tw10730876260962853444:=0
def tw14998651569220130106:=0
def tw17252451916002292900:=0
def tw9631562536992182452:=0
def tw7571021047591841311:=0
def tw7238240188166201304:=0
def tw8552589570381961557:=0
def tw16587980764443526955:=0
def tw10480226470552477852:=0
def tw10597286759012613992:=0
def tw7979941837747162218:=0
def tw9689703610140294807:=0
def tw3012917104213752073:=0
def tw10224861581679849838:=0
def tw4962882989519047253:=0
def tw17988897538051575035:=0
def tw16707945699897959559:=0
def tw291854752776783751:=0
def tw14159833515722042042:=0
def tw6287949627759731291:=0
def tw9150730800165493611:=0
def tw10015316630008217945:=0
def tw4174809714017220091:=0
def tw4684214669252751656:=0
def tw9171476463602471343:=0
def tw9360179455976575848:=0
def tw16464292280920592253:=0
def tw10666056716912298090:=0
def tw4551744416407927308:=0
def tw5352760196376380651:=0
def tw9058517711118984531:=0
def tw5491335679719980127:=0
def tw2893191169245094511:=0
def tw15879093262481480581:=0
def tw103085003337836587:=0
def tw8584077964507665306:=0
def tw7231716143081174993:=0
def tw13975236208249898745:=0
def tw9779432744932365055:=0
def tw12333201526812726806:=0
def tw7543277996710562861:=0
def tw10892195058437744893:=0
def tw11608094190542354658:=0
def tw4908708171273819500:=0
def tw7121426338978977370:=0
def tw12846131463460421594:=0
def tw709397814334758911:=0
def tw759728207323785716:=0
def tw10344418052035766727:=0
def tw1582421508886230287:=0
def tw13634702231359014818:=0
def tw10759992945702034103:=0
def tw14535370174051377584:=0
def tw9281144147614707356:=0
def tw9278660414036870319:=0
def tw7006141890393252846:=0
def tw8580146488989608797:=0
def tw2913285550407544069:=0
def tw5003463306589252756:=0
def tw17364451977149730834:=0
def tw6536015269176330405:=0
def tw14281676350771652625:=0
def tw15413898595624093442:=0
def tw12409009857625804403:=0
def tw10822419712507040397:=0
def tw2438766476552246324:=0
def tw12911915659216942471:=0
def tw198774661629544789:=0
def tw2256536332110172984:=0
def tw16208099740001728826:=0
def tw8157220002118788270:=0
def tw18017726646670627023:=0
def tw13970818226160027571:=0
def tw9434968361198042478:=0
def tw305551379410931672:=0
def tw9161958333761899828:=0
def tw2198472424523622035:=0
def tw7651829027785193760:=0
def tw7778950520926005230:=0
def tw1248267155857822478:=0
def tw9944710492870527334:=0
def tw3894179676524058242:=0
def tw12753964883367085537:=0
def tw17252408720083833626:=0
end PySem.W.Fast
set_option autoImplicit false
set_option genSizeOf false
set_option genSizeOfSpec false
set_option bootstrap.genMatcherCode false
set_option compiler.extract_closed false
set_option linter.all false
set_option maxRecDepth 100000
section
open PySem PySem.Spec PyProof.Rows
def AA:=@wpAny_bind
def AB:=@List.length_map
def AC:=@List.getElem?_eq_getElem
def AD:=@List.mem_singleton
def AE:=@Heap.get?_push_of_some
def AF:=@wpAny_pure
def AG:=@List.getElem?_eq_some_iff
def AH:=@decide_eq_true
def AI:=@List.getElem?_map
def AJ:=@if_neg
def AK:=@List.mem_map
def AL:=@List.mem_filter
def AM:=@List.mem_cons_of_mem
def AN:=@Heap.lt_size
def AO:=@Array.length_toList
def AQ:=@if_pos
def AR:=@List.map_append
def AS:=@List.length_take
def AU:=@List.mem_cons_self
def AV:=@List.mem_append
def AW:=@of_decide_eq_true
def AX:=@Bool.false_eq_true
def AY:=@decide_eq_true_iff
def AZ:=@List.size_toArray
def A_:=@decide_eq_false
def BA:=@List.length_append
def BB:=@Heap.get?_push_size
def BC:=@Bool.false_ne_true
def BD:=@List.mem_cons
def BE:=@List.append_assoc
def BF:=@Nat.ne_of_lt
def BG:=@List.map_cons
def BH:=@Option.some.inj
def BI:=@Bool.eq_false_iff
def BJ:=@List.mem_of_getElem?
def BK:=@List.not_mem_nil
def BL:=@List.length_filter_le
def BM:=@Nat.lt_of_lt_of_le
def BN:=@List.length_cons
def BO:=@Array.getElem?_toList
def BP:=@Bool.and_eq_true
def BQ:=@Array.toList_append
def BR:=@Nat.testBit_or
def BS:=@Option.map_eq_some_iff
def BT:=@List.filter_sublist
def BU:=@List.take_append_drop
def BV:=@List.mem_append_right
def BW:=@List.getD_eq_getElem?_getD
def BX:=@List.length_range
def BZ:=@List.pairwise_append
def B_:=@List.mem_range
def CA:=@Nat.zero_le
def CB:=@List.pairwise_map
def CC:=@List.map_map
def CD:=@Bool.or_eq_true
def CF:=@wpAny_setState_of
def CG:=@List.take_length
def CH:=@List.filter_cons
def CI:=@List.append_nil
def CJ:=@List.all_eq_true
def CK:=@Bool.eq_iff_iff
def CL:=@Array.getD_eq_getD_getElem?
def CN:=@if_false
def CO:=@wpAny_holding
def CP:=@Nat.eq_of_testBit_eq
def CQ:=@Nat.lt_succ_of_lt
def CS:=@wpAny_mono
def CT:=@List.perm_append_comm
def CU:=@wpAny_loadPart'
def CV:=@Nat.testBit_zero
def CY:=@List.mem_of_mem_take
def CZ:=@List.take_of_length_le
def C_:=@Heap.get?_update_other
def DA:=@wpAny_truthy_bool
def DB:=@List.nodup_cons
def DC:=@Array.getElem?_eq_some_iff
def DD:=@Array.toList_push
def DE:=@Nat.lt_irrefl
def DF:=@List.drop_eq_getElem_cons
def DG:=@List.length_drop
def DH:=@List.getElem?_take_of_lt
def DI:=@List.getElem_mem
def DJ:=@Nat.testBit_succ
def DK:=@Nat.zero_testBit
def DL:=@Nat.le_succ
def DM:=@List.Perm.append_left
def DN:=@Heap.get?_update_self
def DP:=@List.pairwise_singleton
def DQ:=@Bool.false_and
def DR:=@List.filter_append
def DT:=@List.perm_ext_iff_of_nodup
def DU:=@List.Perm.append_right
def DV:=@List.pairwise_iff_getElem
def DW:=@List.filter_eq_self
def DX:=@Nat.lt_of_le_of_ne
def DY:=@List.take_sublist
def DZ:=@Bool.not_eq_true'
def D_:=@Nat.zero_add
def EA:=@List.Perm.refl
def EB:=@Heap.size_push
def EC:=@Int.toNat_natCast
def ED:=@wpAny_newObj_type
def EE:=@List.nodup_append
def EF:=@Heap.SameBut.update
def EG:=@List.getElem_of_mem
def EH:=@List.range_succ
def EI:=@Nat.testBit_and
def EJ:=@List.extract_eq_take_drop
def EK:=@List.getElem?_eq_none
def EL:=@wpAny_call_entry
def EM:=@List.any_eq_true
def EN:=@Bool.not_true
def EO:=@List.filterMap_cons_some
def EQ:=@List.mem_of_mem_drop
def ER:=@List.drop_zero
def ES:=@Array.toList_extract
def ET:=@List.find?_cons
def EU:=@codeAny_builtin
def EV:=@List.filterMap_cons
def EW:=@Nat.testBit_two_pow
def EX:=@List.drop_eq_nil_of_le
def EY:=@Nat.le_of_lt
def EZ:=@Heap.size_update
def E_:=@Nat.lt_succ_self
def FA:=@List.drop_drop
def FB:=@wpAny_rule
def FC:=@wpAny_Call_Name_kw
def FD:=@Int.emod_lt_of_pos
def FE:=@if_true
def FF:=@List.Pairwise.and_mem
def FG:=@wpAny_passesOwn
def FH:=@List.drop_sublist
def FI:=@List.mem_iff_getElem
def FJ:=@Array.toList_reverse
def FK:=@List.ext_getElem?
def FM:=@List.mem_append_left
def FN:=@Option.isSome_iff_exists
def FO:=@List.any_cons
def FP:=@Nat.testBit_two_pow_self
def FQ:=@Nat.add_le_add_left
def FR:=@Array.size_map
def FS:=@Nat.eq_zero_of_not_pos
def FT:=@List.getElem?_drop
def FU:=@Array.size_extract
def FV:=@Array.getElem?_eq_none
def FW:=@Option.map_some
def FX:=@Int.emod_nonneg
def FY:=@List.filter_nil
def FZ:=@Bool.false_or
def F_:=@List.length_singleton
def GA:=@List.mem_iff_getElem?
def GB:=@Nat.lt_of_succ_lt
def GC:=@List.drop_take
def GD:=@List.getElem?_append_right
def GE:=@Bool.and_false
def GF:=@wpAny_of_eq
def GG:=@wpAny_setField
def GH:=@wpAny_askSetting
def GI:=@List.nodup_range
def GJ:=@List.getElem?_append_left
def GK:=@List.getElem?_eq_none_iff
def GL:=@List.reverse_append
def GM:=@Array.size_setIfInBounds
def GN:=@wpAny_newList
def GO:=@List.lt_trans
def GP:=@wpAny_standAt
def GQ:=@List.filterMap_cons_none
def GR:=@Bool.true_and
def GS:=@List.Pairwise.imp_of_mem
def GT:=@Nat.min_eq_left
def GU:=@Nat.zero_lt_one
def GV:=@List.length_nil
def GW:=@List.nil_append
def GX:=@List.getElem?_cons_zero
def GY:=@List.take_take
def GZ:=@Heap.get?_push_ne
def G_:=@List.lt_irrefl
def HB:=@wpAny_pyIter_list
def HC:=@codeAny_mono
def HD:=@Bool.not_false
def HE:=@wpAny_storeSet_of
def HF:=@List.drop_of_length_le
def HG:=@List.getElem?_inj
def HH:=@wpAny_eqBool_str
def HI:=@Heap.ExtBut.push
def HJ:=@List.cons.inj
end
noncomputable section
namespace TS
open PySem PyProof.Rows
def kk(κ:KeyKind)(p:Keyed):κ.α:=(κ.keyOf p.1).getD κ.dflt
def Has(κ:KeyKind)(p:Keyed):Prop:=∃a,κ.keyOf p.1=some a
def le(κ:KeyKind)(p q:Keyed):Prop:=κ.kle (kk κ p) (kk κ q)
def Sor(κ:KeyKind)(l:List Keyed):Prop:=l.Pairwise (le κ)
structure Cmp(prog:Program)(w:World)(A:Around)(s:Shared)(κ:KeyKind)(kd:SortKind):Prop where
 lt:∀(x y:Value) (a b:κ.α) (Q:Bool->Shared->Prop) (E:Value->Shared->Prop),κ.keyOf x=some a->κ.keyOf y=some b->Q (κ.blt a b) s->wpAny (model prog w) A (keyLt' kd x y) Q E s
section
variable{prog:Program}{w:World}{A:Around}{E:Value->Shared->Prop}{s:Shared}{κ:KeyKind}{kd:SortKind}
theorem Gq(C:Cmp prog w A s κ kd){st:SortSt}{x y:Keyed}{Q:Option Bool->SortSt->Prop}(hk:kindOf st=kd)(hx:Has κ x)(hy:Has κ y)
  (h:Q (some (κ.blt (kk κ x) (kk κ y))) st):wpS (model prog w) A E s (lt' x y) Q st:=by
 obtain⟨a,ha⟩:=hx
 obtain⟨b,hb⟩:=hy
 have e1:kk κ x=a:=by unfold kk;rw[ha];rfl
 have e2:kk κ y=b:=by unfold kk;rw[hb];rfl
 rw[e1,e2]at h
 rw[lt'_eq]
 refine wpS_bind (wpS_get ?_)
 rw[hk]
 refine wpS_bind (wpS_lift (wpAny_attempt (C.lt x.1 y.1 a b _ _ ha hb ⟨rfl,?_⟩)))
 exact wpS_pure h
theorem C9{st:SortSt}{arr:Array Keyed}{i:Nat}{p:Keyed}{Q:Keyed->SortSt->Prop}(hi:arr[i]?=some p)(h:Q p st):wpS (model prog w) A E s (elem' arr i) Q st:=by
 rw[elem'_eq,hi];exact wpS_pure h
def S5:Bool->Keyed->Array Keyed->Nat->Nat->Nat->StateT SortSt Sem (Option Nat):=sortPriv% PySem.Builtin.gallop
def bey(left:Bool)(ky:Keyed)(ar:Array Keyed)(bs:Nat)(i:Nat):StateT SortSt Sem (Option Bool):=do
 let x <-elem' ar (bs+i)
 if left then lt' x ky else return(<-lt' ky x).map (!·)
theorem Ng(left:Bool)(ky:Keyed)(ar:Array Keyed)(bs n ht:Nat):S5 left ky ar bs n ht =(do
  let mut la:=0
  let mut of:=1
  let mut lo:=0
  let mut hi:=0
  let some ri <-bey left ky ar bs ht | return none
  if ri then
   let mx:=n-ht
   for _ in [0:n] do
    if of ≥ mx then break
    let some mo <-bey left ky ar bs (ht+of) | return none
    if !mo then break
    la:=of
    of:=2*of+1
   lo:=ht+la+1
   hi:=ht+min of mx
  else
   let mx:=ht+1
   for _ in [0:n] do
    if of ≥ mx then break
    let some fo <-bey left ky ar bs (ht-of) | return none
    if fo then break
    la:=of
    of:=2*of+1
   lo:=ht+1-min of mx
   hi:=ht-la
  for _ in [0:n] do
   if lo ≥ hi then break
   let m:=lo +(hi-lo) / 2
   let some mo <-bey left ky ar bs m | return none
   if mo then lo:=m+1 else hi:=m
  return some hi):=rfl
def PB(κ:KeyKind)(left:Bool)(ky:Keyed)(p:Keyed):Bool:=if left then κ.blt (kk κ p) (kk κ ky)else !κ.blt (kk κ ky) (kk κ p)
theorem Xo(C:Cmp prog w A s κ kd){st:SortSt}{left:Bool}{ky p:Keyed}{ar:Array Keyed}{bs i:Nat}{Q:Option Bool->SortSt->Prop}(hk:kindOf st=kd)(hky:Has κ ky)(hp:Has κ p)(hi:ar[bs+i]?=some p)
  (h:Q (some (PB κ left ky p)) st):wpS (model prog w) A E s (bey left ky ar bs i) Q st:=by
 unfold bey
 refine wpS_bind (C9 hi ?_)
 cases left with
 | true=>exact Gq C hk hp hky h
 | false =>
  simp only[AX,CN]
  refine wpS_bind (Gq C hk hky hp ?_)
  exact wpS_pure h
theorem Ny(C:Cmp prog w A s κ kd){st:SortSt}{left:Bool}{ky:Keyed}{ar:Array Keyed}{bs n ht:Nat}{Q:Option Nat->SortSt->Prop}(hk:kindOf st=kd)(hky:Has κ ky)
  (P:Nat->Bool) (hP:∀i,i<n->∃p,ar[bs+i]?=some p/\Has κ p/\PB κ left ky p=P i) (mono:∀i j,i<=j->j<n->P j=true->P i=true) (hht:ht<n)
  (h:∀k,k<=n->(∀i,i<k->P i=true)->(∀i,k<=i->i<n->P i=false)->Q (some k) st):wpS (model prog w) A E s (S5 left ky ar bs n ht) Q st:=by
 have B:∀{st':SortSt} {i:Nat} {Q:Option Bool->SortSt->Prop},st'=st->i<n->Q (some (P i)) st'->wpS (model prog w) A E s (bey left ky ar bs i) Q st':=by
  intro st' i Q e hi q
  subst e
  obtain⟨p,h1,h2,h3⟩:=hP i hi
  exact Xo C hk hky h2 h1 (by rw[h3];exact q)
 have nmono:∀i j,i<=j->j<n->P i=false->P j=false:=by
  intro i j hij hj hi
  cases e:P j with
  | false=>rfl
  | true=>rw[mono i j hij hj e]at hi;cases hi
 rw[Ng]
 dsimp only
 refine wpS_bind (B rfl hht ?_)
 dsimp only
 have S:∀{lo hi:Nat} {f:Nat->(Option (Option Nat)×Nat×Nat)->StateT SortSt Sem (ForInStep (Option (Option Nat)×Nat×Nat))},
   (∀x l h,wpS (model prog w) A E s (f x (none,l,h)) (fun r st'=>st'=st/\(if h<=l then r = .done (none,l,h)else if P (l +(h-l) / 2)=true then r = .yield (none,l +(h-l) / 2+1,h)else r = .yield (none,l,l +(h-l) / 2))) st\/¬(h<=l\/l +(h-l) / 2<n)) ->
   lo<=hi->hi<=n->(∀i,i<lo->P i=true)->(∀i,hi<=i->i<n->P i=false) ->
   wpS (model prog w) A E s (forIn [0:n] (none,lo,hi) f) (fun c st'=>st'=st/\∃k,c =(none,k,k)/\k<=n/\(∀i,i<k->P i=true)/\(∀i,k<=i->i<n->P i=false)) st:=by
  intro lo hi f hf h1 h2 h3 h4
  refine wpS_forRange (I:=fun x c st'=>st'=st/\∃l r,c =(none,l,r)/\l<=r/\r<=n/\r-l<=n-x/\(∀i,i<l->P i=true)/\(∀i,r<=i->i<n->P i=false)) ?_ ?_ ⟨rfl,lo,hi,rfl,h1,h2,by omega,h3,h4⟩
  ·rintro x c st' _ hx ⟨rfl,l,r,rfl,hl,hr,hm,ha,hb⟩
   have hin:r<=l\/l +(r-l) / 2<n:=by omega
   rcases hf x l r with q | q
   ·refine wpS_mono q fun z st2 ⟨e,q2⟩=>?_
    subst e
    by_cases hge:r<=l
    ·rw[AQ hge]at q2
     subst q2
     have:l=r:=by omega
     subst this
     exact⟨rfl,l,rfl,hr,ha,hb⟩
    ·rw[AJ hge]at q2
     cases hp:P (l +(r-l) / 2)with
     | true =>
      rw[AQ hp]at q2
      subst q2
      exact⟨rfl,_,_,rfl,by omega,by omega,by omega,fun i hi=>mono i (l +(r-l) / 2) (by omega) (by omega) hp,hb⟩
     | false =>
      rw[AJ (by rw[hp];exact BC)]at q2
      subst q2
      exact⟨rfl,_,_,rfl,by omega,by omega,by omega,ha,fun i hi1 hi2=>nmono (l +(r-l) / 2) i hi1 hi2 hp⟩
   ·exact absurd hin q
  ·rintro c st' ⟨rfl,l,r,rfl,hl,hr,hm,ha,hb⟩
   have:l=r:=by omega
   subst this
   exact⟨rfl,l,rfl,hr,ha,hb⟩
 cases hr:P ht with
 | true =>
  rw[AQ rfl]
  refine wpS_bind (wpS_mono (wpS_forRange (I:=fun x c st'=>st'=st/\∃la of,c =(none,la,of)/\la<of/\x+1<=of/\ht+la<n/\P (ht+la)=true)
   (Q:=fun c st'=>st'=st/\∃la of,c =(none,la,of)/\la<of/\ht+la<n/\P (ht+la)=true/\(n-ht<=of\/(ht+of<n/\P (ht+of)=false))) ?st ?en ⟨rfl,0,1,rfl,by omega,by omega,by omega,hr⟩) ?po)
  case en =>
   rintro c st' ⟨rfl,la,of,rfl,a1,a2,a3,a4⟩
   exact⟨rfl,la,of,rfl,a1,a3,a4,.inl (by omega)⟩
  case st =>
   rintro x c st' _ hx ⟨rfl,la,of,rfl,a1,a2,a3,a4⟩
   dsimp only
   by_cases hge:of ≥ n-ht
   ·rw[AQ hge]
    exact wpS_pure ⟨rfl,la,of,rfl,a1,a3,a4,.inl hge⟩
   ·rw[AJ hge]
    refine wpS_bind (B rfl (show ht+of<n by omega) ?_)
    cases hp:P (ht+of)with
    | true=>exact wpS_pure ⟨rfl,of,2*of+1,rfl,by omega,by omega,by omega,hp⟩
    | false=>exact wpS_pure ⟨rfl,la,of,rfl,a1,a3,a4,.inr ⟨by omega,hp⟩⟩
  case po =>
   rintro c st' ⟨rfl,la,of,rfl,a1,a3,a4,a5⟩
   dsimp only
   refine wpS_bind (wpS_mono (S (lo:=ht+la+1) (hi:=ht+min of (n-ht)) (fun x l h'=>by
    dsimp only
    by_cases hge:h'<=l
    ·refine .inl ?_
     rw[AQ hge]
     exact wpS_pure ⟨rfl,by rw[AQ hge]⟩
    ·by_cases hn:l +(h' - l) / 2<n
     ·refine .inl ?_
      rw[AJ hge]
      refine wpS_bind (B rfl hn ?_)
      dsimp only
      cases hp:P (l +(h' - l) / 2)with
      | true =>
       simp only[FE]
       exact wpS_pure ⟨rfl,by rw[AJ hge]⟩
      | false =>
       simp only[AX,CN]
       exact wpS_pure ⟨rfl,by rw[AJ hge]⟩
     ·exact .inr (by omega)) (by omega) (by omega) (fun i hi=>mono i (ht+la) (by omega) a3 a4) fun i hi1 hi2=>?_) fun c st' ⟨e,k,e2,b1,b2,b3⟩=>?_)
   ·rcases a5 with a5 | ⟨a5,a6⟩
    ·omega
    ·exact nmono (ht+of) i (by omega) hi2 a6
   ·subst e e2
    exact wpS_pure (h k b1 b2 b3)
 | false =>
  rw[AJ BC]
  refine wpS_bind (wpS_mono (wpS_forRange (I:=fun x c st'=>st'=st/\∃la of,c =(none,la,of)/\la<of/\x+1<=of/\la<=ht/\P (ht-la)=false)
   (Q:=fun c st'=>st'=st/\∃la of,c =(none,la,of)/\la<of/\la<=ht/\P (ht-la)=false/\(ht+1<=of\/(of<=ht/\P (ht-of)=true))) ?st ?en ⟨rfl,0,1,rfl,by omega,by omega,by omega,hr⟩) ?po)
  case en =>
   rintro c st' ⟨rfl,la,of,rfl,a1,a2,a3,a4⟩
   exact⟨rfl,la,of,rfl,a1,a3,a4,.inl (by omega)⟩
  case st =>
   rintro x c st' _ hx ⟨rfl,la,of,rfl,a1,a2,a3,a4⟩
   dsimp only
   by_cases hge:of ≥ ht+1
   ·rw[AQ hge]
    exact wpS_pure ⟨rfl,la,of,rfl,a1,a3,a4,.inl hge⟩
   ·rw[AJ hge]
    refine wpS_bind (B rfl (show ht-of<n by omega) ?_)
    cases hp:P (ht-of)with
    | false=>exact wpS_pure ⟨rfl,of,2*of+1,rfl,by omega,by omega,by omega,hp⟩
    | true=>exact wpS_pure ⟨rfl,la,of,rfl,a1,a3,a4,.inr ⟨by omega,hp⟩⟩
  case po =>
   rintro c st' ⟨rfl,la,of,rfl,a1,a3,a4,a5⟩
   dsimp only
   refine wpS_bind (wpS_mono (S (lo:=ht+1-min of (ht+1)) (hi:=ht-la) (fun x l h'=>by
    dsimp only
    by_cases hge:h'<=l
    ·refine .inl ?_
     rw[AQ hge]
     exact wpS_pure ⟨rfl,by rw[AQ hge]⟩
    ·by_cases hn:l +(h' - l) / 2<n
     ·refine .inl ?_
      rw[AJ hge]
      refine wpS_bind (B rfl hn ?_)
      dsimp only
      cases hp:P (l +(h' - l) / 2)with
      | true =>
       simp only[FE]
       exact wpS_pure ⟨rfl,by rw[AJ hge]⟩
      | false =>
       simp only[AX,CN]
       exact wpS_pure ⟨rfl,by rw[AJ hge]⟩
     ·exact .inr (by omega)) (by omega) (by omega) (fun i hi=>?_) fun i hi1 hi2=>nmono (ht-la) i (by omega) hi2 a4) fun c st' ⟨e,k,e2,b1,b2,b3⟩=>?_)
   ·rcases a5 with a5 | ⟨a5,a6⟩
    ·omega
    ·exact mono i (ht-of) (by omega) (by omega) a6
   ·subst e e2
    exact wpS_pure (h k b1 b2 b3)
end
section
variable{κ:KeyKind}
theorem le_refl(p:Keyed):le κ p p:=KeyOrd.kle_refl _
theorem le_trans{p q r:Keyed}(h1:le κ p q)(h2:le κ q r):le κ p r:=KeyOrd.kle_trans h1 h2
structure ML(κ:KeyKind)(a b:List Keyed)(o:List Keyed)(i j:Nat):Prop where
 perm:o.Perm (a.take i++b.take j)
 sor:Sor κ o
 la:∀x∈o,∀y∈a.drop i,le κ x y
 lb:∀x∈o,∀y∈b.drop j,le κ x y
theorem ML.sym{a b o:List Keyed}{i j:Nat}(m:ML κ a b o i j):ML κ b a o j i:=⟨m.perm.trans CT,m.sor,m.lb,m.la⟩
theorem Ga{l:List Keyed}(k:Nat)(h:Sor κ l):∀x∈l.take k,∀y∈l.drop k,le κ x y:=by
 have h':Sor κ (l.take k++l.drop k):=by rw[BU];exact h
 exact(BZ.mp h').2.2
theorem ML.addA{a b o:List Keyed}{i j:Nat}(m:ML κ a b o i j)(sa:Sor κ a)(k:Nat)(hk:∀y∈(a.drop i).take k,∀z∈b.drop j,le κ y z):ML κ a b (o ++(a.drop i).take k) (i+k) j:=by
 have hs:Sor κ (a.drop i):=sa.sublist (FH _ _)
 refine⟨?_,?_,fun x hx y hy=>?_,fun x hx y hy=>?_⟩
 ·rw[List.take_add]
  refine(DU _ m.perm).trans ?_
  rw[BE,BE]
  exact DM _ CT
 ·refine BZ.mpr ⟨m.sor,hs.sublist (DY _ _),fun x hx y hy=>m.la x hx y (CY hy)⟩
 ·rw[<-FA]at hy
  rcases AV.mp hx with hx | hx
  ·exact m.la x hx y (EQ hy)
  ·exact Ga k hs x hx y hy
 ·rcases AV.mp hx with hx | hx
  ·exact m.lb x hx y hy
  ·exact hk x hx y hy
theorem ML.addB{a b o:List Keyed}{i j:Nat}(m:ML κ a b o i j)(sb:Sor κ b)(k:Nat)(hk:∀y∈(b.drop j).take k,∀z∈a.drop i,le κ y z):ML κ a b (o ++(b.drop j).take k) i (j+k) :=
 (m.sym.addA sb k hk).sym
theorem ML.endA{a b o:List Keyed}{i j:Nat}(m:ML κ a b o i j)(sa:Sor κ a)(sb:Sor κ b)(h:∀y∈a.drop i,∀z∈b.drop j,le κ y z):Sor κ (o++a.drop i++b.drop j)/\(o++a.drop i++b.drop j).Perm (a++b):=by
 refine⟨?_,?_⟩
 ·refine BZ.mpr ⟨BZ.mpr ⟨m.sor,sa.sublist (FH _ _),m.la⟩,sb.sublist (FH _ _),fun x hx y hy=>?_⟩
  rcases AV.mp hx with hx | hx
  ·exact m.lb x hx y hy
  ·exact h x hx y hy
 ·have h1:(o++a.drop i++b.drop j).Perm ((a.take i++b.take j)++a.drop i++b.drop j):=DU _ (DU _ m.perm)
  refine h1.trans ?_
  have h2:((a.take i++b.take j)++a.drop i++b.drop j).Perm ((a.take i++a.drop i) ++(b.take j++b.drop j)):=by
   rw[BE,BE,BE]
   refine DM _ ?_
   rw[<-BE,<-BE]
   exact DU _ CT
  rw[BU,BU]at h2
  exact h2
theorem ML.endB{a b o:List Keyed}{i j:Nat}(m:ML κ a b o i j)(sa:Sor κ a)(sb:Sor κ b)(h:∀y∈b.drop j,∀z∈a.drop i,le κ y z):Sor κ (o++b.drop j++a.drop i)/\(o++b.drop j++a.drop i).Perm (a++b) :=
 ⟨(m.sym.endA sb sa h).1,(m.sym.endA sb sa h).2.trans CT⟩
structure MH(κ:KeyKind)(a b:List Keyed)(o:List Keyed)(i j:Nat):Prop where
 perm:o.Perm (a.drop i++b.drop j)
 sor:Sor κ o
 la:∀x∈o,∀y∈a.take i,le κ y x
 lb:∀x∈o,∀y∈b.take j,le κ y x
theorem MH.sym{a b o:List Keyed}{i j:Nat}(m:MH κ a b o i j):MH κ b a o j i:=⟨m.perm.trans CT,m.sor,m.lb,m.la⟩
theorem MH.addA{a b o:List Keyed}{i j:Nat}(m:MH κ a b o i j)(sa:Sor κ a)(k:Nat)(hki:k<=i)(hk:∀y∈(a.take i).drop k,∀z∈b.take j,le κ z y):MH κ a b ((a.take i).drop k++o) k j:=by
 have hs:Sor κ (a.take i):=sa.sublist (DY _ _)
 have e:a.drop k =(a.take i).drop k++a.drop i:=by
  conv=>lhs;rw[<-BU i a]
  rw[List.drop_append]
  by_cases hl:i<=a.length
  ·rw[AS,GT hl,Nat.sub_eq_zero_of_le hki,ER]
  ·have:a.drop i = []:=EX (by lia)
   rw[this,List.drop_nil]
 have e2:(a.take i).take k=a.take k:=by rw[GY,GT hki]
 refine⟨?_,?_,fun x hx y hy=>?_,fun x hx y hy=>?_⟩
 ·rw[e,BE]
  exact DM _ m.perm
 ·exact BZ.mpr ⟨hs.sublist (FH _ _),m.sor,fun x hx y hy=>m.la y hy x (EQ hx)⟩
 ·rw[<-e2]at hy
  rcases AV.mp hx with hx | hx
  ·exact Ga k hs y hy x hx
  ·exact m.la x hx y (CY hy)
 ·rcases AV.mp hx with hx | hx
  ·exact hk x hx y hy
  ·exact m.lb x hx y hy
theorem MH.addB{a b o:List Keyed}{i j:Nat}(m:MH κ a b o i j)(sb:Sor κ b)(k:Nat)(hkj:k<=j)(hk:∀y∈(b.take j).drop k,∀z∈a.take i,le κ z y):MH κ a b ((b.take j).drop k++o) i k :=
 (m.sym.addA sb k hkj hk).sym
theorem MH.endA{a b o:List Keyed}{i j:Nat}(m:MH κ a b o i j)(sa:Sor κ a)(sb:Sor κ b)(h:∀y∈a.take i,∀z∈b.take j,le κ y z):Sor κ (a.take i++b.take j++o)/\(a.take i++b.take j++o).Perm (a++b):=by
 refine⟨?_,?_⟩
 ·refine BZ.mpr ⟨BZ.mpr ⟨sa.sublist (DY _ _),sb.sublist (DY _ _),h⟩,m.sor,fun x hx y hy=>?_⟩
  rcases AV.mp hx with hx | hx
  ·exact m.la y hy x hx
  ·exact m.lb y hy x hx
 ·have h1:(a.take i++b.take j++o).Perm (a.take i++b.take j ++(a.drop i++b.drop j)):=DM _ m.perm
  refine h1.trans ?_
  have h2:(a.take i++b.take j ++(a.drop i++b.drop j)).Perm ((a.take i++a.drop i) ++(b.take j++b.drop j)):=by
   rw[BE,BE]
   refine DM _ ?_
   rw[<-BE,<-BE]
   exact DU _ CT
  rw[BU,BU]at h2
  exact h2
theorem MH.endB{a b o:List Keyed}{i j:Nat}(m:MH κ a b o i j)(sa:Sor κ a)(sb:Sor κ b)(h:∀y∈b.take j,∀z∈a.take i,le κ y z):Sor κ (b.take j++a.take i++o)/\(b.take j++a.take i++o).Perm (a++b) :=
 ⟨(m.sym.endA sb sa h).1,(m.sym.endA sb sa h).2.trans CT⟩
end
section
variable{prog:Program}{w:World}{A:Around}{E:Value->Shared->Prop}{s:Shared}{κ:KeyKind}{kd:SortKind}
def Av(g:Nat):StateT SortSt Sem Unit:=modify fun s=>SortSt.mk' (kindOf s) (arrOf s) (pendingOf s) g (failedOf s)
def Ee:Array Keyed->Array Keyed->StateT SortSt Sem (Array Keyed):=sortPriv% PySem.Builtin.mergeLo
theorem Jt(a b:Array Keyed):Ee a b =(do
  rule "list.sort.merge-lo"
  let tot:=a.size+b.size
  let dn (o:Array Keyed) (i j:Nat):=o++a.extract i a.size++b.extract j b.size
  let lA (o:Array Keyed) (i j:Nat):=o++b.extract j b.size++a.extract i a.size
  let mut o:Array Keyed:=#[<-elem' b 0]
  let mut i:=0
  let mut j:=1
  if j == b.size then return dn o i j
  if i+1 == a.size then return lA o i j
  let mut mg:=gallopOf (<-get)
  for _ in [0:tot] do
   let mut ac:=0
   let mut bc:=0
   for _ in [0:tot] do
    let some bw <-lt' (<-elem' b j) (<-elem' a i) | return dn o i j
    if bw then
     o:=o.push (<-elem' b j);j:=j+1;bc:=bc+1;ac:=0
     if j == b.size then return dn o i j
     if bc ≥ mg then break
    else
     o:=o.push (<-elem' a i);i:=i+1;ac:=ac+1;bc:=0
     if i+1 == a.size then return lA o i j
     if ac ≥ mg then break
   rule "list.sort.gallop"
   mg:=mg+1
   for _ in [0:tot] do
    if mg>1 then mg:=mg-1
    Av mg
    let some k <-S5 false (<-elem' b j) a i (a.size-i) 0 | return dn o i j
    ac:=k
    if k>0 then
     o:=o++a.extract i (i+k);i:=i+k
     if i+1 == a.size then return lA o i j
     if i == a.size then return dn o i j
    o:=o.push (<-elem' b j);j:=j+1
    if j == b.size then return dn o i j
    let some k <-S5 true (<-elem' a i) b j (b.size-j) 0 | return dn o i j
    bc:=k
    if k>0 then
     o:=o++b.extract j (j+k);j:=j+k
     if j == b.size then return dn o i j
    o:=o.push (<-elem' a i);i:=i+1
    if i+1 == a.size then return lA o i j
    if ac<7&&bc<7 then break
   mg:=mg+1
   Av mg
  unsupported "internal:list.sort.merge-bound"):=rfl
def Sm(st st':SortSt):Prop:=kindOf st'=kindOf st/\arrOf st'=arrOf st/\pendingOf st'=pendingOf st/\failedOf st'=failedOf st
theorem Sm.refl(st:SortSt):Sm st st:=⟨rfl,rfl,rfl,rfl⟩
theorem V8{st st0:SortSt}{g:Nat}{Q:Unit->SortSt->Prop}(hs:Sm st0 st)(h:∀st',Sm st0 st'->Q () st'):wpS (model prog w) A E s (Av g) Q st :=
 wpS_modify (h _ ⟨hs.1,hs.2.1,hs.2.2.1,hs.2.2.2⟩)
theorem Cy{l:List Keyed}{i k:Nat}{y:Keyed}(h:y∈(l.drop i).take k):∃t,t<k/\l[i+t]?=some y:=by
 obtain⟨t,ht,e⟩:=FI.mp h
 rw[AS,DG]at ht
 refine⟨t,by lia,?_⟩
 rw[List.getElem_take,List.getElem_drop]at e
 rw[<-e]
 exact AC (by lia)
theorem Ih{l:List Keyed}{i:Nat}{y:Keyed}(h:y∈l.drop i):∃t,i+t<l.length/\l[i+t]?=some y:=by
 obtain⟨t,ht,e⟩:=FI.mp h
 rw[DG]at ht
 refine⟨t,by lia,?_⟩
 rw[List.getElem_drop]at e
 rw[<-e]
 exact AC (by lia)
theorem Nc{l:List Keyed}{i:Nat}{y:Keyed}(h:y∈l.take i):∃t,t<i/\t<l.length/\l[t]?=some y:=by
 obtain⟨t,ht,e⟩:=FI.mp h
 rw[AS]at ht
 refine⟨t,by lia,by lia,?_⟩
 rw[List.getElem_take]at e
 rw[<-e]
 exact AC (by lia)
theorem Va{l:List Keyed}{i k:Nat}{y:Keyed}(h:y∈(l.take i).drop k):∃t,k<=t/\t<i/\l[t]?=some y:=by
 obtain⟨t,h1,h2⟩:=Ih h
 rw[AS]at h1
 rw[DH (by lia)]at h2
 exact⟨k+t,by lia,by lia,h2⟩
theorem w5{l:List Keyed}(h:Sor κ l){i j:Nat}{p q:Keyed}(hij:i<=j)(hp:l[i]?=some p)(hq:l[j]?=some q):le κ p q:=by
 obtain⟨h1,rfl⟩:=AG.mp hp
 obtain⟨h2,rfl⟩:=AG.mp hq
 rcases Nat.lt_or_eq_of_le hij with z | z
 ·exact DV.mp h i j h1 h2 z
 ·subst z;exact le_refl _
theorem Em{l:List Keyed}(h:Sor κ l){i:Nat}{p:Keyed}(hp:l[i]?=some p):∀z∈l.drop i,le κ p z:=fun z hz=>by
 obtain⟨t,_,e⟩:=Ih hz
 exact w5 h (Nat.le_add_right _ _) hp e
theorem ar_get{a:Array Keyed}{i:Nat}{p:Keyed}:a[i]?=some p↔a.toList[i]?=some p:=by rw[BO]
theorem Y0{a:Array Keyed}{i:Nat}(h:i<a.size):∃p,a[i]?=some p:=⟨a[i],getElem?_pos a i h⟩
theorem Rb{l:List Keyed}{i:Nat}{p:Keyed}(h:l[i]?=some p):(l.drop i).take 1 = [p]:=by
 obtain⟨h1,rfl⟩:=AG.mp h
 rw[DF h1]
 rfl
theorem Es(a:Array Keyed)(i k:Nat):(a.extract i (i+k)).toList =(a.toList.drop i).take k:=by
 rw[ES,EJ,Nat.add_sub_cancel_left]
theorem o9(a:Array Keyed)(i:Nat):(a.extract i a.size).toList=a.toList.drop i:=by
 rw[ES,EJ,CZ]
 rw[DG,AO]
 exact Nat.le_refl _
theorem r8(a:Array Keyed)(i:Nat):(a.extract 0 i).toList=a.toList.take i:=by
 rw[ES,EJ,ER,Nat.sub_zero]
def Rm(κ:KeyKind)(a b r:Array Keyed):Prop:=Sor κ r.toList/\r.toList.Perm (a.toList++b.toList)
structure Pre(κ:KeyKind)(a b:Array Keyed):Prop where
 sa:Sor κ a.toList
 sb:Sor κ b.toList
 ka:∀(i:Nat) p,a[i]?=some p->Has κ p
 kb:∀(i:Nat) p,b[i]?=some p->Has κ p
 na:1<=a.size
 nb:1<=b.size
 first:∀q,b[0]?=some q->∀z∈a.toList,le κ q z
 last:∀p,a[a.size-1]?=some p->∀z∈b.toList,le κ z p
section
variable{a b o:Array Keyed}{i j k:Nat}{p q:Keyed}
theorem Pre.pushB(P:Pre κ a b)(m:ML κ a.toList b.toList o.toList i j)(hq:b[j]?=some q)(h:∀z∈a.toList.drop i,le κ q z):ML κ a.toList b.toList (o.push q).toList i (j+1):=by
 have h1:=m.addB P.sb 1 (by rw[Rb (ar_get.mp hq)];intro y hy;rw[AD.mp hy];exact h)
 rw[Rb (ar_get.mp hq)]at h1
 rw[DD]
 exact h1
theorem Pre.pushA(P:Pre κ a b)(m:ML κ a.toList b.toList o.toList i j)(hp:a[i]?=some p)(h:∀z∈b.toList.drop j,le κ p z):ML κ a.toList b.toList (o.push p).toList (i+1) j:=by
 have h1:=m.addA P.sa 1 (by rw[Rb (ar_get.mp hp)];intro y hy;rw[AD.mp hy];exact h)
 rw[Rb (ar_get.mp hp)]at h1
 rw[DD]
 exact h1
theorem Pre.extA(P:Pre κ a b)(m:ML κ a.toList b.toList o.toList i j)(h:∀y∈(a.toList.drop i).take k,∀z∈b.toList.drop j,le κ y z):ML κ a.toList b.toList (o++a.extract i (i+k)).toList (i+k) j:=by
 rw[BQ,Es]
 exact m.addA P.sa k h
theorem Pre.extB(P:Pre κ a b)(m:ML κ a.toList b.toList o.toList i j)(h:∀y∈(b.toList.drop j).take k,∀z∈a.toList.drop i,le κ y z):ML κ a.toList b.toList (o++b.extract j (j+k)).toList i (j+k):=by
 rw[BQ,Es]
 exact m.addB P.sb k h
theorem Pre.doneB(P:Pre κ a b)(m:ML κ a.toList b.toList o.toList i j)(hj:j=b.size):Rm κ a b (o++a.extract i a.size++b.extract j b.size):=by
 unfold Rm
 rw[BQ,BQ,o9,o9]
 refine m.endA P.sa P.sb fun y _ z hz=>?_
 rw[EX (by rw[AO];lia)]at hz
 exact absurd hz (by simp)
theorem Pre.doneA(P:Pre κ a b)(m:ML κ a.toList b.toList o.toList i j)(hi:i=a.size):Rm κ a b (o++a.extract i a.size++b.extract j b.size):=by
 unfold Rm
 rw[BQ,BQ,o9,o9]
 refine m.endA P.sa P.sb fun y hy z _=>?_
 rw[EX (by rw[AO];lia)]at hy
 exact absurd hy (by simp)
theorem Pre.lastA(P:Pre κ a b)(m:ML κ a.toList b.toList o.toList i j)(hi:i+1=a.size):Rm κ a b (o++b.extract j b.size++a.extract i a.size):=by
 unfold Rm
 rw[BQ,BQ,o9,o9]
 refine m.endB P.sa P.sb fun y hy z hz=>?_
 obtain⟨t,h1,h2⟩:=Ih hz
 rw[AO]at h1
 have e:i+t=a.size-1:=by lia
 rw[e]at h2
 exact P.last z (ar_get.mpr h2) y (EQ hy)
end
theorem Sm.knd{st st':SortSt}(h:Sm st st'){k:SortKind}(hk:kindOf st=k):kindOf st'=k:=h.1.trans hk
theorem n9(C:Cmp prog w A s κ kd){st:SortSt}{left:Bool}{ky:Keyed}{ar:Array Keyed}{bs n ht:Nat}{Q:Option Nat->SortSt->Prop}(hk:kindOf st=kd)(hky:Has κ ky)
  (hsz:bs+n<=ar.size) (hh:∀(i:Nat) p,ar[i]?=some p->Has κ p) (hs:∀(u v:Nat) p q,u<=v->v<n->ar[bs+u]?=some p->ar[bs+v]?=some q->le κ p q) (hht:ht<n)
  (h:∀k,k<=n->(∀(t:Nat) p,t<k->ar[bs+t]?=some p->PB κ left ky p=true)->(∀(t:Nat) p,k<=t->t<n->ar[bs+t]?=some p->PB κ left ky p=false)->Q (some k) st) :
  wpS (model prog w) A E s (S5 left ky ar bs n ht) Q st:=by
 have key:∀t,t<n->∃p,ar[bs+t]?=some p:=fun t ht=>Y0 (by lia)
 refine Ny C hk hky (fun t=>match ar[bs+t]? with | some p=>PB κ left ky p | none=>false) (fun i hi=>?_) (fun i j hij hj hp=>?_) hht fun k hk1 h1 h2=>?_
 ·obtain⟨p,hp⟩:=key i hi
  exact⟨p,hp,hh _ p hp,by rw[hp]⟩
 ·obtain⟨p,e1⟩:=key i (by lia)
  obtain⟨q,e2⟩:=key j hj
  rw[e2]at hp
  rw[e1]
  have l:=hs i j p q hij hj e1 e2
  dsimp only at hp⊢
  unfold PB at hp⊢
  cases left with
  | true =>
   simp only[FE]at hp⊢
   exact KeyOrd.klt_of_kle_of_klt l hp
  | false =>
   simp only[AX,CN,DZ]at hp⊢
   exact KeyOrd.kle_trans l hp
 ·refine h k hk1 (fun t p ht hp=>?_) fun t p ht1 ht2 hp=>?_
  ·have:=h1 t ht
   rw[hp]at this
   exact this
  ·have:=h2 t ht1 ht2
   rw[hp]at this
   exact this
theorem Dx{ky p:Keyed}(h:PB κ false ky p=true):le κ p ky:=by
 unfold PB at h
 show κ.blt (kk κ ky) (kk κ p)=false
 simpa using h
theorem Ba{ky p:Keyed}(h:PB κ false ky p=false):κ.klt (kk κ ky) (kk κ p):=by
 unfold PB at h
 show κ.blt (kk κ ky) (kk κ p)=true
 simpa using h
theorem Ju{ky p:Keyed}(h:PB κ true ky p=true):κ.klt (kk κ p) (kk κ ky):=by
 unfold PB at h
 show κ.blt (kk κ p) (kk κ ky)=true
 simpa using h
theorem Ev{ky p:Keyed}(h:PB κ true ky p=false):le κ ky p:=by
 unfold PB at h
 show κ.blt (kk κ p) (kk κ ky)=false
 simpa using h
section
variable{α:Type}{Q:α->SortSt->Prop}{st:SortSt}
theorem R9{c:Prop}{_:Decidable c}{t e:StateT SortSt Sem α}(h1:c->wpS (model prog w) A E s t Q st)(h2:¬c->wpS (model prog w) A E s e Q st):wpS (model prog w) A E s (if c then t else e) Q st:=by
 split
 ·rename_i h;exact h1 h
 ·rename_i h;exact h2 h
theorem K5{x y:Nat}{t e:StateT SortSt Sem α}(h1:x=y->wpS (model prog w) A E s t Q st)(h2:x≠y->wpS (model prog w) A E s e Q st):wpS (model prog w) A E s (if(x == y)=true then t else e) Q st :=
 R9 (fun h=>h1 (eq_of_beq h)) fun h=>h2 fun z=>h (beq_iff_eq.mpr z)
theorem Qu{c:Prop}{_:Decidable c}{t:StateT SortSt Sem α}{F:Nat->StateT SortSt Sem α}(x:Nat){y:Nat}(h:∀g,wpS (model prog w) A E s (F g) Q st)(e:t=F x):wpS (model prog w) A E s (if c then t else F y) Q st:=by
 subst e
 exact R9 (fun _=>h _) fun _=>h _
theorem En{c:Prop}{_:Decidable c}{t:StateT SortSt Sem α}{F:Array Keyed->Nat->StateT SortSt Sem α}{o:Array Keyed}{i:Nat}(R:Array Keyed->Nat->Prop)(h:∀o i,R o i->wpS (model prog w) A E s (F o i) Q st)
  (hT:(∀o i,R o i->wpS (model prog w) A E s (F o i) Q st)->c->wpS (model prog w) A E s t Q st) (hE:¬c->R o i):wpS (model prog w) A E s (if c then t else F o i) Q st:=R9 (hT h) fun z=>h _ _ (hE z)
end
theorem Qm{α β:Type}{r0:Sem Unit}{el:StateT SortSt Sem Keyed}{x0:Keyed}{c1 c2:Prop}{_:Decidable c1}{_:Decidable c2}{t1 t2:Keyed->StateT SortSt Sem α}{ini:Keyed->SortSt->β}{n:Nat}{f:Nat->β->StateT SortSt Sem (ForInStep β)}{g:β->StateT SortSt Sem α}{Q:α->SortSt->Prop}{st:SortSt}
  (hr:∀R:Unit->SortSt->Prop,R () st->wpS (model prog w) A E s (liftM r0:StateT SortSt Sem Unit) R st) (he:∀R:Keyed->SortSt->Prop,R x0 st->wpS (model prog w) A E s el R st) (h1:c1->wpS (model prog w) A E s (t1 x0) Q st) (h2:¬c1->c2->wpS (model prog w) A E s (t2 x0) Q st)
  (h3:¬c1->¬c2->wpS (model prog w) A E s (forIn [0:n] (ini x0 st) f) (fun c st'=>wpS (model prog w) A E s (g c) Q st') st) :
  wpS (model prog w) A E s ((liftM r0:StateT SortSt Sem Unit) >>= fun _=>el >>= fun x=>if c1 then t1 x else if c2 then t2 x else get >>= fun st'=>forIn [0:n] (ini x st') f >>= g) Q st :=
 wpS_bind (hr _ (wpS_bind (he _ (R9 h1 fun z1=>R9 (h2 z1) fun z2=>wpS_bind (wpS_get (wpS_bind (h3 z1 z2)))))))
def MR(κ:KeyKind)(a b:Array Keyed)(st:SortSt){β:Type}(c:Option (Array Keyed)×β)(st':SortSt):Prop:=Sm st st'/\∃r,c.1=some r/\Rm κ a b r
theorem MR.mk{a b r:Array Keyed}{st st':SortSt}{β:Type}{c:β}(sm:Sm st st')(h:Rm κ a b r):MR κ a b st (some r,c) st':=⟨sm,r,rfl,h⟩
structure LoP(κ:KeyKind)(a b:Array Keyed)(n:Nat)(o:Array Keyed)(i j:Nat):Prop where
 m:ML κ a.toList b.toList o.toList i j
 hi:i+1<a.size
 hj:j<b.size
 hn:n<=i+j
theorem LoP.putB{a b o o':Array Keyed}{n i j:Nat}(h:LoP κ a b n o i j)(m:ML κ a.toList b.toList o'.toList i (j+1))(e:j+1≠b.size):LoP κ a b (n+1) o' i (j+1):=⟨m,h.hi,DX h.hj e,Nat.succ_le_succ h.hn⟩
theorem LoP.putA{a b o o':Array Keyed}{n i j:Nat}(h:LoP κ a b n o i j)(m:ML κ a.toList b.toList o'.toList (i+1) j)(e:i+1+1≠a.size):LoP κ a b (n+1) o' (i+1) j:=⟨m,DX h.hi e,h.hj,by rw[Nat.add_right_comm];exact Nat.succ_le_succ h.hn⟩
theorem LoP.mono{a b o:Array Keyed}{n n' i j:Nat}(h:LoP κ a b n o i j)(l:n'<=n):LoP κ a b n' o i j:=⟨h.m,h.hi,h.hj,Nat.le_trans l h.hn⟩
def zEt(κ:KeyKind)(a b:Array Keyed)(st:SortSt)(n:Nat)(c:Option (Array Keyed)×Array Keyed×Nat×Nat×Nat)(st':SortSt):Prop:=Sm st st'/\∃o i j mg,c =(none,o,i,j,mg)/\LoP κ a b n o i j
def LoI2(κ:KeyKind)(a b:Array Keyed)(st:SortSt)(n:Nat)(c:Option (Array Keyed)×Array Keyed×Nat×Nat×Nat×Nat)(st':SortSt):Prop:=Sm st st'/\∃o i j ac bc,c =(none,o,i,j,ac,bc)/\LoP κ a b n o i j
def LoI3(κ:KeyKind)(a b:Array Keyed)(st:SortSt)(n:Nat)(c:Option (Array Keyed)×Array Keyed×Nat×Nat×Nat×Nat×Nat)(st':SortSt):Prop:=Sm st st'/\∃o i j mg ac bc,c =(none,o,i,j,mg,ac,bc)/\LoP κ a b n o i j
theorem LoI2.mk{a b o:Array Keyed}{st st':SortSt}{n i j ac bc:Nat}(sm:Sm st st')(h:LoP κ a b n o i j):LoI2 κ a b st n (none,o,i,j,ac,bc) st':=⟨sm,_,_,_,_,_,rfl,h⟩
theorem LoI3.mk{a b o:Array Keyed}{st st':SortSt}{n i j mg ac bc:Nat}(sm:Sm st st')(h:LoP κ a b n o i j):LoI3 κ a b st n (none,o,i,j,mg,ac,bc) st':=⟨sm,_,_,_,_,_,_,rfl,h⟩
theorem Jb(C:Cmp prog w A s κ kd){st:SortSt}{a b:Array Keyed}{Q:Array Keyed->SortSt->Prop}(hk:kindOf st=kd)(P:Pre κ a b)
  (h:∀r st',Sm st st'->Rm κ a b r->Q r st'):wpS (model prog w) A E s (Ee a b) Q st:=by
 rw[Jt]
 obtain⟨b0,hb0⟩:=Y0 (a:=b) (i:=0) P.nb
 have m0:ML κ a.toList b.toList (#[]:Array Keyed).toList 0 0:=⟨by simp,List.Pairwise.nil,fun x hx=>absurd hx (by simp),fun x hx=>absurd hx (by simp)⟩
 have m1:ML κ a.toList b.toList (#[b0]:Array Keyed).toList 0 1:=by
  have:=P.pushB m0 hb0 (by rw[ER];exact P.first b0 hb0)
  simpa using this
 apply Qm (x0:=b0) (fun R z=>wpS_lift (FB ⟨rfl,z⟩)) (fun R z=>C9 hb0 z)
 case h1=>exact fun hb1=>wpS_pure (h _ _ (Sm.refl _) (P.doneB m1 (eq_of_beq hb1)))
 case h2=>exact fun _ ha1=>wpS_pure (h _ _ (Sm.refl _) (P.lastA m1 (eq_of_beq ha1)))
 intro hb1 ha1
 have p1:LoP κ a b 1 #[b0] 0 1:=⟨m1,DX P.na fun z=>ha1 (beq_iff_eq.mpr z),DX P.nb fun z=>hb1 (beq_iff_eq.mpr z),Nat.le_refl _⟩
 refine wpS_mono (wpS_forRange (I:=fun x=>zEt κ a b st (x+1)) (Q:=MR κ a b st) ?st ?en ⟨Sm.refl _,_,_,_,_,rfl,p1⟩) ?po
 case po =>
  rintro⟨c1,c2⟩ st' ⟨sm,r,e,hr⟩
  cases e
  exact wpS_pure (h r st' sm hr)
 case en =>
  rintro c st' ⟨sm,o,i,j,mg,rfl,p⟩
  obtain⟨_,h1,h2,h3⟩:=p
  exfalso
  lia
 case st =>
  rintro x c st' _ hx ⟨sm,o,i,j,mg,rfl,p⟩
  refine wpS_bind (wpS_mono (wpS_forRange (I:=fun _=>LoI2 κ a b st (x+1)) (Q:=fun c st'=>MR κ a b st c st'\/LoI2 κ a b st (x+1) c st') ?st1 ?en1 (LoI2.mk sm p)) ?po1)
  case en1=>exact fun c st2 z=>.inr z
  case st1 =>
   rintro x2 c st2 _ _ ⟨sm2,o,i',j',ac,bc,rfl,p2⟩
   obtain⟨bj,hbj⟩:=Y0 (a:=b) (i:=j') p2.hj
   obtain⟨ai,hai⟩:=Y0 (a:=a) (i:=i') (GB p2.hi)
   refine wpS_bind (C9 hbj (wpS_bind (C9 hai (wpS_bind (Gq C (sm2.knd hk) (P.kb _ _ hbj) (P.ka _ _ hai) ?_)))))
   refine R9 (fun hlt=>wpS_bind (C9 hbj ?_)) fun hlt=>wpS_bind (C9 hai ?_)
   ·have m3:=P.pushB p2.m hbj fun z hz=>le_trans (KeyOrd.kle_of_klt hlt) (Em P.sa (ar_get.mp hai) z hz)
    refine K5 (fun e1=>wpS_pure (.inl (MR.mk sm2 (P.doneB m3 e1)))) fun e1=>?_
    have p3:=(p2.putB m3 e1).mono (DL _)
    exact R9 (fun _=>wpS_pure (.inr (LoI2.mk sm2 p3))) fun _=>wpS_pure (LoI2.mk sm2 p3)
   ·have m3:=P.pushA p2.m hai fun z hz=>le_trans (show le κ ai bj from BI.mpr hlt) (Em P.sb (ar_get.mp hbj) z hz)
    refine K5 (fun e1=>wpS_pure (.inl (MR.mk sm2 (P.lastA m3 e1)))) fun e1=>?_
    have p3:=(p2.putA m3 e1).mono (DL _)
    exact R9 (fun _=>wpS_pure (.inr (LoI2.mk sm2 p3))) fun _=>wpS_pure (LoI2.mk sm2 p3)
  case po1 =>
   rintro⟨c1,c2⟩ st2 (⟨sm2,r,e,hr⟩ | ⟨sm2,o2,i2,j2,ac,bc,e,p2⟩)
   ·cases e
    exact wpS_pure (MR.mk sm2 hr)
   ·cases e
    refine wpS_bind (wpS_lift (FB ⟨rfl,?_⟩))
    refine wpS_bind (wpS_mono (wpS_forRange (I:=fun x3=>LoI3 κ a b st (x+1+x3)) (Q:=fun c st'=>MR κ a b st c st'\/LoI3 κ a b st (x+1+1) c st') ?st2 ?en2 (LoI3.mk sm2 p2)) ?po2)
    case en2 =>
     rintro c st3 ⟨sm3,o',i',j',mg',ac,bc,rfl,p3⟩
     refine .inr (LoI3.mk sm3 (p3.mono ?_))
     have:=P.na
     lia
    case po2 =>
     rintro⟨c1,c2⟩ st3 (⟨sm3,r,e,hr⟩ | ⟨sm3,o',i',j',mg',ac,bc,e,p3⟩)
     ·cases e
      exact wpS_pure (MR.mk sm3 hr)
     ·cases e
      refine wpS_bind (V8 sm3 fun st4 sm4=>?_)
      exact wpS_pure ⟨sm4,_,_,_,_,rfl,p3⟩
    case st2 =>
     rintro x3 c st3 _ _ ⟨sm3,o3,i3,j3,mg3,ac3,bc3,rfl,p3⟩
     obtain⟨bj,hbj⟩:=Y0 (a:=b) (i:=j3) p3.hj
     have hi3:i3 +(a.size-i3)<=a.size:=by rw[Nat.add_sub_cancel' (EY (GB p3.hi))];exact Nat.le_refl _
     have hj3:=p3.hj
     apply Qu (mg3-1) (y:=mg3)
     case e=>exact rfl
     intro g
     refine wpS_bind (V8 sm3 fun st4 sm4=>?_)
     refine wpS_bind (C9 hbj (wpS_bind (n9 C (sm4.knd hk) (P.kb _ _ hbj) hi3 P.ka (fun u v p q huv _ e1 e2=>w5 P.sa (FQ huv _) (ar_get.mp e1) (ar_get.mp e2)) (Nat.sub_pos_of_lt (GB p3.hi)) fun k hk1 k1 k2=>?_)))
     have m4:ML κ a.toList b.toList (o3++a.extract i3 (i3+k)).toList (i3+k) j3:=P.extA p3.m fun y hy z hz=>by
      obtain⟨t,ht,e⟩:=Cy hy
      exact le_trans (Dx (k1 t y ht (ar_get.mpr e))) (Em P.sb (ar_get.mp hbj) z hz)
     have hbz:∀z∈a.toList.drop (i3+k),le κ bj z:=fun z hz=>by
      obtain⟨t,ht,e⟩:=Ih hz
      rw[AO]at ht
      exact KeyOrd.kle_of_klt (Ba (k2 (k+t) z (Nat.le_add_right _ _) (by lia) (by rw[<-Nat.add_assoc];exact ar_get.mpr e)))
     apply En (o:=o3) (i:=i3) (fun o i=>LoP κ a b (x+1+x3) o i j3/\∀z∈a.toList.drop i,le κ bj z)
     ·rintro o4 i4 ⟨p4,hbz⟩
      refine wpS_bind (C9 hbj ?_)
      have m5:=P.pushB p4.m hbj hbz
      refine K5 (fun e3=>wpS_pure (.inl (MR.mk sm4 (P.doneB m5 e3)))) fun e3=>?_
      have p5:=p4.putB m5 e3
      generalize o4.push bj=o5 at m5 p5⊢
      generalize j3+1=j5 at m5 p5⊢
      obtain⟨ai,hai⟩:=Y0 (a:=a) (i:=i4) (GB p5.hi)
      refine wpS_bind (C9 hai (wpS_bind (n9 C (sm4.knd hk) (P.ka _ _ hai) (by rw[Nat.add_sub_cancel' (EY p5.hj)];exact Nat.le_refl _) P.kb (fun u v p q huv _ e1 e2=>w5 P.sb (FQ huv _) (ar_get.mp e1) (ar_get.mp e2)) (Nat.sub_pos_of_lt p5.hj) fun k' hk1' k1' k2'=>?_)))
      have haz:∀z∈b.toList.drop (j5+k'),le κ ai z:=fun z hz=>by
       obtain⟨t,ht,e⟩:=Ih hz
       rw[AO]at ht
       exact Ev (k2' (k'+t) z (Nat.le_add_right _ _) (by lia) (by rw[<-Nat.add_assoc];exact ar_get.mpr e))
      apply En (o:=o5) (i:=j5) (fun o j=>LoP κ a b (x+1+x3+1) o i4 j/\∀z∈b.toList.drop j,le κ ai z)
      ·rintro o6 j6 ⟨p6,haz⟩
       refine wpS_bind (C9 hai ?_)
       have m7:=P.pushA p6.m hai haz
       refine K5 (fun e5=>wpS_pure (.inl (MR.mk sm4 (P.lastA m7 e5)))) fun e5=>?_
       have p7:=p6.putA m7 e5
       exact R9 (fun _=>wpS_pure (.inr (LoI3.mk sm4 (p7.mono (by lia))))) fun _=>wpS_pure (LoI3.mk sm4 (p7.mono (by lia)))
      ·intro hF hk0
       have m6:ML κ a.toList b.toList (o5++b.extract j5 (j5+k')).toList i4 (j5+k'):=P.extB m5 fun y hy z hz=>by
        obtain⟨t,ht,e⟩:=Cy hy
        exact le_trans (KeyOrd.kle_of_klt (Ju (k1' t y ht (ar_get.mpr e)))) (Em P.sa (ar_get.mp hai) z hz)
       have hj5:=p5.hj
       exact K5 (fun e4=>wpS_pure (.inl (MR.mk sm4 (P.doneB m6 e4)))) fun e4=>hF _ _ ⟨⟨m6,p5.hi,by lia,Nat.le_trans p5.hn (by lia)⟩,haz⟩
      ·intro hk0
       have z0:k'=0:=FS hk0
       subst z0
       exact⟨p5,haz⟩
     ·intro hF hk0
      have hi:=p3.hi
      exact K5 (fun e1=>wpS_pure (.inl (MR.mk sm4 (P.lastA m4 e1)))) fun e1=>K5 (fun e2=>wpS_pure (.inl (MR.mk sm4 (P.doneA m4 e2)))) fun e2=>hF _ _ ⟨⟨m4,by lia,p3.hj,Nat.le_trans p3.hn (by lia)⟩,hbz⟩
     ·intro hk0
      have z0:k=0:=FS hk0
      subst z0
      exact⟨p3,hbz⟩
end
section
variable{prog:Program}{w:World}{A:Around}{E:Value->Shared->Prop}{s:Shared}{κ:KeyKind}{kd:SortKind}
def Fh:Array Keyed->Array Keyed->StateT SortSt Sem (Array Keyed):=sortPriv% PySem.Builtin.mergeHi
theorem Je(a b:Array Keyed):Fh a b =(do
  rule "list.sort.merge-hi"
  let tot:=a.size+b.size
  let dn (o:Array Keyed) (i j:Nat):=a.extract 0 i++b.extract 0 j++o.reverse
  let fB (o:Array Keyed) (i j:Nat):=b.extract 0 j++a.extract 0 i++o.reverse
  let mut i:=a.size-1
  let mut j:=b.size
  let mut o:Array Keyed:=#[<-elem' a i]
  if i == 0 then return dn o i j
  if j == 1 then return fB o i j
  let mut mg:=gallopOf (<-get)
  for _ in [0:tot] do
   let mut ac:=0
   let mut bc:=0
   for _ in [0:tot] do
    let some aw <-lt' (<-elem' b (j-1)) (<-elem' a (i-1)) | return dn o i j
    if aw then
     i:=i-1;o:=o.push (<-elem' a i);ac:=ac+1;bc:=0
     if i == 0 then return dn o i j
     if ac ≥ mg then break
    else
     j:=j-1;o:=o.push (<-elem' b j);bc:=bc+1;ac:=0
     if j == 1 then return fB o i j
     if bc ≥ mg then break
   rule "list.sort.gallop"
   mg:=mg+1
   for _ in [0:tot] do
    if mg>1 then mg:=mg-1
    Av mg
    let some at_ <-S5 false (<-elem' b (j-1)) a 0 i (i-1) | return dn o i j
    let k:=i-at_
    ac:=k
    if k>0 then
     o:=o ++(a.extract at_ i).reverse;i:=at_
     if i == 0 then return dn o i j
    j:=j-1;o:=o.push (<-elem' b j)
    if j == 1 then return fB o i j
    let some at_ <-S5 true (<-elem' a (i-1)) b 0 j (j-1) | return dn o i j
    let k:=j-at_
    bc:=k
    if k>0 then
     o:=o ++(b.extract at_ j).reverse;j:=at_
     if j == 1 then return fB o i j
     if j == 0 then return dn o i j
    i:=i-1;o:=o.push (<-elem' a i)
    if i == 0 then return dn o i j
    if ac<7&&bc<7 then break
   mg:=mg+1
   Av mg
  unsupported "internal:list.sort.merge-bound"):=rfl
abbrev MHa(κ:KeyKind)(a b o:Array Keyed)(i j:Nat):Prop:=MH κ a.toList b.toList o.toList.reverse i j
section
variable{a b o:Array Keyed}{i j k:Nat}{p q:Keyed}
theorem td1{l:List Keyed}{i:Nat}{p:Keyed}(hi:1<=i)(h:l[i-1]?=some p):(l.take i).drop (i-1) = [p]:=by
 rw[GC,show i-(i-1)=1 by lia]
 exact Rb h
theorem Jh(a:Array Keyed)(k i:Nat):(a.extract k i).toList =(a.toList.take i).drop k:=by
 rw[ES,EJ,GC]
theorem Ew{l:List Keyed}(h:Sor κ l){i:Nat}{p:Keyed}(hp:l[i-1]?=some p):∀z∈l.take i,le κ z p:=fun z hz=>by
 obtain⟨t,h1,_,e⟩:=Nc hz
 exact w5 h (by lia) e hp
theorem Pre.hpA(P:Pre κ a b)(m:MHa κ a b o i j)(hi:1<=i)(hp:a[i-1]?=some p)(h:∀z∈b.toList.take j,le κ z p):MHa κ a b (o.push p) (i-1) j:=by
 have h1:=m.addA P.sa (i-1) (by lia) (by rw[td1 hi (ar_get.mp hp)];intro y hy;rw[AD.mp hy];exact h)
 rw[td1 hi (ar_get.mp hp)]at h1
 unfold MHa
 rw[DD,GL]
 exact h1
theorem Pre.hpB(P:Pre κ a b)(m:MHa κ a b o i j)(hj:1<=j)(hq:b[j-1]?=some q)(h:∀z∈a.toList.take i,le κ z q):MHa κ a b (o.push q) i (j-1):=by
 have h1:=m.addB P.sb (j-1) (by lia) (by rw[td1 hj (ar_get.mp hq)];intro y hy;rw[AD.mp hy];exact h)
 rw[td1 hj (ar_get.mp hq)]at h1
 unfold MHa
 rw[DD,GL]
 exact h1
theorem Pre.heA(P:Pre κ a b)(m:MHa κ a b o i j)(hk:k<=i)(h:∀y∈(a.toList.take i).drop k,∀z∈b.toList.take j,le κ z y):MHa κ a b (o ++(a.extract k i).reverse) k j:=by
 unfold MHa
 rw[BQ,FJ,GL,List.reverse_reverse,Jh]
 exact m.addA P.sa k hk h
theorem Pre.heB(P:Pre κ a b)(m:MHa κ a b o i j)(hk:k<=j)(h:∀y∈(b.toList.take j).drop k,∀z∈a.toList.take i,le κ z y):MHa κ a b (o ++(b.extract k j).reverse) i k:=by
 unfold MHa
 rw[BQ,FJ,GL,List.reverse_reverse,Jh]
 exact m.addB P.sb k hk h
theorem Pre.hdA(P:Pre κ a b)(m:MHa κ a b o i j)(hi:i=0):Rm κ a b (a.extract 0 i++b.extract 0 j++o.reverse):=by
 unfold Rm
 rw[BQ,BQ,FJ,r8,r8]
 refine m.endA P.sa P.sb fun y hy z _=>?_
 rw[hi,List.take_zero]at hy
 exact absurd hy (by simp)
theorem Pre.hdB(P:Pre κ a b)(m:MHa κ a b o i j)(hj:j=0):Rm κ a b (a.extract 0 i++b.extract 0 j++o.reverse):=by
 unfold Rm
 rw[BQ,BQ,FJ,r8,r8]
 refine m.endA P.sa P.sb fun y _ z hz=>?_
 rw[hj,List.take_zero]at hz
 exact absurd hz (by simp)
theorem Pre.hfB(P:Pre κ a b)(m:MHa κ a b o i j)(hj:j=1):Rm κ a b (b.extract 0 j++a.extract 0 i++o.reverse):=by
 unfold Rm
 rw[BQ,BQ,FJ,r8,r8]
 refine m.endB P.sa P.sb fun y hy z hz=>?_
 obtain⟨t,h1,_,e⟩:=Nc hy
 have e0:t=0:=by lia
 rw[e0]at e
 exact P.first y (ar_get.mpr e) z (CY hz)
end
structure HiP(κ:KeyKind)(a b:Array Keyed)(n:Nat)(o:Array Keyed)(i j:Nat):Prop where
 m:MHa κ a b o i j
 hi:1<=i
 hj:2<=j
 ia:i<=a.size
 jb:j<=b.size
 hn:n+i+j<=a.size+b.size
theorem HiP.putA{a b o o':Array Keyed}{n i j:Nat}(h:HiP κ a b n o i j)(m:MHa κ a b o' (i-1) j)(e:i-1≠0):HiP κ a b (n+1) o' (i-1) j:=by
 obtain⟨_,h1,h2,h3,h4,h5⟩:=h
 exact⟨m,by lia,h2,by lia,h4,by lia⟩
theorem HiP.putB{a b o o':Array Keyed}{n i j:Nat}(h:HiP κ a b n o i j)(m:MHa κ a b o' i (j-1))(e:j-1≠1):HiP κ a b (n+1) o' i (j-1):=by
 obtain⟨_,h1,h2,h3,h4,h5⟩:=h
 exact⟨m,h1,by lia,h3,by lia,by lia⟩
theorem HiP.mono{a b o:Array Keyed}{n n' i j:Nat}(h:HiP κ a b n o i j)(l:n'<=n):HiP κ a b n' o i j:=⟨h.m,h.hi,h.hj,h.ia,h.jb,Nat.le_trans (Nat.add_le_add_right (Nat.add_le_add_right l _) _) h.hn⟩
theorem HiP.la{a b o:Array Keyed}{n i j:Nat}(h:HiP κ a b n o i j):i-1<a.size:=BM (Nat.sub_lt h.hi (GU)) h.ia
theorem HiP.lb{a b o:Array Keyed}{n i j:Nat}(h:HiP κ a b n o i j):j-1<b.size:=BM (Nat.sub_lt (GB h.hj) (GU)) h.jb
theorem HiP.hj1{a b o:Array Keyed}{n i j:Nat}(h:HiP κ a b n o i j):1<=j:=Nat.le_of_succ_le h.hj
def zFb(κ:KeyKind)(a b:Array Keyed)(st:SortSt)(n:Nat)(c:Option (Array Keyed)×Nat×Nat×Array Keyed×Nat)(st':SortSt):Prop:=Sm st st'/\∃i j o mg,c =(none,i,j,o,mg)/\HiP κ a b n o i j
def HiI2(κ:KeyKind)(a b:Array Keyed)(st:SortSt)(n:Nat)(c:Option (Array Keyed)×Nat×Nat×Array Keyed×Nat×Nat)(st':SortSt):Prop:=Sm st st'/\∃i j o ac bc,c =(none,i,j,o,ac,bc)/\HiP κ a b n o i j
def HiI3(κ:KeyKind)(a b:Array Keyed)(st:SortSt)(n:Nat)(c:Option (Array Keyed)×Nat×Nat×Array Keyed×Nat×Nat×Nat)(st':SortSt):Prop:=Sm st st'/\∃i j o mg ac bc,c =(none,i,j,o,mg,ac,bc)/\HiP κ a b n o i j
theorem HiI2.mk{a b o:Array Keyed}{st st':SortSt}{n i j ac bc:Nat}(sm:Sm st st')(h:HiP κ a b n o i j):HiI2 κ a b st n (none,i,j,o,ac,bc) st':=⟨sm,_,_,_,_,_,rfl,h⟩
theorem HiI3.mk{a b o:Array Keyed}{st st':SortSt}{n i j mg ac bc:Nat}(sm:Sm st st')(h:HiP κ a b n o i j):HiI3 κ a b st n (none,i,j,o,mg,ac,bc) st':=⟨sm,_,_,_,_,_,_,rfl,h⟩
theorem Jn(C:Cmp prog w A s κ kd){st:SortSt}{a b:Array Keyed}{Q:Array Keyed->SortSt->Prop}(hk:kindOf st=kd)(P:Pre κ a b)
  (h:∀r st',Sm st st'->Rm κ a b r->Q r st'):wpS (model prog w) A E s (Fh a b) Q st:=by
 rw[Je]
 have hna:=P.na
 have hnb:=P.nb
 obtain⟨b0,hb0⟩:=Y0 (a:=a) (i:=a.size-1) (Nat.sub_lt hna GU)
 have m0:MHa κ a b (#[]:Array Keyed) a.size b.size:=⟨by simp,List.Pairwise.nil,fun x hx=>absurd hx (by simp),fun x hx=>absurd hx (by simp)⟩
 have m1:MHa κ a b (#[b0]:Array Keyed) (a.size-1) b.size:=by
  have:=P.hpA m0 hna hb0 (fun z hz=>P.last b0 hb0 z (CY hz))
  simpa using this
 apply Qm (x0:=b0) (fun R z=>wpS_lift (FB ⟨rfl,z⟩)) (fun R z=>C9 hb0 z)
 case h1=>exact fun ha1=>wpS_pure (h _ _ (Sm.refl _) (P.hdA m1 (eq_of_beq ha1)))
 case h2=>exact fun _ hb1=>wpS_pure (h _ _ (Sm.refl _) (P.hfB m1 (eq_of_beq hb1)))
 intro ha1 hb1
 have ha1:¬a.size-1=0:=fun z=>ha1 (beq_iff_eq.mpr z)
 have hb1:¬b.size=1:=fun z=>hb1 (beq_iff_eq.mpr z)
 have p1:HiP κ a b 1 #[b0] (a.size-1) b.size:=⟨m1,by lia,by lia,by lia,by lia,by lia⟩
 refine wpS_mono (wpS_forRange (I:=fun x=>zFb κ a b st (x+1)) (Q:=MR κ a b st) ?st ?en ⟨Sm.refl _,_,_,_,_,rfl,p1⟩) ?po
 case po =>
  rintro⟨c1,c2⟩ st' ⟨sm,r,e,hr⟩
  cases e
  exact wpS_pure (h r st' sm hr)
 case en =>
  rintro c st' ⟨sm,i,j,o,mg,rfl,p⟩
  obtain⟨_,h1,h2,_,_,h3⟩:=p
  exfalso
  lia
 case st =>
  rintro x c st' _ hx ⟨sm,i,j,o,mg,rfl,p⟩
  refine wpS_bind (wpS_mono (wpS_forRange (I:=fun _=>HiI2 κ a b st (x+1)) (Q:=fun c st'=>MR κ a b st c st'\/HiI2 κ a b st (x+1) c st') ?st1 ?en1 (HiI2.mk sm p)) ?po1)
  case en1=>exact fun c st2 z=>.inr z
  case st1 =>
   rintro x2 c st2 _ _ ⟨sm2,i',j',o,ac,bc,rfl,p2⟩
   obtain⟨bj,hbj⟩:=Y0 (a:=b) (i:=j' - 1) p2.lb
   obtain⟨ai,hai⟩:=Y0 (a:=a) (i:=i' - 1) p2.la
   refine wpS_bind (C9 hbj (wpS_bind (C9 hai (wpS_bind (Gq C (sm2.knd hk) (P.kb _ _ hbj) (P.ka _ _ hai) ?_)))))
   refine R9 (fun hlt=>wpS_bind (C9 hai ?_)) fun hlt=>wpS_bind (C9 hbj ?_)
   ·have m3:=P.hpA p2.m p2.hi hai fun z hz=>le_trans (Ew P.sb (ar_get.mp hbj) z hz) (KeyOrd.kle_of_klt hlt)
    refine K5 (fun e1=>wpS_pure (.inl (MR.mk sm2 (P.hdA m3 e1)))) fun e1=>?_
    have p3:=(p2.putA m3 e1).mono (DL _)
    exact R9 (fun _=>wpS_pure (.inr (HiI2.mk sm2 p3))) fun _=>wpS_pure (HiI2.mk sm2 p3)
   ·have m3:=P.hpB p2.m p2.hj1 hbj fun z hz=>le_trans (Ew P.sa (ar_get.mp hai) z hz) (show le κ ai bj from BI.mpr hlt)
    refine K5 (fun e1=>wpS_pure (.inl (MR.mk sm2 (P.hfB m3 e1)))) fun e1=>?_
    have p3:=(p2.putB m3 e1).mono (DL _)
    exact R9 (fun _=>wpS_pure (.inr (HiI2.mk sm2 p3))) fun _=>wpS_pure (HiI2.mk sm2 p3)
  case po1 =>
   rintro⟨c1,c2⟩ st2 (⟨sm2,r,e,hr⟩ | ⟨sm2,i2,j2,o2,ac,bc,e,p2⟩)
   ·cases e
    exact wpS_pure (MR.mk sm2 hr)
   ·cases e
    refine wpS_bind (wpS_lift (FB ⟨rfl,?_⟩))
    refine wpS_bind (wpS_mono (wpS_forRange (I:=fun x3=>HiI3 κ a b st (x+1+x3)) (Q:=fun c st'=>MR κ a b st c st'\/HiI3 κ a b st (x+1+1) c st') ?st2 ?en2 (HiI3.mk sm2 p2)) ?po2)
    case en2 =>
     rintro c st3 ⟨sm3,i',j',o',mg',ac,bc,rfl,p3⟩
     exact .inr (HiI3.mk sm3 (p3.mono (by lia)))
    case po2 =>
     rintro⟨c1,c2⟩ st3 (⟨sm3,r,e,hr⟩ | ⟨sm3,i',j',o',mg',ac,bc,e,p3⟩)
     ·cases e
      exact wpS_pure (MR.mk sm3 hr)
     ·cases e
      refine wpS_bind (V8 sm3 fun st4 sm4=>?_)
      exact wpS_pure ⟨sm4,_,_,_,_,rfl,p3⟩
    case st2 =>
     rintro x3 c st3 _ _ ⟨sm3,i3,j3,o3,mg3,ac3,bc3,rfl,p3⟩
     obtain⟨bj,hbj⟩:=Y0 (a:=b) (i:=j3-1) p3.lb
     apply Qu (mg3-1) (y:=mg3)
     case e=>exact rfl
     intro g
     refine wpS_bind (V8 sm3 fun st4 sm4=>?_)
     refine wpS_bind (C9 hbj (wpS_bind (n9 C (sm4.knd hk) (P.kb _ _ hbj) (by rw[D_];exact p3.ia) P.ka (fun u v p q huv _ e1 e2=>w5 P.sa (FQ huv _) (ar_get.mp e1) (ar_get.mp e2)) (Nat.sub_lt p3.hi GU) fun k hk1 k1 k2=>?_)))
     dsimp only
     have m4:MHa κ a b (o3 ++(a.extract k i3).reverse) k j3:=P.heA p3.m hk1 fun y hy z hz=>by
      obtain⟨t,ht1,ht2,e⟩:=Va hy
      exact le_trans (Ew P.sb (ar_get.mp hbj) z hz) (KeyOrd.kle_of_klt (Ba (k2 t y ht1 ht2 (by rw[D_];exact ar_get.mpr e))))
     have hbz:∀z∈a.toList.take k,le κ z bj:=fun z hz=>by
      obtain⟨t,ht,_,e⟩:=Nc hz
      exact Dx (k1 t z ht (by rw[D_];exact ar_get.mpr e))
     generalize hd:i3-k=d
     apply En (o:=o3) (i:=i3) (fun o i=>HiP κ a b (x+1+x3) o i j3/\∀z∈a.toList.take i,le κ z bj)
     ·rintro o4 i4 ⟨p4,hbz⟩
      refine wpS_bind (C9 hbj ?_)
      have m5:=P.hpB p4.m p4.hj1 hbj hbz
      refine K5 (fun e3=>wpS_pure (.inl (MR.mk sm4 (P.hfB m5 e3)))) fun e3=>?_
      have p5:=p4.putB m5 e3
      generalize o4.push bj=o5 at m5 p5⊢
      generalize j3-1=j5 at m5 p5⊢
      obtain⟨ai,hai⟩:=Y0 (a:=a) (i:=i4-1) p5.la
      refine wpS_bind (C9 hai (wpS_bind (n9 C (sm4.knd hk) (P.ka _ _ hai) (by rw[D_];exact p5.jb) P.kb (fun u v p q huv _ e1 e2=>w5 P.sb (FQ huv _) (ar_get.mp e1) (ar_get.mp e2)) (Nat.sub_lt p5.hj1 GU) fun k' hk1' k1' k2'=>?_)))
      dsimp only
      have haz:∀z∈b.toList.take k',le κ z ai:=fun z hz=>by
       obtain⟨t,ht,_,e⟩:=Nc hz
       exact KeyOrd.kle_of_klt (Ju (k1' t z ht (by rw[D_];exact ar_get.mpr e)))
      generalize hd':j5-k'=d'
      apply En (o:=o5) (i:=j5) (fun o j=>HiP κ a b (x+1+x3+1) o i4 j/\∀z∈b.toList.take j,le κ z ai)
      ·rintro o6 j6 ⟨p6,haz⟩
       refine wpS_bind (C9 hai ?_)
       have m7:=P.hpA p6.m p6.hi hai haz
       refine K5 (fun e5=>wpS_pure (.inl (MR.mk sm4 (P.hdA m7 e5)))) fun e5=>?_
       have p7:=p6.putA m7 e5
       exact R9 (fun _=>wpS_pure (.inr (HiI3.mk sm4 (p7.mono (by lia))))) fun _=>wpS_pure (HiI3.mk sm4 (p7.mono (by lia)))
      ·intro hF hk0
       have m6:MHa κ a b (o5 ++(b.extract k' j5).reverse) i4 k':=P.heB m5 hk1' fun y hy z hz=>by
        obtain⟨t,ht1,ht2,e⟩:=Va hy
        exact le_trans (Ew P.sa (ar_get.mp hai) z hz) (Ev (k2' t y ht1 ht2 (by rw[D_];exact ar_get.mpr e)))
       obtain⟨_,h1,h2,h3,h4,h5⟩:=p5
       exact K5 (fun e4=>wpS_pure (.inl (MR.mk sm4 (P.hfB m6 e4)))) fun e4=>K5 (fun e5=>wpS_pure (.inl (MR.mk sm4 (P.hdB m6 e5)))) fun e5=>hF _ _ ⟨⟨m6,h1,by lia,h3,Nat.le_trans hk1' h4,by lia⟩,haz⟩
      ·intro hk0
       have z0:k'=j5:=Nat.le_antisymm hk1' (Nat.le_of_sub_eq_zero (hd'.trans (FS hk0)))
       subst z0
       exact⟨p5,haz⟩
     ·intro hF hk0
      obtain⟨_,h1,h2,h3,h4,h5⟩:=p3
      exact K5 (fun e1=>wpS_pure (.inl (MR.mk sm4 (P.hdA m4 e1)))) fun e1=>hF _ _ ⟨⟨m4,by lia,h2,Nat.le_trans hk1 h3,h4,by lia⟩,hbz⟩
     ·intro hk0
      have z0:k=i3:=Nat.le_antisymm hk1 (Nat.le_of_sub_eq_zero (hd.trans (FS hk0)))
      subst z0
      exact⟨p3,hbz⟩
end
section
variable{prog:Program}{w:World}{A:Around}{E:Value->Shared->Prop}{s:Shared}{κ:KeyKind}{kd:SortKind}
def seg(l:List Keyed)(lo n:Nat):List Keyed:=(l.drop lo).take n
theorem Px(m:List Keyed)(lo:Nat):∀(n:Nat) (a:Array Keyed),lo+n+m.length<=a.size ->
  ((m.zipIdx n).foldl (fun a (x:Keyed×Nat)=>a.setIfInBounds (lo+x.2) x.1) a).size=a.size /\
  ∀t:Nat,((m.zipIdx n).foldl (fun a (x:Keyed×Nat)=>a.setIfInBounds (lo+x.2) x.1) a)[t]?=if lo+n<=t/\t<lo+n+m.length then m[t-(lo+n)]? else a[t]?:=by
 induction m with
 | nil =>
  intro n a h
  refine⟨rfl,fun t=>?_⟩
  rw[AJ (by simp only[GV];omega)]
  rfl
 | cons p m ih =>
  intro n a h
  rw[BN]at h
  rw[List.zipIdx_cons,List.foldl_cons]
  obtain⟨i1,i2⟩:=ih (n+1) (a.setIfInBounds (lo+n) p) (by rw[GM];omega)
  refine⟨i1.trans GM,fun t=>?_⟩
  rw[i2 t,BN]
  by_cases h1:lo+n=t
  ·subst h1
   rw[AJ (by omega),AQ (by omega),Array.getElem?_setIfInBounds_self_of_lt (by omega),Nat.sub_self]
   rfl
  ·by_cases h2:lo +(n+1)<=t/\t<lo +(n+1)+m.length
   ·rw[AQ h2,AQ (by omega),show t-(lo+n) =(t-(lo +(n+1)))+1 by omega,List.getElem?_cons_succ]
   ·rw[AJ h2,AJ (by omega),Array.getElem?_setIfInBounds_ne h1]
theorem Cj(m:List Keyed)(lo:Nat)(a:Array Keyed)(h:lo+m.length<=a.size) :
  (m.zipIdx.foldl (fun a (x:Keyed×Nat)=>a.setIfInBounds (lo+x.2) x.1) a).toList=a.toList.take lo++m++a.toList.drop (lo+m.length):=by
 obtain⟨h1,h2⟩:=Px m lo 0 a (by omega)
 refine FK fun t=>?_
 rw[BO,h2 t]
 have hl:(a.toList.take lo).length=lo:=by rw[AS,AO];omega
 by_cases c1:t<lo
 ·rw[AJ (by omega),BE,GJ (by omega),DH c1,BO]
 ·by_cases c2:t<lo+m.length
  ·rw[AQ (by omega),GJ (by rw[BA];omega),GD (by omega),hl]
   rfl
  ·rw[AJ (by omega),GD (by rw[BA];omega),BA,hl,FT,BO]
   congr 1
   omega
theorem Ps(l:List Keyed)(lo n:Nat):l=l.take lo++seg l lo n++l.drop (lo+n):=by
 unfold seg
 rw[BE,<-FA,BU,BU]
theorem Jw(l:List Keyed)(lo n m:Nat):seg l lo (n+m)=seg l lo n++seg l (lo+n) m:=by
 unfold seg
 rw[List.take_add,FA]
structure Part(κ:KeyKind)(l l':List Keyed)(lo n:Nat):Prop where
 perm:l'.Perm l
 front:l'.take lo=l.take lo
 back:l'.drop (lo+n)=l.drop (lo+n)
theorem Part.refl(l:List Keyed)(lo n:Nat):Part κ l l lo n:=⟨EA _,rfl,rfl⟩
theorem Part.seg_front{l l':List Keyed}{lo n:Nat}(h:Part κ l l' lo n){u m:Nat}(hu:u+m<=lo):seg l' u m=seg l u m:=by
 have:∀x:List Keyed,seg x u m =((x.take lo).drop u).take m:=fun x=>by
  unfold seg
  rw[GC,GY,GT (by omega)]
 rw[this,this,h.front]
theorem Part.seg_back{l l':List Keyed}{lo n:Nat}(h:Part κ l l' lo n){u m:Nat}(hu:lo+n<=u):seg l' u m=seg l u m:=by
 have:∀x:List Keyed,seg x u m =((x.drop (lo+n)).drop (u-(lo+n))).take m:=fun x=>by
  unfold seg
  rw[FA,show lo+n +(u-(lo+n))=u by omega]
 rw[this,this,h.back]
theorem Part.of{l z:List Keyed}{lo n:Nat}(hz:z.Perm (seg l lo n))(hl:lo+n<=l.length):Part κ l (l.take lo++z++l.drop (lo+n)) lo n/\seg (l.take lo++z++l.drop (lo+n)) lo n=z:=by
 have h1:(l.take lo).length=lo:=by rw[AS];omega
 have h2:z.length=n:=by
  rw[hz.length_eq]
  unfold seg
  rw[AS,DG]
  omega
 refine⟨⟨?_,?_,?_⟩,?_⟩
 ·conv=>rhs;rw[Ps l lo n]
  exact DU _ (DM _ hz)
 ·rw[BE,List.take_append_of_le_length (by omega),CZ (by omega)]
 ·rw[List.drop_append,EX (by rw[BA];omega),GW,BA,h1,h2,Nat.sub_self,ER]
 ·unfold seg
  rw[BE,List.drop_append,EX (by omega),GW,h1,Nat.sub_self,ER,List.take_append_of_le_length (by omega),CZ (by omega)]
structure St(κ:KeyKind)(kd:SortKind)(a₀:Array Keyed)(st:SortSt):Prop where
 perm:(arrOf st).toList.Perm a₀.toList
 kind:kindOf st=kd
 failed:failedOf st=none
theorem St.size{a₀:Array Keyed}{st:SortSt}(h:St κ kd a₀ st):(arrOf st).size=a₀.size:=by
 have:=h.perm.length_eq
 simpa using this
theorem St.has{a₀:Array Keyed}{st:SortSt}(h:St κ kd a₀ st)(h0:KeysOf κ a₀)(i:Nat)(p:Keyed)(e:(arrOf st)[i]?=some p):Has κ p :=
 h0 p (h.perm.mem_iff.mp (BJ (ar_get.mp e)))
theorem M7{l:List Keyed}{lo n t:Nat}(ht:t<n):(seg l lo n)[t]?=l[lo+t]?:=by
 unfold seg
 rw[DH ht,FT]
theorem Jg(i:Nat):mergeAt' i =(do
  let u <-get
  let(some (sa,na,pw),some (sb,nb,_)):=((pendingOf u)[i]?,(pendingOf u)[i+1]?) | unsupported "internal:list.sort.pending"
  set (setPending u (((pendingOf u).setIfInBounds i (sa,na+nb,pw)).eraseIdxIfInBounds (i+1)))
  let some k <-S5 false (<-elem' (arrOf u) sb) (arrOf u) sa na 0 | return false
  let(sa,na):=(sa+k,na-k)
  if na == 0 then return true
  let some nb <-S5 true (<-elem' (arrOf u) (sa+na-1)) (arrOf u) sb nb (nb-1) | return false
  if nb == 0 then return true
  let x:=(arrOf u).extract sa sb
  let y:=(arrOf u).extract sb (sb+nb)
  let mm <-if na<=nb then Ee x y else Fh x y
  modify fun v=>setArr v (mm.toList.zipIdx.foldl (fun a (z:Keyed×Nat)=>a.setIfInBounds (sa+z.2) z.1) (arrOf v))
  return(failedOf (<-get)).isNone):=rfl
theorem Xb{st st2:SortSt}{Q:PUnit->SortSt->Prop}(h:Q ⟨⟩ st2):wpS (model prog w) A E s (set st2:StateT SortSt Sem PUnit) Q st:=by
 unfold wpS;rw[StateT.run_set];exact AF ⟨rfl,h⟩
theorem Ir(C:Cmp prog w A s κ kd){a₀:Array Keyed}(h0:KeysOf κ a₀){st:SortSt}{i sa na pw sb nb pw2:Nat}{Q:Bool->SortSt->Prop}(hS:St κ kd a₀ st)
  (hi:(pendingOf st)[i]?=some (sa,na,pw)) (hj:(pendingOf st)[i+1]?=some (sb,nb,pw2)) (hsb:sb=sa+na) (hsz:sb+nb<=a₀.size) (hna:1<=na) (hnb:1<=nb)
  (sx:Sor κ (seg (arrOf st).toList sa na)) (sy:Sor κ (seg (arrOf st).toList sb nb))
  (h:∀st',St κ kd a₀ st'->Part κ (arrOf st).toList (arrOf st').toList sa (na+nb)->Sor κ (seg (arrOf st').toList sa (na+nb)) ->
   pendingOf st' =((pendingOf st).setIfInBounds i (sa,na+nb,pw)).eraseIdxIfInBounds (i+1)->Q true st'):wpS (model prog w) A E s (mergeAt' i) Q st:=by
 subst hsb
 have hL:(arrOf st).toList.length=a₀.size:=by rw[AO];exact hS.size
 have hsz':=hS.size
 rw[Jg]
 refine wpS_bind (wpS_get ?_)
 rw[hi,hj]
 dsimp only
 refine wpS_bind (Xb ?_)
 obtain⟨b0,hb0⟩:=Y0 (a:=arrOf st) (i:=sa+na) (by omega)
 have sxl:∀u v p q,u<=v->v<na->(arrOf st)[sa+u]?=some p->(arrOf st)[sa+v]?=some q->le κ p q:=fun u v p q huv hv e1 e2 =>
  w5 sx huv (by rw[M7 (by omega)];exact ar_get.mp e1) (by rw[M7 hv];exact ar_get.mp e2)
 have syl:∀u v p q,u<=v->v<nb->(arrOf st)[sa+na+u]?=some p->(arrOf st)[sa+na+v]?=some q->le κ p q:=fun u v p q huv hv e1 e2 =>
  w5 sy huv (by rw[M7 (by omega)];exact ar_get.mp e1) (by rw[M7 hv];exact ar_get.mp e2)
 refine wpS_bind (C9 hb0 (wpS_bind (n9 C hS.kind (hS.has h0 _ _ hb0) (by omega) (hS.has h0) sxl (by omega) fun k hk1 k1 k2=>?_)))
 dsimp only
 have b0y:∀z∈seg (arrOf st).toList (sa+na) nb,le κ b0 z:=fun z hz=>by
  obtain⟨t,ht,e⟩:=Cy hz
  exact syl 0 t b0 z (by omega) ht hb0 (ar_get.mpr e)
 have xk:∀x∈(seg (arrOf st).toList sa na).take k,le κ x b0:=fun x hx=>by
  obtain⟨t,ht,ht2,e⟩:=Nc hx
  unfold seg at ht2
  rw[AS]at ht2
  rw[M7 (by omega)]at e
  exact Dx (k1 t x ht (ar_get.mpr e))
 have kx:∀x∈(seg (arrOf st).toList sa na).drop k,le κ b0 x:=fun x hx=>by
  obtain⟨t,ht,e⟩:=Ih hx
  unfold seg at ht
  rw[AS]at ht
  rw[M7 (by omega)]at e
  exact KeyOrd.kle_of_klt (Ba (k2 (k+t) x (by omega) (by omega) (ar_get.mpr e)))
 have S1:St κ kd a₀ (setPending st (((pendingOf st).setIfInBounds i (sa,na+nb,pw)).eraseIdxIfInBounds (i+1))):=⟨hS.perm,hS.kind,hS.failed⟩
 by_cases hk0:na-k=0
 ·rw[AQ (by simpa using hk0)]
  have hkk:k=na:=by omega
  refine wpS_pure (h _ S1 (Part.refl _ _ _) ?_ rfl)
  show Sor κ (seg (arrOf st).toList sa (na+nb))
  rw[Jw]
  refine BZ.mpr ⟨sx,sy,fun x hx y hy=>le_trans (xk x ?_) (b0y y hy)⟩
  rw[CZ (by unfold seg;rw[AS];omega)]
  exact hx
 rw[AJ (by simpa using hk0)]
 obtain⟨al,hal⟩:=Y0 (a:=arrOf st) (i:=sa+k +(na-k)-1) (by omega)
 refine wpS_bind (C9 hal (wpS_bind (n9 C S1.kind (hS.has h0 _ _ hal) (by omega) (hS.has h0) syl (by omega) fun k' hk1' k1' k2'=>?_)))
 dsimp only
 have hal':(arrOf st)[sa +(na-1)]?=some al:=by rw[show sa +(na-1)=sa+k +(na-k)-1 by omega];exact hal
 have xal:∀x∈seg (arrOf st).toList sa na,le κ x al:=fun x hx=>by
  obtain⟨t,ht,e⟩:=Cy hx
  exact sxl t (na-1) x al (by omega) (by omega) (ar_get.mpr e) hal'
 have yk:∀y∈(seg (arrOf st).toList (sa+na) nb).take k',le κ y al:=fun y hy=>by
  obtain⟨t,ht,ht2,e⟩:=Nc hy
  unfold seg at ht2
  rw[AS]at ht2
  rw[M7 (by omega)]at e
  exact KeyOrd.kle_of_klt (Ju (k1' t y ht (ar_get.mpr e)))
 have ky:∀y∈(seg (arrOf st).toList (sa+na) nb).drop k',le κ al y:=fun y hy=>by
  obtain⟨t,ht,e⟩:=Ih hy
  unfold seg at ht
  rw[AS]at ht
  rw[M7 (by omega)]at e
  exact Ev (k2' (k'+t) y (by omega) (by omega) (ar_get.mpr e))
 by_cases hk0':k'=0
 ·rw[AQ (by simpa using hk0')]
  refine wpS_pure (h _ S1 (Part.refl _ _ _) ?_ rfl)
  show Sor κ (seg (arrOf st).toList sa (na+nb))
  rw[Jw]
  refine BZ.mpr ⟨sx,sy,fun x hx y hy=>le_trans (xal x hx) (ky y ?_)⟩
  rw[hk0',ER]
  exact hy
 rw[AJ (by simpa using hk0')]
 have ex:((arrOf st).extract (sa+k) (sa+na)).toList =(seg (arrOf st).toList sa na).drop k:=by
  rw[Jh]
  unfold seg
  rw[GC,GC,FA]
  congr 1
  omega
 have ey:((arrOf st).extract (sa+na) (sa+na+k')).toList =(seg (arrOf st).toList (sa+na) nb).take k':=by
  rw[Es]
  unfold seg
  rw[GY,GT hk1']
 have P:Pre κ ((arrOf st).extract (sa+k) (sa+na)) ((arrOf st).extract (sa+na) (sa+na+k')):=by
  refine⟨by rw[ex];exact sx.sublist (FH _ _),by rw[ey];exact sy.sublist (DY _ _),fun t p e=>?_,fun t p e=>?_,?_,?_,fun q e z hz=>?_,fun p e z hz=>?_⟩
  ·have m:=BJ (ar_get.mp e)
   rw[ex]at m
   obtain⟨u,_,e2⟩:=Cy (EQ m)
   exact hS.has h0 _ p (ar_get.mpr e2)
  ·have m:=BJ (ar_get.mp e)
   rw[ey]at m
   obtain⟨u,_,e2⟩:=Cy (CY m)
   exact hS.has h0 _ p (ar_get.mpr e2)
  ·rw[FU];omega
  ·rw[FU];omega
  ·have m:=ar_get.mp e
   rw[ey,DH (by omega),M7 (by omega)]at m
   have:q=b0:=by
    have:=ar_get.mp hb0
    rw[Nat.add_zero,this]at m
    exact(BH m).symm
   subst this
   rw[ex]at hz
   exact kx z hz
  ·have m:=ar_get.mp e
   rw[ex,FU,FT,M7 (by omega)]at m
   have:p=al:=by
    have q:=ar_get.mp hal'
    rw[show k +(min (sa+na) (arrOf st).size-(sa+k)-1)=na-1 by omega,q]at m
    exact(BH m).symm
   subst this
   rw[ey]at hz
   exact yk z hz
 have fin:∀(r:Array Keyed) (st2:SortSt),Sm (setPending st (((pendingOf st).setIfInBounds i (sa,na+nb,pw)).eraseIdxIfInBounds (i+1))) st2->Rm κ ((arrOf st).extract (sa+k) (sa+na)) ((arrOf st).extract (sa+na) (sa+na+k')) r ->
   Q (failedOf (setArr st2 (r.toList.zipIdx.foldl (fun a (z:Keyed×Nat)=>a.setIfInBounds (sa+k+z.2) z.1) (arrOf st2)))).isNone (setArr st2 (r.toList.zipIdx.foldl (fun a (z:Keyed×Nat)=>a.setIfInBounds (sa+k+z.2) z.1) (arrOf st2))):=by
  rintro r st2 ⟨q1,q2,q3,q4⟩ ⟨r1,r2⟩
  rw[ex,ey]at r2
  have hrl:r.toList.length =(na-k)+k':=by
   rw[r2.length_eq,BA]
   unfold seg
   rw[DG,AS,AS,DG,AS,DG]
   omega
  have q2':arrOf st2=arrOf st:=q2
  have ef:failedOf (setArr st2 (r.toList.zipIdx.foldl (fun a (z:Keyed×Nat)=>a.setIfInBounds (sa+k+z.2) z.1) (arrOf st2)))=none:=q4.trans hS.failed
  rw[ef]
  have el:=Cj r.toList (sa+k) (arrOf st2) (by rw[q2'];omega)
  have eq:(r.toList.zipIdx.foldl (fun a (z:Keyed×Nat)=>a.setIfInBounds (sa+k+z.2) z.1) (arrOf st2)).toList =(arrOf st).toList.take sa ++((seg (arrOf st).toList sa na).take k++r.toList ++(seg (arrOf st).toList (sa+na) nb).drop k') ++(arrOf st).toList.drop (sa +(na+nb)):=by
   rw[el,q2',hrl]
   have e1:(arrOf st).toList.take (sa+k) =(arrOf st).toList.take sa ++(seg (arrOf st).toList sa na).take k:=by
    unfold seg
    rw[List.take_add,GY,GT hk1]
   have e2:(arrOf st).toList.drop (sa+k +(na-k+k')) =(seg (arrOf st).toList (sa+na) nb).drop k' ++(arrOf st).toList.drop (sa +(na+nb)):=by
    unfold seg
    rw[GC,FA,show sa+k +(na-k+k')=sa+na+k' by omega]
    conv=>lhs;rw[<-BU (nb-k') ((arrOf st).toList.drop (sa+na+k'))]
    rw[FA,show sa+na+k' +(nb-k')=sa +(na+nb) by omega]
   rw[e1,e2]
   simp only[BE]
  have hp:((seg (arrOf st).toList sa na).take k++r.toList ++(seg (arrOf st).toList (sa+na) nb).drop k').Perm (seg (arrOf st).toList sa (na+nb)):=by
   rw[Jw]
   have a1:((seg (arrOf st).toList sa na).take k++r.toList ++(seg (arrOf st).toList (sa+na) nb).drop k').Perm ((seg (arrOf st).toList sa na).take k ++((seg (arrOf st).toList sa na).drop k ++(seg (arrOf st).toList (sa+na) nb).take k') ++(seg (arrOf st).toList (sa+na) nb).drop k') :=
    DU _ (DM _ r2)
   refine a1.trans (List.Perm.of_eq ?_)
   rw[<-BE,BU,BE,BU]
  obtain⟨pa,ps⟩:=Part.of (κ:=κ) hp (by rw[hL];omega)
  have hs:Sor κ ((seg (arrOf st).toList sa na).take k++r.toList ++(seg (arrOf st).toList (sa+na) nb).drop k'):=by
   refine BZ.mpr ⟨BZ.mpr ⟨sx.sublist (DY _ _),r1,fun x hx y hy=>?_⟩,sy.sublist (FH _ _),fun x hx y hy=>?_⟩
   ·rcases AV.mp (r2.mem_iff.mp hy)with hy | hy
    ·exact le_trans (xk x hx) (kx y hy)
    ·exact le_trans (xk x hx) (b0y y (CY hy))
   ·rcases AV.mp hx with hx | hx
    ·exact le_trans (xal x (CY hx)) (ky y hy)
    ·rcases AV.mp (r2.mem_iff.mp hx)with hx | hx
     ·exact le_trans (xal x (EQ hx)) (ky y hy)
     ·exact le_trans (yk x hx) (ky y hy)
  refine h _ ⟨?_,q1.trans hS.kind,q4.trans hS.failed⟩ ?_ ?_ q3
  ·show(r.toList.zipIdx.foldl (fun a (z:Keyed×Nat)=>a.setIfInBounds (sa+k+z.2) z.1) (arrOf st2)).toList.Perm a₀.toList
   rw[eq]
   exact pa.perm.trans hS.perm
  ·show Part κ (arrOf st).toList (r.toList.zipIdx.foldl (fun a (z:Keyed×Nat)=>a.setIfInBounds (sa+k+z.2) z.1) (arrOf st2)).toList sa (na+nb)
   rw[eq]
   exact pa
  ·show Sor κ (seg (r.toList.zipIdx.foldl (fun a (z:Keyed×Nat)=>a.setIfInBounds (sa+k+z.2) z.1) (arrOf st2)).toList sa (na+nb))
   rw[eq,ps]
   exact hs
 by_cases hab:na-k<=k'
 ·rw[AQ hab]
  refine wpS_bind (Jb C S1.kind P fun r st2 q r1=>?_)
  exact wpS_bind (wpS_modify (wpS_bind (wpS_get (wpS_pure (fin r st2 q r1)))))
 ·rw[AJ hab]
  refine wpS_bind (Jn C S1.kind P fun r st2 q r1=>?_)
  exact wpS_bind (wpS_modify (wpS_bind (wpS_get (wpS_pure (fin r st2 q r1)))))
end
section
variable{prog:Program}{w:World}{A:Around}{E:Value->Shared->Prop}{s:Shared}{κ:KeyKind}{kd:SortKind}{a₀:Array Keyed}
theorem Ud{xs:Array Keyed}{i:Nat}{p:Keyed}(h:xs[i]?=some p):KK κ xs i=kk κ p:=by unfold KK kk;rw[h]
def SI(κ:KeyKind)(xs:Array Keyed)(lo m:Nat):Prop:=∀i j,i<=j->j<m->κ.kle (KK κ xs (lo+i)) (KK κ xs (lo+j))
def NI(κ:KeyKind)(xs:Array Keyed)(lo m:Nat):Prop:=∀i j,i<=j->j<m->κ.kle (KK κ xs (lo+j)) (KK κ xs (lo+i))
theorem SI.sor{xs:Array Keyed}{lo m:Nat}(h:SI κ xs lo m):Sor κ (seg xs.toList lo m):=by
 refine DV.mpr fun i j hi hj hij=>?_
 unfold seg at hi hj
 rw[AS]at hi hj
 have e1:xs[lo+i]?=some (seg xs.toList lo m)[i]:=by
  rw[ar_get,<-M7 (n:=m) (by omega)]
  exact AC _
 have e2:xs[lo+j]?=some (seg xs.toList lo m)[j]:=by
  rw[ar_get,<-M7 (n:=m) (by omega)]
  exact AC _
 have:=h i j (by omega) (by omega)
 rw[Ud e1,Ud e2]at this
 exact this
structure Lo(κ:KeyKind)(kd:SortKind)(a₀:Array Keyed)(st0:SortSt)(lo n:Nat)(st:SortSt):Prop where
 S:St κ kd a₀ st
 pend:pendingOf st=pendingOf st0
 out:∀t,t<lo\/lo+n<=t->(arrOf st)[t]? =(arrOf st0)[t]?
theorem Lo.part{st0 st:SortSt}{lo n:Nat}(h:Lo κ kd a₀ st0 lo n st)(h0:St κ kd a₀ st0):Part κ (arrOf st0).toList (arrOf st).toList lo n:=by
 refine⟨h.S.perm.trans h0.perm.symm,FK fun t=>?_,FK fun t=>?_⟩
 ·by_cases ht:t<lo
  ·rw[DH ht,DH ht,BO,BO]
   exact h.out t (.inl ht)
  ·rw[EK (by rw[AS];omega),EK (by rw[AS];omega)]
 ·rw[FT,FT,BO,BO]
  exact h.out _ (.inr (by omega))
theorem Lo.mirror{st0 st:SortSt}{lo n i j:Nat}(h:Lo κ kd a₀ st0 lo n st)(hi:lo<=i)(hj:j<=lo+n)(hn:lo+n<=a₀.size):Lo κ kd a₀ st0 lo n (setArr st (mirror (arrOf st) i j ((j-i) / 2))):=by
 refine⟨⟨(Array.perm_iff_toList_perm.mp (mirror_perm _ _ _ _)).trans h.S.perm,h.S.kind,h.S.failed⟩,h.pend,fun t ht=>?_⟩
 show(PyProof.Rows.mirror (arrOf st) i j ((j-i) / 2))[t]?=_
 have:=h.S.size
 rw[getElem?_mirror_all (by omega),AJ (by omega)]
 exact h.out t ht
theorem P2(C:Cmp prog w A s κ kd)(h0:KeysOf κ a₀){st:SortSt}(hS:St κ kd a₀ st){i j:Nat}{Q:Option Bool->SortSt->Prop}(hi:i<a₀.size)(hj:j<a₀.size)
  (h:Q (some (κ.blt (KK κ (arrOf st) i) (KK κ (arrOf st) j))) st):wpS (model prog w) A E s (ltAt' i j) Q st:=by
 have:=hS.size
 obtain⟨p,hp⟩:=Y0 (a:=arrOf st) (i:=i) (by omega)
 obtain⟨q,hq⟩:=Y0 (a:=arrOf st) (i:=j) (by omega)
 rw[ltAt'_eq]
 refine wpS_bind (wpS_get ?_)
 refine wpS_bind (C9 hp (wpS_bind (C9 hq (Gq C hS.kind (hS.has h0 _ _ hp) (hS.has h0 _ _ hq) ?_))))
 rw[Ud hp,Ud hq]at h
 exact h
theorem Yw{st:SortSt}{lo a nrem:Nat}{f:Nat->(Option (Option Nat)×Nat)->StateT SortSt Sem (ForInStep (Option (Option Nat)×Nat))}{Q:(Option (Option Nat)×Nat)->SortSt->Prop}
  (hf:∀x n,1<=n->n<nrem->wpS (model prog w) A E s (f x (none,n)) (fun r st'=>st'=st/\r=if κ.blt (KK κ (arrOf st) (lo+n)) (KK κ (arrOf st) (lo+n-1))=true then .done (none,n)else .yield (none,n+1)) st)
  (ha:1<=a) (han:a<=nrem) (hs:SI κ (arrOf st) lo a)
  (h:∀n,a<=n->n<=nrem->SI κ (arrOf st) lo n->(n=nrem\/κ.klt (KK κ (arrOf st) (lo+n)) (KK κ (arrOf st) (lo+n-1)))->Q (none,n) st):wpS (model prog w) A E s (forIn [a:nrem] (none,a) f) Q st:=by
 refine wpS_forRange (I:=fun x c st'=>st'=st/\c =(none,x)/\SI κ (arrOf st) lo x) ?_ ?_ ⟨rfl,rfl,hs⟩
 ·rintro x c st' hax hxn ⟨rfl,rfl,hs'⟩
  refine wpS_mono (hf x x (by omega) hxn) fun r st2 ⟨e,er⟩=>?_
  subst e
  cases hless:κ.blt (KK κ (arrOf st2) (lo+x)) (KK κ (arrOf st2) (lo+x-1))
  ·rw[hless,AJ BC]at er
   subst er
   refine⟨rfl,rfl,fun i j hij hj=>?_⟩
   by_cases hjx:j<x
   ·exact hs' i j hij hjx
   ·have hj':j=x:=by omega
    subst hj'
    by_cases hi':i=j
    ·subst hi';exact KeyOrd.kle_refl _
    ·have:=hs' i (j-1) (by omega) (by omega)
     rw[show lo +(j-1)=lo+j-1 by omega]at this
     exact KeyOrd.kle_trans this hless
  ·rw[hless,AQ rfl]at er
   subst er
   exact h x hax (by omega) hs' (.inr hless)
 ·rintro c st' ⟨rfl,rfl,hs'⟩
  rw[show max a nrem=nrem by omega]at hs'⊢
  exact h nrem han (Nat.le_refl _) hs' (.inl rfl)
theorem NI.step{xs ys:Array Keyed}{lo x:Nat}(hx:1<=x)(hk:∀k,KK κ ys k=KK κ xs k)(hs:NI κ xs lo x)(hl:κ.kle (KK κ xs (lo+x)) (KK κ xs (lo+x-1))):NI κ ys lo (x+1):=by
 intro i j hij hj
 rw[hk,hk]
 by_cases hjx:j<x
 ·exact hs i j hij hjx
 ·have hj':j=x:=by omega
  subst hj'
  by_cases hi':i=j
  ·subst hi';exact KeyOrd.kle_refl _
  ·have:=hs i (j-1) (by omega) (by omega)
   rw[show lo +(j-1)=lo+j-1 by omega]at this
   exact KeyOrd.kle_trans hl this
abbrev DS:=Option (Option Nat)×Nat×Nat
theorem zAq{st0 st:SortSt}{lo n nrem:Nat}(hsz:lo+nrem<=a₀.size){f:Nat->DS->StateT SortSt Sem (ForInStep DS)}{Q:DS->SortSt->Prop}
  (hf:∀x n q st',1<=n->n<nrem->Lo κ kd a₀ st0 lo nrem st'->wpS (model prog w) A E s (f x (none,n,q)) (fun r st2 =>
   if κ.blt (KK κ (arrOf st') (lo+n)) (KK κ (arrOf st') (lo+n-1))=true then(st2=if q>0 then setArr st' (mirror (arrOf st') (lo+n-(q+1)) (lo+n) ((lo+n-(lo+n-(q+1))) / 2))else st')/\r = .yield (none,n+1,0)
   else st2=st'/\r=if κ.blt (KK κ (arrOf st') (lo+n-1)) (KK κ (arrOf st') (lo+n))=true then .done (none,n,q)else .yield (none,n+1,q+1)) st')
  (h1:1<=n) (hnn:n<=nrem) (hB:Lo κ kd a₀ st0 lo nrem st) (hs:NI κ (arrOf st) lo n)
  (h:∀m q st',Lo κ kd a₀ st0 lo nrem st'->n<=m->m<=nrem->NI κ (arrOf st') lo m->q+1<=m->(∀i,m-(q+1)<=i->i<m->KK κ (arrOf st') (lo+i)=KK κ (arrOf st') (lo+m-1))->Q (none,m,q) st') :
  wpS (model prog w) A E s (forIn [n:nrem] (none,n,0) f) Q st:=by
 refine wpS_forRange (I:=fun x c st'=>∃q,c =(none,x,q)/\Lo κ kd a₀ st0 lo nrem st'/\NI κ (arrOf st') lo x/\q+1<=x /\
   (∀i,x-(q+1)<=i->i<x->KK κ (arrOf st') (lo+i)=KK κ (arrOf st') (lo+x-1))) ?_ ?_ ⟨0,rfl,hB,hs,by omega,fun i h1 h2=>by congr 1;omega⟩
 ·rintro x c st' hax hxn ⟨q,rfl,hB',hs',hq,he⟩
  have hs0:=hB'.S.size
  refine wpS_mono (hf x x q st' (by omega) hxn hB') fun r st2 hr=>?_
  cases hless:κ.blt (KK κ (arrOf st') (lo+x)) (KK κ (arrOf st') (lo+x-1))
  ·rw[hless,AJ BC]at hr
   obtain⟨e,er⟩:=hr
   subst e
   cases hl:κ.blt (KK κ (arrOf st2) (lo+x-1)) (KK κ (arrOf st2) (lo+x))
   ·rw[hl,AJ BC]at er
    subst er
    have heqx:KK κ (arrOf st2) (lo+x)=KK κ (arrOf st2) (lo+x-1):=KeyOrd.kle_antisymm hl hless
    refine⟨q+1,rfl,hB',NI.step (by omega) (fun _=>rfl) hs' hl,by omega,fun i g1 g2=>?_⟩
    rw[show lo +(x+1)-1=lo+x by omega]
    by_cases hix:i=x
    ·subst hix;rfl
    ·rw[heqx];exact he i (by omega) (by omega)
   ·rw[hl,AQ rfl]at er
    subst er
    exact h x q st2 hB' hax (by omega) hs' hq he
  ·rw[hless,AQ rfl]at hr
   obtain⟨e,er⟩:=hr
   subst er
   have hl:κ.kle (KK κ (arrOf st') (lo+x)) (KK κ (arrOf st') (lo+x-1)):=KeyOrd.kle_of_klt hless
   by_cases hq0:q>0
   ·rw[AQ hq0]at e
    subst e
    refine⟨0,rfl,hB'.mirror (by omega) (by omega) hsz,NI.step (by omega) (KK_mirror_equal (by omega) fun k g1 g2=>?_) hs' hl,by omega,fun i g1 g2=>by congr 1;omega⟩
    have:=he (k-lo) (by omega) (by omega)
    rw[show lo +(k-lo)=k by omega]at this
    exact this
   ·rw[AJ hq0]at e
    subst e
    exact⟨0,rfl,hB',NI.step (by omega) (fun _=>rfl) hs' hl,by omega,fun i g1 g2=>by congr 1;omega⟩
 ·rintro c st' ⟨q,rfl,hB',hs',hq,he⟩
  rw[show max n nrem=nrem by omega]at hs' hq he⊢
  exact h nrem q st' hB' hnn (Nat.le_refl _) hs' hq he
theorem NI.turn{xs:Array Keyed}{lo n:Nat}(hn:lo+n<=xs.size)(h:NI κ xs lo n):SI κ (mirror xs lo (lo+n) ((lo+n-lo) / 2)) lo n:=by
 intro i j hij hj
 rw[KK_mirror hn,KK_mirror hn,AQ (by omega),AQ (by omega)]
 have:=h (n-1-j) (n-1-i) (by omega) (by omega)
 rw[show lo +(n-1-i)=lo +(lo+n)-1-(lo+i) by omega,show lo +(n-1-j)=lo +(lo+n)-1-(lo+j) by omega]at this
 exact this
theorem Fw(C:Cmp prog w A s κ kd)(h0:KeysOf κ a₀){st:SortSt}{lo nrem:Nat}{Q:Option Nat->SortSt->Prop}(hS:St κ kd a₀ st)(hsz:lo+nrem<=a₀.size)(h1:1<=nrem)
  (h:∀m st',Lo κ kd a₀ st lo nrem st'->1<=m->m<=nrem->SI κ (arrOf st') lo m->Q (some m) st'):wpS (model prog w) A E s (countRun' lo nrem) Q st:=by
 have L0:Lo κ kd a₀ st lo nrem st:=⟨hS,rfl,fun _ _=>rfl⟩
 rw[countRun'_eq]
 dsimp only
 refine wpS_bind (Yw (κ:=κ) (lo:=lo) (fun x n g1 g2=>?_) (Nat.le_refl 1) h1 (fun i j hij hj=>by have:i=j:=(by omega);subst this;exact KeyOrd.kle_refl _) fun n hn1 hn2 hsn hor=>?_)
 ·dsimp only
  refine wpS_bind (P2 C h0 hS (by omega) (by omega) ?_)
  dsimp only
  cases κ.blt (KK κ (arrOf st) (lo+n)) (KK κ (arrOf st) (lo+n-1))
  ·exact wpS_pure ⟨rfl,rfl⟩
  ·exact wpS_pure ⟨rfl,rfl⟩
 dsimp only
 by_cases hnn:n=nrem
 ·rw[AQ (by simpa using hnn)]
  exact wpS_pure (h n st L0 hn1 hn2 hsn)
 rw[AJ (by simpa using hnn)]
 have hlt:κ.klt (KK κ (arrOf st) (lo+n)) (KK κ (arrOf st) (lo+n-1)):=hor.resolve_left hnn
 have hz:=hS.size
 by_cases hgt:n>1
 ·rw[AQ hgt]
  refine wpS_bind (P2 C h0 hS (by omega) (by omega) ?_)
  dsimp only
  cases hrose:κ.blt (KK κ (arrOf st) lo) (KK κ (arrOf st) (lo+n-1))with
  | true =>
   simp only[FE]
   exact wpS_pure (h n st L0 hn1 hn2 hsn)
  | false =>
   simp only[AX,CN]
   have hall:∀k,lo<=k->k<lo+n->KK κ (arrOf st) k=KK κ (arrOf st) (lo+n-1):=by
    intro k hk1 hk2
    have a1:=hsn 0 (k-lo) (by omega) (by omega)
    have a2:=hsn (k-lo) (n-1) (by omega) (by omega)
    rw[Nat.add_zero,show lo +(k-lo)=k by omega]at a1
    rw[show lo +(k-lo)=k by omega,show lo +(n-1)=lo+n-1 by omega]at a2
    exact KeyOrd.kle_antisymm a2 (KeyOrd.kle_trans hrose a1)
   have hk:=KK_mirror_equal (κ:=κ) (xs:=arrOf st) (i:=lo) (j:=lo+n) (by omega) hall
   refine wpS_bind (wpS_reverse ?_)
   have hB2:=L0.mirror (i:=lo) (j:=lo+n) (by omega) (by omega) hsz
   have hN:NI κ (mirror (arrOf st) lo (lo+n) ((lo+n-lo) / 2)) lo (n+1):=by
    refine NI.step (by omega) hk (fun i j hij hj=>?_) (KeyOrd.kle_of_klt hlt)
    rw[hall (lo+i) (by omega) (by omega),hall (lo+j) (by omega) (by omega)]
    exact KeyOrd.kle_refl _
   refine wpS_bind (wpS_lift (FB ⟨rfl,?_⟩))
   refine wpS_bind (zAq (κ:=κ) (kd:=kd) (a₀:=a₀) (st0:=st) (lo:=lo) hsz (fun x n' q st' g1 g2 hB'=>?_) (by omega) (by omega) hB2 hN fun m q st' hB3 hm1 hm2 hs3 hq he=>?_)
   ·dsimp only
    refine wpS_bind (P2 C h0 hB'.S (by omega) (by omega) ?_)
    dsimp only
    cases κ.blt (KK κ (arrOf st') (lo+n')) (KK κ (arrOf st') (lo+n' - 1))
    ·simp only[AX,CN]
     refine wpS_bind (P2 C h0 hB'.S (by omega) (by omega) ?_)
     dsimp only
     cases κ.blt (KK κ (arrOf st') (lo+n' - 1)) (KK κ (arrOf st') (lo+n'))
     ·exact wpS_pure ⟨rfl,rfl⟩
     ·exact wpS_pure ⟨rfl,rfl⟩
    ·simp only[FE]
     by_cases hq:q>0
     ·rw[AQ hq,AQ hq]
      exact wpS_bind (wpS_reverse (wpS_pure ⟨rfl,rfl⟩))
     ·rw[AJ hq,AJ hq]
      exact wpS_pure ⟨rfl,rfl⟩
   ·dsimp only
    have hz3:=hB3.S.size
    by_cases hq0:q>0
    ·rw[AQ hq0]
     refine wpS_bind (wpS_reverse (wpS_bind (wpS_reverse ?_)))
     have hB4':=hB3.mirror (i:=lo+m-(q+1)) (j:=lo+m) (by omega) (by omega) hsz
     have hB4:=hB4'.mirror (i:=lo) (j:=lo+m) (by omega) (by omega) hsz
     have hz4:=hB4'.S.size
     have hN4:NI κ (mirror (arrOf st') (lo+m-(q+1)) (lo+m) ((lo+m-(lo+m-(q+1))) / 2)) lo m:=by
      have hk:=KK_mirror_equal (κ:=κ) (xs:=arrOf st') (i:=lo+m-(q+1)) (j:=lo+m) (by omega) (fun k g1 g2=>by
       have:=he (k-lo) (by omega) (by omega)
       rw[show lo +(k-lo)=k by omega]at this
       exact this)
      intro i j hij hj
      rw[hk,hk]
      exact hs3 i j hij hj
     have hT:=hN4.turn (κ:=κ) (lo:=lo) (n:=m) (by rw[mirror_size];omega)
     refine wpS_bind (Yw (κ:=κ) (lo:=lo) (fun x n' g1 g2=>?_) (by omega) hm2 hT fun m' hm1' hm2' hsm _=>wpS_pure (h m' _ hB4 (by omega) hm2' hsm))
     dsimp only
     refine wpS_bind (P2 C h0 hB4.S (by omega) (by omega) ?_)
     dsimp only
     cases κ.blt (KK κ _ (lo+n')) (KK κ _ (lo+n' - 1))
     ·exact wpS_pure ⟨rfl,rfl⟩
     ·exact wpS_pure ⟨rfl,rfl⟩
    ·rw[AJ hq0]
     refine wpS_bind (wpS_reverse ?_)
     have hB4:=hB3.mirror (i:=lo) (j:=lo+m) (by omega) (by omega) hsz
     have hT:=hs3.turn (κ:=κ) (lo:=lo) (n:=m) (by omega)
     refine wpS_bind (Yw (κ:=κ) (lo:=lo) (fun x n' g1 g2=>?_) (by omega) hm2 hT fun m' hm1' hm2' hsm _=>wpS_pure (h m' _ hB4 (by omega) hm2' hsm))
     dsimp only
     refine wpS_bind (P2 C h0 hB4.S (by omega) (by omega) ?_)
     dsimp only
     cases κ.blt (KK κ _ (lo+n')) (KK κ _ (lo+n' - 1))
     ·exact wpS_pure ⟨rfl,rfl⟩
     ·exact wpS_pure ⟨rfl,rfl⟩
 ·rw[AJ hgt]
  have hn1':n=1:=by omega
  have hB2:=L0
  have hN:NI κ (arrOf st) lo (n+1):=by
   refine NI.step (by omega) (fun _=>rfl) (fun i j hij hj=>?_) (KeyOrd.kle_of_klt hlt)
   have:i=j:=by omega
   subst this;exact KeyOrd.kle_refl _
  refine wpS_bind (wpS_lift (FB ⟨rfl,?_⟩))
  refine wpS_bind (zAq (κ:=κ) (kd:=kd) (a₀:=a₀) (st0:=st) (lo:=lo) hsz (fun x n' q st' g1 g2 hB'=>?_) (by omega) (by omega) hB2 hN fun m q st' hB3 hm1 hm2 hs3 hq he=>?_)
  ·dsimp only
   refine wpS_bind (P2 C h0 hB'.S (by omega) (by omega) ?_)
   dsimp only
   cases κ.blt (KK κ (arrOf st') (lo+n')) (KK κ (arrOf st') (lo+n' - 1))
   ·simp only[AX,CN]
    refine wpS_bind (P2 C h0 hB'.S (by omega) (by omega) ?_)
    dsimp only
    cases κ.blt (KK κ (arrOf st') (lo+n' - 1)) (KK κ (arrOf st') (lo+n'))
    ·exact wpS_pure ⟨rfl,rfl⟩
    ·exact wpS_pure ⟨rfl,rfl⟩
   ·simp only[FE]
    by_cases hq:q>0
    ·rw[AQ hq,AQ hq]
     exact wpS_bind (wpS_reverse (wpS_pure ⟨rfl,rfl⟩))
    ·rw[AJ hq,AJ hq]
     exact wpS_pure ⟨rfl,rfl⟩
  ·dsimp only
   have hz3:=hB3.S.size
   by_cases hq0:q>0
   ·rw[AQ hq0]
    refine wpS_bind (wpS_reverse (wpS_bind (wpS_reverse ?_)))
    have hB4':=hB3.mirror (i:=lo+m-(q+1)) (j:=lo+m) (by omega) (by omega) hsz
    have hB4:=hB4'.mirror (i:=lo) (j:=lo+m) (by omega) (by omega) hsz
    have hz4:=hB4'.S.size
    have hN4:NI κ (mirror (arrOf st') (lo+m-(q+1)) (lo+m) ((lo+m-(lo+m-(q+1))) / 2)) lo m:=by
     have hk:=KK_mirror_equal (κ:=κ) (xs:=arrOf st') (i:=lo+m-(q+1)) (j:=lo+m) (by omega) (fun k g1 g2=>by
      have:=he (k-lo) (by omega) (by omega)
      rw[show lo +(k-lo)=k by omega]at this
      exact this)
     intro i j hij hj
     rw[hk,hk]
     exact hs3 i j hij hj
    have hT:=hN4.turn (κ:=κ) (lo:=lo) (n:=m) (by rw[mirror_size];omega)
    refine wpS_bind (Yw (κ:=κ) (lo:=lo) (fun x n' g1 g2=>?_) (by omega) hm2 hT fun m' hm1' hm2' hsm _=>wpS_pure (h m' _ hB4 (by omega) hm2' hsm))
    dsimp only
    refine wpS_bind (P2 C h0 hB4.S (by omega) (by omega) ?_)
    dsimp only
    cases κ.blt (KK κ _ (lo+n')) (KK κ _ (lo+n' - 1))
    ·exact wpS_pure ⟨rfl,rfl⟩
    ·exact wpS_pure ⟨rfl,rfl⟩
   ·rw[AJ hq0]
    refine wpS_bind (wpS_reverse ?_)
    have hB4:=hB3.mirror (i:=lo) (j:=lo+m) (by omega) (by omega) hsz
    have hT:=hs3.turn (κ:=κ) (lo:=lo) (n:=m) (by omega)
    refine wpS_bind (Yw (κ:=κ) (lo:=lo) (fun x n' g1 g2=>?_) (by omega) hm2 hT fun m' hm1' hm2' hsm _=>wpS_pure (h m' _ hB4 (by omega) hm2' hsm))
    dsimp only
    refine wpS_bind (P2 C h0 hB4.S (by omega) (by omega) ?_)
    dsimp only
    cases κ.blt (KK κ _ (lo+n')) (KK κ _ (lo+n' - 1))
    ·exact wpS_pure ⟨rfl,rfl⟩
    ·exact wpS_pure ⟨rfl,rfl⟩
theorem Lo.bubble{st0 st:SortSt}{lo n src d:Nat}(h:Lo κ kd a₀ st0 lo n st)(h1:lo+d<=src)(h2:src<lo+n)(hn:lo+n<=a₀.size):Lo κ kd a₀ st0 lo n (setArr st (bubble (arrOf st) src d)):=by
 refine⟨⟨(Array.perm_iff_toList_perm.mp (bubble_perm _ _ _)).trans h.S.perm,h.S.kind,h.S.failed⟩,h.pend,fun t ht=>?_⟩
 show(PyProof.Rows.bubble (arrOf st) src d)[t]?=_
 have:=h.S.size
 rw[getElem?_bubble (by omega) d (by omega),AJ (by omega),AJ (by omega)]
 exact h.out t ht
theorem Ci(C:Cmp prog w A s κ kd)(h0:KeysOf κ a₀){st0 st:SortSt}{lo nrem n ok:Nat}{Q:Bool->SortSt->Prop}(hB:Lo κ kd a₀ st0 lo nrem st)(hsz:lo+nrem<=a₀.size)(hn:n<=nrem)(hok:ok<=n)(hs:SI κ (arrOf st) lo ok)
  (h:∀st',Lo κ kd a₀ st0 lo nrem st'->SI κ (arrOf st') lo n->Q true st'):wpS (model prog w) A E s (binarySort' lo n ok) Q st:=by
 rw[binarySort'_eq]
 refine wpS_bind (wpS_mono (wpS_forRange (I:=fun k c st'=>c =(none,())/\Lo κ kd a₀ st0 lo nrem st'/\SI κ (arrOf st') lo (min k n))
  (Q:=fun c st'=>c =(none,())/\Lo κ kd a₀ st0 lo nrem st'/\SI κ (arrOf st') lo n) ?step ?fin ?init) ?post)
 case post =>
  rintro c st' ⟨rfl,hB',hs'⟩
  exact wpS_pure (h st' hB' hs')
 case init =>
  refine⟨rfl,hB,fun i j hij hj=>?_⟩
  by_cases h1:ok=0
  ·have:i=j:=by omega
   subst this;exact KeyOrd.kle_refl _
  ·exact hs i j hij (by omega)
 case fin =>
  rintro c st' ⟨hc,hB',hs'⟩
  refine⟨hc,hB',?_⟩
  rwa [show min (max (max ok 1) n) n=n by omega]at hs'
 case step =>
  rintro k c st' hak hkn ⟨rfl,hB',hs'⟩
  rw[show min k n=k by omega]at hs'
  dsimp only
  refine wpS_bind (wpS_mono (wpS_forRange (I:=fun x c st''=>st''=st'/\∃l r,c =(none,l,r)/\l<=r/\r<=k/\r-l<=k-x /\
    (∀i,i<l->κ.kle (KK κ (arrOf st') (lo+i)) (KK κ (arrOf st') (lo+k)))/\(∀i,r<=i->i<k->κ.klt (KK κ (arrOf st') (lo+k)) (KK κ (arrOf st') (lo+i))))
   (Q:=fun c st''=>st''=st'/\∃l r,c =(none,l,r)/\l<=k /\
    (∀i,i<l->κ.kle (KK κ (arrOf st') (lo+i)) (KK κ (arrOf st') (lo+k)))/\(∀i,l<=i->i<k->κ.klt (KK κ (arrOf st') (lo+k)) (KK κ (arrOf st') (lo+i)))) ?istep ?ifin ?iinit) ?ipost)
  case iinit=>exact⟨rfl,0,k,rfl,by omega,by omega,by omega,fun i hi=>by omega,fun i h1 h2=>by omega⟩
  case ifin =>
   rintro c st'' ⟨rfl,l,r,rfl,hlr,hrk,hm,hlo,hhi⟩
   have:l=r:=by omega
   subst this
   exact⟨rfl,l,l,rfl,hrk,hlo,hhi⟩
  case istep =>
   rintro x c st'' _ hxk ⟨rfl,l,r,rfl,hlr,hrk,hm,hlo,hhi⟩
   dsimp only
   by_cases hge:l ≥ r
   ·rw[AQ hge]
    have:l=r:=by omega
    subst this
    exact wpS_pure ⟨rfl,l,l,rfl,hrk,hlo,hhi⟩
   ·rw[AJ hge]
    refine wpS_bind (P2 C h0 hB'.S (by omega) (by omega) ?_)
    dsimp only
    cases hless:κ.blt (KK κ (arrOf st'') (lo+k)) (KK κ (arrOf st'') (lo +(l+r) / 2))
    case true =>
     simp only[FE]
     refine wpS_pure ⟨rfl,l,(l+r) / 2,rfl,by omega,by omega,by omega,hlo,fun i h1 h2=>?_⟩
     exact KeyOrd.klt_of_klt_of_kle hless (hs' _ _ h1 h2)
    case false =>
     simp only[AX,CN]
     refine wpS_pure ⟨rfl,(l+r) / 2+1,r,rfl,by omega,by omega,by omega,fun i h1=>?_,hhi⟩
     exact KeyOrd.kle_trans (hs' i ((l+r) / 2) (by omega) (by omega)) (show κ.kle _ _ from hless)
  case ipost =>
   rintro c st'' ⟨rfl,l,r,rfl,hlk,hlo,hhi⟩
   have hz:=hB'.S.size
   show wpS _ _ _ _ (do moveDown' (lo+k) (lo+l);pure (ForInStep.yield (none,()))) _ _
   rw[moveDown'_eq]
   refine wpS_bind (wpS_modify (wpS_pure ⟨rfl,hB'.bubble (by omega) (by omega) hsz,?_⟩))
   rw[show min (k+1) n=k+1 by omega]
   intro i j hij hj
   show κ.kle (KK κ (bubble (arrOf st'') (lo+k) (lo+k-(lo+l))) (lo+i)) (KK κ (bubble (arrOf st'') (lo+k) (lo+k-(lo+l))) (lo+j))
   rw[KK_bubble (by omega) (by omega),KK_bubble (by omega) (by omega),show lo+k-(lo+k-(lo+l))=lo+l by omega]
   have shift:∀z,1<=z->lo+z-1=lo +(z-1):=fun z _=>by omega
   repeat' split
   all_goals first
    | (exfalso;omega)
    | exact KeyOrd.kle_refl _
    | exact hlo _ (by omega)
    | exact KeyOrd.kle_of_klt (hhi _ (by omega) (by omega))
    | exact hs' _ _ (by omega) (by omega)
    | (rw[shift j (by omega)];exact KeyOrd.kle_of_klt (hhi _ (by omega) (by omega)))
    | (rw[shift i (by omega)];exact hlo _ (by omega))
    | (rw[shift j (by omega)];exact hs' _ _ (by omega) (by omega))
    | (rw[shift i (by omega),shift j (by omega)];exact hs' _ _ (by omega) (by omega))
    | (rw[shift i (by omega)];exact hs' _ _ (by omega) (by omega))
end
abbrev Run:=Nat×Nat×Nat
def Cov:List Run->Nat->Nat->Prop
 | [],a,b=>a=b
 | x::r,a,b=>x.1=a/\1<=x.2.1/\Cov r (a+x.2.1) b
theorem Cov.app:∀{l1 l2:List Run} {a b:Nat},Cov (l1++l2) a b↔∃c,Cov l1 a c/\Cov l2 c b
 | [],l2,a,b=>⟨fun h=>⟨a,rfl,h⟩,fun⟨c,h1,h2⟩=>by have:a=c:=h1;subst this;exact h2⟩
 | x::r,l2,a,b=>by
  constructor
  ·rintro⟨h1,h2,h3⟩
   obtain⟨c,h4,h5⟩:=Cov.app.mp h3
   exact⟨c,⟨h1,h2,h4⟩,h5⟩
  ·rintro⟨c,⟨h1,h2,h4⟩,h5⟩
   exact⟨h1,h2,Cov.app.mpr ⟨c,h4,h5⟩⟩
theorem Cov.le:∀{l:List Run} {a b:Nat},Cov l a b->a+l.length<=b
 | [],a,b,h=>by have:a=b:=h;subst this;simp
 | x::r,a,b,⟨h1,h2,h3⟩=>by have:=Cov.le h3;rw[BN];omega
theorem Cov.mem:∀{l:List Run} {a b:Nat} {x:Run},Cov l a b->x∈l->a<=x.1/\x.1+x.2.1<=b
 | [],_,_,_,_,hx=>absurd hx (by simp)
 | y::r,a,b,x,⟨h1,h2,h3⟩,hx=>by
  have hl:=Cov.le h3
  rcases BD.mp hx with e | hx
  ·subst e;omega
  ·have:=Cov.mem h3 hx;omega
theorem zDo{l:List Run}{i:Nat}{x y:Run}(hx:l[i]?=some x)(hy:l[i+1]?=some y):l=l.take i++x::y::l.drop (i+2):=by
 obtain⟨h1,rfl⟩:=AG.mp hx
 obtain⟨h2,rfl⟩:=AG.mp hy
 conv=>lhs;rw[<-BU i l]
 rw[DF h1,DF h2]
theorem zDg{l:List Run}{i:Nat}{x y:Run}(z:Run)(hx:l[i]?=some x)(hy:l[i+1]?=some y):(l.set i z).eraseIdx (i+1)=l.take i++z::l.drop (i+2):=by
 obtain⟨h1,_⟩:=AG.mp hx
 obtain⟨h2,_⟩:=AG.mp hy
 have e:=zDo hx hy
 have hl:(l.take i).length=i:=by rw[AS];omega
 generalize l.take i=p at *
 generalize l.drop (i+2)=q at *
 subst e
 rw[List.set_append_right _ _ (by omega),hl,Nat.sub_self,List.eraseIdx_append_of_length_le (by omega),hl,show i+1-i=1 by omega]
 rfl
section
variable{prog:Program}{w:World}{A:Around}{E:Value->Shared->Prop}{s:Shared}{κ:KeyKind}{kd:SortKind}{a₀:Array Keyed}
structure RI(κ:KeyKind)(kd:SortKind)(a₀:Array Keyed)(lo:Nat)(st:SortSt):Prop where
 S:St κ kd a₀ st
 cov:Cov (pendingOf st).toList 0 lo
 sor:∀x∈(pendingOf st).toList,Sor κ (seg (arrOf st).toList x.1 x.2.1)
theorem Jf(C:Cmp prog w A s κ kd)(h0:KeysOf κ a₀){st:SortSt}{lo i:Nat}{Q:Bool->SortSt->Prop}(R:RI κ kd a₀ lo st)(hlo:lo<=a₀.size)(hi:i+1 <(pendingOf st).size)
  (h:∀st',RI κ kd a₀ lo st'->(pendingOf st').size+1 =(pendingOf st).size->Part κ (arrOf st).toList (arrOf st').toList 0 lo->Q true st'):wpS (model prog w) A E s (mergeAt' i) Q st:=by
 obtain⟨⟨sa,na,pw⟩,hx⟩:∃x,(pendingOf st)[i]?=some x:=⟨_,getElem?_pos _ i (by omega)⟩
 obtain⟨⟨sb,nb,pw2⟩,hy⟩:∃x,(pendingOf st)[i+1]?=some x:=⟨_,getElem?_pos _ (i+1) hi⟩
 have hx':(pendingOf st).toList[i]?=some (sa,na,pw):=by rw[BO];exact hx
 have hy':(pendingOf st).toList[i+1]?=some (sb,nb,pw2):=by rw[BO];exact hy
 have e:=zDo hx' hy'
 have c:=R.cov
 rw[e]at c
 obtain⟨c0,c1,c2⟩:=Cov.app.mp c
 obtain⟨d1,d2,d3,d4,d5⟩:=c2
 dsimp only at d1 d2 d3 d4 d5
 have hl5:=Cov.le d5
 refine Ir C h0 R.S hx hy (by omega) (by omega) d2 d4 (R.sor _ (BJ hx')) (R.sor _ (BJ hy')) fun st' S' P' s' p'=>?_
 have ep:(pendingOf st').toList =(pendingOf st).toList.take i ++(sa,na+nb,pw) ::(pendingOf st).toList.drop (i+2):=by
  rw[p',<-zDg (sa,na+nb,pw) hx' hy']
  simp
 refine h st' ⟨S',?_,fun x hxm=>?_⟩ ?_ ?_
 ·rw[ep]
  exact Cov.app.mpr ⟨c0,c1,d1,(by show 1<=na+nb;omega),(by show Cov _ (c0 +(na+nb)) lo;rw[<-Nat.add_assoc];exact d5)⟩
 ·rw[ep]at hxm
  have old:∀y∈(pendingOf st).toList,(y.1+y.2.1<=sa\/sa +(na+nb)<=y.1)->Sor κ (seg (arrOf st').toList y.1 y.2.1):=fun y hy ho=>by
   have:=R.sor y hy
   rcases ho with ho | ho
   ·rw[P'.seg_front ho];exact this
   ·rw[P'.seg_back ho];exact this
  rcases AV.mp hxm with hm | hm
  ·have:=Cov.mem c1 hm
   exact old x (CY hm) (.inl (by omega))
  ·rcases BD.mp hm with hm | hm
   ·subst hm
    exact s'
   ·have:=Cov.mem d5 hm
    exact old x (EQ hm) (.inr (by omega))
 ·have:=congrArg List.length ep
  rw[AO,BA,BN,AS,DG,AO]at this
  omega
 ·have hb:∀z:List Keyed,z.drop (0+lo) =(z.drop (sa +(na+nb))).drop (lo-(sa +(na+nb))):=fun z=>by
   rw[FA];congr 1;omega
  exact⟨P'.perm,rfl,by rw[hb,hb,P'.back]⟩
theorem Ao{l:Array Run}{pw:Nat}:(l.modify (l.size-1) fun x=>(x.1,x.2.1,pw)).toList.map (fun x:Run=>(x.1,x.2.1))=l.toList.map fun x:Run=>(x.1,x.2.1):=by
 refine FK fun t=>?_
 rw[AI,AI,BO,BO,Array.getElem?_modify]
 split
 ·cases l[t]?<;>rfl
 ·rfl
theorem Cov.congr:∀{l l':List Run} {a b:Nat},l'.map (fun x:Run=>(x.1,x.2.1))=l.map (fun x:Run=>(x.1,x.2.1))->Cov l a b->Cov l' a b
 | [],[],_,_,_,h=>h
 | [],_::_,_,_,e,_=>by simp at e
 | _::_,[],_,_,e,_=>by simp at e
 | x::r,y::r',a,b,e,⟨h1,h2,h3⟩=>by
  rw[BG,BG]at e
  obtain⟨e1,e2⟩:=HJ e
  obtain⟨e3,e4⟩:=Prod.mk.inj e1
  exact⟨e3.trans h1,by rw[e4];exact h2,by rw[e4];exact Cov.congr e2 h3⟩
theorem RI.congr{lo:Nat}{st:SortSt}(R:RI κ kd a₀ lo st){p:Array Run}(e:p.toList.map (fun x:Run=>(x.1,x.2.1)) =(pendingOf st).toList.map fun x:Run=>(x.1,x.2.1)):RI κ kd a₀ lo (setPending st p):=by
 refine⟨⟨R.S.perm,R.S.kind,R.S.failed⟩,Cov.congr e R.cov,fun x hx=>?_⟩
 have:(x.1,x.2.1)∈(pendingOf st).toList.map fun x:Run=>(x.1,x.2.1):=by
  rw[<-e]
  exact AK.mpr ⟨x,hx,rfl⟩
 obtain⟨y,hy,ey⟩:=AK.mp this
 obtain⟨e1,e2⟩:=Prod.mk.inj ey
 have:=R.sor y hy
 rw[e1,e2]at this
 exact this
theorem i9(C:Cmp prog w A s κ kd)(h0:KeysOf κ a₀){st:SortSt}{Q:Unit->SortSt->Prop}(hS:St κ kd a₀ st)(hp:pendingOf st = #[])
  (h:∀st',St κ kd a₀ st'->Sor κ (arrOf st').toList->Q () st'):wpS (model prog w) A E s sortRuns' Q st:=by
 rw[sortRuns'_eq]
 refine wpS_bind (wpS_get ?_)
 dsimp only
 have hz:=hS.size
 rw[hz]
 generalize minRun' a₀.size a₀.size 0=mr
 refine wpS_bind (wpS_mono (wpS_forRange (I:=fun x c st'=>∃lo,c =(none,lo)/\RI κ kd a₀ lo st'/\lo<=a₀.size/\min x a₀.size<=lo)
  (Q:=fun c st'=>∃lo,c =(none,lo)/\RI κ kd a₀ lo st'/\lo=a₀.size) ?st ?en ⟨0,rfl,⟨hS,by rw[hp];rfl,fun x hx=>by rw[hp]at hx;exact absurd hx (by simp)⟩,CA _,by omega⟩) ?po)
 case en =>
  rintro c st' ⟨lo,rfl,R,h1,h2⟩
  exact⟨lo,rfl,R,by omega⟩
 case po =>
  rintro c st' ⟨lo,rfl,R,rfl⟩
  dsimp only
  refine wpS_bind (wpS_mono (wpS_forRange (I:=fun x c st'=>c =(none,())/\RI κ kd a₀ a₀.size st'/\(pendingOf st').size+x<=a₀.size+1)
   (Q:=fun c st'=>c =(none,())/\RI κ kd a₀ a₀.size st'/\(pendingOf st').size<=1) ?st3 ?en3 ⟨rfl,R,?in3⟩) ?po3)
  case in3 =>
   have:=Cov.le R.cov
   rw[AO]at this
   omega
  case en3 =>
   rintro c st2 ⟨rfl,R2,g⟩
   exact⟨rfl,R2,by omega⟩
  case po3 =>
   rintro c st2 ⟨rfl,R2,g⟩
   refine wpS_pure (h st2 R2.S ?_)
   have c:=R2.cov
   have so:=R2.sor
   have hz2:=R2.S.size
   have hl:(pendingOf st2).toList.length<=1:=by rw[AO];exact g
   generalize (pendingOf st2).toList=l at c so hl
   match l,c,so,hl with
   | [],c,_,_ =>
    have c':0=a₀.size:=c
    have:(arrOf st2).toList = []:=List.eq_nil_of_length_eq_zero (by rw[AO];omega)
    rw[this]
    exact List.Pairwise.nil
   | [x],⟨c1,c2,c3⟩,so,_ =>
    have c3':0+x.2.1=a₀.size:=c3
    have:=so x (AD.mpr rfl)
    unfold seg at this
    rw[c1,ER,CZ (by rw[AO];omega)]at this
    exact this
   | _::_::_,_,_,hl=>exact absurd hl (by simp)
  case st3 =>
   rintro x c st2 _ hx ⟨rfl,R2,g⟩
   try dsimp only
   refine wpS_bind (wpS_get ?_)
   by_cases hle:(pendingOf st2).size<=1
   ·rw[AQ hle]
    exact wpS_pure ⟨rfl,R2,hle⟩
   rw[AJ hle]
   refine wpS_bind (Jf C h0 R2 (Nat.le_refl _) ?_ fun st3 R3 e3 _=>?_)
   ·have hi2:∀{c:Prop} [Decidable c] {n:Nat},(if c then n-1 else n)+1<=n+1:=by intro c _ n;split<;>omega
    exact Nat.lt_of_le_of_lt hi2 (by omega)
   ·simp only[EN,AX,CN]
    exact wpS_pure ⟨rfl,R3,by omega⟩
 case st =>
  rintro x c st' _ hx ⟨lo,rfl,R,h1,h2⟩
  dsimp only
  by_cases hge:lo ≥ a₀.size
  ·rw[AQ hge]
   exact wpS_pure ⟨lo,rfl,R,by omega⟩
  rw[AJ hge]
  refine wpS_bind (Fw C h0 R.S (by omega) (by omega) fun m st2 L2 hm1 hm2 hs2=>?_)
  dsimp only
  by_cases hmr:m<mr
  ·rw[AQ hmr]
   refine wpS_bind (wpS_lift (FB ⟨rfl,?_⟩))
   refine wpS_bind (Ci C h0 L2 (by omega) (show min (a₀.size-lo) mr<=a₀.size-lo by omega) (by omega) hs2 fun st5 L5 s5=>?_)
   simp only[EN,AX,CN]
   have hN:1<=min (a₀.size-lo) mr/\min (a₀.size-lo) mr<=a₀.size-lo:=by omega
   generalize min (a₀.size-lo) mr=N at hN s5⊢
   have R5:RI κ kd a₀ lo st5:=by
    refine⟨L5.S,by rw[L5.pend];exact R.cov,fun y hy=>?_⟩
    rw[L5.pend]at hy
    have hc:=Cov.mem R.cov hy
    rw[(L5.part R.S).seg_front (by omega)]
    exact R.sor y hy
   refine wpS_bind (wpS_get ?_)
   have push:∀(st6:SortSt),RI κ kd a₀ lo st6->Sor κ (seg (arrOf st6).toList lo N)->RI κ kd a₀ (lo+N) (setPending st6 ((pendingOf st6).push (lo,N,0))):=fun st6 R6 s6=>by
    refine⟨⟨R6.S.perm,R6.S.kind,R6.S.failed⟩,?_,fun y hy=>?_⟩
    ·show Cov ((pendingOf st6).push (lo,N,0)).toList 0 (lo+N)
     rw[DD]
     exact Cov.app.mpr ⟨lo,R6.cov,rfl,(by show 1<=N;omega),rfl⟩
    ·have hy':y∈((pendingOf st6).push (lo,N,0)).toList:=hy
     rw[DD]at hy'
     rcases AV.mp hy' with hy' | hy'
     ·exact R6.sor y hy'
     ·rw[AD.mp hy']
      exact s6
   cases hbk:(pendingOf st5).back? with
   | none =>
    dsimp only
    refine wpS_bind (wpS_modify (wpS_pure ⟨_,rfl,push _ R5 s5.sor,by omega,by omega⟩))
   | some bk =>
    obtain⟨s1,n1,pb⟩:=bk
    dsimp only
    generalize power' a₀.size (2*s1+n1) (2*s1+n1+n1+N) a₀.size=pw
    refine wpS_bind (wpS_mono (wpS_forRange (I:=fun x c st6=>c =(none,())/\RI κ kd a₀ lo st6/\Part κ (arrOf st5).toList (arrOf st6).toList 0 lo)
     (Q:=fun c st6=>c =(none,())/\RI κ kd a₀ lo st6/\Part κ (arrOf st5).toList (arrOf st6).toList 0 lo) ?stc1 (fun _ _ z=>z) ⟨rfl,R5,Part.refl _ _ _⟩) ?poc1)
    case stc1 =>
     rintro x' c st6 _ _ ⟨rfl,R6,P6⟩
     try dsimp only
     refine wpS_bind (wpS_get ?_)
     by_cases hp1:(pendingOf st6).size>1
     ·rw[AQ hp1]
      obtain⟨⟨u1,u2,ol⟩,hu⟩:∃y,(pendingOf st6)[(pendingOf st6).size-2]?=some y:=⟨_,getElem?_pos _ _ (by omega)⟩
      rw[hu]
      dsimp only
      by_cases hol:ol<=pw
      ·rw[AQ hol]
       exact wpS_pure ⟨rfl,R6,P6⟩
      rw[AJ hol]
      refine wpS_bind (Jf C h0 R6 h1 (by omega) fun st7 R7 _ P7=>?_)
      simp only[EN,AX,CN]
      exact wpS_pure ⟨rfl,R7,⟨P7.perm.trans P6.perm,rfl,P7.back.trans P6.back⟩⟩
     ·rw[AJ hp1]
      exact wpS_pure ⟨rfl,R6,P6⟩
    case poc1 =>
     rintro c st6 ⟨rfl,R6,P6⟩
     dsimp only
     refine wpS_bind (wpS_modify (wpS_bind (wpS_modify (wpS_pure ⟨_,rfl,push _ (R6.congr Ao) ?_,by omega,by omega⟩))))
     show Sor κ (seg (arrOf st6).toList lo N)
     rw[P6.seg_back (by omega)]
     exact s5.sor
  ·rw[AJ hmr]
   have R5:RI κ kd a₀ lo st2:=by
    refine⟨L2.S,by rw[L2.pend];exact R.cov,fun y hy=>?_⟩
    rw[L2.pend]at hy
    have hc:=Cov.mem R.cov hy
    rw[(L2.part R.S).seg_front (by omega)]
    exact R.sor y hy
   refine wpS_bind (wpS_get ?_)
   have push:∀(st6:SortSt),RI κ kd a₀ lo st6->Sor κ (seg (arrOf st6).toList lo m)->RI κ kd a₀ (lo+m) (setPending st6 ((pendingOf st6).push (lo,m,0))):=fun st6 R6 s6=>by
    refine⟨⟨R6.S.perm,R6.S.kind,R6.S.failed⟩,?_,fun y hy=>?_⟩
    ·show Cov ((pendingOf st6).push (lo,m,0)).toList 0 (lo+m)
     rw[DD]
     exact Cov.app.mpr ⟨lo,R6.cov,rfl,(by show 1<=m;omega),rfl⟩
    ·have hy':y∈((pendingOf st6).push (lo,m,0)).toList:=hy
     rw[DD]at hy'
     rcases AV.mp hy' with hy' | hy'
     ·exact R6.sor y hy'
     ·rw[AD.mp hy']
      exact s6
   cases hbk:(pendingOf st2).back? with
   | none =>
    dsimp only
    refine wpS_bind (wpS_modify (wpS_pure ⟨_,rfl,push _ R5 hs2.sor,by omega,by omega⟩))
   | some bk =>
    obtain⟨s1,n1,pb⟩:=bk
    dsimp only
    generalize power' a₀.size (2*s1+n1) (2*s1+n1+n1+m) a₀.size=pw
    refine wpS_bind (wpS_mono (wpS_forRange (I:=fun x c st6=>c =(none,())/\RI κ kd a₀ lo st6/\Part κ (arrOf st2).toList (arrOf st6).toList 0 lo)
     (Q:=fun c st6=>c =(none,())/\RI κ kd a₀ lo st6/\Part κ (arrOf st2).toList (arrOf st6).toList 0 lo) ?stc2 (fun _ _ z=>z) ⟨rfl,R5,Part.refl _ _ _⟩) ?poc2)
    case stc2 =>
     rintro x' c st6 _ _ ⟨rfl,R6,P6⟩
     try dsimp only
     refine wpS_bind (wpS_get ?_)
     by_cases hp1:(pendingOf st6).size>1
     ·rw[AQ hp1]
      obtain⟨⟨u1,u2,ol⟩,hu⟩:∃y,(pendingOf st6)[(pendingOf st6).size-2]?=some y:=⟨_,getElem?_pos _ _ (by omega)⟩
      rw[hu]
      dsimp only
      by_cases hol:ol<=pw
      ·rw[AQ hol]
       exact wpS_pure ⟨rfl,R6,P6⟩
      rw[AJ hol]
      refine wpS_bind (Jf C h0 R6 h1 (by omega) fun st7 R7 _ P7=>?_)
      simp only[EN,AX,CN]
      exact wpS_pure ⟨rfl,R7,⟨P7.perm.trans P6.perm,rfl,P7.back.trans P6.back⟩⟩
     ·rw[AJ hp1]
      exact wpS_pure ⟨rfl,R6,P6⟩
    case poc2 =>
     rintro c st6 ⟨rfl,R6,P6⟩
     dsimp only
     refine wpS_bind (wpS_modify (wpS_bind (wpS_modify (wpS_pure ⟨_,rfl,push _ (R6.congr Ao) ?_,by omega,by omega⟩))))
     show Sor κ (seg (arrOf st6).toList lo m)
     rw[P6.seg_back (by omega)]
     exact hs2.sor
end
def kd1(κ:KeyKind)(v:Value):κ.α:=(κ.keyOf v).getD κ.dflt
section
variable{prog:Program}{w:World}{A:Around}{E:Value->Shared->Prop}{s:Shared}{κ:KeyKind}{kd:SortKind}
def Ext(a:Addr)(s s':Shared):Prop:=∀b o,b≠a->s.heap.get? b=some o->s'.heap.get? b=some o
structure Keys(prog:Program)(w:World)(a:Addr)(s:Shared)(κ:KeyKind)(kd:SortKind)(vs:List Value):Prop where
 cmp:∀(A:Around) (s':Shared),Ext a s s'->Cmp prog w A s' κ kd
 key:∀v∈vs,∃k,κ.keyOf v=some k
 kind:2<=vs.length->∀(A:Around) (E:Value->Shared->Prop) (s':Shared) (Q:SortKind->Shared->Prop),Ext a s s'->Q kd s'->wpAny (model prog w) A (keyKind' vs.toArray) Q E s'
def Out(κ:KeyKind)(vs:List Value)(out:Array Value):Prop:=out.toList.Perm vs/\out.toList.Pairwise fun u v=>κ.kle (kd1 κ u) (kd1 κ v)
theorem Ma{vs:List Value}{xs:Array Keyed}(hp:xs.toList.Perm (pairsOf vs).toList)(hs:Sor κ xs.toList):Out κ vs (xs.map (·.2)):=by
 rw[pairsOf_toList]at hp
 have hm:∀p∈xs.toList,p.1=p.2:=fun p h=>(mem_zip_self (hp.mem_iff.mp h)).1
 have e:(xs.map (·.2)).toList=xs.toList.map (·.1):=by
  rw[Array.toList_map];exact List.map_congr_left fun p h=>(hm p h).symm
 refine⟨?_,?_⟩
 ·rw[e]
  have:=hp.map Prod.fst
  rwa [List.map_fst_zip (Nat.le_refl _)]at this
 ·rw[e,CB]
  exact hs
theorem Fg{a:Addr}{vs:List Value}{n:Nat}{P:Fin->Shared->Prop}(ho:s.heap.get? a=some (seqObj "list" vs.toArray n))(hz:vs.length<=sizeLine)(K:Keys prog w a s κ kd vs)
  (h:∀out:Array Value,Out κ vs out->P (.done (.ret .none)) { s with heap:=sortedHeap s.heap a vs out }) :
  wpAny (model prog w) A (Builtin.«list.sort» ⟨[.ref a],[]⟩) P E s:=by
 rw[list_sort_plain]
 have ha:a<s.heap.objs.size:=AN ho
 have hsz:vs.toArray.size=vs.length:=by simp
 refine AA (listItems_at ho rfl ?_)
 refine AA (listUpdate_at ho rfl ?_ (by rw[hsz];exact hz) (by simp))
 obtain⟨e1,ho1⟩:∃e1,(s.heap.update a (Obj.mapSeq fun _=>#[])).get? a=some (seqObj "list" #[] e1):=⟨_,get?_update_seq ho (fun _=>#[])⟩
 refine AA (seqEpoch_at ho1 rfl ?_)
 refine AA (wpAny_newTuple ?_ (by simpa using hz))
 refine AA (GN ?_)
 refine CO ?_
 have ho6:(((s.heap.update a (Obj.mapSeq fun _=>#[])).push (seqObj "tuple" vs.toArray 0)).push (seqObj "list" #[] 0)).get? a=some (seqObj "list" #[] e1):=by
  rw[GZ _ _ _ (by rw[size_push',EZ];exact BF (CQ ha)),GZ _ _ _ (by rw[EZ];exact BF ha)]
  exact ho1
 show wpAny (model prog w) A _ P E { s with heap:=((s.heap.update a (Obj.mapSeq fun _=>#[])).push (seqObj "tuple" vs.toArray 0)).push (seqObj "list" #[] 0) }
 dsimp only
 have hE:Ext a s { s with heap:=((s.heap.update a (Obj.mapSeq fun _=>#[])).push (seqObj "tuple" vs.toArray 0)).push (seqObj "list" #[] 0) }:=fun b o hb e =>
  AE _ (AE _ ((C_ s.heap _ (Ne.symm hb)).trans e))
 by_cases h2:vs.toArray.size<2
 ·rw[AQ h2,AQ h2]
  refine AA (AF ?_)
  rw[StateT.run_pure]
  refine AA (AF ?_)
  dsimp only
  refine AA (seqEpoch_at ho6 rfl ?_)
  refine AA (listUpdate_at ho6 rfl ?_ (by simp) (by rw[FR];show(pairsOf vs).size<=_;rw[pairsOf_size];omega))
  simp only[bne_self_eq_false,AX,CN]
  refine AF (h _ (Ma (κ:=κ) (xs:=pairsOf vs) (EA _) ?_))
  rw[pairsOf_toList]
  rw[hsz]at h2
  match vs,h2 with
  | [],_=>exact List.Pairwise.nil
  | [v],_=>exact DP _ _
  | _::_::_,h2=>simp at h2;omega
 ·rw[AJ h2,AJ h2]
  refine AA (K.kind (by omega) A E _ _ hE ?_)
  refine AA (CS (i9 (K.cmp A _ hE) (a₀:=pairsOf vs) (st:=SortSt.mk' kd (vs.toArray.zip vs.toArray) #[] 7 none)
   (Q:=fun _ st'=>St κ kd (pairsOf vs) st'/\Sor κ (arrOf st').toList)
   (fun p hp=>?_) ⟨EA _,rfl,rfl⟩ rfl fun st' a1 a2=>⟨a1,a2⟩) ?_ fun _ _ e=>e)
  ·rw[pairsOf_toList]at hp
   exact K.key _ (mem_zip_self hp).2
  rintro⟨⟨⟩,st'⟩ s' ⟨rfl,hp,hs⟩
  dsimp only
  refine AA (seqEpoch_at ho6 rfl ?_)
  refine AA (listUpdate_at ho6 rfl ?_ (by simp) (by rw[FR];show(arrOf st').size<=_;rw[hp.size,pairsOf_size];omega))
  rw[show failedOf st'=none from hp.failed]
  simp only[bne_self_eq_false,AX,CN]
  exact AF (h _ (Ma hp.perm hs))
theorem sorted_gen{x:Value}{Q:Value->Shared->Prop}
  (hc:wpAny (model prog w) A.in1 (collect x) (fun vs s1=>s1.os=s.os/\vs.length<=sizeLine/\(∃(κ:KeyKind) (kd:SortKind),(∀s2:Shared,Ext s1.heap.objs.size s1 s2->Keys prog w s1.heap.objs.size s2 κ kd vs) /\
   ∀(out:Array Value) (h':Heap) (e:Nat),Out κ vs out->(∀b o,s1.heap.get? b=some o->h'.get? b=some o)->h'.get? s1.heap.objs.size=some (seqObj "list" out e)->Q (.ref s1.heap.objs.size) { s1 with heap:=h' })) E s) :
  wpAny (model prog w) A (call (.builtin "sorted") [x]) Q E s:=by
 refine Calls.call_function_entry kind_sorted plain_sorted entry_sorted (args_sorted1 _) ?_
 unfold Builtin.«sorted»
 refine AA (m:=checkCount "sorted" 1 1 _) (AF ?_)
 refine AA (CS hc (fun vs s1 ⟨eos,hz,κ,kd,K,q⟩=>?_) fun _ _ z=>z)
 refine AA (GN ?_)
 have hoL:(s1.heap.push (seqObj "list" vs.toArray 0)).get? s1.heap.objs.size=some (seqObj "list" vs.toArray 0):=BB _ rfl
 show wpAny _ _ _ _ _ { s1 with heap:=s1.heap.push (seqObj "list" vs.toArray 0) }
 have hE:Ext s1.heap.objs.size s1 { s1 with heap:=s1.heap.push (seqObj "list" vs.toArray 0) }:=fun b o _ e=>AE _ e
 refine AA (CO (EL slot_list_sort ⟨_,hoL,rfl⟩ entry_list_sort (Fg (s:={ s1 with heap:=s1.heap.push (seqObj "list" vs.toArray 0) }) hoL hz (K _ hE) fun out ho=>⟨_,rfl,?_⟩) (args_list_sort _)))
 obtain⟨e,he⟩:=sortedHeap_at (h:=s1.heap.push (seqObj "list" vs.toArray 0)) (out:=out) hoL
 refine AF ⟨_,rfl,q out _ e ho (fun b o eb=>?_) he⟩
 have hlt:=AN eb
 rw[sortedHeap_old (BF hlt) (by rw[size_push'];exact CQ hlt)]
 exact AE _ eb
theorem keys_strs{a:Addr}{vs:List Value}{ss:List Str}(hS:StrsAre vs ss):Keys prog w a s strKind oneType' vs:=by
 refine⟨fun A s' _=>⟨fun x y k l Q E hx hy q=>?_⟩,fun v hv=>?_,fun h2 A E s' Q _ q=>?_⟩
 ·rw[keyLt'_oneType]
  exact strKind_oneLt prog w A E s' x y k l hx hy q
 ·obtain⟨x,t,rfl⟩:=hS.all v hv
  exact⟨_,rfl⟩
 ·match vs,h2,hS with
  | v1::v2::r,_,hS =>
   rw[keyKind_strs hS]
   exact AF q
def pairLt(a b:List Nat×List Nat):Bool:=decide (a.1<b.1)||(decide (a.1=b.1)&&decide (a.2<b.2))
theorem pairLt_iff{a b:List Nat×List Nat}:pairLt a b=true↔a.1<b.1\/(a.1=b.1/\a.2<b.2):=by
 unfold pairLt
 simp
theorem tri(a b:List Nat):a<b\/a=b\/b<a:=by
 by_cases h:a<b
 ·exact .inl h
 ·by_cases h':b<a
  ·exact .inr (.inr h')
  ·exact .inr (.inl (List.le_antisymm (List.not_lt.mp h') (List.not_lt.mp h)))
def Rs:List Value->Option (List Nat×List Nat)
 | [.str x _,.str y _]=>some (x.cps.toList,y.cps.toList)
 | _=>none
def Qi(c:Value):Data->Option (List Nat×List Nat)
 | .seq xs _=>if c = .type "tuple" then Rs xs.toList else none
 | _=>none
def pairOf(h:Heap):Value->Option (List Nat×List Nat)
 | .ref p=>(h.get? p).bind fun o=>Qi o.cls o.data
 | _=>none
@[reducible] def pairKind(h:Heap):KeyKind where
 α:=List Nat×List Nat
 blt:=pairLt
 irrefl a:=by
  rw[BI]
  intro z
  rcases pairLt_iff.mp z with z | ⟨_,z⟩
  ·exact G_ _ z
  ·exact G_ _ z
 trans a b c h1 h2:=by
  rw[pairLt_iff]at *
  rcases h1 with h1 | ⟨h1,h1'⟩
  ·rcases h2 with h2 | ⟨h2,_⟩
   ·exact .inl (GO h1 h2)
   ·exact .inl (h2▸h1)
  ·rcases h2 with h2 | ⟨h2,h2'⟩
   ·exact .inl (h1▸h2)
   ·exact .inr ⟨h1.trans h2,GO h1' h2'⟩
 negTrans a b c h:=by
  rw[pairLt_iff]at h
  simp only[pairLt_iff]
  rcases h with h | ⟨h,h'⟩
  ·rcases tri a.1 b.1 with q | q | q
   ·exact .inl (.inl q)
   ·exact .inr (.inl (q▸h))
   ·exact .inr (.inl (GO q h))
  ·rcases tri a.1 b.1 with q | q | q
   ·exact .inl (.inl q)
   ·rcases tri a.2 b.2 with r | r | r
    ·exact .inl (.inr ⟨q,r⟩)
    ·exact .inr (.inr ⟨q▸h,r▸h'⟩)
    ·exact .inr (.inr ⟨q▸h,GO r h'⟩)
   ·exact .inr (.inl (h▸q))
 total a b h1 h2:=by
  rw[BI]at h1 h2
  rcases tri a.1 b.1 with q | q | q
  ·exact absurd (pairLt_iff.mpr (.inl q)) h1
  ·rcases tri a.2 b.2 with r | r | r
   ·exact absurd (pairLt_iff.mpr (.inr ⟨q,r⟩)) h1
   ·exact Prod.ext q r
   ·exact absurd (pairLt_iff.mpr (.inr ⟨q.symm,r⟩)) h2
  ·exact absurd (pairLt_iff.mpr (.inl q)) h2
 keyOf:=pairOf h
 dflt:=([],[])
def PairAt(h:Heap)(v:Value)(x y:Str):Prop:=∃p o n t u,v = .ref p/\h.get? p=some o/\o.cls = .type "tuple"/\o.data = .seq #[.str x t,.str y u] n
theorem PairAt.key{h:Heap}{v:Value}{x y:Str}(z:PairAt h v x y):pairOf h v=some (x.cps.toList,y.cps.toList):=by
 obtain⟨p,o,n,t,u,rfl,e,c,d⟩:=z
 show(h.get? p).bind (fun o=>Qi o.cls o.data)=_
 rw[e]
 show Qi o.cls o.data=_
 rw[d,c]
 unfold Qi
 exact(AQ rfl).trans rfl
theorem Zt{l:List Value}{k:List Nat×List Nat}(e:Rs l=some k):∃x t y u,l = [.str x t,.str y u]:=by
 match l,e with
 | [.str x t,.str y u],_=>exact⟨x,t,y,u,rfl⟩
theorem Qw{h:Heap}{v:Value}{k:List Nat×List Nat}(e:pairOf h v=some k):∃x y,PairAt h v x y:=by
 match v,e with
 | .ref p,e =>
  have e':(h.get? p).bind (fun o=>Qi o.cls o.data)=some k:=e
  obtain⟨o,ho,es⟩:=Option.bind_eq_some_iff.mp e'
  cases d:o.data with
  | seq xs n =>
   rw[d]at es
   have es':(if o.cls = .type "tuple" then Rs xs.toList else none)=some k:=es
   by_cases c:o.cls = .type "tuple"
   ·rw[AQ c]at es'
    obtain⟨x,t,y,u,el⟩:=Zt es'
    refine⟨x,y,p,o,n,t,u,rfl,ho,c,?_⟩
    rw[d]
    have:xs = #[.str x t,.str y u]:=by rw[<-Array.toList_inj,el]
    rw[this]
   ·rw[AJ c]at es';cases es'
  | _=>rw[d]at es;cases es
theorem Kv{h:Heap}{v:Value}{k:List Nat×List Nat}{x y:Str}(z:PairAt h v x y)(e:pairOf h v=some k):k =(x.cps.toList,y.cps.toList):=by
 rw[z.key]at e
 exact(BH e).symm
theorem keys_pairs{a:Addr}{vs:List Value}{h0:Heap}(hv:∀v∈vs,∃x y,PairAt h0 v x y)(hk:∀b o,h0.get? b=some o->b≠a/\s.heap.get? b=some o) :
  Keys prog w a s (pairKind h0) (tuples' true) vs:=by
 refine⟨fun A s' hE=>⟨fun x y k l Q E hx hy q=>?_⟩,fun v hvm=>?_,fun h2 A E s' Q hE q=>?_⟩
 ·obtain⟨x1,x2,zx⟩:=Qw hx
  obtain⟨y1,y2,zy⟩:=Qw hy
  have ek:=Kv zx hx
  have el:=Kv zy hy
  subst ek el
  obtain⟨px,ox,nx,t1,u1,rfl,e1,_,d1⟩:=zx
  obtain⟨py,oy,ny,t2,u2,rfl,e2,_,d2⟩:=zy
  have f1:=hE _ _ (hk _ _ e1).1 (hk _ _ e1).2
  have f2:=hE _ _ (hk _ _ e2).1 (hk _ _ e2).2
  refine PySem.W.kat_lt f1 d1 f2 d2 ?_
  show PySem.W.KatLex prog w A true _ Q [(.str x1 t1,.str y1 t2),(.str x2 u1,.str y2 u2)] 0 s'
  refine PySem.W.kat_cons (HH (PySem.W.kat_go (fun he=>?_) fun he=>?_))
  ·have he:x1=y1:=by simpa using he
   refine PySem.W.kat_yes (PySem.W.kat_cons (HH (PySem.W.kat_go (fun he2=>?_) fun he2=>?_)))
   ·have he2:x2=y2:=by simpa using he2
    refine PySem.W.kat_yes (PySem.W.kat_nil ?_)
    have:pairLt (x1.cps.toList,x2.cps.toList) (y1.cps.toList,y2.cps.toList)=decide (2<2):=by
     rw[he,he2]
     exact(pairKind h0).irrefl (y1.cps.toList,y2.cps.toList)
    show Q (decide (2<2)) s'
    rw[<-this]
    exact q
   ·refine PySem.W.kat_no (PySem.W.kat_one _ _ (lt_str ?_))
    have:pairLt (x1.cps.toList,x2.cps.toList) (y1.cps.toList,y2.cps.toList)=decide (x2.cps.toList<y2.cps.toList):=by
     rw[he]
     unfold pairLt
     simp[G_]
    show Q (decide (x2.cps.toList<y2.cps.toList)) s'
    rw[<-this]
    exact q
  ·have he:¬x1=y1:=by simpa using he
   refine PySem.W.kat_no (oneLt_str ?_)
   have hne:¬x1.cps.toList=y1.cps.toList:=fun z=>he (by cases x1;cases y1;simp at z;simp[z])
   have:pairLt (x1.cps.toList,x2.cps.toList) (y1.cps.toList,y2.cps.toList)=decide (x1.cps.toList<y1.cps.toList):=by
    unfold pairLt
    simp[hne]
   rw[<-this]
   exact q
 ·obtain⟨x,y,z⟩:=hv v hvm
  exact⟨_,z.key⟩
 ·have hT:∀(us:List Value),(∀v∈us,∃x y,PairAt h0 v x y)->∃fs,PySem.W.KatTups s'.heap us fs/\fs.length=us.length/\∀v∈fs,∃x t,v = .str x t:=by
   intro us
   induction us with
   | nil=>exact fun _=>⟨[],.nil,rfl,fun v hv=>by simp at hv⟩
   | cons v r ih =>
    intro hus
    obtain⟨fs,g1,g2,g3⟩:=ih fun u hu=>hus u (AM _ hu)
    obtain⟨x,y,p,o,n,t,u,rfl,e,c,d⟩:=hus v (AU ..)
    refine⟨.str x t::fs,.cons (hE _ _ (hk _ _ e).1 (hk _ _ e).2) c d rfl g1,by simp[g2],fun z hz=>?_⟩
    rcases BD.mp hz with rfl | hz
    ·exact⟨x,t,rfl⟩
    ·exact g3 z hz
  obtain⟨fs,g1,g2,g3⟩:=hT vs hv
  refine PySem.W.kat_kind (T:=.type "str") g1 (by omega) (fun v hv=>?_) (by rfl) q
  obtain⟨x,t,rfl⟩:=g3 v hv
  exact .now
end
end TS
set_option Elab.async false
namespace L2
open PySem PySem.Spec PyProof.Rows
abbrev Key:=Sum Int Str
def Ej:Key->Value->Bool
 | .inl k,v=>Value.isInt k v
 | .inr x,v=>Value.isStrOf x v
def zEu(w:World):Key->Int
 | .inl k=>hashInt k
 | .inr x=>hashStr w x
theorem E5:∀{k:Key} {v:Value},Ej k v=true->(∃i t,k=Sum.inl i/\v=Value.int i t)\/(∃x t,k=Sum.inr x/\v=Value.str x t)
 | .inl i,v,h=>by
  obtain⟨t,e⟩:=Value.isInt_shape (k:=i) (v:=v) h
  exact .inl ⟨i,t,rfl,e⟩
 | .inr x,v,h=>by
  obtain⟨t,e⟩:=Value.isStrOf_shape (x:=x) (v:=v) h
  exact .inr ⟨x,t,rfl,e⟩
theorem Qt(i:Int)(t:Tok):Ej (.inl i) (.int i t)=true:=by simp[Ej,Value.isInt]
theorem h9(x:Str)(t:Tok):Ej (.inr x) (.str x t)=true:=by simp[Ej,Value.isStrOf]
theorem zBb(a b:Int):decide ((Sum.inl a:Key)=Sum.inl b) =(a == b):=by
 by_cases e:a=b
 ·subst e;simp
 ·have h:¬(Sum.inl a:Key)=Sum.inl b:=fun q=>e (Sum.inl.inj q)
  rw[A_ h]
  exact(beq_eq_false_iff_ne.mpr e).symm
theorem Zl(a b:Str):decide ((Sum.inr a:Key)=Sum.inr b)=decide (a=b):=by
 by_cases e:a=b
 ·subst e;simp
 ·have h:¬(Sum.inr a:Key)=Sum.inr b:=fun q=>e (Sum.inr.inj q)
  rw[A_ h,A_ e]
theorem zAh(a:Int)(b:Str):decide ((Sum.inl a:Key)=Sum.inr b)=false:=A_ (fun q=>nomatch q)
theorem Zc(a:Str)(b:Int):decide ((Sum.inr a:Key)=Sum.inl b)=false:=A_ (fun q=>nomatch q)
def C2(prog:Program)(w:World):PySem.KeyKind prog w Key where
 is:=Ej
 hash:=zEu w
 inj:=fun v a b ha hb=>by
  rcases E5 ha with⟨i,t,rfl,rfl⟩ | ⟨x,t,rfl,rfl⟩
  ·rcases E5 hb with⟨j,u,rfl,e⟩ | ⟨y,u,rfl,e⟩
   ·injection e with e1 _;rw[e1]
   ·exact nomatch e
  ·rcases E5 hb with⟨j,u,rfl,e⟩ | ⟨y,u,rfl,e⟩
   ·exact nomatch e
   ·injection e with e1 _;rw[e1]
 byValue:=fun k v h=>by
  rcases E5 h with⟨i,t,rfl,rfl⟩ | ⟨x,t,rfl,rfl⟩<;>rfl
 pyHash:=fun hv h=>by
  rcases E5 hv with⟨i,t,rfl,rfl⟩ | ⟨x,t,rfl,rfl⟩
  ·exact wpAny_pyHash_int h
  ·exact wpAny_pyHash_str h
 eqBool:=fun hu hv h=>by
  rcases E5 hu with⟨i,t,rfl,rfl⟩ | ⟨x,t,rfl,rfl⟩
  ·rcases E5 hv with⟨j,u,rfl,rfl⟩ | ⟨y,u,rfl,rfl⟩
   ·rw[zBb]at h;exact wpAny_eqBool_int h
   ·rw[zAh]at h;exact SeqAt.EqAt.int_str i t y u _ _ _ _ h
  ·rcases E5 hv with⟨j,u,rfl,rfl⟩ | ⟨y,u,rfl,rfl⟩
   ·rw[Zc]at h;exact SeqAt.EqAt.str_int x t j u _ _ _ _ h
   ·rw[Zl]at h;exact HH h
 «strs»:=fun k x t v h=>by
  rcases E5 h with⟨i,u,rfl,e⟩ | ⟨y,u,rfl,e⟩
  ·exact nomatch e
  ·injection e with e1 _
   subst e1
   cases v<;>rfl
theorem Ii(prog:Program)(w:World)(i:Int)(t:Tok):(C2 prog w).is (.inl i) (.int i t)=true:=Qt i t
theorem Jj(prog:Program)(w:World)(x:Str)(t:Tok):(C2 prog w).is (.inr x) (.str x t)=true:=h9 x t
inductive V where
 | non | bl (b:Bool) | int (i:Int) | str (x:Str) | byt (b:Array UInt8) | flt (b:UInt64) | ref (a:Addr) | ty (n:String)
 deriving DecidableEq
def RelV:V->Value->Prop
 | .non,u=>u=Value.none
 | .bl b,u=>u=Value.bool b
 | .int i,u=>∃t,u=Value.int i t
 | .str x,u=>∃t,u=Value.str x t
 | .byt b,u=>∃t,u=Value.bytes b t
 | .flt b,u=>∃t,u=Value.float b t
 | .ref a,u=>u=Value.ref a
 | .ty n,u=>u=Value.type n
abbrev Vals:List V->List Value->Prop:=Paired RelV
theorem Vals.length{xs:List V}{us:List Value}(r:Vals xs us):xs.length=us.length:=Paired.length r
theorem Vals.get:∀{xs:List V} {us:List Value} {i:Nat} {x:V},Vals xs us->xs[i]?=some x->∃u,us[i]?=some u/\RelV x u
 | _,_,_,_,.nil,e=>by simp at e
 | _,_,0,_,.cons r _,e=>by simp at e;subst e;exact⟨_,rfl,r⟩
 | _,_,i+1,x,.cons _ t,e=>by
  obtain⟨u,h1,h2⟩:=Vals.get (i:=i) (x:=x) t (by simpa using e)
  exact⟨u,by simpa using h1,h2⟩
theorem Vals.set{x:V}{u:Value}(r:RelV x u):∀{xs:List V} {us:List Value} (i:Nat),Vals xs us->Vals (xs.set i x) (us.set i u)
 | _,_,_,.nil=>.nil
 | _,_,0,.cons _ t=>.cons r t
 | _,_,i+1,.cons q t=>.cons q (Vals.set r i t)
theorem Vals.append:∀{xs ys:List V} {us ws:List Value},Vals xs us->Vals ys ws->Vals (xs++ys) (us++ws)
 | _,_,_,_,.nil,s=>s
 | _,_,_,_,.cons r t,s=>.cons r (Vals.append t s)
theorem Vals.take:∀{xs:List V} {us:List Value} (n:Nat),Vals xs us->Vals (xs.take n) (us.take n)
 | _,_,0,_=>.nil
 | _,_,_+1,.nil=>.nil
 | _,_,n+1,.cons r t=>.cons r (Vals.take n t)
theorem Vals.drop:∀{xs:List V} {us:List Value} (n:Nat),Vals xs us->Vals (xs.drop n) (us.drop n)
 | _,_,0,r=>r
 | _,_,_+1,.nil=>.nil
 | _,_,n+1,.cons _ t=>Vals.drop n t
theorem Vals.none_of:∀{xs:List V} {us:List Value} {i:Nat},Vals xs us->xs[i]?=none->us[i]?=none:=fun{xs us i} r e=>by
 have h1:=r.length
 have h2:xs.length<=i:=GK.mp e
 exact GK.mpr (by omega)
def RelO:Option V->Option Value->Prop
 | some v,some u=>RelV v u
 | none,none=>True
 | _,_=>False
def KV{κ:Type}:List (κ×V)->List (κ×Value)->Prop:=Paired fun(p:κ×V) (q:κ×Value)=>p.1=q.1/\RelV p.2 q.2
def kV:Key->V
 | .inl i=>.int i
 | .inr x=>.str x
inductive HO where
 | lst (xs:List V)
 | tup (xs:List V)
 | dK (kvs:List (Key×V)) | dT (kvs:List (List Key×V))
 | set (S:Int->Bool) (n:Nat)
 | ins (C dx:Addr) (fs:List (Str×V))
 | own (x:Addr)
 | xd (fs:List (Str×V))
 | met (f x:Addr)
 | rng (lo hi:Int)
 | frz (o:Obj) (u:HO)
 | tbl (ps:Array Value)
 | ext (φ:Heap->Prop)
set_option genInjectivity false
abbrev Hp:=Addr->Option HO
def upd(H:Hp)(a:Addr)(o:HO):Hp:=fun b=>if b=a then some o else H b
theorem A9{H:Hp}{a:Addr}{o:HO}:upd H a o a=some o:=by unfold upd;rw[AQ rfl]
theorem B7{H:Hp}{a b:Addr}{o:HO}(h:b≠a):upd H a o b=H b:=by unfold upd;rw[AJ h]
theorem T9{H:Hp}{a b:Addr}{o u:HO}(h:H a=some o)(h':H b=some u)(d:o≠u):a≠b:=by
 intro e;subst e;rw[h]at h';exact d (BH h')
theorem B0{H:Hp}{a b:Addr}{o:HO}(h:H a=some o)(h':H b=none):a≠b:=by
 intro e;subst e;rw[h]at h';cases h'
section
variable(P:Program)(w:World)
def ObjOk(H:Hp)(h:Heap)(a:Addr):HO->Prop
 | .lst xs=>xs.length<=sizeLine/\∃(its:List Value) (n:Nat),Vals xs its/\h.get? a=some { cls:=.type "list",data:=.seq its.toArray n }
 | .tup xs=>xs.length<=sizeLine/\∃its:List Value,Vals xs its/\IsTup h a its.toArray
 | .dK kvs=>kvs.length<=sizeLine/\(a == sysModules)=false/\∃vs,KV kvs vs/\h.DictOf (C2 P w) a vs
 | .dT kvs=>kvs.length<=sizeLine/\(a == sysModules)=false/\∃xs:List (List Key×Addr×Value),
   Paired (fun(p:List Key×V) (q:List Key×Addr×Value)=>p.1=q.1/\H q.2.1=some (.tup (p.1.map kV))/\RelV p.2 q.2.2) kvs xs /\
   ∃o es ep,h.get? a=some o/\o.ExactDict/\o.data = .dict es ep/\es.toList=xs.map (entryOfKey (tupleKind (C2 P w)))/\(xs.map (·.1)).Nodup
 | .set S n=>h.SetOf (intKind P w) a S n
 | .ins C dx fs=>H dx=some (.own a)/\fs.length<=1000/\dx≠a/\h.get? a=some (PySem.W.instObj C dx) /\
   ∃mA,h.Ns1 dx mA/\(∀f,RelO (fs.lookup f) (mA f))/\PySem.Within mA (fs.map (·.1))
 | .own _=>∃o,h.get? a=some o
 | .xd fs=>∃mA,h.Ns1 a mA/\∀f,RelO (fs.lookup f) (mA f)
 | .rng lo hi=>∃t u v,h.get? a=some { cls:=.type "range",data:=.fields #[.int lo t,.int hi u,.int 1 v] }
 | .frz o u=>h.get? a=some o/\ObjOk H h a u
 | .tbl ps=>h.get? a=some { cls:=.none,data:=.fields ps }
 | .met f x=>h.get? a=some (PySem.W.methodObj (.ref f) (.ref x))
 | .ext φ=>φ h/\(∃o,h.get? a=some o)/\∀h1 h2:Heap,φ h1->(∀o,h1.get? a=some o->h2.get? a=some o)->φ h2
def HOk(H:Hp)(h:Heap):Prop:=∀a o,H a=some o->ObjOk P w H h a o
end
section
variable{P:Program}{w:World}{H H':Hp}{h h':Heap}{a:Addr}{o:HO}
theorem ObjOk.lt(x:ObjOk P w H h a o):a<h.objs.size:=by
 cases o with
 | lst xs=>obtain⟨_,_,_,_,e⟩:=x;exact AN e
 | tup xs=>obtain⟨_,_,_,p⟩:=x;exact p.lt
 | dK kvs=>obtain⟨_,_,_,_,o,_,_,e,_⟩:=x;exact AN e
 | dT kvs=>obtain⟨_,_,_,_,o,_,_,e,_⟩:=x;exact AN e
 | set S n=>obtain⟨o,_,_,_,e,_⟩:=x;exact AN e
 | ins C dx fs=>obtain⟨_,_,_,e,_⟩:=x;exact AN e
 | own y=>obtain⟨_,e⟩:=x;exact AN e
 | xd fs=>obtain⟨_,⟨_,_,_,e,_⟩,_⟩:=x;exact AN e
 | rng lo hi=>obtain⟨_,_,_,e⟩:=x;exact AN e
 | frz ob u=>obtain⟨e,_⟩:=x;exact AN e
 | tbl ps=>exact AN (show h.get? a=some _ from x)
 | met f y=>exact AN (show h.get? a=some _ from x)
 | ext φ=>obtain⟨_,⟨_,e⟩,_⟩:=x;exact AN e
theorem Paired.mapP{α β:Type}{F G:α->β->Prop}:∀{l₁:List α} {l₂:List β},Paired F l₁ l₂->(∀a b,F a b->G a b)->Paired G l₁ l₂
 | _,_,.nil,_=>.nil
 | _,_,.cons r t,f=>.cons (f _ _ r) (Paired.mapP t f)
theorem ObjOk.stay(x:ObjOk P w H h a o)(k:∀b u,(b=a\/H b=some (.own a))->h.get? b=some u->h'.get? b=some u)
  (ho:∀b,H b=some (.own a)->H' b=some (.own a)) (ht:∀b xs,H b=some (.tup xs)->H' b=some (.tup xs)):ObjOk P w H' h' a o:=by
 induction o with
 | lst xs=>obtain⟨z,its,n,r,e⟩:=x;exact⟨z,its,n,r,k _ _ (.inl rfl) e⟩
 | tup xs=>obtain⟨z,its,r,ob,e,c⟩:=x;exact⟨z,its,r,ob,k _ _ (.inl rfl) e,c⟩
 | dK kvs=>obtain⟨z,y,vs,r,ob,es,ep,e,c⟩:=x;exact⟨z,y,vs,r,ob,es,ep,k _ _ (.inl rfl) e,c⟩
 | dT kvs =>
  obtain⟨z,y,xs,r,ob,es,ep,e,c⟩:=x
  exact⟨z,y,xs,Paired.mapP r fun p q z=>⟨z.1,ht _ _ z.2.1,z.2.2⟩,ob,es,ep,k _ _ (.inl rfl) e,c⟩
 | set S n=>obtain⟨ob,es,ep,t,e,c⟩:=x;exact⟨ob,es,ep,t,k _ _ (.inl rfl) e,c⟩
 | ins C dx fs =>
  obtain⟨d,z,ne,e,mA,⟨od,es,ep,e2,c⟩,r⟩:=x
  exact⟨ho _ d,z,ne,k _ _ (.inl rfl) e,mA,⟨od,es,ep,k _ _ (.inr d) e2,c⟩,r⟩
 | own y=>obtain⟨ob,e⟩:=x;exact⟨ob,k _ _ (.inl rfl) e⟩
 | xd fs=>obtain⟨mA,⟨od,es,ep,e,c⟩,r⟩:=x;exact⟨mA,⟨od,es,ep,k _ _ (.inl rfl) e,c⟩,r⟩
 | rng lo hi=>obtain⟨t,u,v,e⟩:=x;exact⟨t,u,v,k _ _ (.inl rfl) e⟩
 | frz ob u ih=>obtain⟨e,q⟩:=x;exact⟨k _ _ (.inl rfl) e,ih q⟩
 | tbl ps =>
  have e:h.get? a=some { cls:=.none,data:=.fields ps }:=x
  show h'.get? a=some { cls:=.none,data:=.fields ps }
  exact k a _ (.inl rfl) e
 | met f y =>
  have e:h.get? a=some (PySem.W.methodObj (.ref f) (.ref y)):=x
  show h'.get? a=some (PySem.W.methodObj (.ref f) (.ref y))
  exact k a _ (.inl rfl) e
 | ext φ=>obtain⟨p,⟨o,e⟩,st⟩:=x;exact⟨st _ _ p fun o q=>k _ _ (.inl rfl) q,⟨o,k _ _ (.inl rfl) e⟩,st⟩
theorem HOk.lt(x:HOk P w H h)(e:H a=some o):a<h.objs.size:=(x a o e).lt
theorem HOk.fresh(x:HOk P w H h)(e:h.objs.size<=a):H a=none:=by
 cases q:H a with
 | none=>rfl
 | some u=>exact absurd (BM (x.lt q) e) (DE _)
theorem HOk.kept(x:HOk P w H h)(k:∀b u,h.get? b=some u->h'.get? b=some u):HOk P w H h':=fun a o e =>
 (x a o e).stay (fun b u _ q=>k b u q) (fun _ q=>q) fun _ _ q=>q
theorem HOk.laid(x:HOk P w H h)(k:∀b u,h.get? b=some u->h'.get? b=some u)(hp:h.objs.size<=a)(new:ObjOk P w (upd H a o) h' a o):HOk P w (upd H a o) h':=fun b u e=>by
 have hn:=x.fresh hp
 by_cases hb:b=a
 ·subst hb;rw[A9]at e;cases e;exact new
 ·rw[B7 hb]at e
  exact(x b u e).stay (fun c v _ q=>k c v q) (fun c q=>by rw[B7 (B0 q hn)];exact q) fun c xs q=>by rw[B7 (B0 q hn)];exact q
end
def Rd(H:Hp)(a:Addr)(u:HO):Prop:=H a=some u\/∃o,H a=some (.frz o u)
theorem Rd.ok{P:Program}{w:World}{H:Hp}{h:Heap}{a:Addr}{u:HO}(r:Rd H a u)(x:HOk P w H h):ObjOk P w H h a u:=by
 rcases r with r | ⟨o,r⟩
 ·exact x a u r
 ·obtain⟨_,q⟩:=x a _ r
  exact q
def Mut:Option HO->Prop
 | some (.lst _)=>True
 | some (.dK _)=>True
 | some (.dT _)=>True
 | some (.set _ _)=>True
 | some (.ins _ _ _)=>True
 | some (.ext _)=>True
 | _=>False
section
variable{P:Program}{w:World}{H:Hp}{h h':Heap}{x e:Addr}{o':HO}
theorem HOk.write(ok:HOk P w H h)(mu:Mut (H x))(he:e=x\/H e=some (.own x))(k:∀b u,b≠e->h.get? b=some u->h'.get? b=some u)(heo:∃u,h'.get? e=some u)
  (new:ObjOk P w (upd H x o') h' x o'):HOk P w (upd H x o') h':=fun b u q=>by
 have nown:∀c y,H c=some (.own y)->c≠x:=fun c y r z=>by subst z;rw[r]at mu;exact mu
 have ntup:∀c xs,H c=some (.tup xs)->c≠x:=fun c xs r z=>by subst z;rw[r]at mu;exact mu
 by_cases hb:b=x
 ·subst hb;rw[A9]at q;cases q;exact new
 ·rw[B7 hb]at q
  by_cases hbe:b=e
  ·have q':H b=some (.own x):=by
    rcases he with z | z
    ·exact absurd (hbe.trans z) hb
    ·rw[hbe];exact z
   rw[q]at q';cases q'
   obtain⟨v,hv⟩:=heo
   exact⟨v,by rw[hbe];exact hv⟩
  ·refine(ok b u q).stay (fun c v hc r=>k c v ?_ r) (fun c r=>by rw[B7 (nown c b r)];exact r) fun c xs r=>by rw[B7 (ntup c xs r)];exact r
   rcases hc with rfl | hc
   ·exact hbe
   ·rintro rfl
    rcases he with z | z
    ·exact nown c b hc z
    ·rw[hc]at z;cases z;exact hb rfl
end
structure Un(fs ex:List Addr)(H H':Hp)(h h':Heap):Prop where
 keep:∀b o,h.get? b=some o->H b=none->b∉fs->b∉ex->h'.get? b=some o
 slot:∀b o,h.get? b=some o->H b=none->b∈fs->b∉ex->∃sl,h'.get? b=some { o with slots:=sl }
 free:∀b o,h.get? b=some o->H b=none->b∉ex->H' b=none
 there:∀b o,h.get? b=some o->b∉ex->∃o',h'.get? b=some o'
 tups:∀b xs,H b=some (.tup xs)->H' b=some (.tup xs)
 frzs:∀b o u,H b=some (.frz o u)->H' b=some (.frz o u)
 tbls:∀b ps,H b=some (.tbl ps)->∃more,H' b=some (.tbl (ps++more))
section
variable{fs fs' ex ex':List Addr}{H H1 H2:Hp}{h h1 h2 h':Heap}{a x e:Addr}{o:HO}
theorem Un.any(u:Un fs ex H H1 h h1){b:Addr}{ob:Obj}(q:h.get? b=some ob)(n:H b=none)(hx:b∉ex):∃sl,h1.get? b=some { ob with slots:=sl }:=by
 by_cases hb:b∈fs
 ·exact u.slot b ob q n hb hx
 ·exact⟨ob.slots,u.keep b ob q n hb hx⟩
theorem Un.kept(k:∀b u,h.get? b=some u->h'.get? b=some u):Un fs ex H H h h' :=
 ⟨fun b ob q _ _ _=>k b ob q,fun b ob q _ _ _=>⟨ob.slots,k b ob q⟩,fun _ _ _ n _=>n,fun b ob q _=>⟨ob,k b ob q⟩,fun _ _ q=>q,fun _ _ _ q=>q,fun _ ps q=>⟨#[],by rw[q];simp⟩⟩
theorem Un.refl:Un fs ex H H h h:=Un.kept fun _ _ q=>q
theorem Un.laid(k:∀b u,h.get? b=some u->h'.get? b=some u)(hp:h.objs.size<=a)(hn:H a=none):Un fs ex H (upd H a o) h h' where
 keep:=fun b u q _ _ _=>k b u q
 slot:=fun b u q _ _ _=>⟨u.slots,k b u q⟩
 free:=fun b u q n _=>by rw[B7 (BF (BM (AN q) hp))];exact n
 there:=fun b u q _=>⟨u,k b u q⟩
 tups:=fun b xs q=>by rw[B7 (B0 q hn)];exact q
 frzs:=fun b u xs q=>by rw[B7 (B0 q hn)];exact q
 tbls:=fun b ps q=>⟨#[],by rw[B7 (B0 q hn),q];simp⟩
theorem Un.write(mu:Mut (H x))(he:e=x\/H e=some (.own x))(k:∀b u,b≠e->h.get? b=some u->h'.get? b=some u)(heo:∃u,h'.get? e=some u):Un fs ex H (upd H x o) h h':=by
 have hx:∀b,H b=none->b≠x:=fun b n z=>by subst z;rw[n]at mu;exact mu
 have hb:∀b,H b=none->b≠e:=fun b n z=>by
  subst z
  rcases he with r | r
  ·exact hx b n r
  ·rw[n]at r;cases r
 have hm:∀b u,H b=some u->¬Mut (some u)->b≠x:=fun b u q nm z=>by subst z;rw[q]at mu;exact nm mu
 refine⟨fun b u q n _ _=>k b u (hb b n) q,fun b u q n _ _=>⟨u.slots,k b u (hb b n) q⟩,fun b u q n _=>by rw[B7 (hx b n)];exact n,fun b u q _=>?_,
  fun b xs q=>by rw[B7 (hm b _ q fun z=>z)];exact q,fun b u xs q=>by rw[B7 (hm b _ q fun z=>z)];exact q,fun b ps q=>⟨#[],by rw[B7 (hm b _ q fun z=>z),q];simp⟩⟩
 by_cases hbe:b=e
 ·subst hbe;exact heo
 ·exact⟨u,k b u hbe q⟩
end
def trk(h:Heap)(H:Hp):List Addr:=(List.range h.objs.size).filter fun a=>(H a).isSome
def Tf(h:Heap)(H:Hp):Heap:=PySem.W.hideAll h (trk h H)
theorem Pb(h:Heap)(H:Hp):(Tf h H).objs.size=h.objs.size:=PySem.W.hideAll_size _ _
theorem Tv{h:Heap}{H:Hp}{b:Addr}{o:Obj}(e:h.get? b=some o)(n:H b=none):(Tf h H).get? b=some o :=
 PySem.W.hideAll_get _ e fun hm=>by
  have q:(H b).isSome=true:=(AL.mp hm).2
  rw[n]at q;simp at q
theorem Xi{h:Heap}{H:Hp}{b:Addr}{o:Obj}(e:(Tf h H).get? b=some o):h.get? b=some o/\H b=none:=by
 have e':h.get? b=some o:=PySem.W.of_hideAll (trk h H) e
 refine⟨e',?_⟩
 cases q:H b with
 | none=>rfl
 | some x =>
  have hm:b∈trk h H:=AL.mpr ⟨B_.mpr (AN e'),by simp[q]⟩
  have z:(Tf h H).get? b=none:=PySem.W.hideAll_none (trk h H) hm
  rw[z]at e;cases e
structure Mod(K:PySem.W.Frag)(mg:Str->Option Value)(base:Heap):Prop where
 kin:K.In base
 glob:base.Ns mainGlobals mg
 blt:∃mb,base.Ns builtinsNs mb/\∀x:Str,x≠ "__name__"->mb x=bootBuiltins x
 nolimit:base.NoLimit
structure Cx where
 prog:Program
 w:World
 K:PySem.W.Frag
 mg:Str->Option Value
 base:Heap
 A:Around
 N:List Str
 s₀:Shared
 H₀:Hp
 env:Env
 outer:List Env
 stack:List Env
 ex:List Addr
 fn:Str->Bool
 calm:Bool
 pn:List (Addr×Obj)
 xe:Value->Shared->Prop
def frs(l:List Env):List Addr:=l.filterMap (·.frame)
abbrev Cx.fs(X:Cx):List Addr:=frs X.outer
def Vis(sc:Scope)(x:Str):Prop:=sc.names.lookup x=some .local\/sc.names.lookup x=some .cell\/sc.names.lookup x=some .free
def Loc(sc:Scope)(x:Str):Prop:=sc.names.lookup x=some .local\/sc.names.lookup x=some .cell
def zEn(env:Env)(h:Heap)(m:Str->Option Value)(x:Str)(u:Value):Prop :=
 (env.kindOf x=some .local/\m x=some u)\/((env.kindOf x=some .cell\/env.kindOf x=some .free)/\∃c,env.cells.lookup x=some c/\h.IsCell c (some u))
structure Cx.Ok(X:Cx):Prop where
 mod:Mod X.K X.mg X.base
 kind:X.env.scope.kind = .function
 glob:X.env.globals=mainGlobals
 blt:X.env.builtins=builtinsNs
 above:X.s₀.heap.objs.size<=X.env.locals
 inj:∀x y c,X.env.cells.lookup x=some c->X.env.cells.lookup y=some c->x=y
 has:∀x,(X.env.kindOf x=some .cell\/X.env.kindOf x=some .free)->∃c,X.env.cells.lookup x=some c
 cab:∀x c,X.fn x=true->X.env.cells.lookup x=some c->X.s₀.heap.objs.size<=c
 hd:X.calm=true->X.A.handled=none
 frames:X.A.frames=some X.stack
 stk:X.stack=X.outer\/(X.stack=X.env::X.outer/\X.env.frame=some X.env.locals)
 exf:∀b∈X.ex,b≠X.env.locals/\∀x c,X.env.cells.lookup x=some c->c≠b
 bs:∀b o,X.base.get? b=some o->X.s₀.heap.get? b=some o/\X.H₀ b=none
 bsz:X.base.objs.size<=X.s₀.heap.objs.size
 noex:∀b o,X.base.get? b=some o->b∉X.ex
 exfs:∀b∈X.ex,b∉X.fs
 funs:X.s₀.heap.FunFrames X.base X.outer
 frf:∀b∈X.fs,X.H₀ b=none
structure Inv(X:Cx)(pins:List (Addr×Obj))(σ:List (Option V))(H:Hp)(s:Shared):Prop where
 ok:X.Ok
 os:s.os=X.s₀.os
 bare:AllBare s.gens
 base:Un X.fs X.ex X.H₀ H X.s₀.heap s.heap
 loc:∃m,s.heap.Ns X.env.locals m/\∀(i:Nat) (x:Str) (v:V),X.N[i]?=some x->σ[i]?=some (some v)->Vis X.env.scope x->∃u,RelV v u/\zEn X.env s.heap m x u
 cell:∀x c,X.env.cells.lookup x=some c->∃v,s.heap.IsCell c v
 free:H X.env.locals=none
 freeC:∀x c,X.env.cells.lookup x=some c->H c=none
 pin:∀p∈X.pn++pins,s.heap.get? p.1=some p.2/\H p.1=none/\p.1≠X.env.locals/\p.1∉X.fs/\∀v,p.2.data≠ .cell v
 hok:HOk X.prog X.w H s.heap
 len:σ.length=X.N.length
section
variable{X:Cx}{pins:List (Addr×Obj)}{σ:List (Option V)}{H H':Hp}{s:Shared}{h':Heap}
theorem Cx.Ok.nofr(ok:X.Ok){b:Addr}{o:Obj}(e:X.base.get? b=some o):b∉X.fs:=fun hb=>by
 have:=(ok.funs.mem hb).1
 rw[e]at this;cases this
theorem Inv.bs(I:Inv X pins σ H s):∀b o,X.base.get? b=some o->s.heap.get? b=some o/\H b=none:=fun b o e =>
 ⟨I.base.keep b o (I.ok.bs b o e).1 (I.ok.bs b o e).2 (I.ok.nofr e) (I.ok.noex b o e),I.base.free b o (I.ok.bs b o e).1 (I.ok.bs b o e).2 (I.ok.noex b o e)⟩
theorem Inv.bk(I:Inv X pins σ H s):∀b o,X.base.get? b=some o->s.heap.get? b=some o:=fun b o e=>(I.bs b o e).1
theorem Inv.mod(I:Inv X pins σ H s):Mod X.K X.mg X.base:=I.ok.mod
theorem Inv.kIn(I:Inv X pins σ H s):X.K.In s.heap:=I.ok.mod.kin.keeps I.bk
theorem Inv.lt(I:Inv X pins σ H s):X.env.locals<s.heap.objs.size:=let⟨_,hn,_⟩:=I.loc;hn.lt
theorem Inv.sz(I:Inv X pins σ H s):X.s₀.heap.objs.size<=s.heap.objs.size:=Nat.le_trans I.ok.above (EY I.lt)
theorem Inv.nofs(I:Inv X pins σ H s){a:Addr}(h:s.heap.objs.size<=a):a∉X.fs:=fun hb=>by
 obtain⟨_,o,ho,_⟩:=I.ok.funs.mem hb
 exact absurd (BM (AN ho) (Nat.le_trans I.sz h)) (DE _)
theorem Inv.cne(I:Inv X pins σ H s):∀x c,X.env.cells.lookup x=some c->c≠X.env.locals:=fun x c e z=>by
 obtain⟨v,o,ho,hd⟩:=I.cell x c e
 obtain⟨m,⟨o',es,ep,ho',hd',_⟩,_⟩:=I.loc
 rw[z,ho']at ho;cases ho;rw[hd']at hd;cases hd
theorem Inv.funs(I:Inv X pins σ H s):s.heap.FunFrames X.base X.outer:=by
 have all:∀(l:List Env),(∀b∈frs l,b∈X.fs)->X.s₀.heap.FunFrames X.base l->s.heap.FunFrames X.base l:=by
  intro l
  induction l with
  | nil=>intro _ _;trivial
  | cons env r ih =>
   intro hs hl
   obtain⟨hk,⟨L,o,hf,hn,ho,hd⟩,hr⟩:=hl
   have hL:L∈X.fs:=hs L (by unfold frs;rw[EV,hf];exact AU)
   obtain⟨sl,e⟩:=I.base.slot L o ho (I.ok.frf L hL) hL fun z=>I.ok.exfs L z hL
   exact⟨hk,⟨L,_,hf,hn,e,hd⟩,ih (fun b hb=>hs b (by unfold frs;rw[EV,hf];exact AM _ hb)) hr⟩
 exact all X.outer (fun _ hb=>hb) I.ok.funs
theorem Inv.stack(I:Inv X pins σ H s):s.heap.FunFrames X.base X.stack:=by
 rcases I.ok.stk with e | ⟨e,hf⟩
 ·rw[e];exact I.funs
 ·rw[e]
  obtain⟨m,hn,_⟩:=I.loc
  refine .cons (by rw[I.ok.kind];decide) hf hn ?_ I.funs
  exact Heap.get?_none_of_le (Nat.le_trans I.ok.bsz I.ok.above)
theorem Inv.stkSub(I:Inv X pins σ H s):∀b∈frs X.stack,b∈X.env.locals::X.fs:=fun b hb=>by
 rcases I.ok.stk with e | ⟨e,hf⟩
 ·rw[e]at hb;exact AM _ hb
 ·rw[e]at hb
  unfold frs at hb
  rw[EV,hf]at hb
  exact hb
theorem Inv.stkFree(I:Inv X pins σ H s):∀b∈frs X.stack,H b=none:=fun b hb=>by
 rcases BD.mp (I.stkSub b hb)with e | hb
 ·rw[e];exact I.free
 ·obtain⟨_,o,ho,_⟩:=I.ok.funs.mem hb
  exact I.base.free b o ho (I.ok.frf b hb) fun z=>I.ok.exfs b z hb
theorem Inv.step{g':Array GenState}{t':Nat}{d':Drawn}{ch:List Addr}(I:Inv X pins σ H s)
  (hch:∀b∈ch,(b∈X.ex\/X.s₀.heap.objs.size<=b)/\b≠X.env.locals/\(∀x c,X.env.cells.lookup x=some c->c≠b)/\∀p∈X.pn++pins,p.1≠b)
  (keep:∀b o,b≠X.env.locals->b∉X.fs->b∉ch->s.heap.get? b=some o->H b=none->h'.get? b=some o)
  (slot:∀b o,b≠X.env.locals->b∈X.fs->b∉ch->s.heap.get? b=some o->H b=none->∃sl,h'.get? b=some { o with slots:=sl }) (free:∀b o,b∉ch->s.heap.get? b=some o->H b=none->H' b=none)
  (there:∀b o,b∉ch->s.heap.get? b=some o->∃o',h'.get? b=some o')
  (tups:∀b xs,H b=some (.tup xs)->H' b=some (.tup xs)) (frzs:∀b o u,H b=some (.frz o u)->H' b=some (.frz o u)) (tbls:∀b ps,H b=some (.tbl ps)->∃more,H' b=some (.tbl (ps++more)))
  (ns:∀m,s.heap.Ns X.env.locals m->h'.Ns X.env.locals m) (hok:HOk X.prog X.w H' h') (hg:AllBare g') :
  Inv X pins σ H' { s with heap:=h',gens:=g',drawn:=d',toks:=t' }:=by
 have neL:∀b o,X.s₀.heap.get? b=some o->b≠X.env.locals:=fun b o e=>BF (BM (AN e) I.ok.above)
 have neC:∀b o,X.s₀.heap.get? b=some o->b∉X.ex->b∉ch:=fun b o e hx hb=>by
  rcases(hch b hb).1 with z | z
  ·exact hx z
  ·exact absurd (BM (AN e) z) (DE _)
 have cellK:∀x c,X.env.cells.lookup x=some c->∀v,s.heap.IsCell c v->h'.IsCell c v:=fun x c e v ⟨o,ho,hd⟩=>by
  have nch:c∉ch:=fun z=>(hch c z).2.2.1 x c e rfl
  by_cases hc:c∈X.fs
  ·obtain⟨sl,q⟩:=slot c o (I.cne x c e) hc nch ho (I.freeC x c e)
   exact⟨_,q,hd⟩
  ·exact⟨o,keep c o (I.cne x c e) hc nch ho (I.freeC x c e),hd⟩
 refine⟨I.ok,I.os,hg,⟨fun b o e n hb hx=>?_,fun b o e n hb hx=>?_,fun b o e n hx=>?_,fun b o e hx=>?_,fun b xs e=>tups b xs (I.base.tups b xs e),fun b o xs e=>frzs b o xs (I.base.frzs b o xs e),fun b ps e=>?_⟩,?_,fun x c e=>?_,?_,fun x c e=>?_,fun p hp=>?_,hok,I.len⟩
 ·exact keep b o (neL b o e) hb (neC b o e hx) (I.base.keep b o e n hb hx) (I.base.free b o e n hx)
 ·obtain⟨sl,e1⟩:=I.base.slot b o e n hb hx
  obtain⟨sl',e2⟩:=slot b _ (neL b o e) hb (neC b o e hx) e1 (I.base.free b o e n hx)
  exact⟨sl',e2⟩
 ·obtain⟨o',e1⟩:=I.base.there b o e hx
  exact free b o' (neC b o e hx) e1 (I.base.free b o e n hx)
 ·obtain⟨o',e1⟩:=I.base.there b o e hx
  exact there b o' (neC b o e hx) e1
 ·obtain⟨m1,e1⟩:=I.base.tbls b ps e
  obtain⟨m2,e2⟩:=tbls b _ e1
  exact⟨m1++m2,by rw[e2,Array.append_assoc]⟩
 ·obtain⟨m,hn,hl⟩:=I.loc
  refine⟨m,ns m hn,fun i x v e1 e2 e3=>?_⟩
  obtain⟨u,r,l⟩:=hl i x v e1 e2 e3
  refine⟨u,r,?_⟩
  rcases l with l | ⟨k,c,e,z⟩
  ·exact .inl l
  ·exact .inr ⟨k,c,e,cellK x c e _ z⟩
 ·obtain⟨v,z⟩:=I.cell x c e
  exact⟨v,cellK x c e v z⟩
 ·obtain⟨m,⟨o,_,_,ho,_⟩,_⟩:=I.loc
  exact free _ o (fun z=>(hch _ z).2.1 rfl) ho I.free
 ·obtain⟨v,o,ho,hd⟩:=I.cell x c e
  exact free c o (fun z=>(hch c z).2.2.1 x c e rfl) ho (I.freeC x c e)
 ·obtain⟨e,n,ne,nf,d⟩:=I.pin p hp
  have nch:p.1∉ch:=fun z=>(hch p.1 z).2.2.2 p hp rfl
  exact⟨keep p.1 p.2 ne nf nch e n,free p.1 p.2 nch e n,ne,nf,d⟩
theorem Inv.un{t':Nat}(I:Inv X pins σ H s)(u:Un X.fs [] H H' s.heap h')(hok:HOk X.prog X.w H' h'):Inv X pins σ H' { s with heap:=h',toks:=t' }:=by
 obtain⟨m,⟨o,es,ep,ho,r⟩,_⟩:=id I.loc
 obtain⟨sl,hL⟩:=u.any ho I.free (by simp)
 exact I.step (g':=s.gens) (d':=s.drawn) (ch:=[]) (fun _ z=>nomatch z) (fun b o _ hb _ e n=>u.keep b o e n hb (by simp)) (fun b o _ hb _ e n=>u.slot b o e n hb (by simp)) (fun b o _ e n=>u.free b o e n (by simp)) (fun b o _ e=>u.there b o e (by simp)) u.tups u.frzs u.tbls (fun m' hm=>by
  obtain⟨o',es',ep',ho',r'⟩:=hm
  rw[ho]at ho';cases ho'
  exact⟨_,es',ep',hL,r'⟩) hok I.bare
theorem Inv.call{g':Array GenState}{t':Nat}{d':Drawn}{ch:List Addr}(I:Inv X pins σ H s)(u:Un (frs X.stack) ch H H' s.heap h')(hok:HOk X.prog X.w H' h')(hg:AllBare g')
  (hch:∀b∈ch,(b∈X.ex\/X.s₀.heap.objs.size<=b)/\b≠X.env.locals/\(∀x c,X.env.cells.lookup x=some c->c≠b)/\∀p∈X.pn++pins,p.1≠b) :
  Inv X pins σ H' { s with heap:=h',gens:=g',drawn:=d',toks:=t' }:=by
 obtain⟨m,⟨o,es,ep,ho,r⟩,_⟩:=id I.loc
 obtain⟨sl,hL⟩:=u.any ho I.free fun z=>(hch _ z).2.1 rfl
 exact I.step (ch:=ch) hch (fun b o hL hb hc e n=>u.keep b o e n (fun z=>(BD.mp (I.stkSub b z)).elim hL hb) hc) (fun b o _ _ hc e n=>u.any e n hc) (fun b o hc e n=>u.free b o e n hc) (fun b o hc e=>u.there b o e hc) u.tups u.frzs u.tbls (fun m' hm=>by
  obtain⟨o',es',ep',ho',r'⟩:=hm
  rw[ho]at ho';cases ho'
  exact⟨_,es',ep',hL,r'⟩) hok hg
theorem Inv.turned{t':Nat}{it:Addr}(I:Inv X pins σ H s)(k:∀b o,b≠it->s.heap.get? b=some o->h'.get? b=some o)(hn:H it=none)(hL:it≠X.env.locals)
  (h1:it∈X.ex\/X.s₀.heap.objs.size<=it) (h2:∀x c,X.env.cells.lookup x=some c->c≠it) (h3:∀p∈X.pn++pins,p.1≠it):Inv X pins σ H { s with heap:=h',toks:=t' }:=by
 have nit:∀b u,H b=some u->b≠it:=fun b u e z=>by rw[z,hn]at e;cases e
 refine I.step (g':=s.gens) (d':=s.drawn) (ch:=[it]) (fun b hb=>?_) (fun b o _ _ hc e _=>k b o (fun z=>hc (by simp[z])) e) (fun b o _ _ hc e _=>⟨o.slots,k b o (fun z=>hc (by simp[z])) e⟩) (fun _ _ _ _ n=>n)
  (fun b o hc e=>⟨o,k b o (fun z=>hc (by simp[z])) e⟩) (fun _ _ e=>e) (fun _ _ _ e=>e) (fun b ps e=>⟨#[],by rw[e];simp⟩) (fun m hm=>?_) (fun b u e=>?_) I.bare
 ·have e:b=it:=by simpa using hb
  subst e
  exact⟨h1,hL,h2,h3⟩
 ·obtain⟨o,es,ep,ho,r⟩:=hm
  exact⟨o,es,ep,k _ o (Ne.symm hL) ho,r⟩
 ·refine(I.hok b u e).stay (fun c v hc q=>k c v ?_ q) (fun _ q=>q) fun _ _ q=>q
  rcases hc with z | z
  ·rw[z];exact nit b u e
  ·exact nit c _ z
theorem Inv.tok(I:Inv X pins σ H s)(t:Nat):Inv X pins σ H { s with toks:=t }:=I.un (h':=s.heap) (t':=t) Un.refl I.hok
theorem Inv.kept{t':Nat}(I:Inv X pins σ H s)(k:∀b u,s.heap.get? b=some u->h'.get? b=some u):Inv X pins σ H { s with heap:=h',toks:=t' }:=I.un (Un.kept k) (I.hok.kept k)
theorem Inv.laid{a:Addr}{o:HO}{t':Nat}(I:Inv X pins σ H s)(k:∀b u,s.heap.get? b=some u->h'.get? b=some u)(hp:s.heap.objs.size<=a)(new:ObjOk X.prog X.w (upd H a o) h' a o) :
  Inv X pins σ (upd H a o) { s with heap:=h',toks:=t' }:=I.un (Un.laid k hp (I.hok.fresh hp)) (I.hok.laid k hp new)
theorem Inv.write{x e:Addr}{o:HO}{t':Nat}(I:Inv X pins σ H s)(mu:Mut (H x))(he:e=x\/H e=some (.own x))(k:∀b u,b≠e->s.heap.get? b=some u->h'.get? b=some u)(heo:∃u,h'.get? e=some u)
  (new:ObjOk X.prog X.w (upd H x o) h' x o):Inv X pins σ (upd H x o) { s with heap:=h',toks:=t' }:=I.un (Un.write mu he k heo) (I.hok.write mu he k heo new)
theorem Inv.pins_of{pins':List (Addr×Obj)}(I:Inv X pins σ H s)(h:∀p∈pins',s.heap.get? p.1=some p.2/\H p.1=none/\p.1≠X.env.locals/\p.1∉X.fs/\∀v,p.2.data≠ .cell v):Inv X pins' σ H s :=
 ⟨I.ok,I.os,I.bare,I.base,I.loc,I.cell,I.free,I.freeC,fun p hp=>(AV.mp hp).elim (fun z=>I.pin p (FM _ z)) (h p),I.hok,I.len⟩
theorem Kh{N:List Str}(hN:N.Nodup){i j:Nat}{x:Str}(a:N[i]?=some x)(b:N[j]?=some x):i=j:=by
 obtain⟨h1,e1⟩:=AG.mp a
 obtain⟨h2,e2⟩:=AG.mp b
 exact(List.getElem_inj hN).mp (e1.trans e2.symm)
theorem Fs{M:Model}{A:Around}{E:Value->Shared->Prop}{i:Nat}{x:Str}{v:V}{u:Value}{Q:Unit->Shared->Prop}(I:Inv X pins σ H s)(hN:X.N.Nodup)(hi:X.N[i]?=some x)(hx:Loc X.env.scope x)(r:RelV v u)
  (h:∀s',Inv X pins (σ.set i (some v)) H s'->(∃a,Heap.SameBut a s.heap s'.heap/\(a=X.env.locals\/X.env.cells.lookup x=some a))->Q () s') (hf:X.fn x=true\/X.env.scope.names.lookup x=some .local:=by first | exact .inl rfl | exact .inr rfl | assumption):wpAny M A (storeName X.env x u) Q E s:=by
 obtain⟨m,hn,hl⟩:=id I.loc
 have hcls:(X.env.scope.kind == .class||(X.env.scope.kind == .module&&X.env.locals != X.env.globals))=false:=by rw[I.ok.kind];rfl
 have hiσ:i<σ.length:=by rw[I.len];exact(AG.mp hi).1
 have cne:=I.cne
 have tracked:∀{a:Addr} {h':Heap},(∃o,s.heap.get? a=some o/\H a=none)->Heap.SameBut a s.heap h'->HOk X.prog X.w H h':=fun{a h'} ha hs b ob e=>by
  obtain⟨_,_,hfree⟩:=ha
  refine(I.hok b ob e).stay (fun c w' hc q=>(hs.2 c ?_).trans q) (fun _ q=>q) fun _ _ q=>q
  rintro rfl
  rcases hc with rfl | hc
  ·rw[hfree]at e;cases e
  ·rw[hfree]at hc;cases hc
 rcases hx with hk | hk
 ·refine wpAny_storeName_local hk hn (fun h' hn' hs=>?_) hcls
  obtain⟨oL,_,_,hoL,_⟩:=id hn
  refine h _ ⟨I.ok,I.os,I.bare,⟨fun b o e n hb hx=>?_,fun b o e n hb hx=>?_,I.base.free,fun b o e hx=>?_,I.base.tups,I.base.frzs,I.base.tbls⟩,⟨_,hn',fun j y v' e1 e2 e3=>?_⟩,fun y c e=>?_,I.free,I.freeC,fun p hp=>?_,tracked ⟨oL,hoL,I.free⟩ hs,by simpa using I.len⟩ ⟨_,hs,.inl rfl⟩
  ·exact(hs.2 b (BF (BM (AN e) I.ok.above))).trans (I.base.keep b o e n hb hx)
  ·obtain⟨sl,e1⟩:=I.base.slot b o e n hb hx
   exact⟨sl,(hs.2 b (BF (BM (AN e) I.ok.above))).trans e1⟩
  ·obtain⟨o',e1⟩:=I.base.there b o e hx
   exact⟨o',(hs.2 b (BF (BM (AN e) I.ok.above))).trans e1⟩
  ·by_cases hj:j=i
   ·subst hj
    rw[hi]at e1;cases e1
    rw[List.getElem?_set_self hiσ]at e2
    cases e2
    exact⟨u,r,.inl ⟨hk,by simp⟩⟩
   ·rw[List.getElem?_set_ne (Ne.symm hj)]at e2
    obtain⟨u',r',q⟩:=hl j y v' e1 e2 e3
    refine⟨u',r',?_⟩
    rcases q with⟨k,e⟩ | ⟨k,c,e,z⟩
    ·refine .inl ⟨k,?_⟩
     have:y≠x:=fun e=>hj (Kh hN e1 (e▸hi))
     simp[this,e]
    ·exact .inr ⟨k,c,e,z.sameBut hs (cne y c e)⟩
  ·obtain⟨w',z⟩:=I.cell y c e
   exact⟨w',z.sameBut hs (cne y c e)⟩
  ·obtain⟨e,n,ne,nf,d⟩:=I.pin p hp
   exact⟨(hs.2 p.1 ne).trans e,n,ne,nf,d⟩
 ·have hfn:X.fn x=true:=by
   rcases hf with z | z
   ·exact z
   ·rw[z]at hk;cases hk
  obtain⟨c,hc⟩:=I.ok.has x (.inl hk)
  obtain⟨w',z⟩:=I.cell x c hc
  refine wpAny_storeName_cell I.ok.kind hk hc z (fun h' hc' hs=>?_)
  obtain⟨oc,hoc,hocd⟩:=id z
  refine h { s with heap:=h' } ⟨I.ok,I.os,I.bare,⟨fun b o e n hb hx=>?_,fun b o e n hb hx=>?_,I.base.free,fun b o e hx=>?_,I.base.tups,I.base.frzs,I.base.tbls⟩,⟨m,hn.sameBut hs (Ne.symm (cne x c hc)),fun j y v' e1 e2 e3=>?_⟩,fun y c' e=>?_,I.free,I.freeC,fun p hp=>?_,tracked ⟨oc,hoc,I.freeC x c hc⟩ hs,by simpa using I.len⟩ ⟨c,hs,.inr hc⟩
  ·exact(hs.2 b (BF (BM (AN e) (I.ok.cab x c hfn hc)))).trans (I.base.keep b o e n hb hx)
  ·obtain⟨sl,e1⟩:=I.base.slot b o e n hb hx
   exact⟨sl,(hs.2 b (BF (BM (AN e) (I.ok.cab x c hfn hc)))).trans e1⟩
  ·obtain⟨o',e1⟩:=I.base.there b o e hx
   exact⟨o',(hs.2 b (BF (BM (AN e) (I.ok.cab x c hfn hc)))).trans e1⟩
  ·by_cases hj:j=i
   ·subst hj
    rw[hi]at e1;cases e1
    rw[List.getElem?_set_self hiσ]at e2
    cases e2
    exact⟨u,r,.inr ⟨.inl hk,c,hc,hc'⟩⟩
   ·rw[List.getElem?_set_ne (Ne.symm hj)]at e2
    obtain⟨u',r',q⟩:=hl j y v' e1 e2 e3
    refine⟨u',r',?_⟩
    rcases q with q | ⟨k,c',e,z'⟩
    ·exact .inl q
    ·refine .inr ⟨k,c',e,z'.sameBut hs ?_⟩
     rintro rfl
     exact hj (Kh hN e1 (I.ok.inj _ _ _ e hc▸hi))
  ·by_cases hcc:c'=c
   ·subst hcc;exact⟨_,hc'⟩
   ·obtain⟨w2,z2⟩:=I.cell y c' e
    exact⟨w2,z2.sameBut hs hcc⟩
  ·obtain⟨e,n,ne,nf,d⟩:=I.pin p hp
   refine⟨(hs.2 p.1 ?_).trans e,n,ne,nf,d⟩
   intro q
   rw[q,hoc]at e
   have q':oc=p.2:=BH e
   exact d w' (by rw[<-q'];exact hocd)
theorem Ex{M:Model}{A:Around}{E:Value->Shared->Prop}{i:Nat}{x:Str}{v:V}{u:Value}{Q:Unit->Shared->Prop}(I:Inv X pins σ H s)(hN:X.N.Nodup)(hi:X.N[i]?=some x)(hx:Loc X.env.scope x)(r:RelV v u)
  (h:∀s',Inv X pins (σ.set i (some v)) H s'->Q () s') (hf:X.fn x=true\/X.env.scope.names.lookup x=some .local:=by first | exact .inl rfl | exact .inr rfl | assumption):wpAny M A (storeName X.env x u) Q E s :=
 Fs I hN hi hx r (fun s' I' _=>h s' I') hf
theorem Inv.call'{s':Shared}{ch:List Addr}(I:Inv X pins σ H s)(ho:s'.os=s.os)(u:Un (frs X.stack) ch H H' s.heap s'.heap)(hok:HOk X.prog X.w H' s'.heap)(hg:AllBare s'.gens)
  (hch:∀b∈ch,(b∈X.ex\/X.s₀.heap.objs.size<=b)/\b≠X.env.locals/\(∀x c,X.env.cells.lookup x=some c->c≠b)/\∀p∈X.pn++pins,p.1≠b):Inv X pins σ H' s':=by
 obtain⟨h',g',d',t',o'⟩:=s'
 have e:o'=s.os:=ho
 subst e
 exact I.call (g':=g') (t':=t') (d':=d') u hok hg hch
end
abbrev XK:=Value->Option Addr->Hp->Prop
abbrev St:=List (Option V)
abbrev VK:=V->Hp->Prop
abbrev TE:=St->Hp->VK->Prop
abbrev TT:=St->Hp->(Bool->Hp->Prop)->Prop
abbrev TA:=St->Hp->(List V->Hp->Prop)->Prop
structure Ends where
 nx:St->Hp->Prop
 rt:VK
 bk:St->Hp->Prop:=fun _ _=>False
 ct:St->Hp->Prop:=fun _ _=>False
abbrev TS:=Ends->St->Hp->Prop
def EP(X:Cx)(pins:List (Addr×Obj))(σ:St)(Q:VK)(u:Value)(s':Shared):Prop:=∃v H',Inv X pins σ H' s'/\RelV v u/\Q v H'
def TP(X:Cx)(pins:List (Addr×Obj))(σ:St)(Q:Bool->Hp->Prop)(b:Bool)(s':Shared):Prop:=∃H',Inv X pins σ H' s'/\Q b H'
def AP(X:Cx)(pins:List (Addr×Obj))(σ:St)(Q:List V->Hp->Prop)(us:List Value)(s':Shared):Prop:=∃vs H',Inv X pins σ H' s'/\Vals vs us/\Q vs H'
def SP(X:Cx)(pins:List (Addr×Obj))(D:Ends)(f:Flow)(s':Shared):Prop :=
 match f with
 | .next=>∃σ' H',Inv X pins σ' H' s'/\D.nx σ' H'
 | .brk=>∃σ' H',Inv X pins σ' H' s'/\D.bk σ' H'
 | .cont=>∃σ' H',Inv X pins σ' H' s'/\D.ct σ' H'
 | .ret u=>∃v σ' H',Inv X pins σ' H' s'/\RelV v u/\D.rt v H'
def PE(X:Cx)(e:Expr)(t:TE):Prop :=
 ∀(pins:List (Addr×Obj)) (s:Shared) (σ:St) (H:Hp) (Q:VK),Inv X pins σ H s->t σ H Q->wpAny (model X.prog X.w) X.A (eval e X.env) (EP X pins σ Q) X.xe s
def PT(X:Cx)(e:Expr)(t:TT):Prop :=
 ∀(pins:List (Addr×Obj)) (s:Shared) (σ:St) (H:Hp) (Q:Bool->Hp->Prop),Inv X pins σ H s->t σ H Q->wpAny (model X.prog X.w) X.A (isTrue e X.env (eval e X.env)) (TP X pins σ Q) X.xe s
def PW(X:Cx)(e:Expr)(t:TT):Prop :=
 ∀(whole:Sem Value) (pins:List (Addr×Obj)) (s:Shared) (σ:St) (H:Hp) (Q:Bool->Hp->Prop),Inv X pins σ H s->t σ H Q->wpAny (model X.prog X.w) X.A (isTrue e X.env whole) (TP X pins σ Q) X.xe s
theorem PW.pt{X:Cx}{e:Expr}{t:TT}(h:PW X e t):PT X e t:=h _
def PA(X:Cx)(es:List Expr)(t:TA):Prop :=
 ∀(pos:Pos) (pins:List (Addr×Obj)) (s:Shared) (σ:St) (H:Hp) (Q:List V->Hp->Prop),Inv X pins σ H s->t σ H Q->wpAny (model X.prog X.w) X.A (spliced (backTo pos (starEach es X.env))) (AP X pins σ Q) X.xe s
def PS(X:Cx)(st:Stmt)(t:TS):Prop :=
 ∀(pins:List (Addr×Obj)) (s:Shared) (σ:St) (H:Hp) (D:Ends),Inv X pins σ H s->t D σ H->wpAny (model X.prog X.w) X.A (exec st X.env) (SP X pins D) X.xe s
def PSs(X:Cx)(st:List Stmt)(t:TS):Prop :=
 ∀(pins:List (Addr×Obj)) (s:Shared) (σ:St) (H:Hp) (D:Ends),Inv X pins σ H s->t D σ H->wpAny (model X.prog X.w) X.A (execs st X.env) (SP X pins D) X.xe s
theorem thn{α:Type}{t:Sem α}{Q Q':α->Shared->Prop}{M:Model}{A:Around}{E:Value->Shared->Prop}{s:Shared}(h:wpAny M A t Q E s)(hQ:∀a s,Q a s->Q' a s):wpAny M A t Q' E s:=CS h hQ fun _ _ x=>x
section
variable{X:Cx}
def Ig(i:Nat):TE:=fun σ H Q=>∃v,σ[i]?=some (some v)/\Q v H
def tC(v:V):TE:=fun _ H Q=>Q v H
theorem Vk{i:Nat}{x:Str}{pos:Pos}(hN:X.N[i]?=some x)(hv:Vis X.env.scope x)(hd:(x ==("__debug__":Str))=false:=by decide)(hcd:(x ==("__classdict__":Str))=false:=by decide):PE X (.Name x pos) (Ig i):=by
 intro pins s σ H Q I h
 obtain⟨v,e,h⟩:=h
 obtain⟨m,hn,hl⟩:=I.loc
 obtain⟨u,r,l⟩:=hl i x v hN e hv
 have fin:EP X pins σ Q u s:=⟨v,H,I,r,h⟩
 rcases l with⟨hk,hm⟩ | ⟨hk,c,hc,hcell⟩
 ·exact wpAny_Name (wpAny_loadName_local I.ok.kind hk hn hm fin) hd
 ·rcases hk with hk | hk
  ·exact wpAny_Name (wpAny_loadName_cell I.ok.kind hk hc hcell fin) hd
  ·exact wpAny_Name (wpAny_loadName_free I.ok.kind hk hc hcell fin hcd) hd
theorem B8{i j pos}:PE X (.Constant (.int i) j pos) (tC (.int i)):=fun _ _ _ H _ I h=>wpAny_Constant_int ⟨.int i,H,I.tok _,⟨_,rfl⟩,h⟩
theorem M0{b j pos}:PE X (.Constant (.bool b) j pos) (tC (.bl b)):=fun _ _ _ H _ I h=>Constant_bool ⟨.bl b,H,I,rfl,h⟩
theorem zAw{j pos}:PE X (.Constant .none j pos) (tC .non):=fun _ _ _ H _ I h=>Constant_none ⟨.non,H,I,rfl,h⟩
theorem W7{x j pos}:PE X (.Constant (.str x) j pos) (tC (.str x)):=fun _ _ _ H _ I h=>Calls.Constant_str ⟨.str x,H,I.tok _,⟨_,rfl⟩,h⟩
def Gl(X:Cx)(x:Str):Prop:=X.env.kindOf x=some .globalImplicit
theorem Ik{E:Value->Shared->Prop}{pins:List (Addr×Obj)}{s:Shared}{σ:St}{H:Hp}{x:Str}{u:Value}{pos:Pos}{Q:Value->Shared->Prop}(I:Inv X pins σ H s)(hg:Gl X x)(hm:X.mg x=some u)(h:Q u s)
  (hd:(x ==("__debug__":Str))=false:=by decide):wpAny (model X.prog X.w) X.A (eval (.Name x pos) X.env) Q E s :=
 Calls.Name_function_global I.ok.kind hg (Calls.loadGlobal_global (by rw[I.ok.glob];exact I.mod.glob.keeps I.bk) hm h) hd
theorem Di{E:Value->Shared->Prop}{pins:List (Addr×Obj)}{s:Shared}{σ:St}{H:Hp}{x:Str}{u:Value}{pos:Pos}{Q:Value->Shared->Prop}(I:Inv X pins σ H s)(hg:Gl X x)(hm:X.mg x=none)(hv:bootBuiltins x=some u)(h:Q u s)
  (hn:x≠ "__name__":=by decide) (hd:(x ==("__debug__":Str))=false:=by decide):wpAny (model X.prog X.w) X.A (eval (.Name x pos) X.env) Q E s:=by
 obtain⟨mb,h1,h2⟩:=I.mod.blt
 exact Calls.Name_function_global I.ok.kind hg (Calls.loadGlobal_builtin (by rw[I.ok.glob];exact I.mod.glob.keeps I.bk) hm (by rw[I.ok.blt];exact h1.keeps I.bk) ((h2 x hn).trans hv) h) hd
theorem Iz{x:Str}{v:V}{u:Value}{pos:Pos}(hg:Gl X x)(hm:X.mg x=some u)(r:RelV v u)(hd:(x ==("__debug__":Str))=false:=by decide):PE X (.Name x pos) (tC v) :=
 fun _ _ _ H _ I h=>Ik I hg hm ⟨v,H,I,r,h⟩ hd
theorem Wr{x:Str}{v:V}{u:Value}{pos:Pos}(hg:Gl X x)(hm:X.mg x=none)(hv:bootBuiltins x=some u)(r:RelV v u)(hn:x≠ "__name__":=by decide)(hd:(x ==("__debug__":Str))=false:=by decide):PE X (.Name x pos) (tC v) :=
 fun _ _ _ H _ I h=>Di I hg hm hv ⟨v,H,I,r,h⟩ hn hd
variable{a b:Expr}{ta tb:TE}{pos:Pos}
def PC(X:Cx)(op:CmpOp)(a b:Expr)(t:TE):Prop :=
 ∀(pins:List (Addr×Obj)) (s:Shared) (σ:St) (H:Hp) (Q:VK),Inv X pins σ H s->t σ H Q ->
  wpAny (model X.prog X.w) X.A (eval a X.env) (fun v s₁=>wpAny (model X.prog X.w) X.A (eval b X.env) (fun u s₂=>wpAny (model X.prog X.w) X.A (compareOp op v u) (EP X pins σ Q) X.xe s₂) X.xe s₁) X.xe s
def tB(t:TE):TT:=fun σ H Q=>t σ H fun x H1=>∃c,x = .bl c/\Q c H1
theorem Yt{op:CmpOp}{t:TE}(h:PC X op a b t)(h1:behindInMarks op b=false:=by first | exact nobehind _ (by decide) (by decide) | rfl):PT X (.Compare a [op] [b] pos) (tB t):=by
 intro pins s σ H Q I hw
 refine wpAny_isTrue_Compare1 (thn (h pins s σ H _ I hw) fun v s1 h1=>thn h1 fun u s2 h2=>thn h2 fun c s3 ⟨x,H1,I1,r1,q1⟩=>?_) h1
 obtain⟨d,rfl,q⟩:=q1
 cases r1
 exact DA ⟨H1,I1,q⟩
theorem I9{e:Expr}{t:TE}(h:PE X e t)(he:∀whole,isTrue e X.env whole =(do let v <-whole;standAt e.pos;holding [v] (truthy v)):=by intro _;rfl):PT X e (tB t):=by
 intro pins s σ H Q I hw
 refine isTrue_plain (thn (h pins s σ H _ I hw) fun v s1 ⟨x,H1,I1,r1,q1⟩=>?_) (he _)
 obtain⟨d,rfl,q⟩:=q1
 cases r1
 exact DA ⟨H1,I1,q⟩
variable{tA tB':TT}{rest:List Expr}
def zEv(t u:TT):TT:=fun σ H Q=>t σ H fun c H1=>if c=true then u σ H1 Q else Q false H1
def tOr(t u:TT):TT:=fun σ H Q=>t σ H fun c H1=>if c=true then Q true H1 else u σ H1 Q
def zEl(t:TT):TT:=fun σ H Q=>t σ H fun c H1=>Q (!c) H1
theorem U9(ha:PT X a tA):PW X (.BoolOp .And [a] pos) tA:=by
 intro wh pins s σ H Q I h
 refine isTrue_and (thn (ha pins s σ H Q I h) fun c s1 e=>?_)
 cases c with
 | true=>exact isTrue_and_nil e
 | false=>exact e
theorem W3(ha:PT X a tA):PW X (.BoolOp .Or [a] pos) tA:=by
 intro wh pins s σ H Q I h
 refine isTrue_or (thn (ha pins s σ H Q I h) fun c s1 e=>?_)
 cases c with
 | false=>exact isTrue_or_nil e
 | true=>exact e
theorem f7(ha:PT X a tA)(hb:PW X (.BoolOp .And (b::rest) pos) tB'):PW X (.BoolOp .And (a::b::rest) pos) (zEv tA tB'):=by
 intro wh pins s σ H Q I h
 refine isTrue_and (thn (ha pins s σ H _ I h) fun c s1 ⟨H1,I1,q1⟩=>?_)
 cases c with
 | true=>exact hb wh pins s1 σ H1 Q I1 q1
 | false=>exact⟨H1,I1,q1⟩
theorem Cn(ha:PT X a tA)(hb:PW X (.BoolOp .Or (b::rest) pos) tB'):PW X (.BoolOp .Or (a::b::rest) pos) (tOr tA tB'):=by
 intro wh pins s σ H Q I h
 refine isTrue_or (thn (ha pins s σ H _ I h) fun c s1 ⟨H1,I1,q1⟩=>?_)
 cases c with
 | true=>exact⟨H1,I1,q1⟩
 | false=>exact hb wh pins s1 σ H1 Q I1 q1
theorem K9(ha:PT X a tA):PT X (.UnaryOp .Not a pos) (zEl tA):=by
 intro pins s σ H Q I h
 exact isTrue_not (ha pins s σ H (fun c H1=>Q (!c) H1) I h)
def zCf(ta tb:TE):TE:=fun σ H Q=>ta σ H fun x H1=>∃c,x = .bl c/\if c=true then tb σ H1 Q else Q (.bl false) H1
def zFd(ta tb:TE):TE:=fun σ H Q=>ta σ H fun x H1=>∃c,x = .bl c/\if c=true then Q (.bl true) H1 else tb σ H1 Q
theorem Pn{op}{t:TE}(h:PE X a t):PE X (.BoolOp op [a] pos) t:=fun pins s σ H Q I hw=>BoolOp_one (h pins s σ H Q I hw)
theorem Vh(ha:PE X a ta)(hb:PE X (.BoolOp .And (b::rest) pos) tb):PE X (.BoolOp .And (a::b::rest) pos) (zCf ta tb):=by
 intro pins s σ H Q I h
 refine BoolOp_and (thn (ha pins s σ H _ I h) fun v s1 ⟨x,H1,I1,r1,q1⟩=>?_)
 obtain⟨c,rfl,q1⟩:=q1
 cases r1
 refine DA ?_
 cases c with
 | true=>exact hb pins s1 σ H1 Q I1 q1
 | false=>exact⟨.bl false,H1,I1,rfl,q1⟩
theorem zCo(ha:PE X a ta)(hb:PE X (.BoolOp .Or (b::rest) pos) tb):PE X (.BoolOp .Or (a::b::rest) pos) (zFd ta tb):=by
 intro pins s σ H Q I h
 refine BoolOp_or (thn (ha pins s σ H _ I h) fun v s1 ⟨x,H1,I1,r1,q1⟩=>?_)
 obtain⟨c,rfl,q1⟩:=q1
 cases r1
 refine DA ?_
 cases c with
 | false=>exact hb pins s1 σ H1 Q I1 q1
 | true=>exact⟨.bl true,H1,I1,rfl,q1⟩
def tIf(t:TT)(ta tb:TE):TE:=fun σ H Q=>t σ H fun c H1=>if c=true then ta σ H1 Q else tb σ H1 Q
theorem Tj{c:Expr}(hc:PT X c tA)(ha:PE X a ta)(hb:PE X b tb):PE X (.IfExp c a b pos) (tIf tA ta tb):=by
 intro pins s σ H Q I h
 refine wpAny_IfExp (thn (hc pins s σ H _ I h) fun d s1 ⟨H1,I1,q1⟩=>?_)
 cases d with
 | true=>exact ha pins s1 σ H1 Q I1 q1
 | false=>exact hb pins s1 σ H1 Q I1 q1
end
def SqL(K:PySem.W.Frag)(H:Hp)(a:Addr)(xs:List V):Prop :=
 Rd H a (.lst xs) \/
  ∃(o:Obj) (its:Array Value) (n:Nat),K.lookup a=some o/\o.cls = .type "list"/\o.dict=none/\o.data = .seq its n/\its.size<=sizeLine/\Vals xs its.toList
def SqT(K:PySem.W.Frag)(H:Hp)(a:Addr)(xs:List V):Prop :=
 Rd H a (.tup xs) \/
  ∃(o:Obj) (its:Array Value) (n:Nat),K.lookup a=some o/\o.cls = .type "tuple"/\o.data = .seq its n/\its.size<=sizeLine/\Vals xs its.toList
def zEy:Value->Option V
 | .none=>some .non
 | .bool b=>some (.bl b)
 | .int i _=>some (.int i)
 | .str x _=>some (.str x)
 | .bytes b _=>some (.byt b)
 | .float b _=>some (.flt b)
 | .ref a=>some (.ref a)
 | .type n=>some (.ty n)
 | _=>none
theorem RelV.abs{x:V}{u:Value}(r:RelV x u):zEy u=some x:=by
 cases x with
 | non=>cases r;rfl
 | bl _=>cases r;rfl
 | int _=>obtain⟨t,rfl⟩:=r;rfl
 | str _=>obtain⟨t,rfl⟩:=r;rfl
 | byt _=>obtain⟨t,rfl⟩:=r;rfl
 | flt _=>obtain⟨t,rfl⟩:=r;rfl
 | ref _=>cases r;rfl
 | ty _=>cases r;rfl
theorem RelV.inj{x y:V}{u:Value}(r:RelV x u)(q:RelV y u):x=y:=BH (r.abs.symm.trans q.abs)
theorem Vals.inj:∀{xs ys:List V} {us:List Value},Vals xs us->Vals ys us->xs=ys
 | _,_,_,.nil,.nil=>rfl
 | _,_,_,.cons r t,.cons r' t'=>by rw[r.inj r',Vals.inj t t']
section
variable{X:Cx}{pins:List (Addr×Obj)}{σ:St}{H:Hp}{s:Shared}{a:Addr}{xs ys:List V}
theorem SqL.of{K:PySem.W.Frag}(h:H a=some (.lst xs)):SqL K H a xs:=.inl (.inl h)
theorem SqT.of{K:PySem.W.Frag}(h:H a=some (.tup xs)):SqT K H a xs:=.inl (.inl h)
theorem Inv.list(I:Inv X pins σ H s)(h:SqL X.K H a xs):∃its:List Value,Vals xs its/\PlainL s.heap a its.toArray/\xs.length<=sizeLine:=by
 rcases h with h | ⟨o,its,n,hk,hc,hd,hs,hz,r⟩
 ·obtain⟨z,its,n,r,e⟩:=h.ok I.hok
  exact⟨its,r,⟨_,n,e,rfl,rfl,rfl⟩,z⟩
 ·refine⟨its.toList,r,⟨o,n,I.kIn a o hk,hc,hd,by simpa using hs⟩,?_⟩
  have e:=r.length
  simp only[AO]at e
  omega
theorem Inv.tuple(I:Inv X pins σ H s)(h:SqT X.K H a xs):∃its:List Value,Vals xs its/\IsTup s.heap a its.toArray/\xs.length<=sizeLine:=by
 rcases h with h | ⟨o,its,n,hk,hc,hs,hz,r⟩
 ·obtain⟨z,its,r,p⟩:=h.ok I.hok
  exact⟨its,r,p,z⟩
 ·refine⟨its.toList,r,⟨o,I.kIn a o hk,hc,n,by simpa using hs⟩,?_⟩
  have e:=r.length
  simp only[AO]at e
  omega
theorem Inv.list_inj(I:Inv X pins σ H s)(h:SqL X.K H a xs)(h':SqL X.K H a ys):xs=ys:=by
 obtain⟨its,r,⟨o,n,e,_,_,d⟩,_⟩:=I.list h
 obtain⟨its',r',⟨o',n',e',_,_,d'⟩,_⟩:=I.list h'
 rw[e]at e';cases e'
 rw[d]at d'
 injection d' with d1 _
 have:its=its':=by simpa using congrArg Array.toList d1
 subst this
 exact r.inj r'
theorem Inv.tuple_inj(I:Inv X pins σ H s)(h:SqT X.K H a xs)(h':SqT X.K H a ys):xs=ys:=by
 obtain⟨its,r,⟨o,e,_,n,d⟩,_⟩:=I.tuple h
 obtain⟨its',r',⟨o',e',_,n',d'⟩,_⟩:=I.tuple h'
 rw[e]at e';cases e'
 rw[d]at d'
 injection d' with d1 _
 have:its=its':=by simpa using congrArg Array.toList d1
 subst this
 exact r.inj r'
end
abbrev Cx.wish(X:Cx)(E:Value->Shared->Prop):Cx:={ X with xe:=E }
abbrev Cx.nox(X:Cx):Cx:=X.wish fun _ _=>False
theorem Cx.Ok.wish{X:Cx}(ok:X.Ok)(E:Value->Shared->Prop):(X.wish E).Ok :=
 ⟨ok.mod,ok.kind,ok.glob,ok.blt,ok.above,ok.inj,ok.has,ok.cab,ok.hd,ok.frames,ok.stk,ok.exf,ok.bs,ok.bsz,ok.noex,ok.exfs,ok.funs,ok.frf⟩
theorem Cx.Ok.unwish{X:Cx}{E:Value->Shared->Prop}(ok:(X.wish E).Ok):X.Ok :=
 ⟨ok.mod,ok.kind,ok.glob,ok.blt,ok.above,ok.inj,ok.has,ok.cab,ok.hd,ok.frames,ok.stk,ok.exf,ok.bs,ok.bsz,ok.noex,ok.exfs,ok.funs,ok.frf⟩
section
variable{X:Cx}{pins:List (Addr×Obj)}{σ:St}{H:Hp}{s:Shared}{E:Value->Shared->Prop}
theorem Inv.wish(I:Inv X pins σ H s)(E:Value->Shared->Prop):Inv (X.wish E) pins σ H s:=⟨I.ok.wish E,I.os,I.bare,I.base,I.loc,I.cell,I.free,I.freeC,I.pin,I.hok,I.len⟩
theorem Inv.unwish(I:Inv (X.wish E) pins σ H s):Inv X pins σ H s:=⟨I.ok.unwish,I.os,I.bare,I.base,I.loc,I.cell,I.free,I.freeC,I.pin,I.hok,I.len⟩
theorem SP.unwish{D:Ends}{f:Flow}{s':Shared}(h:SP (X.wish E) pins D f s'):SP X pins D f s':=by
 cases f with
 | next=>obtain⟨σ',H',I,q⟩:=h;exact⟨σ',H',I.unwish,q⟩
 | brk=>obtain⟨σ',H',I,q⟩:=h;exact⟨σ',H',I.unwish,q⟩
 | cont=>obtain⟨σ',H',I,q⟩:=h;exact⟨σ',H',I.unwish,q⟩
 | ret u=>obtain⟨v,σ',H',I,r,q⟩:=h;exact⟨v,σ',H',I.unwish,r,q⟩
theorem PSs.nox{st:List Stmt}{t:TS}(h:PSs X.nox st t):PSs X st t:=fun pins s σ H D I hw =>
 CS (h pins s σ H D (I.wish _) hw) (fun _ _ q=>q.unwish) fun _ _ z=>False.elim z
end
section
variable{X:Cx}{st:Stmt}{rest:List Stmt}{t u:TS}{e:Expr}{te:TE}{pos:Pos}
def zCt:TS:=fun D σ H=>D.nx σ H
def zBu(t u:TS):TS:=fun D σ H=>t { D with nx:=u D } σ H
theorem C4:PSs X [] zCt:=fun _ _ σ H _ I h=>wpAny_execs_nil ⟨σ,H,I,h⟩
theorem B1(h1:PS X st t)(h2:PSs X rest u):PSs X (st::rest) (zBu t u):=by
 intro pins s σ H D I h
 refine wpAny_execs_cons (thn (h1 pins s σ H { D with nx:=u D } I h) fun f s1 q=>?_)
 cases f with
 | next =>
  obtain⟨σ',H',I',q⟩:=q
  exact h2 pins s1 σ' H' D I' q
 | ret v=>exact q
 | brk=>exact q
 | cont=>exact q
theorem B3(h1:PS X st t):PSs X [st] t:=by
 intro pins s σ H D I h
 refine wpAny_execs_cons (thn (h1 pins s σ H D I h) fun f s1 q=>?_)
 cases f with
 | next=>exact wpAny_execs_nil q
 | ret v=>exact q
 | brk=>exact q
 | cont=>exact q
theorem Inv.quiet{pins:List (Addr×Obj)}{σ:St}{H:Hp}{s:Shared}(I:Inv X pins σ H s):interactive X.env=false:=by simp[interactive,I.ok.kind]
def zDm(te:TE):TS:=fun D σ H=>te σ H fun _ H1=>D.nx σ H1
theorem E4(he:PE X e te)(hs:swapsWith e none pos.line X.env=pure false:=by rfl):PS X (.Expr e pos) (zDm te):=by
 intro pins s σ H D I h
 exact wpAny_Expr_any (thn (he pins s σ H _ I h) fun v s1 ⟨x,H1,I1,r1,q1⟩=>⟨σ,H1,I1,q1⟩) I.quiet hs
def zCv(te:TE):TS:=fun D σ H=>te σ H D.rt
theorem B9(he:PE X e te):PS X (.Return (some e) pos) (zCv te):=by
 intro pins s σ H D I h
 exact wpAny_Return_some (thn (he pins s σ H _ I h) fun v s1 ⟨x,H1,I1,r1,q1⟩=>⟨x,σ,H1,I1,r1,q1⟩)
def zCc:TS:=fun D _ H=>D.rt .non H
theorem o7:PS X (.Return none pos) zCc:=fun _ _ σ H _ I h=>wpAny_Return_none ⟨.non,σ,H,I,rfl,h⟩
def zEh(c:TT)(t u:TS):TS:=fun D σ H=>c σ H fun b H1=>if b=true then t D σ H1 else u D σ H1
theorem J4{c:Expr}{a b:List Stmt}{tc:TT}(hc:PT X c tc)(ha:PSs X a t)(hb:PSs X b u):PS X (.If c a b pos) (zEh tc t u):=by
 intro pins s σ H D I h
 refine wpAny_If (thn (hc pins s σ H _ I h) fun d s1 ⟨H1,I1,q1⟩=>?_)
 cases d with
 | true=>exact ha pins s1 σ H1 D I1 q1
 | false=>exact hb pins s1 σ H1 D I1 q1
def zAu:TS:=fun _ _ _=>False
theorem Z7:PS X st zAu:=fun _ _ _ _ _ _ h=>h.elim
end
abbrev TG:=V->St->Hp->(St->Hp->Prop)->Prop
abbrev TGs:=List V->St->Hp->(St->Hp->Prop)->Prop
def PG(X:Cx)(target:Expr)(t:TG):Prop :=
 ∀(pins:List (Addr×Obj)) (s:Shared) (σ:St) (H:Hp) (v:V) (u:Value) (Q:St->Hp->Prop),Inv X pins σ H s->RelV v u->t v σ H Q ->
  wpAny (model X.prog X.w) X.A (assign target X.env u) (fun _ s'=>∃σ' H',Inv X pins σ' H' s'/\Q σ' H') X.xe s
def PGs(X:Cx)(ts:List Expr)(t:TGs):Prop :=
 ∀(pins:List (Addr×Obj)) (s:Shared) (σ:St) (H:Hp) (vs:List V) (us:List Value) (Q:St->Hp->Prop),Inv X pins σ H s->Vals vs us->t vs σ H Q ->
  wpAny (model X.prog X.w) X.A (assignInOrder ((assignEach ts X.env).map (·.2)) us) (fun _ s'=>∃σ' H',Inv X pins σ' H' s'/\Q σ' H') X.xe s
abbrev TSet:=V->V->V->Hp->(Hp->Prop)->Prop
def zEg(X:Cx)(t:TSet):Prop :=
 ∀(pins:List (Addr×Obj)) (s:Shared) (σ:St) (H:Hp) (o i v:V) (ov iv u:Value) (Q:Hp->Prop),Inv X pins σ H s->RelV o ov->RelV i iv->RelV v u->t o i v H Q ->
  wpAny (model X.prog X.w) X.A (setItem ov iv u) (fun _ s'=>∃H',Inv X pins σ H' s'/\Q H') X.xe s
abbrev TIp:=V->V->Hp->VK->Prop
def PIp(X:Cx)(op:Operator)(t:TIp):Prop :=
 ∀(pins:List (Addr×Obj)) (s:Shared) (σ:St) (H:Hp) (x y:V) (v u:Value) (Q:VK),Inv X pins σ H s->RelV x v->RelV y u->t x y H Q ->
  wpAny (model X.prog X.w) X.A (inplaceOp op v u) (EP X pins σ Q) X.xe s
section
variable{X:Cx}{pos:Pos}
def Q6(i:Nat):TG:=fun v σ H Q=>Q (σ.set i (some v)) H
theorem C7{i:Nat}{x:Str}(hN:X.N.Nodup)(hi:X.N[i]?=some x)(hx:Loc X.env.scope x)(hf:X.fn x=true\/X.env.scope.names.lookup x=some .local:=by first | exact .inl rfl | exact .inr rfl | assumption):PG X (.Name x pos) (Q6 i):=by
 intro pins s σ H v u Q I r h
 exact wpAny_assign_Name (Ex I hN hi hx r (fun s' I'=>⟨_,H,I',h⟩) hf)
def zEc:TGs:=fun vs σ H Q=>vs = []/\Q σ H
def Wj(t:TG)(u:TGs):TGs:=fun vs σ H Q=>∃v r,vs=v::r/\t v σ H fun σ' H'=>u r σ' H' Q
theorem J2:PGs X [] zEc:=by
 intro pins s σ H vs us Q I r h
 obtain⟨e,h⟩:=h
 subst e
 cases r
 exact assignInOrder_nil ⟨σ,H,I,h⟩
theorem C0{e:Expr}{es:List Expr}{t:TG}{u:TGs}(h1:PG X e t)(h2:PGs X es u)
  (hs:(assignEach (e::es) X.env).map (·.2)=assign e X.env ::(assignEach es X.env).map (·.2):=by rfl):PGs X (e::es) (Wj t u):=by
 intro pins s σ H vs us Q I r h
 obtain⟨v,vr,e1,h⟩:=h
 subst e1
 cases r with
 | cons r rr =>
  rw[hs]
  refine assignInOrder_cons (thn (h1 pins s σ H _ _ _ I r h) fun _ s1 ⟨σ1,H1,I1,q1⟩=>?_)
  exact h2 pins s1 σ1 H1 _ _ Q I1 rr q1
def zDi(K:PySem.W.Frag)(n:Nat)(t:TGs):TG:=fun v σ H Q=>∃a xs,v = .ref a/\SqT K H a xs/\xs.length=n/\t xs σ H Q
theorem zAs{es:List Expr}{k:Nat}{t:TGs}{n:Nat}(hc:X.calm=true)(h:PGs X es t)
  (hn:(assignEach es X.env).length=n:=by rfl) (hst:(assignEach es X.env).findIdx? (·.1)=none:=by rfl):PG X (.Tuple es k pos) (zDi X.K n t):=by
 intro pins s σ H v u Q I r hw
 obtain⟨a,xs,e1,hq,hl,hw⟩:=hw
 subst e1
 cases r
 obtain⟨its,rv,ht,hz⟩:=I.tuple hq
 refine assign_Tuple_tuple (I.ok.hd hc) ht (by simp[hn,<-hl,rv.length]) hst fun h' hx=>?_
 have I1:Inv X pins σ H { s with heap:=h' }:=I.kept (t':=s.toks) fun b o e=>hx b o (BF (AN e)) e
 exact h pins _ σ H xs _ Q I1 (by simpa using rv) hw
def zEs(to ti:TE)(t:TSet):TG:=fun v σ H Q=>to σ H fun o H1=>ti σ H1 fun i H2=>t o i v H2 fun H3=>Q σ H3
theorem Wa{o i:Expr}{to ti:TE}{t:TSet}(ho:PE X o to)(hi:PE X i ti)(hs:zEg X t)
  (ha:∀v,assign (.Subscript o i pos) X.env v =(do
   let ov <-holding [v] (eval o X.env)
   let iv <-holding [v,ov] (eval i X.env)
   standAt pos
   holding [v,ov,iv] (setItem ov iv v)
   release [v,ov,iv] []):=by intro _;rfl):PG X (.Subscript o i pos) (zEs to ti t):=by
 intro pins s σ H v u Q I r h
 rw[ha]
 refine AA (CO (thn (ho pins s σ H _ I h) fun ov s1 ⟨x,H1,I1,r1,q1⟩=>?_))
 refine AA (CO (thn (hi pins s1 σ H1 _ I1 q1) fun iv s2 ⟨y,H2,I2,r2,q2⟩=>?_))
 refine AA (GP (AA (CO (thn (hs pins s2 σ H2 x y v ov iv u _ I2 r1 r2 r q2) fun _ s3 ⟨H3,I3,q3⟩=>?_))))
 exact wpAny_release ⟨σ,H3,I3,q3⟩
def zDa(te:TE)(g:TG):TS:=fun D σ H=>te σ H fun x H1=>g x σ H1 D.nx
theorem d6{tg e:Expr}{te:TE}{g:TG}(he:PE X e te)(hg:PG X tg g)(hs:swapsWithSole [tg] e pos.line X.env=pure false:=by rfl)(hw:swappedStores [tg] e X.env=pure none:=by rfl)
  (h1:(assignEach [tg] X.env).map (·.2) = [assign tg X.env]:=by rfl):PS X (.Assign [tg] e pos) (zDa te g):=by
 intro pins s σ H D I h
 refine wpAny_Assign_stores (thn (he pins s σ H _ I h) fun v s1 ⟨x,H1,I1,r1,q1⟩=>?_) hs hw
 rw[h1]
 exact thn (hg pins s1 σ H1 x v _ I1 r1 q1) fun _ s2 q=>q
theorem C5{i:Nat}{x:Str}{e:Expr}{te:TE}{pos':Pos}(hN:X.N.Nodup)(hi:X.N[i]?=some x)(hx:Loc X.env.scope x)(he:PE X e te)(hs:swapsWith e (some (.Name x pos')) pos.line X.env=pure false:=by rfl)(hf:X.fn x=true\/X.env.scope.names.lookup x=some .local:=by first | exact .inl rfl | exact .inr rfl | assumption) :
  PS X (.Assign [.Name x pos'] e pos) (zDa te (Q6 i)):=by
 intro pins s σ H D I h
 refine wpAny_Assign_Name (thn (he pins s σ H _ I h) fun v s1 ⟨y,H1,I1,r1,q1⟩=>?_) hs
 exact Ex I1 hN hi hx r1 (fun s2 I2=>⟨_,H1,I2,q1⟩) hf
def zEr(i:Nat)(te:TE)(ti:TIp):TS:=fun D σ H=>∃x,σ[i]?=some (some x)/\te σ H fun y H1=>ti x y H1 fun z H2=>D.nx (σ.set i (some z)) H2
theorem Vy{i:Nat}{x:Str}{e:Expr}{te:TE}{op:Operator}{ti:TIp}{pos':Pos}(hN:X.N.Nodup)(hi:X.N[i]?=some x)(hx:Loc X.env.scope x)(he:PE X e te)(ho:PIp X op ti)(hf:X.fn x=true\/X.env.scope.names.lookup x=some .local:=by first | exact .inl rfl | exact .inr rfl | assumption) :
  PS X (.AugAssign (.Name x pos') op e pos) (zEr i te ti):=by
 intro pins s σ H D I h
 obtain⟨v,e1,h⟩:=h
 obtain⟨m,hn,hl⟩:=I.loc
 have vis:Vis X.env.scope x:=by rcases hx with k | k;exact .inl k;exact .inr (.inl k)
 obtain⟨u,r,l⟩:=hl i x v hi e1 vis
 refine wpAny_AugAssign_Name ?_
 have go:wpAny (model X.prog X.w) X.A (eval e X.env) (fun w s₂=>wpAny (model X.prog X.w) X.A (inplaceOp op u w) (fun r s₃=>wpAny (model X.prog X.w) X.A (storeName X.env x r) (fun _=>SP X pins D .next) X.xe s₃) X.xe s₂) X.xe s:=by
  refine thn (he pins s σ H _ I h) fun w s1 ⟨y,H1,I1,r1,q1⟩=>?_
  refine thn (ho pins s1 σ H1 v y u w _ I1 r r1 q1) fun z s2 ⟨zv,H2,I2,r2,q2⟩=>?_
  exact Ex I2 hN hi hx r2 (fun s3 I3=>⟨_,H2,I3,q2⟩) hf
 rcases l with⟨hk,hm⟩ | ⟨hk,c,hc,hcell⟩
 ·exact wpAny_loadName_local I.ok.kind hk hn hm go
 ·rcases hk with hk | hk
  ·exact wpAny_loadName_cell I.ok.kind hk hc hcell go
  ·rcases hx with k | k
   ·have:X.env.scope.names.lookup x=some .free:=hk
    rw[k]at this;cases this
   ·have:X.env.scope.names.lookup x=some .free:=hk
    rw[k]at this;cases this
def ipI(f:Int->Int->Int):TIp:=fun x y H Q=>∃i j,x = .int i/\y = .int j/\Q (.int (f i j)) H
theorem Zn:PIp X .Add (ipI fun i j=>i+j):=by
 intro pins s σ H x y v u Q I r1 r2 h
 obtain⟨i,j,e1,e2,q⟩:=h
 subst e1;subst e2
 obtain⟨t,rfl⟩:=r1
 obtain⟨t',rfl⟩:=r2
 exact iadd_int ⟨.int _,H,I.tok _,⟨_,rfl⟩,q⟩
def zBm(c:TT)(tb:TS):TS:=fun D σ H=>∃W:Nat->St->Hp->Prop,(∃m,W m σ H)/\∀m σ H,W m σ H ->
 c σ H fun b H1=>if b=true then ∃N:St->Hp->Prop,(∀σ' H',N σ' H'->∃m',m' < m/\W m' σ' H')/\tb { D with nx:=N,ct:=N,bk:=D.nx } σ H1 else D.nx σ H1
theorem Ai{c:Expr}{body:List Stmt}{tc:TT}{tb:TS}(hp:PassesOwn (model X.prog X.w) X.A X.env X.xe)(hc:PT X c tc)(hb:PSs X body tb):PS X (.While c body [] pos) (zBm tc tb):=by
 intro pins s σ H D I h
 obtain⟨W,⟨m0,w0⟩,turn⟩:=h
 refine wpAny_While (codeAny_whileLoop (fun n s'=>∃σ' H',Inv X pins σ' H' s'/\W n σ' H') ?_ m0 ⟨σ,H,I,w0⟩)
 rintro n s1 ⟨σ1,H1,I1,w1⟩
 refine FG hp (thn (hc pins s1 σ1 H1 _ I1 (turn n σ1 H1 w1)) fun b s2 ⟨H2,I2,q2⟩=>?_)
 cases b with
 | true =>
  obtain⟨N,hN,q2⟩:=q2
  rw[AQ rfl]
  refine FG hp (thn (hb pins s2 σ1 H2 _ I2 q2) fun f s3 q3=>?_)
  cases f with
  | next =>
   obtain⟨σ3,H3,I3,n3⟩:=q3
   obtain⟨m',hm,w3⟩:=hN σ3 H3 n3
   exact⟨m',hm,σ3,H3,I3,w3⟩
  | cont =>
   obtain⟨σ3,H3,I3,n3⟩:=q3
   obtain⟨m',hm,w3⟩:=hN σ3 H3 n3
   exact⟨m',hm,σ3,H3,I3,w3⟩
  | brk=>exact q3
  | ret v=>exact q3
 | false =>
  rw[AJ BC]
  exact wpAny_execs_nil ⟨σ1,H2,I2,q2⟩
end
structure It where
 go:Nat->Hp->Prop
 yld:Nat->Hp->V->Hp->Prop
 stop:Nat->Hp->Prop
def Gs(X:Cx)(pins:List (Addr×Obj))(H:Hp)(b:Addr):Prop :=
 H b=none/\b≠X.env.locals/\b∉X.fs/\(b∈X.ex\/X.s₀.heap.objs.size<=b)/\(∀x c,X.env.cells.lookup x=some c->c≠b)/\∀p∈X.pn++pins,p.1≠b
theorem Inv.fpOk{X:Cx}{pins:List (Addr×Obj)}{σ:St}{H H':Hp}{s:Shared}{b:Addr}(I:Inv X pins σ H s)(hb:s.heap.objs.size<=b)(hn:H' b=none):Gs X pins H' b:=by
 refine⟨hn,Nat.ne_of_gt (BM I.lt hb),I.nofs hb,.inr (Nat.le_trans I.sz hb),fun x c e z=>?_,fun p hp z=>?_⟩
 ·obtain⟨v,q⟩:=I.cell x c e
  exact absurd (BM q.lt (by rw[z];exact hb)) (DE _)
 ·exact absurd (BM (AN (I.pin p hp).1) (by rw[z];exact hb)) (DE _)
structure Turn(P:Program)(w:World)(K:PySem.W.Frag)(tg:Expr)(J:It)(fp:List Addr)(it:Addr)(tn:Nat->Heap->Prop):Prop where
 mem:it∈fp
 obj:∀i h,tn i h->∀b∈fp,∃o,h.get? b=some o/\∀v,o.data≠ .cell v
 keep:∀i h h',tn i h->(∀b∈fp,∀o,h.get? b=some o->h'.get? b=some o)->tn i h'
 item:∀(X:Cx),X.prog=P->X.w=w->X.K=K->X.calm=true->∀(i:Nat) (pins:List (Addr×Obj)) (s:Shared) (σ:St) (H:Hp) (E:Value->Shared->Prop),Inv X pins σ H s->(∀b∈fp,Gs X pins H b)->tn i s.heap->J.go i H ->
  wpAny (model P w) X.A (pyNext (.ref it)) (fun r s1=>∃u,r=some u /\
   wpAny (model P w) X.A (letOwnedTupleGo tg (.ref it) u) (fun _ s2=>∃x H',Inv X pins σ H' s2/\RelV x u/\J.yld i H x H'/\tn (i+1) s2.heap/\∀b∈fp,H' b=none) E s1) E s
 done:∀(X:Cx),X.prog=P->X.w=w->X.K=K->X.calm=true->∀(i:Nat) (pins:List (Addr×Obj)) (s:Shared) (σ:St) (H:Hp) (E:Value->Shared->Prop),Inv X pins σ H s->(∀b∈fp,Gs X pins H b)->tn i s.heap->J.stop i H ->
  wpAny (model P w) X.A (pyNext (.ref it)) (fun r s1=>r=none/\Inv X pins σ H s1) E s
 self:∀(A:Around) (i:Nat) (s:Shared) (Q:Value->Shared->Prop) (E:Value->Shared->Prop),tn i s.heap->Q (.ref it) s->wpAny (model P w) A (pyIter (.ref it)) Q E s
abbrev TI:=St->Hp->(It->Hp->Prop)->Prop
def PIE(X:Cx)(pins:List (Addr×Obj))(σ:St)(tg:Expr)(R:It->Hp->Prop)(itv:Value)(s2:Shared):Prop :=
 ∃(it:Addr) (fp:List Addr) (tn:Nat->Heap->Prop) (J:It) (H':Hp),itv = .ref it/\Inv X pins σ H' s2/\Turn X.prog X.w X.K tg J fp it tn/\tn 0 s2.heap/\(∀b∈fp,Gs X pins H' b)/\R J H'
def PI(X:Cx)(tg iter:Expr)(wi:TI):Prop :=
 ∀(pins:List (Addr×Obj)) (s:Shared) (σ:St) (H:Hp) (R:It->Hp->Prop),Inv X pins σ H s->wi σ H R ->
  wpAny (model X.prog X.w) X.A (eval iter X.env) (fun v s1=>wpAny (model X.prog X.w) X.A (pyIter v) (PIE X pins σ tg R) X.xe s1) X.xe s
theorem Nh{M:Model}{A:Around}{E:Value->Shared->Prop}{s:Shared}{tg:Expr}{it:Addr}{u:Value}{o:Obj}{n:String}{vs:Array Value}{Q:Unit->Shared->Prop}(ho:s.heap.get? it=some o)(hc:o.cls = .type n)(hd:o.data = .fields vs)
    (hn:["enumerate", "zip", "dict_itemiterator", "dict_reverseitemiterator", "odict_iterator", "itertools.zip_longest", "itertools.pairwise"].contains n=false) (hQ:Q () s):wpAny M A (letOwnedTupleGo tg (.ref it) u) Q E s:=by
  unfold letOwnedTupleGo
  cases tg<;>first
    | exact AF hQ
    | (cases u<;>first
        | exact AF hQ
        | (refine AA (wpAny_load ho ?_)
           rw[hc,hd]
           show wpAny M A (if(["enumerate", "zip", "dict_itemiterator", "dict_reverseitemiterator", "odict_iterator", "itertools.zip_longest", "itertools.pairwise"].contains n&&vs[0]? == some (rawInt _))=true then _ else _) Q E s
           rw[AJ (by intro h;rw[hn,DQ]at h;cases h)]
           exact AF hQ))
def Itl(K:PySem.W.Frag)(a:Addr):It :=
 ⟨fun i H=>∃xs x,SqL K H a xs/\xs[i]?=some x,fun i H x H'=>H'=H/\∀xs,SqL K H a xs->xs[i]?=some x,fun i H=>∃xs,SqL K H a xs/\xs.length<=i⟩
def Itt(K:PySem.W.Frag)(a:Addr):It :=
 ⟨fun i H=>∃xs x,SqT K H a xs/\xs[i]?=some x,fun i H x H'=>H'=H/\∀xs,SqT K H a xs->xs[i]?=some x,fun i H=>∃xs,SqT K H a xs/\xs.length<=i⟩
def Itr(lo:Int)(n:Nat):It:=⟨fun i _=>i<n,fun i H x H'=>H'=H/\x = .int (lo+i),fun i _=>n<=i⟩
theorem Pf{P:Program}{w:World}{K:PySem.W.Frag}{tg:Expr}(a it:Addr):Turn P w K tg (Itl K a) [it] it (fun i h=>h.IsListIter it a i) where
 mem:=by simp
 obj:=fun i h st b hb=>by
  have e:b=it:=by simpa using hb
  subst e
  obtain⟨o,e,c,d⟩:=st
  exact⟨o,e,fun v z=>by rw[d]at z;cases z⟩
 keep:=fun i h h' st k=>st.at fun o e=>k it (by simp) o e
 item:=by
  intro X hP hw hK hc i pins s σ H E I hf st hg
  subst hP hw hK
  obtain⟨xs,x,hq,hx⟩:=hg
  obtain⟨its,rv,p,hz⟩:=I.list hq
  obtain⟨u,hu,ru⟩:=rv.get hx
  obtain⟨f0,f1,f2,f3,f4,f5⟩:=hf it (by simp)
  refine wpAny_pyNext_list_item st p.isList (x:=u) (by simpa using hu) fun h' st' sb=>?_
  have I1:Inv X pins σ H { s with heap:=h' }:=I.turned (t':=s.toks) (fun b o hb e=>(sb.2 b hb).trans e) f0 f1 f3 f4 f5
  obtain⟨o,e,c,d⟩:=id st'
  exact⟨u,rfl,Nh (s:={ s with heap:=h' }) e c d (by decide) ⟨x,H,I1,ru,⟨rfl,fun ys hy=>by rw[I.list_inj hy hq];exact hx⟩,st',fun b hb=>(hf b hb).1⟩⟩
 done:=by
  intro X hP hw hK hc i pins s σ H E I hf st hg
  subst hP hw hK
  obtain⟨xs,hq,hx⟩:=hg
  obtain⟨its,rv,p,hz⟩:=I.list hq
  obtain⟨f0,f1,f2,f3,f4,f5⟩:=hf it (by simp)
  have hl:=rv.length
  exact wpAny_pyNext_list_end (I.ok.hd hc) st p.isList (by simp;omega) fun h' eb=>⟨rfl,I.turned (t':=s.toks) (fun b o hb e=>eb b o hb e) f0 f1 f3 f4 f5⟩
 self:=fun _ _ _ _ _ st h=>wpAny_pyIter_listiter st h
theorem Nl{P:Program}{w:World}{K:PySem.W.Frag}{tg:Expr}(a it:Addr):Turn P w K tg (Itt K a) [it] it (fun i h=>h.IsTupleIter it a i) where
 mem:=by simp
 obj:=fun i h st b hb=>by
  have e:b=it:=by simpa using hb
  subst e
  obtain⟨o,e,c,d⟩:=st
  exact⟨o,e,fun v z=>by rw[d]at z;cases z⟩
 keep:=fun i h h' st k=>st.at fun o e=>k it (by simp) o e
 item:=by
  intro X hP hw hK hc i pins s σ H E I hf st hg
  subst hP hw hK
  obtain⟨xs,x,hq,hx⟩:=hg
  obtain⟨its,rv,p,hz⟩:=I.tuple hq
  obtain⟨u,hu,ru⟩:=rv.get hx
  obtain⟨f0,f1,f2,f3,f4,f5⟩:=hf it (by simp)
  refine wpAny_pyNext_tuple_item st (show s.heap.IsTuple a its.toArray from p) (x:=u) (by simpa using hu) fun h' st' sb=>?_
  have I1:Inv X pins σ H { s with heap:=h' }:=I.turned (t':=s.toks) (fun b o hb e=>(sb.2 b hb).trans e) f0 f1 f3 f4 f5
  obtain⟨o,e,c,d⟩:=id st'
  exact⟨u,rfl,Nh (s:={ s with heap:=h' }) e c d (by decide) ⟨x,H,I1,ru,⟨rfl,fun ys hy=>by rw[I.tuple_inj hy hq];exact hx⟩,st',fun b hb=>(hf b hb).1⟩⟩
 done:=by
  intro X hP hw hK hc i pins s σ H E I hf st hg
  subst hP hw hK
  obtain⟨xs,hq,hx⟩:=hg
  obtain⟨its,rv,p,hz⟩:=I.tuple hq
  obtain⟨f0,f1,f2,f3,f4,f5⟩:=hf it (by simp)
  have hl:=rv.length
  exact wpAny_pyNext_tuple_end (I.ok.hd hc) st (show s.heap.IsTuple a its.toArray from p) (by simp;omega) fun h' eb=>⟨rfl,I.turned (t':=s.toks) (fun b o hb e=>eb b o hb e) f0 f1 f3 f4 f5⟩
 self:=fun _ _ _ _ _ st h=>wpAny_pyIter_tupleiter st h
theorem Nw{P:Program}{w:World}{K:PySem.W.Frag}{tg:Expr}(it:Addr)(lo:Int)(n:Nat):Turn P w K tg (Itr lo n) [it] it (fun i h=>IsRangeIter h it (lo +(i:Nat)*1) ((n:Int)-(i:Nat)) 1) where
 mem:=by simp
 obj:=fun i h st b hb=>by
  have e:b=it:=by simpa using hb
  subst e
  exact⟨_,st,fun v z=>by
   have z':Data.fields _=Data.cell v:=z
   cases z'⟩
 keep:=fun i h h' st k=>k it (by simp) _ st
 item:=by
  intro X hP hw hK hc i pins s σ H E I hf st hg
  subst hP hw hK
  obtain⟨f0,f1,f2,f3,f4,f5⟩:=hf it (by simp)
  have W:=Walks.range (prog:=X.prog) (w:=X.w) (I.ok.hd hc) it lo 1 n
  refine W.item i s _ _ hg st fun v h' tk hv st' kk=>?_
  obtain⟨t,rfl⟩:=hv
  have I1:Inv X pins σ H { s with heap:=h',toks:=tk }:=I.turned (fun b o hb e=>kk b o (by simpa using hb) e) f0 f1 f3 f4 f5
  refine⟨_,rfl,Nh (s:={ s with heap:=h',toks:=tk }) (n := "range_iterator") st' rfl rfl (by decide) ⟨.int (lo+i),H,I1,⟨t,?_⟩,⟨rfl,rfl⟩,st',fun b hb=>(hf b hb).1⟩⟩
  rw[Int.mul_one]
 done:=by
  intro X hP hw hK hc i pins s σ H E I hf st hg
  subst hP hw hK
  obtain⟨f0,f1,f2,f3,f4,f5⟩:=hf it (by simp)
  exact wpAny_pyNext_range_end (I.ok.hd hc) st (by have:n<=i:=hg;omega) fun h' eb=>⟨rfl,I.turned (t':=s.toks) (fun b o hb e=>eb b o hb e) f0 f1 f3 f4 f5⟩
 self:=fun _ _ _ _ _ st h=>wpAny_pyIter_rangeiter st h
section
variable{X:Cx}{tg:Expr}
def zBp(K:PySem.W.Frag)(tl:TE):TI:=fun σ H R=>tl σ H fun x H1=>∃a,x = .ref a/\(∃xs,SqL K H1 a xs)/\R (Itl K a) H1
def zDv(K:PySem.W.Frag)(tl:TE):TI:=fun σ H R=>tl σ H fun x H1=>∃a,x = .ref a/\(∃xs,SqT K H1 a xs)/\R (Itt K a) H1
theorem Xz{l:Expr}{tl:TE}(hl:PE X l tl):PI X tg l (zBp X.K tl):=by
 intro pins s σ H R I h
 refine thn (hl pins s σ H _ I h) fun v s1 ⟨x,H1,I1,r1,q1⟩=>?_
 obtain⟨a,e,⟨xs,hq⟩,q⟩:=q1
 subst e
 cases r1
 obtain⟨its,rv,p,hz⟩:=I1.list hq
 refine HB p.isList ?_
 refine⟨s1.heap.objs.size,[s1.heap.objs.size],_,_,H1,rfl,I1.kept (t':=s1.toks) fun b o e=>AE _ e,Pf a _,⟨_,BB _ rfl,rfl,rfl⟩,fun b hb=>?_,q⟩
 have e:b=s1.heap.objs.size:=by simpa using hb
 subst e
 exact I1.fpOk (Nat.le_refl _) (I1.hok.fresh (Nat.le_refl _))
theorem Zx{l:Expr}{tl:TE}(hl:PE X l tl):PI X tg l (zDv X.K tl):=by
 intro pins s σ H R I h
 refine thn (hl pins s σ H _ I h) fun v s1 ⟨x,H1,I1,r1,q1⟩=>?_
 obtain⟨a,e,⟨xs,hq⟩,q⟩:=q1
 subst e
 cases r1
 obtain⟨its,rv,p,hz⟩:=I1.tuple hq
 refine wpAny_pyIter_tuple (show s1.heap.IsTuple a its.toArray from p) ?_
 refine⟨s1.heap.objs.size,[s1.heap.objs.size],_,_,H1,rfl,I1.kept (t':=s1.toks) fun b o e=>AE _ e,Nl a _,⟨_,BB _ rfl,rfl,rfl⟩,fun b hb=>?_,q⟩
 have e:b=s1.heap.objs.size:=by simpa using hb
 subst e
 exact I1.fpOk (Nat.le_refl _) (I1.hok.fresh (Nat.le_refl _))
theorem Sv{pins:List (Addr×Obj)}{σ:St}{H:Hp}{s:Shared}{R:It->Hp->Prop}{E:Value->Shared->Prop}{lo hi:Int}{t u v:Tok}{tk:Nat}(I:Inv X pins σ H s)(h1:-(2^62)<=lo)(h2:lo<2^62)(h3:-(2^62)<=hi)(h4:hi<2^62)
  (q:R (Itr lo (hi-lo).toNat) H):wpAny (model X.prog X.w) X.A (pyIter (.ref s.heap.objs.size)) (PIE X pins σ tg R) E { s with heap:=s.heap.push { cls:=.type "range",data:=.fields #[.int lo t,.int hi u,.int 1 v] },toks:=tk }:=by
 refine wpAny_pyIter_range (IsRange.new ..) (small_one h1 h2 h3 h4) ?_
 have I1:Inv X pins σ H { s with heap:=s.heap.push { cls:=.type "range",data:=.fields #[.int lo t,.int hi u,.int 1 v] },toks:=tk }:=I.kept fun b o e=>AE _ e
 refine⟨(s.heap.push { cls:=.type "range",data:=.fields #[.int lo t,.int hi u,.int 1 v] }).objs.size,[(s.heap.push { cls:=.type "range",data:=.fields #[.int lo t,.int hi u,.int 1 v] }).objs.size],_,_,H,rfl,
  I1.kept (t':=tk) fun b o e=>AE _ e,Nw _ lo (hi-lo).toNat,?_,fun b hb=>?_,q⟩
 ·have e1:lo +((0:Nat):Int)*1=lo:=by simp
  have e2:(((hi-lo).toNat:Nat):Int)-((0:Nat):Int)=Builtin.Range.rangeSize lo hi 1:=by rw[rangeSize_one];split<;>omega
  show IsRangeIter _ _ (lo +((0:Nat):Int)*1) ((((hi-lo).toNat:Nat):Int)-((0:Nat):Int)) 1
  rw[e1,e2]
  exact BB _ rfl
 ·have e:b =(s.heap.push { cls:=.type "range",data:=.fields #[.int lo t,.int hi u,.int 1 v] }).objs.size:=by simpa using hb
  subst e
  exact I1.fpOk (Nat.le_refl _) (I1.hok.fresh (Nat.le_refl _))
def Zy(ta:TA):TI:=fun σ H R=>ta σ H fun vs H1=>∃j:Int,vs = [.int j]/\-(2^62)<=j/\j<2^62/\R (Itr 0 j.toNat) H1
theorem Py{a:Expr}{ta:TA}{p pos:Pos}(hg:Gl X "range")(hm:X.mg "range" = none)(ha:PA X [a] ta)(hs:starEach [a] X.env = [(false,eval a X.env)]:=by rfl):PI X tg (.Call (.Name "range" p) [a] [] pos) (Zy ta):=by
 intro pins s σ H R I h
 refine Call_ (Di I hg hm boot_range (PyProof.Rows.callWith_type1 (thn (ha pos pins s σ H _ I h) fun us s1 ⟨vs,H1,I1,r1,q1⟩=>?_) hs rfl))
 obtain⟨j,e,q1,q2,q⟩:=q1
 subst e
 cases r1 with
 | cons r rr =>
  cases rr
  obtain⟨t,rfl⟩:=r
  exact call_range_1 (Sv I1 (by omega) (by omega) q1 q2 (by simpa using q))
def zEq(wi:TI)(g:TG)(tb:TS):TS:=fun D σ H=>wi σ H fun J H1=>∃W:Nat->Nat->St->Hp->Prop,(∃m,W 0 m σ H1)/\∀i m σ H,W i m σ H ->
 (J.stop i H/\D.nx σ H)\/(J.go i H/\∃N:St->Hp->Prop,(∀σ' H',N σ' H'->∃m',m' < m/\W (i+1) m' σ' H')/\∀x H',J.yld i H x H'->g x σ H' fun σ2 H2=>tb { D with nx:=N,ct:=N,bk:=D.nx } σ2 H2)
def Go(fp:List Addr)(h:Heap):List (Addr×Obj):=fp.filterMap fun b=>(h.get? b).map fun o=>(b,o)
theorem V7{fp:List Addr}{h:Heap}{b:Addr}{o:Obj}(hb:b∈fp)(e:h.get? b=some o):(b,o)∈Go fp h:=List.mem_filterMap.mpr ⟨b,hb,by rw[e];rfl⟩
theorem Og{fp:List Addr}{h:Heap}{p:Addr×Obj}(hp:p∈Go fp h):p.1∈fp/\h.get? p.1=some p.2:=by
 obtain⟨b,hb,e⟩:=List.mem_filterMap.mp hp
 cases q:h.get? b with
 | none=>rw[q]at e;cases e
 | some o =>
  rw[q]at e
  have e':(b,o)=p:=BH e
  subst e'
  exact⟨hb,q⟩
theorem Inv.pinned{pins:List (Addr×Obj)}{σ:St}{H:Hp}{s:Shared}{fp:List Addr}(I:Inv X pins σ H s)(hf:∀b∈fp,Gs X pins H b)(ho:∀b∈fp,∃o,s.heap.get? b=some o/\∀v,o.data≠ .cell v):Inv X (pins++Go fp s.heap) σ H s :=
 I.pins_of fun p hp=>(AV.mp hp).elim (fun z=>I.pin p (BV _ z)) fun z=>by
  obtain⟨hb,e⟩:=Og z
  obtain⟨f0,f1,f2,_⟩:=hf p.1 hb
  obtain⟨o,e',d⟩:=ho p.1 hb
  rw[e]at e';cases e'
  exact⟨e,f0,f1,f2,d⟩
theorem Inv.unpinned{pins pl:List (Addr×Obj)}{σ:St}{H:Hp}{s:Shared}(I:Inv X (pins++pl) σ H s):Inv X pins σ H s:=I.pins_of fun p hp=>I.pin p (BV _ (FM _ hp))
theorem V3{iter:Expr}{body:List Stmt}{wi:TI}{g:TG}{tb:TS}{pos:Pos}(hp:PassesOwn (model X.prog X.w) X.A X.env X.xe)(hc:X.calm=true)(hi:PI X tg iter wi)(hg:PG X tg g)(hb:PSs X body tb)
  (hs:∀x,foldedSetIterable iter X.env x=pure x:=by intro _;rfl):PS X (.For tg iter body [] pos) (zEq wi g tb):=by
 intro pins s σ H D I h
 refine wpAny_For (thn (hi pins s σ H _ I h) fun v s1 h1=>thn h1 fun itv s2 h2=>?_) hs
 obtain⟨it,fp,tn,J,H2,e,I2,T,st2,f2,W,⟨m0,w0⟩,turn⟩:=h2
 subst e
 have stat:∀{H':Hp},(∀b∈fp,H' b=none)->∀b∈fp,Gs X pins H' b:=fun hn b hb=>⟨hn b hb,(f2 b hb).2⟩
 refine codeAny_forLoop_any (fun n s'=>∃i σ' H',Inv X pins σ' H' s'/\tn i s'.heap/\(∀b∈fp,H' b=none)/\W i n σ' H') ?_ m0 ⟨0,σ,H2,I2,st2,fun b hb=>(f2 b hb).1,w0⟩
 rintro n s3 ⟨i,σ3,H3,I3,st3,fr3,w3⟩
 rcases turn i n σ3 H3 w3 with⟨stop,qn⟩ | ⟨go,N,hN,step⟩
 ·refine FG hp (thn (T.done X rfl rfl rfl hc i pins s3 σ3 H3 X.xe I3 (stat fr3) st3 stop) fun r s4 ⟨hr,I4⟩=>?_)
  subst hr
  exact wpAny_execs_nil ⟨σ3,H3,I4,qn⟩
 ·refine FG hp (thn (T.item X rfl rfl rfl hc i pins s3 σ3 H3 X.xe I3 (stat fr3) st3 go) fun r s4 ⟨u,hr,h4⟩=>?_)
  subst hr
  refine FG hp (thn h4 fun _ s5 ⟨x,H5,I5,r5,y5,st5,fr5⟩=>?_)
  have I5':=I5.pinned (stat fr5) (T.obj _ _ st5)
  refine FG hp (thn (hg _ s5 σ3 H5 x u _ I5' r5 (step x H5 y5)) fun _ s6 ⟨σ6,H6,I6,q6⟩=>?_)
  refine FG hp (thn (hb _ s6 σ6 H6 _ I6 q6) fun f s7 q7=>?_)
  have again:∀{σ7:St} {H7:Hp},Inv X (pins++Go fp s5.heap) σ7 H7 s7->N σ7 H7->∃m,m<n/\∃i σ' H',Inv X pins σ' H' s7/\tn i s7.heap/\(∀b∈fp,H' b=none)/\W i m σ' H':=fun{σ7 H7} I7 n7=>by
   obtain⟨m',hm,w7⟩:=hN σ7 H7 n7
   refine⟨m',hm,i+1,σ7,H7,I7.unpinned,T.keep _ _ _ st5 fun b hb o e=>(I7.pin (b,o) (BV _ (BV _ (V7 hb e)))).1,fun b hb=>?_,w7⟩
   obtain⟨o,e,d⟩:=T.obj _ _ st5 b hb
   exact(I7.pin (b,o) (BV _ (BV _ (V7 hb e)))).2.1
  cases f with
  | next=>obtain⟨σ7,H7,I7,n7⟩:=q7;exact again I7 n7
  | cont=>obtain⟨σ7,H7,I7,n7⟩:=q7;exact again I7 n7
  | brk=>obtain⟨σ7,H7,I7,q7⟩:=q7;exact⟨σ7,H7,I7.unpinned,q7⟩
  | ret v=>obtain⟨x7,σ7,H7,I7,r7,q7⟩:=q7;exact⟨x7,σ7,H7,I7.unpinned,r7,q7⟩
end
theorem Oo{lo:Int}{n:Nat}{g:TG}{tb:TS}{D:Ends}{σ:St}{H:Hp}(Pv:Nat->St->Hp->Prop)(h0:Pv 0 σ H)
  (hs:∀i σ H,i<n->Pv i σ H->g (.int (lo+i)) σ H fun σ2 H2=>tb { D with nx:=Pv (i+1),ct:=Pv (i+1),bk:=D.nx } σ2 H2) (hd:∀σ H,Pv n σ H->D.nx σ H) :
  ∃W:Nat->Nat->St->Hp->Prop,(∃m,W 0 m σ H)/\∀i m σ H,W i m σ H ->
   ((Itr lo n).stop i H/\D.nx σ H)\/((Itr lo n).go i H/\∃N:St->Hp->Prop,(∀σ' H',N σ' H'->∃m',m' < m/\W (i+1) m' σ' H')/\∀x H',(Itr lo n).yld i H x H'->g x σ H' fun σ2 H2=>tb { D with nx:=N,ct:=N,bk:=D.nx } σ2 H2):=by
 refine⟨fun i m σ H=>m=n-i/\i<=n/\Pv i σ H,⟨n,by simp,CA _,h0⟩,?_⟩
 rintro i m σ H ⟨rfl,hi,p⟩
 by_cases hlt:i<n
 ·refine .inr ⟨hlt,Pv (i+1),fun σ' H' p'=>⟨n-(i+1),by omega,rfl,hlt,p'⟩,fun x H' y=>?_⟩
  obtain⟨e,y⟩:=y
  subst e y
  exact hs i σ _ hlt p
 ·have e:i=n:=by omega
  subst e
  exact .inl ⟨Nat.le_refl _,hd σ H p⟩
abbrev R2:=V->V->Hp->VK->Prop
def OpR(X:Cx)(f:Value->Value->Sem Value)(r:R2):Prop :=
 ∀(pins:List (Addr×Obj)) (s:Shared) (σ:St) (H:Hp) (x y:V) (v u:Value) (Q:VK),Inv X pins σ H s->RelV x v->RelV y u->r x y H Q ->
  wpAny (model X.prog X.w) X.A (f v u) (EP X pins σ Q) X.xe s
def UnR(X:Cx)(f:Value->Sem Value)(r:V->Hp->VK->Prop):Prop :=
 ∀(pins:List (Addr×Obj)) (s:Shared) (σ:St) (H:Hp) (x:V) (v:Value) (Q:VK),Inv X pins σ H s->RelV x v->r x H Q ->
  wpAny (model X.prog X.w) X.A (f v) (EP X pins σ Q) X.xe s
def J0(X:Cx)(f:Value)(r:List V->Hp->VK->Prop):Prop :=
 ∀(pins:List (Addr×Obj)) (s:Shared) (σ:St) (H:Hp) (xs:List V) (us:List Value) (Q:VK),Inv X pins σ H s->Vals xs us->r xs H Q ->
  wpAny (model X.prog X.w) X.A (call f us) (EP X pins σ Q) X.xe s
def zEj(X:Cx)(r:V->Hp->(Bool->Hp->Prop)->Prop):Prop :=
 ∀(pins:List (Addr×Obj)) (s:Shared) (σ:St) (H:Hp) (x:V) (v:Value) (Q:Bool->Hp->Prop),Inv X pins σ H s->RelV x v->r x H Q ->
  wpAny (model X.prog X.w) X.A (truthy v) (TP X pins σ Q) X.xe s
def tOp(r:R2)(ta tb:TE):TE:=fun σ H Q=>ta σ H fun x H1=>tb σ H1 fun y H2=>r x y H2 Q
def tUn(r:V->Hp->VK->Prop)(ta:TE):TE:=fun σ H Q=>ta σ H fun x H1=>r x H1 Q
def rI(C:Int->Int->Prop)(g:Int->Int->V):R2:=fun x y H Q=>∃i j,x = .int i/\y = .int j/\C i j/\Q (g i j) H
def rI0(g:Int->Int->V):R2:=fun x y H Q=>∃i j,x = .int i/\y = .int j/\Q (g i j) H
def rU(g:Int->V):V->Hp->VK->Prop:=fun x H Q=>∃i,x = .int i/\Q (g i) H
section
variable{X:Cx}{a b c:Expr}{ta tb tc:TE}{pos:Pos}
theorem zCn(ha:PE X a ta)(hb:PE X b tb){pins:List (Addr×Obj)}{s:Shared}{σ:St}{H:Hp}{R:V->V->Hp->Prop}(I:Inv X pins σ H s)
  (h:ta σ H fun x H1=>tb σ H1 fun y H2=>R x y H2) {Q:Value->Shared->Prop} {f:Value->Value->Sem Value}
  (hf:∀v u s2 x y H2,Inv X pins σ H2 s2->RelV x v->RelV y u->R x y H2->wpAny (model X.prog X.w) X.A (f v u) Q X.xe s2) :
  wpAny (model X.prog X.w) X.A (eval a X.env) (fun v s₁=>wpAny (model X.prog X.w) X.A (eval b X.env) (fun u s₂=>wpAny (model X.prog X.w) X.A (f v u) Q X.xe s₂) X.xe s₁) X.xe s:=by
 refine thn (ha pins s σ H _ I h) fun v s1 ⟨x,H1,I1,r1,q1⟩=>?_
 refine thn (hb pins s1 σ H1 _ I1 q1) fun u s2 ⟨y,H2,I2,r2,q2⟩=>?_
 exact hf v u s2 x y H2 I2 r1 r2 q2
theorem D9{op:Operator}{r:R2}(ho:OpR X (binaryOp op) r)(ha:PE X a ta)(hb:PE X b tb):PE X (.BinOp a op b pos) (tOp r ta tb):=by
 intro pins s σ H Q I h
 exact wpAny_BinOp (zCn ha hb I h fun v u s2 x y H2 I2 rx ry q=>ho pins s2 σ H2 x y v u Q I2 rx ry q)
theorem zCw{op:UnaryOp}{r:V->Hp->VK->Prop}(ho:UnR X (unaryOp op) r)(ha:PE X a ta):PE X (.UnaryOp op a pos) (tUn r ta):=by
 intro pins s σ H Q I h
 exact UnaryOp_ (thn (ha pins s σ H _ I h) fun v s1 ⟨x,H1,I1,r1,q1⟩=>ho pins s1 σ H1 x v Q I1 r1 q1)
theorem opI{f:Value->Value->Sem Value}{C:Int->Int->Prop}{g:Int->Int->Int}
  (rule:∀(i j:Int) (t u:Tok) (s:Shared) (Q:Value->Shared->Prop) (E:Value->Shared->Prop),C i j->Q (.int (g i j) s.toks) { s with toks:=s.toks+1 }->wpAny (model X.prog X.w) X.A (f (.int i t) (.int j u)) Q E s) :
  OpR X f (rI C fun i j=>.int (g i j)):=by
 intro pins s σ H x y v u Q I rx ry h
 obtain⟨i,j,rfl,rfl,hc,q⟩:=h
 obtain⟨t,rfl⟩:=rx
 obtain⟨t',rfl⟩:=ry
 exact rule i j t t' s _ _ hc ⟨.int (g i j),H,I.tok _,⟨_,rfl⟩,q⟩
theorem Zq{f:Value->Value->Sem Value}{g:Int->Int->Int}
  (rule:∀(i j:Int) (t u:Tok) (s:Shared) (Q:Value->Shared->Prop) (E:Value->Shared->Prop),Q (.int (g i j) s.toks) { s with toks:=s.toks+1 }->wpAny (model X.prog X.w) X.A (f (.int i t) (.int j u)) Q E s) :
  OpR X f (rI0 fun i j=>.int (g i j)):=by
 intro pins s σ H x y v u Q I rx ry h
 obtain⟨i,j,rfl,rfl,q⟩:=h
 obtain⟨t,rfl⟩:=rx
 obtain⟨t',rfl⟩:=ry
 exact rule i j t t' s _ _ ⟨.int (g i j),H,I.tok _,⟨_,rfl⟩,q⟩
theorem zBx{f:Value->Value->Sem Value}{g:Int->Int->Bool}
  (rule:∀(i j:Int) (t u:Tok) (s:Shared) (Q:Value->Shared->Prop) (E:Value->Shared->Prop),Q (.bool (g i j)) s->wpAny (model X.prog X.w) X.A (f (.int i t) (.int j u)) Q E s) :
  OpR X f (rI0 fun i j=>.bl (g i j)):=by
 intro pins s σ H x y v u Q I rx ry h
 obtain⟨i,j,rfl,rfl,q⟩:=h
 obtain⟨t,rfl⟩:=rx
 obtain⟨t',rfl⟩:=ry
 exact rule i j t t' s _ _ ⟨.bl (g i j),H,I,rfl,q⟩
def zFa(i j:Int):Prop:=0<j/\j<1073741824
def zDw(i j:Int):Prop:=0<=j/\j<=1000000/\i.natAbs<2^64
def CMul(i j:Int):Prop:=(-(2^64)<i/\i<2^64)\/(-(2^64)<j/\j<2^64)
theorem CMul.ok{i j:Int}(h:CMul i j):IntMulOk i j:=by
 rcases h with⟨h1,h2⟩ | ⟨h1,h2⟩
 ·exact .of_left (intBits_le_64 h1 h2)
 ·exact .of_right (intBits_le_64 h1 h2)
theorem Bi:OpR X (binaryOp .Add) (rI0 fun i j=>.int (i+j)):=Zq fun _ _ _ _ _ _ _ q=>add_int q
theorem zAm:OpR X (binaryOp .Sub) (rI0 fun i j=>.int (i-j)):=Zq fun _ _ _ _ _ _ _ q=>sub_int q
theorem Bu:OpR X (binaryOp .Mult) (rI CMul fun i j=>.int (i*j)):=opI fun _ _ _ _ _ _ _ hc q=>mul_int q hc.ok
theorem Pg:OpR X (binaryOp .FloorDiv) (rI zFa fun i j=>.int (i / j)):=opI fun i j _ _ _ _ _ hc q=>by
 have h1:(0:Int)<j:=hc.1
 have h2:j<1073741824:=hc.2
 exact floordiv_int (by omega) (by rw[Int.fdiv_eq_ediv_of_nonneg i (by omega)];exact q) (.inl (PyProof.noPylong_small (by omega)))
theorem Gu:OpR X (binaryOp .Mod) (rI (fun _ j=>0<j) fun i j=>.int (i % j)):=opI fun i j _ _ _ _ _ hc q=>by
 have h1:(0:Int)<j:=hc
 exact mod_int' (by omega) (by rw[Int.fmod_eq_emod_of_nonneg i (by omega)];exact q)
theorem zBj:OpR X (binaryOp .Pow) (rI zDw fun i j=>.int (i^j.toNat)):=opI fun _ _ _ _ _ _ _ hc q=>pow_int_small hc.1 hc.2.1 hc.2.2 q
theorem Zz:OpR X (binaryOp .LShift) (rI zDw fun i j=>.int (i*2^j.toNat)):=opI fun _ _ _ _ _ _ _ hc q=>lshift_int_small hc.1 hc.2.1 hc.2.2 q
theorem X0:OpR X (binaryOp .BitAnd) (rI0 fun i j=>.int (Builtin.bitAnd i j)):=Zq fun _ _ _ _ _ _ _ q=>and_int q
theorem n0:OpR X (binaryOp .BitOr) (rI0 fun i j=>.int (Builtin.bitOr i j)):=Zq fun _ _ _ _ _ _ _ q=>or_int q
theorem Cp:OpR X (binaryOp .BitXor) (rI0 fun i j=>.int (Builtin.bitXor i j)):=Zq fun _ _ _ _ _ _ _ q=>xor_int q
theorem unI{f:Value->Sem Value}{g:Int->Int}
  (rule:∀(i:Int) (t:Tok) (s:Shared) (Q:Value->Shared->Prop) (E:Value->Shared->Prop),Q (.int (g i) s.toks) { s with toks:=s.toks+1 }->wpAny (model X.prog X.w) X.A (f (.int i t)) Q E s) :
  UnR X f (rU fun i=>.int (g i)):=by
 intro pins s σ H x v Q I rx h
 obtain⟨i,rfl,q⟩:=h
 obtain⟨t,rfl⟩:=rx
 exact rule i t s _ _ ⟨.int (g i),H,I.tok _,⟨_,rfl⟩,q⟩
theorem zAk:UnR X (unaryOp .USub) (rU fun i=>.int (-i)):=unI fun _ _ _ _ _ q=>neg_int q
end
def zDt:V->V->Bool
 | .non,.non=>true | .non,.int _=>true | .int _,.non=>true | .non,.bl _=>true | .bl _,.non=>true | .non,.str _=>true | .str _,.non=>true
 | .int _,.int _=>true | .bl _,.bl _=>true | .str _,.str _=>true | .byt _,.byt _=>true
 | .int _,.str _=>true | .str _,.int _=>true | .bl _,.str _=>true | .str _,.bl _=>true
 | _,_=>false
def rEq:R2:=fun x y H Q=>zDt x y=true/\Q (.bl (decide (x=y))) H
def rNe:R2:=fun x y H Q=>zDt x y=true/\Q (.bl (!decide (x=y))) H
theorem Rh{i j:Int}:decide (V.int i=V.int j) =(i == j):=by
 rw[CK]
 simp
theorem Vb{i j:Bool}:decide (V.bl i=V.bl j) =(i == j):=by
 rw[CK]
 simp
theorem Rg{i j:Str}:decide (V.str i=V.str j) =(i == j):=by
 rw[CK]
 simp
theorem Rc{i j:Array UInt8}:decide (V.byt i=V.byt j) =(i.toList == j.toList):=by
 rw[CK]
 cases i
 cases j
 simp
section
variable{X:Cx}{a b c:Expr}{ta tb tc:TE}{pos:Pos}
theorem E6{pins:List (Addr×Obj)}{σ:St}{H:Hp}{s:Shared}{Q:VK}{k k':Bool}(I:Inv X pins σ H s)(q:Q (.bl k) H)(e:k=k'):EP X pins σ Q (.bool k') s:=by
 subst e
 exact⟨.bl k,H,I,rfl,q⟩
theorem j8:OpR X (compareOp .Eq) rEq:=by
 intro pins s σ H x y v u Q I rx ry h
 obtain⟨hs,q⟩:=h
 cases x with
 | non =>
  cases rx
  cases y with
  | non=>cases ry;exact PySem.EqNone.eq_none_none (E6 I q (by simp))
  | bl j=>cases ry;exact PySem.EqNone.eq_none_bool (E6 I q (by simp))
  | int j=>obtain⟨t',rfl⟩:=ry;exact PySem.EqNone.eq_none_int (E6 I q (by simp))
  | str j=>obtain⟨t',rfl⟩:=ry;exact PySem.EqNone.eq_none_str (E6 I q (by simp))
  | _=>exact absurd (show false=true from hs) BC
 | bl i =>
  cases rx
  cases y with
  | non=>cases ry;exact PySem.EqNone.eq_bool_none (E6 I q (by simp))
  | bl j=>cases ry;exact eq_bool (E6 I q Vb)
  | str j=>obtain⟨t',rfl⟩:=ry;exact PySem.EqMixed.eq_bool_str (E6 I q (by simp))
  | _=>exact absurd (show false=true from hs) BC
 | int i =>
  obtain⟨t,rfl⟩:=rx
  cases y with
  | non=>cases ry;exact PySem.EqNone.eq_int_none (E6 I q (by simp))
  | int j=>obtain⟨t',rfl⟩:=ry;exact eq_int (E6 I q Rh)
  | str j=>obtain⟨t',rfl⟩:=ry;exact PySem.EqMixed.eq_int_str (E6 I q (by simp))
  | _=>exact absurd (show false=true from hs) BC
 | str i =>
  obtain⟨t,rfl⟩:=rx
  cases y with
  | non=>cases ry;exact PySem.EqNone.eq_str_none (E6 I q (by simp))
  | bl j=>cases ry;exact PySem.EqMixed.eq_str_bool (E6 I q (by simp))
  | int j=>obtain⟨t',rfl⟩:=ry;exact PySem.EqMixed.eq_str_int (E6 I q (by simp))
  | str j=>obtain⟨t',rfl⟩:=ry;exact eq_str (E6 I q Rg)
  | _=>exact absurd (show false=true from hs) BC
 | byt i =>
  obtain⟨t,rfl⟩:=rx
  cases y with
  | byt j=>obtain⟨t',rfl⟩:=ry;exact PySem.W.eq_bytes (E6 I q Rc)
  | _=>exact absurd (show false=true from hs) BC
 | _=>cases y<;>exact absurd (show false=true from hs) BC
theorem Uj:OpR X (compareOp .NotEq) rNe:=by
 intro pins s σ H x y v u Q I rx ry h
 obtain⟨hs,q⟩:=h
 cases x with
 | non =>
  cases rx
  cases y with
  | non=>cases ry;exact PySem.EqNone.ne_none_none (E6 I q (by simp))
  | bl j=>cases ry;exact PySem.EqNone.ne_none_bool (E6 I q (by simp))
  | int j=>obtain⟨t',rfl⟩:=ry;exact PySem.EqNone.ne_none_int (E6 I q (by simp))
  | str j=>obtain⟨t',rfl⟩:=ry;exact PySem.EqNone.ne_none_str (E6 I q (by simp))
  | _=>exact absurd (show false=true from hs) BC
 | bl i =>
  cases rx
  cases y with
  | non=>cases ry;exact PySem.EqNone.ne_bool_none (E6 I q (by simp))
  | bl j=>cases ry;exact ne_bool (E6 I q (congrArg not Vb))
  | str j=>obtain⟨t',rfl⟩:=ry;exact PySem.EqMixed.ne_bool_str (E6 I q (by simp))
  | _=>exact absurd (show false=true from hs) BC
 | int i =>
  obtain⟨t,rfl⟩:=rx
  cases y with
  | non=>cases ry;exact PySem.EqNone.ne_int_none (E6 I q (by simp))
  | int j=>obtain⟨t',rfl⟩:=ry;exact ne_int (E6 I q (congrArg not Rh))
  | str j=>obtain⟨t',rfl⟩:=ry;exact PySem.EqMixed.ne_int_str (E6 I q (by simp))
  | _=>exact absurd (show false=true from hs) BC
 | str i =>
  obtain⟨t,rfl⟩:=rx
  cases y with
  | non=>cases ry;exact PySem.EqNone.ne_str_none (E6 I q (by simp))
  | bl j=>cases ry;exact PySem.EqMixed.ne_str_bool (E6 I q (by simp))
  | int j=>obtain⟨t',rfl⟩:=ry;exact PySem.EqMixed.ne_str_int (E6 I q (by simp))
  | str j=>obtain⟨t',rfl⟩:=ry;exact ne_str (E6 I q (congrArg not Rg))
  | _=>exact absurd (show false=true from hs) BC
 | byt i =>
  obtain⟨t,rfl⟩:=rx
  cases y with
  | byt j=>obtain⟨t',rfl⟩:=ry;exact PySem.W.ne_bytes (E6 I q (congrArg not Rc))
  | _=>exact absurd (show false=true from hs) BC
 | _=>cases y<;>exact absurd (show false=true from hs) BC
theorem zCq:OpR X (compareOp .Lt) (rI0 fun i j=>.bl (decide (i<j))):=zBx fun _ _ _ _ _ _ _ q=>lt_int q
theorem Zb:OpR X (compareOp .LtE) (rI0 fun i j=>.bl (decide (i<=j))):=zBx fun _ _ _ _ _ _ _ q=>le_int q
theorem Zm:OpR X (compareOp .Gt) (rI0 fun i j=>.bl (decide (j<i))):=zBx fun _ _ _ _ _ _ _ q=>gt_int q
theorem zCs:OpR X (compareOp .GtE) (rI0 fun i j=>.bl (decide (j<=i))):=zBx fun _ _ _ _ _ _ _ q=>ge_int q
theorem Pi:OpR X (compareOp .In) (fun x y H Q=>∃i j,x = .str i/\y = .str j/\Q (.bl (!(Builtin.Str.occurrences j i 0 j.length 1).isEmpty)) H):=by
 intro pins s σ H x y v u Q I rx ry h
 obtain⟨i,j,rfl,rfl,q⟩:=h
 obtain⟨t,rfl⟩:=rx
 obtain⟨t',rfl⟩:=ry
 exact in_str (E6 I q rfl)
theorem F0(b:Expr){op:CmpOp}(h:op≠ .In:=by decide)(h2:op≠ .NotIn:=by decide):behindInMarks op b=false:=by
 have e1:(op == CmpOp.In)=false:=by cases op<;>first | rfl | exact absurd rfl h
 have e2:(op == CmpOp.NotIn)=false:=by cases op<;>first | rfl | exact absurd rfl h2
 cases b<;>simp[behindInMarks,e1,e2]
theorem I0{op:CmpOp}{r:R2}(ho:OpR X (compareOp op) r)(ha:PE X a ta)(hb:PE X b tb)(hm:behindInMarks op b=false):PE X (.Compare a [op] [b] pos) (tOp r ta tb):=by
 intro pins s σ H Q I h
 exact wpAny_Compare1 (zCn ha hb I h fun v u s2 x y H2 I2 rx ry q=>ho pins s2 σ H2 x y v u Q I2 rx ry q) hm
def Zu(t:TE):TT:=fun σ H Q=>t σ H fun x H'=>∃k,x = .bl k/\Q k H'
theorem C3{op:CmpOp}{r:R2}(ho:OpR X (compareOp op) r)(ha:PE X a ta)(hb:PE X b tb)(hm:behindInMarks op b=false):PT X (.Compare a [op] [b] pos) (Zu (tOp r ta tb)):=by
 intro pins s σ H Q I h
 refine wpAny_isTrue_Compare1 (thn (ha pins s σ H _ I h) fun v s1 ⟨x,H1,I1,r1,q1⟩=>thn (hb pins s1 σ H1 _ I1 q1) fun u s2 ⟨y,H2,I2,r2,q2⟩ =>
  thn (ho pins s2 σ H2 x y v u _ I2 r1 r2 q2) fun c s3 ⟨z,H3,I3,r3,k,e,q3⟩=>?_) hm
 subst e
 cases r3
 exact DA ⟨H3,I3,q3⟩
def Zr(r r':R2)(ta tb tc:TE):TE:=fun σ H Q=>ta σ H fun x H1=>tb σ H1 fun y H2=>r x y H2 fun z H3=>∃k,z = .bl k /\
 (if k=true then tc σ H3 fun w' H4=>r' y w' H4 Q else Q (.bl false) H3)
theorem Ue{op op':CmpOp}{r r':R2}(ho:OpR X (compareOp op) r)(ho':OpR X (compareOp op') r')(ha:PE X a ta)(hb:PE X b tb)(hc:PE X c tc)
  (hm:lastMarks [op,op'] [b,c]=false:=by with_unfolding_all rfl):PT X (.Compare a [op,op'] [b,c] pos) (Zu (Zr r r' ta tb tc)):=by
 intro pins s σ H Q I h
 refine isTrue_chain (thn (ha pins s σ H _ I h) fun v s1 ⟨x,H1,I1,r1,q1⟩=>test_link (thn (hb pins s1 σ H1 _ I1 q1) fun u s2 ⟨y,H2,I2,r2,q2⟩ =>
  thn (ho pins s2 σ H2 x y v u _ I2 r1 r2 q2) fun d s3 ⟨z,H3,I3,r3,k,e,q3⟩=>?_)) hm
 subst e
 cases r3
 refine DA ?_
 cases k with
 | false =>
  obtain⟨k',e',q'⟩:=q3
  cases e'
  exact ite_ff ⟨H3,I3,q'⟩
 | true =>
  refine ite_tt (test_last (thn (hc pins s3 σ H3 _ I3 q3) fun w' s4 ⟨z',H4,I4,r4,q4⟩=>thn (ho' pins s4 σ H4 y z' u w' _ I4 r2 r4 q4) fun d' s5 ⟨z2,H5,I5,r5,k2,e2,q5⟩=>?_))
  subst e2
  cases r5
  exact DA ⟨H5,I5,q5⟩
def zDb(K:PySem.W.Frag)(x:V)(H:Hp)(k:Bool):Prop :=
 match x with
 | .non=>k=false
 | .bl b=>k=b
 | .int i=>k =(i != 0)
 | .str y=>y.length<=sizeLine/\k =((y.length:Int) != 0)
 | .byt y=>y.size<=sizeLine/\k =((y.size:Int) != 0)
 | .ref p=>(∃xs,SqL K H p xs/\k=!xs.isEmpty)\/(∃xs,SqT K H p xs/\k=!xs.isEmpty)\/∃kvs,H p=some (.dK kvs)/\k=!kvs.isEmpty
 | _=>False
theorem Nk{κ:Type}{kvs:List (κ×V)}{vs:List (κ×Value)}(r:KV kvs vs):(!vs.isEmpty)=!kvs.isEmpty:=by
 cases r<;>rfl
theorem Dr{xs:List V}{its:List Value}(r:Vals xs its):(!its.toArray.isEmpty)=!xs.isEmpty:=by
 cases r<;>simp
theorem Ct:(sizeLine:Nat)<2^63:=by rw[sizeLine_eq];decide
theorem Zi:zEj X (fun x H Q=>∃k,zDb X.K x H k/\Q k H):=by
 intro pins s σ H x v Q I rx h
 obtain⟨k,e,q⟩:=h
 have hl:=Ct
 have hs:sizeLine=16777216:=sizeLine_eq
 cases x with
 | non =>
  cases rx
  have e':k=false:=e
  subst e'
  exact truthy_none ⟨H,I,q⟩
 | bl b =>
  cases rx
  have e':k=b:=e
  subst e'
  exact DA ⟨H,I,q⟩
 | int i =>
  obtain⟨t,rfl⟩:=rx
  have e':k =(i != 0):=e
  subst e'
  exact PySem.P.truthy_int ⟨H,I,q⟩
 | str y =>
  obtain⟨t,rfl⟩:=rx
  obtain⟨hy,e'⟩:y.length<=sizeLine/\k =((y.length:Int) != 0):=e
  subst e'
  exact PySem.P.truthy_str (by omega) ⟨H,I.tok _,q⟩
 | byt y =>
  obtain⟨t,rfl⟩:=rx
  obtain⟨hy,e'⟩:y.size<=sizeLine/\k =((y.size:Int) != 0):=e
  subst e'
  exact PySem.W.truthy_bytes (by omega) ⟨H,I.tok _,q⟩
 | ref p =>
  cases rx
  have e':(∃xs,SqL X.K H p xs/\k=!xs.isEmpty)\/(∃xs,SqT X.K H p xs/\k=!xs.isEmpty)\/∃kvs,H p=some (.dK kvs)/\k=!kvs.isEmpty:=e
  rcases e' with⟨xs,hx,e'⟩ | ⟨xs,hx,e'⟩ | ⟨kvs,hx,e'⟩
  ·subst e'
   obtain⟨its,r,pl,hz⟩:=I.list hx
   have hlen:=r.length
   exact wpAny_truthy_list pl.isList (by simp only[AZ];omega) ⟨H,I.tok _,by rw[Dr r];exact q⟩
  ·subst e'
   obtain⟨its,r,pl,hz⟩:=I.tuple hx
   have hlen:=r.length
   exact truthy_tuple pl (by simp only[AZ];omega) ⟨H,I.tok _,by rw[Dr r];exact q⟩
  ·subst e'
   obtain⟨hz,hS,vs,r,m⟩:kvs.length<=sizeLine/\(p == sysModules)=false/\∃vs,KV kvs vs/\s.heap.DictOf (C2 X.prog X.w) p vs:=I.hok p _ hx
   have hlen:kvs.length=vs.length:=Paired.length r
   exact wpAny_truthy_dict hS m (by omega) ⟨H,I.tok _,by rw[Nk r];exact q⟩
 | _=>exact(show False from e).elim
theorem Uk(ha:PE X a ta)(he:∀whole,isTrue a X.env whole =(do let v <-whole;standAt a.pos;holding [v] (truthy v))) :
  PT X a (fun σ H Q=>ta σ H fun x H'=>∃k,zDb X.K x H' k/\Q k H'):=by
 intro pins s σ H Q I h
 exact isTrue_plain (thn (ha pins s σ H _ I h) fun v s1 ⟨x,H1,I1,r1,q1⟩=>Zi pins s1 σ H1 x v Q I1 r1 q1) (he _)
theorem V2{x:V}{us:List Value}(r:Vals [x] us):∃u,us = [u]/\RelV x u:=by
 cases r with
 | cons r1 r2=>cases r2;exact⟨_,rfl,r1⟩
theorem zAi{x y:V}{us:List Value}(r:Vals [x,y] us):∃u w',us = [u,w']/\RelV x u/\RelV y w':=by
 cases r with
 | cons r1 r2 =>
  cases r2 with
  | cons r3 r4=>cases r4;exact⟨_,_,rfl,r1,r3⟩
theorem Md:J0 X (.builtin "abs") (fun xs H Q=>∃i,xs = [.int i]/\Q (.int (if i<0 then -i else i)) H):=by
 intro pins s σ H xs us Q I r h
 obtain⟨i,rfl,q⟩:=h
 obtain⟨u,rfl,t,rfl⟩:=V2 r
 exact call_abs_int fun u tk=>⟨.int (if i<0 then -i else i),H,I.tok _,⟨_,rfl⟩,q⟩
theorem Pr(hc:X.calm=true):J0 X (.builtin "max") (fun xs H Q=>∃i j,xs = [.int i,.int j]/\Q (.int (if j>i then j else i)) H):=by
 intro pins s σ H xs us Q I r h
 obtain⟨i,j,rfl,q⟩:=h
 obtain⟨u,w',rfl,⟨t,rfl⟩,⟨t',rfl⟩⟩:=zAi r
 refine max_two_ints (I.ok.hd hc) fun h' tk k=>⟨_,H,I.kept k,?_,q⟩
 by_cases hj:j>i
 ·rw[AQ hj,AQ hj];exact⟨_,rfl⟩
 ·rw[AJ hj,AJ hj];exact⟨_,rfl⟩
theorem Qx(hc:X.calm=true):J0 X (.builtin "min") (fun xs H Q=>∃i j,xs = [.int i,.int j]/\Q (.int (if j<i then j else i)) H):=by
 intro pins s σ H xs us Q I r h
 obtain⟨i,j,rfl,q⟩:=h
 obtain⟨u,w',rfl,⟨t,rfl⟩,⟨t',rfl⟩⟩:=zAi r
 refine min_two_ints (I.ok.hd hc) fun h' tk k=>⟨_,H,I.kept k,?_,q⟩
 by_cases hj:j<i
 ·rw[AQ hj,AQ hj];exact⟨_,rfl⟩
 ·rw[AJ hj,AJ hj];exact⟨_,rfl⟩
theorem Hf:J0 X (.type "int") (fun xs H Q=>(∃i,xs = [.int i]/\Q (.int i) H)\/∃k,xs = [.bl k]/\Q (.int (if k then 1 else 0)) H):=by
 intro pins s σ H xs us Q I r h
 rcases h with⟨i,rfl,q⟩ | ⟨k,rfl,q⟩
 ·obtain⟨u,rfl,t,rfl⟩:=V2 r
  exact call_int_int ⟨.int i,H,I,⟨_,rfl⟩,q⟩
 ·obtain⟨u,rfl,r1⟩:=V2 r
  cases r1
  exact call_int_bool ⟨.int (if k then 1 else 0),H,I.tok _,⟨_,rfl⟩,q⟩
end
structure ObjM(h:Heap)(x dx C:Addr)(mA:Str->Option Value):Prop where
 obj:h.get? x=some (PySem.W.instObj C dx)
 ns:h.Ns1 dx mA
 ne:dx≠x
theorem Qz{h:Heap}{dx:Addr}{mA:Str->Option Value}(n:h.Ns1 dx mA):∃od,h.get? dx=some od/\∀name,PySem.W.lookIn name od=some (mA name):=by
 obtain⟨o,es,ep,ho,hd,hk,_,hm⟩:=n
 refine⟨o,ho,fun name=>?_⟩
 have e:=hm name
 unfold nsFind findBy at e
 rw[<-Array.find?_toList]at e
 unfold PySem.W.lookIn
 rw[hd]
 dsimp only
 split
 ·rename_i y q
  rw[q]at e
  exact congrArg some e
 ·rename_i q
  rw[q]at e
  have a:es.toList.any (·.refKey)=false:=by
   rw[List.any_eq_false]
   intro y hy
   obtain⟨z,t,hkey⟩:=hk y (Array.mem_toList_iff.mp hy)
   simp[DictEntry.refKey,hkey]
  have a':¬es.toList.any (·.refKey)=true:=by rw[a];exact BC
  rw[AJ a']
  exact congrArg some e
theorem ObjM.look{h:Heap}{x dx C:Addr}{mA:Str->Option Value}(I:ObjM h x dx C mA):∃od,PySem.W.InstAt h x (PySem.W.instObj C dx) C (some od)/\∀name,PySem.W.lookIn name od=some (mA name) :=
 let⟨od,ho,hl⟩:=Qz I.ns
 ⟨od,⟨I.obj,rfl,rfl,ho⟩,hl⟩
section
variable{prog:Program}{w:World}{A:Around}{E:Value->Shared->Prop}{s:Shared}{K:PySem.W.Frag}{x dx C f:Addr}{mA:Str->Option Value}{name:Str}{v:Value}
theorem Wx{expr:Bool}{Q:Value->Shared->Prop}(X:K.In s.heap)(I:ObjM s.heap x dx C mA)(hg:PySem.W.plainGet K C name=true)(hh:PySem.W.hasDictIn K C=true)
  (ha:PySem.W.findIn K (.ref C) name=some none) (hv:mA name=some v) (hv':PySem.W.handedIn v=true) (h:Q v { s with toks:=s.toks+1 }) :
  wpAny (model prog w) A (getAttr (.ref x) name expr) Q E s:=by
 obtain⟨od,J,hl⟩:=I.look
 exact PySem.W.get_value X J (PySem.W.plainGet_of hg).1 (PySem.W.findObj_own hh ha rfl (by rw[hl,hv])) hv' h
theorem Ut{pl:Sem Bool}{Q:Value×List Value->Shared->Prop}(X:K.In s.heap)(I:ObjM s.heap x dx C mA)(hg:PySem.W.plainGet K C name=true)
  (hf:PySem.W.findIn K (.ref C) name=some (some (.ref f))) (ht:PySem.W.isFn K (.ref f)=true) (hv:mA name=none) (h:Q (.ref f,[.ref x]) s) :
  wpAny (model prog w) A (getMethod (.ref x) name pl) Q E s:=by
 obtain⟨od,J,hl⟩:=I.look
 exact PySem.W.method_fn X J (PySem.W.plainGet_of hg).1 (PySem.W.plainGet_of hg).2 hf (beq_iff_eq.mp ht) (by show(PySem.W.lookIn name od).map (·.isSome)=some false;rw[hl,hv];rfl) h
theorem Xt{ns:List Str}{Q:Unit->Shared->Prop}(X:K.In s.heap)(I:ObjM s.heap x dx C mA)
  (hs:PySem.W.findIn K (.ref C) "__setattr__" = some (some (.builtin "object.__setattr__"))) (hp:PySem.W.plainOver K C=true) (ht:PySem.W.takerIn K C name=some none) (hh:PySem.W.hasDictIn K C=true)
  (hw:PySem.Within mA ns) (hsz:ns.length<=sizeLine)
  (h:∀h',ObjM h' x dx C (fun y=>if y=name then some v else mA y)->Heap.SameBut dx s.heap h'->Q () { s with heap:=h',toks:=s.toks+2 }) :
  wpAny (model prog w) A (setAttr (.ref x) name v) Q E s:=by
 obtain⟨od,J,hl⟩:=I.look
 refine PySem.W.set_plain X J hs (PySem.W.osa_open (s:={ s with toks:=s.toks+1 }) (r:=none) X J hp ht fun b=>?_)
 obtain⟨cd,hc,hd'⟩:=PySem.W.any_some hh
 have hx:s.heap.get? x=some ⟨.ref C,some dx,.plain,#[]⟩:=I.obj
 refine AA (AF (AA (AA (wpAny_loadPart hx (AA (PySem.W.Looks.here (s:={ s with toks:=s.toks+1 }) (PySem.W.looks_clsIn X hc) ?_))))))
 rw[hd']
 refine AF (a:=some dx) (AA (AF (AA ?_)))
 refine wpAny_nsSet1 (s:={ s with toks:=s.toks+1 }) I.ns fun h' hn2 hs2=>?_
 obtain⟨oD,esD,epD,hoD,hdD,hcD⟩:=hn2.count (PySem.Within.cons name v hw)
 refine AA (wpAny_lookBehind hoD (by rw[hdD];exact pastItsLine_dict (Nat.le_trans hcD (by rw[BN];omega))) ?_)
 exact AF (h _ ⟨(hs2.2 _ (Ne.symm I.ne)).trans I.obj,hn2,I.ne⟩ hs2)
theorem Ug{R:Result->Shared->Prop}{vs:List Value}{kw:List (Str×Value)}(X:K.In s.heap)(hm:PySem.W.makesIn K C=true)
  (hi:PySem.W.findIn K (.ref C) "__init__" = some (some (.ref f))) (hf:PySem.W.typeIn K (.ref f)=some (.type "function"))
  (h:codeAny (model prog w) (A.under (.builtin "type.__call__" ⟨.ref C::vs,kw⟩)) (.call (.ref f) ⟨.ref (s.heap.objs.size+1)::vs,kw⟩) (PySem.W.InitBack (s.heap.objs.size+1) R)
   { s with heap:=(s.heap.push PySem.W.emptyDict).push (PySem.W.instObj C s.heap.objs.size) }) :
  codeAny (model prog w) A (.call (.ref C) ⟨vs,kw⟩) R s:=by
 obtain⟨hh,g,d,t,os⟩:=s
 exact PySem.W.make_core (PySem.W.makes_of X hm) (PySem.W.looks_findIn X hi) (fun self=>PySem.W.bind_fn X self hf) (.inl rfl) h
end
def O7(f:Str)(v:V):List (Str×V)->List (Str×V)
 | []=>[(f,v)]
 | (g,x)::r=>if g=f then(g,v)::r else(g,x)::O7 f v r
theorem Ar(f g:Str)(v:V):∀fs:List (Str×V),(O7 f v fs).lookup g=if g=f then some v else fs.lookup g
 | []=>by
  show List.lookup g [(f,v)]=_
  by_cases h:g=f
  ·have hb:(g == f)=true:=beq_iff_eq.mpr h
   simp only[List.lookup,hb,AQ h]
  ·have hb:(g == f)=false:=beq_eq_false_iff_ne.mpr h
   simp only[List.lookup,hb,AJ h]
 | (k,x)::r=>by
  have ih:=Ar f g v r
  rw[show O7 f v ((k,x)::r) =(if k=f then(k,v)::r else(k,x)::O7 f v r)from rfl]
  by_cases hk:k=f
  ·rw[AQ hk]
   by_cases h:g=k
   ·have hb:(g == k)=true:=beq_iff_eq.mpr h
    simp only[List.lookup,hb,AQ (h.trans hk)]
   ·have hb:(g == k)=false:=beq_eq_false_iff_ne.mpr h
    simp only[List.lookup,hb,AJ (fun e:g=f=>h (e.trans hk.symm))]
  ·rw[AJ hk]
   by_cases h:g=k
   ·have hb:(g == k)=true:=beq_iff_eq.mpr h
    simp only[List.lookup,hb,AJ (fun e:g=f=>hk (h.symm.trans e))]
   ·have hb:(g == k)=false:=beq_eq_false_iff_ne.mpr h
    simp only[List.lookup,hb]
    exact ih
theorem Bc(f:Str)(v:V):∀fs:List (Str×V),f∈(O7 f v fs).map (·.1)/\∀g,g∈fs.map (·.1)->g∈(O7 f v fs).map (·.1)
 | []=>⟨by simp[O7],fun g h=>by simp at h⟩
 | (k,x)::r=>by
  obtain⟨i1,i2⟩:=Bc f v r
  rw[show O7 f v ((k,x)::r) =(if k=f then(k,v)::r else(k,x)::O7 f v r)from rfl]
  by_cases hk:k=f
  ·rw[AQ hk]
   subst hk
   exact⟨by simp,fun g h=>by simpa using h⟩
  ·rw[AJ hk]
   refine⟨?_,fun g h=>?_⟩
   ·rw[BG]
    exact AM _ i1
   ·rw[BG]at h⊢
    rcases BD.mp h with e | e
    ·exact BD.mpr (.inl e)
    ·exact AM _ (i2 g e)
theorem Az(f:Str)(v:V):∀fs:List (Str×V),(O7 f v fs).length<=fs.length+1
 | []=>by simp[O7]
 | (k,x)::r=>by
  have ih:=Az f v r
  rw[show O7 f v ((k,x)::r) =(if k=f then(k,v)::r else(k,x)::O7 f v r)from rfl]
  by_cases hk:k=f
  ·rw[AQ hk,BN,BN];omega
  ·rw[AJ hk,BN,BN];omega
theorem RelO.some_of{v:V}{o:Option Value}(r:RelO (some v) o):∃u,o=some u/\RelV v u:=by
 cases o with
 | none=>exact(show False from r).elim
 | some u=>exact⟨u,rfl,r⟩
theorem RelO.none_of{o:Option Value}(r:RelO none o):o=none:=by
 cases o with
 | none=>rfl
 | some u=>exact(show False from r).elim
theorem Pe{v:V}{u:Value}(r:RelV v u):PySem.W.handedIn u=true:=by
 cases v with
 | non=>cases(show u=Value.none from r);rfl
 | bl b=>cases(show u=Value.bool b from r);rfl
 | int i=>obtain⟨t,e⟩:=(show ∃t,u=Value.int i t from r);cases e;rfl
 | str x=>obtain⟨t,e⟩:=(show ∃t,u=Value.str x t from r);cases e;rfl
 | byt b=>obtain⟨t,e⟩:=(show ∃t,u=Value.bytes b t from r);cases e;rfl
 | flt b=>obtain⟨t,e⟩:=(show ∃t,u=Value.float b t from r);cases e;rfl
 | ref a=>cases(show u=Value.ref a from r);rfl
 | ty n=>cases(show u=Value.type n from r);rfl
section
variable{P:Program}{w:World}{H H':Hp}{h h':Heap}{a C dx:Addr}{fs fs':List (Str×V)}
theorem Dv(hok:HOk P w H h)(e:H a=some (.ins C dx fs)):∃mA,ObjM h a dx C mA/\(∀f,RelO (fs.lookup f) (mA f))/\PySem.Within mA (fs.map (·.1))/\fs.length<=1000/\H dx=some (.own a):=by
 obtain⟨d,z,ne,ob,mA,n,r,q⟩:=(show ObjOk P w H h a (.ins C dx fs)from hok a _ e)
 exact⟨mA,⟨ob,n,ne⟩,r,q,z,d⟩
end
structure Cls(K:PySem.W.Frag)(C:Addr):Prop where
 pg:PySem.W.plainGet K C Str.empty=true
 hd:PySem.W.hasDictIn K C=true
 po:PySem.W.plainOver K C=true
 sa:PySem.W.findIn K (.ref C) "__setattr__" = some (some (.builtin "object.__setattr__"))
theorem Cls.get{K:PySem.W.Frag}{C:Addr}(c:Cls K C)(f:Str):PySem.W.plainGet K C f=true:=c.pg
def NoAttr(K:PySem.W.Frag)(C:Addr)(f:Str):Prop:=PySem.W.findIn K (.ref C) f=some none
theorem NoAttr.taker{K:PySem.W.Frag}{C:Addr}{f:Str}(n:NoAttr K C f):PySem.W.takerIn K C f=some none:=by
 unfold PySem.W.takerIn
 rw[show PySem.W.findIn K (.ref C) f=some none from n]
 rfl
structure Meth(K:PySem.W.Frag)(C:Addr)(m:Str)(f:Addr):Prop where
 at_:PySem.W.findIn K (.ref C) m=some (some (.ref f))
 fn:PySem.W.isFn K (.ref f)=true
 kp:PySem.W.keepIn K (.ref f)=true
section
variable{X:Cx}{pins:List (Addr×Obj)}{σ:St}{H:Hp}{s:Shared}{a C dx:Addr}{fs:List (Str×V)}{f:Str}{v:V}{A:Around}{E:Value->Shared->Prop}
theorem Nf{b:Bool}{Q:Value->Shared->Prop}(I:Inv X pins σ H s)(e:H a=some (.ins C dx fs))(c:Cls X.K C)(n:NoAttr X.K C f)(l:fs.lookup f=some v)
  (h:∀u s',Inv X pins σ H s'->RelV v u->Q u s'):wpAny (model X.prog X.w) A (getAttr (.ref a) f b) Q E s:=by
 obtain⟨mA,O,r,_,_,_⟩:=Dv I.hok e
 obtain⟨u,hu,ru⟩:=RelO.some_of (v:=v) (o:=mA f) (by rw[<-l];exact r f)
 exact Wx I.kIn O (c.get f) c.hd n hu (Pe ru) (h u _ (I.tok _) ru)
theorem Dh{m:Str}{g:Addr}{pl:Sem Bool}{Q:Value×List Value->Shared->Prop}(I:Inv X pins σ H s)(e:H a=some (.ins C dx fs))(c:Cls X.K C)(k:Meth X.K C m g)(l:fs.lookup m=none)
  (h:Q (.ref g,[.ref a]) s):wpAny (model X.prog X.w) A (getMethod (.ref a) m pl) Q E s:=by
 obtain⟨mA,O,r,_,_,_⟩:=Dv I.hok e
 have hn:mA m=none:=RelO.none_of (by rw[<-l];exact r m)
 exact Ut I.kIn O (c.get m) k.at_ k.fn hn h
theorem Mz{y:V}{u:Value}{Q:Unit->Shared->Prop}(I:Inv X pins σ H s)(e:H a=some (.ins C dx fs))(c:Cls X.K C)(n:NoAttr X.K C f)(hl:fs.length<1000)(ry:RelV y u)
  (h:∀s',Inv X pins σ (upd H a (.ins C dx (O7 f y fs))) s'->Q () s'):wpAny (model X.prog X.w) A (setAttr (.ref a) f u) Q E s:=by
 obtain⟨mA,O,r,wi,_,ho⟩:=Dv I.hok e
 have hz:(fs.map (·.1)).length<=sizeLine:=by rw[AB,sizeLine_eq];omega
 refine Xt I.kIn O c.sa c.po n.taker c.hd wi hz fun h' O' sb=>h _ ?_
 have hd:∃o,h'.get? dx=some o:=let⟨o,_,_,e',_⟩:=O'.ns;⟨o,e'⟩
 refine I.write (x:=a) (e:=dx) (by rw[e];exact True.intro) (.inr ho) (fun b q hb z=>(sb.2 b hb).trans z) hd ?_
 refine⟨by rw[B7 O.ne];exact ho,?_,O.ne,O'.obj,_,O'.ns,fun g=>?_,fun g hg=>?_⟩
 ·have:=Az f y fs;omega
 ·show RelO ((O7 f y fs).lookup g) (if g=f then some u else mA g)
  rw[Ar]
  by_cases q:g=f
  ·rw[AQ q,AQ q];exact ry
  ·rw[AJ q,AJ q];exact r g
 ·by_cases q:g=f
  ·rw[q];exact(Bc f y fs).1
  ·refine(Bc f y fs).2 g (wi g fun z=>hg ?_)
   show(if g=f then some u else mA g)=none
   rw[AJ q];exact z
theorem Inv.made(I:Inv X pins σ H s):Inv X pins σ (upd (upd H s.heap.objs.size (.own (s.heap.objs.size+1))) (s.heap.objs.size+1) (.ins C s.heap.objs.size []))
  { s with heap:=(s.heap.push PySem.W.emptyDict).push (PySem.W.instObj C s.heap.objs.size) }:=by
 have e1:(s.heap.push PySem.W.emptyDict).get? s.heap.objs.size=some PySem.W.emptyDict:=BB s.heap rfl
 have e2:((s.heap.push PySem.W.emptyDict).push (PySem.W.instObj C s.heap.objs.size)).get? (s.heap.objs.size+1)=some (PySem.W.instObj C s.heap.objs.size):=by
  have:=BB (s.heap.push PySem.W.emptyDict) (o:=PySem.W.instObj C s.heap.objs.size) rfl
  rwa [EB]at this
 have e3:(s.heap.push PySem.W.emptyDict).Ns s.heap.objs.size (fun _=>none):=⟨PySem.W.emptyDict,#[],_,e1,rfl,(fun e he=>absurd he (by simp)),fun _=>rfl⟩
 have I1:=I.laid (a:=s.heap.objs.size) (o:=.own (s.heap.objs.size+1)) (h':=s.heap.push PySem.W.emptyDict) (t':=s.toks) (fun b u q=>AE _ q) (Nat.le_refl _) ⟨_,e1⟩
 refine I1.laid (a:=s.heap.objs.size+1) (o:=.ins C s.heap.objs.size []) (t':=s.toks) (fun b u q=>AE _ q) (Nat.le_of_eq (EB _ _)) ?_
 have ne:s.heap.objs.size≠s.heap.objs.size+1:=BF (E_ _)
 refine⟨by rw[B7 ne,A9],CA _,ne,e2,fun _=>none,(Heap.Ns1.of_empty e3).at fun o q=>AE _ q,fun _=>True.intro,fun y hy=>absurd rfl hy⟩
theorem Xk{prog:Program}{w:World}{env:Env}{e:Expr}{f:Str}{pos:Pos}{s:Shared}{Q:Value->Shared->Prop}(hb:attributeBase e f env (eval e env)=eval e env)
  (h:wpAny (model prog w) A (eval e env) (fun o s₁=>wpAny (model prog w) A (getAttr o f true) Q E s₁) E s):wpAny (model prog w) A (eval (.Attribute e f pos) env) Q E s :=
 Attribute_any_ h (by rw[arm_eval_Attribute,hb])
end
def zEd(K:PySem.W.Frag)(ta:TE)(f:Str):TE:=fun σ H Q=>ta σ H fun x H1=>∃a C dx fs v,x = .ref a/\H1 a=some (.ins C dx fs)/\Cls K C/\NoAttr K C f/\fs.lookup f=some v/\Q v H1
def zDz(K:PySem.W.Frag)(ta tv:TE)(f:Str):TS:=fun D σ H=>tv σ H fun y H1=>ta σ H1 fun x H2=>∃a C dx fs,x = .ref a/\H2 a=some (.ins C dx fs)/\Cls K C/\NoAttr K C f/\fs.length<1000 /\
 D.nx σ (upd H2 a (.ins C dx (O7 f y fs)))
section
variable{X:Cx}{o e value:Expr}{f:Str}{pos pos' tpos:Pos}{ta tv:TE}
theorem Za(he:PE X e ta)(hb:attributeBase e f X.env (eval e X.env)=eval e X.env):PE X (.Attribute e f pos) (zEd X.K ta f):=by
 intro pins s σ H Q I h
 refine Xk hb (thn (he pins s σ H _ I h) fun u s1 ⟨x,H1,I1,rx,a,C,dx,fs,v,ex,ea,c,n,l,q⟩=>?_)
 subst ex
 obtain rfl:u=Value.ref a:=rx
 exact Nf I1 ea c n l fun u' s2 I2 ru=>⟨v,H1,I2,ru,q⟩
theorem zAv(ha:PE X o ta)(hv:PE X value tv)(hs:swapsWith value (some (.Attribute o f pos')) pos.line X.env=pure false):PS X (.Assign [.Attribute o f pos'] value pos) (zDz X.K ta tv f):=by
 intro pins s σ H D I h
 refine plainObj_wpAny_Assign_Attribute (thn (hv pins s σ H _ I h) fun u s1 ⟨y,H1,I1,ry,q⟩=>thn (ha pins s1 σ H1 _ I1 q) fun ov s2 ⟨x,H2,I2,rx,a,C,dx,fs,ex,ea,c,n,l,q2⟩=>?_) hs
 subst ex
 obtain rfl:ov=Value.ref a:=rx
 exact Mz I2 ea c n l ry fun s3 I3=>⟨σ,_,I3,q2⟩
end
section
variable{X:Cx}{pins:List (Addr×Obj)}{σ:St}{H:Hp}{s:Shared}{A:Around}{E:Value->Shared->Prop}{Q:Value->Shared->Prop}{c:Value}{b:Bool}
inductive TyOf(K:PySem.W.Frag)(H:Hp):V->Value->Prop where
 | non:TyOf K H .non (.type "NoneType")
 | bl (x:Bool):TyOf K H (.bl x) (.type "bool")
 | int (i:Int):TyOf K H (.int i) (.type "int")
 | str (x:Str):TyOf K H (.str x) (.type "str")
 | flt (x:UInt64):TyOf K H (.flt x) (.type "float")
 | lst {a:Addr} {xs:List V} (e:H a=some (.lst xs)):TyOf K H (.ref a) (.type "list")
 | frz {a:Addr} {o:Obj} {xs:List V} (e:H a=some (.frz o (.lst xs))):TyOf K H (.ref a) (.type "list")
 | tup {a:Addr} {xs:List V} (e:H a=some (.tup xs)):TyOf K H (.ref a) (.type "tuple")
 | dK {a:Addr} {kvs:List (Key×V)} (e:H a=some (.dK kvs)):TyOf K H (.ref a) (.type "dict")
 | dT {a:Addr} {kvs:List (List Key×V)} (e:H a=some (.dT kvs)):TyOf K H (.ref a) (.type "dict")
 | ins {a C dx:Addr} {fs:List (Str×V)} (e:H a=some (.ins C dx fs)) (cl:Cls K C) (ha:PySem.W.findIn K (.ref C) "__class__" = some (some (.builtin "object.__class__")))
   (hn:PySem.W.specialIn K (.builtin "object.__class__") "__get__" = some (some (.builtin "getset_descriptor.__get__"))) (htk:PySem.W.takesIn K (.builtin "object.__class__")=some true)
   (hm:PySem.W.mroIn K C (.type "object")=some true):TyOf K H (.ref a) (.ref C)
theorem Rf{x:V}{u t:Value}(I:Inv X pins σ H s)(rx:RelV x u)(ty:TyOf X.K H x t)(e:PySem.W.kitOne X.K t c=some b)(h:∀tk,Q (.bool b) { s with toks:=tk }) :
  wpAny (model X.prog X.w) A (call (.builtin "isinstance") [u,c]) Q E s:=by
 cases ty with
 | non=>cases(show u=Value.none from rx);exact PySem.W.kia_one PySem.W.kitx_none I.kIn True.intro e (fun z=>nomatch z) h
 | bl y=>cases(show u=Value.bool y from rx);exact PySem.W.kia_one PySem.W.kitx_bool I.kIn True.intro e (fun z=>nomatch z) h
 | int i=>obtain⟨t,q⟩:=(show ∃t,u=Value.int i t from rx);cases q;exact PySem.W.kia_one PySem.W.kitx_int I.kIn True.intro e (fun z=>nomatch z) h
 | str y=>obtain⟨t,q⟩:=(show ∃t,u=Value.str y t from rx);cases q;exact PySem.W.kia_one PySem.W.kitx_str I.kIn True.intro e (fun z=>nomatch z) h
 | flt y=>obtain⟨t,q⟩:=(show ∃t,u=Value.float y t from rx);cases q;exact PySem.W.kia_one PySem.W.kitx_float I.kIn True.intro e (fun z=>nomatch z) h
 | @lst a xs ea =>
  cases(show u=Value.ref a from rx)
  obtain⟨_,_,n,_,h1⟩:=(show ObjOk X.prog X.w H s.heap a (.lst xs)from I.hok a _ ea)
  exact PySem.W.kia_one PySem.W.kitx_list I.kIn ⟨_,h1,rfl⟩ e (fun z=>nomatch z) h
 | @frz a ob xs ea =>
  cases(show u=Value.ref a from rx)
  obtain⟨_,_,_,n,_,h1⟩:=(show ObjOk X.prog X.w H s.heap a (.frz ob (.lst xs))from I.hok a _ ea)
  exact PySem.W.kia_one PySem.W.kitx_list I.kIn ⟨_,h1,rfl⟩ e (fun z=>nomatch z) h
 | @tup a xs ea =>
  cases(show u=Value.ref a from rx)
  obtain⟨_,_,_,p⟩:=(show ObjOk X.prog X.w H s.heap a (.tup xs)from I.hok a _ ea)
  obtain⟨o,h1,h2,_⟩:=p
  exact PySem.W.kia_one PySem.W.kitx_tuple I.kIn ⟨o,h1,h2⟩ e (fun z=>nomatch z) h
 | @dK a kvs ea =>
  cases(show u=Value.ref a from rx)
  obtain⟨_,_,vs,_,p⟩:=(show ObjOk X.prog X.w H s.heap a (.dK kvs)from I.hok a _ ea)
  obtain⟨o,es,ep,h1,h2,_⟩:=p
  exact PySem.W.kia_one PySem.W.kitx_dict I.kIn ⟨o,h1,h2.1⟩ e (fun z=>nomatch z) h
 | @dT a kvs ea =>
  cases(show u=Value.ref a from rx)
  obtain⟨_,_,xs,_,o,es,ep,h1,h2,_⟩:=(show ObjOk X.prog X.w H s.heap a (.dT kvs)from I.hok a _ ea)
  exact PySem.W.kia_one PySem.W.kitx_dict I.kIn ⟨o,h1,h2.1⟩ e (fun z=>nomatch z) h
 | @ins a C dx fs ea cl ha hn htk hm =>
  cases(show u=Value.ref a from rx)
  obtain⟨mA,O,_⟩:=Dv I.hok ea
  obtain⟨od,J,_⟩:=O.look
  exact PySem.W.kia_one (PySem.W.kitx_own (cl.get _) cl.hd ha hn htk hm) I.kIn J e (fun z=>nomatch z) h
end
structure Room(k:Nat)(A:Around):Prop where
 hd:A.handled=none
 dp:A.depth+3*k+5<recursionLimit
 un:A.units+16*k+200<cLine
theorem Room.mono{j k:Nat}{A:Around}(r:Room k A)(h:j<=k):Room j A:=⟨r.hd,by have:=r.dp;omega,by have:=r.un;omega⟩
theorem Room.deeper{k:Nat}{A:Around}(r:Room (k+1) A)(env:Env):Room k (A.deeper env) :=
 ⟨r.hd,by have:=r.dp;show A.depth+1+3*k+5<_;omega,by have:=r.un;show A.units+3+16*k+200<_;omega⟩
theorem Nd{A:Around}{C:Addr}{us:List Value}{kw:List (Str×Value)}:(A.under (.builtin "type.__call__" ⟨.ref C::us,kw⟩)).depth=A.depth+1:=by
 first | rfl | simp[Around.under,Code.weight,Code.isCreation,Code.isGuard,Code.isCaller,Code.frames,Code.isFrame,guardIds]
theorem My{A:Around}{C:Addr}{us:List Value}{kw:List (Str×Value)}:(A.under (.builtin "type.__call__" ⟨.ref C::us,kw⟩)).units=A.units+1:=by
 first | rfl | simp[Around.under,Code.cUnits,Code.frames,Code.isFrame]
theorem Room.make{k:Nat}{A:Around}(r:Room (k+1) A)(C:Addr)(us:List Value)(kw:List (Str×Value)):Room k (A.under (.builtin "type.__call__" ⟨.ref C::us,kw⟩)) :=
 ⟨r.hd,by have:=r.dp;rw[Nd];omega,by have:=r.un;rw[My];omega⟩
theorem Room.depth{k:Nat}{A:Around}(r:Room k A):A.depth<recursionLimit:=by have:=r.dp;omega
theorem Room.units{k:Nat}{A:Around}(r:Room k A):A.units+64<cLine:=by have:=r.un;omega
def Vo:TA:=fun _ H Q=>Q [] H
def Fd(ta:TE)(tr:TA):TA:=fun σ H Q=>ta σ H fun x H1=>tr σ H1 fun xs H2=>Q (x::xs) H2
section
variable{X:Cx}{e:Expr}{es:List Expr}{te:TE}{t:TA}{pos:Pos}
theorem B2:PA X [] Vo:=fun _ _ _ _ H Q I h=>Calls.spliced_nil ⟨[],H,I,.nil,h⟩
theorem A8(ha:PE X e te)(hr:PA X es t)(hs:starEach (e::es) X.env =(false,eval e X.env)::starEach es X.env:=by rfl):PA X (e::es) (Fd te t):=by
 intro pos pins s σ H Q I h
 rw[hs]
 show wpAny _ _ (spliced ((false,eval e X.env)::backTo pos (starEach es X.env))) _ _ s
 refine Calls.spliced_cons (thn (ha pins s σ H _ I h) fun u s1 ⟨x,H1,I1,r1,q1⟩=>?_)
 exact thn (hr pos pins s1 σ H1 _ I1 q1) fun us s2 ⟨xs,H2,I2,r2,q2⟩=>⟨x::xs,H2,I2,.cons r1 r2,q2⟩
def zBw(t:TA):TE:=fun σ H Q=>t σ H fun xs H1=>xs.length<=sizeLine/\∀p,H1 p=none->Q (.ref p) (upd H1 p (.tup xs))
def zEe(t:TA):TE:=fun σ H Q=>t σ H fun xs H1=>xs.length<=sizeLine/\∀p,H1 p=none->Q (.ref p) (upd H1 p (.lst xs))
theorem O6{x1}(h:PA X es t):PE X (.Tuple es x1 pos) (zBw t):=by
 intro pins s σ H Q I hq
 refine wpAny_Tuple_spliced (thn (h pos pins s σ H _ I hq) fun us s1 ⟨xs,H1,I1,r,z,q⟩=>⟨by rw[<-r.length];exact z,?_⟩)
 have hf:H1 s1.heap.objs.size=none:=I1.hok.fresh (Nat.le_refl _)
 refine⟨.ref s1.heap.objs.size,upd H1 s1.heap.objs.size (.tup xs),I1.laid (t':=s1.toks) (fun b u e=>AE _ e) (Nat.le_refl _) ?_,rfl,q _ hf⟩
 exact⟨z,us,r,⟨_,BB _ rfl,rfl,_,rfl⟩⟩
theorem Q1(h:PA X es t):PE X (.List es pos) (zEe t):=by
 intro pins s σ H Q I hq
 refine wpAny_List_spliced (thn (h pos pins s σ H _ I hq) fun us s1 ⟨xs,H1,I1,r,z,q⟩=>⟨by rw[<-r.length];exact z,?_⟩)
 have hf:H1 s1.heap.objs.size=none:=I1.hok.fresh (Nat.le_refl _)
 refine⟨.ref s1.heap.objs.size,upd H1 s1.heap.objs.size (.lst xs),I1.laid (t':=s1.toks) (fun b u e=>AE _ e) (Nat.le_refl _) ?_,rfl,q _ hf⟩
 exact⟨z,us,0,r,BB _ rfl⟩
end
abbrev Sp:=List V->Hp->VK->XK->Prop
abbrev CXT:=List Env->Hp->Shared->XK->Value->Shared->Prop
structure Env0(P:Program)(w:World)(K:PySem.W.Frag)(mg:Str->Option Value)(base:Heap)(A:Around)(outer:List Env)(s:Shared)(H:Hp):Prop where
 frames:A.frames=some outer
 mod:Mod K mg base
 bs:∀b o,base.get? b=some o->s.heap.get? b=some o/\H b=none
 bsz:base.objs.size<=s.heap.objs.size
 funs:s.heap.FunFrames base outer
 frf:∀b∈frs outer,H b=none
 hok:HOk P w H s.heap
 bare:AllBare s.gens
def CE(outer:List Env)(P:Program)(w:World)(H:Hp)(s:Shared)(Q:VK)(u:Value)(s':Shared):Prop :=
 ∃v H',s'.os=s.os/\AllBare s'.gens/\Un (frs outer) [] H H' s.heap s'.heap/\HOk P w H' s'.heap/\RelV v u/\Q v H'
def CR(CX:CXT)(outer:List Env)(P:Program)(w:World)(H:Hp)(s:Shared)(Q:VK)(E:XK)(r:Result)(s':Shared):Prop :=
 match r with
 | .ok (.ret u)=>CE outer P w H s Q u s'
 | .ok _=>False
 | .error e=>CX outer H s E e s'
structure FnOk(P:Program)(w:World)(K:PySem.W.Frag)(mg:Str->Option Value)(base:Heap)(CX:CXT)(k:Nat)(f:Addr)(fd:FuncData)(ps:List Str)(sp:Sp):Prop where
 len:∀vs H Q E,sp vs H Q E->vs.length=ps.length
 run:∀(A:Around) (outer:List Env) (s:Shared) (H:Hp) (args:Args) (us:List Value) (vs:List V) (Q:VK) (E:XK),Room k A->Env0 P w K mg base A outer s H->BindsTo s fd args (ps.zip us)->Vals vs us->sp vs H Q E ->
  codeAny (model P w) A (.call (.ref f) args) (CR CX outer P w H s Q E) s
theorem FnOk.mono{P:Program}{w:World}{K:PySem.W.Frag}{mg:Str->Option Value}{base:Heap}{CX:CXT}{j k:Nat}{f:Addr}{fd:FuncData}{ps:List Str}{sp:Sp}(F:FnOk P w K mg base CX j f fd ps sp)(h:j<=k) :
  FnOk P w K mg base CX k f fd ps sp:=⟨F.len,fun A outer s H args us vs Q E hr=>F.run A outer s H args us vs Q E (hr.mono h)⟩
theorem FnOk.imp{P:Program}{w:World}{K:PySem.W.Frag}{mg:Str->Option Value}{base:Heap}{CX:CXT}{k:Nat}{f:Addr}{fd:FuncData}{ps:List Str}{sp sp':Sp}(F:FnOk P w K mg base CX k f fd ps sp)
  (h:∀vs H Q E,sp' vs H Q E->sp vs H Q E):FnOk P w K mg base CX k f fd ps sp' :=
 ⟨fun vs H Q E q=>F.len vs H Q E (h _ _ _ _ q),fun A outer s H args us vs Q E hr he hb hv hs=>F.run A outer s H args us vs Q E hr he hb hv (h _ _ _ _ hs)⟩
theorem Env0.make{P:Program}{w:World}{K:PySem.W.Frag}{mg:Str->Option Value}{base:Heap}{A:Around}{outer:List Env}{s:Shared}{H:Hp}(e:Env0 P w K mg base A outer s H)(C:Addr)(us:List Value)(kw:List (Str×Value)) :
  Env0 P w K mg base (A.under (.builtin "type.__call__" ⟨.ref C::us,kw⟩)) outer s H:=⟨by first | exact e.frames | (simpa [Around.under,Code.envs,Code.isFrame,pushEnvs] using e.frames),e.mod,e.bs,e.bsz,e.funs,e.frf,e.hok,e.bare⟩
section
variable{X:Cx}{pins:List (Addr×Obj)}{σ:St}{H:Hp}{s s':Shared}
theorem Inv.env0(I:Inv X pins σ H s):Env0 X.prog X.w X.K X.mg X.base X.A X.stack s H :=
 ⟨I.ok.frames,I.ok.mod,I.bs,Nat.le_trans I.ok.bsz I.sz,I.stack,I.stkFree,I.hok,I.bare⟩
theorem Inv.after{Q:VK}{u:Value}(I:Inv X pins σ H s)(h:CE X.stack X.prog X.w H s Q u s'):EP X pins σ Q u s':=by
 obtain⟨v,H',os,bare,un,hok,r,q⟩:=h
 obtain⟨hh,g,d,t,os'⟩:=s'
 obtain rfl:os'=s.os:=os
 exact⟨v,H',I.call (h':=hh) (g':=g) (d':=d) (t':=t) (ch:=[]) un hok bare (fun b z=>absurd z (by simp)),r,q⟩
end
def Yn(sp:Sp)(dvs:List V)(E:XK)(t:TA):TE:=fun σ H Q=>t σ H fun vs H1=>sp (vs++dvs) H1 Q E
def zBa(C:Addr)(m:Str)(sp:Sp)(dvs:List V)(E:XK)(ta:TE)(t:TA):TE:=fun σ H Q=>ta σ H fun x H1=>∃a dx fs,x = .ref a/\H1 a=some (.ins C dx fs)/\fs.lookup m=none /\
 t σ H1 fun vs H2=>sp (x ::(vs++dvs)) H2 Q E
def zCe(C:Addr)(sp:Sp)(dvs:List V)(E:XK)(t:TA):TE:=fun σ H Q=>t σ H fun vs H1=>∀x dx,H1 x=none->H1 dx=none->dx≠x ->
 sp (.ref x ::(vs++dvs)) (upd (upd H1 dx (.own x)) x (.ins C dx [])) (fun v H2=>v = .non/\Q (.ref x) H2) E
def Binds(K:PySem.W.Frag)(fd:FuncData)(ps:List Str)(ds:List Value):Prop :=
 ∀(s:Shared) (us:List Value),K.In s.heap->(us++ds).length=ps.length->BindsTo s fd ⟨us,[]⟩ (ps.zip (us++ds))
theorem Binds.all{K:PySem.W.Frag}{fd:FuncData}{ps:List Str}(h:∀us:List Value,us.length=ps.length->bindArgs fd ⟨us,[]⟩=pure (ps.zip us)):Binds K fd ps []:=fun s us _ hl=>by
 rw[CI]at hl⊢
 exact .of_eq (h us hl)
def u5(CX:CXT)(X:Cx)(E:XK):Prop:=∀(pins:List (Addr×Obj)) (σ:St) (H:Hp) (s:Shared) (e:Value) (s':Shared),Inv X pins σ H s->CX X.stack H s E e s'->X.xe e s'
section
variable{X:Cx}{CX:CXT}{k:Nat}{f C:Addr}{fd:FuncData}{ps:List Str}{sp:Sp}{dvs:List V}{ds:List Value}{E:XK}{x m:Str}{p pos apos:Pos}{e o:Expr}{es:List Expr}{ta:TE}{t:TA}
theorem Lg{pins:List (Addr×Obj)}{σ:St}{H:Hp}{s:Shared}{Q:VK}{us:List Value}{vs:List V}(F:FnOk X.prog X.w X.K X.mg X.base CX k f fd ps sp)(hr:Room k X.A)(hb:Binds X.K fd ps ds)(hd:Vals dvs ds)(hx:u5 CX X E)
  (I:Inv X pins σ H s) (r:Vals vs us) (h:sp (vs++dvs) H Q E):wpAny (model X.prog X.w) X.A (call (.ref f) us) (EP X pins σ Q) X.xe s:=by
 have r2:Vals (vs++dvs) (us++ds):=r.append hd
 have hl:(us++ds).length=ps.length:=by rw[<-r2.length];exact F.len _ _ _ _ h
 refine wpAny_call (HC (F.run X.A X.stack s H ⟨us,[]⟩ (us++ds) (vs++dvs) Q E hr I.env0 (hb s us I.kIn hl) r2 h) fun r s' hq=>?_)
 cases r with
 | error e=>exact hx pins σ H s e s' I hq
 | ok fl =>
  cases fl with
  | ret u=>exact I.after hq
  | next=>exact False.elim hq
  | brk=>exact False.elim hq
  | cont=>exact False.elim hq
theorem Yf(F:FnOk X.prog X.w X.K X.mg X.base CX k f fd ps sp)(hr:Room k X.A)(hg:Gl X x)(hm:X.mg x=some (.ref f))(hk:PySem.W.keepIn X.K (.ref f)=true)(hb:Binds X.K fd ps ds)(hd:Vals dvs ds)(hx:u5 CX X E)
  (ha:PA X (e::es) t) (hdb:(x ==("__debug__":Str))=false:=by decide) (he:starEach (e::es) X.env =(false,eval e X.env)::starEach es X.env:=by rfl) (hpl:(backTo pos (starEach es X.env)).any (·.1)=false:=by rfl) :
  PE X (.Call (.Name x p) (e::es) [] pos) (Yn sp dvs E t):=by
 intro pins s σ H Q I h
 refine FC (Ik I hg hm ?_ hdb)
 refine PySem.W.callWith_K (h₀:=X.base) I.ok.mod.kin hk (thn (ha pos pins s σ H _ I h) fun us s1 ⟨vs,H1,I1,r,q⟩=>⟨I1.kIn,?_⟩) he hpl
 exact Lg F hr hb hd hx I1 r q
theorem G0{pl:Sem Bool}(he:PE X o ta)(c:Cls X.K C)(hm:Meth X.K C m f)(F:FnOk X.prog X.w X.K X.mg X.base CX k f fd ps sp)(hr:Room k X.A)(hb:Binds X.K fd ps ds)(hd:Vals dvs ds)(hx:u5 CX X E)(ha:PA X (e::es) t)
  (hst:starEach (e::es) X.env =(false,eval e X.env)::starEach es X.env:=by rfl) (hpl:(backTo pos (starEach es X.env)).any (·.1)=false:=by rfl)
  (ht:eval (.Call (.Attribute o m apos) (e::es) [] pos) X.env =(do
   let ov <-eval o X.env
   standAt apos.atName
   let(f,first) <-holding [ov] (getMethod ov m pl)
   callWith pos f first (backTo pos (starEach (e::es) X.env)) (backToKw pos (keywordEach [] X.env))):=by rfl) :
  PE X (.Call (.Attribute o m apos) (e::es) [] pos) (zBa C m sp dvs E ta t):=by
 intro pins s σ H Q I h
 refine PySem.W.methodCall_KW (pl:=pl) (thn (he pins s σ H _ I h) fun u s1 ⟨x,H1,I1,rx,a,dx,fs,ex,ea,l,q⟩=>?_) ht
 subst ex
 obtain rfl:u=Value.ref a:=rx
 refine Dh I1 ea c hm l ?_
 refine PySem.W.callWith_K (first:=[.ref a]) (h₀:=X.base) I.ok.mod.kin hm.kp (thn (ha pos pins s1 σ H1 _ I1 q) fun us s2 ⟨vs,H2,I2,r,q2⟩=>⟨I2.kIn,?_⟩) hst hpl
 exact Lg (us:=.ref a::us) (vs:=.ref a::vs) F hr hb hd hx I2 (.cons rfl r) q2
theorem Mh{pl:Sem Bool}(he:PE X o ta)(c:Cls X.K C)(hm:Meth X.K C m f)(F:FnOk X.prog X.w X.K X.mg X.base CX k f fd ps sp)(hr:Room k X.A)(hb:Binds X.K fd ps ds)(hd:Vals dvs ds)(hx:u5 CX X E)
  (ht:eval (.Call (.Attribute o m apos) [] [] pos) X.env =(do
   let ov <-eval o X.env
   standAt apos.atName
   let(f,first) <-holding [ov] (getMethod ov m pl)
   callWith pos f first (backTo pos (starEach [] X.env)) (backToKw pos (keywordEach [] X.env))):=by rfl) :
  PE X (.Call (.Attribute o m apos) [] [] pos) (zBa C m sp dvs E ta Vo):=by
 intro pins s σ H Q I h
 refine PySem.W.methodCall_KW (pl:=pl) (thn (he pins s σ H _ I h) fun u s1 ⟨x,H1,I1,rx,a,dx,fs,ex,ea,l,q⟩=>?_) ht
 subst ex
 obtain rfl:u=Value.ref a:=rx
 refine Dh I1 ea c hm l ?_
 exact PySem.W.callWith_K0 (first:=[.ref a]) I1.kIn hm.kp (Lg (us:=[.ref a]) (vs:=[.ref a]) F hr hb hd hx I1 (.cons rfl .nil) q)
structure Mk(K:PySem.W.Frag)(C f:Addr):Prop where
 makes:PySem.W.makesIn K C=true
 init:PySem.W.findIn K (.ref C) "__init__" = some (some (.ref f))
 fn:PySem.W.isFn K (.ref f)=true
 kp:PySem.W.keepIn K (.ref C)=true
theorem Uw{pins:List (Addr×Obj)}{σ:St}{H:Hp}{s:Shared}{Q:VK}{us:List Value}{vs:List V}(M:Mk X.K C f)(F:FnOk X.prog X.w X.K X.mg X.base CX k f fd ps sp)(hr:Room (k+1) X.A)(hb:Binds X.K fd ps ds)(hd:Vals dvs ds)
  (hx:u5 CX X E) (I:Inv X pins σ H s) (r:Vals vs us)
  (h:∀x dx,H x=none->H dx=none->dx≠x->sp (.ref x ::(vs++dvs)) (upd (upd H dx (.own x)) x (.ins C dx [])) (fun v H2=>v = .non/\Q (.ref x) H2) E) :
  wpAny (model X.prog X.w) X.A (call (.ref C) us) (EP X pins σ Q) X.xe s:=by
 have hq:=h (s.heap.objs.size+1) s.heap.objs.size (I.hok.fresh (DL _)) (I.hok.fresh (Nat.le_refl _)) (BF (E_ _))
 have I2:=Inv.made (C:=C) I
 have r2:Vals (V.ref (s.heap.objs.size+1) ::(vs++dvs)) (Value.ref (s.heap.objs.size+1) ::(us++ds)):=.cons rfl (r.append hd)
 have hl:(Value.ref (s.heap.objs.size+1)::us++ds).length=ps.length:=by
  have e:=r2.length
  rw[F.len _ _ _ _ hq]at e
  exact e.symm
 refine wpAny_call (Ug (f:=f) I.kIn M.makes M.init (beq_iff_eq.mp M.fn) (HC (F.run _ X.stack _ _ ⟨Value.ref (s.heap.objs.size+1)::us,[]⟩ (Value.ref (s.heap.objs.size+1) ::(us++ds)) _ _ E (hr.make C us [])
  (I2.env0.make C us []) (hb _ (Value.ref (s.heap.objs.size+1)::us) I2.kIn hl) r2 hq) fun r s' hq'=>?_))
 cases r with
 | error e=>exact hx pins σ _ _ e s' I2 hq'
 | ok fl =>
  cases fl with
  | ret u =>
   obtain⟨v,H',I3,rv,ev,q3⟩:=I2.after hq'
   subst ev
   exact⟨rv,⟨V.ref (s.heap.objs.size+1),H',I3,rfl,q3⟩⟩
  | next=>exact False.elim hq'
  | brk=>exact False.elim hq'
  | cont=>exact False.elim hq'
theorem Iw(M:Mk X.K C f)(F:FnOk X.prog X.w X.K X.mg X.base CX k f fd ps sp)(hr:Room (k+1) X.A)(hg:Gl X x)(hm:X.mg x=some (.ref C))(hb:Binds X.K fd ps ds)(hd:Vals dvs ds)(hx:u5 CX X E)
  (ha:PA X (e::es) t) (hdb:(x ==("__debug__":Str))=false:=by decide) (he:starEach (e::es) X.env =(false,eval e X.env)::starEach es X.env:=by rfl) (hpl:(backTo pos (starEach es X.env)).any (·.1)=false:=by rfl) :
  PE X (.Call (.Name x p) (e::es) [] pos) (zCe C sp dvs E t):=by
 intro pins s σ H Q I h
 refine FC (Ik I hg hm ?_ hdb)
 refine PySem.W.callWith_K (h₀:=X.base) I.ok.mod.kin M.kp (thn (ha pos pins s σ H _ I h) fun us s1 ⟨vs,H1,I1,r,q⟩=>⟨I1.kIn,?_⟩) he hpl
 exact Uw M F hr hb hd hx I1 r q
end
structure FnScope(N P:List Str)(sc:Scope):Prop where
 kind:sc.kind = .function
 co:sc.isCoroutine=false
 gen:sc.isGenerator=false
 nd:N.Nodup
 pre:N.take P.length=P
 par:∀x∈P,sc.names.lookup x=some .local\/sc.names.lookup x=some .cell
 nofree:∀y∈sc.names,y.2≠ .free
theorem Ha{kindOf:Str->Option NameKind}{x:Str}:∀{binds:List (Str×Value)} {m:Str->Option Value},(∀v,(x,v)∉binds)->bindL kindOf binds m x=m x
 | [],_,_=>rfl
 | (n,v)::r,m,h=>by
  unfold bindL
  rw[Ha fun w hw=>h w (AM _ hw)]
  split
  ·have:x≠n:=by rintro rfl;exact h v AU
   simp[this]
  ·rfl
theorem Hr{kindOf:Str->Option NameKind}{x:Str}:∀{binds:List (Str×Value)} {m:Str->Option Value},(∀v,(x,v)∉binds)->bindC kindOf binds m x=m x
 | [],_,_=>rfl
 | (n,v)::r,m,h=>by
  unfold bindC
  rw[Hr fun w hw=>h w (AM _ hw)]
  split
  ·rfl
  ·have:x≠n:=by rintro rfl;exact h v AU
   simp[this]
theorem Hb{kindOf:Str->Option NameKind}{x:Str}{v:Value}:∀{P:List Str} {vs:List Value} {i:Nat} {m:Str->Option Value},P.Nodup->P[i]?=some x->vs[i]?=some v->kindOf x=some .local ->
  bindL kindOf (P.zip vs) m x=some v
 | [],_,_,_,_,h,_,_=>by simp at h
 | _::_,[],_,_,_,_,h,_=>by simp at h
 | p::P,w::vs,0,m,nd,h1,h2,hk=>by
  simp at h1 h2;subst h1;subst h2
  show bindL kindOf ((p,w)::P.zip vs) m p=_
  unfold bindL
  rw[Ha fun v hv=>(DB.mp nd).1 (List.of_mem_zip hv).1,AQ hk]
  simp
 | p::P,w::vs,i+1,m,nd,h1,h2,hk=>by
  show bindL kindOf ((p,w)::P.zip vs) m x=_
  unfold bindL
  exact Hb (i:=i) (DB.mp nd).2 (by simpa using h1) (by simpa using h2) hk
theorem Gc{kindOf:Str->Option NameKind}{x:Str}{v:Value}:∀{P:List Str} {vs:List Value} {i:Nat} {m:Str->Option Value},P.Nodup->P[i]?=some x->vs[i]?=some v->kindOf x≠some .local ->
  bindC kindOf (P.zip vs) m x=some v
 | [],_,_,_,_,h,_,_=>by simp at h
 | _::_,[],_,_,_,_,h,_=>by simp at h
 | p::P,w::vs,0,m,nd,h1,h2,hk=>by
  simp at h1 h2;subst h1;subst h2
  show bindC kindOf ((p,w)::P.zip vs) m p=_
  unfold bindC
  rw[Hr fun v hv=>(DB.mp nd).1 (List.of_mem_zip hv).1,AJ hk]
  simp
 | p::P,w::vs,i+1,m,nd,h1,h2,hk=>by
  show bindC kindOf ((p,w)::P.zip vs) m x=_
  unfold bindC
  exact Gc (i:=i) (DB.mp nd).2 (by simpa using h1) (by simpa using h2) hk
def Hm(N:List Str)(vs:List V):St:=vs.map some++List.replicate (N.length-vs.length) none
def Ys(CX:CXT)(P:Program)(w:World)(K:PySem.W.Frag)(mg:Str->Option Value)(base:Heap)(N:List Str)(qual:Str)(scope:Scope)(f:Addr)(cd:Value)(A:Around)(outer:List Env)(s:Shared)(H:Hp)(E:XK):Cx where
 prog:=P
 w:=w
 K:=K
 mg:=mg
 base:=base
 A:=A.deeper (envOfC qual scope s.heap.objs.size f cd)
 N:=N
 s₀:=s
 H₀:=H
 env:=envOfC qual scope s.heap.objs.size f cd
 outer:=outer
 stack:=envOfC qual scope s.heap.objs.size f cd::outer
 ex:=[]
 calm:=true
 fn:=fun _=>true
 pn:=[]
 xe:=fun e s'=>wpAny (model P w) (A.deeper (envOfC qual scope s.heap.objs.size f cd)) (leaving (envOfC qual scope s.heap.objs.size f cd) e) (fun _ s''=>CX outer H s E e s'') (fun e' s''=>CX outer H s E e' s'') s'
theorem Kz{sc:Scope}{n:Nat}{x:Str}(h:sc.names.lookup x=some .cell):∃c,(cellsFrom n sc.names []).lookup x=some c:=by
 have q:=PySem.W.cellsFrom_some sc.names n [] (.inl h)
 exact FN.mp q
theorem Pk{CX:CXT}{P:Program}{w:World}{K:PySem.W.Frag}{mg:Str->Option Value}{base:Heap}{N ps:List Str}{qual:Str}{scope:Scope}{f:Addr}{cd:Value}{A:Around}{outer:List Env}{s s1:Shared}{H:Hp}{E:XK}{us:List Value}{vs:List V}
  (S:FnScope N ps scope) (hd:A.handled=none) (e0:Env0 P w K mg base A outer s H) (hl:vs.length=ps.length) (r:Vals vs us)
  (x:InCallC s s.heap.objs.size (bindL (envOfC qual scope s.heap.objs.size f cd).kindOf (ps.zip us) fun _=>none) (cellsFrom (s.heap.objs.size+1) scope.names []) (bindC (envOfC qual scope s.heap.objs.size f cd).kindOf (ps.zip us) fun _=>none) s1) :
  Inv (Ys CX P w K mg base N qual scope f cd A outer s H E) [] (Hm N vs) H s1:=by
 have hpl:ps.length<=N.length:=by have:=congrArg List.length S.pre;rw[AS]at this;omega
 obtain⟨h1,tk,rfl,hk⟩:=x.done
 have noA:∀b:Addr,b∉(Ys CX P w K mg base N qual scope f cd A outer s H E).ex:=fun b z=>absurd (show b∈([]:List Addr)from z) (by simp)
 refine⟨⟨e0.mod,S.kind,rfl,rfl,Nat.le_refl _,fun y z c h1 h2=>?_,fun y hy=>?_,fun y c _ h=>?_,fun _=>hd,Around.frames_deeper e0.frames,.inr ⟨rfl,rfl⟩,fun b z=>absurd z (noA b),e0.bs,e0.bsz,fun b _ _=>noA b,fun b z=>absurd z (noA b),e0.funs,e0.frf⟩,
  rfl,e0.bare,Un.kept hk,⟨_,x.toInCall.ns,fun i y v h1 h2 h3=>?_⟩,fun y c h=>⟨_,x.cell y c h⟩,e0.hok.fresh (Nat.le_refl _),fun y c h=>?_,fun p hp=>absurd (show p∈([]:List (Addr×Obj))from hp) (by simp),e0.hok.kept hk,?_⟩
 ·exact name_of_addr x.apart (PySem.mem_of_lookup h1) (PySem.mem_of_lookup h2)
 ·have hy:scope.names.lookup y=some .cell\/scope.names.lookup y=some .free:=hy
  rcases hy with hy | hy
  ·exact Kz hy
  ·exact absurd rfl (S.nofree _ (PySem.mem_of_lookup hy))
 ·exact EY (x.above y c (PySem.mem_of_lookup h))
 ·have hi:i<vs.length:=by
   unfold Hm at h2
   by_cases hi:i<vs.length
   ·exact hi
   ·rw[GD (by simpa using hi)]at h2
    rw[List.getElem?_replicate]at h2
    split at h2<;>cases h2
  have ha:vs[i]?=some v:=by
   unfold Hm at h2
   rw[GJ (by simpa using hi),AI]at h2
   cases e:vs[i]? with
   | none=>rw[e]at h2;cases h2
   | some a=>rw[e]at h2;cases h2;rfl
  obtain⟨u,hu,rv⟩:=r.get ha
  have hp:ps[i]?=some y:=by
   rw[<-S.pre,DH (by omega)];exact h1
  have ndP:ps.Nodup:=by rw[<-S.pre];exact S.nd.sublist (DY _ _)
  refine⟨u,rv,?_⟩
  rcases S.par y (BJ hp)with k | k
  ·exact .inl ⟨k,Hb ndP hp hu k⟩
  ·obtain⟨c,e⟩:=Kz (n:=s.heap.objs.size+1) k
   refine .inr ⟨.inl k,c,e,?_⟩
   have q:=x.cell y c e
   rw[Gc ndP hp hu (by show scope.names.lookup y≠_;rw[k];decide)]at q
   exact q
 ·exact e0.hok.fresh (EY (x.above y c (PySem.mem_of_lookup h)))
 ·unfold Hm
  show _=N.length
  rw[BA,AB,List.length_replicate]
  omega
theorem zCz{CX:CXT}{P:Program}{w:World}{K:PySem.W.Frag}{mg:Str->Option Value}{base:Heap}{k:Nat}{f:Addr}{name qual:Str}{params:Arguments}{body:List Stmt}{scope:Scope}{dV kV doc pm cdv ct oc:Value}{an od:Option Addr}
  {osl:Array (Option Value)} {N ps:List Str} {sp:Sp} (lk:K.lookup f=some ⟨oc,od,.func (PySem.W.fnOf name qual params body scope dV kV doc pm an cdv ct),osl⟩) (hcd:PySem.W.codeIn K cdv qual=true) (S:FnScope N ps scope)
  (len:∀vs H Q E,sp vs H Q E->vs.length=ps.length)
  (hbody:∀(A:Around) (outer:List Env) (s:Shared) (H:Hp) (vs:List V) (Q:VK) (E:XK),Room k (A.deeper (envOfC qual scope s.heap.objs.size f cdv))->sp vs H Q E ->
   ∃t,PSs (Ys CX P w K mg base N qual scope f cdv A outer s H E) body t/\t { nx:=fun _ H'=>Q .non H',rt:=Q } (Hm N vs) H) :
  FnOk P w K mg base CX (k+1) f (PySem.W.fnOf name qual params body scope dV kV doc pm an cdv ct) ps sp:=by
 refine⟨len,fun A outer s H args us vs Q E hr e0 hb r hsp=>?_⟩
 have hl:=len _ _ _ _ hsp
 have KX:K.In s.heap:=e0.mod.kin.keeps fun b o e=>(e0.bs b o e).1
 have lim:s.heap.NoLimit:=e0.mod.nolimit.keeps fun b o e=>(e0.bs b o e).1
 have hkind:∀y∈ps.zip us,scope.names.lookup y.1=some .local\/(scope.names.lookup y.1=some .cell/\((cellsFrom (s.heap.objs.size+1) scope.names []).lookup y.1).isSome=true):=fun⟨n,v⟩ hy=>by
  rcases S.par n (List.of_mem_zip hy).1 with q | q
  ·exact .inl q
  ·exact .inr ⟨q,PySem.W.cellsFrom_some _ _ _ (.inl q)⟩
 refine codeAny_call_function hr.depth (KX _ _ lk) rfl S.co S.gen rfl (PySem.W.codeRec_of KX hcd) (hb _ _ _ _ ?_)
 refine wpAny_newFunctionEnv_cells S.kind hkind fun env he s1 x=>?_
 subst he
 refine⟨lim.keeps x.toInCall.keep,codeAny_func ?_⟩
 obtain⟨t,ht,hq⟩:=hbody A outer s H vs Q E (hr.deeper _) hsp
 have I:Inv (Ys CX P w K mg base N qual scope f cdv A outer s H E) [] (Hm N vs) H s1:=Pk S hr.hd e0 hl r x
 refine CS (ht [] s1 (Hm N vs) H _ I hq) (fun fl s' hs=>?_) fun e s' hs=>hs
 have fin:∀{σ':St} {H':Hp} {v:V} {u:Value},Inv (Ys CX P w K mg base N qual scope f cdv A outer s H E) [] σ' H' s'->RelV v u->Q v H'->CE outer P w H s Q u s' :=
  fun{σ' H' v u} J rv q=>⟨v,H',J.os,J.bare,J.base,J.hok,rv,q⟩
 cases fl with
 | ret u =>
  obtain⟨v,σ',H',J,rv,q⟩:=hs
  exact fin J rv q
 | next =>
  obtain⟨σ',H',J,q⟩:=hs
  exact fin (v:=V.non) (u:=Value.none) J rfl q
 | brk =>
  obtain⟨_,_,_,q⟩:=hs
  exact False.elim q
 | cont =>
  obtain⟨_,_,_,q⟩:=hs
  exact False.elim q
section
variable{X:Cx}{x:Str}{p pos:Pos}{e:Expr}{es:List Expr}{t:TA}{id T:String}{r:List V->Hp->VK->Prop}
def tCB(r:List V->Hp->VK->Prop)(t:TA):TE:=fun σ H Q=>t σ H fun vs H1=>r vs H1 Q
theorem Su(hc:J0 X (.builtin id) r)(hg:Gl X x)(hm:X.mg x=none)(hv:bootBuiltins x=some (.builtin id))(ha:PA X (e::es) t)(hn:x≠ "__name__":=by decide)(hdb:(x ==("__debug__":Str))=false:=by decide)
  (he:starEach (e::es) X.env =(false,eval e X.env)::starEach es X.env:=by rfl) (hpl:(backTo pos (starEach es X.env)).any (·.1)=false:=by rfl):PE X (.Call (.Name x p) (e::es) [] pos) (tCB r t):=by
 intro pins s σ H Q I h
 refine FC (Di I hg hm hv ?_ hn hdb)
 exact PyProof.Rows.callWith_builtin1 (thn (ha pos pins s σ H _ I h) fun us s1 ⟨vs,H1,I1,r1,q1⟩=>hc pins s1 σ H1 vs us Q I1 r1 q1) he hpl
theorem Pd(hc:J0 X (.type T) r)(hg:Gl X x)(hm:X.mg x=none)(hv:bootBuiltins x=some (.type T))(ha:PA X (e::es) t)(hn:x≠ "__name__":=by decide)(hdb:(x ==("__debug__":Str))=false:=by decide)
  (he:starEach (e::es) X.env =(false,eval e X.env)::starEach es X.env:=by rfl) (hpl:(backTo pos (starEach es X.env)).any (·.1)=false:=by rfl):PE X (.Call (.Name x p) (e::es) [] pos) (tCB r t):=by
 intro pins s σ H Q I h
 refine FC (Di I hg hm hv ?_ hn hdb)
 exact PyProof.Rows.callWith_type1 (thn (ha pos pins s σ H _ I h) fun us s1 ⟨vs,H1,I1,r1,q1⟩=>hc pins s1 σ H1 vs us Q I1 r1 q1) he hpl
theorem Da(hc:J0 X (.type T) r)(hg:Gl X x)(hm:X.mg x=none)(hv:bootBuiltins x=some (.type T))(hn:x≠ "__name__":=by decide)(hdb:(x ==("__debug__":Str))=false:=by decide) :
  PE X (.Call (.Name x p) [] [] pos) (tCB r Vo):=by
 intro pins s σ H Q I h
 refine FC (Di I hg hm hv ?_ hn hdb)
 exact PyProof.Rows.callWith_type0 (hc pins s σ H [] [] Q I .nil h)
end
end L2
namespace HT
open PySem PyProof.Rows
section
variable{prog:Program}{w:World}{A:Around}{E:Value->Shared->Prop}{s:Shared}
def sIx(n d:Nat):Option Int->Nat
 | none=>d
 | some v=>if v<0 then(v +(n:Int)).toNat else min v.toNat n
theorem sIx_none(n d:Nat):sIx n d none=d:=rfl
theorem sIx_nat(n d k:Nat):sIx n d (some (k:Int))=min k n:=by
 show(if(k:Int)<0 then((k:Int) +(n:Int)).toNat else min (k:Int).toNat n)=min k n
 rw[AJ (by omega),EC]
end
end HT
namespace L2
open PySem PySem.Spec PyProof.Rows
abbrev TO:=St->Hp->(Option Int->Hp->Prop)->Prop
def PO(X:Cx)(e:Option Expr)(t:TO):Prop :=
 ∀(pins:List (Addr×Obj)) (s:Shared) (σ:St) (H:Hp) (Q:Option Int->Hp->Prop),Inv X pins σ H s->t σ H Q ->
  wpAny (model X.prog X.w) X.A (evalPart e X.env) (fun u s'=>∃o H',Inv X pins σ H' s'/\IsPart u o/\Q o H') X.xe s
def Xp:TO:=fun _ H Q=>Q none H
def zCl(t:TE):TO:=fun σ H Q=>t σ H fun x H1=>∃i,x = .int i/\Q (some i) H1
theorem Nz{ns:List Int}:∀{us:List Value},Vals (ns.map V.int) us->IntsAre us ns:=by
 induction ns with
 | nil=>intro us r;rw[List.map_nil]at r;cases r;exact .nil
 | cons n ns ih =>
  intro us r
  rw[BG]at r
  cases r with
  | cons r1 r2 =>
   obtain⟨t,e⟩:=r1
   subst e
   exact .cons n t (ih r2)
section
variable{X:Cx}{e:Expr}{te:TE}{lo hi:Option Expr}{tl th:TO}{pos p2:Pos}
theorem Yh:PO X none Xp:=by
 intro pins s σ H Q I h
 rw[evalPart_none]
 exact AF ⟨none,H,I,.none,h⟩
theorem Xr(h:PE X e te):PO X (some e) (zCl te):=by
 intro pins s σ H Q I hw
 rw[evalPart_some]
 refine thn (h pins s σ H _ I hw) fun u s1 ⟨x,H1,I1,r1,q1⟩=>?_
 obtain⟨i,rfl,q⟩:=q1
 obtain⟨t,rfl⟩:=r1
 exact⟨some i,H1,I1,.int i t,q⟩
def SlR(X:Cx)(r:V->Option Int->Option Int->Hp->VK->Prop):Prop :=
 ∀(pins:List (Addr×Obj)) (s:Shared) (σ:St) (H:Hp) (x:V) (v vl vu:Value) (lo hi:Option Int) (sl:Addr) (Q:VK),Inv X pins σ H s->RelV x v->s.heap.IsSliceOf sl vl vu .none->IsPart vl lo->IsPart vu hi->r x lo hi H Q ->
  ∃T id,typeLookup (.type T) "__getitem__" = pure (some (.builtin id))/\s.TypeIs v T/\wpAny (model X.prog X.w) X.A (getItem v (.ref sl)) (EP X pins σ Q) X.xe s
def tSl(r:V->Option Int->Option Int->Hp->VK->Prop)(te:TE)(tl th:TO):TE:=fun σ H Q=>te σ H fun x H1=>tl σ H1 fun l H2=>th σ H2 fun u H3=>r x l u H3 Q
theorem Te{r:V->Option Int->Option Int->Hp->VK->Prop}(hr:SlR X r)(he:PE X e te)(hl:PO X lo tl)(hu:PO X hi th):PE X (.Subscript e (.Slice lo hi none p2) pos) (tSl r te tl th):=by
 intro pins s σ H Q I h
 refine Subscript_ (thn (he pins s σ H _ I h) fun v s1 ⟨x,H1,I1,r1,q1⟩=>?_)
 refine wpAny_Slice (thn (hl pins s1 σ H1 _ I1 q1) fun vl s2 ⟨l,H2,I2,pl,q2⟩=>thn (hu pins s2 σ H2 _ I2 q2) fun vu s3 ⟨u,H3,I3,pu,q3⟩=>?_)
 rw[evalPart_none]
 refine AF ?_
 have I4:Inv X pins σ H3 { s3 with heap:=s3.heap.push { cls:=.type "slice",data:=.fields #[vl,vu,.none] } }:=I3.kept (t':=s3.toks) fun b ob q=>AE _ q
 obtain⟨T,id,hT,ht,hg⟩:=hr pins { s3 with heap:=s3.heap.push { cls:=.type "slice",data:=.fields #[vl,vu,.none] } } σ H3 x v vl vu l u s3.heap.objs.size Q I4 r1 (Heap.IsSliceOf.new ..) pl pu q3
 show wpAny (model X.prog X.w) X.A (subscriptTail e (.Slice lo hi none p2) v (.ref s3.heap.objs.size)) (EP X pins σ Q) X.xe { s3 with heap:=s3.heap.push { cls:=.type "slice",data:=.fields #[vl,vu,.none] } }
 exact tail_any (ops:=[.ref s3.heap.objs.size,v]) ht hT hg (by with_unfolding_all rfl)
def Sk(xs:List V)(lo hi:Option Int):List V:=(xs.drop (HT.sIx xs.length 0 lo)).take (HT.sIx xs.length xs.length hi-HT.sIx xs.length 0 lo)
theorem Jq(xs:List V)(lo hi:Option Int):(Sk xs lo hi).length<=xs.length:=by
 unfold Sk
 rw[AS,DG]
 omega
end
def ixN(n:Nat)(i:Int):Option Nat:=if 0<=i then(if i<n then some i.toNat else none)else if -(n:Int)<=i then some (i+n).toNat else none
def atI{α:Type}(xs:List α)(i:Int):Option α:=(ixN xs.length i).bind fun j=>xs[j]?
theorem Po{n:Nat}{i:Int}{j:Nat}(h:ixN n i=some j):seqIndex? i n=some j/\j<n/\-(n:Int)<=i/\i<n:=by
 unfold ixN at h
 by_cases h0:0<=i
 ·rw[AQ h0]at h
  by_cases h1:i<n
  ·rw[AQ h1]at h
   have e:i.toNat=j:=BH h
   exact⟨by rw[seqIndex_of h0 h1,e],by omega,by omega,h1⟩
  ·rw[AJ h1]at h;cases h
 ·rw[AJ h0]at h
  by_cases h1:-(n:Int)<=i
  ·rw[AQ h1]at h
   have e:(i+n).toNat=j:=BH h
   exact⟨by rw[seqIndex_neg (by omega) h1,e],by omega,h1,by omega⟩
  ·rw[AJ h1]at h;cases h
theorem Op{α:Type}{xs:List α}{i:Int}{v:α}(h:atI xs i=some v):∃j,seqIndex? i xs.length=some j/\xs[j]?=some v/\j<xs.length/\-(xs.length:Int)<=i/\i<xs.length:=by
 unfold atI at h
 cases e:ixN xs.length i with
 | none=>rw[e]at h;cases h
 | some j =>
  rw[e]at h
  obtain⟨h1,h2,h3,h4⟩:=Po e
  exact⟨j,h1,h,h2,h3,h4⟩
theorem l7{α:Type}{xs:List α}{j:Nat}{v:α}(h:xs[j]?=some v):atI xs (j:Int)=some v:=by
 have hj:j<xs.length:=(AG.mp h).1
 have e:ixN xs.length (j:Int)=some j:=by
  unfold ixN
  rw[AQ (by omega),AQ (by omega)];simp
 unfold atI;rw[e];exact h
def Yk(b:Expr):Prop:=∀o i,subscripted b false o i=operate [o,i] (getItem o i)
def IxR(X:Cx)(r:R2):Prop :=
 ∀(value slice:Expr) (pins:List (Addr×Obj)) (s:Shared) (σ:St) (H:Hp) (x y:V) (v u:Value) (Q:VK),Inv X pins σ H s->RelV x v->RelV y u->r x y H Q ->
  subscripted slice false v u=operate [v,u] (getItem v u)->wpAny (model X.prog X.w) X.A (subscriptTail value slice v u) (EP X pins σ Q) X.xe s
def MtR(X:Cx)(id:String)(r:V->List V->Hp->VK->Prop):Prop :=
 ∀(pins:List (Addr×Obj)) (s:Shared) (σ:St) (H:Hp) (x:V) (xs:List V) (v:Value) (us:List Value) (Q:VK),Inv X pins σ H s->RelV x v->Vals xs us->r x xs H Q ->
  wpAny (model X.prog X.w) X.A (call (.builtin id) (v::us)) (EP X pins σ Q) X.xe s
section
variable{X:Cx}{a b:Expr}{ta tb:TE}{pos:Pos}
theorem V6{r:R2}(hr:IxR X r)(ha:PE X a ta)(hb:PE X b tb)(hs:Yk b):PE X (.Subscript a b pos) (tOp r ta tb):=by
 intro pins s σ H Q I h
 exact Subscript_ (zCn ha hb I h fun v u s2 x y H2 I2 rx ry q=>hr a b pins s2 σ H2 x y v u Q I2 rx ry q (hs _ _))
def zEa(K:PySem.W.Frag):R2:=fun x y H Q=>∃p xs i v,x = .ref p/\y = .int i/\SqL K H p xs/\atI xs i=some v/\Q v H
def zDy(K:PySem.W.Frag):R2:=fun x y H Q=>∃p xs i v,x = .ref p/\y = .int i/\SqT K H p xs/\atI xs i=some v/\Q v H
theorem Xw:IxR X (zEa X.K):=by
 intro value slice pins s σ H x y v u Q I rx ry h hs
 obtain⟨p,xs,i,z,rfl,rfl,hq,he,q⟩:=h
 cases rx
 obtain⟨t,rfl⟩:=ry
 obtain⟨its,r,pl,hz⟩:=I.list hq
 obtain⟨j,h1,h2,h3,h4,h5⟩:=Op he
 obtain⟨w,ew,rw'⟩:=r.get h2
 have hl:=r.length
 have hn:=Ct
 have fin:EP X pins σ Q w s:=⟨z,H,I,rw',q⟩
 by_cases h0:0<=i
 ·have hj:i.toNat=j:=by
   rw[seqIndex_of h0 h5]at h1
   exact BH h1
  exact item_listR pl.isList h0 (by omega) (by rw[hj];simpa using ew) fin hs
 ·have hj:(i +(its.toArray.size:Int)).toNat=j:=by
   rw[seqIndex_neg (by omega) h4]at h1
   rw[AZ,<-hl]
   exact BH h1
  exact subscriptTail_builtinR (x:=w) pl.isList.typeIs slot_list_getitem.lookup
   (wpAny_getItem_list_neg (Q:=fun r s'=>r=w/\EP X pins σ Q r s') pl.isList (by omega) (by rw[AZ]<;>omega) (by omega) (by rw[hj];simpa using ew) ⟨rfl,fin⟩) hs
theorem Zf:IxR X (zDy X.K):=by
 intro value slice pins s σ H x y v u Q I rx ry h hs
 obtain⟨p,xs,i,z,rfl,rfl,hq,he,q⟩:=h
 cases rx
 obtain⟨t,rfl⟩:=ry
 obtain⟨its,r,pl,hz⟩:=I.tuple hq
 obtain⟨j,h1,h2,h3,h4,h5⟩:=Op he
 obtain⟨w,ew,rw'⟩:=r.get h2
 have hl:=r.length
 have hn:=Ct
 have fin:EP X pins σ Q w s:=⟨z,H,I,rw',q⟩
 exact subscriptTail_builtinR (x:=w) pl.typeIs slot_tuple_getitem.lookup
  (getItem_tuple (j:=j) (Q:=fun r s'=>r=w/\EP X pins σ Q r s') pl (by omega) (by omega) (by rw[AZ,<-hl];exact h1) (by simpa using ew) ⟨rfl,fin⟩) hs
theorem Nv(its:List Value)(n j:Nat)(u:Value):Obj.mapSeq (·.setIfInBounds j u) { cls:=.type "list",data:=.seq its.toArray n } ={ cls:=.type "list",data:=.seq (its.set j u).toArray n }:=by
 simp[Obj.mapSeq]
theorem Inv.lst{pins:List (Addr×Obj)}{σ:St}{H:Hp}{s:Shared}{p:Addr}{xs:List V}(I:Inv X pins σ H s)(h:H p=some (.lst xs)) :
  ∃(its:List Value) (n:Nat),Vals xs its/\s.heap.get? p=some { cls:=.type "list",data:=.seq its.toArray n }/\xs.length<=sizeLine:=by
 obtain⟨z,its,n,r,e⟩:=I.hok p _ h
 exact⟨its,n,r,e,z⟩
theorem Inv.lstUpd{pins:List (Addr×Obj)}{σ:St}{H:Hp}{s:Shared}{p:Addr}{xs ys:List V}{its its':List Value}{n n':Nat}{f:Obj->Obj}(I:Inv X pins σ H s)(h:H p=some (.lst xs))
  (ho:s.heap.get? p=some { cls:=.type "list",data:=.seq its.toArray n }) (hf:f { cls:=.type "list",data:=.seq its.toArray n } ={ cls:=.type "list",data:=.seq its'.toArray n' }) (r:Vals ys its') (hz:ys.length<=sizeLine) (t:Nat) :
  Inv X pins σ (upd H p (.lst ys)) { s with heap:=s.heap.update p f,toks:=t }:=by
 have e:(s.heap.update p f).get? p=some { cls:=.type "list",data:=.seq its'.toArray n' }:=by
  rw[DN f ho (by rw[hf]<;>rfl),hf]
 refine I.write (x:=p) (e:=p) (by rw[h];trivial) (.inl rfl) (fun b u hb q=>(C_ _ _ (Ne.symm hb)).trans q) ⟨_,e⟩ ?_
 exact⟨hz,its',n',r,e⟩
def zDj:V->V->V->Hp->(Hp->Prop)->Prop:=fun o i v H Q=>∃p xs k j,o = .ref p/\i = .int k/\H p=some (.lst xs)/\ixN xs.length k=some j/\Q (upd H p (.lst (xs.set j v)))
theorem Lz:zEg X zDj:=by
 intro pins s σ H o i v ov iv u Q I ro ri rv h
 obtain⟨p,xs,k,j,rfl,rfl,hp,hj,q⟩:=h
 cases ro
 obtain⟨t,rfl⟩:=ri
 obtain⟨its,n,r,ho,hz⟩:=I.lst hp
 obtain⟨h1,h2,h3,h4⟩:=Po hj
 have hl:=r.length
 have hn:=Ct
 have I':Inv X pins σ (upd H p (.lst (xs.set j v))) { s with heap:=s.heap.update p (Obj.mapSeq (·.setIfInBounds j u)) } :=
  I.lstUpd hp ho (Nv its n j u) (r.set rv j) (by rw[List.length_set];exact hz) s.toks
 by_cases h0:0<=k
 ·have hk:k.toNat=j:=by
   rw[seqIndex_of h0 h4]at h1
   exact BH h1
  exact PySem.W.ki_setAt ho h0 (by omega) (by rw[AZ,<-hl];exact h4) (by rw[hk];exact⟨_,I',q⟩)
 ·have hk:(k +(its.toArray.size:Int)).toNat=j:=by
   rw[seqIndex_neg (by omega) h3]at h1
   rw[AZ,<-hl]
   exact BH h1
  exact PySem.W.ki_setBack ho (by omega) (by rw[AZ,<-hl];exact h3) (by omega) (by rw[hk];exact⟨_,I',q⟩)
theorem Hg(lo hi:Option Int)(n:Nat):(sliceBounds lo hi none n).1 =((HT.sIx n 0 lo:Nat):Int)/\(sliceBounds lo hi none n).2.1 =((HT.sIx n n hi:Nat):Int)/\(sliceBounds lo hi none n).2.2=1:=by
 refine⟨?_,?_,rfl⟩
 ·cases lo with
  | none=>simp[sliceBounds,HT.sIx]
  | some i =>
   simp only[sliceBounds,HT.sIx,Option.getD_none,show(1:Int)>0 by decide,FE]
   by_cases h:i<0
   ·simp only[h,FE]<;>omega
   ·simp only[h,CN]<;>omega
 ·cases hi with
  | none=>simp[sliceBounds,HT.sIx]
  | some i =>
   simp only[sliceBounds,HT.sIx,Option.getD_none,show(1:Int)>0 by decide,FE]
   by_cases h:i<0
   ·simp only[h,FE]<;>omega
   ·simp only[h,CN]<;>omega
theorem Ec(its:List Value)(lo hi:Option Int):slicePick its.toArray lo hi none =((its.drop (HT.sIx its.length 0 lo)).take (HT.sIx its.length its.length hi-HT.sIx its.length 0 lo)).toArray:=by
 obtain⟨h1,h2,h3⟩:=Hg lo hi its.toArray.size
 unfold slicePick
 rw[h1,h2,h3]
 simp only[sliceRange_one,pick_run,AZ]<;>rfl
def zDr(K:PySem.W.Frag):V->Option Int->Option Int->Hp->VK->Prop:=fun x lo hi H Q=>∃a xs,x = .ref a/\SqL K H a xs/\∀p,H p=none->Q (.ref p) (upd H p (.lst (Sk xs lo hi)))
theorem Wu:SlR X (zDr X.K):=by
 intro pins s σ H x v vl vu lo hi sl Q I rx hs pl pu h
 obtain⟨a,xs,rfl,hx,q⟩:=h
 cases rx
 obtain⟨its,r,ht,hz⟩:=I.list hx
 have hlen:=r.length
 refine⟨"list",_,slot_list_getitem.lookup,ht.isList.typeIs,?_⟩
 refine wpAny_getItem_list_slice ht.isList hs pl pu .none (by simp) ?_ (by rw[AZ]<;>omega)
 rw[Ec,<-hlen]
 refine⟨.ref s.heap.objs.size,_,I.laid (t':=s.toks) (o:=.lst (Sk xs lo hi)) (fun b ob q=>AE _ q) (Nat.le_refl _) ?_,rfl,q _ (I.hok.fresh (Nat.le_refl _))⟩
 exact⟨Nat.le_trans (Jq xs lo hi) hz,_,0,(r.drop (HT.sIx xs.length 0 lo)).take (HT.sIx xs.length xs.length hi-HT.sIx xs.length 0 lo),BB _ rfl⟩
def Ek:V->Bool
 | .non=>true
 | .bl _=>true
 | .int _=>true
 | .str _=>true
 | _=>false
def eqV:V->V->Bool
 | .non,.non=>true
 | .bl a,.bl b=>a == b
 | .bl a,.int b=>(if a then 1 else 0) == b
 | .int a,.bl b=>a ==(if b then 1 else 0)
 | .int a,.int b=>a == b
 | .str a,.str b=>a == b
 | _,_=>false
theorem Zs{A:Around}{s:Shared}{y x:V}{u v:Value}(ry:RelV y u)(rx:RelV x v)(fy:Ek y=true)(fx:Ek x=true):SeqAt.EqAt A s u v (eqV y x):=by
 cases y with
 | non =>
  cases ry
  cases x with
  | non=>cases rx;exact SeqAt.EqAt.same _
  | bl b=>cases rx;exact SeqAt.EqAt.none_bool b
  | int b=>obtain⟨t,rfl⟩:=rx;exact SeqAt.EqAt.none_int b t
  | str b=>obtain⟨t,rfl⟩:=rx;exact SeqAt.EqAt.none_str b t
  | _=>exact absurd (show false=true from fx) BC
 | bl a =>
  cases ry
  cases x with
  | non=>cases rx;exact SeqAt.EqAt.bool_none a
  | bl b=>cases rx;exact SeqAt.EqAt.bool_bool a b
  | int b=>obtain⟨t,rfl⟩:=rx;exact SeqAt.EqAt.bool_int a b t
  | str b=>obtain⟨t,rfl⟩:=rx;exact SeqAt.EqAt.bool_str a b t
  | _=>exact absurd (show false=true from fx) BC
 | int a =>
  obtain⟨t',rfl⟩:=ry
  cases x with
  | non=>cases rx;exact SeqAt.EqAt.int_none a t'
  | bl b=>cases rx;exact SeqAt.EqAt.int_bool a t' b
  | int b=>obtain⟨t,rfl⟩:=rx;exact SeqAt.EqAt.int_int a t' b t
  | str b=>obtain⟨t,rfl⟩:=rx;exact SeqAt.EqAt.int_str a t' b t
  | _=>exact absurd (show false=true from fx) BC
 | str a =>
  obtain⟨t',rfl⟩:=ry
  cases x with
  | non=>cases rx;exact SeqAt.EqAt.str_none a t'
  | bl b=>cases rx;exact SeqAt.EqAt.str_bool a t' b
  | int b=>obtain⟨t,rfl⟩:=rx;exact SeqAt.EqAt.str_int a t' b t
  | str b=>obtain⟨t,rfl⟩:=rx;exact SeqAt.EqAt.str_str a t' b t
  | _=>exact absurd (show false=true from fx) BC
 | _=>exact absurd (show false=true from fy) BC
def eqU(x:V)(u:Value):Bool:=match u with
 | .none=>eqV .non x
 | .bool b=>eqV (.bl b) x
 | .int i _=>eqV (.int i) x
 | .str z _=>eqV (.str z) x
 | _=>false
theorem Vg{x y:V}{u:Value}(r:RelV y u)(f:Ek y=true):eqU x u=eqV y x:=by
 cases y with
 | non=>cases r;rfl
 | bl b=>cases r;rfl
 | int i=>obtain⟨t,rfl⟩:=r;rfl
 | str z=>obtain⟨t,rfl⟩:=r;rfl
 | _=>exact absurd (show false=true from f) BC
theorem Aw{x:V}:∀{xs:List V} {us:List Value},Vals xs us->xs.all Ek=true->us.any (eqU x)=xs.any fun y=>eqV y x
 | _,_,.nil,_=>rfl
 | y::xs,u::us,.cons r t,f=>by
  rw[List.all_cons,BP]at f
  rw[FO,FO,Vg r f.1,Aw t f.2]
theorem i5{A:Around}{s:Shared}{x:V}{v:Value}(rx:RelV x v)(fx:Ek x=true):∀{xs:List V} {us:List Value},Vals xs us->xs.all Ek=true->∀u∈us,SeqAt.EqAt A s u v (eqU x u)
 | _,_,.nil,_=>fun u hu=>by cases hu
 | y::xs,u::us,.cons r t,f=>fun u' hu=>by
  rw[List.all_cons,BP]at f
  rcases BD.mp hu with rfl | hu
  ·rw[Vg r f.1];exact Zs r rx f.1 fx
  ·exact i5 rx fx t f.2 u' hu
def inV(x:V)(xs:List V):Bool:=xs.any fun y=>eqV y x
def rIn(K:PySem.W.Frag)(neg:Bool):R2:=fun x y H Q=>∃p xs,y = .ref p/\(SqL K H p xs\/SqT K H p xs)/\Ek x=true/\xs.all Ek=true/\Q (.bl (if neg then !inV x xs else inV x xs)) H
theorem Sc:OpR X (compareOp .In) (rIn X.K false):=by
 intro pins s σ H x y v u Q I rx ry h
 obtain⟨p,xs,rfl,hq,fx,fs,q⟩:=h
 cases ry
 rcases hq with hq | hq
 ·obtain⟨its,r,pl,hz⟩:=I.list hq
  refine SeqAt.in_listAt (eqU x) pl.isList (fun w hw=>i5 rx fx r fs w (by simpa using hw)) ⟨.bl _,H,I,rfl,?_⟩
  rw[show its.toArray.any (eqU x)=its.any (eqU x) by simp,Aw r fs]
  exact q
 ·obtain⟨its,r,pl,hz⟩:=I.tuple hq
  refine SeqAt.in_tupleAt (eqU x) pl (fun w hw=>i5 rx fx r fs w (by simpa using hw)) ⟨.bl _,H,I,rfl,?_⟩
  rw[show its.toArray.any (eqU x)=its.any (eqU x) by simp,Aw r fs]
  exact q
theorem Hx:OpR X (compareOp .NotIn) (rIn X.K true):=by
 intro pins s σ H x y v u Q I rx ry h
 obtain⟨p,xs,rfl,hq,fx,fs,q⟩:=h
 cases ry
 rcases hq with hq | hq
 ·obtain⟨its,r,pl,hz⟩:=I.list hq
  refine SeqAt.notIn_listAt (eqU x) pl.isList (fun w hw=>i5 rx fx r fs w (by simpa using hw)) ⟨.bl _,H,I,rfl,?_⟩
  rw[show its.toArray.any (eqU x)=its.any (eqU x) by simp,Aw r fs]
  exact q
 ·obtain⟨its,r,pl,hz⟩:=I.tuple hq
  refine SeqAt.notIn_tupleAt (eqU x) pl (fun w hw=>i5 rx fx r fs w (by simpa using hw)) ⟨.bl _,H,I,rfl,?_⟩
  rw[show its.toArray.any (eqU x)=its.any (eqU x) by simp,Aw r fs]
  exact q
theorem Gv:J0 X (.builtin "len") (fun xs H Q=>∃p ys,xs = [.ref p]/\(SqL X.K H p ys\/SqT X.K H p ys)/\Q (.int ys.length) H):=by
 intro pins s σ H xs us Q I r h
 obtain⟨p,ys,rfl,hq,q⟩:=h
 obtain⟨u,rfl,rx⟩:=V2 r
 cases rx
 have hn:=Ct
 rcases hq with hq | hq
 ·obtain⟨its,r',pl,hz⟩:=I.list hq
  have hlen:=r'.length
  exact Calls.call_len_list pl.isList (by simp only[AZ]<;>omega) ⟨.int ys.length,H,I.tok _,⟨s.toks+1,by rw[AZ,hlen]⟩,q⟩
 ·obtain⟨its,r',pl,hz⟩:=I.tuple hq
  have hlen:=r'.length
  exact len_tuple pl (by simp only[AZ]<;>omega) ⟨.int ys.length,H,I.tok _,⟨s.toks+1,by rw[AZ,hlen]⟩,q⟩
theorem Ht:J0 X (.builtin "len") (fun xs H Q=>∃z,xs = [.str z]/\z.length<=sizeLine/\Q (.int z.length) H):=by
 intro pins s σ H xs us Q I r h
 obtain⟨z,rfl,hz,q⟩:=h
 obtain⟨u,rfl,t,rfl⟩:=V2 r
 have hn:=Ct
 exact len_str (by omega) ⟨.int z.length,H,I.tok _,⟨_,rfl⟩,q⟩
theorem Fq:J0 X (.type "list") (fun xs H Q=>∃p ys,xs = [.ref p]/\(SqL X.K H p ys\/SqT X.K H p ys)/\∀l,H l=none->Q (.ref l) (upd H l (.lst ys))):=by
 intro pins s σ H xs us Q I r h
 obtain⟨p,ys,rfl,hq,q⟩:=h
 obtain⟨u,rfl,rx⟩:=V2 r
 cases rx
 have fin:∀(its:List Value),Vals ys its->ys.length<=sizeLine->∀(h':Heap) (c':Nat),(∀b o',s.heap.get? b=some o'->h'.get? b=some o') ->
   h'.get? s.heap.objs.size=some { cls:=.type "list",dict:=none,data:=.seq its.toArray c',slots:=#[] }->EP X pins σ Q (.ref s.heap.objs.size) { s with heap:=h' }:=fun its r' hz h' c' kp e =>
  ⟨.ref s.heap.objs.size,_,I.laid (t':=s.toks) kp (Nat.le_refl _) (show ObjOk X.prog X.w _ h' _ (.lst ys)from⟨hz,its,c',r',e⟩),rfl,q _ (I.hok.fresh (Nat.le_refl _))⟩
 rcases hq with hq | hq
 ·obtain⟨its,r',pl,hz⟩:=I.list hq
  have hlen:=r'.length
  obtain⟨o,ho,hc,n,hd⟩:=pl.isList
  exact call_list_seq p (.inl rfl) ho hc hd (fun h' c' kp e=>fin its r' hz h' c' kp e) (by simp only[AZ]<;>omega)
 ·obtain⟨its,r',pl,hz⟩:=I.tuple hq
  have hlen:=r'.length
  obtain⟨o,ho,hc,n,hd⟩:=pl
  exact call_list_seq p (.inr rfl) ho hc hd (fun h' c' kp e=>fin its r' hz h' c' kp e) (by simp only[AZ]<;>omega)
def tyV(K:PySem.W.Frag)(T:String)(x:V)(H:Hp):Prop:=match x with
 | .str _=>T = "str"
 | .int _=>T = "int"
 | .ref p=>(T = "list"/\∃xs,SqL K H p xs)\/(T = "tuple"/\∃o,K.lookup p=some o/\o.cls = .type "tuple"/\o.dict=none) \/
   (T = "dict"/\((∃kvs,H p=some (.dK kvs))\/∃kvs,H p=some (.dT kvs)))\/(T = "set"/\∃S n,H p=some (.set S n))
 | _=>False
theorem zBl{pins:List (Addr×Obj)}{σ:St}{H:Hp}{s:Shared}{T:String}{x:V}{v:Value}(I:Inv X pins σ H s)(r:RelV x v)(ty:tyV X.K T x H) :
  s.TypeIs v T/\∀a,v = .ref a->∃ob,s.heap.get? a=some ob/\ob.dict=none:=by
 cases x with
 | str z =>
  obtain⟨t,rfl⟩:=r
  cases(show T = "str" from ty)
  exact⟨typeIs_str s z t,fun _ e=>nomatch e⟩
 | int i =>
  obtain⟨t,rfl⟩:=r
  cases(show T = "int" from ty)
  exact⟨typeIs_int s i t,fun _ e=>nomatch e⟩
 | ref p =>
  cases r
  rcases ty with⟨rfl,xs,hq⟩ | ⟨rfl,o,hk,hc,hd⟩ | ⟨rfl,hk⟩ | ⟨rfl,S,n,hk⟩
  ·obtain⟨its,_,pl,_⟩:=I.list hq
   refine⟨pl.isList.typeIs,fun a e=>?_⟩
   cases e
   obtain⟨o,n,e,c,hd,_⟩:=pl
   exact⟨o,e,hd⟩
  ·refine⟨⟨o,I.kIn p o hk,hc⟩,fun a e=>?_⟩
   cases e
   exact⟨o,I.kIn _ o hk,hd⟩
  ·have z:∃o,s.heap.get? p=some o/\o.ExactDict:=by
    rcases hk with⟨kvs,hk⟩ | ⟨kvs,hk⟩
    ·obtain⟨_,_,_,_,o,_,_,e,ex,_⟩:=I.hok p _ hk
     exact⟨o,e,ex⟩
    ·obtain⟨_,_,_,_,o,_,_,e,ex,_⟩:=I.hok p _ hk
     exact⟨o,e,ex⟩
   obtain⟨o,e,ex⟩:=z
   refine⟨⟨o,e,ex.1⟩,fun a e2=>?_⟩
   cases e2
   exact⟨o,e,ex.2.1⟩
  ·obtain⟨o,_,_,_,e,ex,_⟩:=I.hok p _ hk
   refine⟨⟨o,e,ex.1⟩,fun a e2=>?_⟩
   cases e2
   exact⟨o,e,ex.2.1⟩
 | _=>exact False.elim ty
def tBM(K:PySem.W.Frag)(T:String)(r:V->List V->Hp->VK->Prop)(to:TE)(t:TA):TE:=fun σ H Q=>to σ H fun x H1=>tyV K T x H1/\t σ H1 fun xs H2=>r x xs H2 Q
variable{o e:Expr}{es:List Expr}{to:TE}{t:TA}{name:Str}{apos cpos:Pos}{T id:String}{r:V->List V->Hp->VK->Prop}
theorem zDk(pa:PlainAttrs T)(slot:Slot T name id)(hty:typeOf (.builtin id)=pure (.type "method_descriptor"))(hm:MtR X id r)(ho:PE X o to)(ha:PA X (e::es) t)
  (hbase:attributeBase o name X.env (eval o X.env)=eval o X.env:=by rfl)
  (hfew:((backTo cpos (starEach (e::es) X.env)).all (fun x=>!x.1) &&(backToKw cpos (keywordEach [] X.env)).all (fun x=>x.1.isSome)
   && decide ((e::es).length +([]:List Keyword).length +(if([]:List Keyword).isEmpty then 0 else 1)<30))=true:=by rfl)
  (hline:(apos.endLine == cpos.line)=true:=by rfl) (hs:starEach (e::es) X.env =(false,eval e X.env)::starEach es X.env:=by rfl) (hplain:(backTo cpos (starEach es X.env)).any (·.1)=false:=by rfl) :
  PE X (.Call (.Attribute o name apos) (e::es) [] cpos) (tBM X.K T r to t):=by
 intro pins s σ H Q I h
 refine wpAny_Call_method_late hbase hfew hline rfl (thn (ho pins s σ H _ I h) fun v s1 ⟨x,H1,I1,r1,ty,q1⟩=>?_)
 obtain⟨h1,h2⟩:=zBl I1 r1 ty
 refine⟨T,id,pa,slot,hty,h1,h2,?_⟩
 have hA:=ha cpos pins s1 σ H1 _ I1 q1
 rw[hs]at hA⊢
 refine Calls.callWith_builtin (by show(false||(backTo cpos (starEach es X.env)).any (·.1))=false;rw[hplain]<;>rfl) (Calls.evalArgs_plain ?_)
 exact thn hA fun us s2 ⟨vs,H2,I2,r2,q2⟩=>hm pins s2 σ H2 x vs v us Q I2 r1 r2 q2
end
def MtM(X:Cx)(id:String)(r:V->List V->Hp->VK->Prop):Prop :=
 ∀(pins:List (Addr×Obj)) (s:Shared) (σ:St) (H:Hp) (x:V) (xs:List V) (v:Value) (us:List Value) (Q:VK),Inv X pins σ H s->RelV x v->Vals xs us->r x xs H Q ->
  wpAny (model X.prog X.w) X.A (call (.builtin id) (v::us)) (EP X pins σ Q) X.xe s
theorem Vals.one:∀{x:V} {us:List Value},Vals [x] us->∃u,us = [u]/\RelV x u
 | _,_,.cons r .nil=>⟨_,rfl,r⟩
theorem Vals.two:∀{x y:V} {us:List Value},Vals [x,y] us->∃u v,us = [u,v]/\RelV x u/\RelV y v
 | _,_,_,.cons r (.cons q .nil)=>⟨_,_,rfl,r,q⟩
theorem Vals.eraseIdx:∀{xs:List V} {us:List Value} (i:Nat),Vals xs us->Vals (xs.eraseIdx i) (us.eraseIdx i)
 | _,_,_,.nil=>.nil
 | _,_,0,.cons _ t=>t
 | _,_,i+1,.cons r t=>.cons r (Vals.eraseIdx i t)
theorem Gh{α:Type}:∀(l:List α) (i:Nat),(l.eraseIdx i).length<=l.length
 | [],_=>Nat.le_refl _
 | _::_,0=>DL _
 | _::r,i+1=>Nat.succ_le_succ (Gh r i)
section
variable{X:Cx}{pins:List (Addr×Obj)}{σ:St}{H:Hp}{s:Shared}{l b:Addr}{xs ys zs:List V}
theorem Inv.lset{its its':List Value}{n:Nat}{f:Array Value->Array Value}{t':Nat}(I:Inv X pins σ H s)(hH:H l=some (.lst xs))
  (e:s.heap.get? l=some { cls:=.type "list",data:=.seq its.toArray n }) (hf:f its.toArray=its'.toArray) (hv:Vals ys its') (hz:ys.length<=sizeLine) :
  Inv X pins σ (upd H l (.lst ys)) { s with heap:=s.heap.update l (Obj.mapSeq f),toks:=t' }:=by
 have q:=PySem.IsL.update e f
 rw[hf]at q
 refine I.write (x:=l) (e:=l) (by rw[hH];exact trivial) (.inl rfl) (fun b' u hb hu=>(C_ s.heap (Obj.mapSeq f) (Ne.symm hb)).trans hu) ⟨_,q⟩ ?_
 exact⟨hz,its',_,hv,q⟩
theorem Inv.lnew{its:List Value}{t':Nat}(I:Inv X pins σ H s)(hv:Vals ys its)(hz:ys.length<=sizeLine) :
  Inv X pins σ (upd H s.heap.objs.size (.lst ys)) { s with heap:=s.heap.push { cls:=.type "list",data:=.seq its.toArray },toks:=t' } :=
 I.laid (fun _ _ q=>AE _ q) (Nat.le_refl _) ⟨hz,its,0,hv,BB _ rfl⟩
theorem Inv.fresh(I:Inv X pins σ H s):H s.heap.objs.size=none:=I.hok.fresh (Nat.le_refl _)
theorem Inv.lstM(I:Inv X pins σ H s)(hH:H l=some (.lst xs)):xs.length<=sizeLine/\∃(its:List Value) (n:Nat),Vals xs its/\xs.length=its.length/\s.heap.get? l=some { cls:=.type "list",data:=.seq its.toArray n }:=by
 obtain⟨z,its,n,r,e⟩:=I.hok l _ hH
 exact⟨z,its,n,r,r.length,e⟩
theorem Uf{n:Nat}(h:n<=sizeLine):Builtin.List.listTooLong n=false:=by
 unfold Builtin.List.listTooLong
 exact A_ (by omega)
end
section
variable{X:Cx}
def Yb:V->List V->Hp->VK->Prop:=fun x vs H Q=>∃l xs y,x = .ref l/\vs = [y]/\H l=some (.lst xs)/\xs.length<sizeLine/\Q .non (upd H l (.lst (xs ++ [y])))
theorem K8:MtM X "list.append" Yb:=by
 intro pins s σ H x vs v us Q I rx rv h
 obtain⟨l,xs,y,rfl,rfl,hH,hz,q⟩:=h
 cases rx
 obtain⟨u,rfl,ru⟩:=rv.one
 obtain⟨z,its,n,r,hl,e⟩:=I.lstM hH
 refine call_meets F.slot_list_append ⟨_,e,rfl⟩ F.entry_list_append (F.args_list_append_2 _ _) (PySem.list_append l its.toArray n u (by rw[AZ];omega)) ⟨e,?_⟩
 refine⟨.non,_,I.lset (its':=its ++ [u]) hH e (by simp) (r.append (.cons ru .nil)) ?_,rfl,q⟩
 rw[BA,F_]
 omega
def Wi:V->List V->Hp->VK->Prop:=fun x vs H Q=>∃l b xs zs,x = .ref l/\vs = [.ref b]/\H l=some (.lst xs)/\H b=some (.lst zs)/\xs.length+zs.length<=sizeLine/\Q .non (upd H l (.lst (xs++zs)))
theorem Sj:MtM X "list.extend" Wi:=by
 intro pins s σ H x vs v us Q I rx rv h
 obtain⟨l,b,xs,zs,rfl,rfl,hH,hB,hz,q⟩:=h
 cases rx
 obtain⟨u,rfl,ru⟩:=rv.one
 cases ru
 obtain⟨z,its,n,r,hl,e⟩:=I.lstM hH
 obtain⟨z2,its2,n2,r2,hl2,e2⟩:=I.lstM hB
 have hsz:its.toArray.size+its2.toArray.size<=sizeLine:=by rw[AZ,AZ];omega
 have hlong:¬(!its.toArray.isEmpty&&Builtin.List.listTooLong (its.toArray.size+its2.toArray.size))=true:=by
  rw[Uf hsz,GE]
  exact BC
 refine call_meets F.slot_list_extend ⟨_,e,rfl⟩ F.entry_list_extend (F.args_list_extend_2 _ _)
  (AutoSeq1.list_extend_list_list_0 l its.toArray n b its2.toArray n2 hlong (by rw[AZ];omega) (by omega)) ⟨e,e2,?_⟩
 refine⟨.non,_,I.lset (its':=its++its2) hH e (by simp) (r.append r2) ?_,rfl,q⟩
 rw[BA]
 omega
def zBi:V->List V->Hp->VK->Prop:=fun x vs H Q=>∃l xs i k y,x = .ref l/\vs = [.int i]/\H l=some (.lst xs)/\-(2^63)<=i/\i<2^63/\seqIndex? i xs.length=some k/\xs[k]?=some y/\Q y (upd H l (.lst (xs.eraseIdx k)))
theorem Uc:MtM X "list.pop" zBi:=by
 intro pins s σ H x vs v us Q I rx rv h
 obtain⟨l,xs,i,k,y,rfl,rfl,hH,h1,h2,hk,hy,q⟩:=h
 cases rx
 obtain⟨u,rfl,ru⟩:=rv.one
 obtain⟨t,rfl⟩:=ru
 obtain⟨z,its,n,r,hl,e⟩:=I.lstM hH
 obtain⟨w,hw,rw'⟩:=r.get hy
 refine call_meets F.slot_list_pop ⟨_,e,rfl⟩ F.entry_list_pop (F.args_list_pop_2 _ _)
  (MeetsSeq.list_pop_at l its.toArray n i t k w (fitsIndex_both h1 h2) (by rw[AZ,<-hl];exact hk) (by rw[<-BO];exact hw) (by rw[AZ];omega)) ⟨e,?_⟩
 refine⟨y,_,I.lset (its':=its.eraseIdx k) hH e ?_ (r.eraseIdx k) ?_,rw',q⟩
 ·show its.toArray.eraseIdxIfInBounds k =(its.eraseIdx k).toArray
  rw[List.eraseIdxIfInBounds_toArray]
 ·have:=Gh xs k
  omega
def zFe:R2:=fun x y H Q=>∃l b xs zs,x = .ref l/\y = .ref b/\H l=some (.lst xs)/\H b=some (.lst zs)/\xs.length+zs.length<=sizeLine/\∀p,H p=none->Q (.ref p) (upd H p (.lst (xs++zs)))
theorem Pq:OpR X (binaryOp .Add) zFe:=by
 intro pins s σ H x y v u Q I rx ry h
 obtain⟨l,b,xs,zs,rfl,rfl,hH,hB,hz,q⟩:=h
 cases rx
 cases ry
 obtain⟨z,its,n,r,hl,e⟩:=I.lstM hH
 obtain⟨z2,its2,n2,r2,hl2,e2⟩:=I.lstM hB
 refine PySem.P.add_list e e2 ?_ (by rw[AZ,AZ];omega)
 have ea:its.toArray++its2.toArray =(its++its2).toArray:=by simp
 rw[ea]
 exact⟨.ref _,_,I.lnew (t':=s.toks) (r.append r2) (by rw[BA];omega),rfl,q _ I.fresh⟩
end
section
variable{κ:Type}[DecidableEq κ]
def U5(kvs:List (κ×V))(k:κ):Option V:=(kvs.find? fun kv=>decide (kv.1=k)).map (·.2)
def Cv(kvs:List (κ×V))(k:κ)(v:V):List (κ×V) :=
 if(kvs.any fun kv=>decide (kv.1=k))=true then kvs.map (fun kv=>if kv.1=k then(kv.1,v)else kv)else kvs ++ [(k,v)]
theorem J9{p:κ×V}{r:List (κ×V)}{k:κ}(e:p.1=k):U5 (p::r) k=some p.2:=by simp[U5,ET,e]
theorem K2{p:κ×V}{r:List (κ×V)}{k:κ}(e:¬p.1=k):U5 (p::r) k=U5 r k:=by simp[U5,ET,e]
theorem Af(k:κ):∀kvs:List (κ×V),(kvs.any fun kv=>decide (kv.1=k)) =(U5 kvs k).isSome
 | []=>rfl
 | p::r=>by
  rw[FO]
  by_cases e:p.1=k
  ·simp only[J9 e,AH e,Bool.true_or,Option.isSome_some]
  ·rw[K2 e,A_ e,FZ];exact Af k r
theorem Lq(k j:κ)(y:V):∀kvs:List (κ×V),U5 (kvs.map fun kv=>if kv.1=k then(kv.1,y)else kv) j =(U5 kvs j).map fun x=>if j=k then y else x
 | []=>rfl
 | p::r=>by
  have ih:=Lq k j y r
  rw[BG]
  by_cases h:p.1=k
  ·rw[AQ h]
   by_cases e:p.1=j
   ·rw[J9 (p:=(p.1,y)) e,J9 e,FW,AQ (e.symm.trans h)]
   ·rw[K2 (p:=(p.1,y)) e,K2 e,ih]
  ·rw[AJ h]
   by_cases e:p.1=j
   ·rw[J9 (p:=p) e,J9 e,FW,AJ (fun z=>h (e.trans z))]
   ·rw[K2 (p:=p) e,K2 e,ih]
theorem Hj(k j:κ)(y:V):∀kvs:List (κ×V),U5 kvs k=none->U5 (kvs ++ [(k,y)]) j=if j=k then some y else U5 kvs j
 | [],_=>by
  by_cases e:k=j
  ·rw[AQ e.symm];exact J9 (p:=(k,y)) e
  ·rw[AJ (fun z=>e z.symm)];exact K2 (p:=(k,y)) e
 | p::r,hn=>by
  rw[List.cons_append]
  have hk:¬p.1=k:=fun z=>by rw[J9 z]at hn;cases hn
  rw[K2 hk]at hn
  have ih:=Hj k j y r hn
  by_cases e:p.1=j
  ·rw[J9 e,J9 e,AJ (fun z=>hk (e.trans z))]
  ·rw[K2 e,K2 e,ih]
theorem Ul(kvs:List (κ×V))(k j:κ)(y:V):U5 (Cv kvs k y) j=if j=k then some y else U5 kvs j:=by
 unfold Cv
 by_cases a:(kvs.any fun kv=>decide (kv.1=k))=true
 ·rw[AQ a,Lq]
  rw[Af]at a
  by_cases e:j=k
  ·obtain⟨x,hx⟩:=FN.mp a
   rw[AQ e,e,hx,FW,AQ rfl]
  ·rw[AJ e]
   cases U5 kvs j with
   | none=>rfl
   | some x=>rw[FW,AJ e]
 ·rw[AJ a]
  refine Hj k j y kvs ?_
  rw[Af]at a
  cases q:U5 kvs k with
  | none=>rfl
  | some x=>rw[q]at a;exact(a rfl).elim
theorem X9(kvs:List (κ×V))(k:κ)(v:V):(Cv kvs k v).length<=kvs.length+1:=by
 unfold Cv
 split
 ·rw[AB];omega
 ·rw[BA,BN,GV];omega
theorem Ua{kvs:List (κ×V)}{k:κ}(v:V)(h:U5 kvs k=none):Cv kvs k v=kvs ++ [(k,v)]:=by
 unfold Cv
 rw[Af,h]
 exact AJ (by decide)
theorem RelO.isSome_eq{o:Option V}{u:Option Value}(r:RelO o u):o.isSome=u.isSome:=by
 cases o with
 | none=>cases u with
  | none=>rfl
  | some _=>exact(show False from r).elim
 | some _=>cases u with
  | none=>exact(show False from r).elim
  | some _=>rfl
theorem RelO.getD{o:Option V}{u:Option Value}{d:V}{d':Value}(r:RelO o u)(rd:RelV d d'):RelV (o.getD d) (u.getD d'):=by
 cases o with
 | none=>cases u with
  | none=>exact rd
  | some _=>exact(show False from r).elim
 | some _=>cases u with
  | none=>exact(show False from r).elim
  | some _=>exact r
theorem KV.val{kvs:List (κ×V)}{vs:List (κ×Value)}(r:KV kvs vs)(k:κ):RelO (U5 kvs k) (valueAt vs k):=by
 unfold KV at r
 induction r with
 | nil=>exact True.intro
 | @cons p q ps qs h t ih =>
  obtain⟨h1,h2⟩:=h
  by_cases e:p.1=k
  ·have e':q.1=k:=h1.symm.trans e
   have b:valueAt (q::qs) k=some q.2:=by simp[valueAt,ET,e']
   rw[J9 e,b];exact h2
  ·have e':¬q.1=k:=fun z=>e (h1.trans z)
   have b:valueAt (q::qs) k=valueAt qs k:=by simp[valueAt,ET,e']
   rw[K2 e,b];exact ih
theorem KV.any{kvs:List (κ×V)}{vs:List (κ×Value)}(r:KV kvs vs)(k:κ):(kvs.any fun kv=>decide (kv.1=k))=vs.any fun kv=>decide (kv.1=k):=by
 unfold KV at r
 induction r with
 | nil=>rfl
 | cons h t ih=>rw[FO,FO,ih,h.1]
theorem KV.repl{kvs:List (κ×V)}{vs:List (κ×Value)}(r:KV kvs vs)(k:κ){y:V}{u:Value}(ry:RelV y u) :
  KV (kvs.map fun kv=>if kv.1=k then(kv.1,y)else kv) (vs.map fun kv=>if kv.1=k then(kv.1,u)else kv):=by
 unfold KV at r⊢
 induction r with
 | nil=>exact .nil
 | @cons p q ps qs h t ih =>
  rw[BG,BG]
  refine .cons ?_ ih
  obtain⟨h1,h2⟩:=h
  by_cases e:p.1=k
  ·rw[AQ e,AQ (h1.symm.trans e)];exact⟨h1,ry⟩
  ·rw[AJ e,AJ (fun z=>e (h1.trans z))];exact⟨h1,h2⟩
theorem KV.put{kvs:List (κ×V)}{vs:List (κ×Value)}(r:KV kvs vs)(k:κ){y:V}{u:Value}(ry:RelV y u):KV (Cv kvs k y) (stored vs k u):=by
 unfold Cv stored
 rw[r.any k]
 by_cases e:(vs.any fun kv=>decide (kv.1=k))=true
 ·rw[AQ e,AQ e];exact r.repl k ry
 ·rw[AJ e,AJ e];exact Paired.snoc r ⟨rfl,ry⟩
theorem KV.length{kvs:List (κ×V)}{vs:List (κ×Value)}(r:KV kvs vs):kvs.length=vs.length:=Paired.length r
end
theorem Iy{P:Program}{w:World}{k:Key}{u:Value}(r:RelV (kV k) u):(C2 P w).is k u=true:=by
 cases k with
 | inl i=>obtain⟨t,e⟩:=(show ∃t,u=Value.int i t from r);subst e;exact Ii P w i t
 | inr x=>obtain⟨t,e⟩:=(show ∃t,u=Value.str x t from r);subst e;exact Jj P w x t
theorem Gi{P:Program}{w:World}:∀{ks:List Key} {us:List Value},Vals (ks.map kV) us->ItemsAre (C2 P w) ks us
 | [],_,r=>by rw[List.map_nil]at r;cases r;exact .nil
 | k::ks,_,r=>by
  rw[BG]at r
  cases r with
  | cons h t=>exact .cons (Iy h) (Gi t)
abbrev KT(H:Hp):List (List Key×V)->List (List Key×Addr×Value)->Prop:=Paired fun p q=>p.1=q.1/\H q.2.1=some (.tup (p.1.map kV))/\RelV p.2 q.2.2
theorem KT.val{H:Hp}{kvs:List (List Key×V)}{xs:List (List Key×Addr×Value)}(r:KT H kvs xs)(k:List Key):RelO (U5 kvs k) ((atKey xs k).map (·.2)):=by
 induction r with
 | nil=>exact True.intro
 | @cons p q ps qs h t ih =>
  obtain⟨h1,_,h2⟩:=h
  by_cases e:p.1=k
  ·have e':q.1=k:=h1.symm.trans e
   have b:atKey (q::qs) k=some q.2:=by simp[atKey,ET,e']
   rw[J9 e,b];exact h2
  ·have e':¬q.1=k:=fun z=>e (h1.trans z)
   have b:atKey (q::qs) k=atKey qs k:=by simp[atKey,ET,e']
   rw[K2 e,b];exact ih
section
variable{P:Program}{w:World}{H:Hp}{h:Heap}{a:Addr}
theorem Zw{u:HO}(ok:HOk P w H h)(e:Rd H a u):ObjOk P w H h a u:=e.ok ok
theorem Nb{kvs:List (Key×V)}(ok:HOk P w H h)(e:Rd H a (.dK kvs)):kvs.length<=sizeLine/\(a == sysModules)=false/\∃vs,KV kvs vs/\h.DictOf (C2 P w) a vs :=
 show ObjOk P w H h a (.dK kvs)from Zw ok e
theorem Oy{kvs:List (Key×V)}(ok:HOk P w H h)(e:H a=some (.dK kvs)):kvs.length<=sizeLine/\(a == sysModules)=false/\∃vs,KV kvs vs/\h.DictOf (C2 P w) a vs:=Nb ok (.inl e)
theorem w4{ks:List Key}(ok:HOk P w H h)(e:H a=some (.tup (ks.map kV))):(tupleKind (C2 P w)).is h ks a:=by
 obtain⟨_,its,r,o,h1,h2,n,h3⟩:=(show ObjOk P w H h a (.tup (ks.map kV))from ok a _ e)
 exact⟨o,its.toArray,n,h1,h2,h3,by simpa using Gi r⟩
theorem Sg{kvs:List (List Key×V)}(ok:HOk P w H h)(e:Rd H a (.dT kvs)):kvs.length<=sizeLine/\(a == sysModules)=false /\
  ∃xs,KT H kvs xs/\h.DictOfH (tupleKind (C2 P w)) a xs:=by
 obtain⟨z,y,xs,r,o,es,ep,h1,h2,h3,h4,h5⟩:=(show ObjOk P w H h a (.dT kvs)from Zw ok e)
 refine⟨z,y,xs,r,o,es,ep,h1,h2,h3,h4,fun x hx=>?_,h5⟩
 have all:∀{l:List (List Key×V)} {m:List (List Key×Addr×Value)},KT H l m->∀x∈m,(tupleKind (C2 P w)).is h x.1 x.2.1:=by
  intro l m q
  induction q with
  | nil=>intro x hx;exact nomatch hx
  | @cons p q ps qs hq t ih =>
   intro x hx
   rcases BD.mp hx with e | hx
   ·subst e
    exact w4 ok (by rw[<-hq.1];exact hq.2.1)
   ·exact ih x hx
 exact all r x hx
end
def DGet(H:Hp)(a:Addr)(y:V)(r:Option V):Prop :=
 (∃kvs k,Rd H a (.dK kvs)/\y=kV k/\r=U5 kvs k)\/∃kvs k b,Rd H a (.dT kvs)/\y = .ref b/\H b=some (.tup (k.map kV))/\r=U5 kvs k
theorem DGet.k{H:Hp}{a:Addr}{kvs:List (Key×V)}{k:Key}(e:H a=some (.dK kvs)):DGet H a (kV k) (U5 kvs k):=.inl ⟨kvs,k,.inl e,rfl,rfl⟩
section
variable{X:Cx}{pins:List (Addr×Obj)}{σ:St}{H:Hp}{s:Shared}{a:Addr}{y v:V}{u r:Value}{o:Option V}{A:Around}{E:Value->Shared->Prop}
theorem Inv.big(I:Inv X pins σ H s):sysModules<s.heap.objs.size:=by
 have h:mainGlobals<s.heap.objs.size:=(I.mod.glob.keeps I.bk).lt
 exact Nat.lt_trans (by decide) h
theorem Rq{Q:Value->Shared->Prop}(hu:A.units+1<cLine)(I:Inv X pins σ H s)(g:DGet H a y (some v))(ry:RelV y u)(h:∀w' s',Inv X pins σ H s'->RelV v w'->Q w' s') :
  wpAny (model X.prog X.w) A (getItem (.ref a) u) Q E s:=by
 rcases g with⟨kvs,k,e,ey,l⟩ | ⟨kvs,k,b,e,ey,eb,l⟩
 ·subst ey
  obtain⟨z,hd,vs,rel,dd⟩:=Nb I.hok e
  obtain⟨w',hw,rw'⟩:=RelO.some_of (v:=v) (o:=valueAt vs k) (by rw[l];exact rel.val k)
  exact wpAny_getItem_of (Iy ry) dd.mapOf hw (h w' _ (I.tok _) rw')
 ·subst ey
  cases(show u=Value.ref b from ry)
  obtain⟨z,hd,xs,rel,dd⟩:=Sg I.hok e
  obtain⟨w',hw,rw'⟩:=RelO.some_of (v:=v) (o:=(atKey xs k).map (·.2)) (by rw[l];exact rel.val k)
  obtain⟨p,hp,hp2⟩:=BS.mp hw
  refine wpAny_getItem_heap (tupleKind_room_in1 hu) (w4 I.hok eb) dd hp ?_
  rw[hp2]
  exact h w' _ (I.tok _) rw'
theorem Yc{Q:Value->Shared->Prop}(hu:A.units+1<cLine)(I:Inv X pins σ H s)(g:DGet H a y o)(ry:RelV y u)(h:∀s',Inv X pins σ H s'->Q (.bool (!o.isSome)) s') :
  wpAny (model X.prog X.w) A (compareOp .NotIn u (.ref a)) Q E s:=by
 rcases g with⟨kvs,k,e,ey,l⟩ | ⟨kvs,k,b,e,ey,eb,l⟩
 ·subst ey
  obtain⟨z,hd,vs,rel,dd⟩:=Nb I.hok e
  refine wpAny_notIn_of (Iy ry) hd dd.mapOf ?_
  rw[<-(rel.val k).isSome_eq,<-l]
  exact h _ (I.tok _)
 ·subst ey
  cases(show u=Value.ref b from ry)
  obtain⟨z,hd,xs,rel,dd⟩:=Sg I.hok e
  refine wpAny_notIn_heap (tupleKind_room_in1 hu) (w4 I.hok eb) hd dd ?_
  have q:=(rel.val k).isSome_eq
  rw[Option.isSome_map]at q
  rw[<-q,<-l]
  exact h _ (I.tok _)
theorem Qy{h':Heap}{t':Nat}{ob:HO}(I:Inv X pins σ H s)(mu:Mut (H a))(hs:Heap.SameBut a s.heap h')(he:∃q,h'.get? a=some q)(new:ObjOk X.prog X.w (upd H a ob) h' a ob) :
  Inv X pins σ (upd H a ob) { s with heap:=h',toks:=t' } :=
 I.write (x:=a) (e:=a) mu (.inl rfl) (fun b q hb z=>(hs.2 b hb).trans z) he new
theorem Oh{P:Program}{w:World}{H':Hp}{h':Heap}{kvs:List (Key×V)}{vs:List (Key×Value)}(z:kvs.length<=sizeLine)(hd:(a == sysModules)=false)(rel:KV kvs vs)(dd:h'.DictOf (C2 P w) a vs) :
  ObjOk P w H' h' a (.dK kvs):=⟨z,hd,vs,rel,dd⟩
end
def zEb(i:Expr):Prop:=∀ov iv,subscripted i false ov iv=operate [ov,iv] (getItem ov iv)
theorem Yl{prog:Program}{w:World}{A:Around}{E:Value->Shared->Prop}{s:Shared}{env:Env}{value slice:Expr}{pos:Pos}{T id:String}{Q:Value->Shared->Prop}
  (hl:typeLookup (.type T) "__getitem__" = pure (some (.builtin id))) (hs:zEb slice)
  (h:wpAny (model prog w) A (eval value env) (fun o s₁=>wpAny (model prog w) A (eval slice env) (fun i s₂=>s₂.TypeIs o T/\wpAny (model prog w) A (getItem o i) Q E s₂) E s₁) E s) :
  wpAny (model prog w) A (eval (.Subscript value slice pos) env) Q E s:=by
 refine Subscript_ (CS h (fun o s₁ h₁=>CS h₁ (fun i s₂ h₂=>?_) fun _ _ x=>x) fun _ _ x=>x)
 obtain⟨hT,h₂⟩:=h₂
 unfold subscriptTail
 refine AA ?_
 rw[getitemInPython_of_ne hT.not_modules]
 refine AA (wpAny_specialOf hT hl ?_)
 have fin:wpAny (model prog w) A (subscripted slice false o i) (fun r s₃=>wpAny (model prog w) A (letTemporaryGo value o r >>= fun _=>pure r) Q E s₃) E s₂:=by
  rw[hs o i]
  exact wpAny_operating (CS h₂ (fun r s₃ h₃=>AA (wpAny_letTemporaryGo (AF h₃))) fun _ _ x=>x)
 first
  | exact AF (AA fin)
  | exact AA (AF (AA fin))
  | exact AA fin
theorem Ja{X:Cx}{pins:List (Addr×Obj)}{σ:St}{H:Hp}{s:Shared}{a:Addr}{y:V}{o:Option V}(I:Inv X pins σ H s)(g:DGet H a y o):s.TypeIs (.ref a) "dict":=by
 rcases g with⟨kvs,k,e,_,_⟩ | ⟨kvs,k,b,e,_,_,_⟩
 ·obtain⟨_,_,vs,_,dd⟩:=Nb I.hok e
  exact dd.typeIs
 ·obtain⟨_,_,xs,_,dd⟩:=Sg I.hok e
  exact dd.typeIs
def Zj(td ty:TE):TE:=fun σ H Q=>td σ H fun x H1=>ty σ H1 fun y H2=>∃a v,x = .ref a/\DGet H2 a y (some v)/\Q v H2
def Xs(ty td:TE):TE:=fun σ H Q=>ty σ H fun y H1=>td σ H1 fun x H2=>∃a o,x = .ref a/\DGet H2 a y o/\Q (.bl (!o.isSome)) H2
section
variable{X:Cx}{o i e value:Expr}{pos pos' tpos:Pos}{td ty tv:TE}
theorem M9(hu:X.A.units+1<cLine)(ho:PE X o td)(hi:PE X i ty)(hs:zEb i):PE X (.Subscript o i pos) (Zj td ty):=by
 intro pins s σ H Q I h
 refine Yl PySem.F.slot_dict_getitem.lookup hs (thn (ho pins s σ H _ I h) fun u s1 ⟨x,H1,I1,rx,q1⟩=>thn (hi pins s1 σ H1 _ I1 q1) fun iv s2 ⟨y,H2,I2,ry,a,v,ex,g,q2⟩=>?_)
 subst ex
 obtain rfl:u=Value.ref a:=rx
 exact⟨Ja I2 g,Rq hu I2 g ry fun w' s3 I3 rw'=>⟨v,H2,I3,rw',q2⟩⟩
theorem Sd(hu:X.A.units+1<cLine)(hi:PE X i ty)(ho:PE X o td):PC X .NotIn i o (Xs ty td):=by
 intro pins s σ H Q I h
 refine thn (hi pins s σ H _ I h) fun iv s1 ⟨y,H1,I1,ry,q1⟩=>thn (ho pins s1 σ H1 _ I1 q1) fun u s2 ⟨x,H2,I2,rx,a,ov,ex,g,q2⟩=>?_
 subst ex
 obtain rfl:u=Value.ref a:=rx
 exact Yc hu I2 g ry fun s3 I3=>⟨.bl (!ov.isSome),H2,I3,rfl,q2⟩
end
theorem Ku{P:Program}{w:World}{H:Hp}(h:Heap)(hb:sysModules<h.objs.size):ObjOk P w H (h.push { cls:=.type "dict",data:=.dict #[] }) h.objs.size (.dK []) :=
 ⟨CA _,beq_eq_false_iff_ne.mpr (Ne.symm (BF hb)),[],.nil,Heap.DictOf.new h⟩
def zAz:TE:=fun _ H Q=>∀p,H p=none->Q (.ref p) (upd H p (.dK []))
section
variable{X:Cx}{pos:Pos}
theorem Sr:PE X (.Dict [] [] pos) zAz:=fun pins s σ H Q I h =>
 wpAny_Dict_empty ⟨.ref s.heap.objs.size,_,I.laid (a:=s.heap.objs.size) (o:=.dK []) (t':=s.toks) (fun _ _ q=>AE _ q) (Nat.le_refl _) (Ku s.heap I.big),rfl,h _ (I.hok.fresh (Nat.le_refl _))⟩
end
structure M1(X:Cx)(o:Expr)(m:Str)(apos:Pos)(e:Expr)(cpos:Pos):Prop where
 base:attributeBase o m X.env (eval o X.env)=eval o X.env
 few:((backTo cpos (starEach [e] X.env)).all (fun x=>!x.1) &&(backToKw cpos (keywordEach [] X.env)).all (fun x=>x.1.isSome)
  && decide (([e]:List Expr).length +([]:List Keyword).length +(if([]:List Keyword).isEmpty then 0 else 1)<30))=true
 line:(apos.endLine == cpos.line)=true
 trees:backTo cpos (starEach [e] X.env) = [(false,eval e X.env)]
def IsD(H:Hp)(a:Addr):Prop:=(∃kvs,Rd H a (.dK kvs))\/∃kvs,Rd H a (.dT kvs)
theorem Qs{X:Cx}{pins:List (Addr×Obj)}{σ:St}{H:Hp}{s:Shared}{a:Addr}(I:Inv X pins σ H s)(d:IsD H a) :
  s.TypeIs (.ref a) "dict"/\(∀b,Value.ref a = .ref b->∃ob,s.heap.get? b=some ob/\ob.dict=none)/\(a == sysModules)=false:=by
 rcases d with⟨kvs,e⟩ | ⟨kvs,e⟩
 ·obtain⟨_,hd,vs,_,dd⟩:=Nb I.hok e
  refine⟨dd.typeIs,fun b q=>?_,hd⟩
  cases q
  obtain⟨ob,_,_,h1,h2,_⟩:=dd
  exact⟨ob,h1,h2.2.1⟩
 ·obtain⟨_,hd,xs,_,dd⟩:=Sg I.hok e
  refine⟨dd.typeIs,fun b q=>?_,hd⟩
  cases q
  obtain⟨ob,_,_,h1,h2,_⟩:=dd
  exact⟨ob,h1,h2.2.1⟩
section
variable{X:Cx}{pins:List (Addr×Obj)}{σ:St}{H:Hp}{s:Shared}{a:Addr}{y d:V}{u r:Value}{o:Option V}{A:Around}{E:Value->Shared->Prop}
theorem zAc{Q:Value->Shared->Prop}(hu:A.units+1<cLine)(I:Inv X pins σ H s)(g:DGet H a y o)(ry:RelV y u)(h:∀w' s',Inv X pins σ H s'->RelV (o.getD .non) w'->Q w' s') :
  wpAny (model X.prog X.w) A (call (.builtin "dict.get") [.ref a,u]) Q E s:=by
 rcases g with⟨kvs,k,e,ey,l⟩ | ⟨kvs,k,b,e,ey,eb,l⟩
 ·subst ey
  obtain⟨z,hd,vs,rel,dd⟩:=Nb I.hok e
  refine call_meetsIn PySem.F.slot_dict_get dd.typeIs PySem.F.entry_dict_get (PySem.F.args_dict_get_2 _ _) (meets_dict_get (C2 X.prog X.w) a (Iy ry) hd) ⟨_,dd.mapOf,h _ _ (I.tok _) ?_⟩
  rw[l]
  exact(rel.val k).getD rfl
 ·subst ey
  cases(show u=Value.ref b from ry)
  obtain⟨z,hd,xs,rel,dd⟩:=Sg I.hok e
  refine call_meetsIn PySem.F.slot_dict_get dd.typeIs PySem.F.entry_dict_get (PySem.F.args_dict_get_2 _ _) (meetsH_dict_get (tupleKind (C2 X.prog X.w)) a b hd) ⟨tupleKind_room_in1 hu,k,xs,w4 I.hok eb,dd,h _ _ (I.tok _) ?_⟩
  rw[l]
  exact(rel.val k).getD rfl
end
def Vi(td ty:TE):TE:=fun σ H Q=>td σ H fun x H1=>∃a,x = .ref a/\IsD H1 a/\ty σ H1 fun y H2=>∃o,DGet H2 a y o/\Q (o.getD .non) H2
section
variable{X:Cx}{o e f:Expr}{apos cpos:Pos}{td ty tx:TE}
theorem Ln(hu:X.A.units+1<cLine)(ho:PE X o td)(he:PE X e ty)(m:M1 X o "get" apos e cpos):PE X (.Call (.Attribute o "get" apos) [e] [] cpos) (Vi td ty):=by
 intro pins s σ H Q I h
 refine wpAny_Call_method m.base m.few m.line PySem.F.plainAttrs_dict PySem.F.slot_dict_get PySem.F.type_dict_get (thn (ho pins s σ H _ I h) fun u s1 ⟨x,H1,I1,rx,a,ex,d,q1⟩=>?_)
 subst ex
 obtain rfl:u=Value.ref a:=rx
 obtain⟨t1,t2,_⟩:=Qs I1 d
 refine⟨t1,t2,?_⟩
 rw[m.trees]
 refine Calls.callWith_builtin rfl (Calls.evalArgs_plain (Calls.spliced_cons (thn (he pins s1 σ H1 _ I1 q1) fun iv s2 ⟨y,H2,I2,ry,ov,g,q2⟩=>Calls.spliced_nil ?_)))
 exact zAc hu I2 g ry fun w' s3 I3 rw'=>⟨_,H2,I3,rw',q2⟩
end
end L2
namespace Att
open PySem PySem.W PySem.Calls PyProof.Rows
theorem Aq{P:Params}{h:Heap}:∀(ns:List Int) (vs:List Value),WellAll P h vs (ns.map WData.int)->IntsAre vs ns:=by
 intro ns
 induction ns with
 | nil =>
  intro vs w
  rw[List.map_nil]at w
  cases w
  exact .nil
 | cons n ns ih =>
  intro vs w
  rw[BG]at w
  cases w with
  | cons a b =>
   cases a
   exact .cons _ _ (ih _ b)
theorem Oi{l:OpenLaw}{n:Nat}(hn:l.most=some n){P:Params}{h:Heap}{args:List WData}{vals:List Value}
  (hpre:l.row.toRowW.claim.pre args=true) (hwl:WellAll P h vals args) :
  ∃a vs ns,vals = [Value.ref a]/\args = [WData.list (ns.map WData.int)]/\h.get? a=some { cls:=.type "list",data:=.seq vs.toArray }/\IntsAre vs ns/\ns.length<=n:=by
 have hsh:WShape.hasAll [] args [.list .int]=true:=(pre_splitW hpre).1
 have hc:l.pre.holds [] { args:=args }=true:=(pre_splitW hpre).2
 obtain⟨d,r,rfl,h1,h2⟩:=hasAllW_cons hsh
 obtain rfl:=hasAllW_nil h2
 obtain⟨xs,rfl,h3⟩:=hasW_list h1
 obtain⟨ns,rfl⟩:=items_int h3
 have hlen:ns.length<=n:=by
  unfold OpenLaw.pre at hc
  have h4:(WTm.not (.lt (.lit (.int (n:Int))) (.len (.arg 0)))).holds [] { args:=[.list (ns.map .int)] }=true:=by
   have h4:=(holds_andW hc).1
   rw[hn]at h4
   exact h4
  have h5:=condW_of h4 (w_not (w_lt w_lit (w_len_list (w_arg rfl))))
  rw[AB]at h5
  refine Nat.le_of_not_lt fun q=>?_
  have q':(n:Int) <((ns.length:Nat):Int):=by omega
  first
   | (rw[AH q']at h5;exact absurd h5 (by decide))
   | (simp at h5;omega)
 cases hwl with
 | cons w1 w2 =>
  cases w2
  cases w1 with
  | list ho hall=>exact⟨_,_,ns,rfl,rfl,ho,Aq ns _ hall,hlen⟩
theorem Oq(l:OpenLaw)(args:List WData):l.row.toRowW.claim.post args (.bool true) args=true :=
 postW_of (r:=l.row.toRowW) (X:=(true == true))
  (show WShape.has [] (.bool true) .bool=true by first | rfl | decide | simp[WShape.has,WShape.arms,WShape.armsAll])
  (show(WTm.eq .res (.lit (.bool true))).value [] { args:=args,res:=some (.bool true),after:=args }=some (.bool (true == true))from w_eq_bool (w_res rfl) w_lit) rfl
theorem attach_call{l:OpenLaw}{n:Nat}{q:Program}{loose:List Str}{XP:(Str->Option Value)->Heap->Prop}{YP:World->Heap->Prop}{d:DefRec}
  (hn:l.most=some n) (hdf:d.params.defaults = [])
  (call:∀(w:World) (s₀ s₁:Shared) (mg mb:Str->Option Value) (fa:Addr) (o:Obj) (pm cd doc:Value) (a:Addr) (vs:List Value) (ns:List Int),
   Ground q loose [] XP w s₀ mg mb s₁.heap->YP w s₁.heap ->
   s₁.heap.get? fa=some o->o.data = .func (docDef d.name d.params d.body d.scope pm cd doc)->s₁.heap.CodeRec cd d.name->mg d.name=some (.ref fa) ->
   s₁.heap.get? a=some { cls:=.type "list",data:=.seq vs.toArray }->IntsAre vs ns->ns.length<=n->s₁.gens = #[] ->
   codeAny (model l.prog w) callerA (.call (.ref fa) ⟨[.ref a],[]⟩) (fun r s'=>r = .ok (.ret (.bool true))/\OldK s₁.heap s'.heap/\s'.os=s₁.os/\AllBare s'.gens) s₁) :
  WalkO q loose XP YP l.row.toRowW d [] (fun f vs=>PySem.call f vs):=by
 intro w s₀ s₁ mg mb G Y fa o pm cd doc dV kV ho hd hcd hD hmg hg args vals as hpre hlay hrd hwl hlo
 obtain rfl:dV = .none:=Dflts.none hD hdf
 obtain rfl:kV = .none:=Dflts.noKw hD
 obtain⟨a,vs,ns,rfl,rfl,hobj,hints,hlen⟩:=Oi hn hpre hwl
 refine enter_call (HC (call w s₀ s₁ mg mb fa o pm cd doc a vs ns G Y ho (fd_plain hd) hcd hmg hobj hints hlen hg) fun r s' hq=>?_)
 obtain⟨rfl,h2,h3,h4⟩:=hq
 exact⟨.inl ⟨.bool true,.bool true,[],rfl,fun _=>rfl,.bool true,Oq l _,fun _=>⟨List.Pairwise.nil,fun _ hm=>(nomatch hm)⟩⟩,h2,h3,h4⟩
end Att
namespace L2
open PySem PySem.Spec PyProof.Rows
theorem Hs:∀{vs:List Value} {ns:List Int},IntsAre vs ns->Vals (ns.map V.int) vs
 | _,_,.nil=>.nil
 | _,_,.cons n t h=>.cons ⟨t,rfl⟩ (Hs h)
def zBy(H:Hp):Prop:=∀b,H b=none\/∃o xs,H b=some (.frz o (.lst xs))
theorem Ui{P:Program}{w:World}{K:PySem.W.Frag}{mg mb:Str->Option Value}{CX:CXT}{k:Nat}{fa a:Addr}{fd:FuncData}{x:Str}{sp:Sp}{s₁:Shared}{vs:List Value}{ns:List Int}
  (KX:K.In s₁.heap) (hns:s₁.heap.Ns mainGlobals mg) (hb:s₁.heap.Ns builtinsNs mb) (hbb:∀x:Str,x≠ "__name__"->mb x=bootBuiltins x) (hlim:s₁.heap.NoLimit) (hg:s₁.gens = #[])
  (ha:s₁.heap.get? a=some { cls:=.type "list",data:=.seq vs.toArray }) (hi:IntsAre vs ns) (hl:ns.length<=sizeLine) (hr:Room k callerA)
  (F:∀base:Heap,K.In base->base.Ns mainGlobals mg->FnOk P w K mg base CX k fa fd [x] sp) (hbind:∀(s:Shared) (u:Value),BindsTo s fd ⟨[u],[]⟩ [(x,u)])
  (hsp:∀H:Hp,zBy H->SqL K H a (ns.map V.int)->sp [.ref a] H (fun v _=>v = .bl true) fun _ _ _=>False)
  (hCX:∀H e s',CX [] H s₁ (fun _ _ _=>False) e s'->False) :
  codeAny (model P w) callerA (.call (.ref fa) ⟨[.ref a],[]⟩) (fun r s'=>r = .ok (.ret (.bool true))/\OldK s₁.heap s'.heap/\s'.os=s₁.os/\AllBare s'.gens) s₁:=by
 have rv:=Hs hi
 have lenV:=hi.length
 have core:∀H:Hp,zBy H->SqL K H a (ns.map V.int)->HOk P w H s₁.heap->(∀b,H b≠none->b=a)->(H a≠none->K.lookup a=none) ->
   codeAny (model P w) callerA (.call (.ref fa) ⟨[.ref a],[]⟩) (fun r s'=>r = .ok (.ret (.bool true))/\OldK s₁.heap s'.heap/\s'.os=s₁.os/\AllBare s'.gens) s₁:=by
  intro H hO hS hok hA hK
  have base_of:∀{b:Addr} {o:Obj},s₁.heap.get? b=some o->H b=none->(Tf s₁.heap H).get? b=some o:=fun e n=>Tv e n
  have noA:∀{b:Addr} {o:Obj} {es:Array DictEntry} {ep:Nat},s₁.heap.get? b=some o->o.data = .dict es ep->H b=none:=fun{b o es ep} e d=>by
   cases q:H b with
   | none=>rfl
   | some u =>
    have e':b=a:=hA b (by rw[q];simp)
    subst e'
    rw[ha]at e;cases e
    have d':Data.seq vs.toArray _=Data.dict es ep:=d
    cases d'
  have nsK:∀{b:Addr} {m:Str->Option Value},s₁.heap.Ns b m->(Tf s₁.heap H).Ns b m:=fun{b m} ⟨o,es,ep,e,d,r⟩=>⟨o,es,ep,base_of e (noA e d),d,r⟩
  have hKb:K.In (Tf s₁.heap H):=fun b o e=>base_of (KX b o e) (by
   cases q:H b with
   | none=>rfl
   | some u =>
    have e':b=a:=hA b (by rw[q];simp)
    subst e'
    rw[hK (by rw[q];simp)]at e;cases e)
  have hM:Mod K mg (Tf s₁.heap H):=⟨hKb,nsK hns,⟨mb,nsK hb,hbb⟩,let⟨mc,h1,h2⟩:=hlim;⟨mc,nsK h1,h2⟩⟩
  have e0:Env0 P w K mg (Tf s₁.heap H) callerA [] s₁ H:=⟨rfl,hM,fun b o e=>Xi e,Nat.le_of_eq (Pb _ _),trivial,fun b hb=>absurd (show b∈([]:List Addr)from hb) (by simp),hok,.of_eq hg⟩
  refine HC ((F _ hKb (nsK hns)).run callerA [] s₁ H ⟨[.ref a],[]⟩ [.ref a] [.ref a] _ _ hr e0 (hbind s₁ (.ref a)) (.cons rfl .nil) (hsp H hO hS)) fun r s' h=>?_
  cases r with
  | error e=>exact(hCX H e s' h).elim
  | ok fl =>
   cases fl with
   | next=>exact False.elim h
   | brk=>exact False.elim h
   | cont=>exact False.elim h
   | ret u =>
    obtain⟨v,H',os,bare,un,hok',r',q⟩:=h
    have q':v = .bl true:=q
    subst q'
    obtain rfl:u=Value.bool true:=r'
    refine⟨rfl,OldK.of_keep fun b o e=>?_,os,bare⟩
    cases q:H b with
    | none=>exact un.keep b o e q (by intro z;exact absurd (show b∈([]:List Addr)from z) (by simp)) (by simp)
    | some u =>
     rcases hO b with z | ⟨ob,xs,z⟩
     ·rw[q]at z;cases z
     ·have z2:=un.frzs b ob _ z
      obtain⟨e1,_⟩:=hok b _ z
      obtain⟨e2,_⟩:=hok' b _ z2
      rw[e]at e1;cases e1
      exact e2
 cases hk:K.lookup a with
 | some o =>
  have e:=KX a o hk
  rw[ha]at e
  cases e
  refine core (fun _=>none) (fun _=>.inl rfl) (.inr ⟨_,vs.toArray,_,hk,rfl,rfl,rfl,by rw[AZ,lenV];exact hl,by simpa using rv⟩) (fun b u z=>by have z':(none:Option HO)=some u:=z;cases z') (fun b z=>absurd rfl z) fun z=>absurd rfl z
 | none =>
  refine core (fun b=>if b=a then some (.frz { cls:=.type "list",data:=.seq vs.toArray } (.lst (ns.map V.int)))else none) (fun b=>?_) (.inl (.inr ⟨{ cls:=.type "list",data:=.seq vs.toArray },AQ rfl⟩)) (fun b u z=>?_) (fun b z=>?_) fun _=>hk
  ·by_cases hb:b=a
   ·exact .inr ⟨_,_,AQ hb⟩
   ·exact .inl (AJ hb)
  ·by_cases hb:b=a
   ·have z':=(AQ hb).symm.trans z
    cases z'
    subst hb
    exact⟨ha,by rw[AB];exact hl,vs,_,rv,ha⟩
   ·have z':=(AJ hb).symm.trans z
    cases z'
  ·by_cases hb:b=a
   ·exact hb
   ·exact absurd (AJ hb) z
theorem walk_of{l:PySem.W.OpenLaw}{n k:Nat}{q:Program}{loose:List Str}{XP:(Str->Option Value)->Heap->Prop}{YP:World->Heap->Prop}{d:DefRec}{K:Params->PySem.W.Frag}{CX:World->CXT}{sp:World->Sp}{x:Str}
  (hn:l.most=some n) (hn2:n<=sizeLine) (hdf:d.params.defaults = []) (hr:Room k callerA)
  (hY:∀(w:World) (h:Heap),YP w h->(K w.params).In h)
  (F:∀(w:World) (mg:Str->Option Value) (fa:Addr) (h:Heap),(K w.params).In h->h.Ns mainGlobals mg->mg d.name=some (.ref fa) ->
   ∃fd:FuncData,(∀(s:Shared) (u:Value),BindsTo s fd ⟨[u],[]⟩ [(x,u)]) /\
    ∀base:Heap,(K w.params).In base->base.Ns mainGlobals mg->FnOk l.prog w (K w.params) mg base (CX w) k fa fd [x] (sp w))
  (hsp:∀(w:World) (H:Hp) (a:Addr) (ns:List Int),ns.length<=n->zBy H->SqL (K w.params) H a (ns.map V.int)->sp w [.ref a] H (fun v _=>v = .bl true) fun _ _ _=>False)
  (hCX:∀(w:World) (H:Hp) (s:Shared) (e:Value) (s':Shared),CX w [] H s (fun _ _ _=>False) e s'->False) :
  PySem.W.WalkO q loose XP YP l.row.toRowW d [] (fun f vs=>PySem.call f vs):=by
 refine Att.attach_call hn hdf fun w s₀ s₁ mg mb fa o pm cd doc a vs ns G Y ho hd hcd hmg hobj hints hlen hg=>?_
 have KX:=hY w _ Y
 obtain⟨fd,hb,hF⟩:=F w mg fa _ KX G.T.g hmg
 exact Ui KX G.T.g G.T.b G.T.builtins G.T.nolimit hg hobj hints (Nat.le_trans hlen hn2) hr hF hb (fun H hO hS=>hsp w H a ns hlen hO hS) fun H e s'=>hCX w H s₁ e s'
def J8(s:Stmt)(j:Nat):Stmt:=match s with
 | .ClassDef _ _ _ body _ _ _ _ _ _ _=>body.getD j (.Pass ⟨0,0,0,0⟩)
 | _=>.Pass ⟨0,0,0,0⟩
def Q5(s:Stmt):Arguments:=match s with
 | .FunctionDef _ a _ _ _ _ _ _ _ _=>a
 | _=>{ posonlyargs:=[],args:=[],vararg:=none,kwonlyargs:=[],kw_defaults:=[],kwarg:=none,defaults:=[] }
def P3(s:Stmt):List Stmt:=match s with
 | .FunctionDef _ _ b _ _ _ _ _ _ _=>b
 | _=>[]
def B6(s:Stmt):Scope:=match s with
 | .FunctionDef _ _ _ _ _ _ sc _ _ _=>sc
 | _=>{ kind:=.function,names:=[],isGenerator:=false,isCoroutine:=false }
abbrev CX0:CXT:=fun _ _ _ _ _ _=>False
abbrev E0:XK:=fun _ _ _=>False
theorem K6{X:Cx}:u5 CX0 X E0:=fun _ _ _ _ _ _ _ h=>h.elim
structure Fun(K:PySem.W.Frag)(x qual:Str)(st:Stmt)(f:Addr)(fd:FuncData):Prop where
 ex:∃(oc:Value) (od:Option Addr) (kV doc pm:Value) (an:Option Addr) (cdv ct:Value) (osl:Array (Option Value)),
  fd=PySem.W.fnOf x qual (Q5 st) (P3 st) (B6 st) .none kV doc pm an cdv ct/\K.lookup f=some ⟨oc,od,.func fd,osl⟩/\PySem.W.codeIn K cdv qual=true
 kp:PySem.W.keepIn K (.ref f)=true
section
variable{P:Program}{w:World}{K:PySem.W.Frag}{mg:Str->Option Value}{base:Heap}
theorem Fun.ok{x qual:Str}{st:Stmt}{f:Addr}{fd:FuncData}{N ps:List Str}{k:Nat}{sp:Sp}(F:Fun K x qual st f fd)(S:FnScope N ps (B6 st))(len:∀vs H Q E,sp vs H Q E->vs.length=ps.length)
  (hbody:∀(cdv:Value) (A:Around) (outer:List Env) (s:Shared) (H:Hp) (vs:List V) (Q:VK) (E:XK),Room k (A.deeper (envOfC qual (B6 st) s.heap.objs.size f cdv))->sp vs H Q E ->
   ∃t,PSs (Ys CX0 P w K mg base N qual (B6 st) f cdv A outer s H E).nox (P3 st) t/\t { nx:=fun _ H'=>Q .non H',rt:=Q } (Hm N vs) H):FnOk P w K mg base CX0 (k+1) f fd ps sp:=by
 obtain⟨oc,od,kV,doc,pm,an,cdv,ct,osl,rfl,lk,hcd⟩:=F.ex
 refine zCz lk hcd S len fun A outer s H vs Q E hr hsp=>?_
 obtain⟨t,h,q⟩:=hbody cdv A outer s H vs Q E hr hsp
 exact⟨t,h.nox,q⟩
theorem Fun.binds{x qual:Str}{st:Stmt}{f:Addr}{fd:FuncData}{ps:List Str}(F:Fun K x qual st f fd)
  (h:∀(kV doc pm:Value) (an:Option Addr) (cdv ct:Value) (us:List Value),us.length=ps.length->bindArgs (PySem.W.fnOf x qual (Q5 st) (P3 st) (B6 st) .none kV doc pm an cdv ct) ⟨us,[]⟩=pure (ps.zip us)):Binds K fd ps []:=by
 obtain⟨oc,od,kV,doc,pm,an,cdv,ct,osl,rfl,lk,hcd⟩:=F.ex
 exact .all (h kV doc pm an cdv ct)
theorem fun_mk{x qual:Str}{st:Stmt}{f:Addr}{oc:Value}{od an:Option Addr}{osl:Array (Option Value)}{kV doc pm cdv ct:Value}(l:K.lookup f=some ⟨oc,od,.func (PySem.W.fnOf x qual (Q5 st) (P3 st) (B6 st) .none kV doc pm an cdv ct),osl⟩)
  (c:PySem.W.codeIn K cdv qual=true) (k:PySem.W.keepIn K (.ref f)=true):Fun K x qual st f (PySem.W.fnOf x qual (Q5 st) (P3 st) (B6 st) .none kV doc pm an cdv ct):=⟨⟨oc,od,kV,doc,pm,an,cdv,ct,osl,rfl,l,c⟩,k⟩
end
theorem z9{A:Around}{k:Nat}(hr:Room k A):A.units+1<cLine:=Nat.lt_of_le_of_lt (FQ (by decide:1<=64) _) hr.units
section
variable{X:Cx}
theorem pv(i:Nat){x:Str}{pos:Pos}(hN:X.N[i]?=some x:=by rfl)(hv:Vis X.env.scope x:=by first | exact Or.inl rfl | exact Or.inr (Or.inl rfl) | exact Or.inr (Or.inr rfl))(hd:(x ==("__debug__":Str))=false:=by decide)
  (hcd:(x ==("__classdict__":Str))=false:=by decide):PE X (.Name x pos) (Ig i):=Vk hN hv hd hcd
end
theorem U3{A B:Prop}(h:B):if false=true then A else B:=by
 rw[AJ BC]
 exact h
theorem Rx{A B:Prop}(h:A):if true=true then A else B:=by
 rw[AQ rfl]
 exact h
theorem U4{c A B:Prop}[Decidable c](h1:c->A)(h2:¬c->B):if c then A else B:=by
 by_cases h:c
 ·rw[AQ h]
  exact h1 h
 ·rw[AJ h]
  exact h2 h
def Same(H H':Hp):Prop:=∀b o,H b=some o->H' b=some o
theorem Same.refl(H:Hp):Same H H:=fun _ _ h=>h
theorem Same.trans{H H1 H2:Hp}(a:Same H H1)(b:Same H1 H2):Same H H2:=fun c o h=>b c o (a c o h)
theorem Same.free{H H':Hp}(e:Same H H'){l:Addr}(h:H' l=Option.none):H l=Option.none:=by
 cases q:H l with
 | none=>rfl
 | some o =>
  rw[e l o q]at h
  cases h
def cxC(X:Cx)(scope:Scope)(cl:List (Str×Addr))(N':List Str)(pins:List (Addr×Obj))(ex:List Addr)(s3:Shared)(H3:Hp):Cx where
 prog:=X.prog
 w:=X.w
 K:=X.K
 mg:=X.mg
 base:=X.base
 A:=X.A
 N:=N'
 s₀:=s3
 H₀:=H3
 env:=compEnvC scope cl s3.heap.objs.size X.env
 outer:=X.stack
 stack:=X.stack
 ex:=ex
 fn:=fun _=>false
 calm:=X.calm
 pn:=X.pn++pins
 xe:=fun _ _=>False
def Caps(X:Cx)(scope:Scope)(cl:List (Str×Addr)):List Str->List (Option Nat)->Prop
 | [],[]=>True
 | _::N,none::c=>Caps X scope cl N c
 | x::N,some j::c=>(X.N[j]?=some x/\X.env.scope.names.lookup x=some .cell/\(relabel scope X.env).names.lookup x=some .cell/\cl.lookup x=X.env.cells.lookup x)/\Caps X scope cl N c
 | _,_=>False
def ClIn(X:Cx):List (Str×Addr)->Prop
 | []=>True
 | p::r=>X.env.cells.lookup p.1=some p.2/\ClIn X r
structure CScope(X:Cx)(scope:Scope)(cl:List (Str×Addr))(N':List Str)(cap:List (Option Nat)):Prop where
 kind:scope.kind = .function
 nocell:∀y∈scope.names,y.2≠ .cell
 loc:∀y∈scope.names,y.2 = .local->scope.names.lookup y.1=some .local
 clos:closureFor scope X.env=pure cl
 cin:ClIn X cl
 has:((relabel scope X.env).names.all fun y=>!(y.2 == .cell||y.2 == .free)||(cl.lookup y.1).isSome)=true
 caps:Caps X scope cl N' cap
def Wg(cap:List (Option Nat))(σ:St):St:=cap.map fun o=>o.bind fun j=>(σ[j]?).join
theorem ClIn.get{X:Cx}:∀{cl:List (Str×Addr)} {x:Str} {c:Addr},ClIn X cl->cl.lookup x=some c->X.env.cells.lookup x=some c
 | [],_,_,_,h=>by simp at h
 | (y,d)::r,x,c,⟨h1,h2⟩,h=>by
  rw[List.lookup_cons]at h
  cases e:x == y with
  | true =>
   rw[e]at h
   cases h
   rw[beq_iff_eq.mp e]
   exact h1
  | false =>
   rw[e]at h
   exact ClIn.get h2 h
theorem Caps.len{X:Cx}{scope:Scope}{cl:List (Str×Addr)}:∀{N:List Str} {cap:List (Option Nat)},Caps X scope cl N cap->cap.length=N.length
 | [],[],_=>rfl
 | _::N,none::c,h=>by rw[BN,BN,Caps.len (N:=N) (cap:=c) h]
 | _::N,some j::c,h=>by rw[BN,BN,Caps.len h.2]
 | [],_::_,h=>h.elim
 | _::_,[],h=>h.elim
theorem Caps.get{X:Cx}{scope:Scope}{cl:List (Str×Addr)}{j:Nat}{x:Str}:∀{N:List Str} {cap:List (Option Nat)} {i:Nat},Caps X scope cl N cap->N[i]?=some x->cap[i]?=some (some j) ->
  X.N[j]?=some x/\X.env.scope.names.lookup x=some .cell/\(relabel scope X.env).names.lookup x=some .cell/\cl.lookup x=X.env.cells.lookup x
 | [],_,_,_,h,_=>by simp at h
 | _::_,[],_,_,_,h=>by simp at h
 | y::N,none::c,0,_,_,h=>by simp at h
 | y::N,none::c,i+1,h,h1,h2=>Caps.get (N:=N) (cap:=c) (i:=i) h (by simpa using h1) (by simpa using h2)
 | y::N,some k::c,0,h,h1,h2=>by
  simp at h1 h2
  subst h1;subst h2
  exact h.1
 | y::N,some k::c,i+1,h,h1,h2=>Caps.get (N:=N) (cap:=c) (i:=i) h.2 (by simpa using h1) (by simpa using h2)
section
variable{X:Cx}{scope:Scope}{cl:List (Str×Addr)}{N':List Str}{cap:List (Option Nat)}{pins:List (Addr×Obj)}{σ:St}{H3:Hp}{s3:Shared}{ex:List Addr}
theorem Dk{p:NameKind->Bool}:∀{names:List (Str×NameKind)} {q:Str->NameKind->Bool} {x:Str} {k:NameKind},(names.all fun y=>q y.1 y.2)=true->names.lookup x=some k->q x k=true
 | [],_,_,_,_,h=>by simp at h
 | (y,d)::r,q,x,k,ha,h=>by
  rw[List.all_cons,BP]at ha
  rw[List.lookup_cons]at h
  cases e:x == y with
  | true =>
   rw[e]at h
   cases h
   rw[beq_iff_eq.mp e]
   exact ha.1
  | false =>
   rw[e]at h
   exact Dk (p:=p) (names:=r) (q:=q) ha.2 h
theorem Inv.block(I:Inv X pins σ H3 s3)(S:CScope X scope cl N' cap)(hc:X.calm=true)(hex:∀b∈ex,Gs X pins H3 b/\∃o,s3.heap.get? b=some o){h1:Heap}{tk:Nat}
  (hns:h1.Ns s3.heap.objs.size (fun _=>none)) (hk:∀b o,s3.heap.get? b=some o->h1.get? b=some o) :
  Inv (cxC X scope cl N' pins ex s3 H3) [] (Wg cap σ) H3 { s3 with heap:=h1,toks:=tk }:=by
 have lt3:∀b o,s3.heap.get? b=some o->b≠s3.heap.objs.size:=fun b o e=>BF (AN e)
 have hcell:∀x c,cl.lookup x=some c->∃v,s3.heap.IsCell c v:=fun x c e=>I.cell x c (S.cin.get e)
 have hfree:H3 s3.heap.objs.size=none:=I.hok.fresh (Nat.le_refl _)
 refine⟨⟨I.ok.mod,?_,I.ok.glob,I.ok.blt,Nat.le_refl _,fun x y c e1 e2=>I.ok.inj x y c (S.cin.get e1) (S.cin.get e2),fun x hx=>?_,fun x c h _=>absurd h BC,I.ok.hd,I.ok.frames,.inl rfl,fun b hb=>?_,I.bs,Nat.le_trans I.ok.bsz I.sz,fun b o e hb=>?_,fun b hb=>?_,I.stack,I.stkFree⟩,
  rfl,I.bare,Un.kept hk,⟨_,hns,fun i x v e1 e2 e3=>?_⟩,fun x c e=>?_,hfree,fun x c e=>I.freeC x c (S.cin.get e),fun p hp=>?_,I.hok.kept hk,?_⟩
 ·exact S.kind
 ·have q:∀k,(relabel scope X.env).names.lookup x=some k->(!(k == .cell||k == .free)||(cl.lookup x).isSome)=true:=fun k e=>Dk (p:=fun _=>true) (q:=fun a k=>!(k == .cell||k == .free)||(cl.lookup a).isSome) S.has e
  have hx':(relabel scope X.env).names.lookup x=some .cell\/(relabel scope X.env).names.lookup x=some .free:=hx
  have:(cl.lookup x).isSome=true:=by
   rcases hx' with e | e
   ·exact q _ e
   ·exact q _ e
  exact FN.mp this
 ·obtain⟨⟨_,_,_,_,f4,_⟩,o,e⟩:=hex b hb
  exact⟨lt3 b o e,fun x c ec=>f4 x c (S.cin.get ec)⟩
 ·obtain⟨⟨f0,f1,f2,f3,_⟩,_⟩:=hex b hb
  rcases f3 with f3 | f3
  ·exact I.ok.noex b o e f3
  ·have:=(I.ok.bs b o e).1
   exact absurd (BM (AN this) f3) (DE _)
 ·intro hf
  obtain⟨⟨_,f1,f2,_⟩,_⟩:=hex b hb
  rcases BD.mp (I.stkSub b hf)with z | z
  ·exact f1 z
  ·exact f2 z
 ·unfold Wg at e2
  rw[AI]at e2
  cases ec:cap[i]? with
  | none=>rw[ec]at e2;cases e2
  | some o =>
   rw[ec]at e2
   cases o with
   | none=>cases e2
   | some j =>
    have e2':(σ[j]?).join=some v:=BH e2
    obtain⟨c1,c2,c3,c4⟩:=S.caps.get e1 ec
    have ej:σ[j]?=some (some v):=by
     cases ej:σ[j]? with
     | none=>rw[ej]at e2';cases e2'
     | some z=>rw[ej]at e2';cases z with
      | none=>cases e2'
      | some z=>cases e2';rfl
    obtain⟨m,hn,hl⟩:=I.loc
    obtain⟨u,r,l⟩:=hl j x v c1 ej (.inr (.inl c2))
    refine⟨u,r,?_⟩
    rcases l with⟨k,_⟩ | ⟨_,c,hc',hcell'⟩
    ·have:X.env.scope.names.lookup x=some .local:=k
     rw[c2]at this;cases this
    ·exact .inr ⟨.inl c3,c,c4.trans hc',let⟨o,ho,hd⟩:=hcell';⟨o,hk _ _ ho,hd⟩⟩
 ·obtain⟨v,o,ho,hd⟩:=hcell x c e
  exact⟨v,o,hk _ _ ho,hd⟩
 ·have hp':p∈X.pn++pins:=by simpa [cxC] using hp
  obtain⟨e,n,ne,nf,d⟩:=I.pin p hp'
  refine⟨hk _ _ e,n,lt3 _ _ e,fun hf=>?_,d⟩
  rcases BD.mp (I.stkSub p.1 hf)with z | z
  ·exact ne z
  ·exact nf z
 ·unfold Wg
  rw[AB]
  exact S.caps.len
theorem Inv.unblock{σ':St}{H':Hp}{s':Shared}{h':Heap}(I:Inv X pins σ H3 s3)(hex:∀b∈ex,Gs X pins H3 b)(J:Inv (cxC X scope cl N' pins ex s3 H3) [] σ' H' s')(hb:Heap.SameBut s3.heap.objs.size s'.heap h') :
  Inv X pins σ H' { s' with heap:=h' }:=by
 have hfr:H' s3.heap.objs.size=none:=J.free
 refine I.call' (ch:=ex) J.os ⟨fun b o e n h1 h2=>?_,fun b o e n h1 h2=>?_,fun b o e n h2=>?_,fun b o e h2=>?_,J.base.tups,J.base.frzs,J.base.tbls⟩ (fun b ob e=>?_) J.bare fun b hbx=>?_
 ·exact(hb.2 b (BF (AN e))).trans (J.base.keep b o e n h1 h2)
 ·obtain⟨sl,q⟩:=J.base.slot b o e n h1 h2
  exact⟨sl,(hb.2 b (BF (AN e))).trans q⟩
 ·exact J.base.free b o e n h2
 ·obtain⟨o',q⟩:=J.base.there b o e h2
  exact⟨o',(hb.2 b (BF (AN e))).trans q⟩
 ·refine(J.hok b ob e).stay (fun c w' hc q=>(hb.2 c ?_).trans q) (fun _ q=>q) fun _ _ q=>q
  rintro rfl
  rcases hc with z | z
  ·rw[<-z,hfr]at e;cases e
  ·rw[hfr]at z;cases z
 ·obtain⟨_,f1,_,f3,f4,f5⟩:=hex b hbx
  exact⟨f3,f1,f4,f5⟩
end
def Kr(e:Expr)(d:Nat)(iter tg:Expr)(ifs:List Expr)(emit:Sem Fin->Sem Fin)(it acc:Value)(env:Env):Sem Fin:=do
 standAt iter.pos
 match <-pyNext it with
 | none=>pure (.done .next)
 | some v =>
  letOwnedTupleGo tg it v
  assign tg env v
  let mut ok:=true
  for c in ifs do
   if ok then ok <-isTrue c env (eval c env)
  if ok then emit (again (.compLoop e d it acc env))else again (.compLoop e d it acc env)
def emL(elt:Expr)(acc:Value)(env:Env)(k:Sem Fin):Sem Fin:=(do let _ <-call (.builtin "list.append") [acc,<-eval elt env]:Sem Unit) >>= fun _=>k
def emD(a b:Expr)(D:Addr)(env:Env)(k:Sem Fin):Sem Fin:=(do
   let kv <-eval a env
   let vv <-holding [kv] (eval b env)
   standAt { a.pos with endLine:=b.pos.endLine,endCol:=b.pos.endCol }
   holding [kv,vv] (dictSet D kv vv):Sem Unit) >>= fun _=>k
theorem Cq(elt tg iter:Expr)(ifs:List Expr)(scope:Scope)(pos:Pos)(it acc:Value)(env:Env) :
  compTurn (.ListComp elt [⟨tg,iter,ifs,0⟩] scope pos) 0 it acc env=Kr (.ListComp elt [⟨tg,iter,ifs,0⟩] scope pos) 0 iter tg ifs (emL elt acc env) it acc env:=rfl
theorem Ni(k v tg iter:Expr)(ifs:List Expr)(scope:Scope)(pos:Pos)(it:Value)(D:Addr)(env:Env) :
  compTurn (.DictComp k v [⟨tg,iter,ifs,0⟩] scope pos) 0 it (.ref D) env=Kr (.DictComp k v [⟨tg,iter,ifs,0⟩] scope pos) 0 iter tg ifs (emD k v D env) it (.ref D) env:=rfl
abbrev TEm:=St->Hp->(St->Hp->Prop)->Prop
def PEm(X:Cx)(emit:Sem Fin->Sem Fin)(t:TEm):Prop :=
 ∀(pins:List (Addr×Obj)) (s:Shared) (σ:St) (H:Hp) (Q:St->Hp->Prop) (k:Sem Fin) (F:Fin->Shared->Prop) (E:Value->Shared->Prop),Inv X pins σ H s->t σ H Q ->
  (∀s' σ' H',Inv X pins σ' H' s'->Q σ' H'->wpAny (model X.prog X.w) X.A k F E s')->wpAny (model X.prog X.w) X.A (emit k) F E s
def PTs(X:Cx)(ifs:List Expr)(t:TT):Prop :=
 ∀(pins:List (Addr×Obj)) (s:Shared) (σ:St) (H:Hp) (Q:Bool->Hp->Prop),Inv X pins σ H s->t σ H Q ->
  wpAny (model X.prog X.w) X.A (forIn ifs true fun c r=>if r=true then do let ok <-isTrue c X.env (eval c X.env);pure (ForInStep.yield ok)else pure (ForInStep.yield r)) (TP X pins σ Q) X.xe s
def y6:TT:=fun _ H Q=>Q true H
theorem C8{X:Cx}:PTs X [] y6:=fun _ _ _ H _ I h=>wpAny_tests_nil ⟨H,I,h⟩
theorem K4{X:Cx}{c:Expr}{t:TT}(h:PT X c t):PTs X [c] t:=fun pins s σ H Q I q=>wpAny_tests_one (h pins s σ H Q I q)
def Ea(g:TG)(tc:TT)(em:TEm)(J:It)(σ:St)(H:Hp)(Q:St->Hp->Prop):Prop :=
 ∃W:Nat->Nat->St->Hp->Prop,(∃m,W 0 m σ H)/\∀i m σ H,W i m σ H->(J.stop i H/\Q σ H)\/(J.go i H/\∀x H',J.yld i H x H'->g x σ H' fun σ2 H2=>tc σ2 H2 fun b H3 =>
  if b=true then em σ2 H3 fun σ3 H4=>∃m',m' < m/\W (i+1) m' σ3 H4 else ∃m',m' < m/\W (i+1) m' σ2 H3)
section
variable{X:Cx}{e tg iter:Expr}{d:Nat}{ifs:List Expr}{emit:Sem Fin->Sem Fin}{it:Addr}{acc:Value}{g:TG}{tc:TT}{em:TEm}{J:It}{fp:List Addr}{tn:Nat->Heap->Prop}{R:Result->Shared->Prop}
theorem Ca(hun:X.A.under (.compLoop e d (.ref it) acc X.env)=X.A)(hden:(model X.prog X.w).den (.compLoop e d (.ref it) acc X.env) =(compTurn e d (.ref it) acc X.env).onRaise (fun x=>do noteFrame x X.env;theTreesLotGoes x))(hc:X.calm=true)(hxe:X.xe=fun _ _=>False)(hct:compTurn e d (.ref it) acc X.env=Kr e d iter tg ifs emit (.ref it) acc X.env)(hg:PG X tg g)(ht:PTs X ifs tc)(hem:PEm X emit em)
  (T:Turn X.prog X.w X.K tg J fp it tn) {pins:List (Addr×Obj)} {s:Shared} {σ:St} {H:Hp} {Q:St->Hp->Prop} (I:Inv X pins σ H s) (st:tn 0 s.heap) (hf:∀b∈fp,Gs X pins H b) (h:Ea g tc em J σ H Q)
  (hR:∀s' σ' H',Inv X pins σ' H' s'->Q σ' H'->R (.ok .next) s'):codeAny (model X.prog X.w) X.A (.compLoop e d (.ref it) acc X.env) R s:=by
 obtain⟨W,⟨m0,w0⟩,turn⟩:=h
 have stat:∀{H':Hp},(∀b∈fp,H' b=none)->∀b∈fp,Gs X pins H' b:=fun hn b hb=>⟨hn b hb,(hf b hb).2⟩
 have no:∀{α:Type} {m:Sem α} {P:α->Shared->Prop} {E:Value->Shared->Prop} {s:Shared},wpAny (model X.prog X.w) X.A m P X.xe s->wpAny (model X.prog X.w) X.A m P E s:=fun q=>by
  rw[hxe]at q
  exact CS q (fun _ _ z=>z) fun _ _ z=>z.elim
 refine codeAny_loop rfl (fun n s'=>∃i σ' H',Inv X pins σ' H' s'/\tn i s'.heap/\(∀b∈fp,H' b=none)/\W i n σ' H') (fun n s3 hI=>?_) m0 ⟨0,σ,H,I,st,fun b hb=>(hf b hb).1,w0⟩
 obtain⟨i,σ3,H3,I3,st3,fr3,w3⟩:=hI
 rw[hun,hden]
 refine wpAny_noted ?_
 rw[hct]
 unfold Kr
 refine AA (GP (AA ?_))
 rcases turn i n σ3 H3 w3 with⟨stop,qn⟩ | ⟨go,step⟩
 ·refine CS (T.done X rfl rfl rfl hc i pins s3 σ3 H3 _ I3 (stat fr3) st3 stop) (fun r s4 ⟨hr,I4⟩=>?_) fun _ _ z=>z
  subst hr
  exact AF (hR s4 σ3 H3 I4 qn)
 ·refine CS (T.item X rfl rfl rfl hc i pins s3 σ3 H3 _ I3 (stat fr3) st3 go) (fun r s4 ⟨u,hr,h4⟩=>?_) fun _ _ z=>z
  subst hr
  refine AA (CS h4 (fun _ s5 ⟨x,H5,I5,r5,y5,st5,fr5⟩=>?_) fun _ _ z=>z)
  have I5':=I5.pinned (stat fr5) (T.obj _ _ st5)
  have again:∀{σ7:St} {H7:Hp} {s7:Shared},Inv X (pins++Go fp s5.heap) σ7 H7 s7->(∃m',m' < n/\W (i+1) m' σ7 H7)->∃m,m<n/\∃i σ' H',Inv X pins σ' H' s7/\tn i s7.heap/\(∀b∈fp,H' b=none)/\W i m σ' H':=fun{σ7 H7 s7} I7 n7=>by
   obtain⟨m',hm,w7⟩:=n7
   refine⟨m',hm,i+1,σ7,H7,I7.unpinned,T.keep _ _ _ st5 fun b hb o e=>(I7.pin (b,o) (BV _ (BV _ (V7 hb e)))).1,fun b hb=>?_,w7⟩
   obtain⟨o,e,d⟩:=T.obj _ _ st5 b hb
   exact(I7.pin (b,o) (BV _ (BV _ (V7 hb e)))).2.1
  refine AA (CS (no (hg _ s5 σ3 H5 x u _ I5' r5 (step x H5 y5))) (fun _ s6 ⟨σ6,H6,I6,q6⟩=>?_) fun _ _ z=>z)
  refine AA (CS (no (ht _ s6 σ6 H6 _ I6 q6)) (fun ok s7 ⟨H7,I7,q7⟩=>?_) fun _ _ z=>z)
  cases ok with
  | false=>exact AF ⟨rfl,again I7 q7⟩
  | true =>
   exact hem _ s7 σ6 H7 _ _ _ _ I7 q7 fun s8 σ8 H8 I8 q8=>AF ⟨rfl,again I8 q8⟩
theorem Cw(hun:X.A.under (.compStart e d (.ref it) acc X.env)=X.A)(hden:(model X.prog X.w).den (.compStart e d (.ref it) acc X.env) =(compStart e d (.ref it) acc X.env).onRaise (fun x=>do noteFrame x X.env;standAt theWindowsPlace)){gs:List Comprehension}(hgs:clausesOf e=gs)(hd:gs[d]?=some ⟨tg,iter,ifs,0⟩){s:Shared}(T:Turn X.prog X.w X.K tg J fp it tn)(st:tn 0 s.heap)
  (h:codeAny (model X.prog X.w) X.A (.compLoop e d (.ref it) acc X.env) R s):codeAny (model X.prog X.w) X.A (.compStart e d (.ref it) acc X.env) R s:=by
 refine codeAny_of_tree ?_
 rw[hun,hden]
 refine wpAny_notedAt ?_
 unfold compStart
 rw[hgs,hd]
 show wpAny _ X.A (ask >>= _) _ _ s
 refine AA (GH (wpAny_ite ?_))
 have h1:=T.self X.A 0 s (fun it' s'=>codeAny (model X.prog X.w) X.A (.compLoop e d it' acc X.env) R s') (notedBy (model X.prog X.w) X.A X.env fun x s'=>R (.error x) s') st h
 split
 ·first
   | exact AA (AF (AF (And.intro rfl h)))
   | exact AF (And.intro rfl h)
 ·first
   | exact AA (FB (AA (GP (AA (CS h1 (fun it' s' h'=>AF (And.intro rfl h')) fun _ _ x=>x)))))
   | (refine AA (FB ?_);show wpAny _ _ (standAt iter.pos >>= _) _ _ s;exact AA (GP (AA (CS h1 (fun it' s' h'=>AF (And.intro rfl h')) fun _ _ x=>x))))
end
section
variable{X:Cx}{tg iter:Expr}{ifs:List Expr}{g:TG}{tc:TT}{em:TEm}{scope:Scope}{cl:List (Str×Addr)}{N':List Str}{cap:List (Option Nat)}{pos:Pos}{wi:TI}
def Qj(wi:TI)(o:Addr->HO)(cap:List (Option Nat))(lp:Addr->It->St->Hp->(St->Hp->Prop)->Prop):TE:=fun σ H Q=>wi σ H fun J H1=>∀D,H1 D=none->lp D J (Wg cap σ) (upd H1 D (o D)) fun _ H2=>Q (.ref D) H2
theorem Kx{e:Expr}{gs:List Comprehension}{newAcc:Sem Value}{p2:Pos}(hcl:clausesOf e =⟨tg,iter,ifs,0⟩::gs)(o:Addr->HO)(hs:∀x,foldedSetIterable iter X.env x=pure x)(S:CScope X scope cl N' cap)(hc:X.calm=true)(hi:PI X tg iter wi)
  {lp:Addr->It->St->Hp->(St->Hp->Prop)->Prop}
  (hnew:∀(pins:List (Addr×Obj)) (s:Shared) (σ:St) (H:Hp) (Q:Value->Shared->Prop) (E:Value->Shared->Prop),Inv X pins σ H s->(∀s',Inv X pins σ (upd H s.heap.objs.size (o s.heap.objs.size)) s'->(∀b ob,s.heap.get? b=some ob->s'.heap.get? b=some ob)->Q (.ref s.heap.objs.size) s')->wpAny (model X.prog X.w) X.A newAcc Q E s)
  (hlp:∀(pins:List (Addr×Obj)) (ex:List Addr) (s3:Shared) (H3:Hp) (D it:Addr) (fp:List Addr) (tn:Nat->Heap->Prop) (J:It) (σ:St) (s:Shared) (H:Hp) (Q:St->Hp->Prop) (R:Result->Shared->Prop),
   Turn X.prog X.w X.K tg J fp it tn->Inv (cxC X scope cl N' pins ex s3 H3) [] σ H s->tn 0 s.heap->(∀b∈fp,Gs (cxC X scope cl N' pins ex s3 H3) [] H b)->lp D J σ H Q ->
   (∀s' σ' H',Inv (cxC X scope cl N' pins ex s3 H3) [] σ' H' s'->Q σ' H'->R (.ok .next) s') ->
   codeAny (model X.prog X.w) X.A (.compLoop e 0 (.ref it) (.ref D) (compEnvC scope cl s3.heap.objs.size X.env)) R s)
  (hun:∀it D env,X.A.under (.compStart e 0 (.ref it) (.ref D) env)=X.A) (hden:∀it D env,(model X.prog X.w).den (.compStart e 0 (.ref it) (.ref D) env) =(compStart e 0 (.ref it) (.ref D) env).onRaise (fun x=>do noteFrame x env;standAt theWindowsPlace))
  (hev:∀E Q s,wpAny (model X.prog X.w) X.A (comprehension e scope X.env p2 newAcc false (eval iter X.env)) Q E s->wpAny (model X.prog X.w) X.A (eval e X.env) Q E s) :
  PE X e (Qj wi o cap lp):=by
 intro pins s σ H Q I h
 refine hev _ _ _ (wpAny_comprehension_free (use:=none) hcl hs S.clos S.kind S.loc (thn (hi pins s σ H _ I h) fun v s1 h1=>thn h1 fun itv s2 h2=>?_))
 obtain⟨it,fp,tn,J,H2,eit,I2,T,st2,f2,R2⟩:=h2
 subst eit
 refine hnew pins s2 σ H2 _ _ I2 fun s3 I3 k3=>?_
 have hD:H2 s2.heap.objs.size=none:=I2.hok.fresh (Nat.le_refl _)
 have fok:∀b∈fp,Gs X pins (upd H2 s2.heap.objs.size (o s2.heap.objs.size)) b/\∃ob,s3.heap.get? b=some ob:=fun b hb=>by
  obtain⟨ob,e,_⟩:=T.obj _ _ st2 b hb
  obtain⟨f0,fr⟩:=f2 b hb
  exact⟨⟨by rw[B7 (BF (AN e))];exact f0,fr⟩,ob,k3 b ob e⟩
 refine wpAny_newFunctionEnv S.nocell (by intro y hy;simp at hy) (fun h1 hns hsb=>?_) S.kind
 have hk:∀b ob,s3.heap.get? b=some ob->h1.get? b=some ob:=fun b ob e=>(hsb.2 b (BF (AN e))).trans (AE _ e)
 have I4:Inv (cxC X scope cl N' pins fp s3 (upd H2 s2.heap.objs.size (o s2.heap.objs.size))) [] (Wg cap σ) (upd H2 s2.heap.objs.size (o s2.heap.objs.size)) { s3 with heap:=h1,toks:=s3.toks +([]:List (Str×Value)).length } :=
  I3.block S hc fok hns hk
 have st4:tn 0 h1:=T.keep 0 _ _ st2 fun b hb ob e=>hk b ob (k3 b ob e)
 refine Cw (X:=cxC X scope cl N' pins fp s3 (upd H2 s2.heap.objs.size (o s2.heap.objs.size))) (gs:=⟨tg,iter,ifs,0⟩::gs) (e:=e) (d:=0) (tg:=tg) (iter:=iter) (ifs:=ifs) (hun _ _ _) (hden _ _ _) hcl rfl T st4 ?_
 refine hlp pins fp s3 _ s2.heap.objs.size it fp tn J (Wg cap σ) _ _ _ _ T I4 st4 (fun b hb=>?_) (R2 _ hD) fun s' σ' H' I' q'=>?_
 ·obtain⟨⟨f0,f1,f2',f3,f4,f5⟩,ob,eo⟩:=fok b hb
  refine⟨f0,BF (AN eo),fun hf=>?_,.inl hb,fun x c e=>f4 x c (S.cin.get e),fun p hp=>f5 p (by simpa [cxC] using hp)⟩
  rcases BD.mp (I3.stkSub b hf)with z | z
  ·exact f1 z
  ·exact f2' z
 ·obtain⟨m,hn,_⟩:=I'.loc
  exact⟨m,hn,fun h' hb=>⟨.ref _,H',I3.unblock (fun b hb=>(fok b hb).1) I' hb,rfl,q'⟩⟩
end
section
variable{X:Cx}{tg iter elt:Expr}{ifs:List Expr}{g:TG}{tc:TT}{te:TE}{scope:Scope}{cl:List (Str×Addr)}{N':List Str}{cap:List (Option Nat)}{pos:Pos}{wi:TI}
def p9(D:Addr)(te:TE):TEm:=fun σ H Q=>te σ H fun y H1=>∃ys,H1 D=some (.lst ys)/\ys.length<sizeLine/\Q σ (upd H1 D (.lst (ys ++ [y])))
theorem Kq{α:Type}{X:Cx}(hxe:X.xe=fun _ _=>False){m:Sem α}{P:α->Shared->Prop}{E:Value->Shared->Prop}{s:Shared}(q:wpAny (model X.prog X.w) X.A m P X.xe s):wpAny (model X.prog X.w) X.A m P E s:=by
 rw[hxe]at q
 exact CS q (fun _ _ z=>z) fun _ _ z=>z.elim
theorem Kk{D:Addr}(hxe:X.xe=fun _ _=>False)(he:PE X elt te):PEm X (emL elt (.ref D) X.env) (p9 D te):=by
 intro pins s σ H Q k F E I h hk
 unfold emL
 refine AA (AA (CS (Kq hxe (he pins s σ H _ I h)) (fun u s1 ⟨y,H1,I1,r1,ys,e1,z1,q1⟩=>?_) fun _ _ z=>z))
 refine AA (CS (Kq hxe (K8 pins s1 σ H1 (.ref D) [y] (.ref D) [u] (fun v H2=>v = .non/\Q σ H2) I1 rfl (.cons r1 .nil) ⟨D,ys,y,rfl,rfl,e1,z1,rfl,q1⟩)) (fun v s2 ⟨y2,H2,I2,r2,_,q2⟩=>?_) fun _ _ z=>z)
 exact AF (hk s2 σ H2 I2 q2)
theorem J5(S:CScope X scope cl N' cap)(hc:X.calm=true)(hi:PI X tg iter wi)
  (hb:∀(pins:List (Addr×Obj)) (ex:List Addr) (s3:Shared) (H3:Hp),PG (cxC X scope cl N' pins ex s3 H3) tg g/\PTs (cxC X scope cl N' pins ex s3 H3) ifs tc/\PE (cxC X scope cl N' pins ex s3 H3) elt te)
  (hs:∀x,foldedSetIterable iter X.env x=pure x:=by intro _;rfl) :
  PE X (.ListComp elt [⟨tg,iter,ifs,0⟩] scope pos) (Qj wi (fun _=>.lst []) cap fun D J σ H Q=>Ea g tc (p9 D te) J σ H Q):=by
 refine Kx (newAcc:=newList []) (p2:=firstIterPos [⟨tg,iter,ifs,0⟩] pos) rfl (fun _=>.lst []) hs S hc hi (fun pins s σ H Q E I h=>?_) (fun pins ex s3 H3 D it fp tn J σ s H Q R T I st hf h hR=>?_) (fun _ _ _=>rfl) (fun _ _ _=>rfl) (fun E Q s h=>h)
 ·refine GN ?_
  exact h _ (I.lnew (t':=s.toks) (its:=[]) .nil (CA _)) fun b ob e=>AE _ e
 ·obtain⟨b1,b2,b3⟩:=hb pins ex s3 H3
  exact Ca (X:=cxC X scope cl N' pins ex s3 H3) rfl rfl hc rfl (Cq elt tg iter ifs scope pos _ _ _) b1 b2 (Kk rfl b3) T I st hf h hR
def Qc(D:Addr)(tk tv:TE):TEm:=fun σ H Q=>tk σ H fun y H1=>tv σ H1 fun v H2=>∃kvs k,H2 D=some (.dK kvs)/\y=kV k/\kvs.length<sizeLine/\Q σ (upd H2 D (.dK (Cv kvs k v)))
theorem Um{D:Addr}{a b:Expr}{ta tb:TE}(hxe:X.xe=fun _ _=>False)(ha:PE X a ta)(hb:PE X b tb):PEm X (emD a b D X.env) (Qc D ta tb):=by
 intro pins s σ H Q k F E I h hk
 unfold emD
 refine AA (AA (CS (Kq hxe (ha pins s σ H _ I h)) (fun u s1 ⟨y,H1,I1,r1,q1⟩=>?_) fun _ _ z=>z))
 refine AA (CO (CS (Kq hxe (hb pins s1 σ H1 _ I1 q1)) (fun r s2 ⟨v,H2,I2,rv,kvs,kk,e,ey,l,q2⟩=>?_) fun _ _ z=>z))
 refine AA (GP (CO ?_))
 subst ey
 obtain⟨z,hd,vs,rel,dd⟩:=Oy I2.hok e
 have hz:vs.length<=sizeLine:=by rw[<-rel.length];exact z
 have hl:(Cv kvs kk v).length<=sizeLine:=by have:=X9 kvs kk v;omega
 refine wpAny_dictSet_pairs (hsz:=hz) (Iy r1) dd fun h' dd' hs=>?_
 have he:∃q,h'.get? D=some q:=let⟨q,_,_,hq,_⟩:=dd';⟨q,hq⟩
 exact hk _ σ _ (Qy (t':=s2.toks+1) I2 (by rw[e];exact True.intro) hs he (Oh hl hd (rel.put kk rv) dd')) q2
theorem Jm{a b:Expr}{ta tb:TE}(S:CScope X scope cl N' cap)(hc:X.calm=true)(hi:PI X tg iter wi)
  (hb:∀(pins:List (Addr×Obj)) (ex:List Addr) (s3:Shared) (H3:Hp),PG (cxC X scope cl N' pins ex s3 H3) tg g/\PTs (cxC X scope cl N' pins ex s3 H3) ifs tc/\PE (cxC X scope cl N' pins ex s3 H3) a ta/\PE (cxC X scope cl N' pins ex s3 H3) b tb)
  (hs:∀x,foldedSetIterable iter X.env x=pure x:=by intro _;rfl) :
  PE X (.DictComp a b [⟨tg,iter,ifs,0⟩] scope pos) (Qj wi (fun _=>.dK []) cap fun D J σ H Q=>Ea g tc (Qc D ta tb) J σ H Q):=by
 refine Kx (newAcc:=newDict) (p2:=firstIterPos [⟨tg,iter,ifs,0⟩] pos) rfl (fun _=>.dK []) hs S hc hi (fun pins s σ H Q E I h=>?_) (fun pins ex s3 H3 D it fp tn J σ s H Q R T I st hf h hR=>?_) (fun _ _ _=>rfl) (fun _ _ _=>rfl) (fun E Q s h=>h)
 ·refine ED ?_
  exact h _ (I.laid (a:=s.heap.objs.size) (o:=.dK []) (t':=s.toks) (fun _ _ q=>AE _ q) (Nat.le_refl _) (Ku s.heap I.big)) fun b ob e=>AE _ e
 ·obtain⟨b1,b2,b3,b4⟩:=hb pins ex s3 H3
  exact Ca (X:=cxC X scope cl N' pins ex s3 H3) rfl rfl hc rfl (Ni a b tg iter ifs scope pos _ _ _) b1 b2 (Um rfl b3 b4) T I st hf h hR
end
instance:LawfulBEq Key where
 rfl {a}:=by cases a with
  | inl i=>show(i == i)=true;simp
  | inr x=>show(x == x)=true;simp
 eq_of_beq {a b} h:=by
  cases a with
  | inl i=>cases b with
   | inl j=>exact congrArg Sum.inl (eq_of_beq (show(i == j)=true from h))
   | inr j=>exact absurd h (by intro z;cases z)
  | inr i=>cases b with
   | inl j=>exact absurd h (by intro z;cases z)
   | inr j=>exact congrArg Sum.inr (eq_of_beq (show(i == j)=true from h))
def Oa(P:Program)(w:World)(a:Addr)(l:List Key):HO:=.ext fun h=>h.SetOf (C2 P w) a (fun k=>decide (k∈l)) l.length
section
variable{X:Cx}{pins:List (Addr×Obj)}{σ:St}{H:Hp}{s:Shared}{a:Addr}{l:List Key}
theorem zAe{P:Program}{w:World}{H:Hp}{h:Heap}(z:h.SetOf (C2 P w) a (fun k=>decide (k∈l)) l.length):ObjOk P w H h a (Oa P w a l) :=
 ⟨z,let⟨o,_,_,_,e,_⟩:=z;⟨o,e⟩,fun h1 h2 ⟨o,es,ep,t,e,r⟩ k=>⟨o,es,ep,t,k o e,r⟩⟩
theorem Inv.set(I:Inv X pins σ H s)(e:H a=some (Oa X.prog X.w a l)):s.heap.SetOf (C2 X.prog X.w) a (fun k=>decide (k∈l)) l.length:=by
 obtain⟨z,_⟩:=(show ObjOk X.prog X.w H s.heap a (Oa X.prog X.w a l)from I.hok a _ e)
 exact z
theorem Mo{k:Key}{u:Value}(r:RelV (kV k) u):u.scannable=true:=by
 cases k with
 | inl i=>obtain⟨t,rfl⟩:=r;rfl
 | inr x=>obtain⟨t,rfl⟩:=r;rfl
def zBv(l:List Key)(k:Key):List Key:=if k∈l then l else l ++ [k]
theorem Io{P:Program}{w:World}{h:Heap}{S S':Key->Bool}{n n':Nat}(z:h.SetOf (C2 P w) a S n)(e:∀k,S' k=S k)(en:n'=n):h.SetOf (C2 P w) a S' n':=by
 have:S'=S:=funext e
 subst this;subst en;exact z
theorem Qd:J0 X (.type "set") (fun xs H Q=>xs = []/\∀p,H p=none->Q (.ref p) (upd H p (Oa X.prog X.w p []))):=by
 intro pins s σ H xs us Q I r h
 obtain⟨rfl,q⟩:=h
 cases r
 refine call_set_0 fun led=>⟨.ref s.heap.objs.size,_,I.laid (t':=s.toks) (fun b o e=>AE _ e) (Nat.le_refl _) (zAe ?_),rfl,q _ (I.hok.fresh (Nat.le_refl _))⟩
 exact(setObjOf_fresh led).setOf (BB _ rfl) (by decide)
def zBq(P:Program)(w:World):V->List V->Hp->VK->Prop:=fun x vs H Q=>∃a l k,x = .ref a/\vs = [kV k]/\H a=some (Oa P w a l)/\l.length+1<4096/\Q .non (upd H a (Oa P w a (zBv l k)))
theorem zAg:MtM X "set.add" (zBq X.prog X.w):=by
 intro pins s σ H x vs v us Q I rx rv h
 obtain⟨a,l,k,rfl,rfl,hH,hz,q⟩:=h
 cases rx
 obtain⟨u,rfl,ru⟩:=rv.one
 refine call_set_add (Iy ru) (Mo ru) (I.set hH) hz fun h' hs z=>?_
 refine⟨.non,_,I.write (x:=a) (e:=a) (t':=s.toks+1) (by rw[hH];exact True.intro) (.inl rfl) (fun b q hb e=>(hs.2 b hb).trans e) (let⟨o,_,_,_,e,_⟩:=z;⟨o,e⟩) (zAe (Io z (fun k'=>?_) ?_)),rfl,q⟩
 ·unfold zBv
  by_cases e:k∈l
  ·rw[AQ e]
   by_cases ek:k'=k
   ·subst ek;simp[e]
   ·simp[ek]
  ·rw[AJ e]
   simp
 ·unfold zBv
  by_cases e:k∈l
  ·rw[AQ e];simp[e]
  ·rw[AJ e];simp[e]
def zDq(P:Program)(w:World)(neg:Bool):R2:=fun x y H Q=>∃a l k,y = .ref a/\x=kV k/\H a=some (Oa P w a l)/\Q (.bl (if neg then !decide (k∈l)else decide (k∈l))) H
theorem Qn:OpR X (compareOp .In) (zDq X.prog X.w false):=by
 intro pins s σ H x y v u Q I rx ry h
 obtain⟨a,l,k,rfl,rfl,hH,q⟩:=h
 cases ry
 exact wpAny_inSet_of (Iy rx) (Mo rx) (I.set hH) ⟨.bl (decide (k∈l)),H,I.tok _,rfl,q⟩
end
def Its(x:Str):It:=⟨fun i _=>i<x.cps.size,fun i H v H'=>H'=H/\∃c,x.cps[i]?=some c/\v = .str ⟨#[c]⟩,fun i _=>i=x.cps.size⟩
theorem Mx{P:Program}{w:World}{K:PySem.W.Frag}{tg:Expr}(it:Addr)(x:Str)(t:Tok)(ty:String)(hty:["enumerate", "zip", "dict_itemiterator", "dict_reverseitemiterator", "odict_iterator", "itertools.zip_longest", "itertools.pairwise"].contains ty=false)
  (W:∀A':Around,A'.handled=none->Walks P w A' it [it] [it] x.cps.size (SignAt x) (fun i h=>h.IsStrIter it ty x t i))
  (hself:∀(A:Around) (i:Nat) (s:Shared) (Q:Value->Shared->Prop) (E:Value->Shared->Prop),s.heap.IsStrIter it ty x t i->Q (.ref it) s->wpAny (model P w) A (pyIter (.ref it)) Q E s):Turn P w K tg (Its x) [it] it (fun i h=>h.IsStrIter it ty x t i) where
 mem:=by simp
 obj:=fun i h st b hb=>by
  have e:b=it:=by simpa using hb
  subst e
  obtain⟨o,e,c,d⟩:=st
  exact⟨o,e,fun v z=>by rw[d]at z;cases z⟩
 keep:=fun i h h' st k=>let⟨o,e,r⟩:=st;⟨o,k it (by simp) o e,r⟩
 item:=by
  intro X hP hw hK hc i pins s σ H E I hf st hg
  subst hP hw hK
  obtain⟨f0,f1,f2,f3,f4,f5⟩:=hf it (by simp)
  refine(W X.A (I.ok.hd hc)).item i s _ _ hg st fun v h' tk hv st' k=>?_
  obtain⟨c,u,ec,ev⟩:=hv
  have I1:Inv X pins σ H { s with heap:=h',toks:=tk }:=I.turned (fun b o hb e=>k b o (by simpa using hb) e) f0 f1 f3 f4 f5
  obtain⟨o,e,c',d⟩:=id st'
  exact⟨v,rfl,Nh (s:={ s with heap:=h',toks:=tk }) e c' d hty ⟨.str ⟨#[c]⟩,H,I1,⟨u,ev⟩,⟨rfl,c,ec,rfl⟩,st',fun b hb=>(hf b hb).1⟩⟩
 done:=by
  intro X hP hw hK hc i pins s σ H E I hf st hg
  subst hP hw hK
  obtain⟨f0,f1,f2,f3,f4,f5⟩:=hf it (by simp)
  have hg':i=x.cps.size:=hg
  subst hg'
  exact(W X.A (I.ok.hd hc)).done s _ _ st fun h' tk k=>⟨rfl,I.turned (fun b o hb e=>k b o (by simpa using hb) e) f0 f1 f3 f4 f5⟩
 self:=fun A i s Q E st h=>hself A i s Q E st h
section
variable{X:Cx}{tg:Expr}
def zEz(te:TE):TI:=fun σ H R=>te σ H fun x H1=>∃z,x = .str z/\R (Its z) H1
theorem Zd{l:Expr}{tl:TE}(hl:PE X l tl):PI X tg l (zEz tl):=by
 intro pins s σ H R I h
 refine thn (hl pins s σ H _ I h) fun v s1 ⟨x,H1,I1,r1,q1⟩=>?_
 obtain⟨z,e,q⟩:=q1
 subst e
 obtain⟨t,rfl⟩:=r1
 have fin:∀(o:Obj) (ty:String),o.cls = .type ty->o.data = .fields #[.str z t,.int (0:Nat) 0]->o.isFreed=false->Turn X.prog X.w X.K tg (Its z) [s1.heap.objs.size] s1.heap.objs.size (fun i h=>h.IsStrIter s1.heap.objs.size ty z t i) ->
   PIE X pins σ tg R (.ref s1.heap.objs.size) { s1 with heap:=s1.heap.push o }:=fun o ty c d hf T=>by
  refine⟨s1.heap.objs.size,[s1.heap.objs.size],_,_,H1,rfl,I1.kept (t':=s1.toks) fun b o e=>AE _ e,T,⟨o,BB _ hf,c,d⟩,fun b hb=>?_,q⟩
  have e:b=s1.heap.objs.size:=by simpa using hb
  subst e
  exact I1.fpOk (Nat.le_refl _) (I1.hok.fresh (Nat.le_refl _))
 cases ha:z.cps.all (· < 128)
 ·exact wpAny_pyIter_wide ha (fin _ _ rfl rfl rfl (Mx _ z t "str_iterator" (by decide) (fun A' hA=>Walks.strWide hA _ z t) fun A i s Q E st h=>wpAny_pyIter_striter_wide st h))
 ·exact wpAny_pyIter_ascii ha (fin _ _ rfl rfl rfl (Mx _ z t "str_ascii_iterator" (by decide) (fun A' hA=>Walks.strAscii hA _ z t) fun A i s Q E st h=>wpAny_pyIter_striter_ascii st h))
end
section
variable{X:Cx}
theorem To(hc:X.calm=true):J0 X (.builtin "all") (fun xs H Q=>∃(p:Addr) (bs:List Bool),xs = [.ref p]/\SqL X.K H p (bs.map V.bl)/\Q (.bl (bs.all id)) H):=by
 intro pins s σ H xs us Q I r h
 obtain⟨p,bs,rfl,hq,q⟩:=h
 obtain⟨u,rfl,ru⟩:=V2 r
 cases ru
 obtain⟨its,rv,pl,hz⟩:=I.list hq
 refine call_all_walk (HB pl.isList ?_)
 have hne:p≠s.heap.objs.size:=by
  obtain⟨o,n,e,_⟩:=pl
  exact BF (AN e)
 refine⟨s.heap.objs.size,_,_,_,_,_,fun i=>bs.getD i true,rfl,Walks.list (A:=X.A.in1) (show X.A.in1.handled=none from I.ok.hd hc) _ p hne its.toArray,⟨⟨_,BB _ rfl,rfl,rfl⟩,?_⟩,fun i v s' Q' E' hv q'=>?_,fun h' tk k=>?_⟩
 ·obtain⟨o,n,e,c,d,e2⟩:=pl
  exact⟨o,AE _ e,c,n,e2⟩
 ·have hb:(bs.map V.bl)[i]?=some (V.bl (bs.getD i true))/\RelV (V.bl (bs.getD i true)) v:=by
   have hv':its[i]?=some v:=by simpa using hv
   have hi:i<its.length:=(AG.mp hv').1
   have hl:=rv.length
   rw[AB]at hl
   have e:(bs.map V.bl)[i]?=some (V.bl (bs.getD i true)):=by
    rw[AI,AC (by omega)]
    simp[BW,AC (show i<bs.length by omega)]
   obtain⟨u,hu,ru⟩:=rv.get e
   rw[hv']at hu
   cases hu
   exact⟨e,ru⟩
  cases hb.2
  exact DA q'
 ·have hl:=rv.length
  rw[AB]at hl
  have e:(List.range its.toArray.size).all (fun i=>bs.getD i true)=bs.all id:=by
   rw[AZ,<-hl]
   rw[CK,CJ,CJ]
   constructor
   ·intro z b hb
    obtain⟨i,hi,rfl⟩:=FI.mp hb
    have:=z i (B_.mpr hi)
    simpa [BW,AC hi] using this
   ·intro z i hi
    have hi':=B_.mp hi
    have:=z bs[i] (DI hi')
    simpa [BW,AC hi'] using this
  rw[e]
  exact⟨.bl (bs.all id),H,I.kept fun b o eb=>k b o (by
   intro hb
   have:b=s.heap.objs.size:=by simpa using hb
   exact absurd (AN eb) (by rw[this];exact DE _)) (AE _ eb),rfl,q⟩
theorem Dm:∀{ss:List Str} {us:List Value},Vals (ss.map V.str) us->StrsAre us ss
 | [],_,.nil=>.nil
 | _::_,_,.cons ⟨t,e⟩ r=>by subst e;exact .cons _ _ (Dm r)
def leS(a b:Str):Prop:=¬b.cps.toList<a.cps.toList
theorem Fo:J0 X (.builtin "sorted") (fun xs H Q=>∃(p:Addr) (ss:List Str),xs = [.ref p]/\SqL X.K H p (ss.map V.str)/\∀(l:Addr) (ss':List Str),H l=none->ss'.Perm ss->ss'.Pairwise leS->Q (.ref l) (upd H l (.lst (ss'.map V.str)))):=by
 intro pins s σ H xs us Q I r h
 obtain⟨p,ss,rfl,hq,q⟩:=h
 obtain⟨u,rfl,ru⟩:=V2 r
 cases ru
 obtain⟨its,rv,pl,hz⟩:=I.list hq
 have hS:=Dm rv
 have hl:=rv.length
 refine TS.sorted_gen (collect_list (vs:=its) pl.isList ?_ (by omega))
 refine⟨rfl,by omega,strKind,oneType',fun s2 _=>TS.keys_strs hS,fun out h' e ho k hg=>?_⟩
 have hsz:((s.heap.push (seqObj "list" #[] 0)).update s.heap.objs.size (Obj.mapSeq (· ++ its.toArray))).objs.size=s.heap.objs.size+1:=by rw[EZ,size_push']
 obtain⟨hp,hs⟩:=ho
 have hm:∀v∈out.toList,∃x t,v = .str x t:=fun v hv=>hS.all v (hp.mem_iff.mp hv)
 have hv:Vals ((out.toList.map strOf).map V.str) out.toList:=by
  have:∀us:List Value,(∀v∈us,∃x t,v = .str x t)->Vals ((us.map strOf).map V.str) us:=by
   intro us
   induction us with
   | nil=>exact fun _=>.nil
   | cons v r ih =>
    intro h
    obtain⟨x,t,rfl⟩:=h v (AU ..)
    exact .cons ⟨t,rfl⟩ (ih fun u hu=>h u (AM _ hu))
  exact this _ hm
 have hperm:(out.toList.map strOf).Perm ss:=by
  have:=hp.map strOf
  rwa [hS.strs]at this
 have hpw:(out.toList.map strOf).Pairwise leS:=by
  rw[CB]
  refine(FF.mp hs).imp fun{u v} ⟨hu,hv',q⟩=>?_
  obtain⟨x,t,rfl⟩:=hm u hu
  obtain⟨y,t',rfl⟩:=hm v hv'
  have q':decide (y.cps.toList<x.cps.toList)=false:=q
  exact of_decide_eq_false q'
 have hk0:∀b o,s.heap.get? b=some o->h'.get? b=some o:=fun b o eb=>k b o (by
  rw[Heap.get?_update_ne _ _ _ _ (BF (AN eb))]
  exact AE _ eb)
 have hn:H (s.heap.objs.size+1)=none:=I.hok.fresh (DL _)
 have hg':h'.get? (s.heap.objs.size+1)=some (seqObj "list" out e):=by rw[<-hsz];exact hg
 refine⟨.ref (s.heap.objs.size+1),upd H (s.heap.objs.size+1) (.lst ((out.toList.map strOf).map V.str)),?_,by show Value.ref _=_;rw[<-hsz],q _ _ hn hperm hpw⟩
 refine I.laid (t':=s.toks) hk0 (DL _) ⟨?_,out.toList,e,hv,by simpa using hg'⟩
 rw[AB,AB,hp.length_eq]
 omega
end
theorem w6{α β:Type}(f:α->β){l m:List β}(h:l.Perm m):∀ps:List α,m=ps.map f->∃ps':List α,ps'.Perm ps/\l=ps'.map f:=by
 induction h with
 | nil=>intro ps e;exact⟨ps,.refl _,e⟩
 | cons x _ ih =>
  intro ps e
  cases ps with
  | nil=>cases e
  | cons p ps =>
   rw[BG]at e
   obtain⟨rfl,e2⟩:=HJ e
   obtain⟨ps',h1,h2⟩:=ih ps e2
   exact⟨p::ps',.cons _ h1,by rw[BG,h2]⟩
 | swap x y l =>
  intro ps e
  match ps,e with
  | p::q::ps,e =>
   rw[BG,BG]at e
   obtain⟨rfl,e2⟩:=HJ e
   obtain⟨rfl,e3⟩:=HJ e2
   exact⟨q::p::ps,.swap _ _ _,by rw[BG,BG,e3]⟩
 | trans _ _ ih1 ih2 =>
  intro ps e
  obtain⟨ps1,h1,h2⟩:=ih2 ps e
  obtain⟨ps2,h3,h4⟩:=ih1 ps1 h2
  exact⟨ps2,h3.trans h1,h4⟩
abbrev PA2:=Addr×Str×Str
def zDn(q:PA2):List Nat×List Nat:=(q.2.1.cps.toList,q.2.2.cps.toList)
def leP(q r:PA2):Prop:=TS.pairLt (zDn r) (zDn q)=false
def E7(H:Hp)(q:PA2):Prop:=H q.1=some (.tup [.str q.2.1,.str q.2.2])
theorem Fz:∀{ps:List PA2} {us:List Value},Vals (ps.map fun q=>V.ref q.1) us->us=ps.map fun q=>Value.ref q.1
 | [],_,.nil=>rfl
 | _::_,_,.cons r t=>by rw[BG,Fz t];cases r;rfl
theorem Gx:∀(ps:List PA2),Vals (ps.map fun q=>V.ref q.1) (ps.map fun q=>Value.ref q.1)
 | []=>.nil
 | _::ps=>.cons rfl (Gx ps)
section
variable{X:Cx}
theorem Inv.pairAt{pins:List (Addr×Obj)}{σ:St}{H:Hp}{s:Shared}{q:PA2}(I:Inv X pins σ H s)(h:E7 H q):TS.PairAt s.heap (.ref q.1) q.2.1 q.2.2:=by
 obtain⟨its,rv,⟨o,e,c,n,d⟩,_⟩:=I.tuple (SqT.of h)
 obtain⟨u1,u2,rfl,⟨t,rfl⟩,⟨t',rfl⟩⟩:=rv.two
 exact⟨q.1,o,n,t,t',rfl,e,c,d⟩
theorem Hu:J0 X (.builtin "sorted") (fun xs H Q=>∃(p:Addr) (ps:List PA2),xs = [.ref p]/\SqL X.K H p (ps.map fun q=>V.ref q.1)/\(∀q∈ps,E7 H q) /\
  ∀(l:Addr) (ps':List PA2),H l=none->ps'.Perm ps->ps'.Pairwise leP->Q (.ref l) (upd H l (.lst (ps'.map fun q=>V.ref q.1)))):=by
 intro pins s σ H xs us Q I r h
 obtain⟨p,ps,rfl,hq,hpi,q⟩:=h
 obtain⟨u,rfl,ru⟩:=V2 r
 cases ru
 obtain⟨its,rv,pl,hz⟩:=I.list hq
 have ei:=Fz rv
 have hl:=rv.length
 refine TS.sorted_gen (collect_list (vs:=its) pl.isList ?_ (by omega))
 have hsz:((s.heap.push (seqObj "list" #[] 0)).update s.heap.objs.size (Obj.mapSeq (· ++ its.toArray))).objs.size=s.heap.objs.size+1:=by rw[EZ,size_push']
 have hk1:∀b o,s.heap.get? b=some o->((s.heap.push (seqObj "list" #[] 0)).update s.heap.objs.size (Obj.mapSeq (· ++ its.toArray))).get? b=some o:=fun b o eb=>by
  rw[Heap.get?_update_ne _ _ _ _ (BF (AN eb))]
  exact AE _ eb
 have hpa:∀q∈ps,TS.PairAt s.heap (.ref q.1) q.2.1 q.2.2:=fun q hq=>I.pairAt (hpi q hq)
 refine⟨rfl,by omega,TS.pairKind s.heap,tuples' true,fun s2 hE=>TS.keys_pairs (fun v hv=>?_) (fun b o eb=>?_),fun out h' e ho k hg=>?_⟩
 ·rw[ei]at hv
  obtain⟨q,hq,rfl⟩:=AK.mp hv
  exact⟨_,_,hpa q hq⟩
 ·have hne:b≠((s.heap.push (seqObj "list" #[] 0)).update s.heap.objs.size (Obj.mapSeq (· ++ its.toArray))).objs.size:=by
   rw[hsz]
   exact BF (CQ (AN eb))
  exact⟨hne,hE b o hne (hk1 b o eb)⟩
 ·obtain⟨hp,hs⟩:=ho
  rw[ei]at hp
  obtain⟨ps',h1,h2⟩:=w6 (fun q:PA2=>Value.ref q.1) hp ps rfl
  have hpw:ps'.Pairwise leP:=by
   rw[h2,CB]at hs
   refine(FF.mp hs).imp fun{a b} ⟨ha,hb,z⟩=>?_
   have ka:=(hpa a (h1.mem_iff.mp ha)).key
   have kb:=(hpa b (h1.mem_iff.mp hb)).key
   have z':TS.pairLt ((TS.pairOf s.heap (.ref b.1)).getD ([],[])) ((TS.pairOf s.heap (.ref a.1)).getD ([],[]))=false:=z
   rw[ka,kb]at z'
   exact z'
  have hn:H (s.heap.objs.size+1)=none:=I.hok.fresh (DL _)
  have hg':h'.get? (s.heap.objs.size+1)=some (seqObj "list" out e):=by rw[<-hsz];exact hg
  refine⟨.ref (s.heap.objs.size+1),upd H (s.heap.objs.size+1) (.lst (ps'.map fun q=>V.ref q.1)),?_,by show Value.ref _=_;rw[<-hsz],q _ _ hn h1 hpw⟩
  refine I.laid (t':=s.toks) (fun b o eb=>k b o (hk1 b o eb)) (DL _) ⟨?_,out.toList,e,by rw[h2];exact Gx ps',by simpa using hg'⟩
  rw[AB,h1.length_eq]
  rw[AB]at hz
  exact hz
end
theorem Inv.turnLaid{X:Cx}{pins:List (Addr×Obj)}{σ:St}{H:Hp}{s:Shared}{h':Heap}{t':Nat}{fp:List Addr}{T:Addr}{o:HO}(I:Inv X pins σ H s)(k:∀b ob,b∉fp->s.heap.get? b=some ob->h'.get? b=some ob)
  (hf:∀b∈fp,Gs X pins H b) (hfo:∀b∈fp,∃ob,s.heap.get? b=some ob) (hT:s.heap.objs.size<=T) (new:ObjOk X.prog X.w (upd H T o) h' T o):Inv X pins σ (upd H T o) { s with heap:=h',toks:=t' }:=by
 have hn:=I.hok.fresh hT
 have nT:∀b ob,s.heap.get? b=some ob->b≠T:=fun b ob e=>BF (BM (AN e) hT)
 have nf:∀b u,H b=some u->b∉fp:=fun b u e hb=>by rw[(hf b hb).1]at e;cases e
 refine I.step (g':=s.gens) (d':=s.drawn) (ch:=fp) (fun b hb=>let⟨_,f1,_,f3,f4,f5⟩:=hf b hb;⟨f3,f1,f4,f5⟩) (fun b ob _ _ hc e _=>k b ob hc e) (fun b ob _ _ hc e _=>⟨ob.slots,k b ob hc e⟩) (fun b ob _ e n=>by rw[B7 (nT b ob e)];exact n)
  (fun b ob hc e=>⟨ob,k b ob hc e⟩) (fun b xs e=>by rw[B7 (B0 e hn)];exact e) (fun b u xs e=>by rw[B7 (B0 e hn)];exact e) (fun b ps e=>⟨#[],by rw[B7 (B0 e hn),e];simp⟩) (fun m hm=>?_) (fun b u e=>?_) I.bare
 ·obtain⟨ob,es,ep,ho,r⟩:=hm
  exact⟨ob,es,ep,k _ ob (fun hb=>(hf _ hb).2.1 rfl) ho,r⟩
 ·by_cases hb:b=T
  ·subst hb;rw[A9]at e;cases e;exact new
  ·rw[B7 hb]at e
   refine(I.hok b u e).stay (fun c v hc q=>k c v ?_ q) (fun c q=>by rw[B7 (B0 q hn)];exact q) fun c xs q=>by rw[B7 (B0 q hn)];exact q
   rcases hc with z | z
   ·rw[z];exact nf b u e
   ·exact nf c _ z
def Ite(K:PySem.W.Frag)(a:Addr):It :=
 ⟨fun i H=>∃xs x,SqL K H a xs/\xs[i]?=some x,fun i H v H'=>∃T x,v = .ref T/\H T=none/\H'=upd H T (.tup [.int i,x])/\∀xs,SqL K H a xs->xs[i]?=some x,fun i H=>∃xs,SqL K H a xs/\xs.length=i⟩
theorem Pw{P:Program}{w:World}{K:PySem.W.Frag}{elts:List Expr}{kk:Nat}{tp:Pos}(a it e:Addr)(hei:e≠it):Turn P w K (.Tuple elts kk tp) (Ite K a) [e,it] e (fun i h=>(∃old,IsEnum h e it i old)/\h.IsListIter it a i) where
 mem:=by simp
 obj:=fun i h st b hb=>by
  obtain⟨⟨old,h1⟩,o,h2,c,d⟩:=st
  rcases BD.mp hb with rfl | hb
  ·exact⟨_,h1,fun v z=>by cases z⟩
  ·rw[AD.mp hb]
   exact⟨o,h2,fun v z=>by rw[d]at z;cases z⟩
 keep:=fun i h h' st k=>⟨let⟨old,h1⟩:=st.1;⟨old,k e (by simp) _ h1⟩,st.2.at fun o x=>k it (by simp) o x⟩
 item:=by
  intro X hP hw hK hc i pins s σ H E I hf st hg
  subst hP hw hK
  obtain⟨xs,x,hq,hx⟩:=hg
  obtain⟨its,rv,p,hz⟩:=I.list hq
  obtain⟨u,hu,ru⟩:=rv.get hx
  obtain⟨f0,f1,f2,f3,f4,f5⟩:=hf e (by simp)
  obtain⟨g0,g1,g2,g3,g4,g5⟩:=hf it (by simp)
  have hae:a≠e:=fun z=>by
   obtain⟨old,h1⟩:=st.1
   obtain⟨o,n,e1,c,_⟩:=p
   rw[z,h1]at e1
   cases e1
   exact absurd c (by show ¬Value.type "enumerate" = Value.type "list";decide)
  have hai:a≠it:=fun z=>by
   obtain⟨o2,h2,c2,d2⟩:=st.2
   obtain⟨o,n,e1,c,_⟩:=p
   rw[z,h2]at e1
   cases e1
   rw[c2]at c
   exact absurd c (by decide)
  have hi:i<its.toArray.size:=by
   rw[AZ]
   exact(AG.mp hu).1
  have W:=WalksT.enumerate (prog:=X.prog) (w:=X.w) (A:=X.A) (I.ok.hd hc) e it a hei hae hai its.toArray
  refine W.item i s _ _ hi ⟨st.1,st.2,p.isList⟩ fun T vals h' tk hv hT ht hm k=>?_
  obtain⟨t,x',hx',rfl⟩:=hv
  have:x'=u:=by
   have:its.toArray[i]?=some u:=by simpa using hu
   rw[this]at hx'
   exact(BH hx').symm
  subst this
  refine⟨.ref T,rfl,W.go elts kk tp i T _ _ _ hm fun h2 st2 k2=>?_⟩
  have hTn:H T=none:=I.hok.fresh hT
  have hTe:T≠e:=fun z=>W.apart i T h' hm (by simp[z])
  have hTi:T≠it:=fun z=>W.apart i T h' hm (by simp[z])
  have kk2:∀b o,b≠e->b≠it->s.heap.get? b=some o->h2.get? b=some o:=fun b o b1 b2 eb=>k2 b o (by simp[b1,b2]) (k b o (by simp[b1,b2]) eb)
  have hT2:h2.IsTuple T #[.int i t,x']:=by
   obtain⟨o,e1,r⟩:=ht
   exact⟨o,k2 T o (by simp[hTe,hTi]) e1,r⟩
  refine⟨.ref T,upd H T (.tup [.int i,x]),I.turnLaid (fp:=[e,it]) (fun b o hb eb=>kk2 b o (fun z=>hb (by simp[z])) (fun z=>hb (by simp[z])) eb) hf (fun b hb=>?_) hT ⟨?_,[.int i t,x'],.cons ⟨t,rfl⟩ (.cons ru .nil),hT2⟩,rfl,⟨T,x,rfl,hTn,rfl,fun ys hy=>by rw[I.list_inj hy hq];exact hx⟩,⟨st2.1,st2.2.1⟩,fun b hb=>?_⟩
  ·rcases BD.mp hb with rfl | hb
   ·obtain⟨old,h1⟩:=st.1
    exact⟨_,h1⟩
   ·rw[AD.mp hb]
    obtain⟨o,h1,_⟩:=st.2
    exact⟨o,h1⟩
  ·show 2<=sizeLine
   decide
  ·rcases BD.mp hb with rfl | hb
   ·rw[B7 (Ne.symm hTe)];exact f0
   ·rw[AD.mp hb,B7 (Ne.symm hTi)];exact g0
 done:=by
  intro X hP hw hK hc i pins s σ H E I hf st hg
  subst hP hw hK
  obtain⟨xs,hq,hx⟩:=hg
  obtain⟨its,rv,p,hz⟩:=I.list hq
  obtain⟨f0,f1,f2,f3,f4,f5⟩:=hf e (by simp)
  obtain⟨g0,g1,g2,g3,g4,g5⟩:=hf it (by simp)
  have hae:a≠e:=fun z=>by
   obtain⟨old,h1⟩:=st.1
   obtain⟨o,n,e1,c,_⟩:=p
   rw[z,h1]at e1
   cases e1
   exact absurd c (by show ¬Value.type "enumerate" = Value.type "list";decide)
  have hai:a≠it:=fun z=>by
   obtain⟨o2,h2,c2,d2⟩:=st.2
   obtain⟨o,n,e1,c,_⟩:=p
   rw[z,h2]at e1
   cases e1
   rw[c2]at c
   exact absurd c (by decide)
  have W:=WalksT.enumerate (prog:=X.prog) (w:=X.w) (A:=X.A) (I.ok.hd hc) e it a hei hae hai its.toArray
  have hl:=rv.length
  have hi:i=its.toArray.size:=by rw[AZ];omega
  rw[hi]at st
  refine W.done s _ _ ⟨st.1,st.2,p.isList⟩ fun h' tk k=>⟨rfl,?_⟩
  have I1:=I.step (h':=h') (H':=H) (t':=tk) (g':=s.gens) (d':=s.drawn) (ch:=[e,it]) (fun b hb=>let⟨_,f1,_,f3,f4,f5⟩:=hf b hb;⟨f3,f1,f4,f5⟩) (fun b ob _ _ hc e _=>k b ob hc e) (fun b ob _ _ hc e _=>⟨ob.slots,k b ob hc e⟩) (fun _ _ _ _ n=>n)
   (fun b ob hc e=>⟨ob,k b ob hc e⟩) (fun _ _ e=>e) (fun _ _ _ e=>e) (fun b ps e=>⟨#[],by rw[e];simp⟩) (fun m hm=>?_) (fun b u eb=>?_) I.bare
  ·exact I1
  ·obtain⟨ob,es,ep,ho,r⟩:=hm
   exact⟨ob,es,ep,k _ ob (fun hb=>(hf _ hb).2.1 rfl) ho,r⟩
  ·have nf:∀b u,H b=some u->b∉[e,it]:=fun b u e hb=>by rw[(hf b hb).1]at e;cases e
   refine(I.hok b u eb).stay (fun c v hc q=>k c v ?_ q) (fun _ q=>q) fun _ _ q=>q
   rcases hc with z | z
   ·rw[z];exact nf b u eb
   ·exact nf c _ z
 self:=fun A i s Q E st h=>by
  obtain⟨old,he⟩:=st.1
  exact wpAny_pyIter_enum he h
section
variable{X:Cx}{elts:List Expr}{kk:Nat}{tp:Pos}
def Zh(K:PySem.W.Frag)(ta:TA):TI:=fun σ H R=>ta σ H fun vs H1=>∃a xs,vs = [.ref a]/\SqL K H1 a xs/\R (Ite K a) H1
theorem Wh{a:Expr}{ta:TA}{p pos:Pos}(hg:Gl X "enumerate")(hm:X.mg "enumerate" = none)(hv:bootBuiltins "enumerate" = some (.type "enumerate"))(ha:PA X [a] ta)(hs:starEach [a] X.env = [(false,eval a X.env)]:=by rfl):PI X (.Tuple elts kk tp) (.Call (.Name "enumerate" p) [a] [] pos) (Zh X.K ta):=by
 intro pins s σ H R I h
 refine Call_ (Di I hg hm hv (PyProof.Rows.callWith_type1 (thn (ha pos pins s σ H _ I h) fun us s1 ⟨vs,H1,I1,r1,q1⟩=>?_) hs rfl))
 obtain⟨l,xs,e,hq,q⟩:=q1
 subst e
 obtain⟨u,rfl,ru⟩:=V2 r1
 cases ru
 obtain⟨its,rv,pl,hz⟩:=I1.list hq
 refine call_enumerate_list pl.isList fun h' he hit hsz k=>wpAny_pyIter_enum he ?_
 have I2:Inv X pins σ H1 { s1 with heap:=h' }:=I1.kept (t':=s1.toks) k
 refine⟨s1.heap.objs.size+1,[s1.heap.objs.size+1,s1.heap.objs.size],_,_,H1,rfl,I2,Pw l s1.heap.objs.size (s1.heap.objs.size+1) (Nat.succ_ne_self _),⟨⟨_,he⟩,hit⟩,fun b hb=>?_,q⟩
 rcases BD.mp hb with z | hb
 ·rw[z]
  exact I1.fpOk (DL _) (I1.hok.fresh (DL _))
 ·rw[AD.mp hb]
  exact I1.fpOk (Nat.le_refl _) (I1.hok.fresh (Nat.le_refl _))
end
end L2
namespace ST
open PySem
def stp(mask i:Nat):Nat:=(5*i+1) %(mask+1)
def itr(mask:Nat):Nat->Nat->Nat
 | 0,i=>i
 | t+1,i=>itr mask t (stp mask i)
def orb(mask:Nat):Nat->Nat->List Nat
 | 0,_=>[]
 | n+1,i=>i::orb mask n (stp mask i)
theorem Jk(mask a b i:Nat):itr mask (a+b) i=itr mask b (itr mask a i):=by
 induction a generalizing i with
 | zero=>rw[D_];rfl
 | succ a ih=>rw[Nat.succ_add];exact ih (stp mask i)
theorem Ph{mask j:Nat}:∀{n i:Nat},j∈orb mask n i->∃t,t<n/\itr mask t i=j
 | 0,_,h=>by simp[orb]at h
 | n+1,i,h=>by
  rcases BD.mp h with rfl | h
  ·exact⟨0,by omega,rfl⟩
  ·obtain⟨t,h1,h2⟩:=Ph h
   exact⟨t+1,by omega,h2⟩
def Msk(mask:Nat):Prop:=mask=7\/mask=31\/mask=127\/mask=511
def full(mask:Nat):Bool:=(List.range (mask+1)).all (fun j=>(orb mask (mask+1) 0).contains j)&&itr mask (mask+1) 0 == 0
theorem zDl:full 7=true:=by decide +kernel
theorem Yx:full 31=true:=by decide +kernel
theorem Xl:full 127=true:=by decide +kernel
theorem Xx:full 511=true:=by decide +kernel
theorem Msk.full{mask:Nat}(h:Msk mask):full mask=true:=by
 rcases h with rfl | rfl | rfl | rfl
 ·exact zDl
 ·exact Yx
 ·exact Xl
 ·exact Xx
theorem cyc{mask:Nat}(h:Msk mask){i j:Nat}(hi:i<=mask)(hj:j<=mask):∃t,t<=mask/\itr mask t i=j:=by
 have f:=h.full
 unfold ST.full at f
 rw[BP,CJ]at f
 obtain⟨f1,f2⟩:=f
 have f2:itr mask (mask+1) 0=0:=by simpa using f2
 have at_:∀k,k<=mask->∃t,t<mask+1/\itr mask t 0=k:=fun k hk=>Ph (by simpa using f1 k (B_.mpr (by omega)))
 obtain⟨a,ha,ea⟩:=at_ i hi
 obtain⟨b,hb,eb⟩:=at_ j hj
 by_cases hab:a<=b
 ·refine⟨b-a,by omega,?_⟩
  rw[<-ea,<-Jk,show a +(b-a)=b by omega,eb]
 ·refine⟨mask+1-a+b,by omega,?_⟩
  rw[<-ea,<-Jk,show a +(mask+1-a+b) =(mask+1)+b by omega,Jk,f2,eb]
def lps(mask:Nat):Nat->Nat×Nat->Nat×Nat
 | 0,x=>x
 | t+1,x=>lps mask t (SetTable.leap mask x.1 x.2)
theorem Ww(mask a b:Nat)(x:Nat×Nat):lps mask (a+b) x=lps mask b (lps mask a x):=by
 induction a generalizing x with
 | zero=>rw[D_];rfl
 | succ a ih=>rw[Nat.succ_add];exact ih _
theorem Me(mask:Nat):∀(t:Nat) (x:Nat×Nat),(lps mask t x).2=x.2 / 32^t
 | 0,x=>by simp[lps]
 | t+1,x=>by
  show(lps mask t (SetTable.leap mask x.1 x.2)).2=_
  rw[Me mask t]
  show x.2 / 32 / 32^t=_
  rw[Nat.div_div_eq_div_mul,Nat.pow_succ,Nat.mul_comm]
theorem Vf(mask:Nat):∀(t:Nat) (x:Nat×Nat),x.1<=mask->(lps mask t x).1<=mask
 | 0,_,h=>h
 | t+1,x,_=>Vf mask t _ (Nat.lt_succ_iff.mp (Nat.mod_lt _ (Nat.succ_pos _)))
theorem Mp(mask:Nat):∀(t i:Nat),lps mask t (i,0) =(itr mask t i,0)
 | 0,_=>rfl
 | t+1,i=>by
  show lps mask t ((i*5+1+0 / 32) %(mask+1),0 / 32)=_
  rw[Nat.zero_div,Nat.add_zero,Mp mask t,Nat.mul_comm]
  rfl
theorem Qh{mask:Nat}(h:Msk mask){i j p:Nat}(hi:i<=mask)(hj:j<=mask)(hp:p<2^64):∃t,t<=mask+13/\(lps mask t (i,p)).1=j:=by
 have e2:(lps mask 13 (i,p)).2=0:=by
  rw[Me]
  exact Nat.div_eq_of_lt (BM hp (by decide))
 obtain⟨t,ht,et⟩:=cyc h (Vf mask 13 (i,p) hi) hj
 refine⟨13+t,by omega,?_⟩
 rw[Ww]
 have:lps mask 13 (i,p) =((lps mask 13 (i,p)).1,0):=Prod.ext rfl e2
 rw[this,Mp]
 exact et
def adv(t:SetTable):Nat->SetTable.Probe->SetTable.Probe
 | 0,p=>p
 | n+1,p=>adv t n (t.advance p)
theorem Ro(t:SetTable)(a b:Nat)(p:SetTable.Probe):adv t (a+b) p=adv t b (adv t a p):=by
 induction a generalizing p with
 | zero=>rw[D_];rfl
 | succ a ih=>rw[Nat.succ_add];exact ih _
theorem Oc(t:SetTable):∀(m:Nat) (p:SetTable.Probe),p.more=m->∃p',adv t (m+1) p=p'/\p'.i =(SetTable.leap t.mask p.i p.perturb).1/\p'.perturb =(SetTable.leap t.mask p.i p.perturb).2/\p'.j=p'.i/\p'.more=SetTable.runEnd t.mask p'.i-p'.i/\p'.dummy=p.dummy
 | 0,p,h=>by
  have ea:t.advance p ={ p with j:=(SetTable.leap t.mask p.i p.perturb).1,more:=SetTable.runEnd t.mask (SetTable.leap t.mask p.i p.perturb).1-(SetTable.leap t.mask p.i p.perturb).1,i:=(SetTable.leap t.mask p.i p.perturb).1,perturb:=(SetTable.leap t.mask p.i p.perturb).2 }:=by
   unfold SetTable.advance
   rw[AJ (by omega)]
  refine⟨t.advance p,rfl,?_⟩
  rw[ea]
  exact⟨rfl,rfl,rfl,rfl,rfl⟩
 | m+1,p,h=>by
  have ea:t.advance p ={ p with j:=p.j+1,more:=p.more-1 }:=by unfold SetTable.advance;rw[AQ (by omega)]
  obtain⟨p',h1,h2⟩:=Oc t m (t.advance p) (by rw[ea];show p.more-1=m;omega)
  rw[ea]at h2
  exact⟨p',h1,h2⟩
theorem Yv(mask i:Nat):SetTable.runEnd mask i-i<=9:=by unfold SetTable.runEnd;split<;>omega
theorem Rr(t:SetTable):∀(n:Nat) (p:SetTable.Probe),p.j=p.i->p.more=SetTable.runEnd t.mask p.i-p.i->∃k,k<=10*n/\(adv t k p).j =(lps t.mask n (p.i,p.perturb)).1
 | 0,p,h1,_=>⟨0,by omega,h1⟩
 | n+1,p,h1,h2=>by
  obtain⟨p',e,a1,a2,a3,a4,_⟩:=Oc t p.more p rfl
  obtain⟨k,hk,ek⟩:=Rr t n p' a3 a4
  have:=Yv t.mask p.i
  refine⟨p.more+1+k,by omega,?_⟩
  rw[Ro,e,ek,a1,a2]
  rfl
theorem Ib(t:SetTable):∀(n:Nat) (p:SetTable.Probe),(adv t n p).dummy=p.dummy
 | 0,_=>rfl
 | n+1,p=>by
  show(adv t n (t.advance p)).dummy=_
  rw[Ib t n]
  unfold SetTable.advance
  split<;>rfl
theorem Rt{t:SetTable}(hm:Msk t.mask)(h:Int){j:Nat}(hj:j<=t.mask):∃n,n<10*SetTable.turns t.mask/\(adv t n (t.probeStart h)).j=j:=by
 have hb:SetTable.bits h<2^64:=by
  unfold SetTable.bits
  have h1:0<=h %(2^64:Int):=FX _ (by decide)
  have h2:h %(2^64:Int)<2^64:=FD _ (by decide)
  omega
 have hi:SetTable.bits h %(t.mask+1)<=t.mask:=Nat.lt_succ_iff.mp (Nat.mod_lt _ (Nat.succ_pos _))
 obtain⟨n,hn,en⟩:=Qh hm hi hj hb
 obtain⟨k,hk,ek⟩:=Rr t n (t.probeStart h) rfl rfl
 refine⟨k,by unfold SetTable.turns;omega,ek.trans en⟩
theorem l4{t:SetTable}(hd:t.dummies = #[])(j:Nat):t.slot j = .empty\/∃i,t.slot j = .live i/\t.place[i]?=some j:=by
 unfold SetTable.slot
 dsimp only
 by_cases h:(t.place[SetTable.below t.place j]? == some j)=true
 ·rw[AQ h]
  exact .inr ⟨_,rfl,by simpa using h⟩
 ·rw[AJ h]
  have:SetTable.has t.dummies j=false:=by
   rw[hd]
   unfold SetTable.has
   simp
  rw[this]
  exact .inl rfl
theorem Nx{t:SetTable}(hd:t.dummies = #[])(hs:t.place.size<=t.mask):∃j,j<=t.mask/\t.slot j = .empty:=by
 by_cases h:∃j,j<=t.mask/\t.slot j = .empty
 ·exact h
 ·exfalso
  have all:∀j∈List.range (t.mask+1),j∈t.place.toList:=fun j hj=>by
   have hj':j<=t.mask:=by have:=B_.mp hj;omega
   rcases l4 hd j with e | ⟨i,_,e⟩
   ·exact absurd ⟨j,hj',e⟩ h
   ·exact BJ (by rw[BO];exact e)
  have:=(GI (n:=t.mask+1)).length_le_of_subset all
  rw[BX,AO]at this
  omega
theorem Vu{t:SetTable}(hd:t.dummies = #[])(hashAt:Nat->Int)(h:Int)(p:SetTable.Probe)(hpd:p.dummy=none):∀(k m n fuel:Nat),m+k=n->t.slot (adv t n p).j = .empty->k<fuel ->
  (∃j,SetTable.probe.go t hashAt h fuel (adv t m p)=some (.empty j none)/\t.slot j = .empty) \/
   ∃l i,m<=l/\l<n/\t.slot (adv t l p).j = .live i/\hashAt i=h/\SetTable.probe.go t hashAt h fuel (adv t m p)=some (.candidate (adv t l p).j i (adv t (l+1) p))
 | k,m,n,0,_,_,hf=>absurd hf (Nat.not_lt_zero _)
 | k,m,n,fuel+1,e,he,hf=>by
  have hdm:(adv t m p).dummy=none:=(Ib t m p).trans hpd
  have nx:adv t (m+1) p=t.advance (adv t m p):=Ro t m 1 p
  rcases l4 hd (adv t m p).j with es | ⟨i,es,ep⟩
  ·refine .inl ⟨(adv t m p).j,?_,es⟩
   unfold SetTable.probe.go
   rw[es,hdm]
  ·have hk:k≠0:=by
    rintro rfl
    have:m=n:=by omega
    subst this
    rw[he]at es;cases es
   by_cases hh:hashAt i=h
   ·refine .inr ⟨m,i,Nat.le_refl _,by omega,es,hh,?_⟩
    unfold SetTable.probe.go
    rw[es]
    dsimp only
    rw[AQ (by simpa using hh),nx]
   ·have eg:SetTable.probe.go t hashAt h (fuel+1) (adv t m p)=SetTable.probe.go t hashAt h fuel (adv t (m+1) p):=by
     conv=>lhs;unfold SetTable.probe.go
     rw[es]
     dsimp only
     rw[AJ (by simpa using hh),nx]
    rcases Vu hd hashAt h p hpd (k-1) (m+1) n fuel (by omega) he (by omega)with⟨j,h1,h2⟩ | ⟨l,i',h1,h2,h3,h4,h5⟩
    ·exact .inl ⟨j,eg.trans h1,h2⟩
    ·exact .inr ⟨l,i',by omega,h2,h3,h4,eg.trans h5⟩
theorem Ef{α β:Type}{f g:α->Option β}:∀{l:List α},(∀x∈l,f x=g x)->l.filterMap f=l.filterMap g
 | [],_=>rfl
 | a::r,h=>by
  have h1:=h a (AU ..)
  have h2:=Ef (l:=r) fun x hx=>h x (AM _ hx)
  rw[EV,EV,h1,h2]
theorem Wf{α:Type}{f g:Nat->Option α}{j:Nat}{k:α}(hg:g j=some k)(hf:f j=none):∀{l:List Nat},l.Nodup->j∈l->(∀i,i≠j->g i=f i)->(l.filterMap g).Perm (k::l.filterMap f)
 | [],_,h,_=>by simp at h
 | i::r,nd,h,he=>by
  obtain⟨n1,n2⟩:=DB.mp nd
  by_cases e:i=j
  ·subst e
   have er:r.filterMap g=r.filterMap f:=Ef fun x hx=>he x fun z=>n1 (z▸hx)
   rw[EO hg,GQ hf,er]
  ·have hr:=Wf hg hf n2 ((BD.mp h).resolve_left fun z=>e z.symm) he
   cases ef:f i with
   | none=>rw[GQ ((he i e).trans ef),GQ ef];exact hr
   | some b =>
    rw[EO ((he i e).trans ef),EO ef]
    exact(List.Perm.cons b hr).trans (List.Perm.swap _ _ _)
def ocs(mask:Nat)(ow:Array (Option Nat)):List Nat:=(List.range (mask+1)).filterMap fun j=>ow.getD j none
structure LI(mask:Nat)(ow:Array (Option Nat))(k:Nat):Prop where
 sz:ow.size=mask+1
 pm:(ocs mask ow).Perm (List.range k)
theorem Qe{mask:Nat}{ow:Array (Option Nat)}{j:Nat}(hj:ow[j]?=some none):∀(t fuel i p:Nat),(lps mask t (i,p)).1=j->t<fuel->∃j',SetTable.layClean.free mask ow fuel i p=some j'/\ow[j']?=some none
 | t,0,_,_,_,h=>absurd h (Nat.not_lt_zero _)
 | t,fuel+1,i,p,e,h=>by
  unfold SetTable.layClean.free
  cases q:(List.range (SetTable.runEnd mask i+1-i)).find? fun k=>(ow.getD (i+k) (some 0)).isNone with
  | some k =>
   refine⟨i+k,rfl,?_⟩
   have:=List.find?_some q
   rw[CL]at this
   cases g:ow[i+k]? with
   | none=>rw[g]at this;simp at this
   | some z=>rw[g]at this;simp at this;rw[this]
  | none =>
   dsimp only
   cases t with
   | zero =>
    exfalso
    have e':i=j:=e
    subst e'
    have hr:0∈List.range (SetTable.runEnd mask i+1-i):=B_.mpr (by unfold SetTable.runEnd;split<;>omega)
    have:=List.find?_eq_none.mp q 0 hr
    rw[CL,Nat.add_zero,hj]at this
    simp at this
   | succ t=>exact Qe hj t fuel _ _ e (by omega)
theorem LI.room{mask:Nat}{ow:Array (Option Nat)}{k:Nat}(h:LI mask ow k)(hk:k<=mask):∃j,j<=mask/\ow[j]?=some none:=by
 by_cases q:∃j,j<=mask/\ow[j]?=some none
 ·exact q
 ·exfalso
  have all:∀j∈List.range (mask+1),∃v,ow.getD j none=some v:=fun j hj=>by
   have hj':j<ow.size:=by rw[h.sz];exact B_.mp hj
   cases e:ow[j]? with
   | none=>rw[Array.getElem?_eq_none_iff]at e;omega
   | some v =>
    cases v with
    | none=>exact absurd ⟨j,by have:=B_.mp hj;omega,e⟩ q
    | some v=>exact⟨v,by rw[CL,e];rfl⟩
  have hl:∀l:List Nat,(∀j∈l,∃v,ow.getD j none=some v)->(l.filterMap fun j=>ow.getD j none).length=l.length:=by
   intro l
   induction l with
   | nil=>intro _;rfl
   | cons j r ih =>
    intro ha
    obtain⟨v,hv⟩:=ha j (AU ..)
    rw[EO (f:=fun j=>ow.getD j none) hv,BN,BN,ih fun x hx=>ha x (AM _ hx)]
  have:=h.pm.length_eq
  unfold ocs at this
  rw[hl _ all,BX,BX]at this
  omega
theorem LI.put{mask:Nat}{ow:Array (Option Nat)}{k j:Nat}(h:LI mask ow k)(hj:ow[j]?=some none):LI mask (ow.setIfInBounds j (some k)) (k+1):=by
 have hlt:j<ow.size:=by
  obtain⟨h1,_⟩:=DC.mp hj
  exact h1
 refine⟨by rw[GM];exact h.sz,?_⟩
 have p:=Wf (f:=fun j=>ow.getD j none) (g:=fun i=>(ow.setIfInBounds j (some k)).getD i none) (j:=j) (k:=k) (by rw[CL,Array.getElem?_setIfInBounds_self_of_lt hlt];rfl) (by rw[CL,hj];rfl)
  (l:=List.range (mask+1)) GI (B_.mpr (by rw[<-h.sz];exact hlt)) fun i hi=>by
   rw[CL,Array.getElem?_setIfInBounds_ne (Ne.symm hi),<-CL]
 have e:List.range (k+1)=List.range k ++ [k]:=EH
 refine p.trans ?_
 rw[e]
 exact(List.Perm.cons k h.pm).trans (CT (l₁:=[k]))
theorem Xn(h:Int):SetTable.bits h<2^64:=by
 unfold SetTable.bits
 have h1:0<=h %(2^64:Int):=FX _ (by decide)
 have h2:h %(2^64:Int)<2^64:=FD _ (by decide)
 omega
theorem Vl{mask:Nat}(hm:Msk mask):∀(hs:List Int) (ow:Array (Option Nat)) (k:Nat),LI mask ow k->k+hs.length<=mask->∃ow',(hs.foldl (init:=some (ow,k)) fun acc h=>do
   let(owner,k) <-acc
   let j <-SetTable.layClean.free mask owner (SetTable.turns mask) (SetTable.bits h %(mask+1)) (SetTable.bits h)
   pure (owner.setIfInBounds j (some k),k+1))=some (ow',k+hs.length)/\LI mask ow' (k+hs.length)
 | [],ow,k,h,_=>⟨ow,rfl,h⟩
 | x::r,ow,k,h,hk=>by
  rw[BN]at hk
  obtain⟨j,hj,ej⟩:=h.room (by omega)
  obtain⟨t,ht,et⟩:=Qh hm (i:=SetTable.bits x %(mask+1)) (j:=j) (Nat.lt_succ_iff.mp (Nat.mod_lt _ (Nat.succ_pos _))) hj (Xn x)
  obtain⟨j',h1,h2⟩:=Qe ej t (SetTable.turns mask) _ _ et (by unfold SetTable.turns;omega)
  obtain⟨ow',h3,h4⟩:=Vl hm r (ow.setIfInBounds j' (some k)) (k+1) (h.put h2) (by omega)
  refine⟨ow',?_,by rw[BN,show k +(r.length+1)=k+1+r.length by omega];exact h4⟩
  rw[List.foldl_cons]
  show List.foldl _ ((SetTable.layClean.free mask ow (SetTable.turns mask) (SetTable.bits x %(mask+1)) (SetTable.bits x)).bind fun j=>some (ow.setIfInBounds j (some k),k+1)) r=_
  rw[h1]
  show List.foldl _ (some (ow.setIfInBounds j' (some k),k+1)) r=_
  rw[BN,show k +(r.length+1)=k+1+r.length by omega]
  exact h3
theorem Xv{mask:Nat}(hm:Msk mask)(finger moves:Nat)(led plain:Bool)(hs:Array Int)(hn:hs.size<=mask) :
  ∃place order,SetTable.laid mask finger moves led plain hs=some ({ mask,place,dummies:=#[],finger,led,moves,plain },order)/\place.size=hs.size/\order.toList.Perm (List.range hs.size):=by
 have h0:LI mask (Array.replicate (mask+1) none) 0:=by
  refine⟨Array.size_replicate,?_⟩
  have:ocs mask (Array.replicate (mask+1) none) = []:=by
   unfold ocs
   rw[List.filterMap_eq_nil_iff]
   intro j hj
   rw[CL,Array.getElem?_replicate]
   split<;>rfl
  rw[this]
  exact EA _
 obtain⟨ow,h1,h2⟩:=Vl hm hs.toList _ 0 h0 (by rw[AO];omega)
 rw[D_,AO]at h1 h2
 have hc:SetTable.layClean mask hs=some ow:=by
  unfold SetTable.layClean
  rw[<-Array.foldl_toList,h1]
  rfl
 have e2:((List.range (mask+1)).filterMap fun j=>(ow.getD j none).map (j,·)).map (·.2)=ocs mask ow:=by
  unfold ocs
  rw[List.map_filterMap]
  refine Ef fun j _=>?_
  cases ow.getD j none<;>rfl
 refine⟨(((List.range (mask+1)).filterMap fun j=>(ow.getD j none).map (j,·)).map (·.1)).toArray,(((List.range (mask+1)).filterMap fun j=>(ow.getD j none).map (j,·)).map (·.2)).toArray,?_,?_,?_⟩
 ·unfold SetTable.laid
  rw[hc]
  rfl
 ·rw[AZ,AB,<-AB (f:=(·.2)),e2,h2.pm.length_eq,BX]
 ·show(((List.range (mask+1)).filterMap fun j=>(ow.getD j none).map (j,·)).map (·.2)).Perm _
  rw[e2]
  exact h2.pm
theorem Us{es:Array (Int×Value)}{order:Array Nat}(h:order.toList.Perm (List.range es.size)):(order.filterMap (es[·]?)).toList.Perm es.toList:=by
 rw[Array.toList_filterMap]
 refine(h.filterMap _).trans (List.Perm.of_eq ?_)
 refine FK fun t=>?_
 have:(List.range es.size).filterMap (fun x=>es[x]?)=es.toList:=by
  have:∀(l:List (Int×Value)),(List.range l.length).filterMap (fun x=>l[x]?)=l:=by
   intro l
   induction l with
   | nil=>rfl
   | cons a r ih =>
    rw[BN,List.range_succ_eq_map,EO (by rfl:(a::r)[0]?=some a),List.filterMap_map]
    congr 1
  have q:=this es.toList
  rw[AO]at q
  simpa using q
 rw[this]
section
variable{prog:Program}{w:World}{K:Type}[DecidableEq K]{knd:KeyKind prog w K}{A:Around}{E:Value->Shared->Prop}{s:Shared}
structure Tab(t:SetTable)(n:Nat):Prop where
 dm:t.dummies = #[]
 pl:t.place.size=n
 mm:Msk t.mask
 rm:n*5<t.mask*3
theorem Tab.fits{t:SetTable}{n:Nat}(h:Tab t n):t.fits n=true:=by
 have:=h.rm
 have:=h.pl
 unfold SetTable.fits SetTable.fill
 rw[h.dm]
 simp
 omega
theorem Tab.odd{t:SetTable}{n:Nat}(h:Tab t n):t.gaveWay=false:=by
 unfold SetTable.gaveWay
 rcases h.mm with e | e | e | e<;>rw[e]<;>rfl
def Els(knd:KeyKind prog w K)(es:Array (Int×Value))(ks:List (List K×Addr)):Prop:=es.toList.Perm (ks.map fun q=>((tupleKind knd).hash q.1,Value.ref q.2))
def TSet(knd:KeyKind prog w K)(h:Heap)(a:Addr)(ks:List (List K×Addr)):Prop:=∃o es ep t,h.get? a=some o/\o.ExactSet/\o.data = .set es ep t/\Els knd es ks/\Tab t es.size
theorem Els.get{es:Array (Int×Value)}{ks:List (List K×Addr)}(h:Els knd es ks){i:Nat}{e:Int×Value}(he:es[i]?=some e):∃k p,(k,p)∈ks/\e =((tupleKind knd).hash k,.ref p):=by
 have:e∈es.toList:=BJ (by rw[BO];exact he)
 obtain⟨q,hq,rfl⟩:=AK.mp (h.mem_iff.mp this)
 exact⟨q.1,q.2,hq,rfl⟩
theorem Bq{β:Type}{c:β}{f:Value->β->Sem (ForInStep β)}:∀{l:List Value},(∀y∈l,f y c=pure (.yield c))->forIn l c f=pure c
 | [],_=>List.forIn_nil
 | a::r,h=>by
  rw[List.forIn_cons,h a (AU ..),pure_bind]
  exact Bq fun y hy=>h y (AM _ hy)
theorem Gd{ks:List K}{vs:List Value}(h:ItemsAre knd ks vs):∀v∈vs,∃x,knd.is x v=true:=by
 induction h with
 | nil=>intro v hv;simp at hv
 | cons h1 _ ih =>
  intro v hv
  rcases BD.mp hv with rfl | hv
  ·exact⟨_,h1⟩
  ·exact ih v hv
def Flat(knd:KeyKind prog w K):Prop:=∀v,(∃x,knd.is x v=true)->carriedByValue v=true
theorem Flat.no{v:Value}(hF:Flat knd)(h:∃x,knd.is x v=true)(d:Nat):ofAClassStatement d v=pure false:=by
 have:=hF v h
 cases v<;>first
  | (cases d<;>rfl)
  | (exact absurd this (by intro z;cases z))
theorem Vv{k:List K}{p:Addr}{Q:Bool->Shared->Prop}(hF:Flat knd)(hk:(tupleKind knd).is s.heap k p)(h:Q false s):wpAny (model prog w) A (ofAClassStatement 8 (.ref p)) Q E s:=by
 obtain⟨o,items,n,ho,hc,hd,hi⟩:=hk
 have hT:s.TypeIs (.ref p) "tuple":=⟨o,ho,hc⟩
 unfold ofAClassStatement
 refine AA (wpAny_typeOf hT ?_)
 dsimp only
 rw[AQ (by rfl)]
 refine AA (AF ?_)
 simp only[EN,AX,CN]
 refine AA (wpAny_seqItems ho hd ?_)
 dsimp only
 rw[<-Array.forIn_toList,Bq fun y hy=>by rw[hF.no (Gd hi y hy)];rfl]
 exact AA (AF (AF h))
theorem Yu{kx:List K}{px:Addr}{Q:Bool->Shared->Prop}(hF:Flat knd)(hx:(tupleKind knd).is s.heap kx px)(h:Q false s){l:List Value}(hl:∀v∈l,∃k p,v = .ref p/\(tupleKind knd).is s.heap k p) :
  wpAny (model prog w) A (searchCouldBeSeen (.ref px) l) Q E s:=by
 unfold searchCouldBeSeen
 refine AA (wpAny_forIn_list _ (fun rest c s'=>s'=s/\c =(none,())/\∀v∈rest,v∈l) _ ?_ ?_ l _ ⟨rfl,rfl,fun _ h=>h⟩)
 ·rintro v rest c s' ⟨rfl,rfl,hr⟩
  obtain⟨k,p,rfl,hk⟩:=hl v (hr v (AU ..))
  dsimp only
  have hc:carriedByValue (Value.ref px)=false:=rfl
  rw[hc,DQ,Bool.or_false]
  split
  ·exact AF ⟨rfl,rfl,fun u hu=>hr u (AM _ hu)⟩
  ·refine AA ((tupleKind knd).quiet hx ?_)
   simp only[EN,AX,CN]
   refine AA ((tupleKind knd).quiet hk ?_)
   simp only[EN,AX,CN]
   refine AA (Vv hF hx ?_)
   simp only[AX,CN]
   refine AA (Vv hF hk ?_)
   simp only[AX,CN]
   exact AF ⟨rfl,rfl,fun u hu=>hr u (AM _ hu)⟩
 ·rintro c s' ⟨rfl,rfl,_⟩
  exact AF h
theorem Sz(t:SetTable):t.sameMemory t.moves t.mask=some true:=by
 unfold SetTable.sameMemory
 simp
theorem Jl{a:Addr}{o:Obj}{es:Array (Int×Value)}{ep:Nat}{t:SetTable}{ks:List (List K×Addr)}{kx:List K}{px:Addr}{adding:Bool}{Q:SetFound->Shared->Prop}{n:Nat}
  (hr:(tupleKind knd).room A) (hF:Flat knd) (ho:s.heap.get? a=some o) (hd:o.data = .set es ep t) (hE:Els knd es ks) (hT:Tab t es.size)
  (hks:∀q∈ks,(tupleKind knd).is s.heap q.1 q.2) (hx:(tupleKind knd).is s.heap kx px) (hne:∀q∈ks,q.1≠kx) (hn:n<10*SetTable.turns t.mask)
  (he:t.slot (adv t n (t.probeStart ((tupleKind knd).hash kx))).j = .empty) (h:∀j,t.slot j = .empty->Q (.free j false) s) :
  ∀(k m fuel:Nat) (stand:Option SetTable.Probe),stand.getD (t.probeStart ((tupleKind knd).hash kx))=adv t m (t.probeStart ((tupleKind knd).hash kx))->m+k=n->k<fuel ->
   wpAny (model prog w) A (setSearchFrom a (.ref px) ((tupleKind knd).hash kx) adding fuel stand) Q E s:=by
 intro k
 induction k using Nat.strongRecOn with
 | _ k ih =>
  intro m fuel stand hst hmk hf
  cases fuel with
  | zero=>omega
  | succ fuel =>
   unfold setSearchFrom
   refine AA (CF ho hd hT.fits ?_)
   dsimp only
   rw[hT.odd]
   simp only[AX,CN]
   rw[hst]
   unfold SetTable.probe
   rcases Vu hT.dm _ ((tupleKind knd).hash kx) (t.probeStart ((tupleKind knd).hash kx)) rfl k m n (10*SetTable.turns t.mask) hmk he (by omega)with⟨j,e1,e2⟩ | ⟨l,i,h1,h2,e1,e2,e3⟩
   ·rw[e1]
    dsimp only
    exact AF (h j e2)
   ·rw[e3]
    dsimp only
    obtain⟨i',hi',hpl⟩:∃i',t.slot (adv t l (t.probeStart ((tupleKind knd).hash kx))).j = .live i'/\t.place[i']?=some (adv t l (t.probeStart ((tupleKind knd).hash kx))).j:=by
     rcases l4 hT.dm (adv t l (t.probeStart ((tupleKind knd).hash kx))).j with z | z
     ·rw[z]at e1;cases e1
     ·exact z
    rw[e1]at hi';cases hi'
    have hlt:i<es.size:=by
     have:=(DC.mp hpl).1
     rw[hT.pl]at this;exact this
    obtain⟨ent,hent⟩:∃ent,es[i]?=some ent:=⟨es[i],DC.mpr ⟨hlt,rfl⟩⟩
    obtain⟨k',p',hm',rfl⟩:=hE.get hent
    have hseen:∀v∈(es.filter (·.1 ==(tupleKind knd).hash kx)).toList.map (·.2),∃k p,v = .ref p/\(tupleKind knd).is s.heap k p:=by
     intro v hv
     obtain⟨z,hz,rfl⟩:=AK.mp hv
     have hz':z∈es.toList:=by
      rw[Array.toList_filter]at hz
      exact(AL.mp hz).1
     obtain⟨q,hq,rfl⟩:=AK.mp (hE.mem_iff.mp hz')
     exact⟨q.1,q.2,rfl,hks q hq⟩
    have rest:wpAny (model prog w) A (do
      let some (_,y):=es[i]? | unsupported "internal:set-entry"
      let equal <-holding [y] (eqBool y (.ref px))
      let(es',_,t') <-setState a
      if adding&&equal then return .there none
      let some same:=t'.sameMemory t.moves t.mask | unsupported "set.changed-during-lookup:is-the-new-block-at-the-old-address"
      let still <-match(if same then t'.slot (adv t l (t.probeStart ((tupleKind knd).hash kx))).j else .empty)with
       | .live i'=>match es'[i']? with
        | some (_,y')=>do pure (if <-isSame y' y then some i' else none)
        | none=>pure none
       | _=>pure none
      match still with
      | none=>rule "set.search.anew";setSearchFrom a (.ref px) ((tupleKind knd).hash kx) adding fuel none
      | some i'=>if equal then return .there (some i')else setSearchFrom a (.ref px) ((tupleKind knd).hash kx) adding fuel (some (adv t (l+1) (t.probeStart ((tupleKind knd).hash kx))))) Q E s:=by
     rw[hent]
     dsimp only
     refine AA (CO ((tupleKind knd).eqBool hr (hks _ hm') hx ?_))
     rw[A_ (hne _ hm')]
     refine AA (CF ho hd hT.fits ?_)
     dsimp only
     rw[Sz,GE]
     simp only[AX,CN,FE]
     rw[e1]
     dsimp only
     rw[hent]
     dsimp only
     refine AA (wpAny_isSame_ref_self (AA (AF ?_)))
     simp only[FE]
     exact ih (n-(l+1)) (by omega) (l+1) fuel _ rfl (by omega) (by omega)
    cases hled:t.led with
    | true =>
     simp only[EN,AX,CN]
     exact rest
    | false =>
     simp only[HD,FE]
     refine AA (Yu hF hx ?_ hseen)
     simp only[AX,CN]
     exact rest
theorem Bd{a:Addr}{o:Obj}{es:Array (Int×Value)}{ep:Nat}{t:SetTable}{ks:List (List K×Addr)}{kx:List K}{px:Addr}{adding:Bool}{Q:SetFound->Shared->Prop}
  (hr:(tupleKind knd).room A) (hF:Flat knd) (ho:s.heap.get? a=some o) (hd:o.data = .set es ep t) (hE:Els knd es ks) (hT:Tab t es.size)
  (hks:∀q∈ks,(tupleKind knd).is s.heap q.1 q.2) (hx:(tupleKind knd).is s.heap kx px) (hne:∀q∈ks,q.1≠kx) (h:∀j,t.slot j = .empty->Q (.free j false) s) :
  wpAny (model prog w) A (setSearch a (.ref px) ((tupleKind knd).hash kx) adding) Q E s:=by
 obtain⟨j,hj,hs⟩:=Nx hT.dm (by rw[hT.pl];have:=hT.rm;omega)
 obtain⟨n,hn,e⟩:=Rt hT.mm ((tupleKind knd).hash kx) hj
 unfold setSearch
 refine Jl hr hF ho hd hE hT hks hx hne hn (by rw[e];exact hs) h n 0 100000 none rfl (by omega) ?_
 have:SetTable.turns t.mask<=526:=by
  unfold SetTable.turns
  rcases hT.mm with e | e | e | e<;>omega
 omega
theorem TSet.typeIs{a:Addr}{ks:List (List K×Addr)}(h:TSet knd s.heap a ks):s.TypeIs (.ref a) "set":=let⟨o,_,_,_,ho,hc,_⟩:=h;⟨o,ho,hc.1⟩
theorem Qf{px:Addr}{es:Array (Int×Value)}:byScan (.ref px) es=false:=rfl
theorem Os{a:Addr}{ks:List (List K×Addr)}{kx:List K}{px:Addr}{Q:Option Nat->Shared->Prop}(hr:(tupleKind knd).room A)(hF:Flat knd)(hS:TSet knd s.heap a ks)
  (hks:∀q∈ks,(tupleKind knd).is s.heap q.1 q.2) (hx:(tupleKind knd).is s.heap kx px) (hne:∀q∈ks,q.1≠kx) (h:Q none s):wpAny (model prog w) A (setFind a (.ref px) ((tupleKind knd).hash kx)) Q E s:=by
 obtain⟨o,es,ep,t,ho,_,hd,hE,hT⟩:=hS
 unfold setFind setFindIn
 refine AA (CF ho hd hT.fits ?_)
 dsimp only
 rw[Qf]
 simp only[AX,CN]
 refine AA (Bd hr hF ho hd hE hT hks hx hne fun j _=>?_)
 dsimp only
 exact AF h
theorem in_free{neg:Bool}{a:Addr}{ks:List (List K×Addr)}{kx:List K}{px:Addr}{Q:Value->Shared->Prop}(hr:A.units+1<cLine)(hF:Flat knd)(hS:TSet knd s.heap a ks)
  (hks:∀q∈ks,(tupleKind knd).is s.heap q.1 q.2) (hx:(tupleKind knd).is s.heap kx px) (hne:∀q∈ks,q.1≠kx) (h:Q (.bool false) { s with toks:=s.toks +(tupleKind knd).draws kx }) :
  wpAny (model prog w) A (compareOp .In (.ref px) (.ref a)) Q E s:=by
 show wpAny _ _ (do return .bool (<-contains (.ref a) (.ref px))) Q E s
 refine AA ?_
 unfold contains
 try with_reducible refine CO ?_
 refine AA (wpAny_specialOf hS.typeIs F.slot_set_contains.lookup ?_)
 show wpAny _ _ (if(some (Value.builtin "set.__contains__") == some Value.none)=true then _ else _) _ E s
 rw[AJ (by rw[beq_builtin_none];exact BC)]
 refine AA (wpAny_callSpecialUnlessNone?_slot (name:=Str.ofString "__contains__") hS.typeIs F.slot_set_contains
  (EL F.slot_set_contains hS.typeIs entry_set_contains ?_ (F.args_set_contains_2 _ _)))
 unfold Builtin.«frozenset.__contains__» Builtin.Frozenset.oneOther
 simp only[List.isEmpty_nil,bind_assoc]
 unfold Builtin.Frozenset.addrOf Builtin.Frozenset.withSetAsKey setContains
 refine AA (AF ?_)
 try dsimp only
 refine AA (AF ?_)
 try dsimp only
 refine AA (wpAny_tryCatch ?_)
 refine CO ?_
 refine AA ((tupleKind knd).pyHash ?hroom hx ?_)
 case hroom=>exact hr
 refine AA (Os (s:={ s with toks:=s.toks +(tupleKind knd).draws kx }) ?hroom hF hS hks hx hne ?_)
 case hroom=>exact hr
 refine AF ?_
 show wpAny _ _ (ret (Value.bool false)) _ _ _
 exact AF ⟨_,rfl,DA (AF h)⟩
def Scan(knd:KeyKind prog w K):Prop:=∀v,(∃x,knd.is x v=true)->v.scannable=true
theorem hbv{kx:List K}{px:Addr}{Q:Bool->Shared->Prop}(hB:Scan knd)(hx:(tupleKind knd).is s.heap kx px)(h:∀b,Q b s):wpAny (model prog w) A (hashByValue 8 (.ref px)) Q E s:=by
 obtain⟨o,items,n,ho,hc,hd,hi⟩:=hx
 have hT:s.TypeIs (.ref px) "tuple":=⟨o,ho,hc⟩
 unfold hashByValue
 refine AA (wpAny_specialOf hT F.slot_tuple_hash.lookup ?_)
 dsimp only
 refine AA (wpAny_seqItems ho hd ?_)
 dsimp only[Option.getD_some]
 rw[<-Array.forIn_toList]
 refine AA (CS (wpAny_forIn_list _ (fun rest c s'=>s'=s/\c =(none,())/\∀v∈rest,v∈items.toList) (fun c s'=>s'=s/\(c =(none,())\/c =(some false,()))) ?_ ?_ _ _ ⟨rfl,rfl,fun _ z=>z⟩) ?_ fun _ _ q=>q)
 ·rintro v rest c s' ⟨rfl,rfl,hr⟩
  rw[hashByValue_scannable _ (hB v (Gd hi v (hr v (AU ..))))]
  refine AA (AF ?_)
  cases plainKind v with
  | true =>
   simp only[EN,AX,CN]
   exact AF ⟨rfl,rfl,fun u hu=>hr u (AM _ hu)⟩
  | false =>
   simp only[HD,FE]
   exact AF ⟨rfl,.inr rfl⟩
 ·rintro c s' ⟨rfl,rfl,_⟩
  exact⟨rfl,.inl rfl⟩
 ·rintro c s' ⟨rfl,rfl | rfl⟩
  ·exact AF (h _)
  ·exact AF (h _)
theorem i8{α:Type}(xs:Array α)(p:Nat)(x:α)(hp:p<=xs.size):(SetTable.insertAt xs p x).size=xs.size+1:=by
 unfold SetTable.insertAt
 rw[Array.size_append,Array.size_push,FU,FU]
 omega
theorem Ep{α:Type}(xs:Array α)(p:Nat)(x:α)(hp:p<=xs.size):(SetTable.insertAt xs p x).toList.Perm (xs.toList ++ [x]):=by
 unfold SetTable.insertAt
 rw[BQ,DD,ES,ES]
 simp only[EJ,ER,Nat.sub_zero]
 have e:List.take (xs.size-p) (List.drop p xs.toList)=List.drop p xs.toList:=by
  rw[CZ]
  rw[DG,AO]
  omega
 rw[e]
 have e2:xs.toList=xs.toList.take p++xs.toList.drop p:=(BU ..).symm
 conv=>rhs;rw[e2]
 rw[BE,BE]
 exact DM _ CT
theorem X8(xs:Array Nat)(j:Nat):∀(f lo hi:Nat),lo<=hi->SetTable.below.go xs j f lo hi<=hi
 | 0,lo,hi,h=>h
 | f+1,lo,hi,h=>by
  unfold SetTable.below.go
  split
  ·rename_i h'
   dsimp only
   split
   ·exact X8 xs j f _ _ (by omega)
   ·exact Nat.le_trans (X8 xs j f _ _ (by omega)) (by omega)
  ·exact h
theorem Uz(xs:Array Nat)(j:Nat):SetTable.below xs j<=xs.size:=X8 xs j _ _ _ (CA _)
theorem zAf{t:SetTable}(hd:t.dummies = #[])(j:Nat):t.put j =({ t with place:=SetTable.insertAt t.place (SetTable.below t.place j) j },SetTable.below t.place j):=by
 unfold SetTable.put
 have:SetTable.has t.dummies j=false:=by
  rw[hd];unfold SetTable.has;simp
 rw[this]
 rfl
theorem zEw:SetTable.sizeAbove 20=32:=by decide
theorem zEo:SetTable.sizeAbove 76=128:=by decide
theorem zCk:SetTable.sizeAbove 308=512:=by decide
theorem Uu{f:Array (Int×Value)->Option (SetTable×Array Nat)->Sem (Array (Int×Value)×SetTable)}(hf:∀es laid,f es laid =(do
  let some (t,order):=laid | unsupported "internal:set-table-without-room"
  let es':=order.filterMap (es[·]?)
  if es'.size != es.size then unsupported "internal:set-table-lost-an-element"
  pure (es',t)))
  {a:Addr} {o:Obj} {es:Array (Int×Value)} {ep:Nat} {t:SetTable} {n m:Nat} {Q:Unit->Shared->Prop} (ho:s.heap.get? a=some o) (hd:o.data = .set es ep t) (hdm:t.dummies = #[]) (hfit:t.fits es.size=true)
  (hm:SetTable.sizeAbove n=m+1) (hmm:Msk m) (hsz:es.size*5<m*3)
  (h:∀(es':Array (Int×Value)) (t':SetTable),es'.toList.Perm es.toList->Tab t' es'.size->Q () { s with heap:=s.heap.update a (Obj.putSet es' t') }) :
  wpAny (model prog w) A (do
   let(es,_,t) <-setState a
   if SetTable.sizeAbove n>sizeLine then unsupported "set:memory"
   let(es,t) <-f es (t.relaid (es.map (·.1)) n)
   storeSet a es t) Q E s:=by
 refine AA (CF ho hd hfit ?_)
 dsimp only
 have hm512:m<=511:=by rcases hmm with e | e | e | e<;>omega
 rw[hm,AJ (by rw[sizeLine_eq];omega)]
 rw[hf]
 have hs:(es.map (·.1)).size<=m:=by rw[FR];omega
 obtain⟨place,order,e1,e2,e3⟩:=Xv hmm t.finger (t.movedTo (SetTable.sizeAbove n-1)) t.led t.plain (es.map (·.1)) hs
 have e0:t.relaid (es.map (·.1)) n=some ({ mask:=m,place,dummies:=#[],finger:=t.finger,led:=t.led,moves:=t.movedTo (SetTable.sizeAbove n-1),plain:=t.plain },order):=by
  unfold SetTable.relaid
  rw[hm]
  rw[hm]at e1
  exact e1
 rw[e0]
 dsimp only
 have hp:(order.filterMap (es[·]?)).toList.Perm es.toList:=Us (by rw[FR]at e3;exact e3)
 have hz:(order.filterMap (es[·]?)).size=es.size:=by rw[<-AO,hp.length_eq,AO]
 rw[AJ (by rw[hz];simp)]
 refine AA (AF ?_)
 dsimp only
 refine HE ho hd (h _ _ hp ⟨rfl,?_,hmm,?_⟩) (by rw[hz,sizeLine_eq];omega)
 ·rw[hz,e2,FR]
 ·rw[hz];exact hsz
theorem Ez{h:Heap}{a:Addr}{o:Obj}{es:Array (Int×Value)}{ep:Nat}{t:SetTable}(ho:h.get? a=some o)(hd:o.data = .set es ep t)(es':Array (Int×Value))(t':SetTable) :
  (h.update a (Obj.putSet es' t')).get? a=some { o with data:=.set es' (ep+1) t' }:=by
 have:=DN (Obj.putSet es' t') ho (by rw[putSet_of es' t' hd];rfl)
 rw[putSet_of es' t' hd]at this;exact this
theorem Nu{a:Addr}{ks:List (List K×Addr)}{kx:List K}{px:Addr}{Q:Bool->Shared->Prop}(hr:(tupleKind knd).room A)(hF:Flat knd)(hB:Scan knd)(hS:TSet knd s.heap a ks)
  (hks:∀q∈ks,(tupleKind knd).is s.heap q.1 q.2) (hx:(tupleKind knd).is s.heap kx px) (hne:∀q∈ks,q.1≠kx) (hl:ks.length+1<=300)
  (h:∀h',Heap.SameBut a s.heap h'->TSet knd h' a (ks ++ [(kx,px)])->Q true { s with heap:=h' }) :
  wpAny (model prog w) A (setAddHashed a (.ref px) ((tupleKind knd).hash kx)) Q E s:=by
 obtain⟨o,es,ep,t,ho,hex,hd,hE,hT⟩:=hS
 have hsz:es.size=ks.length:=by
  have:=hE.length_eq
  rw[AO,AB]at this;exact this
 unfold setAddHashed setAddHashedIn
 refine CO ?_
 refine AA (CF ho hd hT.fits ?_)
 dsimp only
 rw[Qf]
 simp only[AX,CN]
 refine AA (Bd hr hF ho hd hE hT hks hx hne fun j hj=>?_)
 dsimp only
 refine AA (CF ho hd hT.fits ?_)
 dsimp only
 rw[zAf hT.dm]
 dsimp only
 have hb:=Uz t.place j
 have hb':SetTable.below t.place j<=es.size:=by rw[hT.pl]at hb;exact hb
 have hrm:=hT.rm
 have hmm:=hT.mm
 have hsz1:=i8 es (SetTable.below t.place j) ((tupleKind knd).hash kx,Value.ref px) hb'
 have hpm:=Ep es (SetTable.below t.place j) ((tupleKind knd).hash kx,Value.ref px) hb'
 have hE1:∀es':Array (Int×Value),es'.toList.Perm (SetTable.insertAt es (SetTable.below t.place j) ((tupleKind knd).hash kx,Value.ref px)).toList->Els knd es' (ks ++ [(kx,px)]):=fun es' hp=>by
  unfold Els
  rw[AR]
  exact hp.trans (hpm.trans (hE.append_right _))
 have key:∀t1:SetTable,t1.dummies = #[]->t1.mask=t.mask->t1.place.size=es.size+1->wpAny (model prog w) A (do
   storeSet a (SetTable.insertAt es (SetTable.below t.place j) ((tupleKind knd).hash kx,Value.ref px)) t1
   if(!false&&t1.tooFull)=true then do
    setRelay a (SetTable.grown (es.size+1))
    pure true
   else pure true) Q E s:=by
  intro t1 d1 m1 p1
  refine AA (HE ho hd ?_ (by rw[hsz1,sizeLine_eq];omega))
  have ho1:=Ez ho hd (SetTable.insertAt es (SetTable.below t.place j) ((tupleKind knd).hash kx,Value.ref px)) t1
  have sb1:=EF s.heap a (Obj.putSet (SetTable.insertAt es (SetTable.below t.place j) ((tupleKind knd).hash kx,Value.ref px)) t1)
  have htf:t1.tooFull=decide ((es.size+1)*5 ≥ t.mask*3):=by
   unfold SetTable.tooFull SetTable.fill
   rw[d1,m1,p1]
   rfl
  rw[htf,HD,GR]
  by_cases hfull:(es.size+1)*5 ≥ t.mask*3
  ·rw[AH hfull,AQ rfl]
   have hcase:∃m,SetTable.sizeAbove (SetTable.grown (es.size+1))=m+1/\Msk m/\(es.size+1)*5<m*3:=by
    have hg:SetTable.grown (es.size+1) =(es.size+1)*4:=by
     unfold SetTable.grown
     rw[AJ (by omega)]
    rw[hg]
    rcases hmm with e | e | e | e
    ·have:es.size+1=5:=by omega
     rw[this]
     exact⟨31,zEw,.inr (.inl rfl),by decide⟩
    ·have:es.size+1=19:=by omega
     rw[this]
     exact⟨127,zEo,.inr (.inr (.inl rfl)),by decide⟩
    ·have:es.size+1=77:=by omega
     rw[this]
     exact⟨511,zCk,.inr (.inr (.inr rfl)),by decide⟩
    ·omega
   obtain⟨m,c1,c2,c3⟩:=hcase
   refine AA ?_
   unfold setRelay
   refine Uu (fun _ _=>rfl) (s:={ s with heap:=_ }) ho1 rfl d1 ?_ c1 c2 (by rw[hsz1];exact c3) fun es' t' hp ht=>?_
   ·unfold SetTable.fits SetTable.fill
    rw[hsz1,p1,d1,m1]
    have h300:es.size+1+0<=t.mask:=by rcases hmm with e | e | e | e<;>omega
    simp
    omega
   ·refine AF (h _ (sb1.trans (EF _ a _)) ?_)
    exact⟨_,es',_,t',Ez ho1 rfl es' t',hex,rfl,hE1 es' hp,ht⟩
  ·rw[A_ hfull,AJ (by decide)]
   refine AF (h _ sb1 ⟨_,_,_,t1,ho1,hex,rfl,hE1 _ (.refl _),⟨d1,?_,?_,?_⟩⟩)
   ·rw[p1,hsz1]
   ·rw[m1];exact hmm
   ·rw[m1,hsz1];omega
 have hps:(SetTable.insertAt t.place (SetTable.below t.place j) j).size=es.size+1:=by rw[i8 _ _ _ hb,hT.pl]
 cases hpl:t.plain with
 | true =>
  simp only[FE]
  refine AA (hbv hB hx fun b=>?_)
  cases b with
  | true =>
   simp only[FE]
   exact key _ hT.dm rfl hps
  | false =>
   simp only[AX,CN]
   exact key _ hT.dm rfl hps
 | false =>
  simp only[AX,CN]
  refine AA (AF ?_)
  simp only[FE]
  exact key _ hT.dm rfl hps
theorem call_add{a:Addr}{ks:List (List K×Addr)}{kx:List K}{px:Addr}{Q:Value->Shared->Prop}(hr:A.units+1<cLine)(hF:Flat knd)(hB:Scan knd)(hS:TSet knd s.heap a ks)
  (hks:∀q∈ks,(tupleKind knd).is s.heap q.1 q.2) (hx:(tupleKind knd).is s.heap kx px) (hne:∀q∈ks,q.1≠kx) (hl:ks.length+1<=300)
  (h:∀h',Heap.SameBut a s.heap h'->TSet knd h' a (ks ++ [(kx,px)])->Q .none { s with heap:=h',toks:=s.toks +(tupleKind knd).draws kx }) :
  wpAny (model prog w) A (call (.builtin "set.add") [.ref a,.ref px]) Q E s:=by
 refine EL F.slot_set_add hS.typeIs F.entry_set_add ?_ (F.args_set_add_2 _ _)
 unfold Builtin.«set.add» Builtin.Frozenset.oneOther
 simp only[List.isEmpty_nil,bind_assoc]
 unfold Builtin.Frozenset.addrOf setAdd
 refine AA (AF ?_)
 try dsimp only
 refine AA (AF ?_)
 try dsimp only
 refine AA ?_
 refine CO ?_
 refine AA ((tupleKind knd).pyHash ?hroom hx ?_)
 case hroom=>exact hr
 refine Nu (s:={ s with toks:=s.toks +(tupleKind knd).draws kx }) ?hroom hF hB hS hks hx hne hl fun h' hsb hS'=>?_
 case hroom=>exact hr
 show wpAny _ _ (ret Value.none) _ _ _
 exact AF ⟨_,rfl,h h' hsb hS'⟩
end
theorem Km:Manifest.owners.lookup (String.ofList ['r','o','t','a','r','e','t','i','_','t','e','s'].reverse)=some Manifest.sig_set_iterator:=by kernel_rfl
theorem slot_si_next:Slot "set_iterator" "__next__" "set_iterator.__next__" :=
 .of (owner := "set_iterator") (n := "__next__") (by rw[typeLookup_type,builtinLookup_eq_fast];kernel_rfl) (by decide +kernel) (by decide +kernel) (by decide +kernel) (by first | exact .inl (by decide +kernel) | exact .inr (by decide +kernel)) (by rw[isSubtype_type];kernel_rfl)
theorem b9:entryFor table "set_iterator.__next__" = some Builtin.«set_iterator.__next__»:=entryFor_of_tree (by kernel_rfl)
theorem y0(a:Value):argsOk "set_iterator.__next__" ⟨[a],[]⟩:=by
 unfold argsOk;rw[signature?_of (id := "set_iterator.__next__") (n:=['_','_','t','x','e','n','_','_']) (o:=['r','o','t','a','r','e','t','i','_','t','e','s']) (by kernel_rfl) Km];kernel_rfl
theorem t8:Slot "set_iterator" "__iter__" "set_iterator.__iter__" :=
 .of (owner := "set_iterator") (n := "__iter__") (by rw[typeLookup_type,builtinLookup_eq_fast];kernel_rfl) (by decide +kernel) (by decide +kernel) (by decide +kernel) (by first | exact .inl (by decide +kernel) | exact .inr (by decide +kernel)) (by rw[isSubtype_type];kernel_rfl)
theorem Fu(a:Value):argsOk "set_iterator.__iter__" ⟨[a],[]⟩:=by
 unfold argsOk;rw[signature?_of (id := "set_iterator.__iter__") (n:=['_','_','r','e','t','i','_','_']) (o:=['r','o','t','a','r','e','t','i','_','t','e','s']) (by kernel_rfl) Km];kernel_rfl
theorem Fe:entryFor table "set_iterator.__iter__" = some Builtin.«dict_keyiterator.__iter__» :=
 entryFor_alias (id' := "dict_keyiterator.__iter__") (by kernel_rfl) (by first | rfl | decide +kernel | (unfold String.splitOn;simp +decide [String.splitOnAux])) (by decide +kernel) (by kernel_rfl)
theorem Gk:entryFor table "set.__iter__" = some Builtin.«frozenset.__iter__» :=
 entryFor_alias (id' := "frozenset.__iter__") (by kernel_rfl) rfl (by decide +kernel) (by kernel_rfl)
theorem zCd:typeLookup (.type "set") "__len__" = pure (some (.builtin "set.__len__")):=by rw[typeLookup_type,builtinLookup_eq_fast];kernel_rfl
section
variable{prog:Program}{w:World}{A:Around}{E:Value->Shared->Prop}{s:Shared}
theorem Pj{n:Nat}{Q:Nat->Shared->Prop}(hn:n≠0)(h:∀i d,i<n->Q i { s with drawn:=d }):wpAny (model prog w) A (choose .order n) Q E s:=fun Γ p hΓ=>by
 unfold choose
 rw[Sem.wp_choose]
 exact⟨hn,h _ _ (Nat.mod_lt _ (Nat.pos_of_ne_zero hn))⟩
theorem erase_perm{α:Type}:∀{l:List α} {i:Nat} {x:α},l[i]?=some x->(x::l.eraseIdx i).Perm l
 | [],i,x,h=>by simp at h
 | y::l,0,x,h=>by
  have:y=x:=by simpa using h
  subst this
  exact .refl _
 | y::l,i+1,x,h=>by
  have h':l[i]?=some x:=by simpa using h
  exact(List.Perm.swap y x _).trans ((erase_perm h').cons y)
theorem Hw{α:Type}{l:List α}{i:Nat}{x:α}(h:l[i]?=some x):(l.eraseIdx i).length+1=l.length:=(erase_perm h).length_eq
theorem Ot{α:Type}:∀(n:Nat) (l:List α) (s:Shared) (Q:List α->Shared->Prop),l.length=n->(∀l' d,l'.Perm l->Q l' { s with drawn:=d })->wpAny (model prog w) A (drawOrder n l) Q E s
 | 0,l,s,Q,hl,h=>by
  unfold drawOrder
  obtain rfl:=List.length_eq_zero_iff.mp hl
  exact AF (h [] s.drawn (.refl _))
 | n+1,[],s,Q,hl,h=>by simp at hl
 | n+1,x::xs,s,Q,hl,h=>by
  unfold drawOrder
  refine AA (Pj (by simp) fun i d hi=>?_)
  have e:(x::xs)[i]?=some ((x::xs)[i]):=AC hi
  rw[e]
  dsimp only
  have hp:=erase_perm e
  refine AA (Ot n _ _ _ (by have:=Hw e;omega) fun l' d' hp'=>?_)
  exact AF (h _ d' ((hp'.cons _).trans hp))
theorem Oe{α:Type}(nx:Nat->Nat):∀(f k:Nat) (left:List α) (out:Array α),left.length=f->(pickOrder.go nx f k left out).toList.Perm (out.toList++left)
 | 0,k,left,out,h=>by
  obtain rfl:=List.length_eq_zero_iff.mp h
  unfold pickOrder.go
  simp
 | f+1,k,left,out,h=>by
  have hlt:nx k % left.length<left.length:=Nat.mod_lt _ (by omega)
  have e:left[nx k % left.length]?=some left[nx k % left.length]:=AC hlt
  unfold pickOrder.go
  rw[e]
  dsimp only
  have hp:=erase_perm e
  refine(Oe nx f (k+1) _ _ (by have:=Hw e;omega)).trans ?_
  rw[DD,BE]
  exact hp.append_left _
theorem Cb{α:Type}(nx:Nat->Nat)(xs:Array α):(pickOrder nx xs).toList.Perm xs.toList:=by
 unfold pickOrder
 have:=Oe nx xs.size 0 xs.toList #[] (AO ..)
 simpa using this
structure SAt(w:World)(h:Heap)(a:Addr)(o:Obj)(es:Array (Int×Value))(ep:Nat)(t:SetTable):Prop where
 ho:h.get? a=some o
 ex:o.ExactSet
 hd:o.data = .set es ep t
 ft:t.fits es.size=true
 led:t.led=!(w.params.followText "set-order")
 pln:t.plain=true->es.size=0
 few:es.size<4096
def sIt(first:Value)(i n ep:Nat)(a:Addr):Obj:={ cls:=.type "set_iterator",data:=.fields #[first,rawInt i,.ref a,rawInt n,rawInt ep] }
theorem O9{Q:Bool->Shared->Prop}(h:Q (w.params.followText "set-order") s):wpAny (model prog w) A setsByText Q E s:=by
 unfold setsByText
 exact AA (GH (AF h))
variable{a it:Addr}{o:Obj}{es:Array (Int×Value)}{ep:Nat}{t:SetTable}
theorem Ak{i sl:Nat}{r:Option (Value×Nat)}{Q:Option Value->Shared->Prop}(hh:A.handled=none)(S:SAt w s.heap a o es ep t)(hne:it≠a)(hi:s.heap.get? it=some (sIt (rawInt sl) i es.size ep a))
  (hin:∀(Q':Option (Value×Nat)->Shared->Prop) (A':Around) (E':Value->Shared->Prop),Q' r s->wpAny (model prog w) A' (setNext a sl i ep) Q' E' s)
  (hQ1:∀x nx h',r=some (x,nx)->h'.get? it=some (sIt (rawInt nx) (i+1) es.size ep a)->Heap.SameBut it s.heap h'->Q (some x) { s with heap:=h' })
  (hQ0:r=none->∀h',Heap.ExtBut it s.heap h'->Q none { s with heap:=h' }):wpAny (model prog w) A (pyNext (.ref it)) Q E s:=by
 have hT:s.TypeIs (.ref it) "set_iterator":=⟨_,hi,rfl⟩
 unfold pyNext
 refine AA (wpAny_attempt (wpAny_callSpecial?_slot (name:=Str.ofString "__next__") hT slot_si_next (EL slot_si_next hT b9 ?_ (y0 _))))
 unfold Builtin.«set_iterator.__next__»
 refine AA (GF (a:=(Value.ref it,[])) rfl ?_)
 dsimp only
 refine AA (wpAny_fieldsOf hi rfl ?_)
 dsimp only[rawInt]
 refine AA (wpAny_setEntries_of S.ho S.hd S.ft ?_)
 rw[AJ (by simp)]
 simp only[EC]
 refine AA (hin _ _ _ ?_)
 cases r with
 | some p =>
  obtain⟨x,nx⟩:=p
  dsimp only
  refine AA (GG hi rfl (by simp) ?_)
  have h1:=DN (Obj.mapFields (·.setIfInBounds 0 (rawInt (nx:Nat)))) hi rfl
  refine AA (GG h1 rfl (by simp) ?_)
  have h2:=DN (Obj.mapFields (·.setIfInBounds 1 (rawInt ((i:Int)+1)))) h1 rfl
  refine AF ⟨x,rfl,AF (hQ1 x nx _ rfl ?_ ((EF ..).trans (EF ..)))⟩
  exact h2
 | none =>
  dsimp only
  refine AA (GG hi rfl (by simp) ?_)
  refine AA ?_
  simp only[newExc,newTuple]
  refine AA (ED ?_ (by size_fits))
  refine AA (m:=firstArgMember _ _) (GF (a:=Value.none) (by first | rfl | (simp only[firstArgMember];rfl)) ?_)
  refine ED ?_ (by size_fits)
  simp only[raiseNew]
  refine AA (wpAny_handled ?_)
  first | rw[show A.in1.handled=none from hh] | rw[hh]
  refine AA (AF (wpAny_throw ?_))
  refine AA (wpAny_isInstance (T := "StopIteration") (b:=true) ⟨_,BB _ rfl,rfl⟩ isSubtype_stop ?_)
  exact AF (hQ0 rfl _ ((HI (HI (fun b o hb e=>(C_ _ _ (Ne.symm hb)).trans e) _)) _))
end
def Zk(ps:List Nat):Obj:={ cls:=.type "tuple",data:=.seq (ps.map fun(i:Nat)=>rawInt i).toArray }
section
variable{prog:Program}{w:World}{A:Around}{E:Value->Shared->Prop}{s:Shared}{a it T:Addr}{o:Obj}{es:Array (Int×Value)}{ep:Nat}{t:SetTable}
theorem Kl{i:Nat}{ps:List Nat}{Q:Option Value->Shared->Prop}(hh:A.handled=none)(S:SAt w s.heap a o es ep t)(hi:s.heap.get? it=some (sIt (.ref T) i es.size ep a))(hT:s.heap.get? T=some (Zk ps))
  (hQ1:∀p x h',ps[i]?=some p->es[p]?=some x->h'.get? it=some (sIt (.ref T) (i+1) es.size ep a)->Heap.SameBut it s.heap h'->Q (some x.2) { s with heap:=h' }) (hps:∀p∈ps,p<es.size)
  (hQ0:ps.length<=i->∀h',Heap.ExtBut it s.heap h'->Q none { s with heap:=h' }):wpAny (model prog w) A (pyNext (.ref it)) Q E s:=by
 have hTy:s.TypeIs (.ref it) "set_iterator":=⟨_,hi,rfl⟩
 unfold pyNext
 refine AA (wpAny_attempt (wpAny_callSpecial?_slot (name:=Str.ofString "__next__") hTy slot_si_next (EL slot_si_next hTy b9 ?_ (y0 _))))
 unfold Builtin.«set_iterator.__next__»
 refine AA (GF (a:=(Value.ref it,[])) rfl ?_)
 dsimp only
 refine AA (wpAny_fieldsOf hi rfl ?_)
 dsimp only[rawInt]
 refine AA (wpAny_setEntries_of S.ho S.hd S.ft ?_)
 rw[AJ (by simp)]
 simp only[EC]
 refine AA (wpAny_seqItems hT rfl ?_)
 dsimp only
 cases e:ps[i]? with
 | some p =>
  have e':(ps.map fun(i:Nat)=>Value.int (i:Int) 0).toArray[i]?=some (.int (p:Int) 0):=by
   rw[List.getElem?_toArray,AI,e];rfl
  have e'':(ps.map fun(i:Nat)=>rawInt i).toArray[i]?=some (.int (p:Int) 0):=e'
  rw[e'']
  have hp:p<es.size:=hps p (BJ e)
  obtain⟨x,hx⟩:∃x,es[p]?=some x:=⟨es[p],DC.mpr ⟨hp,rfl⟩⟩
  dsimp only
  simp only[EC]
  unfold setNextDrawn
  refine AA (AA (CF S.ho S.hd S.ft ?_))
  dsimp only
  rw[AJ (by simp),hx]
  dsimp only
  refine AF ?_
  refine AA (GG hi rfl (by simp) ?_)
  have h2:=DN (Obj.mapFields (·.setIfInBounds 1 (rawInt ((i:Int)+1)))) hi rfl
  exact AF ⟨x.2,rfl,AF (hQ1 p x _ e hx h2 (EF ..))⟩
 | none =>
  have e'':(ps.map fun(i:Nat)=>rawInt i).toArray[i]?=none:=by
   rw[List.getElem?_toArray,AI,e];rfl
  rw[e'']
  dsimp only
  refine AA (GG hi rfl (by simp) ?_)
  have h1:=DN (Obj.mapFields (·.setIfInBounds 0 (rawInt 0))) hi rfl
  refine AA (GG h1 rfl (by simp) ?_)
  refine AA ?_
  simp only[newExc,newTuple]
  refine AA (ED ?_ (by size_fits))
  refine AA (m:=firstArgMember _ _) (GF (a:=Value.none) (by first | rfl | (simp only[firstArgMember];rfl)) ?_)
  refine ED ?_ (by size_fits)
  simp only[raiseNew]
  refine AA (wpAny_handled ?_)
  rw[show A.in1.handled=none from hh]
  refine AA (AF (wpAny_throw ?_))
  refine AA (wpAny_isInstance (T := "StopIteration") (b:=true) ⟨_,BB _ rfl,rfl⟩ isSubtype_stop ?_)
  refine AF (hQ0 (GK.mp e) _ (HI (HI (fun b ob hb eb=>?_) _) _))
  exact(C_ _ _ (Ne.symm hb)).trans ((C_ _ _ (Ne.symm hb)).trans eb)
def zDx(w:World)(a T:Addr)(es:Array (Int×Value))(ep:Nat)(t:SetTable)(order:List Value)(i:Nat)(h:Heap)(first:Value):Prop :=
 (w.params.followText "set-order" = true/\first=rawInt (0:Nat)/\order =(pickOrder (w.params.setOrder a ep) es).toList.map (·.2)) \/
 (w.params.followText "set-order" = false/\∃ps:List Nat,first = .ref T/\h.get? T=some (Zk ps)/\ps.Perm (List.range es.size)/\order=ps.filterMap fun p=>es[p]?.map (·.2)) \/
 (w.params.followText "set-order" = false/\es.size<=1/\order=es.toList.map (·.2)/\∃sl:Nat,first=rawInt sl/\(i=0->sl=0)/\(i=1->∃j,t.place = #[j]/\sl=j+1))
def SSt(w:World)(a it T:Addr)(o:Obj)(es:Array (Int×Value))(ep:Nat)(t:SetTable)(order:List Value)(i:Nat)(h:Heap):Prop :=
 SAt w h a o es ep t/\∃first,h.get? it=some (sIt first i es.size ep a)/\zDx w a T es ep t order i h first
theorem SAt.at{h h':Heap}(S:SAt w h a o es ep t)(e:h'.get? a=some o):SAt w h' a o es ep t:=⟨e,S.ex,S.hd,S.ft,S.led,S.pln,S.few⟩
theorem zAd(j:Nat):SetTable.below #[j] 0=0:=by simp[SetTable.below,SetTable.below.go]
theorem zAn(j:Nat):SetTable.below #[j] (j+1)=1:=by simp[SetTable.below,SetTable.below.go]
theorem Tn(S:SAt w s.heap a o es ep t):t.place.size=es.size:=by
 have:=S.ft
 unfold SetTable.fits at this
 rw[BP]at this
 simpa using this.1
theorem Qq(hh:A.handled=none){order:List Value}(hia:it≠a)(hiT:it≠T):Walks prog w A it [it,a,T] [it] es.size (fun i v=>order[i]?=some v) (SSt w a it T o es ep t order) where
 sub:=fun b hb=>by simp at hb;simp[hb]
 frame:=fun i h h' ⟨S,first,hi,hm⟩ k=>by
  refine⟨S.at (k a (by simp) _ S.ho),first,k it (by simp) _ hi,?_⟩
  rcases hm with z | ⟨z1,ps,z2,z3,z4,z5⟩ | z
  ·exact .inl z
  ·exact .inr (.inl ⟨z1,ps,z2,k T (by simp) _ z3,z4,z5⟩)
  ·exact .inr (.inr z)
 item:=fun i s Q E hlt ⟨S,first,hi,hm⟩ hQ=>by
  have keep:∀h',Heap.SameBut it s.heap h'->∀b ob,b∉[it]->s.heap.get? b=some ob->h'.get? b=some ob:=fun h' hs b ob hb e=>(hs.2 b (by simpa using hb)).trans e
  rcases hm with⟨z1,rfl,z3⟩ | ⟨z1,ps,rfl,z3,z4,z5⟩ | ⟨z1,z2,z3,sl,rfl,z5,z6⟩
  ·have hpk:=Cb (w.params.setOrder a ep) es
   have hlen:(pickOrder (w.params.setOrder a ep) es).size=es.size:=by rw[<-AO,hpk.length_eq,AO]
   obtain⟨x,hx⟩:∃x,(pickOrder (w.params.setOrder a ep) es)[i]?=some x:=⟨_,DC.mpr ⟨by rw[hlen];exact hlt,rfl⟩⟩
   refine Ak (r:=some (x.2,0)) hh S hia hi (fun Q' A' E' q=>?_) (fun y nx h' e1 e2 hs=>?_) (fun e=>nomatch e)
   ·unfold setNext setWalk
    refine AA (CF S.ho S.hd S.ft ?_)
    dsimp only
    refine AA (O9 ?_)
    rw[z1,AQ rfl,AJ (by simp)]
    refine AA (AA (CF S.ho S.hd S.ft ?_))
    dsimp only
    refine AA (O9 ?_)
    rw[z1,AQ rfl]
    refine AA (GH (AF (AF ?_)))
    show Q' (((pickOrder (w.params.setOrder a ep) es)[i]?).map fun e=>(e.2,0)) s
    rw[hx]
    exact q
   ·cases e1
    have:=hQ x.2 h' s.toks (by rw[z3,AI,BO,hx];rfl) ⟨S.at ((hs.2 a (Ne.symm hia)).trans S.ho),_,e2,.inl ⟨z1,rfl,z3⟩⟩ (keep h' hs)
    exact this
  ·refine Kl hh S hi z3 (fun p x h' e1 e2 e3 hs=>?_) (fun p hp=>B_.mp (z4.mem_iff.mp hp)) (fun hle=>?_)
   ·have hall:∀q∈ps,(es[q]?.map (·.2)).isSome=true:=fun q hq=>by
     have:q<es.size:=B_.mp (z4.mem_iff.mp hq)
     rw[DC.mpr ⟨this,rfl⟩];rfl
    refine hQ x.2 h' s.toks ?_ ⟨S.at ((hs.2 a (Ne.symm hia)).trans S.ho),_,e3,.inr (.inl ⟨z1,ps,rfl,(hs.2 T (Ne.symm hiT)).trans z3,z4,z5⟩)⟩ (keep h' hs)
    have gen:∀(l:List Nat) (i p:Nat),(∀q∈l,(es[q]?.map (·.2)).isSome=true)->l[i]?=some p->(l.filterMap fun p=>es[p]?.map (·.2))[i]?=es[p]?.map (·.2):=by
     intro l
     induction l with
     | nil=>intro i p _ e;simp at e
     | cons q r ih =>
      intro i p hl e
      obtain⟨v,hv⟩:=FN.mp (hl q (AU ..))
      rw[EV,hv]
      dsimp only
      cases i with
      | zero =>
       have:q=p:=by simpa using e
       subst this
       simpa using hv.symm
      | succ i=>simpa using ih i p (fun q hq=>hl q (AM _ hq)) (by simpa using e)
    rw[z5,gen ps i p hall e1,e2]
    rfl
   ·have:=z4.length_eq
    rw[BX]at this
    omega
  ·have h0:i=0:=by omega
   have h1:es.size=1:=by omega
   obtain⟨j,hj⟩:∃j,t.place = #[j]:=Array.size_eq_one_iff.mp ((Tn S).trans h1)
   obtain⟨x,hx⟩:∃x,es = #[x]:=Array.size_eq_one_iff.mp h1
   have hs0:=z5 h0
   subst hs0
   have hx0:es[0]?=some x:=by rw[hx];rfl
   refine Ak (r:=some (x.2,j+1)) hh S hia hi (fun Q' A' E' q=>?_) (fun y nx h' e1 e2 hs=>?_) (fun e=>nomatch e)
   ·unfold setNext
    refine AA (CF S.ho S.hd S.ft ?_)
    dsimp only
    refine AA (O9 ?_)
    rw[z1,AJ (by decide)]
    show wpAny _ _ (if(!t.plain&&decide (es.size>1))=true then _ else _) _ _ _
    rw[AJ (by rw[h1];simp)]
    show wpAny _ _ (do (if(!t.led&&!es.isEmpty)=true then unsupported "set:maker-not-led" else pure ());_) _ _ _
    rw[S.led,z1,AJ (by simp)]
    refine AA (AF ?_)
    rw[hj,zAd,hx0]
    exact AF q
   ·cases e1
    refine hQ x.2 h' s.toks (by rw[z3,h0,hx];rfl) ⟨S.at ((hs.2 a (Ne.symm hia)).trans S.ho),_,e2,.inr (.inr ⟨z1,z2,z3,j+1,rfl,fun e=>by omega,fun _=>⟨j,hj,rfl⟩⟩)⟩ (keep h' hs)
 done:=fun s Q E ⟨S,first,hi,hm⟩ hQ=>by
  have keep:∀h',Heap.ExtBut it s.heap h'->∀b ob,b∉[it]->s.heap.get? b=some ob->h'.get? b=some ob:=fun h' hs b ob hb e=>hs b ob (by simpa using hb) e
  rcases hm with⟨z1,rfl,z3⟩ | ⟨z1,ps,rfl,z3,z4,z5⟩ | ⟨z1,z2,z3,sl,rfl,z5,z6⟩
  ·have hpk:=Cb (w.params.setOrder a ep) es
   have hlen:(pickOrder (w.params.setOrder a ep) es).size=es.size:=by rw[<-AO,hpk.length_eq,AO]
   refine Ak (r:=none) hh S hia hi (fun Q' A' E' q=>?_) (fun y nx h' e1=>nomatch e1) (fun _ h' hs=>hQ h' s.toks (keep h' hs))
   unfold setNext setWalk
   refine AA (CF S.ho S.hd S.ft ?_)
   dsimp only
   refine AA (O9 ?_)
   rw[z1,AQ rfl,AJ (by simp)]
   refine AA (AA (CF S.ho S.hd S.ft ?_))
   dsimp only
   refine AA (O9 ?_)
   rw[z1,AQ rfl]
   refine AA (GH (AF (AF ?_)))
   show Q' (((pickOrder (w.params.setOrder a ep) es)[es.size]?).map fun e=>(e.2,0)) s
   rw[FV (by rw[hlen];exact Nat.le_refl _)]
   exact q
  ·have hl:=z4.length_eq
   rw[BX]at hl
   refine Kl hh S hi z3 (fun p x h' e1 e2 e3 hs=>?_) (fun p hp=>B_.mp (z4.mem_iff.mp hp)) (fun _ h' hs=>hQ h' s.toks (keep h' hs))
   have:=(AG.mp e1).1
   omega
  ·refine Ak (r:=none) hh S hia hi (fun Q' A' E' q=>?_) (fun y nx h' e1=>nomatch e1) (fun _ h' hs=>hQ h' s.toks (keep h' hs))
   unfold setNext
   refine AA (CF S.ho S.hd S.ft ?_)
   dsimp only
   refine AA (O9 ?_)
   rw[z1,AJ (by decide)]
   show wpAny _ _ (if(!t.plain&&decide (es.size>1))=true then _ else _) _ _ _
   rw[AJ (by simp;intro _;omega)]
   show wpAny _ _ (do (if(!t.led&&!es.isEmpty)=true then unsupported "set:maker-not-led" else pure ());_) _ _ _
   rw[S.led,z1,AJ (by simp)]
   refine AA (AF ?_)
   have hnone:es[SetTable.below t.place sl]?=none:=by
    by_cases h0:es.size=0
    ·exact FV (by rw[h0];exact CA _)
    ·obtain⟨j,hj,rfl⟩:=z6 (by omega)
     rw[hj,zAn]
     exact FV (by omega)
   rw[hnone]
   exact AF q
 self:=fun i s Q E ⟨S,first,hi,hm⟩ h=>by
  have hT:s.TypeIs (.ref it) "set_iterator":=⟨_,hi,rfl⟩
  refine wpAny_pyIter_slot hT t8 (EL t8 hT Fe ?_ (Fu _))
  show wpAny _ _ (ret (.ref it)) _ _ s
  exact AF ⟨_,rfl, "set_iterator",_,hT,slot_si_next.lookup,h⟩
theorem Ur{Q:Value->Shared->Prop}(S:SAt w s.heap a o es ep t)
  (h:∀(it T:Addr) (order:List Value) (h':Heap) (d:Drawn),it≠a->it≠T->(T=a\/s.heap.objs.size<=T)->s.heap.objs.size<=it->(∀b ob,s.heap.get? b=some ob->h'.get? b=some ob)->order.Perm (es.toList.map (·.2))->SSt w a it T o es ep t order 0 h'->(∀b∈[it,a,T],b<h'.objs.size) ->
   (∀A':Around,A'.handled=none->Walks prog w A' it [it,a,T] [it] es.size (fun i v=>order[i]?=some v) (SSt w a it T o es ep t order))->Q (.ref it) { s with heap:=h',drawn:=d }):wpAny (model prog w) A (pyIter (.ref a)) Q E s:=by
 have hT:s.TypeIs (.ref a) "set":=⟨_,S.ho,S.ex.1⟩
 have ha:=AN S.ho
 refine wpAny_pyIter_slot hT F.slot_set_iter (EL F.slot_set_iter hT Gk ?_ (F.args_set_iter_1 _))
 unfold Builtin.«frozenset.__iter__» Builtin.Frozenset.slot0 Builtin.Frozenset.sizeOf
 refine AA (AA (GF (a:=(Value.ref a,[])) rfl ?_))
 dsimp only
 refine GF (a:=a) rfl ?_
 refine AA (AA (wpAny_setEntries_of S.ho S.hd S.ft (AF ?_)))
 have fin:∀(first:Value) (T:Addr) (order:List Value) (h1:Heap) (d:Drawn),(∀b ob,s.heap.get? b=some ob->h1.get? b=some ob)->s.heap.objs.size<=h1.objs.size->order.Perm (es.toList.map (·.2))->T<h1.objs.size->(T=a\/s.heap.objs.size<=T) ->
   (∀h2:Heap,(∀b ob,h1.get? b=some ob->h2.get? b=some ob)->zDx w a T es ep t order 0 h2 first) ->
   wpAny (model prog w) A.in1 (do let e <-setEpoch a;let x <-newFields "set_iterator" [first,rawInt 0,.ref a,rawInt (es.size:Nat),rawInt (e:Nat)];ret x) (fun r s'=>∃v,r=Fin.done (Flow.ret v)/\∃T' r,s'.TypeIs v T'/\typeLookup (Value.type T') (Str.ofString "__next__")=pure (some r)/\Q v s') E { s with heap:=h1,drawn:=d }:=by
  intro first T order h1 d k hsz hp hTl hTa hm
  refine AA (wpAny_setEpoch_of (s:={ s with heap:=h1,drawn:=d }) (k a o S.ho) S.hd S.ft ?_)
  refine AA (ED ?_)
  have hg:(h1.push (sIt first 0 es.size ep a)).get? h1.objs.size=some (sIt first 0 es.size ep a):=BB _ rfl
  have k2:∀b ob,h1.get? b=some ob->(h1.push (sIt first 0 es.size ep a)).get? b=some ob:=fun b ob e=>AE _ e
  have hia:h1.objs.size≠a:=fun e=>absurd (BM ha hsz) (by rw[<-e];exact DE _)
  have hiT:h1.objs.size≠T:=fun e=>absurd hTl (by rw[<-e];exact DE _)
  refine AF ⟨.ref h1.objs.size,rfl, "set_iterator",_,⟨_,hg,rfl⟩,slot_si_next.lookup,?_⟩
  refine h h1.objs.size T order (h1.push (sIt first 0 es.size ep a)) d hia hiT hTa hsz (fun b ob e=>k2 b ob (k b ob e)) hp ⟨S.at (k2 a o (k a o S.ho)),first,hg,hm _ k2⟩ (fun b hb=>?_) fun A' hh=>Qq hh hia hiT
  rw[EB]
  simp only[BD,BK,or_false]at hb
  rcases hb with rfl | rfl | rfl
  ·exact E_ _
  ·exact CQ (BM ha hsz)
  ·exact CQ hTl
 unfold setDrawn
 refine AA (AA (CF S.ho S.hd S.ft ?_))
 dsimp only
 refine AA (O9 (AF ?_))
 cases hb:w.params.followText "set-order" with
 | true =>
  show wpAny _ _ (if(!true &&(!t.plain&&decide (es.size>1)))=true then _ else _) _ _ _
  rw[EN,DQ,AJ (by decide)]
  refine AA (AF ?_)
  exact fin _ a _ s.heap s.drawn (fun _ _ e=>e) (Nat.le_refl _) ((Cb _ es).map _) ha (.inl rfl) fun h2 _=>.inl ⟨hb,rfl,rfl⟩
 | false =>
  show wpAny _ _ (if(!false &&(!t.plain&&decide (es.size>1)))=true then _ else _) _ _ _
  by_cases hdr:(!t.plain&&decide (es.size>1))=true
  ·rw[HD,GR,AQ hdr]
   refine AA (Ot es.size (List.range es.size) s _ (BX ..) fun ps d hp=>AA ?_)
   unfold newTuple
   refine ED ?_ ?_
   ·have hg:(s.heap.push (Zk ps)).get? s.heap.objs.size=some (Zk ps):=BB _ rfl
    refine fin _ s.heap.objs.size (ps.filterMap fun p=>es[p]?.map (·.2)) (s.heap.push (Zk ps)) d (fun b ob e=>AE _ e) (by rw[EB];exact DL _) ?_ (by rw[EB];exact E_ _) (.inr (Nat.le_refl _)) fun h2 k2=>.inr (.inl ⟨hb,ps,rfl,k2 _ _ hg,hp,rfl⟩)
    refine(hp.filterMap _).trans (List.Perm.of_eq ?_)
    have:=filterMap_getElem?_range es
    rw[<-this,List.map_filterMap]
   ·have h1:=hp.length_eq
    have h2:=S.few
    rw[BX]at h1
    show(List.map _ ps).toArray.size<=sizeLine
    rw[AZ,AB,sizeLine_eq]
    omega
  ·rw[HD,GR,AJ hdr]
   refine AA (AF ?_)
   have hle:es.size<=1:=by
    by_cases hp:t.plain=true
    ·have:=S.pln hp;omega
    ·have hp':t.plain=false:=by simpa using hp
     rw[hp']at hdr
     simp at hdr
     omega
   exact fin _ a _ s.heap s.drawn (fun _ _ e=>e) (Nat.le_refl _) (.refl _) ha (.inl rfl) fun h2 _=>.inr (.inr ⟨hb,hle,rfl,0,rfl,fun _=>rfl,fun e=>absurd e (by decide)⟩)
end
section
variable{prog:Program}{w:World}{A:Around}{E:Value->Shared->Prop}{s:Shared}{a:Addr}{o:Obj}{es:Array (Int×Value)}{ep:Nat}{t:SetTable}
theorem Tq{order:List Value}{acc:Array Value}(h:ItemsOf (fun i v=>order[i]?=some v) acc order.length):acc.toList=order:=by
 refine FK fun i=>?_
 rw[BO]
 by_cases hi:i<acc.size
 ·have e:acc[i]?=some acc[i]:=DC.mpr ⟨hi,rfl⟩
  rw[e,h.2 i _ e]
 ·rw[FV (by omega),EK (by have:=h.1;omega)]
theorem collect_set{Q:List Value->Shared->Prop}(hh:A.handled=none)(S:SAt w s.heap a o es ep t)
  (hQ:∀s' acc,(∀b ob,s.heap.get? b=some ob->s'.heap.get? b=some ob)->s'.gens=s.gens->s'.os=s.os->s.heap.objs.size<s'.heap.objs.size->acc.Perm (es.toList.map (·.2))->Q acc s'):wpAny (model prog w) A (collect (.ref a)) Q E s:=by
 have ha:=AN S.ho
 unfold collect
 refine AA (wpAny_runValue (EU F.entry_proto_collect ?_))
 rw[Around.under_plainId F.plain_proto_collect _]
 show wpAny _ A.in1 (newList [] >>= fun l=>again (.builtin "list.__iadd__" ⟨[l,.ref a],[]⟩)) _ _ s
 refine AA (ED ?_)
 refine AF ⟨plainId_quiet F.plain_list_iadd _,EU F.entry_list_iadd ?_⟩
 rw[Around.under_plainId F.plain_list_iadd _]
 show wpAny _ A.in1 (Builtin.List.listExtendWith (.ref s.heap.objs.size) (.ref a) (.ref s.heap.objs.size)) _ _ _
 unfold Builtin.List.listExtendWith
 have hne:s.heap.objs.size≠a:=fun e=>absurd ha (by rw[<-e];exact DE _)
 generalize hH:s.heap.push { cls:=.type "list",data:=.seq ([]:List Value).toArray }=H
 have kH:∀b ob,s.heap.get? b=some ob->H.get? b=some ob:=fun b ob e=>by rw[<-hH];exact AE _ e
 have hHs:H.objs.size=s.heap.objs.size+1:=by rw[<-hH,EB]
 have hS:H.get? s.heap.objs.size=some { cls:=.type "list",data:=.seq ([]:List Value).toArray }:=by rw[<-hH];exact BB _ rfl
 have hT:Shared.TypeIs { s with heap:=H } (.ref a) "set":=⟨o,kH a o S.ho,S.ex.1⟩
 refine AA (wpAny_typeOf hT ?_)
 have h1:Builtin.List.listSameRef (.ref s.heap.objs.size) (.ref a)=false:=by simp[Builtin.List.listSameRef,hne]
 have h2:(Value.type "set" == Value.type "list")=false:=by decide
 have h3:(Value.type "set" == Value.type "tuple")=false:=by decide
 simp only[h1,h2,h3,Bool.or_false,AX,CN]
 refine AA (Ur (s:={ s with heap:=H }) (S.at (kH a o S.ho)) fun it T order h' d hia hiT hTa hsz k hp st hlt W=>?_)
 have hT':Shared.TypeIs { s with heap:=h',drawn:=d } (.ref a) "set":=⟨o,k a o (kH a o S.ho),S.ex.1⟩
 refine AA (CO ?_)
 unfold Builtin.List.listLengthHint
 refine AA (wpAny_specialOf hT' zCd ?_)
 wp_delta
 refine AA (wpAny_isInstance hT' (b:=true) (by rw[isSubtype_type];kernel_rfl) ?_)
 show wpAny _ A.in1 (typeOf (Value.ref a) >>= _) _ _ _
 refine AA (wpAny_typeOf hT' ?_)
 refine AF ?_
 rw[AQ (by decide)]
 refine AA (FB ?_)
 have hS1:h'.get? s.heap.objs.size=some { cls:=.type "list",data:=.seq ([]:List Value).toArray }:=k _ _ hS
 refine AA ?_
 show wpAny _ A.in1 (updateSeq s.heap.objs.size (·.push .none) >>= fun _=>updateSeq s.heap.objs.size (·.pop)) _ _ _
 refine AA (wpAny_updateSeq hS1 rfl ?_)
 have hS2:=DN (Obj.mapSeq (·.push Value.none)) hS1 rfl
 refine wpAny_updateSeq hS2 rfl ?_
 have hS3:=DN (Obj.mapSeq (·.pop)) hS2 rfl
 have oth:∀b ob,b≠s.heap.objs.size->h'.get? b=some ob->((h'.update s.heap.objs.size (Obj.mapSeq (·.push Value.none))).update s.heap.objs.size (Obj.mapSeq (·.pop))).get? b=some ob :=
  fun b ob hb e=>(C_ _ _ (Ne.symm hb)).trans ((C_ _ _ (Ne.symm hb)).trans e)
 have hSf:s.heap.objs.size∉[it,a,T]:=by
  have e1:s.heap.objs.size≠it:=fun e=>absurd hsz (by
   show ¬H.objs.size<=it
   rw[hHs,<-e];exact Nat.not_succ_le_self _)
  have e2:s.heap.objs.size≠T:=fun e=>by
   rcases hTa with z | z
   ·exact hne (e.trans z)
   ·exact absurd z (by
     show ¬H.objs.size<=T
     rw[hHs,<-e];exact Nat.not_succ_le_self _)
  simp only[BD,BK,or_false,not_or]
  exact⟨e1,hne,e2⟩
 have hle:es.size=order.length:=by
  have:=hp.length_eq
  rw[AB,AO]at this
  exact this.symm
 have hfew:=S.few
 refine AF ⟨plainId_quiet F.plain_extend_loop _,codeAny_extend_loopS (W A.in1 hh).toS (by rw[sizeLine_eq];omega) _ hSf _ es.size 0 _ _ _ rfl (CA _)
  ((W A.in1 hh).frame 0 h' _ st fun b hb ob e=>oth b ob (fun z=>hSf (z▸hb)) e) hS3 (ItemsOf.nil _) fun s' acc' c' hm hS' hacc=>?_⟩
 show wpAny _ A (load s.heap.objs.size >>= _) _ _ s'
 refine AA (wpAny_load hS' ?_)
 rw[hle]at hacc
 refine AF (hQ s' acc'.toList (fun b ob e=>hm.heap b ob (fun hb=>?_) (oth b ob (fun z=>?_) (k b ob (kH b ob e)))) hm.gens hm.os (AN hS') (by rw[Tq hacc];exact hp))
 ·have hbl:=AN e
  rcases BD.mp hb with z | z
  ·exact absurd hbl (by rw[z];exact DE _)
  ·rw[AD.mp z]at hbl
   have:H.objs.size<=it:=hsz
   rw[hHs]at this
   exact absurd (BM hbl (Nat.le_of_succ_le this)) (DE _)
 ·exact absurd (AN e) (by rw[z];exact DE _)
end
end ST
namespace ST
open PySem L2
theorem zBf(t:SetTable)(n:Nat):(t.orStandIn n).led=t.led:=by
 unfold SetTable.orStandIn
 split<;>rfl
theorem Xa(t:SetTable)(es:Array (Int×Value))(h:Int)(x:Value):(layNew t es h x).2.1.led=t.led:=by
 unfold layNew
 split
 ·rename_i sl wd e
  show((t.put sl).1.orStandIn _).led=_
  rw[zBf]
  rfl
 ·rfl
theorem Nq{t t':SetTable}{hs:Array Int}{n:Nat}{ord:Array Nat}(h:t.relaid hs n=some (t',ord)):t'.led=t.led/\t'.plain=t.plain:=by
 unfold SetTable.relaid SetTable.laid at h
 cases e:SetTable.layClean (SetTable.sizeAbove n-1) hs with
 | none=>rw[e]at h;cases h
 | some ow =>
  rw[e]at h
  cases h
  exact⟨rfl,rfl⟩
theorem Qr(t:SetTable)(es:Array (Int×Value))(n:Nat)(hp:t.plain=false):(relayAll t es n).2.1.led=t.led/\(relayAll t es n).2.1.plain=false:=by
 unfold relayAll
 split
 ·rename_i t' ord e
  obtain⟨e1,e2⟩:=Nq e
  dsimp only
  split
  ·exact⟨e1,e2.trans hp⟩
  ·exact⟨rfl,rfl⟩
 ·exact⟨rfl,rfl⟩
def zEx:Value->Str
 | .str x _=>x
 | _=>Str.empty
section
variable{prog:Program}{w:World}{A:Around}{E:Value->Shared->Prop}{s:Shared}{a:Addr}
structure TxtEs(w:World)(es:Array (Int×Value))(ss:List Str):Prop where
 el:∀e∈es.toList,∃x tk,e =(hashStr w x,Value.str x tk)
 pm:(es.toList.map fun e=>zEx e.2).Perm ss
 nd:ss.Nodup
def WS(w:World)(h:Heap)(a:Addr)(ss:List Str):Prop:=∃o es ep t,SAt w h a o es ep t/\TxtEs w es ss
theorem TxtEs.elems{es:Array (Int×Value)}{ss:List Str}(h:TxtEs w es ss):ElemsOf (C2 prog w) es.toList:=fun e he=>by
 obtain⟨x,tk,rfl⟩:=h.el e he
 exact⟨⟨.inr x,h9 x tk,rfl⟩,rfl⟩
theorem TxtEs.mem{es:Array (Int×Value)}{ss:List Str}(h:TxtEs w es ss)(x:Str):x∈ss↔∃e∈es.toList,(C2 prog w).is (.inr x) e.2=true:=by
 rw[<-h.pm.mem_iff]
 constructor
 ·intro hm
  obtain⟨e,he,rfl⟩:=AK.mp hm
  obtain⟨y,tk,rfl⟩:=h.el e he
  exact⟨_,he,h9 y tk⟩
 ·rintro⟨e,he,hk⟩
  obtain⟨y,tk,rfl⟩:=h.el e he
  have:y=x:=by
   rcases E5 (show Ej (.inr x) (.str y tk)=true from hk)with⟨i,t,e1,e2⟩ | ⟨z,t,e1,e2⟩
   ·cases e2
   ·cases e1;cases e2;rfl
  subst this
  exact AK.mpr ⟨_,he,rfl⟩
theorem TxtEs.len{es:Array (Int×Value)}{ss:List Str}(h:TxtEs w es ss):es.size=ss.length:=by
 have:=h.pm.length_eq
 rw[AB,AO]at this;exact this
theorem add_txt{ss:List Str}{x:Str}{tk:Tok}{Q:Bool->Shared->Prop}(S:WS w s.heap a ss)(hl:ss.length+1<4096)
  (h:∀h' b,Heap.SameBut a s.heap h'->WS w h' a (if x∈ss then ss else ss ++ [x])->Q b { s with heap:=h' }) :
  wpAny (model prog w) A (setAddHashed a (.str x tk) (hashStr w x)) Q E s:=by
 obtain⟨o,es,ep,t,S,T⟩:=id S
 have hkey:(C2 prog w).is (.inr x) (.str x tk)=true:=h9 x tk
 have hsz:=T.len
 unfold setAddHashed setAddHashedIn
 refine CO (AA (CF S.ho S.hd S.ft ?_))
 dsimp only
 rw[byScan_of (knd:=C2 prog w) rfl S.few T.elems,AQ rfl]
 unfold setAddByScan
 refine AA (AA (FB ?_))
 refine AA (wpAny_setScan_of hkey S.ho S.hd S.ft T.elems ?_)
 cases hr:List.findIdx? (fun e=>(C2 prog w).is (.inr x) e.2) es.toList with
 | some j =>
  dsimp only
  obtain⟨hj,hpj,_⟩:=List.findIdx?_eq_some_iff_getElem.mp hr
  have hx:x∈ss:=(T.mem (prog:=prog) x).mpr ⟨es.toList[j],DI hj,hpj⟩
  refine AF (AF ?_)
  have:=h s.heap false (Heap.SameBut.refl a s.heap) (by rw[AQ hx];exact⟨o,es,ep,t,S,T⟩)
  exact this
 | none =>
  dsimp only
  have hx:¬x∈ss:=fun hx=>by
   obtain⟨e,he,hp⟩:=(T.mem (prog:=prog) x).mp hx
   have:=List.findIdx?_eq_none_iff.mp hr e he
   rw[hp]at this;exact Bool.noConfusion this
  have hgw:∀(b:Bool) {s1:Shared} {Q':Unit->Shared->Prop},Q' () s1->wpAny (model prog w) A (match b with | true=>rule "set.scan.the-table-gave-way" | false=>pure ()) Q' E s1 :=
   fun b s1 Q' hq=>by cases b<;>first | exact AF hq | exact FB hq
  have hperm:=layNew_perm t es (hashStr w x) (.str x tk)
  have hfits:=layNew_fits t es (hashStr w x) (.str x tk)
  have hled:=Xa t es (hashStr w x) (.str x tk)
  show wpAny _ _ (match layNew t es (hashStr w x) (.str x tk)with | (es,t,wasDummy,gave)=>_) _ _ _
  generalize layNew t es (hashStr w x) (.str x tk)=L at hperm hfits hled⊢
  obtain⟨es1,t1,wasDummy,gave⟩:=L
  dsimp only at hperm hfits hled⊢
  rw[DD]at hperm
  have hT1:∀es2:Array (Int×Value),es2.toList.Perm es1.toList->TxtEs w es2 (ss ++ [x]):=fun es2 hp2=>by
   refine⟨fun e he=>?_,?_,?_⟩
   ·rcases AV.mp (hperm.mem_iff.mp (hp2.mem_iff.mp he))with z | z
    ·exact T.el e z
    ·exact⟨x,tk,AD.mp z⟩
   ·refine((hp2.trans hperm).map _).trans ?_
    rw[AR]
    exact T.pm.append (.refl _)
   ·rw[EE]
    refine⟨T.nd,by simp,fun y hy z hz=>?_⟩
    rw[AD.mp hz]
    rintro rfl
    exact hx hy
  have hsz1:es1.size=ss.length+1:=by
   have:=(hT1 es1 (.refl _)).len
   rw[BA]at this;exact this
  refine AA (hgw _ ?_)
  have key:∀t2:SetTable,t2.led=t.led->t2.plain=false->t2.fits es1.size=true->wpAny (model prog w) A (do
    storeSet a es1 t2
    if(!wasDummy&&t2.tooFull)=true then do
      (match(relayAll t2 es1 (SetTable.grown es1.size)).2.2 with | true=>rule "set.scan.the-table-gave-way" | false=>pure ())
      storeSet a (relayAll t2 es1 (SetTable.grown es1.size)).1 (relayAll t2 es1 (SetTable.grown es1.size)).2.1
      pure (some true)
     else pure (some true)) (fun r s'=>wpAny (model prog w) A (match r with | some added=>pure added | none=>setAddHashedIn a (.str x tk) (hashStr w x) 99999) Q E s') E s:=by
   intro t2 l2 p2 f2
   refine AA (HE S.ho S.hd ?_ (by rw[hsz1,sizeLine_eq];omega))
   have ho1:=Ez S.ho S.hd es1 t2
   have sb1:=EF s.heap a (Obj.putSet es1 t2)
   split
   ·have hp:=relayAll_perm t2 es1 (SetTable.grown es1.size)
    have hf:=relayAll_fits t2 es1 (SetTable.grown es1.size)
    obtain⟨hl3,hp3⟩:=Qr t2 es1 (SetTable.grown es1.size) p2
    have hz2:(relayAll t2 es1 (SetTable.grown es1.size)).1.size=es1.size:=by rw[<-AO,hp.length_eq,AO]
    refine AA (hgw _ ?_)
    refine AA (HE ho1 rfl ?_ (by rw[hz2,hsz1,sizeLine_eq];omega))
    refine AF (AF (h _ true (sb1.trans (EF _ a _)) ?_))
    rw[AJ hx]
    exact⟨_,_,_,_,⟨Ez ho1 rfl _ _,S.ex,rfl,hf,hl3.trans (l2.trans S.led),(fun z=>by rw[hp3]at z;cases z),by rw[hz2,hsz1];omega⟩,hT1 _ hp⟩
   ·refine AF (AF (h _ true sb1 ?_))
    rw[AJ hx]
    exact⟨_,es1,_,t2,⟨ho1,S.ex,rfl,f2,l2.trans S.led,(fun z=>by rw[p2]at z;cases z),by rw[hsz1];omega⟩,hT1 _ (.refl _)⟩
  cases hpl:t1.plain with
  | true =>
   rw[AQ rfl,hashByValue_scannable 8 (x:=Value.str x tk) rfl]
   refine AA (AF ?_)
   exact key { t1 with plain:=false } hled rfl (SetTable.fits_plain_off hfits)
  | false =>
   rw[AJ (by decide)]
   refine AA (AF ?_)
   exact key t1 hled hpl hfits
end
end ST
namespace L2
open PySem PySem.Spec PyProof.Rows
def Ss(w:World)(a:Addr)(ss:List Str):HO:=.ext fun h=>ST.WS w h a ss
section
variable{X:Cx}{pins:List (Addr×Obj)}{σ:St}{H:Hp}{s:Shared}{a:Addr}{ss:List Str}
theorem zBr{P:Program}{w:World}{H:Hp}{h:Heap}(z:ST.WS w h a ss):ObjOk P w H h a (Ss w a ss) :=
 ⟨z,let⟨o,_,_,_,S,_⟩:=z;⟨o,S.ho⟩,fun h1 h2 ⟨o,es,ep,t,S,r⟩ k=>⟨o,es,ep,t,S.at (k o S.ho),r⟩⟩
theorem Inv.setw(I:Inv X pins σ H s)(e:H a=some (Ss X.w a ss)):ST.WS X.w s.heap a ss:=by
 obtain⟨z,_⟩:=(show ObjOk X.prog X.w H s.heap a (Ss X.w a ss)from I.hok a _ e)
 exact z
def Yp(l:List Str)(x:Str):List Str:=if x∈l then l else l ++ [x]
end
theorem Inv.drawn{X:Cx}{pins:List (Addr×Obj)}{σ:St}{H:Hp}{s:Shared}(I:Inv X pins σ H s)(d:Drawn):Inv X pins σ H { s with drawn:=d } :=
 ⟨I.ok,I.os,I.bare,I.base,I.loc,I.cell,I.free,I.freeC,I.pin,I.hok,I.len⟩
section
variable{X:Cx}
theorem Hn(hc:X.calm=true):J0 X (.builtin "sorted") (fun xs H Q=>∃(p:Addr) (ss:List Str),xs = [.ref p]/\H p=some (Ss X.w p ss)/\∀(l:Addr) (ss':List Str),H l=none->ss'.Perm ss->ss'.Pairwise leS->Q (.ref l) (upd H l (.lst (ss'.map V.str)))):=by
 intro pins s σ H xs us Q I r h
 obtain⟨p,ss,rfl,hq,q⟩:=h
 obtain⟨u,rfl,ru⟩:=V2 r
 cases ru
 obtain⟨o,es,ep,t,S,T⟩:=I.setw hq
 refine TS.sorted_gen (ST.collect_set (show X.A.in1.handled=none from I.ok.hd hc) S fun s1 its k1 g1 o1 tk1 hpi=>?_)
 have hS:∀v∈its,∃x tk,v=Value.str x tk:=fun v hv=>by
  obtain⟨e,he,rfl⟩:=AK.mp (hpi.mem_iff.mp hv)
  obtain⟨x,tk,rfl⟩:=T.el e he
  exact⟨x,tk,rfl⟩
 have hstr:StrsAre its (its.map strOf):=by
  have:∀l:List Value,(∀v∈l,∃x tk,v=Value.str x tk)->StrsAre l (l.map strOf):=by
   intro l
   induction l with
   | nil=>exact fun _=>.nil
   | cons v r ih =>
    intro h
    obtain⟨x,tk,rfl⟩:=h v (AU ..)
    exact .cons _ _ (ih fun u hu=>h u (AM _ hu))
  exact this its hS
 have hlen:its.length=es.size:=by rw[hpi.length_eq,AB,AO]
 have hfew:=S.few
 have hss:(its.map strOf).Perm ss:=by
  refine(hpi.map strOf).trans ?_
  rw[CC]
  refine List.Perm.trans (List.Perm.of_eq ?_) T.pm
  refine List.map_congr_left fun e he=>?_
  obtain⟨x,tk,rfl⟩:=T.el e he
  rfl
 refine⟨o1,by rw[sizeLine_eq];omega,strKind,oneType',fun s2 _=>TS.keys_strs hstr,fun out h' e ho k hg=>?_⟩
 obtain⟨hp,hs⟩:=ho
 have hm:∀v∈out.toList,∃x t,v = .str x t:=fun v hv=>hS v (hp.mem_iff.mp hv)
 have hv:Vals ((out.toList.map strOf).map V.str) out.toList:=by
  have:∀us:List Value,(∀v∈us,∃x t,v = .str x t)->Vals ((us.map strOf).map V.str) us:=by
   intro us
   induction us with
   | nil=>exact fun _=>.nil
   | cons v r ih =>
    intro h
    obtain⟨x,t,rfl⟩:=h v (AU ..)
    exact .cons ⟨t,rfl⟩ (ih fun u hu=>h u (AM _ hu))
  exact this _ hm
 have hperm:(out.toList.map strOf).Perm ss:=(hp.map strOf).trans hss
 have hpw:(out.toList.map strOf).Pairwise leS:=by
  rw[CB]
  refine(FF.mp hs).imp fun{u v} ⟨hu,hv',q⟩=>?_
  obtain⟨x,t,rfl⟩:=hm u hu
  obtain⟨y,t',rfl⟩:=hm v hv'
  have q':decide (y.cps.toList<x.cps.toList)=false:=q
  exact of_decide_eq_false q'
 have k0:∀b o,s.heap.get? b=some o->h'.get? b=some o:=fun b o eb=>k b o (k1 b o eb)
 have hge:s.heap.objs.size<=s1.heap.objs.size:=EY tk1
 have hn:H s1.heap.objs.size=none:=I.hok.fresh hge
 obtain⟨h1,g',d',t',o'⟩:=s1
 have eo:o'=s.os:=o1
 have eg:g'=s.gens:=g1
 subst eo;subst eg
 refine⟨.ref h1.objs.size,upd H h1.objs.size (.lst ((out.toList.map strOf).map V.str)),?_,rfl,q _ _ hn hperm hpw⟩
 exact(I.laid (a:=h1.objs.size) (o:=.lst ((out.toList.map strOf).map V.str)) (t':=t') k0 hge ⟨by rw[AB,AB,hp.length_eq,sizeLine_eq];omega,out.toList,e,hv,by simpa using hg⟩).drawn d'
end
def Ob(P:Program)(w:World)(a:Addr)(ks:List (List Key×Addr)):HO:=.ext fun h=>ST.TSet (C2 P w) h a ks
def Kn(H:Hp)(ks:List (List Key×Addr)):Prop:=∀q∈ks,H q.2=some (.tup (q.1.map kV))
section
variable{X:Cx}{pins:List (Addr×Obj)}{σ:St}{H:Hp}{s:Shared}{a:Addr}{ks:List (List Key×Addr)}
theorem Mi(P:Program)(w:World):ST.Flat (C2 P w):=fun v ⟨x,h⟩=>(C2 P w).byValue x v h
theorem Th(P:Program)(w:World):ST.Scan (C2 P w):=fun v ⟨x,h⟩=>by
 rcases E5 (show Ej x v=true from h)with⟨i,t,_,rfl⟩ | ⟨y,t,_,rfl⟩<;>rfl
theorem Vs{P:Program}{w:World}{H:Hp}{h:Heap}(z:ST.TSet (C2 P w) h a ks):ObjOk P w H h a (Ob P w a ks) :=
 ⟨z,let⟨o,_,_,_,e,_⟩:=z;⟨o,e⟩,fun h1 h2 ⟨o,es,ep,t,e,r⟩ k=>⟨o,es,ep,t,k o e,r⟩⟩
theorem Inv.sett(I:Inv X pins σ H s)(e:H a=some (Ob X.prog X.w a ks)):ST.TSet (C2 X.prog X.w) s.heap a ks:=by
 obtain⟨z,_⟩:=(show ObjOk X.prog X.w H s.heap a (Ob X.prog X.w a ks)from I.hok a _ e)
 exact z
theorem Np:J0 X (.type "set") (fun xs H Q=>xs = []/\∀p,H p=none->Q (.ref p) (upd H p (Ob X.prog X.w p []))):=by
 intro pins s σ H xs us Q I r h
 obtain⟨rfl,q⟩:=h
 cases r
 refine call_set_0 fun led=>⟨.ref s.heap.objs.size,_,I.laid (t':=s.toks) (fun b o e=>AE _ e) (Nat.le_refl _) (Vs ?_),rfl,q _ (I.hok.fresh (Nat.le_refl _))⟩
 exact⟨_,#[],0,_,BB _ rfl,⟨rfl,rfl,rfl⟩,rfl,.refl _,⟨rfl,rfl,.inl rfl,by show 0*5<7*3;decide⟩⟩
def zDs(P:Program)(w:World):R2:=fun x y H Q=>∃a p ks k,y = .ref a/\x = .ref p/\H a=some (Ob P w a ks)/\H p=some (.tup (k.map kV))/\Kn H ks/\(∀q∈ks,q.1≠k)/\Q (.bl false) H
theorem Nj(hu:X.A.units+1<cLine):OpR X (compareOp .In) (zDs X.prog X.w):=by
 intro pins s σ H x y v u Q I rx ry h
 obtain⟨a,p,ks,k,rfl,rfl,hH,hp,ht,hn,q⟩:=h
 cases ry
 cases rx
 exact ST.in_free (neg:=false) hu (Mi _ _) (I.sett hH) (fun z hz=>w4 I.hok (ht z hz)) (w4 I.hok hp) hn ⟨.bl false,H,I.tok _,rfl,q⟩
def zBo(P:Program)(w:World):V->List V->Hp->VK->Prop:=fun x vs H Q=>∃a p ks k,x = .ref a/\vs = [.ref p]/\H a=some (Ob P w a ks)/\H p=some (.tup (k.map kV))/\Kn H ks/\(∀q∈ks,q.1≠k)/\ks.length+1<=300/\Q .non (upd H a (Ob P w a (ks ++ [(k,p)])))
theorem Ws(hu:X.A.units+1<cLine):MtM X "set.add" (zBo X.prog X.w):=by
 intro pins s σ H x vs v us Q I rx rv h
 obtain⟨a,p,ks,k,rfl,rfl,hH,hp,ht,hn,hl,q⟩:=h
 cases rx
 obtain⟨u,rfl,ru⟩:=rv.one
 cases ru
 refine ST.call_add hu (Mi _ _) (Th _ _) (I.sett hH) (fun z hz=>w4 I.hok (ht z hz)) (w4 I.hok hp) hn hl fun h' hs z=>?_
 exact⟨.non,_,I.write (x:=a) (e:=a) (by rw[hH];exact True.intro) (.inl rfl) (fun b q hb e=>(hs.2 b hb).trans e) (let⟨o,_,_,_,e,_⟩:=z;⟨o,e⟩) (Vs z),rfl,q⟩
end
section
variable{X:Cx}
theorem Ri:J0 X (.builtin "isinstance") (fun xs H Q=>∃x n t b,xs = [x,.ty n]/\TyOf X.K H x t/\PySem.W.kitOne X.K t (.type n)=some b/\Q (.bl b) H):=by
 intro pins s σ H xs us Q I r h
 obtain⟨x,n,t,b,rfl,ht,he,q⟩:=h
 obtain⟨u,v,rfl,ru,rv⟩:=r.two
 cases rv
 exact Rf I ru ht he fun tk=>⟨.bl b,H,I.tok _,rfl,q⟩
end
mutual
def Rp(K:PySem.W.Frag)(H:Hp):PyData->V->Prop
 | .none,v=>v = .non
 | .bool b,v=>v = .bl b
 | .int i,v=>v = .int i
 | .str x,v=>v = .str x
 | .list ds,v=>∃a xs,v = .ref a/\SqL K H a xs/\Rps K H ds xs
 | .tuple ds,v=>∃a xs,v = .ref a/\SqT K H a xs/\Rps K H ds xs
 | .dict _,_=>False
def Rps(K:PySem.W.Frag)(H:Hp):List PyData->List V->Prop
 | [],vs=>vs = []
 | d::ds,vs=>∃v r,vs=v::r/\Rp K H d v/\Rps K H ds r
end
section
variable{X:Cx}{pins:List (Addr×Obj)}{σ:St}{H:Hp}{s:Shared}
mutual
theorem Inv.reads(I:Inv X pins σ H s):∀(d:PyData) (v:V) (u:Value),Rp X.K H d v->RelV v u->∃as,Reads s.heap u d as
 | .none,v,u,h,r=>by
  cases(show v = .non by simpa [Rp] using h)
  cases r
  exact⟨_,.none⟩
 | .bool b,v,u,h,r=>by
  cases(show v = .bl b by simpa [Rp] using h)
  cases r
  exact⟨_,.bool b⟩
 | .int i,v,u,h,r=>by
  cases(show v = .int i by simpa [Rp] using h)
  obtain⟨t,rfl⟩:=r
  exact⟨_,.int i t⟩
 | .str x,v,u,h,r=>by
  cases(show v = .str x by simpa [Rp] using h)
  obtain⟨t,rfl⟩:=r
  exact⟨_,.str x t⟩
 | .list ds,v,u,h,r=>by
  obtain⟨a,xs,e,hq,hs⟩:=(show ∃a xs,v=V.ref a/\SqL X.K H a xs/\Rps X.K H ds xs by simpa [Rp] using h)
  subst e
  cases r
  obtain⟨its,rv,⟨o,n,e,hc,hd,hda⟩,_⟩:=I.list hq
  obtain⟨as,z⟩:=I.readsAll ds xs its hs rv
  exact⟨_,.list e hc hda (by simpa using z)⟩
 | .tuple ds,v,u,h,r=>by
  obtain⟨a,xs,e,hq,hs⟩:=(show ∃a xs,v=V.ref a/\SqT X.K H a xs/\Rps X.K H ds xs by simpa [Rp] using h)
  subst e
  cases r
  obtain⟨its,rv,⟨o,e,hc,n,hda⟩,_⟩:=I.tuple hq
  obtain⟨as,z⟩:=I.readsAll ds xs its hs rv
  exact⟨_,.tuple e hc hda (by simpa using z)⟩
 | .dict _,v,u,h,r=>by simp[Rp]at h
theorem Inv.readsAll(I:Inv X pins σ H s):∀(ds:List PyData) (vs:List V) (us:List Value),Rps X.K H ds vs->Vals vs us->∃as,ReadsAll s.heap us ds as
 | [],vs,us,h,r=>by
  cases(show vs = [] by simpa [Rps] using h)
  cases r
  exact⟨_,.nil⟩
 | d::ds,vs,us,h,r=>by
  obtain⟨v,vr,e,h1,h2⟩:=(show ∃v r,vs=v::r/\Rp X.K H d v/\Rps X.K H ds r by simpa [Rps] using h)
  subst e
  cases r with
  | cons r1 r2 =>
   obtain⟨as,z⟩:=I.reads d v _ h1 r1
   obtain⟨bs,z'⟩:=I.readsAll ds vr _ h2 r2
   exact⟨_,.cons z z'⟩
end
def Pl(d:PyData):Prop:=d.canLay0=true/\d.depth<=50
def zEf(K:PySem.W.Frag):R2:=fun x y H Q=>∃d e,Rp K H d x/\Rp K H e y/\Pl d/\Pl e/\Q (.bl (PyData.eqv d e)) H
def zDc(K:PySem.W.Frag):R2:=fun x y H Q=>∃d e,Rp K H d x/\Rp K H e y/\Pl d/\Pl e/\Q (.bl (!PyData.eqv d e)) H
theorem zBd(hu:X.A.units+64<cLine):OpR X (compareOp .Eq) (zEf X.K):=by
 intro pins s σ H x y v u Q I rx ry h
 obtain⟨d,e,h1,h2,p1,p2,q⟩:=h
 obtain⟨as,z1⟩:=I.reads d x v h1 rx
 obtain⟨bs,z2⟩:=I.reads e y u h2 ry
 exact PySem.SeqAt.compareEq_reads z1 z2 p1.1 p2.1 (by have:=p1.2;have:=p2.2;omega) ⟨.bl (PyData.eqv d e),H,I,rfl,q⟩
theorem zBh(hu:X.A.units+64<cLine):OpR X (compareOp .NotEq) (zDc X.K):=by
 intro pins s σ H x y v u Q I rx ry h
 obtain⟨d,e,h1,h2,p1,p2,q⟩:=h
 obtain⟨as,z1⟩:=I.reads d x v h1 rx
 obtain⟨bs,z2⟩:=I.reads e y u h2 ry
 exact PySem.SeqAt.compareNe_reads z1 z2 p1.1 p2.1 (by have:=p1.2;have:=p2.2;omega) ⟨.bl (!PyData.eqv d e),H,I,rfl,q⟩
def Yr(K:PySem.W.Frag)(neg:Bool):R2:=fun x y H Q=>∃d ds,Rp K H d x/\(Rp K H (.list ds) y\/Rp K H (.tuple ds) y)/\Pl d/\PyData.canLayAll0 ds=true/\Q (.bl (if neg then !(ds.any fun z=>PyData.eqv z d)else ds.any fun z=>PyData.eqv z d)) H
theorem Zo(hu:X.A.units+64<cLine):OpR X (compareOp .In) (Yr X.K false):=by
 intro pins s σ H x y v u Q I rx ry h
 obtain⟨d,ds,h1,h2,p1,p2,q⟩:=h
 obtain⟨as,z1⟩:=I.reads d x v h1 rx
 have hu':X.A.units+1+min (PyData.depthAll ds) d.depth<cLine:=by have:=p1.2;omega
 rcases h2 with h2 | h2
 ·obtain⟨bs,z2⟩:=I.reads (.list ds) y u h2 ry
  exact PySem.SeqAt.in_list_reads z2 z1 p2 p1.1 hu' ⟨.bl _,H,I,rfl,q⟩
 ·obtain⟨bs,z2⟩:=I.reads (.tuple ds) y u h2 ry
  exact PySem.SeqAt.in_tuple_reads z2 z1 p2 p1.1 hu' ⟨.bl _,H,I,rfl,q⟩
theorem Oz(hu:X.A.units+64<cLine):OpR X (compareOp .NotIn) (Yr X.K true):=by
 intro pins s σ H x y v u Q I rx ry h
 obtain⟨d,ds,h1,h2,p1,p2,q⟩:=h
 obtain⟨as,z1⟩:=I.reads d x v h1 rx
 have hu':X.A.units+1+min (PyData.depthAll ds) d.depth<cLine:=by have:=p1.2;omega
 rcases h2 with h2 | h2
 ·obtain⟨bs,z2⟩:=I.reads (.list ds) y u h2 ry
  exact PySem.SeqAt.notIn_list_reads z2 z1 p2 p1.1 hu' ⟨.bl _,H,I,rfl,q⟩
 ·obtain⟨bs,z2⟩:=I.reads (.tuple ds) y u h2 ry
  exact PySem.SeqAt.notIn_tuple_reads z2 z1 p2 p1.1 hu' ⟨.bl _,H,I,rfl,q⟩
end
section
variable{X:Cx}
theorem Vals.insert{xs:List V}{us:List Value}{x:V}{u:Value}(h:Vals xs us)(r:RelV x u)(k:Nat):Vals (xs.take k++x::xs.drop k) (us.take k++u::us.drop k):=(h.take k).append (.cons r (h.drop k))
def Xd:V->List V->Hp->VK->Prop:=fun x vs H Q=>∃l xs i k y,x = .ref l/\vs = [.int i,y]/\i =((k:Nat):Int)/\H l=some (.lst xs)/\k<=xs.length/\xs.length<sizeLine/\Q .non (upd H l (.lst (xs.take k++y::xs.drop k)))
theorem zCb{k:Nat}{i:Int}(e:i =(k:Int))(h:k<=sizeLine):¬(!Builtin.List.listFitsIndex i)=true:=by
 rw[sizeLine_eq]at h
 have h1:-(2^63:Int)<=i:=by omega
 have h2:i<2^63:=by omega
 have:=fitsIndex_both h1 h2
 simpa using this
theorem Qo:MtM X "list.insert" Xd:=by
 intro pins s σ H x vs v us Q I rx rv h
 obtain⟨l,xs,i,k,y,rfl,rfl,hi,hH,hk,hz,q⟩:=h
 cases rx
 obtain⟨u1,u2,rfl,⟨t,rfl⟩,ru⟩:=rv.two
 obtain⟨z,its,n,r,hl,e⟩:=I.lstM hH
 have h0:k<=sizeLine:=by omega
 have h1:=zCb hi h0
 have h2:its.toArray.size<=sizeLine:=by rw[AZ];omega
 have hM:=@PySem.AutoListH.list_insert_list_int_val_1 l its.toArray n i t u2 h1 h2
 refine call_meets F.slot_list_insert ⟨_,e,rfl⟩ F.entry_list_insert (F.args_list_insert_3 _ _ _) hM ⟨e,?_⟩
 refine⟨.non,_,I.lset (its':=its.take k++u2::its.drop k) hH e ?_ (r.insert ru k) ?_,rfl,q⟩
 ·have hmin:min k its.length=k:=by omega
  have hn:¬((k:Int)<0):=by omega
  subst hi
  have hneg:¬((k:Int)+0<0):=by omega
  have e3:List.take (its.length-k) (List.drop k its)=List.drop k its:=CZ (by simp)
  simp[hmin,hn,e3]
 ·rw[BA,BN,AS,DG]
  omega
def Vr:V->List V->Hp->VK->Prop:=fun x vs H Q=>∃z y ps,x = .str z/\vs = [.str y]/\(decide (z.length<y.length)||decide (Builtin.Str.strKind z<Builtin.Str.strKind y))=false/\(y.length == 0)=false /\
 (Builtin.Str.occurrences z y 0 z.length (z.length+1)).isEmpty=false/\z.length<=4000/\Builtin.Str.partsBetween z (Builtin.Str.occurrences z y 0 z.length (z.length+1)) y.length=ps/\ps.length<=4000/\∀l,H l=none->Q (.ref l) (upd H l (.lst (ps.map V.str)))
theorem Fl:∀(ps:List Str) (tk:Nat),Vals (ps.map V.str) (strsFrom tk ps)
 | [],_=>.nil
 | _::r,tk=>.cons ⟨tk,rfl⟩ (Fl r (tk+1))
theorem Sx:MtM X "str.split" Vr:=by
 intro pins s σ H x vs v us Q I rx rv h
 obtain⟨z,y,ps,rfl,rfl,h1,h2,h3,h4,rfl,h6,q⟩:=h
 obtain⟨t,rfl⟩:=rx
 obtain⟨u,rfl,⟨tk,rfl⟩⟩:=rv.one
 have hz:z.length<=sizeLine:=by rw[sizeLine_eq];omega
 have hp:(Builtin.Str.partsBetween z (Builtin.Str.occurrences z y 0 z.length (z.length+1)) y.length).length<=sizeLine:=by rw[sizeLine_eq];omega
 refine call_meets F.slot_str_split (typeIs_str _ _ _) F.entry_str_split (F.args_str_split_2 _ _) (PySem.meets_str_split_sep z y t tk h1 h2 h3 hz hp) ?_
 exact⟨.ref s.heap.objs.size,_,I.lnew (Fl _ _) (by rw[AB];exact hp),rfl,q _ I.fresh⟩
end
end L2
namespace L2
open PySem PySem.Spec PyProof.Rows
structure Fn(K:PySem.W.Frag)(mg:Str->Option Value)(x:Str)(st:Stmt)(ps:List Str) where
 f:Addr
 fd:FuncData
 F:Fun K x x st f fd
 b:Binds K fd ps []
 m:mg x=some (.ref f)
structure Mt(K:PySem.W.Frag)(C:Addr)(m qual:Str)(st:Stmt)(ps:List Str) where
 f:Addr
 fd:FuncData
 F:Fun K m qual st f fd
 b:Binds K fd ps []
 m:Meth K C m f
section
variable{X:Cx}
theorem C6{x:Str}{st:Stmt}{ps:List Str}{k:Nat}{sp:Sp}{e:Expr}{es:List Expr}{t:TA}{p pos:Pos}(D:Fn X.K X.mg x st ps)(G:FnOk X.prog X.w X.K X.mg X.base CX0 k D.f D.fd ps sp)(hr:Room k X.A)(ha:PA X (e::es) t)
  (hg:Gl X x:=by rfl) (hdb:(x ==("__debug__":Str))=false:=by decide) (hs:starEach (e::es) X.env =(false,eval e X.env)::starEach es X.env:=by rfl) (hpl:(backTo pos (starEach es X.env)).any (·.1)=false:=by rfl) :
  PE X (.Call (.Name x p) (e::es) [] pos) (Yn sp [] E0 t):=Yf G hr hg D.m D.F.kp D.b .nil K6 ha hdb hs hpl
def Of(P:Program)(w:World)(x:V)(H:Hp):Prop:=∃p,x = .ref p/\((∃l,H p=some (Oa P w p l))\/(∃l,H p=some (Ss w p l))\/∃ks,H p=some (Ob P w p ks))
theorem zBs{pins:List (Addr×Obj)}{σ:St}{H:Hp}{s:Shared}{x:V}{v:Value}(I:Inv X pins σ H s)(r:RelV x v)(ty:Of X.prog X.w x H):s.TypeIs v "set"/\∀a,v = .ref a->∃ob,s.heap.get? a=some ob/\ob.dict=none:=by
 obtain⟨p,rfl,h⟩:=ty
 cases r
 have z:∃o,s.heap.get? p=some o/\o.ExactSet:=by
  rcases h with⟨l,h⟩ | ⟨l,h⟩ | ⟨l,h⟩
  ·obtain⟨o,_,_,_,e,ex,_⟩:=I.set h
   exact⟨o,e,ex⟩
  ·obtain⟨o,_,_,_,S,_⟩:=I.setw h
   exact⟨o,S.ho,S.ex⟩
  ·obtain⟨o,_,_,_,e,ex,_⟩:=I.sett h
   exact⟨o,e,ex⟩
 obtain⟨o,e,ex⟩:=z
 refine⟨⟨o,e,ex.1⟩,fun a e2=>?_⟩
 cases e2
 exact⟨o,e,ex.2.1⟩
def zDp(P:Program)(w:World)(r:V->List V->Hp->VK->Prop)(to:TE)(t:TA):TE:=fun σ H Q=>to σ H fun x H1=>Of P w x H1/\t σ H1 fun xs H2=>r x xs H2 Q
theorem Wp{o e:Expr}{to:TE}{t:TA}{apos cpos:Pos}{r:V->List V->Hp->VK->Prop}(hm:MtM X "set.add" r)(ho:PE X o to)(ha:PA X [e] t)
  (hbase:attributeBase o "add" X.env (eval o X.env)=eval o X.env:=by rfl)
  (hfew:((backTo cpos (starEach [e] X.env)).all (fun x=>!x.1) &&(backToKw cpos (keywordEach [] X.env)).all (fun x=>x.1.isSome)
   && decide ([e].length +([]:List Keyword).length +(if([]:List Keyword).isEmpty then 0 else 1)<30))=true:=by rfl)
  (hline:(apos.endLine == cpos.line)=true:=by rfl) (hs:starEach [e] X.env = [(false,eval e X.env)]:=by rfl) :
  PE X (.Call (.Attribute o "add" apos) [e] [] cpos) (zDp X.prog X.w r to t):=by
 intro pins s σ H Q I h
 refine wpAny_Call_method_late hbase hfew hline rfl (thn (ho pins s σ H _ I h) fun v s1 ⟨x,H1,I1,r1,ty,q1⟩=>?_)
 obtain⟨h1,h2⟩:=zBs I1 r1 ty
 refine⟨"set", "set.add",F.plainAttrs_set,F.slot_set_add,F.type_set_add,h1,h2,?_⟩
 have hA:=ha cpos pins s1 σ H1 _ I1 q1
 rw[hs]at hA⊢
 refine Calls.callWith_builtin rfl (Calls.evalArgs_plain ?_)
 exact thn hA fun us s2 ⟨vs,H2,I2,r2,q2⟩=>hm pins s2 σ H2 x vs v us Q I2 r1 r2 q2
theorem Wl{x:Str}{i:Int}{pos:Pos}(h:∃t,X.mg x=some (.int i t))(hg:Gl X x:=by rfl)(hd:(x ==("__debug__":Str))=false:=by decide):PE X (.Name x pos) (tC (.int i)):=by
 obtain⟨t,e⟩:=h
 exact Iz hg e ⟨t,rfl⟩ hd
theorem zCr{x y:Str}{pos:Pos}(h:∃t,X.mg x=some (.str y t))(hg:Gl X x:=by rfl)(hd:(x ==("__debug__":Str))=false:=by decide):PE X (.Name x pos) (tC (.str y)):=by
 obtain⟨t,e⟩:=h
 exact Iz hg e ⟨t,rfl⟩ hd
theorem zAy{x:Str}{n:String}{pos:Pos}(hm:X.mg x=none)(hv:bootBuiltins x=some (.type n))(hg:Gl X x:=by rfl)(hn:x≠ "__name__":=by decide)(hd:(x ==("__debug__":Str))=false:=by decide):PE X (.Name x pos) (tC (.ty n)) :=
 Wr hg hm hv rfl hn hd
theorem E9{x:Str}{id:String}{r:List V->Hp->VK->Prop}{e:Expr}{es:List Expr}{t:TA}{p pos:Pos}(hc:J0 X (.builtin id) r)(hm:X.mg x=none)(hv:bootBuiltins x=some (.builtin id))(ha:PA X (e::es) t)(hg:Gl X x:=by rfl)(hn:x≠ "__name__":=by decide)(hdb:(x ==("__debug__":Str))=false:=by decide)
  (hs:starEach (e::es) X.env =(false,eval e X.env)::starEach es X.env:=by rfl) (hpl:(backTo pos (starEach es X.env)).any (·.1)=false:=by rfl):PE X (.Call (.Name x p) (e::es) [] pos) (tCB r t):=Su hc hg hm hv ha hn hdb hs hpl
theorem Is{x:Str}{T:String}{r:List V->Hp->VK->Prop}{e:Expr}{es:List Expr}{t:TA}{p pos:Pos}(hc:J0 X (.type T) r)(hm:X.mg x=none)(hv:bootBuiltins x=some (.type T))(ha:PA X (e::es) t)(hg:Gl X x:=by rfl)(hn:x≠ "__name__":=by decide)(hdb:(x ==("__debug__":Str))=false:=by decide)
  (hs:starEach (e::es) X.env =(false,eval e X.env)::starEach es X.env:=by rfl) (hpl:(backTo pos (starEach es X.env)).any (·.1)=false:=by rfl):PE X (.Call (.Name x p) (e::es) [] pos) (tCB r t):=Pd hc hg hm hv ha hn hdb hs hpl
theorem E8{scope:Scope}{cl:List (Str×Addr)}{N':List Str}{cap:List (Option Nat)}(caps:Caps X scope cl N' cap)(cin:ClIn X cl)(clos:closureFor scope X.env=pure cl:=by rfl)(kind:scope.kind = .function:=by rfl)(nocell:∀y∈scope.names,y.2≠ .cell:=by decide +kernel)
  (loc:∀y∈scope.names,y.2 = .local->scope.names.lookup y.1=some .local:=by decide +kernel) (has:((relabel scope X.env).names.all fun y=>!(y.2 == .cell||y.2 == .free)||(cl.lookup y.1).isSome)=true:=by rfl):CScope X scope cl N' cap:=⟨kind,nocell,loc,clos,cin,has,caps⟩
theorem pgC{scope:Scope}{cl:List (Str×Addr)}{N':List Str}{pins:List (Addr×Obj)}{ex:List Addr}{s3:Shared}{H3:Hp}{x:Str}{pos:Pos}(i:Nat)(hN:N'.Nodup:=by decide +kernel)(hi:N'[i]?=some x:=by rfl)(hx:Loc (cxC X scope cl N' pins ex s3 H3).env.scope x:=by exact Or.inl rfl)
  (hf:(cxC X scope cl N' pins ex s3 H3).env.scope.names.lookup x=some .local:=by rfl):PG (cxC X scope cl N' pins ex s3 H3) (.Name x pos) (Q6 i):=C7 (X:=cxC X scope cl N' pins ex s3 H3) hN hi hx (.inr hf)
end
theorem W8:bootBuiltins "len" = some (.builtin "len"):=by decide +kernel
theorem Hz:bootBuiltins "enumerate" = some (.type "enumerate"):=by decide +kernel
theorem zBn:bootBuiltins "min" = some (.builtin "min"):=by decide +kernel
theorem Zg:bootBuiltins "max" = some (.builtin "max"):=by decide +kernel
theorem Vt:bootBuiltins "abs" = some (.builtin "abs"):=by decide +kernel
theorem P1:bootBuiltins "sorted" = some (.builtin "sorted"):=by decide +kernel
theorem Vc:bootBuiltins "int" = some (.type "int"):=by decide +kernel
theorem zBg:bootBuiltins "str" = some (.type "str"):=by decide +kernel
theorem Jo:bootBuiltins "list" = some (.type "list"):=by decide +kernel
theorem Tp:bootBuiltins "tuple" = some (.type "tuple"):=by decide +kernel
theorem Ov:bootBuiltins "set" = some (.type "set"):=by decide +kernel
theorem h8:bootBuiltins "isinstance" = some (.builtin "isinstance"):=by decide +kernel
theorem U0:bootBuiltins "all" = some (.builtin "all"):=by decide +kernel
def KeepAt(a:Addr)(H0 H:Hp):Prop:=∀o,H0 a=some o->H a=some o
def Sm(D:List Addr)(H H':Hp):Prop:=∀b o,H b=some o->b∉D->H' b=some o
theorem Same.at{H0 H:Hp}(h:Same H0 H)(a:Addr):KeepAt a H0 H:=fun o e=>h a o e
theorem Same.new{H:Hp}{p:Addr}{o:HO}(h:H p=none):Same H (upd H p o):=fun b u e=>by rw[B7 (B0 e h)];exact e
theorem Same.upd{H0 H:Hp}{p:Addr}{o:HO}(s:Same H0 H)(h:H0 p=none):Same H0 (upd H p o):=fun b u e=>by rw[B7 (B0 e h)];exact s b u e
theorem Same.sm{D:List Addr}{H H':Hp}(h:Same H H'):Sm D H H':=fun b o e _=>h b o e
theorem Sm.refl(D:List Addr)(H:Hp):Sm D H H:=fun _ _ e _=>e
theorem Sm.trans{D:List Addr}{H H1 H2:Hp}(a:Sm D H H1)(b:Sm D H1 H2):Sm D H H2:=fun c o h n=>b c o (a c o h n) n
theorem Sm.new{D:List Addr}{H H1:Hp}{p:Addr}{o:HO}(a:Sm D H H1)(h:H1 p=none):Sm D H (L2.upd H1 p o):=fun b u e n=>by
 have:=a b u e n
 rw[B7 (B0 this h)];exact this
theorem Sm.upd{D:List Addr}{H H1:Hp}{p:Addr}{o:HO}(a:Sm D H H1)(h:p∈D):Sm D H (L2.upd H1 p o):=fun b u e n=>by
 rw[B7 (show b≠p from fun z=>n (by rw[z];exact h))];exact a b u e n
theorem Sm.updN{D:List Addr}{H H1:Hp}{p:Addr}{o:HO}(a:Sm D H H1)(h:H p=none):Sm D H (L2.upd H1 p o):=fun b u e n=>by rw[B7 (B0 e h)];exact a b u e n
theorem Sm.at{D:List Addr}{H H':Hp}(h:Sm D H H'){a:Addr}(n:a∉D):KeepAt a H H':=fun o e=>h a o e n
theorem Sm.none{D:List Addr}{H H':Hp}(h:Sm D H H'){a:Addr}(n:a∉D)(e:H' a=Option.none):H a=Option.none:=by
 cases q:H a with
 | none=>rfl
 | some o=>rw[h a o q n]at e;cases e
theorem KeepAt.seqL{K:PySem.W.Frag}{H H':Hp}{a:Addr}{xs:List V}(e:KeepAt a H H')(h:SqL K H a xs):SqL K H' a xs:=by
 rcases h with(h | ⟨o,h⟩) | h
 ·exact .inl (.inl (e _ h))
 ·exact .inl (.inr ⟨o,e _ h⟩)
 ·exact .inr h
theorem KeepAt.seqT{K:PySem.W.Frag}{H H':Hp}{a:Addr}{xs:List V}(e:KeepAt a H H')(h:SqT K H a xs):SqT K H' a xs:=by
 rcases h with(h | ⟨o,h⟩) | h
 ·exact .inl (.inl (e _ h))
 ·exact .inl (.inr ⟨o,e _ h⟩)
 ·exact .inr h
def Sqs(K:PySem.W.Frag)(H:Hp)(a:Addr)(xs:List V):Prop:=SqL K H a xs\/SqT K H a xs
structure AsSeq(J:It)(xs:List V)(a:Addr)(H0:Hp):Prop where
 go:∀H i,KeepAt a H0 H->i<xs.length->J.go i H
 stop:∀H,KeepAt a H0 H->J.stop xs.length H
 yld:∀H i x H',KeepAt a H0 H->i<xs.length->J.yld i H x H'->H'=H/\xs[i]?=some x
theorem asL{K:PySem.W.Frag}{H0:Hp}{a:Addr}{xs:List V}(h:SqL K H0 a xs):AsSeq (Itl K a) xs a H0 :=
 ⟨fun H i k hi=>⟨xs,xs[i],k.seqL h,AC hi⟩,fun H k=>⟨xs,k.seqL h,Nat.le_refl _⟩,fun H i x H' k hi ⟨e,y⟩=>⟨e,y xs (k.seqL h)⟩⟩
theorem asT{K:PySem.W.Frag}{H0:Hp}{a:Addr}{xs:List V}(h:SqT K H0 a xs):AsSeq (Itt K a) xs a H0 :=
 ⟨fun H i k hi=>⟨xs,xs[i],k.seqT h,AC hi⟩,fun H k=>⟨xs,k.seqT h,Nat.le_refl _⟩,fun H i x H' k hi ⟨e,y⟩=>⟨e,y xs (k.seqT h)⟩⟩
theorem Ty{J:It}{n:Nat}{g:TG}{tb:TS}{D:Ends}{σ:St}{H:Hp}(Pv:Nat->St->Hp->Prop)(h0:Pv 0 σ H)(hgo:∀i σ H,i<n->Pv i σ H->J.go i H)(hst:∀σ H,Pv n σ H->J.stop n H)
  (hs:∀i σ H x H',i<n->Pv i σ H->J.yld i H x H'->g x σ H' fun σ2 H2=>tb { D with nx:=Pv (i+1),ct:=Pv (i+1),bk:=D.nx } σ2 H2) (hd:∀σ H,Pv n σ H->D.nx σ H) :
  ∃W:Nat->Nat->St->Hp->Prop,(∃m,W 0 m σ H)/\∀i m σ H,W i m σ H ->
   (J.stop i H/\D.nx σ H)\/(J.go i H/\∃N:St->Hp->Prop,(∀σ' H',N σ' H'->∃m',m' < m/\W (i+1) m' σ' H')/\∀x H',J.yld i H x H'->g x σ H' fun σ2 H2=>tb { D with nx:=N,ct:=N,bk:=D.nx } σ2 H2):=by
 refine⟨fun i m σ H=>m=n-i/\i<=n/\Pv i σ H,⟨n,by simp,CA _,h0⟩,?_⟩
 rintro i m σ H ⟨rfl,hi,p⟩
 by_cases hlt:i<n
 ·exact .inr ⟨hgo i σ H hlt p,Pv (i+1),fun σ' H' p'=>⟨n-(i+1),by omega,rfl,hlt,p'⟩,fun x H' y=>hs i σ H x H' hlt p y⟩
 ·have e:i=n:=by omega
  subst e
  exact .inl ⟨hst σ H p,hd σ H p⟩
theorem zBk{J:It}{xs:List V}{a:Addr}{H0:Hp}(as:AsSeq J xs a H0){g:TG}{tb:TS}{D:Ends}{σ:St}{H:Hp}(Pv:Nat->St->Hp->Prop)(h0:Pv 0 σ H)(hk:∀i σ H,i<=xs.length->Pv i σ H->KeepAt a H0 H)
  (hs:∀i σ H x,xs[i]?=some x->Pv i σ H->g x σ H fun σ2 H2=>tb { D with nx:=Pv (i+1),ct:=Pv (i+1),bk:=D.nx } σ2 H2) (hd:∀σ H,Pv xs.length σ H->D.nx σ H) :
  ∃W:Nat->Nat->St->Hp->Prop,(∃m,W 0 m σ H)/\∀i m σ H,W i m σ H ->
   (J.stop i H/\D.nx σ H)\/(J.go i H/\∃N:St->Hp->Prop,(∀σ' H',N σ' H'->∃m',m' < m/\W (i+1) m' σ' H')/\∀x H',J.yld i H x H'->g x σ H' fun σ2 H2=>tb { D with nx:=N,ct:=N,bk:=D.nx } σ2 H2) :=
 Ty (n:=xs.length) Pv h0 (fun i σ H hi p=>as.go H i (hk i σ H (EY hi) p) hi) (fun σ H p=>as.stop H (hk _ σ H (Nat.le_refl _) p)) (fun i σ H x H' hi p y=>by
  obtain⟨rfl,e⟩:=as.yld H i x H' (hk i σ H (EY hi) p) hi y
  exact hs i σ _ x e p) hd
theorem Hd{J:It}{n:Nat}{g:TG}{tc:TT}{em:TEm}{σ:St}{H:Hp}{Q:St->Hp->Prop}(Pv:Nat->St->Hp->Prop)(h0:Pv 0 σ H)(hgo:∀i σ H,i<n->Pv i σ H->J.go i H)(hst:∀σ H,Pv n σ H->J.stop n H)
  (hs:∀i σ H x H' (N:St->Hp->Prop),i<n->Pv i σ H->J.yld i H x H'->(∀σ' H',Pv (i+1) σ' H'->N σ' H')->g x σ H' fun σ2 H2=>tc σ2 H2 fun b H3=>if b=true then em σ2 H3 N else N σ2 H3)
  (hd:∀σ H,Pv n σ H->Q σ H):Ea g tc em J σ H Q:=by
 refine⟨fun i m σ H=>m=n-i/\i<=n/\Pv i σ H,⟨n,by simp,CA _,h0⟩,?_⟩
 rintro i m σ H ⟨rfl,hi,p⟩
 by_cases hlt:i<n
 ·exact .inr ⟨hgo i σ H hlt p,fun x H' y=>hs i σ H x H' _ hlt p y fun σ3 H4 p'=>⟨n-(i+1),by omega,rfl,hlt,p'⟩⟩
 ·have e:i=n:=by omega
  subst e
  exact .inl ⟨hst σ H p,hd σ H p⟩
theorem O8{J:It}{xs:List V}{a:Addr}{H0:Hp}(as:AsSeq J xs a H0){g:TG}{tc:TT}{em:TEm}{σ:St}{H:Hp}{Q:St->Hp->Prop}(Pv:Nat->St->Hp->Prop)(h0:Pv 0 σ H)(hk:∀i σ H,i<=xs.length->Pv i σ H->KeepAt a H0 H)
  (hs:∀i σ H x (N:St->Hp->Prop),xs[i]?=some x->Pv i σ H->(∀σ' H',Pv (i+1) σ' H'->N σ' H')->g x σ H fun σ2 H2=>tc σ2 H2 fun b H3=>if b=true then em σ2 H3 N else N σ2 H3)
  (hd:∀σ H,Pv xs.length σ H->Q σ H):Ea g tc em J σ H Q :=
 Hd (n:=xs.length) Pv h0 (fun i σ H hi p=>as.go H i (hk i σ H (EY hi) p) hi) (fun σ H p=>as.stop H (hk _ σ H (Nat.le_refl _) p)) (fun i σ H x H' N hi p y hN=>by
  obtain⟨rfl,e⟩:=as.yld H i x H' (hk i σ H (EY hi) p) hi y
  exact hs i σ _ x N e p hN) hd
theorem An{em:TEm}{N:St->Hp->Prop}{σ:St}{H:Hp}{i:Nat}{x:V}(h:em (σ.set i (some x)) H N):Q6 i x σ H fun σ2 H2=>y6 σ2 H2 fun b H3=>if b=true then em σ2 H3 N else N σ2 H3:=by
 show if true=true then em (σ.set i (some x)) H N else N (σ.set i (some x)) H
 rw[AQ rfl]
 exact h
theorem Wt{em:TEm}{N:St->Hp->Prop}{σ:St}{H:Hp}(h:em σ H N):y6 σ H fun b H3=>if b=true then em σ H3 N else N σ H3:=by
 show if true=true then em σ H N else N σ H
 rw[AQ rfl]
 exact h
section
variable{X:Cx}(K:PySem.W.Frag)(P:Program)(w:World){tg:Expr}
theorem piL{l:Expr}{tl:TE}(hl:PE X l tl)(hK:X.K=K:=by rfl):PI X tg l (zBp K tl):=by subst hK;exact Xz hl
theorem piT{l:Expr}{tl:TE}(hl:PE X l tl)(hK:X.K=K:=by rfl):PI X tg l (zDv K tl):=by subst hK;exact Zx hl
theorem piE{elts:List Expr}{kk:Nat}{tp:Pos}{a:Expr}{ta:TA}{p pos:Pos}(hm:X.mg "enumerate" = none)(ha:PA X [a] ta)(hg:Gl X "enumerate":=by rfl)(hs:starEach [a] X.env = [(false,eval a X.env)]:=by rfl)(hK:X.K=K:=by rfl) :
  PI X (.Tuple elts kk tp) (.Call (.Name "enumerate" p) [a] [] pos) (Zh K ta):=by subst hK;exact Wh hg hm Hz ha hs
theorem zBz{a:Expr}{ta:TA}{p pos:Pos}(hm:X.mg "range" = none)(ha:PA X [a] ta)(hg:Gl X "range":=by rfl)(hs:starEach [a] X.env = [(false,eval a X.env)]:=by rfl):PI X tg (.Call (.Name "range" p) [a] [] pos) (Zy ta):=Py hg hm ha hs
theorem pgT{es:List Expr}{k:Nat}{t:TGs}{n:Nat}{pos:Pos}(h:PGs X es t)(hc:X.calm=true:=by rfl)(hn:(assignEach es X.env).length=n:=by rfl)(hst:(assignEach es X.env).findIdx? (·.1)=none:=by rfl)(hK:X.K=K:=by rfl):PG X (.Tuple es k pos) (zDi K n t):=by subst hK;exact zAs hc h hn hst
theorem peF{e:Expr}{ta:TE}{f:Str}{pos:Pos}(he:PE X e ta)(hb:attributeBase e f X.env (eval e X.env)=eval e X.env:=by rfl)(hK:X.K=K:=by rfl):PE X (.Attribute e f pos) (zEd K ta f):=by subst hK;exact Za he hb
theorem psF{o value:Expr}{ta tv:TE}{f:Str}{pos pos':Pos}(ha:PE X o ta)(hv:PE X value tv)(hs:swapsWith value (some (.Attribute o f pos')) pos.line X.env=pure false:=by rfl)(hK:X.K=K:=by rfl):PS X (.Assign [.Attribute o f pos'] value pos) (zDz K ta tv f):=by subst hK;exact zAv ha hv hs
theorem j7(hK:X.K=K:=by rfl):J0 X (.builtin "len") (fun xs H Q=>∃p ys,xs = [.ref p]/\(SqL K H p ys\/SqT K H p ys)/\Q (.int ys.length) H):=by subst hK;exact Gv
theorem Ip(hK:X.K=K:=by rfl):J0 X (.type "list") (fun xs H Q=>∃p ys,xs = [.ref p]/\(SqL K H p ys\/SqT K H p ys)/\∀l,H l=none->Q (.ref l) (upd H l (.lst ys))):=by subst hK;exact Fq
theorem V5(hc:X.calm=true:=by rfl)(hK:X.K=K:=by rfl):J0 X (.builtin "all") (fun xs H Q=>∃(p:Addr) (bs:List Bool),xs = [.ref p]/\SqL K H p (bs.map V.bl)/\Q (.bl (bs.all id)) H):=by subst hK;exact To hc
theorem Fc(hK:X.K=K:=by rfl):J0 X (.builtin "sorted") (fun xs H Q=>∃(p:Addr) (ss:List Str),xs = [.ref p]/\SqL K H p (ss.map V.str)/\∀(l:Addr) (ss':List Str),H l=none->ss'.Perm ss->ss'.Pairwise leS->Q (.ref l) (upd H l (.lst (ss'.map V.str)))):=by subst hK;exact Fo
theorem So(hK:X.K=K:=by rfl):J0 X (.builtin "sorted") (fun xs H Q=>∃(p:Addr) (ps:List PA2),xs = [.ref p]/\SqL K H p (ps.map fun q=>V.ref q.1)/\(∀q∈ps,E7 H q)/\∀(l:Addr) (ps':List PA2),H l=none->ps'.Perm ps->ps'.Pairwise leP->Q (.ref l) (upd H l (.lst (ps'.map fun q=>V.ref q.1)))):=by subst hK;exact Hu
theorem Ub(hc:X.calm=true:=by rfl)(hw:X.w=w:=by rfl):J0 X (.builtin "sorted") (fun xs H Q=>∃(p:Addr) (ss:List Str),xs = [.ref p]/\H p=some (Ss w p ss)/\∀(l:Addr) (ss':List Str),H l=none->ss'.Perm ss->ss'.Pairwise leS->Q (.ref l) (upd H l (.lst (ss'.map V.str)))):=by subst hw;exact Hn hc
theorem Rl(hK:X.K=K:=by rfl):J0 X (.builtin "isinstance") (fun xs H Q=>∃x n t b,xs = [x,.ty n]/\TyOf K H x t/\PySem.W.kitOne K t (.type n)=some b/\Q (.bl b) H):=by subst hK;exact Ri
theorem Wv(hP:X.prog=P:=by rfl)(hw:X.w=w:=by rfl):J0 X (.type "set") (fun xs H Q=>xs = []/\∀p,H p=none->Q (.ref p) (upd H p (Oa P w p []))):=by subst hP;subst hw;exact Qd
theorem Uv(hP:X.prog=P:=by rfl)(hw:X.w=w:=by rfl):J0 X (.type "set") (fun xs H Q=>xs = []/\∀p,H p=none->Q (.ref p) (upd H p (Ob P w p []))):=by subst hP;subst hw;exact Np
theorem Qa(hu:X.A.units+64<cLine)(hK:X.K=K:=by rfl):OpR X (compareOp .In) (Yr K false):=by subst hK;exact Zo hu
theorem Aj(hu:X.A.units+64<cLine)(hK:X.K=K:=by rfl):OpR X (compareOp .NotIn) (Yr K true):=by subst hK;exact Oz hu
theorem zDf(hu:X.A.units+64<cLine)(hK:X.K=K:=by rfl):OpR X (compareOp .Eq) (zEf K):=by subst hK;exact zBd hu
theorem Tm(hu:X.A.units+64<cLine)(hK:X.K=K:=by rfl):OpR X (compareOp .NotEq) (zDc K):=by subst hK;exact zBh hu
theorem j0(hK:X.K=K:=by rfl):OpR X (compareOp .In) (rIn K false):=by subst hK;exact Sc
theorem Uh(hK:X.K=K:=by rfl):OpR X (compareOp .NotIn) (rIn K true):=by subst hK;exact Hx
theorem zCy(hP:X.prog=P:=by rfl)(hw:X.w=w:=by rfl):OpR X (compareOp .In) (zDq P w false):=by subst hP;subst hw;exact Qn
theorem zCa(hu:X.A.units+1<cLine)(hP:X.prog=P:=by rfl)(hw:X.w=w:=by rfl):OpR X (compareOp .In) (zDs P w):=by subst hP;subst hw;exact Nj hu
theorem Yz(hP:X.prog=P:=by rfl)(hw:X.w=w:=by rfl):MtM X "set.add" (zBq P w):=by subst hP;subst hw;exact zAg
theorem zBe(hu:X.A.units+1<cLine)(hP:X.prog=P:=by rfl)(hw:X.w=w:=by rfl):MtM X "set.add" (zBo P w):=by subst hP;subst hw;exact Ws hu
theorem Vq{o e:Expr}{to:TE}{t:TA}{apos cpos:Pos}{r:V->List V->Hp->VK->Prop}(hm:MtM X "set.add" r)(ho:PE X o to)(ha:PA X [e] t)
  (hbase:attributeBase o "add" X.env (eval o X.env)=eval o X.env:=by rfl)
  (hfew:((backTo cpos (starEach [e] X.env)).all (fun x=>!x.1) &&(backToKw cpos (keywordEach [] X.env)).all (fun x=>x.1.isSome)
   && decide ([e].length +([]:List Keyword).length +(if([]:List Keyword).isEmpty then 0 else 1)<30))=true:=by rfl)
  (hline:(apos.endLine == cpos.line)=true:=by rfl) (hs:starEach [e] X.env = [(false,eval e X.env)]:=by rfl) (hP:X.prog=P:=by rfl) (hw:X.w=w:=by rfl) :
  PE X (.Call (.Attribute o "add" apos) [e] [] cpos) (zDp P w r to t):=by subst hP;subst hw;exact Wp hm ho ha hbase hfew hline hs
theorem ixL(hK:X.K=K:=by rfl):IxR X (zEa K):=by subst hK;exact Xw
theorem ixT(hK:X.K=K:=by rfl):IxR X (zDy K):=by subst hK;exact Zf
theorem slL(hK:X.K=K:=by rfl):SlR X (zDr K):=by subst hK;exact Wu
theorem ptV{a:Expr}{ta:TE}(ha:PE X a ta)(he:∀whole,isTrue a X.env whole =(do let v <-whole;standAt a.pos;holding [v] (truthy v)):=by intro _;rfl)(hK:X.K=K:=by rfl):PT X a (fun σ H Q=>ta σ H fun x H'=>∃k,zDb K x H' k/\Q k H'):=by subst hK;exact Uk ha he
theorem Pz{T id:String}{name:Str}{o e:Expr}{es:List Expr}{to:TE}{t:TA}{apos cpos:Pos}{r:V->List V->Hp->VK->Prop}(pa:PlainAttrs T)(slot:Slot T name id)(hty:typeOf (.builtin id)=pure (.type "method_descriptor"))(hm:MtM X id r)(ho:PE X o to)(ha:PA X (e::es) t)
  (hbase:attributeBase o name X.env (eval o X.env)=eval o X.env:=by rfl)
  (hfew:((backTo cpos (starEach (e::es) X.env)).all (fun x=>!x.1) &&(backToKw cpos (keywordEach [] X.env)).all (fun x=>x.1.isSome)
   && decide ((e::es).length +([]:List Keyword).length +(if([]:List Keyword).isEmpty then 0 else 1)<30))=true:=by rfl)
  (hline:(apos.endLine == cpos.line)=true:=by rfl) (hs:starEach (e::es) X.env =(false,eval e X.env)::starEach es X.env:=by rfl) (hplain:(backTo cpos (starEach es X.env)).any (·.1)=false:=by rfl) (hK:X.K=K:=by rfl) :
  PE X (.Call (.Attribute o name apos) (e::es) [] cpos) (tBM K T r to t):=by subst hK;exact zDk pa slot hty hm ho ha hbase hfew hline hs hplain
end
section
variable{X:Cx}{tg iter elt:Expr}{ifs:List Expr}{scope:Scope}{cl:List (Str×Addr)}{N':List Str}{cap:List (Option Nat)}{wi:TI}{pos:Pos}
theorem Sa{e:Expr}{gs:List Comprehension}{newAcc:Sem Value}{p2:Pos}{use:Option (Value->Sem Unit)}{Qv:Value->Shared->Prop}(hcl:clausesOf e =⟨tg,iter,ifs,0⟩::gs)(o:Addr->HO)(hs:∀x,foldedSetIterable iter X.env x=pure x)(S:CScope X scope cl N' cap)(hc:X.calm=true)(hi:PI X tg iter wi)
  {lp:Addr->It->St->Hp->(St->Hp->Prop)->Prop}
  (hnew:∀(pins:List (Addr×Obj)) (s:Shared) (σ:St) (H:Hp) (Q:Value->Shared->Prop) (E:Value->Shared->Prop),Inv X pins σ H s->(∀s',Inv X pins σ (upd H s.heap.objs.size (o s.heap.objs.size)) s'->(∀b ob,s.heap.get? b=some ob->s'.heap.get? b=some ob)->Q (.ref s.heap.objs.size) s')->wpAny (model X.prog X.w) X.A newAcc Q E s)
  (hlp:∀(pins:List (Addr×Obj)) (ex:List Addr) (s3:Shared) (H3:Hp) (D it:Addr) (fp:List Addr) (tn:Nat->Heap->Prop) (J:It) (σ:St) (s:Shared) (H:Hp) (Q:St->Hp->Prop) (R:Result->Shared->Prop),
   Turn X.prog X.w X.K tg J fp it tn->Inv (cxC X scope cl N' pins ex s3 H3) [] σ H s->tn 0 s.heap->(∀b∈fp,Gs (cxC X scope cl N' pins ex s3 H3) [] H b)->lp D J σ H Q ->
   (∀s' σ' H',Inv (cxC X scope cl N' pins ex s3 H3) [] σ' H' s'->Q σ' H'->R (.ok .next) s') ->
   codeAny (model X.prog X.w) X.A (.compLoop e 0 (.ref it) (.ref D) (compEnvC scope cl s3.heap.objs.size X.env)) R s)
  (hun:∀it D env,X.A.under (.compStart e 0 (.ref it) (.ref D) env)=X.A) (hden:∀it D env,(model X.prog X.w).den (.compStart e 0 (.ref it) (.ref D) env) =(compStart e 0 (.ref it) (.ref D) env).onRaise (fun x=>do noteFrame x env;standAt theWindowsPlace))
  {pins:List (Addr×Obj)} {s:Shared} {σ:St} {H:Hp} {Q:V->Hp->Prop} (I:Inv X pins σ H s) (h:Qj wi o cap lp σ H Q)
  (hend:∀(D:Addr) (fp:List Addr) (H2:Hp) (s3 s':Shared) (σ':St) (H':Hp),Inv X pins σ H2 s3->(∀b∈fp,Gs X pins H2 b)->Inv (cxC X scope cl N' pins fp s3 H2) [] σ' H' s'->Q (.ref D) H'->compPost (model X.prog X.w) X.A X.xe use Qv (.ref D) s3.heap.objs.size (.ok .next) s') :
  wpAny (model X.prog X.w) X.A (comprehension e scope X.env p2 newAcc false (eval iter X.env) use) Qv X.xe s:=by
 refine wpAny_comprehension_free hcl hs S.clos S.kind S.loc (thn (hi pins s σ H _ I h) fun v s1 h1=>thn h1 fun itv s2 h2=>?_)
 obtain⟨it,fp,tn,J,H2,eit,I2,T,st2,f2,R2⟩:=h2
 subst eit
 refine hnew pins s2 σ H2 _ _ I2 fun s3 I3 k3=>?_
 have hD:H2 s2.heap.objs.size=none:=I2.hok.fresh (Nat.le_refl _)
 have fok:∀b∈fp,Gs X pins (upd H2 s2.heap.objs.size (o s2.heap.objs.size)) b/\∃ob,s3.heap.get? b=some ob:=fun b hb=>by
  obtain⟨ob,e,_⟩:=T.obj _ _ st2 b hb
  obtain⟨f0,fr⟩:=f2 b hb
  exact⟨⟨by rw[B7 (BF (AN e))];exact f0,fr⟩,ob,k3 b ob e⟩
 refine wpAny_newFunctionEnv S.nocell (by intro y hy;simp at hy) (fun h1 hns hsb=>?_) S.kind
 have hk:∀b ob,s3.heap.get? b=some ob->h1.get? b=some ob:=fun b ob e=>(hsb.2 b (BF (AN e))).trans (AE _ e)
 have I4:Inv (cxC X scope cl N' pins fp s3 (upd H2 s2.heap.objs.size (o s2.heap.objs.size))) [] (Wg cap σ) (upd H2 s2.heap.objs.size (o s2.heap.objs.size)) { s3 with heap:=h1,toks:=s3.toks +([]:List (Str×Value)).length } :=
  I3.block S hc fok hns hk
 have st4:tn 0 h1:=T.keep 0 _ _ st2 fun b hb ob e=>hk b ob (k3 b ob e)
 refine Cw (X:=cxC X scope cl N' pins fp s3 (upd H2 s2.heap.objs.size (o s2.heap.objs.size))) (gs:=⟨tg,iter,ifs,0⟩::gs) (e:=e) (d:=0) (tg:=tg) (iter:=iter) (ifs:=ifs) (hun _ _ _) (hden _ _ _) hcl rfl T st4 ?_
 refine hlp pins fp s3 _ s2.heap.objs.size it fp tn J (Wg cap σ) _ _ _ _ T I4 st4 (fun b hb=>?_) (R2 _ hD) fun s' σ' H' I' q'=>?_
 ·obtain⟨⟨f0,f1,f2',f3,f4,f5⟩,ob,eo⟩:=fok b hb
  refine⟨f0,BF (AN eo),fun hf=>?_,.inl hb,fun x c e=>f4 x c (S.cin.get e),fun p hp=>f5 p (by simpa [cxC] using hp)⟩
  rcases BD.mp (I3.stkSub b hf)with z | z
  ·exact f1 z
  ·exact f2' z
 ·exact hend _ fp _ s3 s' σ' H' I3 (fun b hb=>(fok b hb).1) I' q'
theorem Eb{i:Nat}{x:Str}{pos' cpos:Pos}{g:TG}{tc:TT}{te:TE}(hN:X.N.Nodup)(hi:X.N[i]?=some x)(hx:Loc X.env.scope x)(S:CScope X scope cl N' cap)(hc:X.calm=true)(hI:PI X tg iter wi)
  (hb:∀(pins:List (Addr×Obj)) (ex:List Addr) (s3:Shared) (H3:Hp),PG (cxC X scope cl N' pins ex s3 H3) tg g/\PTs (cxC X scope cl N' pins ex s3 H3) ifs tc/\PE (cxC X scope cl N' pins ex s3 H3) elt te)
  (hs:∀x,foldedSetIterable iter X.env x=pure x:=by intro _;rfl)
  (hsw:swapsWith (.ListComp elt [⟨tg,iter,ifs,0⟩] scope cpos) (some (.Name x pos')) pos.line X.env=pure true:=by rfl)
  (hf:X.fn x=true\/X.env.scope.names.lookup x=some .local:=by first | exact .inl rfl | exact .inr rfl | assumption) :
  PS X (.Assign [.Name x pos'] (.ListComp elt [⟨tg,iter,ifs,0⟩] scope cpos) pos) (zDa (Qj wi (fun _=>.lst []) cap fun D J σ H Q=>Ea g tc (p9 D te) J σ H Q) (Q6 i)):=by
 intro pins s σ H D I h
 rw[exec_Assign]
 refine AA (GP (AA (GF hsw (wpAny_ite_true rfl (AA (AA ?_))))))
 refine Sa (newAcc:=newList []) (p2:=firstIterPos [⟨tg,iter,ifs,0⟩] cpos) rfl (fun _=>.lst []) hs S hc hI (fun pins s σ H Q E I h=>?_) (fun pins ex s3 H3 D it fp tn J σ s H Q R T I st hf h hR=>?_) (fun _ _ _=>rfl) (fun _ _ _=>rfl) I h fun E fp H2 s3 s' σ' H' I3 fok I' q=>?_
 ·refine GN ?_
  exact h _ (I.lnew (t':=s.toks) (its:=[]) .nil (CA _)) fun b ob e=>AE _ e
 ·obtain⟨b1,b2,b3⟩:=hb pins ex s3 H3
  exact Ca (X:=cxC X scope cl N' pins ex s3 H3) rfl rfl hc rfl (Cq elt tg iter ifs scope cpos _ _ _) b1 b2 (Kk rfl b3) T I st hf h hR
 ·have IX:Inv X pins σ H' s':=I3.unblock fok I' ⟨rfl,fun _ _=>rfl⟩
  have fC:Gs X pins H' s3.heap.objs.size:=I3.fpOk (Nat.le_refl _) I'.free
  obtain⟨m,hn,_⟩:=I'.loc
  show wpAny _ _ (assign (.Name x pos') X.env (.ref E)) _ _ _
  refine wpAny_assign_Name (Fs (v:=.ref E) IX hN hi hx rfl (fun s2 I2 ⟨a,hsb,ha⟩=>?_) hf)
  have nC:s3.heap.objs.size≠a:=by
   rcases ha with rfl | ha
   ·exact fC.2.1
   ·exact(fC.2.2.2.2.1 _ _ ha).symm
  refine⟨m,?_,fun h' hsb'=>AF (AF ?_)⟩
  ·obtain⟨ob,es,ep,e1,r⟩:=hn
   exact⟨ob,es,ep,(hsb.2 _ nC).trans e1,r⟩
  refine⟨_,H',?_,q⟩
  have k:∀b ob,b∉[s3.heap.objs.size]->s2.heap.get? b=some ob->h'.get? b=some ob:=fun b ob hb e=>(hsb'.2 b fun z=>hb (AD.mpr z)).trans e
  refine I2.step (h':=h') (H':=H') (t':=s2.toks) (g':=s2.gens) (d':=s2.drawn) (ch:=[s3.heap.objs.size]) (fun b hb=>by rw[AD.mp hb];exact⟨fC.2.2.2.1,fC.2.1,fC.2.2.2.2⟩) (fun b ob _ _ hc e _=>k b ob hc e) (fun b ob _ _ hc e _=>⟨ob.slots,k b ob hc e⟩) (fun _ _ _ _ n=>n)
   (fun b ob hc e=>⟨ob,k b ob hc e⟩) (fun _ _ e=>e) (fun _ _ _ e=>e) (fun b ps e=>⟨#[],by rw[e];simp⟩) (fun m hm=>?_) (fun b u eb=>?_) I2.bare
  ·obtain⟨ob,es,ep,ho,r⟩:=hm
   exact⟨ob,es,ep,k _ ob (fun hb=>fC.2.1 (AD.mp hb).symm) ho,r⟩
  ·have nf:∀b u,H' b=some u->b∉[s3.heap.objs.size]:=fun b u e hb=>by rw[AD.mp hb,fC.1]at e;cases e
   refine(I2.hok b u eb).stay (fun c v hc q=>k c v ?_ q) (fun _ q=>q) fun _ _ q=>q
   rcases hc with z | z
   ·rw[z];exact nf b u eb
   ·exact nf c _ z
end
section
variable{X:Cx}
theorem Uo{x:Str}{C:Addr}{pos:Pos}(h:X.mg x=some (.ref C))(hg:Gl X x:=by rfl)(hd:(x ==("__debug__":Str))=false:=by decide):PE X (.Name x pos) (tC (.ref C)):=Iz hg h rfl hd
end
def Bb(l xs:List Str):List Str:=xs.foldl Yp l
theorem Ux(l:List Str)(x:Str):(Yp l x).length<=l.length+1:=by
 unfold Yp
 split
 ·omega
 ·rw[BA];exact Nat.le_refl _
theorem zAa{w:World}{h h':Heap}{a:Addr}{ss:List Str}(z:ST.WS w h a ss)(k:∀o,h.get? a=some o->h'.get? a=some o):ST.WS w h' a ss:=by
 obtain⟨o,es,ep,t,S,r⟩:=z
 exact⟨o,es,ep,t,S.at (k o S.ho),r⟩
section
variable{prog:Program}{w:World}{A:Around}{R:Result->Shared->Prop}{I:Addr}{fp wr:List Addr}{G:Array GenState->Array GenState->Prop}{n:Nat}{P:Nat->Value->Prop}{St:Nat->Shared->Prop}
theorem Rz(W:WalksS prog w A.in1 I fp wr G n P St)(S:Addr)(hSf:S∉fp)(xs:List Str)(hn:xs.length=n)(hval:∀i v,P i v->∃x t,xs[i]?=some x/\v = .str x t) :
  ∀(k i:Nat) (s:Shared) (ss:List Str),n-i=k->i<=n->St i s->ST.WS w s.heap S ss->ss.length+k<4096 ->
   (∀s',Moved (S::wr) G s s'->ST.WS w s'.heap S (Bb ss (xs.drop i))->R (.ok (.ret .none)) s') ->
   codeAny (model prog w) A (.builtin "set.update.loop" ⟨[.ref S,.ref I],[]⟩) R s:=by
 have hSw:S∉wr:=fun h=>hSf (W.sub _ h)
 have hsub:∀b∈wr,b∈S::wr:=fun b hb=>AM _ hb
 intro k
 induction k with
 | zero =>
  intro i s ss hk hi hst hS _ hR
  have hin:i=n:=by omega
  subst hin
  refine EU F.entry_set_update_loop ?_
  rw[Around.under_plainId F.plain_set_update_loop _]
  refine AA (W.done s _ _ hst fun s' hm=>?_)
  have q:=hR s' (hm.mono hsub)
  rw[<-hn,List.drop_length]at q
  exact AF (q (zAa hS fun o=>hm.heap S o hSw))
 | succ k ih =>
  intro i s ss hk hi hst hS hz hR
  refine EU F.entry_set_update_loop ?_
  rw[Around.under_plainId F.plain_set_update_loop _]
  refine AA (W.item i s _ _ (by omega) hst fun v s' hP hst' hm=>?_)
  obtain⟨x,t,hx,rfl⟩:=hval i v hP
  show wpAny _ A.in1 (holding [Value.str x t] (setAdd S (.str x t)) >>= _) _ _ s'
  refine AA (CO ?_)
  unfold setAdd
  refine CO (AA (wpAny_pyHash_str ?_))
  refine ST.add_txt (s:={ s' with toks:=s'.toks+1 }) (zAa hS fun o=>hm.heap S o hSw) (by omega) fun h' b hsb z'=>?_
  refine AF ⟨plainId_quiet F.plain_set_update_loop _,ih (i+1) _ (Yp ss x) (by omega) (by omega) (W.frame _ s' _ _ hst' (DL _) fun b hb o e=>?_) z' (by have:=Ux ss x;omega) fun s'' hm'' hS''=>?_⟩
  ·rw[hsb.2 b (fun h:b=S=>hSf (by rw[<-h];exact hb))];exact e
  ·refine hR s'' (Moved.trans W.gtrans ((hm.mono hsub).then_heap (DL _) fun b o hb e=>?_) hm'') ?_
   ·rw[hsb.2 b (fun h:b=S=>hb (by rw[h];exact AU))];exact e
   ·have hd:xs.drop i=x::xs.drop (i+1):=by
     obtain⟨hi',ex⟩:=AG.mp hx
     rw[<-ex]
     exact DF hi'
    rw[hd]
    exact hS''
end
section
variable{prog:Program}{w:World}{A:Around}{E:Value->Shared->Prop}{s:Shared}
abbrev freshW(w:World):Obj:={ cls:=.type "set",dict:=none,data:=.set #[] 0 (.fresh 0 0 (!(w.params.followText "set-order"))) }
theorem Td{h:Heap}{a:Addr}(e:h.get? a=some (freshW w)):ST.WS w h a [] :=
 ⟨_,#[],0,_,⟨e,⟨rfl,rfl,rfl⟩,rfl,by rfl,rfl,fun _=>rfl,by decide⟩,⟨fun e he=>by simp at he,by simp,List.nodup_nil⟩⟩
theorem Tz(a:Value){Q₁:Value->Shared->Prop}(h:Q₁ (.ref s.heap.objs.size) { s with heap:=s.heap.push (freshW w) }) :
  codeAny (model prog w) A (.call (.builtin "set.__new__") ⟨[.type "set",a],[]⟩) (wants Q₁ E) s:=by
 refine codeAny_of_tree ?_
 show wpAny _ A.in1 (do checkBuiltinCall "set.__new__" ⟨[.type "set",a],[]⟩;again (.builtin "set.__new__" ⟨[.type "set",a],[]⟩)) _ _ s
 refine AA (GF (F.newCall_set_1 a) (AF ⟨plainId_quiet F.plain_set_new _,EU F.entry_set_new ?_⟩))
 rw[Around.under_plainId F.plain_set_new _]
 unfold Builtin.«set.__new__» Builtin.Frozenset.newClass
 have hsub:=sub_set_self
 obtain⟨hp,g,d,tk,os⟩:=s
 dsimp only
 wp_walk
 refine GH (AF ?_)
 dsimp only
 simp only[newObj]
 refine AA (wpAny_alloc (AF ?_))
 exact AF h
set_option maxHeartbeats 3200000 in
theorem Cr{l:Addr}{ol it:Obj}{nm:String}{xs:List Str}{n:Nat}{P:Nat->Value->Prop}{St:Addr->Nat->Heap->Prop}{Q:Value->Shared->Prop}(hh:A.handled=none)(hol:s.heap.get? l=some ol)(hcl:ol.cls = .type nm)
  (hs1:isSubtype (.type nm) (.type "set")=pure false) (hs2:isSubtype (.type nm) (.type "frozenset")=pure false) (hne:(Value.type nm == Value.type "dict")=false)
  (hit:∀{A:Around} {E:Value->Shared->Prop} {Q:Value->Shared->Prop} (s1:Shared),s1.heap.get? l=some ol->Q (.ref s1.heap.objs.size) { s1 with heap:=s1.heap.push it }->wpAny (model prog w) A (pyIter (.ref l)) Q E s1)
  (hW:∀(A:Around) (I:Addr),A.handled=none->l≠I->Walks prog w A I [I,l] [I] n P (St I)) (hSt:∀(h:Heap) (I:Addr),h.get? I=some it->h.get? l=some ol->St I 0 h) (hiti:it.isFreed=false)
  (hn:xs.length=n) (hval:∀i v,P i v->∃x t,xs[i]?=some x/\v = .str x t) (hb:n<4096)
  (h:∀(h':Heap) (tk:Nat),ST.WS w h' s.heap.objs.size (Bb [] xs)->(∀b o,s.heap.get? b=some o->h'.get? b=some o)->Q (.ref s.heap.objs.size) { s with heap:=h',toks:=tk }) :
  wpAny (model prog w) A (call (.type "set") [.ref l]) Q E s:=by
 obtain⟨c,tl,hmro⟩:=F.called_set.mro
 have hmade:=F.called_set.made
 have hsub:=F.called_set.sub
 refine wpAny_call (codeAny_of_tree ?_)
 show wpAny _ _ (callAny (.type "set") _) _ _ _
 refine AF ⟨Code.quiet_builtin _ (by decide +kernel),EU F.entry_type_call ?_⟩
 rw[Around.under_plain (weight_type_call_type "set" [.ref l] []) rfl]
 have h1:=F.called_set.notType
 have h2:=F.called_set.canCreate
 have hct:=F.typeCall_set_1 (.ref l)
 repeat (any_goals (first | assumption | wp_step))
 refine HC (Tz (.ref l) (E:=E) (Q₁:=fun obj s₁=>obj = .ref s.heap.objs.size/\s₁ ={ s with heap:=s.heap.push (freshW w) }) ⟨rfl,rfl⟩) fun r s₁ hr=>?_
 cases r with
 | error e=>exact hr
 | ok fl =>
  cases fl with
  | ret obj =>
   obtain⟨rfl,rfl⟩:=hr
   have hS:(s.heap.push (freshW w)).get? s.heap.objs.size=some (freshW w):=BB _ rfl
   have hT:Shared.TypeIs { s with heap:=s.heap.push (freshW w) } (.ref s.heap.objs.size) "set":=⟨_,hS,rfl⟩
   have hli:=F.called_set.init.lookup
   have hbi:=F.called_set.init.bind (.ref s.heap.objs.size)
   repeat (any_goals (first | assumption | wp_step))
   refine HC (codeAny_call_builtin (R:=wants (fun r s₂=>r = .none/\∃h' tk,s₂ ={ s with heap:=h',toks:=tk }/\ST.WS w h' s.heap.objs.size (Bb [] xs) /\
     (∀b o,s.heap.get? b=some o->h'.get? b=some o)) E) F.called_set.init.plain F.entry_set_init (check_set_init_1 hT ?_)) fun r₂ s₂ hr₂=>?_
   ·have hol':(s.heap.push (freshW w)).get? l=some ol:=AE _ hol
    obtain⟨ocls,odict,odata,oslots⟩:=ol
    simp only at hcl
    subst hcl
    unfold Builtin.«set.__init__» noKeywords Builtin.Frozenset.updateFrom
    generalize hPI:pyIter=PI
    wp_walk
    subst hPI
    refine hit _ hol' ?_
    refine AA (wpAny_runValue ?_)
    have hlS:l<s.heap.objs.size:=AN hol
    have hh3:A.in1.in1.in1.handled=none:=by simp[hh]
    have hneI:l≠(s.heap.push (freshW w)).objs.size:=by
     rw[EB];exact BF (CQ hlS)
    have hSf:s.heap.objs.size∉[(s.heap.push (freshW w)).objs.size,l]:=by
     rw[EB];simp only[BD,BK,or_false,not_or]
     exact⟨BF (E_ _),Nat.ne_of_gt hlS⟩
    refine Rz ((hW _ _ hh3 hneI).toS) s.heap.objs.size hSf xs hn hval (n-0) 0 _ [] rfl (CA _) (hSt _ _ (BB _ hiti) (AE _ hol')) (Td (AE _ hS)) (by simpa using hb) fun s' hm hS'=>?_
    obtain⟨h',g',d',tk',os'⟩:=s'
    have eg:g'=s.gens:=hm.gens
    have ed:d'=s.drawn:=hm.drawn
    have eo:os'=s.os:=hm.os
    subst eg;subst ed;subst eo
    show wpAny _ _ _ _ _ _
    refine AF ?_
    show wpAny _ _ (ret Value.none) _ _ _
    refine AF ⟨rfl,h',tk',rfl,hS',fun b o e=>?_⟩
    have hb:=AN e
    have hb1:b≠s.heap.objs.size:=BF hb
    have hb2:b≠(s.heap.push (freshW w)).objs.size:=by
     rw[EB];exact BF (CQ hb)
    exact hm.heap b o (by simp only[BD,BK,or_false,not_or];exact⟨hb1,hb2⟩) (AE _ (AE _ e))
   ·cases r₂ with
    | error e=>exact hr₂
    | ok fl₂ =>
     cases fl₂ with
     | ret r =>
      obtain⟨rfl,h',tk,rfl,hS',hk'⟩:=hr₂
      repeat (any_goals (first | assumption | wp_step))
      exact h _ _ hS' hk'
     | _=>exact hr₂.elim
  | _=>exact hr.elim
end
theorem Eo:isSubtype (.type "tuple") (.type "set")=pure false:=by rw[isSubtype_type];kernel_rfl
theorem Y4:isSubtype (.type "tuple") (.type "frozenset")=pure false:=by rw[isSubtype_type];kernel_rfl
theorem Fv:∀{xs l:List Str},xs.Nodup->(∀x∈xs,x∉l)->Bb l xs=l++xs
 | [],l,_,_=>(CI l).symm
 | x::xs,l,nd,ni=>by
  obtain⟨n1,n2⟩:=DB.mp nd
  show Bb (Yp l x) xs=_
  have e:Yp l x=l ++ [x]:=AJ (ni x (AU ..))
  rw[e,Fv n2 fun y hy hm=>?_,BE]
  ·rfl
  ·rcases AV.mp hm with hm | hm
   ·exact ni y (AM _ hy) hm
   ·exact n1 (AD.mp hm▸hy)
theorem Rw{ss:List Str}{its:List Value}(r:Vals (ss.map V.str) its)(i:Nat)(v:Value)(e:its.toArray[i]?=some v):∃x t,ss[i]?=some x/\v = .str x t:=by
 rw[List.getElem?_toArray]at e
 cases h:ss[i]? with
 | none =>
  have:=r.none_of (i:=i) (by rw[AI,h];rfl)
  rw[this]at e;cases e
 | some x =>
  obtain⟨u,e1,t,e2⟩:=r.get (i:=i) (x:=.str x) (by rw[AI,h];rfl)
  rw[e1]at e
  cases e
  exact⟨x,t,rfl,e2⟩
section
variable{X:Cx}
theorem Ya(K:PySem.W.Frag)(w:World)(hc:X.calm=true:=by rfl)(hK:X.K=K:=by rfl)(hw:X.w=w:=by rfl):J0 X (.type "set") (fun xs H Q=>∃(p:Addr) (ss:List Str),xs = [.ref p]/\(SqL K H p (ss.map V.str)\/SqT K H p (ss.map V.str))/\ss.Nodup/\ss.length<4096/\∀l,H l=none->Q (.ref l) (upd H l (Ss w l ss))):=by
 subst hK;subst hw
 intro pins s σ H xs us Q I r h
 obtain⟨p,ss,rfl,hq,nd,hb,q⟩:=h
 obtain⟨u,rfl,rx⟩:=V2 r
 cases rx
 have en:Bb [] ss=ss:=Fv nd fun _ _ h=>nomatch h
 have fin:∀(h':Heap) (tk:Nat),ST.WS X.w h' s.heap.objs.size (Bb [] ss)->(∀b o,s.heap.get? b=some o->h'.get? b=some o)->EP X pins σ Q (.ref s.heap.objs.size) { s with heap:=h',toks:=tk }:=fun h' tk z k=>by
  rw[en]at z
  exact⟨.ref s.heap.objs.size,_,I.laid (t':=tk) k (Nat.le_refl _) (zBr z),rfl,q _ (I.hok.fresh (Nat.le_refl _))⟩
 rcases hq with hq | hq
 ·obtain⟨its,r',pl,hz⟩:=I.list hq
  have hlen:=r'.length
  rw[AB]at hlen
  obtain⟨o,ho,hc',n,hd⟩:=pl.isList
  exact Cr (I.ok.hd hc) ho hc' F.sub_list_set F.sub_list_frozenset (by decide) (fun s1 e q=>HB ⟨_,e,hc',n,hd⟩ q) (fun A I hA hne=>Walks.list hA I p hne its.toArray) (fun h I e1 e2=>⟨⟨_,e1,rfl,rfl⟩,⟨_,e2,hc',n,hd⟩⟩) rfl (by simp[hlen]) (Rw r') (by simpa [<-hlen] using hb) fin
 ·obtain⟨its,r',pl,hz⟩:=I.tuple hq
  have hlen:=r'.length
  rw[AB]at hlen
  obtain⟨o,ho,hc',n,hd⟩:=pl
  exact Cr (I.ok.hd hc) ho hc' Eo Y4 (by decide) (fun s1 e q=>wpAny_pyIter_tuple ⟨_,e,hc',n,hd⟩ q) (fun A I hA hne=>Walks.tuple hA I p hne its.toArray) (fun h I e1 e2=>⟨⟨_,e1,rfl,rfl⟩,⟨_,e2,hc',n,hd⟩⟩) rfl (by simp[hlen]) (Rw r') (by simpa [<-hlen] using hb) fin
theorem Sy(hc:X.calm=true):J0 X (.builtin "any") (fun xs H Q=>∃(p:Addr) (bs:List Bool),xs = [.ref p]/\SqL X.K H p (bs.map V.bl)/\Q (.bl (bs.any id)) H):=by
 intro pins s σ H xs us Q I r h
 obtain⟨p,bs,rfl,hq,q⟩:=h
 obtain⟨u,rfl,ru⟩:=V2 r
 cases ru
 obtain⟨its,rv,pl,hz⟩:=I.list hq
 refine call_any_walk (HB pl.isList ?_)
 have hne:p≠s.heap.objs.size:=by
  obtain⟨o,n,e,_⟩:=pl
  exact BF (AN e)
 refine⟨s.heap.objs.size,_,_,_,_,_,fun i=>bs.getD i false,rfl,Walks.list (A:=X.A.in1) (show X.A.in1.handled=none from I.ok.hd hc) _ p hne its.toArray,⟨⟨_,BB _ rfl,rfl,rfl⟩,?_⟩,fun i v s' Q' E' hv q'=>?_,fun h' tk k=>?_⟩
 ·obtain⟨o,n,e,c,d,e2⟩:=pl
  exact⟨o,AE _ e,c,n,e2⟩
 ·have hb:(bs.map V.bl)[i]?=some (V.bl (bs.getD i false))/\RelV (V.bl (bs.getD i false)) v:=by
   have hv':its[i]?=some v:=by simpa using hv
   have hi:i<its.length:=(AG.mp hv').1
   have hl:=rv.length
   rw[AB]at hl
   have e:(bs.map V.bl)[i]?=some (V.bl (bs.getD i false)):=by
    rw[AI,AC (by omega)]
    simp[BW,AC (show i<bs.length by omega)]
   obtain⟨u,hu,ru⟩:=rv.get e
   rw[hv']at hu
   cases hu
   exact⟨e,ru⟩
  cases hb.2
  exact DA q'
 ·have hl:=rv.length
  rw[AB]at hl
  have e:(List.range its.toArray.size).any (fun i=>bs.getD i false)=bs.any id:=by
   rw[AZ,<-hl,CK,EM,EM]
   constructor
   ·rintro⟨i,hi,z⟩
    have hi':=B_.mp hi
    refine⟨bs[i],DI hi',?_⟩
    simpa [BW,AC hi'] using z
   ·rintro⟨b,hb,z⟩
    obtain⟨i,hi,rfl⟩:=FI.mp hb
    refine⟨i,B_.mpr hi,?_⟩
    simpa [BW,AC hi] using z
  rw[e]
  exact⟨.bl (bs.any id),H,I.kept fun b o eb=>k b o (by
   intro hb
   have:b=s.heap.objs.size:=by simpa using hb
   exact absurd (AN eb) (by rw[this];exact DE _)) (AE _ eb),rfl,q⟩
theorem Lb:bootBuiltins "any" = some (.builtin "any"):=by decide +kernel
variable(K:PySem.W.Frag)
theorem Mg(hc:X.calm=true:=by rfl)(hK:X.K=K:=by rfl):J0 X (.builtin "any") (fun xs H Q=>∃(p:Addr) (bs:List Bool),xs = [.ref p]/\SqL K H p (bs.map V.bl)/\Q (.bl (bs.any id)) H):=by subst hK;exact Sy hc
end
def Fi(kvs more:List (Key×V)):List (Key×V):=more.foldl (fun a kv=>Cv a kv.1 kv.2) kvs
theorem KV.mrg:∀{more:List (Key×V)} {vs':List (Key×Value)} {kvs:List (Key×V)} {vs:List (Key×Value)},KV kvs vs->KV more vs'->KV (Fi kvs more) (merged vs vs')
 | [],[],_,_,r,_=>r
 | [],_::_,_,_,_,r'=>by cases r'
 | _::_,[],_,_,_,r'=>by cases r'
 | (k,y)::m,(k',u)::n,kvs,vs,r,r'=>by
  cases r' with
  | cons h t =>
   obtain⟨e,ry⟩:=h
   have e:k=k':=e
   subst e
   show KV (Fi (Cv kvs k y) m) (merged (stored vs k u) n)
   exact KV.mrg (r.put k ry) t
theorem Y3(kvs more:List (Key×V)):(Fi kvs more).length<=kvs.length+more.length:=by
 induction more generalizing kvs with
 | nil=>exact Nat.le_refl _
 | cons a r ih =>
  have h1:=ih (Cv kvs a.1 a.2)
  have h2:=X9 kvs a.1 a.2
  show(Fi (Cv kvs a.1 a.2) r).length<=kvs.length +(r.length+1)
  omega
section
variable{X:Cx}
theorem Xm:J0 X (.type "dict") (fun xs H Q=>∃p kvs,xs = [.ref p]/\H p=some (.dK kvs)/\∀l,H l=none->Q (.ref l) (upd H l (.dK kvs))):=by
 intro pins s σ H xs us Q I r h
 obtain⟨p,kvs,rfl,hp,q⟩:=h
 obtain⟨u,rfl,ru⟩:=V2 r
 cases ru
 obtain⟨z,hd,vs,rel,dd⟩:=Oy I.hok hp
 refine kt_call_dict hd dd (by rw[<-rel.length];exact z) fun h' dd' hs=>?_
 refine⟨.ref s.heap.objs.size,upd H s.heap.objs.size (.dK kvs),I.laid (t':=s.toks) (fun b o eb=>?_) (Nat.le_refl _) (Oh z (beq_eq_false_iff_ne.mpr (Nat.ne_of_gt I.big)) rel dd'),rfl,q _ I.fresh⟩
 rw[hs.2 b (BF (AN eb))]
 exact AE _ eb
theorem zCp{pins:List (Addr×Obj)}{σ:St}{H:Hp}{s:Shared}{a o:Addr}{kvs more:List (Key×V)}{A:Around}{E:Value->Shared->Prop}{Q:Value->Shared->Prop}(I:Inv X pins σ H s)(ea:H a=some (.dK kvs))(eo:H o=some (.dK more))(ne:a≠o)(hl:kvs.length+more.length<=sizeLine)
  (h:∀s',Inv X pins σ (upd H a (.dK (Fi kvs more))) s'->Q .none s'):wpAny (model X.prog X.w) A (call (.builtin "dict.update") [.ref a,.ref o]) Q E s:=by
 obtain⟨z,hd,vs,rel,dd⟩:=Oy I.hok ea
 obtain⟨z',hd',vs',rel',dd'⟩:=Oy I.hok eo
 refine call_meetsIn PySem.F.slot_dict_update dd.typeIs PySem.F.entry_dict_update (PySem.F.args_dict_update_2 _ _) (meets_dict_update (C2 X.prog X.w) a o ne hd') ⟨vs,vs',dd,dd',by rw[<-rel.length,<-rel'.length];exact hl,fun h' d1 _ hs=>?_⟩
 have he:∃q,h'.get? a=some q:=let⟨q,_,_,hq,_⟩:=d1;⟨q,hq⟩
 exact h _ (Qy I (t':=s.toks) (by rw[ea];exact True.intro) hs he (Oh (Nat.le_trans (Y3 ..) hl) hd (rel.mrg rel') d1))
def zCg(td ty:TE):TE:=fun σ H Q=>td σ H fun x H1=>∃a,x = .ref a/\IsD H1 a/\ty σ H1 fun y H2=>∃o kvs more,y = .ref o/\H2 a=some (.dK kvs)/\H2 o=some (.dK more)/\a≠o/\kvs.length+more.length<=sizeLine/\Q .non (upd H2 a (.dK (Fi kvs more)))
theorem Rj{o e:Expr}{apos cpos:Pos}{td ty:TE}(ho:PE X o td)(he:PE X e ty)(m:M1 X o "update" apos e cpos):PE X (.Call (.Attribute o "update" apos) [e] [] cpos) (zCg td ty):=by
 intro pins s σ H Q I h
 refine wpAny_Call_method m.base m.few m.line PySem.F.plainAttrs_dict PySem.F.slot_dict_update PySem.F.type_dict_update (thn (ho pins s σ H _ I h) fun u s1 ⟨x,H1,I1,rx,a,ex,d,q1⟩=>?_)
 subst ex
 obtain rfl:u=Value.ref a:=rx
 obtain⟨t1,t2,_⟩:=Qs I1 d
 refine⟨t1,t2,?_⟩
 rw[m.trees]
 refine Calls.callWith_builtin rfl (Calls.evalArgs_plain (Calls.spliced_cons (thn (he pins s1 σ H1 _ I1 q1) fun iv s2 ⟨y,H2,I2,ry,o',kvs,more,ey,e1,e2,ne,hl,q2⟩=>Calls.spliced_nil ?_)))
 subst ey
 obtain rfl:iv=Value.ref o':=ry
 exact zCp I2 e1 e2 ne hl fun s3 I3=>⟨.non,_,I3,rfl,q2⟩
theorem Xy:bootBuiltins "dict" = some (.type "dict"):=by decide +kernel
end
theorem La:bootBuiltins "sum" = some (.builtin "sum"):=by decide +kernel
section
variable{X:Cx}
theorem Om(hc:X.calm=true):J0 X (.builtin "sum") (fun xs H Q=>∃(p:Addr) (ns:List Int),xs = [.ref p]/\SqL X.K H p (ns.map V.int)/\Q (.int ns.sum) H):=by
 intro pins s σ H xs us Q I r h
 obtain⟨p,ns,rfl,hq,q⟩:=h
 obtain⟨u,rfl,ru⟩:=V2 r
 cases ru
 obtain⟨its,rv,pl,hz⟩:=I.list hq
 have hi:=Nz rv
 obtain⟨xs,ex⟩:=hi.allInts.items
 refine sum_intListG (xs:=xs) (I.ok.hd hc) (by rw[<-ex];exact pl.isList) fun h' tk t' k=>⟨.int ns.sum,H,I.kept k,⟨t',?_⟩,q⟩
 have e:numsOf its=ns:=hi.numsOf
 have e2:numsOf (intItems xs).toList=numsOf its:=by rw[<-ex]
 rw[preSum_eq,CZ (by simp),<-nums_intItems,e2,e]
theorem Ry(K:PySem.W.Frag)(hK:X.K=K:=by rfl)(hc:X.calm=true:=by rfl):J0 X (.builtin "sum") (fun xs H Q=>∃(p:Addr) (ns:List Int),xs = [.ref p]/\SqL K H p (ns.map V.int)/\Q (.int ns.sum) H):=by subst hK;exact Om hc
end
theorem zBt{α:Type}:∀{ps:List (Addr×α)} {us:List Value},Vals (ps.map fun q=>V.ref q.1) us->us=ps.map fun q=>Value.ref q.1
 | [],_,.nil=>rfl
 | _::_,_,.cons r t=>by rw[BG,zBt t];cases r;rfl
theorem zAp{α:Type}:∀(ps:List (Addr×α)),Vals (ps.map fun q=>V.ref q.1) (ps.map fun q=>Value.ref q.1)
 | []=>.nil
 | _::ps=>.cons rfl (zAp ps)
def Itd(d:Addr)(o:Obj)(kvs:List (Key×V)):It :=
 ⟨fun i H=>H d=some (.frz o (.dK kvs))/\i<kvs.length,fun i H x H'=>H'=H/\∃k v,kvs[i]?=some (k,v)/\x=kV k,fun i H=>H d=some (.frz o (.dK kvs))/\kvs.length<=i⟩
theorem KV.at{kvs:List (Key×V)}{vs:List (Key×Value)}(h:KV kvs vs):∀{i:Nat} {k:Key} {v:V},kvs[i]?=some (k,v)->∃u,vs[i]?=some (k,u):=by
 induction h with
 | nil=>intro i k v e;rw[List.getElem?_nil]at e;cases e
 | cons r _ ih =>
  intro i k v e
  cases i with
  | zero =>
   rw[GX]at e⊢
   cases e
   obtain⟨a,b⟩:=r
   exact⟨_,by rw[show k=_ from a]⟩
  | succ i=>exact ih e
theorem Wn{k:Key}{u:Value}(h:Ej k u=true):RelV (kV k) u:=by
 cases k with
 | inl i=>obtain⟨t,rfl⟩:=Value.isInt_shape h;exact⟨t,rfl⟩
 | inr x=>obtain⟨t,rfl⟩:=Value.isStrOf_shape h;exact⟨t,rfl⟩
section
variable{X:Cx}{tg:Expr}
theorem Qk{P:Program}{w:World}{K:PySem.W.Frag}{d it:Addr}{o:Obj}{kvs:List (Key×V)}{es:Array DictEntry}{ep:Nat}(hd:o.data = .dict es ep):Turn P w K tg (Itd d o kvs) [it] it (fun i h=>h.IsKeyIter it d i kvs.length ep) where
 mem:=by simp
 obj:=fun i h st b hb=>by
  have e:b=it:=by simpa using hb
  subst e
  obtain⟨o,e,c,d⟩:=st
  exact⟨o,e,fun v z=>by rw[d]at z;cases z⟩
 keep:=fun i h h' st k=>by
  obtain⟨o,e,r⟩:=st
  exact⟨o,k it (by simp) o e,r⟩
 item:=by
  intro X hP hw hK hc i pins s σ H E I hf st hg
  subst hP hw hK
  obtain⟨hq,hi⟩:=hg
  obtain⟨f0,f1,f2,f3,f4,f5⟩:=hf it (by simp)
  obtain⟨ho,hz,hS,vs,r,ob,es',ep',e1,c1,d1,m1⟩:=(show ObjOk X.prog X.w H s.heap d (.frz o (.dK kvs))from I.hok d _ hq)
  rw[ho]at e1
  cases e1
  rw[hd]at d1
  cases d1
  have hx:kvs[i]?=some (kvs[i].1,kvs[i].2):=AC hi
  obtain⟨u,hu⟩:=r.at hx
  have hl:kvs.length=vs.length:=r.length
  rw[hl]at st
  refine wpAny_pyNext_dict_item (knd:=C2 X.prog X.w) st ⟨o,es,ho,c1,hd,m1⟩ hu fun key h' hkey st' sb=>?_
  have I1:Inv X pins σ H { s with heap:=h' }:=I.turned (t':=s.toks) (fun b o hb e=>(sb.2 b hb).trans e) f0 f1 f3 f4 f5
  obtain⟨oi,ei,ci,di⟩:=id st'
  rw[<-hl]at st'
  exact⟨key,rfl,Nh (s:={ s with heap:=h' }) ei ci di (by decide) ⟨kV kvs[i].1,H,I1,Wn hkey,⟨rfl,_,_,hx,rfl⟩,st',fun b hb=>(hf b hb).1⟩⟩
 done:=by
  intro X hP hw hK hc i pins s σ H E I hf st hg
  subst hP hw hK
  obtain⟨hq,hi⟩:=hg
  obtain⟨f0,f1,f2,f3,f4,f5⟩:=hf it (by simp)
  obtain⟨ho,hz,hS,vs,r,ob,es',ep',e1,c1,d1,m1⟩:=(show ObjOk X.prog X.w H s.heap d (.frz o (.dK kvs))from I.hok d _ hq)
  rw[ho]at e1
  cases e1
  rw[hd]at d1
  cases d1
  have hl:kvs.length=vs.length:=r.length
  rw[hl]at st hi
  exact wpAny_pyNext_dict_end (knd:=C2 X.prog X.w) (I.ok.hd hc) st ⟨o,es,ho,c1,hd,m1⟩ (EK hi) fun h' eb=>⟨rfl,I.turned (t':=s.toks) (fun b o hb e=>eb b o hb e) f0 f1 f3 f4 f5⟩
 self:=fun _ _ _ _ _ st h=>wpAny_pyIter_keyiter st h
end
end L2
namespace TS
open PySem PyProof.Rows
section
variable{prog:Program}{w:World}{A:Around}{E:Value->Shared->Prop}{s:Shared}{κ:KeyKind}{kd:SortKind}
structure Keys2(prog:Program)(w:World)(a:Addr)(s:Shared)(κ:KeyKind)(kd:SortKind)(vs:List Value):Prop where
 cmp:∀(A:Around) (s':Shared),A.units+4<cLine->Ext a s s'->Cmp prog w A s' κ kd
 key:∀v∈vs,∃k,κ.keyOf v=some k
 kind:2<=vs.length->∀(A:Around) (E:Value->Shared->Prop) (s':Shared) (Q:SortKind->Shared->Prop),Ext a s s'->Q kd s'->wpAny (model prog w) A (keyKind' vs.toArray) Q E s'
theorem Co{a:Addr}{vs:List Value}{n:Nat}{P:Fin->Shared->Prop}(hu:A.units+4<cLine)(ho:s.heap.get? a=some (seqObj "list" vs.toArray n))(hz:vs.length<=sizeLine)(K:Keys2 prog w a s κ kd vs)
  (h:∀out:Array Value,Out κ vs out->P (.done (.ret .none)) { s with heap:=sortedHeap s.heap a vs out }) :
  wpAny (model prog w) A (Builtin.«list.sort» ⟨[.ref a],[]⟩) P E s:=by
 rw[list_sort_plain]
 have ha:a<s.heap.objs.size:=AN ho
 have hsz:vs.toArray.size=vs.length:=by simp
 refine AA (listItems_at ho rfl ?_)
 refine AA (listUpdate_at ho rfl ?_ (by rw[hsz];exact hz) (by simp))
 obtain⟨e1,ho1⟩:∃e1,(s.heap.update a (Obj.mapSeq fun _=>#[])).get? a=some (seqObj "list" #[] e1):=⟨_,get?_update_seq ho (fun _=>#[])⟩
 refine AA (seqEpoch_at ho1 rfl ?_)
 refine AA (wpAny_newTuple ?_ (by simpa using hz))
 refine AA (GN ?_)
 refine CO ?_
 have ho6:(((s.heap.update a (Obj.mapSeq fun _=>#[])).push (seqObj "tuple" vs.toArray 0)).push (seqObj "list" #[] 0)).get? a=some (seqObj "list" #[] e1):=by
  rw[GZ _ _ _ (by rw[size_push',EZ];exact BF (CQ ha)),GZ _ _ _ (by rw[EZ];exact BF ha)]
  exact ho1
 show wpAny (model prog w) A _ P E { s with heap:=((s.heap.update a (Obj.mapSeq fun _=>#[])).push (seqObj "tuple" vs.toArray 0)).push (seqObj "list" #[] 0) }
 dsimp only
 have hE:Ext a s { s with heap:=((s.heap.update a (Obj.mapSeq fun _=>#[])).push (seqObj "tuple" vs.toArray 0)).push (seqObj "list" #[] 0) }:=fun b o hb e =>
  AE _ (AE _ ((C_ s.heap _ (Ne.symm hb)).trans e))
 by_cases h2:vs.toArray.size<2
 ·rw[AQ h2,AQ h2]
  refine AA (AF ?_)
  rw[StateT.run_pure]
  refine AA (AF ?_)
  dsimp only
  refine AA (seqEpoch_at ho6 rfl ?_)
  refine AA (listUpdate_at ho6 rfl ?_ (by simp) (by rw[FR];show(pairsOf vs).size<=_;rw[pairsOf_size];omega))
  simp only[bne_self_eq_false,AX,CN]
  refine AF (h _ (Ma (κ:=κ) (xs:=pairsOf vs) (EA _) ?_))
  rw[pairsOf_toList]
  rw[hsz]at h2
  match vs,h2 with
  | [],_=>exact List.Pairwise.nil
  | [v],_=>exact DP _ _
  | _::_::_,h2=>simp at h2;omega
 ·rw[AJ h2,AJ h2]
  refine AA (K.kind (by omega) A E _ _ hE ?_)
  refine AA (CS (i9 (K.cmp A _ hu hE) (a₀:=pairsOf vs) (st:=SortSt.mk' kd (vs.toArray.zip vs.toArray) #[] 7 none)
   (Q:=fun _ st'=>St κ kd (pairsOf vs) st'/\Sor κ (arrOf st').toList)
   (fun p hp=>?_) ⟨EA _,rfl,rfl⟩ rfl fun st' a1 a2=>⟨a1,a2⟩) ?_ fun _ _ e=>e)
  ·rw[pairsOf_toList]at hp
   exact K.key _ (mem_zip_self hp).2
  rintro⟨⟨⟩,st'⟩ s' ⟨rfl,hp,hs⟩
  dsimp only
  refine AA (seqEpoch_at ho6 rfl ?_)
  refine AA (listUpdate_at ho6 rfl ?_ (by simp) (by rw[FR];show(arrOf st').size<=_;rw[hp.size,pairsOf_size];omega))
  rw[show failedOf st'=none from hp.failed]
  simp only[bne_self_eq_false,AX,CN]
  exact AF (h _ (Ma hp.perm hs))
theorem sorted_gen2{x:Value}{Q:Value->Shared->Prop}(hu:A.units+6<cLine)
  (hc:wpAny (model prog w) A.in1 (collect x) (fun vs s1=>s1.os=s.os/\vs.length<=sizeLine/\(∃(κ:KeyKind) (kd:SortKind),(∀s2:Shared,Ext s1.heap.objs.size s1 s2->Keys2 prog w s1.heap.objs.size s2 κ kd vs) /\
   ∀(out:Array Value) (h':Heap) (e:Nat),Out κ vs out->(∀b o,s1.heap.get? b=some o->h'.get? b=some o)->h'.get? s1.heap.objs.size=some (seqObj "list" out e)->Q (.ref s1.heap.objs.size) { s1 with heap:=h' })) E s) :
  wpAny (model prog w) A (call (.builtin "sorted") [x]) Q E s:=by
 refine Calls.call_function_entry kind_sorted plain_sorted entry_sorted (args_sorted1 _) ?_
 unfold Builtin.«sorted»
 refine AA (m:=checkCount "sorted" 1 1 _) (AF ?_)
 refine AA (CS hc (fun vs s1 ⟨eos,hz,κ,kd,K,q⟩=>?_) fun _ _ z=>z)
 refine AA (GN ?_)
 have hoL:(s1.heap.push (seqObj "list" vs.toArray 0)).get? s1.heap.objs.size=some (seqObj "list" vs.toArray 0):=BB _ rfl
 show wpAny _ _ _ _ _ { s1 with heap:=s1.heap.push (seqObj "list" vs.toArray 0) }
 have hE:Ext s1.heap.objs.size s1 { s1 with heap:=s1.heap.push (seqObj "list" vs.toArray 0) }:=fun b o _ e=>AE _ e
 refine AA (CO (EL slot_list_sort ⟨_,hoL,rfl⟩ entry_list_sort (Co (s:={ s1 with heap:=s1.heap.push (seqObj "list" vs.toArray 0) }) (by simp only[Around.in1_units];omega) hoL hz (K _ hE) fun out ho=>⟨_,rfl,?_⟩) (args_list_sort _)))
 obtain⟨e,he⟩:=sortedHeap_at (h:=s1.heap.push (seqObj "list" vs.toArray 0)) (out:=out) hoL
 refine AF ⟨_,rfl,q out _ e ho (fun b o eb=>?_) he⟩
 have hlt:=AN eb
 rw[sortedHeap_old (BF hlt) (by rw[size_push'];exact CQ hlt)]
 exact AE _ eb
open PySem.SeqAt PySem.MeetsSeq PySem.MeetsSeq3
open AutoSeq1 (wpAny_loadPart')
theorem oneLt_lists{l b:Addr}{items items2:Array Value}{n n2:Nat}{r:Bool}{Q:Bool->Shared->Prop}(hu:A.units<cLine)(hl:s.heap.get? l=some (seqObj "list" items n))(hb:s.heap.get? b=some (seqObj "list" items2 n2))
  (hm:Meets (Builtin.«list.__lt__» ⟨[.ref l,.ref b],[]⟩) (fun A R s=>s.heap.get? l=some (seqObj "list" items n)/\s.heap.get? b=some (seqObj "list" items2 n2)/\R (.ok (.ret (.bool r))) s)) (h:Q r s) :
  wpAny (model prog w) A (oneLt' true (.ref l) (.ref b)) Q E s:=by
 rw[oneLt'_eq]
 simp only[FE]
 refine AA (wpAny_cRoomFor hu ?_)
 refine AA (wpAny_callSpecialIfBound?_slot (T := "list") ⟨_,hl,rfl⟩ F.slot_list_lt (call_meets F.slot_list_lt ⟨_,hl,rfl⟩ F.entry_list_lt (F.args_list_lt_2 _ _) hm ⟨hl,hb,?_⟩))
 exact DA h
end
end TS
namespace L2
open PySem PySem.Spec PyProof.Rows
def LAt(h:Heap)(p:Addr)(us:List Value):Prop:=∃n,h.get? p=some (seqObj "list" us.toArray n)
theorem Lc:∀{a b:List Str},a.map V.str=b.map V.str->a=b
 | [],[],_=>rfl
 | [],_::_,h=>(by cases h)
 | _::_,[],h=>(by cases h)
 | x::r,y::t,h=>by
  rw[BG,BG]at h
  injection h with h1 h2
  injection h1 with h1
  rw[h1,Lc h2]
def Zv(i:Nat)(f:Addr)(sp:Sp)(E:XK)(t:TA):TE:=fun σ H Q=>σ[i]?=some (some (.ref f))/\Yn sp [] E t σ H Q
section
variable{X:Cx}{CX:CXT}{k:Nat}{f:Addr}{fd:FuncData}{ps:List Str}{sp:Sp}{x:Str}{e:Expr}{es:List Expr}{t:TA}{p pos:Pos}{E:XK}{ds:List Value}
theorem Ke{i:Nat}(F:FnOk X.prog X.w X.K X.mg X.base CX k f fd ps sp)(hr:Room k X.A)(hk:PySem.W.keepIn X.K (.ref f)=true)(hb:Binds X.K fd ps [])(hx:u5 CX X E)
  (ha:PA X (e::es) t) (hN:X.N[i]?=some x:=by rfl) (hv:Vis X.env.scope x:=by first | exact Or.inl rfl | exact Or.inr (Or.inl rfl) | exact Or.inr (Or.inr rfl)) (hdb:(x ==("__debug__":Str))=false:=by decide) (hcd:(x ==("__classdict__":Str))=false:=by decide)
  (he:starEach (e::es) X.env =(false,eval e X.env)::starEach es X.env:=by rfl) (hpl:(backTo pos (starEach es X.env)).any (·.1)=false:=by rfl) :
  PE X (.Call (.Name x p) (e::es) [] pos) (Zv i f sp E t):=by
 intro pins s σ H Q I h
 obtain⟨e1,h⟩:=h
 refine FC (thn (Vk (i:=i) (pos:=p) hN hv hdb hcd pins s σ H (fun v H'=>v = .ref f/\H'=H) I ⟨_,e1,rfl,rfl⟩) fun u s1 ⟨v,H1,I1,r1,e2,e3⟩=>?_)
 subst e2 e3
 cases r1
 refine PySem.W.callWith_K (h₀:=X.base) I1.ok.mod.kin hk (thn (ha pos pins s1 σ H1 _ I1 h) fun us s2 ⟨vs,H2,I2,r,q⟩=>⟨I2.kIn,?_⟩) he hpl
 exact Lg F hr hb .nil hx I2 r q
end
end L2
namespace TS
open PySem PyProof.Rows
def lexB:List (List Nat)->List (List Nat)->Bool
 | _,[]=>false
 | [],_::_=>true
 | x::a,y::b=>decide (x<y)||(decide (x=y)&&lexB a b)
theorem lexB_cons{x y:List Nat}{a b:List (List Nat)}:lexB (x::a) (y::b)=true↔x<y\/(x=y/\lexB a b=true):=by
 rw[lexB];simp
theorem Al(a:List (List Nat)):lexB a []=false:=by cases a<;>rfl
theorem Bl:∀a,lexB a a=false
 | []=>rfl
 | x::a=>by
  rw[BI]
  intro z
  rcases lexB_cons.mp z with z | ⟨_,z⟩
  ·exact G_ _ z
  ·rw[Bl a]at z;cases z
theorem Dl:∀a b c,lexB a b=true->lexB b c=true->lexB a c=true
 | _,[],_,h,_=>by rw[Al]at h;cases h
 | _,_::_,[],_,h=>by rw[Al]at h;cases h
 | [],_::_,_::_,_,_=>rfl
 | x::a,y::b,z::c,h1,h2=>by
  rw[lexB_cons]at *
  rcases h1 with h1 | ⟨h1,h1'⟩
  ·rcases h2 with h2 | ⟨h2,_⟩
   ·exact .inl (GO h1 h2)
   ·exact .inl (h2▸h1)
  ·rcases h2 with h2 | ⟨h2,h2'⟩
   ·exact .inl (h1▸h2)
   ·exact .inr ⟨h1.trans h2,Dl a b c h1' h2'⟩
theorem Lh:∀a b c,lexB a c=true->lexB a b=true\/lexB b c=true
 | _,_,[],h=>by rw[Al]at h;cases h
 | [],[],_::_,_=>.inr rfl
 | _::_,[],_::_,_=>.inr rfl
 | [],_::_,_::_,_=>.inl rfl
 | x::a,y::b,z::c,h=>by
  rw[lexB_cons]at h
  simp only[lexB_cons]
  rcases tri x y with q | q | q
  ·exact .inl (.inl q)
  ·rcases h with h | ⟨h,h'⟩
   ·exact .inr (.inl (q▸h))
   ·rcases Lh a b c h' with r | r
    ·exact .inl (.inr ⟨q,r⟩)
    ·exact .inr (.inr ⟨q▸h,r⟩)
  ·rcases h with h | ⟨h,_⟩
   ·exact .inr (.inl (GO q h))
   ·exact .inr (.inl (h▸q))
theorem lexB_total:∀a b,lexB a b=false->lexB b a=false->a=b
 | [],[],_,_=>rfl
 | [],_::_,h,_=>by cases h
 | _::_,[],_,h=>by cases h
 | x::a,y::b,h1,h2=>by
  rw[BI]at h1 h2
  rcases tri x y with q | q | q
  ·exact absurd (lexB_cons.mpr (.inl q)) h1
  ·rw[q,lexB_total a b (BI.mpr fun z=>h1 (lexB_cons.mpr (.inr ⟨q,z⟩))) (BI.mpr fun z=>h2 (lexB_cons.mpr (.inr ⟨q.symm,z⟩)))]
  ·exact absurd (lexB_cons.mpr (.inl q)) h2
def lexKey(tab:List (Addr×List (List Nat))):Value->Option (List (List Nat))
 | .ref a=>(tab.find? fun q=>decide (q.1=a)).map fun q=>q.2
 | _=>none
@[reducible] def lexKind(tab:List (Addr×List (List Nat))):PyProof.Rows.KeyKind where
 α:=List (List Nat)
 blt:=lexB
 irrefl:=Bl
 trans:=Dl
 negTrans:=Lh
 total:=lexB_total
 keyOf:=lexKey tab
 dflt:=[]
theorem lexKey_mem{tab:List (Addr×List (List Nat))}{v:Value}{k:List (List Nat)}(h:lexKey tab v=some k):∃q∈tab,v = .ref q.1/\q.2=k:=by
 match v,h with
 | .ref a,h =>
  obtain⟨q,e,hk⟩:=BS.mp h
  exact⟨q,List.mem_of_find?_eq_some e,by rw[AW (List.find?_some (p:=fun q:Addr×List (List Nat)=>decide (q.1=a)) e)],hk⟩
theorem lexKey_some{tab:List (Addr×List (List Nat))}{q:Addr×List (List Nat)}(h:q∈tab):∃k,lexKey tab (.ref q.1)=some k:=by
 show ∃k,(tab.find? fun r=>decide (r.1=q.1)).map (fun r=>r.2)=some k
 cases e:tab.find? fun r=>decide (r.1=q.1)with
 | none=>exact absurd (AH rfl) (List.find?_eq_none.mp e _ h)
 | some r=>exact⟨r.2,rfl⟩
open PySem.SeqAt PySem.MeetsSeq PySem.MeetsSeq3
open AutoSeq1 (wpAny_loadPart')
def Its(items:Array Value)(as:List Str):Prop:=items.size=as.length/\∀(j:Nat) (x:Str),as[j]?=some x->∃t,items[j]?=some (.str x t)
abbrev kyS(as:List Str):List (List Nat):=as.map fun x=>x.cps.toList
theorem Jx(l b:Addr)(items items2:Array Value)(n n2:Nat)(as bs:List Str)(ha:Its items as)(hb:Its items2 bs)(k:Nat) :
  ∀i:Nat,as.length-i=k->i<=as.length->i<=bs.length->Meets (Builtin.«list.__eq__.loop» ⟨[.ref l,.ref b,rawInt i,rawInt 0],[]⟩)
   (fun A R s=>s.heap.get? l=some (seqObj "list" items n)/\s.heap.get? b=some (seqObj "list" items2 n2)/\R (.ok (.ret (.bool (lexB (kyS (as.drop i)) (kyS (bs.drop i)))))) s):=by
 induction k with
 | zero =>
  intro i hk h1 h2 prog w A R s h
  obtain⟨hp,g,d,tk,os⟩:=s;obtain⟨hl,hbb,h⟩:=h
  wp_walk using CU hl,CU hbb
  have hi1:items[((i:Nat):Int).toNat]?=none:=by have:=ha.1;simp;omega
  rw[hi1]
  have e:lexB (kyS (as.drop i)) (kyS (bs.drop i))=decide (items.size<items2.size):=by
   rw[ha.1,hb.1,HF (by omega)]
   by_cases c:i<bs.length
   ·rw[AH (by omega),DF c]
    rfl
   ·rw[A_ (by omega),HF (by omega)]
    rfl
  rw[e]at h
  wp_walk using CU hl,CU hbb
  exact h
 | succ k ih =>
  intro i hk h1 h2 prog w A R s h
  obtain⟨hp,g,d,tk,os⟩:=s;obtain⟨hl,hbb,h⟩:=h
  wp_walk using CU hl,CU hbb
  have hlt:i<as.length:=by omega
  obtain⟨t,et⟩:=ha.2 i as[i] (AC hlt)
  have hi1:items[((i:Nat):Int).toNat]?=some (.str as[i] t):=by simpa using et
  by_cases c:i<bs.length
  ·obtain⟨u,eu⟩:=hb.2 i bs[i] (AC c)
   have hi2:items2[((i:Nat):Int).toNat]?=some (.str bs[i] u):=by simpa using eu
   have hc:((i:Int)+1) =((i+1:Nat):Int):=by push_cast;rfl
   rw[DF hlt,DF c]at h
   have h:R (.ok (.ret (.bool (decide (as[i].cps.toList<bs[i].cps.toList)||(decide (as[i].cps.toList=bs[i].cps.toList)&&lexB (kyS (as.drop (i+1))) (kyS (bs.drop (i+1)))))))) _:=h
   rw[hi1,hi2]
   refine AA (HH ?_)
   by_cases e:as[i]=bs[i]
   ·rw[AH e]
    rw[e,A_ (G_ _),AH rfl,FZ,GR]at h
    wp_walk
    rw[hc]
    exact⟨plainId_quiet plain_eq_loop _,EU entry_eq_loop (by
     rw[Around.under_plainId plain_eq_loop _]
     exact ih (i+1) (by omega) (by omega) (by omega) prog w A R _ ⟨hl,hbb,h⟩)⟩
   ·rw[A_ e]
    have ne:as[i].cps.toList≠bs[i].cps.toList:=fun z=>e (by
     have z':=Array.toList_inj.mp z
     cases hx:as[i];cases hy:bs[i]
     rw[hx,hy]at z'
     exact congrArg Str.mk z')
    rw[A_ ne,DQ,Bool.or_false]at h
    wp_walk using CU hl,CU hbb
    rw[hi1,hi2]
    show wpAny _ _ (richCompare CmpOp.Lt (.str as[i] t) (.str bs[i] u) >>= fun r=>ret r) _ _ _
    refine AA (wpAny_richCompare_same (typeIs_str _ _ _) (typeIs_str _ _ _) slot_str_lt (call_str_lt ⟨(by intro z;cases z),AF h⟩) rfl)
  ·have hi2:items2[((i:Nat):Int).toNat]?=none:=by have:=hb.1;simp;omega
   rw[hi1,hi2]
   have e:lexB (kyS (as.drop i)) (kyS (bs.drop i))=decide (items.size<items2.size):=by
    rw[ha.1,hb.1,HF (l:=bs) (by omega),A_ (by omega)]
    exact Al _
   rw[e]at h
   wp_walk using CU hl,CU hbb
   exact h
theorem list_lt_gen(l b:Addr)(items items2:Array Value)(n n2:Nat)(as bs:List Str)(ha:Its items as)(hb:Its items2 bs) :
  Meets (Builtin.«list.__lt__» ⟨[.ref l,.ref b],[]⟩)
   (fun A R s=>s.heap.get? l=some (seqObj "list" items n)/\s.heap.get? b=some (seqObj "list" items2 n2)/\R (.ok (.ret (.bool (lexB (kyS as) (kyS bs))))) s):=by
 intro prog w A R s h
 obtain⟨hp,g,d,tk,os⟩:=s;obtain⟨hl,hbb,h⟩:=h
 have f3:=AutoSeq1.sub_list_list
 wp_walk using CU hl,CU hbb
 exact⟨plainId_quiet plain_eq_loop _,EU entry_eq_loop (by
  rw[Around.under_plainId plain_eq_loop _]
  exact Jx l b items items2 n n2 as bs ha hb _ 0 rfl (CA _) (CA _) prog w A R _ ⟨hl,hbb,h⟩)⟩
end TS
namespace L2
open PySem PySem.Spec PyProof.Rows
theorem Mv{l:List Str}{us:List Value}(r:Vals (l.map V.str) us):TS.Its us.toArray l:=by
 induction l generalizing us with
 | nil =>
  cases r
  exact⟨rfl,fun j x h=>by rw[List.getElem?_nil]at h;cases h⟩
 | cons y l ih =>
  cases r with
  | cons r1 r2 =>
   obtain⟨t0,rfl⟩:=r1
   obtain⟨h1,h2⟩:=ih r2
   refine⟨by simp only[AZ,BN]at h1⊢;rw[h1],fun j x h=>?_⟩
   cases j with
   | zero =>
    rw[GX]at h
    cases h
    exact⟨t0,rfl⟩
   | succ j =>
    rw[List.getElem?_cons_succ]at h
    obtain⟨t,e⟩:=h2 j x h
    exact⟨t,by simpa using e⟩
def Yo(ts:List (Addr×List Str)):List (Addr×List (List Nat)):=ts.map fun q=>(q.1,TS.kyS q.2)
theorem Nr{P:Program}{w:World}{s:Shared}{a:Addr}{ts:List (Addr×List Str)}{h0:Heap}(hv:∀q∈ts,∃us,Vals (q.2.map V.str) us/\LAt h0 q.1 us)(hk:∀b o,h0.get? b=some o->b≠a/\s.heap.get? b=some o) :
  TS.Keys2 P w a s (TS.lexKind (Yo ts)) oneType' (ts.map fun q=>Value.ref q.1):=by
 refine⟨fun A s' hu hE=>⟨fun x y k l Q E hx hy q=>?_⟩,fun v hvm=>?_,fun h2 A E s' Q hE q=>?_⟩
 ·obtain⟨_,m1,rfl,rfl⟩:=TS.lexKey_mem hx
  obtain⟨_,m2,rfl,rfl⟩:=TS.lexKey_mem hy
  obtain⟨x,mx,rfl⟩:=AK.mp m1
  obtain⟨y,my,rfl⟩:=AK.mp m2
  obtain⟨us,v1,n1,e1⟩:=hv x mx
  obtain⟨vs,v2,n2,e2⟩:=hv y my
  have e1':=hE _ _ (hk _ _ e1).1 (hk _ _ e1).2
  have e2':=hE _ _ (hk _ _ e2).1 (hk _ _ e2).2
  rw[keyLt'_oneType]
  exact TS.oneLt_lists (by omega) e1' e2' (TS.list_lt_gen _ _ _ _ _ _ _ _ (Mv v1) (Mv v2)) q
 ·obtain⟨q,hq,rfl⟩:=AK.mp hvm
  exact TS.lexKey_some (q:=(q.1,TS.kyS q.2)) (AK.mpr ⟨q,hq,rfl⟩)
 ·refine PySem.W.kas_kind (T:=.type "list") h2 (fun v hvm=>?_) (by decide) (by decide) q
  obtain⟨q,hq,rfl⟩:=AK.mp hvm
  obtain⟨us,v1,n1,e1⟩:=hv q hq
  exact(PySem.W.Looks.ld (hE _ _ (hk _ _ e1).1 (hk _ _ e1).2)).andThen .now
section
variable{X:Cx}
def We(K:PySem.W.Frag):List V->Hp->VK->Prop:=fun xs H Q=>∃(p:Addr) (ts:List (Addr×List Str)),xs = [.ref p]/\SqL K H p (ts.map fun q=>V.ref q.1)/\(∀q∈ts,H q.1=some (.lst (q.2.map V.str))) /\
  ∀(l:Addr) (ts':List (Addr×List Str)),H l=none->ts'.Perm ts->ts'.Pairwise (fun a b=>TS.lexB (TS.kyS b.2) (TS.kyS a.2)=false)->Q (.ref l) (upd H l (.lst (ts'.map fun q=>V.ref q.1)))
theorem Gn(hu:X.A.units+64<cLine):J0 X (.builtin "sorted") (We X.K):=by
 intro pins s σ H xs us Q I r h
 obtain⟨p,ts,rfl,hq,hpi,q⟩:=h
 obtain⟨u,rfl,ru⟩:=V2 r
 cases ru
 obtain⟨its,rv,pl,hz⟩:=I.list hq
 have ei:=zBt rv
 have hl:=rv.length
 refine TS.sorted_gen2 (by omega) (collect_list (vs:=its) pl.isList ?_ (by omega))
 have hsz:((s.heap.push (seqObj "list" #[] 0)).update s.heap.objs.size (Obj.mapSeq (· ++ its.toArray))).objs.size=s.heap.objs.size+1:=by rw[EZ,size_push']
 have hk1:∀b o,s.heap.get? b=some o->((s.heap.push (seqObj "list" #[] 0)).update s.heap.objs.size (Obj.mapSeq (· ++ its.toArray))).get? b=some o:=fun b o eb=>by
  rw[Heap.get?_update_ne _ _ _ _ (BF (AN eb))]
  exact AE _ eb
 have hpa:∀q∈ts,∃us,Vals (q.2.map V.str) us/\LAt s.heap q.1 us:=fun q hq=>by
  obtain⟨z,its,n,rv,e⟩:=I.hok _ _ (hpi q hq)
  exact⟨its,rv,n,e⟩
 refine⟨rfl,by omega,TS.lexKind (Yo ts),oneType',fun s2 hE=>?_,fun out h' e ho k hg=>?_⟩
 ·rw[ei]
  refine Nr hpa fun b o eb=>?_
  rw[<-ei]
  have hne:b≠((s.heap.push (seqObj "list" #[] 0)).update s.heap.objs.size (Obj.mapSeq (· ++ its.toArray))).objs.size:=by
   rw[hsz]
   exact BF (CQ (AN eb))
  exact⟨hne,hE b o hne (hk1 b o eb)⟩
 ·obtain⟨hp,hs⟩:=ho
  rw[ei]at hp
  obtain⟨ts',h1,h2⟩:=w6 (fun q:Addr×List Str=>Value.ref q.1) hp ts rfl
  have ky:∀q∈ts,TS.lexKey (Yo ts) (.ref q.1)=some (TS.kyS q.2):=fun q hq=>by
   obtain⟨k,e⟩:=TS.lexKey_some (tab:=Yo ts) (q:=(q.1,TS.kyS q.2)) (AK.mpr ⟨q,hq,rfl⟩)
   obtain⟨_,m,e1,e2⟩:=TS.lexKey_mem e
   obtain⟨r,mr,rfl⟩:=AK.mp m
   have e1:q.1=r.1:=Value.ref.inj e1
   have e3:=(hpi q hq).symm.trans ((congrArg H e1).trans (hpi r mr))
   have e4:q.2=r.2:=Lc (HO.lst.inj (BH e3))
   rw[e,<-e2,e4]
  have hpw:ts'.Pairwise (fun a b=>TS.lexB (TS.kyS b.2) (TS.kyS a.2)=false):=by
   rw[h2,CB]at hs
   refine(FF.mp hs).imp fun{a b} ⟨ha,hb,z⟩=>?_
   have z':TS.lexB ((TS.lexKey (Yo ts) (.ref b.1)).getD []) ((TS.lexKey (Yo ts) (.ref a.1)).getD [])=false:=z
   rw[ky a (h1.mem_iff.mp ha),ky b (h1.mem_iff.mp hb)]at z'
   exact z'
  have hn:H (s.heap.objs.size+1)=none:=I.hok.fresh (DL _)
  have hg':h'.get? (s.heap.objs.size+1)=some (seqObj "list" out e):=by rw[<-hsz];exact hg
  refine⟨.ref (s.heap.objs.size+1),upd H (s.heap.objs.size+1) (.lst (ts'.map fun q=>V.ref q.1)),?_,by show Value.ref _=_;rw[<-hsz],q _ _ hn h1 hpw⟩
  refine I.laid (t':=s.toks) (fun b o eb=>k b o (hk1 b o eb)) (DL _) ⟨?_,out.toList,e,by rw[h2];exact zAp ts',by simpa using hg'⟩
  rw[AB,h1.length_eq]
  rw[AB]at hz
  exact hz
theorem Kd(K:PySem.W.Frag)(hu:X.A.units+64<cLine)(hK:X.K=K:=by rfl):J0 X (.builtin "sorted") (We K):=by subst hK;exact Gn hu
end
def Mc(v d:Addr):HO:=.ext fun h=>h.IsValuesView v d
def Itv(d:Addr)(o:Obj)(kvs:List (Key×V)):It :=
 ⟨fun i H=>H d=some (.frz o (.dK kvs))/\i<kvs.length,fun i H x H'=>H'=H/\∃k,kvs[i]?=some (k,x),fun i H=>H d=some (.frz o (.dK kvs))/\kvs.length<=i⟩
theorem KV.atV{kvs:List (Key×V)}{vs:List (Key×Value)}(h:KV kvs vs):∀{i:Nat} {k:Key} {v:V},kvs[i]?=some (k,v)->∃u,vs[i]?=some (k,u)/\RelV v u:=by
 induction h with
 | nil=>intro i k v e;rw[List.getElem?_nil]at e;cases e
 | cons r _ ih =>
  intro i k v e
  cases i with
  | zero =>
   rw[GX]at e⊢
   cases e
   obtain⟨a,b⟩:=r
   exact⟨_,by rw[show k=_ from a],b⟩
  | succ i=>exact ih e
section
variable{X:Cx}{tg:Expr}
def zCi(td:TE):TE:=fun σ H Q=>td σ H fun x H1=>∃a kvs,x = .ref a/\H1 a=some (.dK kvs)/\∀v,H1 v=none->Q (.ref v) (upd H1 v (Mc v a))
theorem Ow{o:Expr}{apos cpos:Pos}{td:TE}(ho:PE X o td)(hbase:attributeBase o "values" X.env (eval o X.env)=eval o X.env:=by rfl)(hline:(apos.endLine == cpos.line)=true:=by rfl):PE X (.Call (.Attribute o "values" apos) [] [] cpos) (zCi td):=by
 intro pins s σ H Q I h
 refine wpAny_Call_method0_late hbase hline (thn (ho pins s σ H _ I h) fun v s1 ⟨x,H1,I1,r1,a,kvs,ex,ea,q1⟩=>?_)
 subst ex
 obtain rfl:v=Value.ref a:=r1
 obtain⟨z,hd,vs,rel,dd⟩:=Oy I1.hok ea
 obtain⟨t1,t2,_⟩:=Qs I1 (.inl ⟨kvs,.inl ea⟩)
 refine⟨"dict", "dict.values",PySem.F.plainAttrs_dict,PySem.F.slot_dict_values,PySem.F.type_dict_values,t1,t2,Calls.callWith_builtin rfl (PySem.evalArgs_none ?_)⟩
 refine call_meetsIn PySem.F.slot_dict_values dd.typeIs PySem.F.entry_dict_values (PySem.F.args_dict_values_1 _) (meets_dict_values (C2 X.prog X.w) a hd) ⟨⟨vs,dd⟩,?_⟩
 exact⟨.ref s1.heap.objs.size,upd H1 _ (Mc _ a),I1.laid (t':=s1.toks) (fun b o eb=>AE _ eb) (Nat.le_refl _) ⟨⟨_,BB _ rfl,rfl,rfl⟩,⟨_,BB _ rfl⟩,fun h1 h2 ⟨o,e,r⟩ k=>⟨o,k o e,r⟩⟩,rfl,q1 _ I1.fresh⟩
theorem Rn{P:Program}{w:World}{K:PySem.W.Frag}{d it:Addr}{o:Obj}{kvs:List (Key×V)}{es:Array DictEntry}{ep:Nat}(hd:o.data = .dict es ep):Turn P w K tg (Itv d o kvs) [it] it (fun i h=>h.IsValIter it d i kvs.length ep) where
 mem:=by simp
 obj:=fun i h st b hb=>by
  have e:b=it:=by simpa using hb
  subst e
  obtain⟨o,e,c,d⟩:=st
  exact⟨o,e,fun v z=>by rw[d]at z;cases z⟩
 keep:=fun i h h' st k=>by
  obtain⟨o,e,r⟩:=st
  exact⟨o,k it (by simp) o e,r⟩
 item:=by
  intro X hP hw hK hc i pins s σ H E I hf st hg
  subst hP hw hK
  obtain⟨hq,hi⟩:=hg
  obtain⟨f0,f1,f2,f3,f4,f5⟩:=hf it (by simp)
  obtain⟨ho,hz,hS,vs,r,ob,es',ep',e1,c1,d1,m1⟩:=(show ObjOk X.prog X.w H s.heap d (.frz o (.dK kvs))from I.hok d _ hq)
  rw[ho]at e1
  cases e1
  rw[hd]at d1
  cases d1
  have hx:kvs[i]?=some (kvs[i].1,kvs[i].2):=AC hi
  obtain⟨u,hu,ru⟩:=r.atV hx
  have hl:kvs.length=vs.length:=r.length
  rw[hl]at st
  refine wpAny_pyNext_values_item (knd:=C2 X.prog X.w) st ⟨o,es,ho,c1,hd,m1⟩ hu fun h' st' sb=>?_
  have I1:Inv X pins σ H { s with heap:=h' }:=I.turned (t':=s.toks) (fun b o hb e=>(sb.2 b hb).trans e) f0 f1 f3 f4 f5
  obtain⟨oi,ei,ci,di⟩:=id st'
  rw[<-hl]at st'
  exact⟨u,rfl,Nh (s:={ s with heap:=h' }) ei ci di (by decide) ⟨kvs[i].2,H,I1,ru,⟨rfl,_,hx⟩,st',fun b hb=>(hf b hb).1⟩⟩
 done:=by
  intro X hP hw hK hc i pins s σ H E I hf st hg
  subst hP hw hK
  obtain⟨hq,hi⟩:=hg
  obtain⟨f0,f1,f2,f3,f4,f5⟩:=hf it (by simp)
  obtain⟨ho,hz,hS,vs,r,ob,es',ep',e1,c1,d1,m1⟩:=(show ObjOk X.prog X.w H s.heap d (.frz o (.dK kvs))from I.hok d _ hq)
  rw[ho]at e1
  cases e1
  rw[hd]at d1
  cases d1
  have hl:kvs.length=vs.length:=r.length
  rw[hl]at st hi
  exact wpAny_pyNext_values_end (knd:=C2 X.prog X.w) (I.ok.hd hc) st ⟨o,es,ho,c1,hd,m1⟩ (EK hi) fun h' eb=>⟨rfl,I.turned (t':=s.toks) (fun b o hb e=>eb b o hb e) f0 f1 f3 f4 f5⟩
 self:=fun _ _ _ _ _ st h=>wpAny_pyIter_valiter st h
def zEk(tl:TE):TI:=fun σ H R=>tl σ H fun x H1=>∃v d kvs,x = .ref v/\H1 v=some (Mc v d)/\H1 d=some (.dK kvs)/\∀o,R (Itv d o kvs) (upd H1 d (.frz o (.dK kvs)))
theorem zAl{l:Expr}{tl:TE}(hl:PE X l tl):PI X tg l (zEk tl):=by
 intro pins s σ H R I h
 refine thn (hl pins s σ H _ I h) fun v s1 ⟨x,H1,I1,r1,q1⟩=>?_
 obtain⟨vw,d,kvs,e,hv,hq,q⟩:=q1
 subst e
 cases r1
 obtain⟨hview,_⟩:=(show ObjOk X.prog X.w H1 s1.heap vw (Mc vw d)from I1.hok vw _ hv)
 obtain⟨hz,hS,vs,r,o,es,ep,ho,c1,d1,m1⟩:=(show ObjOk X.prog X.w H1 s1.heap d (.dK kvs)from I1.hok d _ hq)
 have I2:Inv X pins σ (upd H1 d (.frz o (.dK kvs))) { s1 with heap:=s1.heap,toks:=s1.toks }:=I1.write (t':=s1.toks) (by rw[hq];trivial) (.inl rfl) (fun b u _ e=>e) ⟨_,ho⟩ ⟨ho,hz,hS,vs,r,o,es,ep,ho,c1,d1,m1⟩
 have hl:kvs.length=vs.length:=r.length
 refine wpAny_pyIter_values (knd:=C2 X.prog X.w) (ep:=ep) hview ⟨o,es,ho,c1,d1,m1⟩ ?_
 refine⟨s1.heap.objs.size,[s1.heap.objs.size],_,_,upd H1 d (.frz o (.dK kvs)),rfl,I2.kept (t':=s1.toks) fun b o e=>AE _ e,Rn d1,?_,fun b hb=>?_,q o⟩
 ·rw[hl]
  exact⟨_,BB _ rfl,rfl,rfl⟩
 have e:b=s1.heap.objs.size:=by simpa using hb
 subst e
 exact I2.fpOk (Nat.le_refl _) (I2.hok.fresh (Nat.le_refl _))
theorem Cd(ns:List Int):∀{n:Nat},n<=ns.length->preSum (fun i=>ns.getD i 0) n =(ns.take n).sum
 | 0,_=>rfl
 | n+1,h=>by
  have e:ns[n]?=some ns[n]:=AC (by omega)
  show preSum (fun i=>ns.getD i 0) n+ns.getD n 0=_
  rw[Cd ns (by omega),List.take_succ,List.sum_append,BW,e]
  simp
def zDh:List V->Hp->VK->Prop:=fun xs H Q=>∃(v d:Addr) (kvs:List (Key×V)) (ns:List Int),xs = [.ref v]/\H v=some (Mc v d)/\H d=some (.dK kvs)/\(kvs.map fun q=>q.2)=ns.map V.int/\Q (.int ns.sum) H
theorem Yg(hc:X.calm=true:=by rfl):J0 X (.builtin "sum") zDh:=by
 intro pins s σ H xs us Q I r h
 obtain⟨v,d,kvs,ns,rfl,hv,hq,hn,q⟩:=h
 obtain⟨u,rfl,ru⟩:=V2 r
 cases ru
 obtain⟨hview,_⟩:=(show ObjOk X.prog X.w H s.heap v (Mc v d)from I.hok v _ hv)
 obtain⟨hz,hS,vs,r,o,es,ep,ho,c1,d1,m1⟩:=(show ObjOk X.prog X.w H s.heap d (.dK kvs)from I.hok d _ hq)
 have hl:kvs.length=vs.length:=r.length
 have hln:kvs.length=ns.length:=by have:=congrArg List.length hn;rw[AB,AB]at this;exact this
 refine call_sum_walkG (wpAny_pyIter_values (knd:=C2 X.prog X.w) (ep:=ep) hview ⟨o,es,ho,c1,d1,m1⟩ ?_)
 have hdI:d≠s.heap.objs.size:=BF (AN ho)
 refine⟨s.heap.objs.size,_,_,vs.length,_,_,fun i=>ns.getD i 0,rfl,Walks.dictValues (knd:=C2 X.prog X.w) (by simp only[Around.in1_handled];exact I.ok.hd hc) s.heap.objs.size d hdI vs ep,⟨⟨_,BB _ rfl,rfl,rfl⟩,o,es,AE _ ho,c1,d1,m1⟩,fun b hb=>?_,fun i u ⟨k,hk⟩=>?_,fun h' tk t' kp=>⟨.int ns.sum,H,I.kept (t':=tk) fun b o e=>kp b o (by simpa using BF (AN e)) (AE _ e),⟨t',?_⟩,q⟩⟩
 ·rw[EB]
  rcases BD.mp hb with rfl | hb
  ·exact E_ _
  ·rw[AD.mp hb];exact CQ (AN ho)
 ·have hi:i<vs.length:=(AG.mp hk).1
  have hx:kvs[i]?=some (kvs[i].1,kvs[i].2):=AC (by omega)
  obtain⟨u',hu,ru⟩:=r.atV hx
  rw[hk]at hu
  cases hu
  have e:=congrArg (fun l=>l[i]?) hn
  rw[AI,AI,hx,AC (by omega:i<ns.length)]at e
  have e:kvs[i].2=V.int ns[i]:=BH e
  rw[e]at ru
  obtain⟨t,rfl⟩:=ru
  exact⟨t,by show Value.int ns[i] t=Value.int (ns.getD i 0) t;rw[BW,AC (by omega:i<ns.length)];rfl⟩
 ·have:preSum (fun i=>ns.getD i 0) vs.length=ns.sum:=by
   rw[Cd _ (by omega),CZ (by omega)]
  rw[this]
end
section
variable{X:Cx}
theorem zCh:PIp X .BitOr (ipI fun i j=>Builtin.bitOr i j):=by
 intro pins s σ H x y v u Q I r1 r2 h
 obtain⟨i,j,e1,e2,q⟩:=h
 subst e1;subst e2
 obtain⟨t,rfl⟩:=r1
 obtain⟨t',rfl⟩:=r2
 exact ior_int ⟨.int _,H,I.tok _,⟨_,rfl⟩,q⟩
end
section
variable{X:Cx}{tg:Expr}
def zCm(tl:TE):TI:=fun σ H R=>tl σ H fun x H1=>∃d kvs,x = .ref d/\Rd H1 d (.dK kvs)/\∀o,R (Itd d o kvs) (upd H1 d (.frz o (.dK kvs)))
theorem Tw{H:Hp}{d:Addr}{o:HO}(h:H d=some o):upd H d o=H:=funext fun b=>by
 by_cases e:b=d
 ·subst e;rw[A9,h]
 ·rw[B7 e]
theorem Wq{l:Expr}{tl:TE}(hl:PE X l tl):PI X tg l (zCm tl):=by
 intro pins s σ H R I h
 refine thn (hl pins s σ H _ I h) fun v s1 ⟨x,H1,I1,r1,q1⟩=>?_
 obtain⟨d,kvs,e,hq,q⟩:=q1
 subst e
 cases r1
 obtain⟨o,I2,hz,hS,vs,r,es,ep,ho,c1,d1,m1⟩:∃o,Inv X pins σ (upd H1 d (.frz o (.dK kvs))) { s1 with heap:=s1.heap,toks:=s1.toks }/\kvs.length<=sizeLine/\(d == sysModules)=false/\∃vs,KV kvs vs/\∃es ep,s1.heap.get? d=some o/\o.ExactDict/\o.data = .dict es ep/\(PySem.KeysOf (C2 X.prog X.w) es/\Pairs (C2 X.prog X.w) es.toList vs/\(vs.map (·.1)).Nodup):=by
  rcases hq with hq | ⟨o,hq⟩
  ·obtain⟨hz,hS,vs,r,o,es,ep,ho,c1,d1,m1⟩:=(show ObjOk X.prog X.w H1 s1.heap d (.dK kvs)from I1.hok d _ hq)
   exact⟨o,I1.write (t':=s1.toks) (by rw[hq];trivial) (.inl rfl) (fun b u _ e=>e) ⟨_,ho⟩ ⟨ho,hz,hS,vs,r,o,es,ep,ho,c1,d1,m1⟩,hz,hS,vs,r,es,ep,ho,c1,d1,m1⟩
  ·obtain⟨ho,hz,hS,vs,r,o',es,ep,ho',c1,d1,m1⟩:=(show ObjOk X.prog X.w H1 s1.heap d (.frz o (.dK kvs))from I1.hok d _ hq)
   rw[ho]at ho'
   cases ho'
   exact⟨o,by rw[Tw hq];exact I1,hz,hS,vs,r,es,ep,ho,c1,d1,m1⟩
 have hl:kvs.length=vs.length:=r.length
 refine wpAny_pyIter_dict (knd:=C2 X.prog X.w) (ep:=ep) hS ⟨o,es,ho,c1,d1,m1⟩ ?_
 refine⟨s1.heap.objs.size,[s1.heap.objs.size],_,_,upd H1 d (.frz o (.dK kvs)),rfl,I2.kept (t':=s1.toks) fun b o e=>AE _ e,Qk d1,?_,fun b hb=>?_,q o⟩
 ·rw[hl]
  exact⟨_,BB _ rfl,rfl,rfl⟩
 have e:b=s1.heap.objs.size:=by simpa using hb
 subst e
 exact I2.fpOk (Nat.le_refl _) (I2.hok.fresh (Nat.le_refl _))
end
section
variable{X:Cx}
def zFc:R2:=fun x y H Q=>∃(a b:Addr) (xs ys:List Str),x = .ref a/\y = .ref b/\H a=some (.lst (xs.map V.str))/\H b=some (.lst (ys.map V.str))/\Q (.bl (TS.lexB (TS.kyS xs) (TS.kyS ys))) H
theorem Yy(hu:X.A.units+64<cLine):OpR X (compareOp .Lt) zFc:=by
 intro pins s σ H x y v u Q I rx ry h
 obtain⟨a,b,xs,ys,rfl,rfl,ha,hb,q⟩:=h
 cases rx
 cases ry
 obtain⟨_,us,n,r1,e1⟩:=(show ObjOk X.prog X.w H s.heap a (.lst _)from I.hok a _ ha)
 obtain⟨_,vs,n2,r2,e2⟩:=(show ObjOk X.prog X.w H s.heap b (.lst _)from I.hok b _ hb)
 exact richCompare_meets_room (op:=.Lt) ⟨_,e1,rfl⟩ ⟨_,e2,rfl⟩ PySem.F.slot_list_lt PySem.F.entry_list_lt (PySem.F.args_list_lt_2 _ _) (TS.list_lt_gen _ _ _ _ _ _ _ _ (Mv r1) (Mv r2))
  ⟨e1,e2,show Value.bool _≠Value.notImplemented/\_ from⟨(fun x=>nomatch x),.bl _,H,I,rfl,q⟩⟩ (by omega)
end
end L2
namespace Sw
open PySem L2
def top(i:Nat):Stmt:=PySem.Challenge.pw_strikeweave_k29_lists_within_one_another.main.body.getD i (.Pass ⟨0,0,0,0⟩)
abbrev s_joined:Stmt:=top 10
abbrev s_first_bit:Stmt:=top 11
abbrev s_standing_sets:Stmt:=top 12
abbrev s_whole_sets:Stmt:=top 13
abbrev s_greatest_sets:Stmt:=top 14
abbrev s_outright_sets:Stmt:=top 15
abbrev s_all_found:Stmt:=top 16
abbrev s_gather:Stmt:=top 17
abbrev s_settle_standing:Stmt:=top 18
abbrev s_settle_whole:Stmt:=top 19
abbrev s_settle_outright:Stmt:=top 20
abbrev s_rounds:Stmt:=top 22
abbrev s_rounds_beside:Stmt:=top 23
abbrev s_one_round:Stmt:=top 24
abbrev s_wordless:Stmt:=top 25
abbrev s_all_out:Stmt:=top 26
abbrev s_one_in:Stmt:=top 27
abbrev s_least:Stmt:=top 28
abbrev s_is_name:Stmt:=top 33
abbrev s_check_names:Stmt:=top 34
abbrev s_check_strikes:Stmt:=top 35
abbrev s_is_strike:Stmt:=top 36
abbrev s_law_mix:Stmt:=top 38
abbrev s_law_left:Stmt:=top 39
abbrev s_law_pick:Stmt:=top 40
abbrev s_law_names:Stmt:=top 41
abbrev s_law_size:Stmt:=top 42
abbrev s_law_strikes:Stmt:=top 43
abbrev s_law_web:Stmt:=top 44
abbrev s_law_holds:Stmt:=top 45
abbrev s_law_within:Stmt:=top 46
abbrev s_law_are_above:Stmt:=top 47
abbrev s_law_is_rising:Stmt:=top 48
abbrev s_law_all_outside:Stmt:=top 49
abbrev s_law_changed:Stmt:=top 50
abbrev s_law_neighbours:Stmt:=top 51
abbrev s_law:Stmt:=top 52
abbrev s_Marks___init__:Stmt:=J8 (top 9) 0
abbrev s_Marks_bits_in:Stmt:=J8 (top 9) 1
abbrev s_Marks_names_in:Stmt:=J8 (top 9) 2
abbrev s_Marks_first_name:Stmt:=J8 (top 9) 3
abbrev s_Marks_set_of:Stmt:=J8 (top 9) 4
abbrev s_Marks_struck_by:Stmt:=J8 (top 9) 5
abbrev s_Marks_strikers_at:Stmt:=J8 (top 9) 6
abbrev s_Marks_unstruck_by:Stmt:=J8 (top 9) 7
abbrev s_Marks_kept:Stmt:=J8 (top 9) 8
abbrev s_Web___init__:Stmt:=J8 (top 32) 0
abbrev s_Web_all_names:Stmt:=J8 (top 32) 1
abbrev s_Web_all_strikes:Stmt:=J8 (top 32) 2
abbrev s_Web_strikers:Stmt:=J8 (top 32) 3
abbrev s_Web_struck:Stmt:=J8 (top 32) 4
abbrev s_Web_check_has:Stmt:=J8 (top 32) 5
structure Tx(K:PySem.W.Frag)(mg:Str->Option Value) where
 joined:Fn K mg "joined" s_joined ["sets"]
 first_bit:Fn K mg "first_bit" s_first_bit ["some"]
 standing_sets:Fn K mg "standing_sets" s_standing_sets ["web"]
 whole_sets:Fn K mg "whole_sets" s_whole_sets ["web"]
 greatest_sets:Fn K mg "greatest_sets" s_greatest_sets ["web"]
 outright_sets:Fn K mg "outright_sets" s_outright_sets ["web"]
 all_found:Fn K mg "all_found" s_all_found ["web", "settle", "greatest"]
 gather:Fn K mg "gather" s_gather ["marks", "settle", "greatest", "chosen", "barred", "found"]
 settle_standing:Fn K mg "settle_standing" s_settle_standing ["marks", "chosen", "barred"]
 settle_whole:Fn K mg "settle_whole" s_settle_whole ["marks", "chosen", "barred"]
 settle_outright:Fn K mg "settle_outright" s_settle_outright ["marks", "chosen", "barred"]
 rounds:Fn K mg "rounds" s_rounds ["web"]
 rounds_beside:Fn K mg "rounds_beside" s_rounds_beside ["web", "known"]
 one_round:Fn K mg "one_round" s_one_round ["web", "words", "number"]
 wordless:Fn K mg "wordless" s_wordless ["web", "words"]
 all_out:Fn K mg "all_out" s_all_out ["web", "words", "name"]
 one_in:Fn K mg "one_in" s_one_in ["web", "words", "name"]
 least:Fn K mg "least" s_least ["web"]
 is_name:Fn K mg "is_name" s_is_name ["thing"]
 check_names:Fn K mg "check_names" s_check_names ["names"]
 check_strikes:Fn K mg "check_strikes" s_check_strikes ["names", "strikes"]
 is_strike:Fn K mg "is_strike" s_is_strike ["names", "thing"]
 law_mix:Fn K mg "_law_mix" s_law_mix ["_law_cell", "_law_k"]
 law_left:Fn K mg "_law_left" s_law_left ["_law_script", "_law_k"]
 law_pick:Fn K mg "_law_pick" s_law_pick ["_law_left_here", "_law_many"]
 law_names:Fn K mg "_law_names" s_law_names ["_law_left_here", "_law_many"]
 law_size:Fn K mg "_law_size" s_law_size ["_law_left_here"]
 law_strikes:Fn K mg "_law_strikes" s_law_strikes ["_law_left_here", "_law_names_here"]
 law_web:Fn K mg "_law_web" s_law_web ["_law_left_here"]
 law_holds:Fn K mg "_law_holds" s_law_holds ["_law_some", "_law_strikes_here"]
 law_within:Fn K mg "_law_within" s_law_within ["_law_one", "_law_other"]
 law_are_above:Fn K mg "_law_are_above" s_law_are_above ["_law_most", "_law_standing"]
 law_is_rising:Fn K mg "_law_is_rising" s_law_is_rising ["_law_lists"]
 law_all_outside:Fn K mg "_law_all_outside" s_law_all_outside ["_law_some", "_law_names_here", "_law_strikes_here"]
 law_changed:Fn K mg "_law_changed" s_law_changed ["_law_left_here", "_law_names_here", "_law_some"]
 law_neighbours:Fn K mg "_law_neighbours" s_law_neighbours ["_law_left_here", "_law_names_here", "_law_strikes_here", "_law_standing"]
 CMarks:Addr
 clMarks:Cls K CMarks
 mgMarks:mg "Marks" = some (.ref CMarks)
 nMarks_names:NoAttr K CMarks "names"
 nMarks_full:NoAttr K CMarks "full"
 nMarks_bit_of:NoAttr K CMarks "bit_of"
 nMarks_strikers_of:NoAttr K CMarks "strikers_of"
 nMarks_struck_of:NoAttr K CMarks "struck_of"
 nMarks_loops:NoAttr K CMarks "loops"
 fMarks___init__:Addr
 fdMarks___init__:FuncData
 FMarks___init__:Fun K "__init__" "Marks.__init__" s_Marks___init__ fMarks___init__ fdMarks___init__
 bMarks___init__:Binds K fdMarks___init__ ["self", "web"] []
 mkMarks:Mk K CMarks fMarks___init__
 mMarks_bits_in:Mt K CMarks "bits_in" "Marks.bits_in" s_Marks_bits_in ["self", "some"]
 mMarks_names_in:Mt K CMarks "names_in" "Marks.names_in" s_Marks_names_in ["self", "some"]
 mMarks_first_name:Mt K CMarks "first_name" "Marks.first_name" s_Marks_first_name ["self", "some"]
 mMarks_set_of:Mt K CMarks "set_of" "Marks.set_of" s_Marks_set_of ["self", "some"]
 mMarks_struck_by:Mt K CMarks "struck_by" "Marks.struck_by" s_Marks_struck_by ["self", "some"]
 mMarks_strikers_at:Mt K CMarks "strikers_at" "Marks.strikers_at" s_Marks_strikers_at ["self", "some"]
 mMarks_unstruck_by:Mt K CMarks "unstruck_by" "Marks.unstruck_by" s_Marks_unstruck_by ["self", "some"]
 mMarks_kept:Mt K CMarks "kept" "Marks.kept" s_Marks_kept ["self", "some"]
 CWeb:Addr
 clWeb:Cls K CWeb
 mgWeb:mg "Web" = some (.ref CWeb)
 nWeb_names:NoAttr K CWeb "names"
 nWeb_strikes:NoAttr K CWeb "strikes"
 nWeb_strikers_by_name:NoAttr K CWeb "strikers_by_name"
 nWeb_struck_by_name:NoAttr K CWeb "struck_by_name"
 fWeb___init__:Addr
 fdWeb___init__:FuncData
 FWeb___init__:Fun K "__init__" "Web.__init__" s_Web___init__ fWeb___init__ fdWeb___init__
 bWeb___init__:Binds K fdWeb___init__ ["self", "names", "strikes"] []
 mkWeb:Mk K CWeb fWeb___init__
 mWeb_all_names:Mt K CWeb "all_names" "Web.all_names" s_Web_all_names ["self"]
 mWeb_all_strikes:Mt K CWeb "all_strikes" "Web.all_strikes" s_Web_all_strikes ["self"]
 mWeb_strikers:Mt K CWeb "strikers" "Web.strikers" s_Web_strikers ["self", "name"]
 mWeb_struck:Mt K CWeb "struck" "Web.struck" s_Web_struck ["self", "name"]
 mWeb_check_has:Mt K CWeb "check_has" "Web.check_has" s_Web_check_has ["self", "name"]
 gMOST:∃t,mg "MOST" = some (.int 300 t)
 gLETTERS:∃t,mg "LETTERS" = some (.str "abcdefghijklmnopqrstuvwxyz" t)
 gLONGEST_NAME:∃t,mg "LONGEST_NAME" = some (.int 8 t)
 b_len:mg "len" = none
 b_range:mg "range" = none
 b_enumerate:mg "enumerate" = none
 b_min:mg "min" = none
 b_max:mg "max" = none
 b_sum:mg "sum" = none
 b_abs:mg "abs" = none
 b_sorted:mg "sorted" = none
 b_int:mg "int" = none
 b_str:mg "str" = none
 b_list:mg "list" = none
 b_tuple:mg "tuple" = none
 b_dict:mg "dict" = none
 b_set:mg "set" = none
 b_isinstance:mg "isinstance" = none
 b_all:mg "all" = none
 b_any:mg "any" = none
 b_ValueError:mg "ValueError" = none
end Sw
namespace L2
open PySem
theorem Au{J:It}{xs:List V}{a:Addr}{H0:Hp}(as:AsSeq J xs a H0){g:TG}{tb:TS}{D:Ends}{σ:St}{H:Hp}(Pv:Nat->St->Hp->Prop)(h0:Pv 0 σ H)(hk:∀i σ H,i<=xs.length->Pv i σ H->KeepAt a H0 H)
  (hs:∀i σ H x,xs[i]?=some x->Pv i σ H->∀D':Ends,(∀σ' H',Pv (i+1) σ' H'->D'.nx σ' H')->D'.rt=D.rt->g x σ H fun σ2 H2=>tb D' σ2 H2) (hd:∀σ H,Pv xs.length σ H->D.nx σ H) :
  ∃W:Nat->Nat->St->Hp->Prop,(∃m,W 0 m σ H)/\∀i m σ H,W i m σ H ->
   (J.stop i H/\D.nx σ H)\/(J.go i H/\∃N:St->Hp->Prop,(∀σ' H',N σ' H'->∃m',m' < m/\W (i+1) m' σ' H')/\∀x H',J.yld i H x H'->g x σ H' fun σ2 H2=>tb { D with nx:=N,ct:=N,bk:=D.nx } σ2 H2) :=
 zBk as Pv h0 hk (fun i σ H x hx hp=>hs i σ H x hx hp _ (fun _ _ z=>z) rfl) hd
theorem t6{lo:Int}{n:Nat}{g:TG}{tb:TS}{D:Ends}{σ:St}{H:Hp}(Pv:Nat->St->Hp->Prop)(h0:Pv 0 σ H)
  (hs:∀i σ H,i<n->Pv i σ H->∀D':Ends,(∀σ' H',Pv (i+1) σ' H'->D'.nx σ' H')->D'.rt=D.rt->g (.int (lo+i)) σ H fun σ2 H2=>tb D' σ2 H2) (hd:∀σ H,Pv n σ H->D.nx σ H) :
  ∃W:Nat->Nat->St->Hp->Prop,(∃m,W 0 m σ H)/\∀i m σ H,W i m σ H ->
   ((Itr lo n).stop i H/\D.nx σ H)\/((Itr lo n).go i H/\∃N:St->Hp->Prop,(∀σ' H',N σ' H'->∃m',m' < m/\W (i+1) m' σ' H')/\∀x H',(Itr lo n).yld i H x H'->g x σ H' fun σ2 H2=>tb { D with nx:=N,ct:=N,bk:=D.nx } σ2 H2) :=
 Oo Pv h0 (fun i σ H hi hp=>hs i σ H hi hp _ (fun _ _ z=>z) rfl) hd
theorem ex1{α:Type}{A C:α->Prop}{a:α}(e:A a)(h:C a):∃v,A v/\C v:=⟨a,e,h⟩
theorem Eh{α0 α1 α2:Type}{A0 A1 A2 A3 A4 A5:α0->α1->α2->Prop}{a:α0}{b:α1}{c:α2}(h0:A0 a b c)(h1:A1 a b c)(h2:A2 a b c)(h3:A3 a b c)(h4:A4 a b c)(h5:A5 a b c):∃a b c,A0 a b c/\A1 a b c/\A2 a b c/\A3 a b c/\A4 a b c/\A5 a b c:=⟨a,b,c,h0,h1,h2,h3,h4,h5⟩
theorem zDd{α0 α1 α2 α3 α4 α5:Type}{A0 A1 A2 A3 A4 A5 A6 A7:α0->α1->α2->α3->α4->α5->Prop}{a:α0}{b:α1}{c:α2}{d:α3}{e:α4}{f:α5}(h0:A0 a b c d e f)(h1:A1 a b c d e f)(h2:A2 a b c d e f)(h3:A3 a b c d e f)(h4:A4 a b c d e f)(h5:A5 a b c d e f)(h6:A6 a b c d e f)(h7:A7 a b c d e f):∃a b c d e f,A0 a b c d e f/\A1 a b c d e f/\A2 a b c d e f/\A3 a b c d e f/\A4 a b c d e f/\A5 a b c d e f/\A6 a b c d e f/\A7 a b c d e f:=⟨a,b,c,d,e,f,h0,h1,h2,h3,h4,h5,h6,h7⟩
theorem C1{α0 α1:Type}{A0 A1 A2:α0->α1->Prop}{a:α0}{b:α1}(h0:A0 a b)(h1:A1 a b)(h2:A2 a b):∃a b,A0 a b/\A1 a b/\A2 a b:=⟨a,b,h0,h1,h2⟩
theorem B5{t u:TS}{D:Ends}{σ:St}{H:Hp}(h:∀N:St->Hp->Prop,(∀σ' H',u D σ' H'->N σ' H')->t { D with nx:=N } σ H):zBu t u D σ H:=h _ fun _ _ z=>z
theorem Ye{i:Nat}{v:V}{t u:TS}{D:Ends}{σ:St}{H:Hp}(h:∀N:St->Hp->Prop,(∀σ' H',u D σ' H'->N σ' H')->t { D with nx:=N } (σ.set i (some v)) H):Q6 i v σ H (fun σ2 H2=>zBu t u D σ2 H2):=h _ fun _ _ z=>z
end L2
namespace Sw
open PySem L2
section
variable{P:Program}{w:World}{K:PySem.W.Frag}{mg:Str->Option Value}{base:Heap}
def Yi(c:Nat):Bool:=decide (97<=c)&&decide (c<=122)
def J7(x:Str):Bool:=decide (1<=x.length)&&decide (x.length<=8)&&x.cps.toList.all Yi
theorem Ix:("abcdefghijklmnopqrstuvwxyz":Str).cps.toList=List.range' 97 26:=by decide +kernel
theorem Wy(c:Nat):decide (c∈("abcdefghijklmnopqrstuvwxyz":Str).cps.toList)=Yi c:=by
 rw[Ix]
 unfold Yi
 by_cases h1:97<=c
 ·by_cases h2:c<=122
  ·rw[AH (List.mem_range'_1.mpr (by omega)),AH h1,AH h2];rfl
  ·rw[A_ (fun z=>by have:=List.mem_range'_1.mp z;omega),A_ h2,GE]
 ·rw[A_ (fun z=>by have:=List.mem_range'_1.mp z;omega),A_ h1,DQ]
theorem Na:FnScope ["thing"] ["thing"] (B6 s_is_name):=⟨rfl,rfl,rfl,by decide +kernel,rfl,by decide +kernel,by decide +kernel⟩
def Dq:Sp:=fun vs H Q _=>∃x,vs = [.str x]/\x.length<=1000/\∀H',Same H H'->Q (.bl (J7 x)) H'
theorem Nm(T:Tx K mg):FnOk P w K mg base CX0 1 T.is_name.f T.is_name.fd ["thing"] Dq:=by
 refine T.is_name.F.ok Na (fun vs H Q E h=>?_) (fun cdv A outer s H vs Q E hr h=>?_)
 ·obtain⟨x,rfl,_⟩:=h
  rfl
 ·obtain⟨x,rfl,hx,k⟩:=h
  refine⟨_,(B1 (J4 (PW.pt (Cn (K9 (I9 (E9 (Rl K) T.b_isinstance h8 (A8 (pv 0) (A8 (zAy T.b_str zBg) B2))))) (W3 (K9 (Ue Zb Zb B8 (E9 Ht T.b_len W8 (A8 (pv 0) B2)) (Wl T.gLONGEST_NAME)))))) (B3 (B9 M0)) C4)
   (B3 (B9 (E9 (V5 K) T.b_all U0 (A8 (J5 (N':=["letter"]) (cap:=[none]) (cl:=[]) (E8 trivial trivial) rfl (Zd (pv 0)) (fun _ _ _ _=>by exact⟨(pgC 0),C8,(I0 Pi (pv 0) (zCr T.gLETTERS) rfl)⟩)) B2))))),?_⟩
  have h64:x.length<=sizeLine:=by rw[sizeLine_eq];omega
  have hlen:x.cps.size=x.length:=rfl
  refine ex1 rfl ⟨.str x, "str",_,true,rfl,.str x,rfl,ex1 rfl ?_⟩
  refine U3 ?_
  refine ex1 rfl ⟨x,rfl,h64,C1 rfl rfl (ex1 rfl ?_)⟩
  refine U4 (fun c1=>?_) (fun c1=>?_)
  ·have c1:(1:Int)<=(x.length:Int):=AW c1
   refine C1 rfl rfl (ex1 rfl ?_)
   by_cases c2:(x.length:Int)<=8
   ·rw[AH c2]
    refine U3 ?_
    refine ex1 rfl ⟨x,rfl,fun D hD=>?_⟩
    refine Hd (n:=x.cps.size) (fun i σ H'=>(∃v,σ = [v])/\Same H H'/\H' D=some (.lst ((x.cps.toList.take i).map fun c=>V.bl (Yi c)))) ⟨⟨_,rfl⟩,Same.new hD,A9⟩ (fun i _ _ hi _=>hi) (fun _ _ _=>rfl) ?_ ?_
    ·rintro i σ H1 v H' N hi ⟨⟨v0,rfl⟩,s1,e1⟩ ⟨rfl,c,hc,rfl⟩ hN
     refine An ?_
     refine ex1 rfl (C1 rfl rfl ⟨_,e1,?_,?_⟩)
     ·rw[AB,AS,sizeLine_eq];omega
     ·rw[PySem.StrLaws.found_one,Wy]
      refine hN _ _ ⟨⟨_,rfl⟩,s1.upd hD,?_⟩
      rw[A9]
      have:x.cps.toList[i]?=some c:=by rw[BO];exact hc
      rw[List.take_add_one,this,AR]
      rfl
    ·rintro σ H1 ⟨_,s1,e1⟩
     refine⟨D,x.cps.toList.map Yi,rfl,SqL.of ?_,?_⟩
     ·rw[e1,<-AO,CG,CC];rfl
     ·have e:(x.cps.toList.map Yi).all id=J7 x:=by
       unfold J7
       rw[AH (show 1<=x.length by omega),AH (show x.length<=8 by omega),List.all_map]
       rfl
      rw[e]
      exact k _ s1
   ·rw[A_ c2]
    refine Rx ?_
    have e:J7 x=false:=by
     unfold J7
     rw[A_ (show ¬x.length<=8 by omega),GE,DQ]
    have:=k H (Same.refl H)
    rw[e]at this
    exact this
  ·have c1:¬(1:Int)<=(x.length:Int):=fun z=>c1 (AH z)
   refine ex1 rfl ?_
   refine Rx ?_
   have e:J7 x=false:=by
    unfold J7
    rw[A_ (show ¬1<=x.length by omega),DQ,DQ]
   have:=k H (Same.refl H)
   rw[e]at this
   exact this
theorem take_succ{α:Type}{l:List α}{i:Nat}{x:α}(h:l[i]?=some x):l.take (i+1)=l.take i ++ [x]:=by
 rw[List.take_add_one,h];rfl
theorem t7{α:Type}{l:List α}{i:Nat}{x:α}(nd:l.Nodup)(h:l[i]?=some x):x∉l.take i:=by
 intro hm
 obtain⟨j,hj,e⟩:=EG hm
 have hj':j<i:=by rw[AS]at hj;omega
 rw[List.getElem_take]at e
 obtain⟨hi,e'⟩:=AG.mp h
 have:=(List.getElem_inj nd).mp (e.trans e'.symm)
 omega
theorem X3:FnScope ["names", "seen", "place", "name"] ["names"] (B6 s_check_names):=⟨rfl,rfl,rfl,by decide +kernel,rfl,by decide +kernel,by decide +kernel⟩
def Y5(ss:List Str):Prop:=(∀x∈ss,J7 x=true)/\ss.Nodup/\ss.length<=100
def X2(K:PySem.W.Frag):Sp:=fun vs H Q _=>∃(p:Addr) (ss:List Str),vs = [.ref p]/\SqL K H p (ss.map V.str)/\Y5 ss/\∀H',Same H H'->Q .non H'
theorem Pc{x:Str}(h:J7 x=true):1<=x.length/\x.length<=8:=by
 unfold J7 at h
 rw[BP,BP]at h
 exact⟨AW h.1.1,AW h.1.2⟩
theorem Cm(T:Tx K mg):FnOk P w K mg base CX0 2 T.check_names.f T.check_names.fd ["names"] (X2 K):=by
 have G_is_name:FnOk P w K mg base CX0 1 T.is_name.f T.is_name.fd ["thing"] Dq:=Nm T
 have sc:=X3
 refine T.check_names.F.ok X3 (fun vs H Q E h=>?_) (fun cdv A outer s H vs Q E hr h=>?_)
 ·obtain⟨p,ss,rfl,_⟩:=h
  rfl
 ·obtain⟨a,ss,rfl,hS,⟨hN,hD,hL⟩,k⟩:=h
  have hu:=z9 hr
  refine⟨_,(B1 (C5 (i:=1) sc.nd rfl (by first | exact Or.inl rfl | exact Or.inr rfl) (Da (Wv P w) (by rfl) T.b_set Ov))
   (B3 (V3 PassesOwn.never rfl (piE K T.b_enumerate (A8 (pv 0) B2)) (pgT K (n:=2) (C0 (C7 (i:=2) sc.nd rfl (by first | exact Or.inl rfl | exact Or.inr rfl)) (C0 (C7 (i:=3) sc.nd rfl (by first | exact Or.inl rfl | exact Or.inr rfl)) J2)))
   (B1 (J4 (PW.pt (Cn (K9 (I9 (C6 T.is_name G_is_name (hr.mono (by decide)) (A8 (pv 3) B2)))) (W3 (C3 (zCy P w) (pv 3) (pv 1) rfl)))) (B3 Z7) C4)
   (B3 (E4 (Vq P w (Yz P w) (pv 1) (A8 (pv 3) B2)))))))),?_⟩
  refine⟨rfl,fun p hp=>?_⟩
  have s0:Same H (upd H p (Oa P w p [])):=Same.new hp
  refine ex1 rfl ⟨a,ex1 rfl ⟨(s0.at a).seqL hS,Ty (n:=ss.length) (fun i σ H1=>∃v2 v3,σ = [some (.ref a),some (.ref p),v2,v3]/\Same H H1/\H1 p=some (Oa P w p ((ss.take i).map Sum.inr))) ⟨_,_,rfl,s0,A9⟩ ?_ ?_ ?_ ?_⟩⟩
  ·rintro i σ H1 hi ⟨v2,v3,rfl,s1,e1⟩
   exact⟨_,_,(s1.at a).seqL hS,by rw[AI,AC hi];rfl⟩
  ·rintro σ H1 ⟨v2,v3,rfl,s1,e1⟩
   exact⟨_,(s1.at a).seqL hS,by rw[AB]⟩
  ·rintro i σ H1 v H' hi ⟨v2,v3,rfl,s1,e1⟩ ⟨t,x,rfl,ht,rfl,hx⟩
   have hx:=hx _ ((s1.at a).seqL hS)
   have hi':ss[i]?=some ss[i]:=AC hi
   rw[AI,hi']at hx
   cases hx
   have hm:ss[i]∈ss:=DI hi
   have hnb:=hN _ hm
   have hlen:=Pc hnb
   have npt:p≠t:=B0 e1 ht
   refine⟨t,ex1 rfl ⟨SqT.of A9,rfl,_,ex1 rfl (C1 rfl rfl ?_)⟩⟩
   refine ex1 rfl ⟨ss[i],rfl,by omega,fun H2 s2=>⟨_,rfl,?_⟩⟩
   rw[hnb]
   refine U3 ?_
   have s12:Same H H2:=(s1.trans (Same.new ht)).trans s2
   have e2:H2 p=some (Oa P w p ((ss.take i).map Sum.inr)):=s2 _ _ (by rw[B7 npt];exact e1)
   have hnin:¬(Sum.inr ss[i]:Key)∈(ss.take i).map Sum.inr:=fun z=>by
    obtain⟨y,hy,e⟩:=AK.mp z
    cases e
    exact t7 hD hi' hy
   refine ex1 rfl (ex1 rfl ⟨p,_,Sum.inr ss[i],rfl,rfl,e2,ex1 rfl ?_⟩)
   rw[AJ (by decide),A_ hnin]
   refine U3 ?_
   refine ex1 rfl ⟨⟨p,rfl,.inl ⟨_,e2⟩⟩,ex1 rfl ⟨p,_,Sum.inr ss[i],rfl,rfl,e2,?_,?_⟩⟩
   ·rw[AB,AS];omega
   ·refine⟨_,ex1 rfl ⟨s12.upd hp,?_⟩⟩
    rw[A9]
    unfold zBv
    rw[AJ hnin,take_succ hi',AR]
    rfl
  ·rintro σ H1 ⟨v2,v3,rfl,s1,e1⟩
   exact k H1 s1
end
theorem Ft(ss:List Str):(ss.map V.str).all Ek=true:=by
 rw[CJ]
 intro v hv
 obtain⟨x,_,rfl⟩:=AK.mp hv
 rfl
theorem Oj(x:Str)(ss:List Str):inV (.str x) (ss.map V.str)=decide (x∈ss):=by
 unfold inV
 rw[List.any_map]
 induction ss with
 | nil=>rfl
 | cons y r ih =>
  rw[FO,ih]
  show((y == x)||decide (x∈r))=decide (x∈y::r)
  by_cases e:x=y
  ·subst e
   simp
  ·have:(y == x)=false:=by simpa using fun z=>e z.symm
   rw[this,FZ]
   by_cases h:x∈r
   ·rw[AH h,AH (AM _ h)]
   ·rw[A_ h,A_ (fun z=>(BD.mp z).elim e h)]
theorem K1{K:PySem.W.Frag}{H:Hp}{p:Addr}{x:Str}{ss:List Str}{Q:VK}(h:Sqs K H p (ss.map V.str))(q:Q (.bl (decide (x∈ss))) H):rIn K false (.str x) (.ref p) H Q :=
 ⟨p,_,rfl,h,rfl,Ft ss,by rw[AJ (by decide),Oj];exact q⟩
theorem Nt{K:PySem.W.Frag}{H:Hp}{p:Addr}{x:Str}{ss:List Str}{Q:VK}(h:Sqs K H p (ss.map V.str))(q:Q (.bl (!decide (x∈ss))) H):rIn K true (.str x) (.ref p) H Q :=
 ⟨p,_,rfl,h,rfl,Ft ss,by rw[AQ rfl,Oj];exact q⟩
section
variable{P:Program}{w:World}{K:PySem.W.Frag}{mg:Str->Option Value}{base:Heap}
theorem Fr:FnScope ["names", "thing"] ["names", "thing"] (B6 s_is_strike):=⟨rfl,rfl,rfl,by decide +kernel,rfl,by decide +kernel,by decide +kernel⟩
def t9(K:PySem.W.Frag):Sp:=fun vs H Q _=>∃(p:Addr) (ss:List Str) (t:Addr) (x y:Str),vs = [.ref p,.ref t]/\SqL K H p (ss.map V.str)/\H t=some (.tup [.str x,.str y])/\x∈ss/\y∈ss/\Q (.bl true) H
theorem Gy(T:Tx K mg):FnOk P w K mg base CX0 1 T.is_strike.f T.is_strike.fd ["names", "thing"] (t9 K):=by
 refine T.is_strike.F.ok Fr (fun vs H Q E h=>?_) (fun cdv A outer s H vs Q E hr h=>?_)
 ·obtain⟨p,ss,t,x,y,rfl,_⟩:=h
  rfl
 ·obtain⟨p,ss,t,x,y,rfl,hS,ht,hx,hy,k⟩:=h
  refine⟨_,(B1 (J4 (PW.pt (Cn (K9 (I9 (E9 (Rl K) T.b_isinstance h8 (A8 (pv 1) (A8 (zAy T.b_tuple Tp) B2))))) (W3 (C3 Uj (E9 (j7 K) T.b_len W8 (A8 (pv 1) B2)) B8 (F0 _))))) (B3 (B9 M0)) C4)
   (B3 (B9 (Vh (I0 (j0 K) (V6 (ixT K) (pv 1) B8 (fun _ _=>rfl)) (pv 0) rfl) (Pn (I0 (j0 K) (V6 (ixT K) (pv 1) B8 (fun _ _=>rfl)) (pv 0) rfl)))))),?_⟩
  refine ex1 rfl ⟨_, "tuple",_,true,rfl,.tup ht,rfl,ex1 rfl ?_⟩
  refine U3 ?_
  refine ex1 rfl (C1 (a:=t) rfl (.inr (SqT.of ht)) ⟨rfl,ex1 rfl ?_⟩)
  refine U3 ?_
  refine ex1 rfl ⟨t,_,C1 rfl rfl ⟨SqT.of ht,rfl,ex1 rfl (K1 (.inl hS) ⟨_,rfl,?_⟩)⟩⟩
  rw[AH hx]
  refine Rx ?_
  refine ex1 rfl ⟨t,_,C1 rfl rfl ⟨SqT.of ht,rfl,ex1 rfl (K1 (.inl hS) ?_)⟩⟩
  rw[AH hy]
  exact k
structure StrkOk(ss:List Str)(ps:List PA2):Prop where
 nm:∀q∈ps,q.2.1∈ss/\q.2.2∈ss
 nd:(ps.map fun q=>q.2).Nodup
 len:ps.length<=200
def P0(ps:List PA2):List V:=ps.map fun q=>V.ref q.1
def Kb(ps:List PA2):List (List Key×Addr):=ps.map fun q=>([.inr q.2.1,.inr q.2.2],q.1)
theorem Tt{H:Hp}{ps:List PA2}(h:∀q∈ps,E7 H q):Kn H (Kb ps):=fun k hk=>by
 obtain⟨q,hq,rfl⟩:=AK.mp hk
 exact h q hq
theorem D0{H H':Hp}{ps:List PA2}(s:Same H H')(h:∀q∈ps,E7 H q):∀q∈ps,E7 H' q:=fun q hq=>s _ _ (h q hq)
theorem T8:FnScope ["names", "strikes", "seen", "place", "strike"] ["names", "strikes"] (B6 s_check_strikes):=⟨rfl,rfl,rfl,by decide +kernel,rfl,by decide +kernel,by decide +kernel⟩
def S8(K:PySem.W.Frag):Sp:=fun vs H Q _=>∃(p:Addr) (ss:List Str) (a:Addr) (ps:List PA2),vs = [.ref p,.ref a]/\SqL K H p (ss.map V.str)/\SqL K H a (P0 ps)/\(∀q∈ps,E7 H q)/\StrkOk ss ps/\∀H',Same H H'->Q .non H'
theorem Ac(T:Tx K mg):FnOk P w K mg base CX0 2 T.check_strikes.f T.check_strikes.fd ["names", "strikes"] (S8 K):=by
 have G_is_strike:FnOk P w K mg base CX0 1 T.is_strike.f T.is_strike.fd ["names", "thing"] (t9 K):=Gy T
 have sc:=T8
 refine T.check_strikes.F.ok T8 (fun vs H Q E h=>?_) (fun cdv A outer s H vs Q E hr h=>?_)
 ·obtain⟨p,ss,t,x,rfl,_⟩:=h
  rfl
 ·obtain⟨n,ss,a,ps,rfl,hS,hP,hI,⟨hN,hD,hL⟩,k⟩:=h
  have hu:=z9 hr
  refine⟨_,(B1 (C5 (i:=2) sc.nd rfl (by first | exact Or.inl rfl | exact Or.inr rfl) (Da (Uv P w) (by rfl) T.b_set Ov))
   (B3 (V3 PassesOwn.never rfl (piE K T.b_enumerate (A8 (pv 1) B2)) (pgT K (n:=2) (C0 (C7 (i:=3) sc.nd rfl (by first | exact Or.inl rfl | exact Or.inr rfl)) (C0 (C7 (i:=4) sc.nd rfl (by first | exact Or.inl rfl | exact Or.inr rfl)) J2)))
   (B1 (J4 (PW.pt (Cn (K9 (I9 (C6 T.is_strike G_is_strike (hr.mono (by decide)) (A8 (pv 0) (A8 (pv 4) B2))))) (W3 (C3 (zCa P w hu) (pv 4) (pv 2) rfl)))) (B3 Z7) C4)
   (B3 (E4 (Vq P w (zBe P w hu) (pv 2) (A8 (pv 4) B2)))))))),?_⟩
  refine⟨rfl,fun p hp=>?_⟩
  have s0:Same H (upd H p (Ob P w p [])):=Same.new hp
  refine ex1 rfl ⟨a,ex1 rfl ⟨(s0.at a).seqL hP,Ty (n:=ps.length) (fun i σ H1=>∃v3 v4,σ = [some (.ref n),some (.ref a),some (.ref p),v3,v4]/\Same H H1/\H1 p=some (Ob P w p (Kb (ps.take i)))) ⟨_,_,rfl,s0,A9⟩ ?_ ?_ ?_ ?_⟩⟩
  ·rintro i σ H1 hi ⟨v2,v3,rfl,s1,e1⟩
   exact⟨_,_,(s1.at a).seqL hP,by unfold P0;rw[AI,AC hi];rfl⟩
  ·rintro σ H1 ⟨v2,v3,rfl,s1,e1⟩
   exact⟨_,(s1.at a).seqL hP,by unfold P0;rw[AB]⟩
  ·rintro i σ H1 v H' hi ⟨v2,v3,rfl,s1,e1⟩ ⟨t,x,rfl,ht,rfl,hx⟩
   have hx:=hx _ ((s1.at a).seqL hP)
   have hi':ps[i]?=some ps[i]:=AC hi
   unfold P0 at hx
   rw[AI,hi']at hx
   cases hx
   have hm:ps[i]∈ps:=DI hi
   obtain⟨hn1,hn2⟩:=hN _ hm
   have npt:p≠t:=B0 e1 ht
   have s2:Same H (upd H1 t (.tup [.int i,.ref ps[i].1])):=s1.trans (Same.new ht)
   have hq:=s2 _ _ (hI _ hm)
   refine⟨t,ex1 rfl ⟨SqT.of A9,rfl,_,ex1 rfl (C1 rfl rfl ?_)⟩⟩
   refine ex1 rfl (ex1 rfl ⟨n,ss,ps[i].1,ps[i].2.1,ps[i].2.2,rfl,(s2.at n).seqL hS,hq,hn1,hn2,ex1 rfl ?_⟩)
   refine U3 ?_
   have e2:(upd H1 t (.tup [.int i,.ref ps[i].1])) p=some (Ob P w p (Kb (ps.take i))):=by rw[B7 npt];exact e1
   have hin:Kn (upd H1 t (.tup [.int i,.ref ps[i].1])) (Kb (ps.take i)):=Tt (D0 s2 fun q hq=>hI q (CY hq))
   have hne:∀q∈Kb (ps.take i),q.1≠[.inr ps[i].2.1,.inr ps[i].2.2]:=fun q hq e=>by
    obtain⟨z,hz,rfl⟩:=AK.mp hq
    have e':z.2=ps[i].2:=by
     obtain⟨z1,z2,z3⟩:=z
     simp only[List.cons.injEq,Sum.inr.injEq,and_true]at e
     exact Prod.ext e.1 e.2
    have h1:(ps.map fun q=>q.2)[i]?=some ps[i].2:=by rw[AI,hi'];rfl
    refine t7 hD h1 ?_
    rw[<-List.map_take,<-e']
    exact AK.mpr ⟨z,hz,rfl⟩
   refine ex1 rfl (ex1 rfl ⟨p,ps[i].1,_,[.inr ps[i].2.1,.inr ps[i].2.2],rfl,rfl,e2,hq,hin,hne,ex1 rfl ?_⟩)
   refine U3 ?_
   refine ex1 rfl ⟨⟨p,rfl,.inr (.inr ⟨_,e2⟩)⟩,ex1 rfl ⟨p,ps[i].1,_,[.inr ps[i].2.1,.inr ps[i].2.2],rfl,rfl,e2,hq,hin,hne,?_,?_⟩⟩
   ·unfold Kb;rw[AB,AS];omega
   ·refine⟨_,ex1 rfl ⟨s2.upd hp,?_⟩⟩
    rw[A9,take_succ hi']
    unfold Kb
    rw[AR]
    rfl
  ·rintro σ H1 ⟨v2,v3,rfl,s1,e1⟩
   exact k H1 s1
end
def la(kvs:List (Key×V))(n:Str):Addr:=match U5 kvs (.inr n)with | some (.ref l)=>l | _=>0
theorem Jy(kvs:List (Key×V))(n m:Str)(v:V):U5 (Cv kvs (Sum.inr n:Key) v) (.inr m)=if m=n then some v else U5 kvs (.inr m):=by
 rw[Ul]
 by_cases e:m=n
 ·rw[AQ e,AQ (by rw[e])]
 ·rw[AJ e,AJ (fun z=>e (Sum.inr.inj z))]
theorem Cz(kvs:List (Key×V))(n m:Str)(p:Addr):la (Cv kvs (.inr n) (.ref p)) m=if m=n then p else la kvs m:=by
 unfold la
 rw[Jy]
 by_cases e:m=n
 ·rw[AQ e,AQ e]
 ·rw[AJ e,AJ e]
structure DOk(H0:Hp)(kvs:List (Key×V))(ns:List Str):Prop where
 val:∀n∈ns,U5 kvs (.inr n)=some (.ref (la kvs n))
 inj:∀n∈ns,∀m∈ns,la kvs n=la kvs m->n=m
 fr:∀n∈ns,H0 (la kvs n)=none
theorem Vm{K:PySem.W.Frag}{J:It}{a:Addr}{ns:List Str}{H:Hp}{σ:St}{Q:St->Hp->Prop}(as:AsSeq J (ns.map V.str) a H)(hσ:∃v,σ = [v])(nd:ns.Nodup)(hl:ns.length<=1000){D:Addr}(hD:H D=none)
  (q:∀σ kvs H',Same H H'->H' D=some (.dK kvs)->DOk H kvs ns->(∀n∈ns,H' (la kvs n)=some (.lst []))->(∀n∈ns,la kvs n≠D)->Q σ H') :
  Ea (Q6 0) y6 (Qc D (Ig 0) (zEe Vo)) J σ (upd H D (.dK [])) Q:=by
 obtain⟨v,rfl⟩:=hσ
 refine O8 as (fun i σ H1=>(∃v,σ = [v])/\∃kvs,Same H H1/\H1 D=some (.dK kvs)/\kvs.length<=i/\DOk H kvs (ns.take i)/\(∀n∈ns.take i,H1 (la kvs n)=some (.lst []))/\∀n∈ns.take i,la kvs n≠D)
  ⟨⟨v,rfl⟩,[],Same.new hD,A9,CA _,⟨fun n h=>by simp at h,fun n h=>by simp at h,fun n h=>by simp at h⟩,fun n h=>by simp at h,fun n h=>by simp at h⟩ (fun i σ H1 _ ⟨_,kvs,s1,_⟩=>s1.at a) ?_ ?_
 ·rintro i σ H1 x N hx ⟨⟨v,rfl⟩,kvs,s1,e1,l1,D1,c1,n1⟩ hN
  rw[AI]at hx
  have hi:i<ns.length:=by
   rcases Nat.lt_or_ge i ns.length with z | z
   ·exact z
   ·rw[EK z]at hx;cases hx
  have hi':ns[i]?=some ns[i]:=AC hi
  rw[hi']at hx
  cases hx
  refine An ?_
  refine ex1 rfl ⟨CA _,fun p hp=>?_⟩
  have npD:D≠p:=B0 e1 hp
  refine⟨kvs,.inr ns[i],by rw[B7 npD];exact e1,rfl,by rw[sizeLine_eq];omega,hN _ _ ⟨⟨_,rfl⟩,Cv kvs (.inr ns[i]) (.ref p),?_,A9,?_,⟨?_,?_,?_⟩,?_,?_⟩⟩
  ·exact(s1.trans (Same.new hp)).upd hD
  ·have:=X9 kvs (Sum.inr ns[i]:Key) (.ref p)
   omega
  all_goals rw[take_succ hi']
  ·intro n hn
   rw[Jy,Cz]
   by_cases e:n=ns[i]
   ·rw[AQ e,AQ e]
   ·rw[AJ e,AJ e]
    rcases AV.mp hn with z | z
    ·exact D1.val n z
    ·exact absurd (AD.mp z) e
  ·intro n hn m hm
   rw[Cz,Cz]
   have old:∀k∈ns.take i ++ [ns[i]],k≠ns[i]->k∈ns.take i:=fun k hk e=>(AV.mp hk).elim id fun z=>absurd (AD.mp z) e
   by_cases e:n=ns[i]
   ·by_cases e':m=ns[i]
    ·exact fun _=>e.trans e'.symm
    ·rw[AQ e,AJ e']
     intro z
     have:=c1 m (old m hm e')
     rw[<-z,hp]at this;cases this
   ·by_cases e':m=ns[i]
    ·rw[AJ e,AQ e']
     intro z
     have:=c1 n (old n hn e)
     rw[z,hp]at this;cases this
    ·rw[AJ e,AJ e']
     exact D1.inj n (old n hn e) m (old m hm e')
  ·intro n hn
   rw[Cz]
   by_cases e:n=ns[i]
   ·rw[AQ e];exact s1.free hp
   ·rw[AJ e]
    rcases AV.mp hn with z | z
    ·exact D1.fr n z
    ·exact absurd (AD.mp z) e
  ·intro n hn
   rw[Cz]
   by_cases e:n=ns[i]
   ·rw[AQ e,B7 npD.symm,A9]
   ·rw[AJ e]
    rcases AV.mp hn with z | z
    ·rw[B7 (n1 n z),B7 (B0 (c1 n z) hp)]
     exact c1 n z
    ·exact absurd (AD.mp z) e
  ·intro n hn
   rw[Cz]
   by_cases e:n=ns[i]
   ·rw[AQ e];exact npD.symm
   ·rw[AJ e]
    rcases AV.mp hn with z | z
    ·exact n1 n z
    ·exact absurd (AD.mp z) e
 ·rintro σ H1 ⟨_,kvs,s1,e1,l1,D1,c1,n1⟩
  rw[AB]at *
  rw[CG]at *
  exact q σ kvs H1 s1 e1 D1 c1 n1
def B4(qs:List PA2)(n:Str):List Str:=(qs.filter fun q=>decide (q.2.2=n)).map fun q=>q.2.1
def E3(qs:List PA2)(n:Str):List Str:=(qs.filter fun q=>decide (q.2.1=n)).map fun q=>q.2.2
theorem Bj(qs:List PA2)(q:PA2)(n:Str):B4 (qs ++ [q]) n=B4 qs n ++(if q.2.2=n then [q.2.1]else []):=by
 unfold B4
 rw[DR,AR]
 by_cases e:q.2.2=n
 ·rw[AQ e,CH,AQ (AH e)];rfl
 ·rw[AJ e,CH,AJ (by simp[e])];rfl
theorem Er(qs:List PA2)(q:PA2)(n:Str):E3 (qs ++ [q]) n=E3 qs n ++(if q.2.1=n then [q.2.2]else []):=by
 unfold E3
 rw[DR,AR]
 by_cases e:q.2.1=n
 ·rw[AQ e,CH,AQ (AH e)];rfl
 ·rw[AJ e,CH,AJ (by simp[e])];rfl
def wf(a b c d:Addr):List (Str×V):=[("names",.ref a),("strikes",.ref b),("strikers_by_name",.ref c),("struck_by_name",.ref d)]
structure WebOk(ns:List Str)(qs:List PA2):Prop where
 nd:ns.Nodup
 len:ns.length<=100
 srt:ns.Pairwise leS
 mem:∀q∈qs,q.2.1∈ns/\q.2.2∈ns
 ndq:(qs.map fun q=>q.2).Nodup
 lenq:qs.length<=200
 srq:qs.Pairwise leP
structure WebAt(C:Addr)(H:Hp)(x:Addr)(ns:List Str)(qs:List PA2):Prop where
 ok:WebOk ns qs
 ex:∃dx a b c d kc kd,H x=some (.ins C dx (wf a b c d))/\H a=some (.lst (ns.map V.str))/\H b=some (.lst (P0 qs))/\(∀q∈qs,E7 H q)/\H c=some (.dK kc)/\H d=some (.dK kd) /\
  (∀n∈ns,∃l,U5 kc (.inr n)=some (.ref l)/\H l=some (.lst ((B4 qs n).map V.str)))/\∀n∈ns,∃l,U5 kd (.inr n)=some (.ref l)/\H l=some (.lst ((E3 qs n).map V.str))
section
variable{P:Program}{w:World}{K:PySem.W.Frag}{mg:Str->Option Value}{base:Heap}
theorem U6:FnScope ["self", "names", "strikes", "one", "other"] ["self", "names", "strikes"] (B6 s_Web___init__):=⟨rfl,rfl,rfl,by decide +kernel,rfl,by decide +kernel,by decide +kernel⟩
def Cg(K:PySem.W.Frag)(C:Addr):Sp:=fun vs H Q _=>∃(x dx n:Addr) (ss:List Str) (a:Addr) (ps:List PA2),vs = [.ref x,.ref n,.ref a]/\H x=some (.ins C dx [])/\H n=some (.lst (ss.map V.str))/\Y5 ss /\
 H a=some (.lst (P0 ps))/\(∀q∈ps,E7 H q)/\StrkOk ss ps/\∀ns qs H',ns.Perm ss->ns.Pairwise leS->qs.Perm ps->qs.Pairwise leP->Sm [x] H H'->WebAt C H' x ns qs->Q .non H'
theorem Il(T:Tx K mg):FnOk P w K mg base CX0 3 T.fWeb___init__ T.fdWeb___init__ ["self", "names", "strikes"] (Cg K T.CWeb):=by
 have G_check_names:FnOk P w K mg base CX0 2 T.check_names.f T.check_names.fd ["names"] (X2 K):=Cm T
 have G_check_strikes:FnOk P w K mg base CX0 2 T.check_strikes.f T.check_strikes.fd ["names", "strikes"] (S8 K):=Ac T
 have sc:=U6
 refine T.FWeb___init__.ok U6 (fun vs H Q E h=>?_) (fun cdv A outer s H vs Q E hr h=>?_)
 ·obtain⟨x,dx,n,ss,a,ps,rfl,_⟩:=h
  rfl
 ·obtain⟨x,dx,n,ss,a,ps,rfl,hx,hS,hN,hP,hI,hO,k⟩:=h
  have hu:=z9 hr
  refine⟨_,(B1 (E4 (C6 T.check_names G_check_names (hr.mono (by decide)) (A8 (pv 1) B2)))
   (B1 (E4 (C6 T.check_strikes G_check_strikes (hr.mono (by decide)) (A8 (pv 1) (A8 (pv 2) B2))))
   (B1 (psF K (pv 0) (E9 (Fc K) T.b_sorted P1 (A8 (pv 1) B2)))
   (B1 (psF K (pv 0) (E9 (So K) T.b_sorted P1 (A8 (pv 2) B2)))
   (B1 (psF K (pv 0) (Jm (N':=["name"]) (cap:=[none]) (cl:=[]) (E8 trivial trivial) rfl (piL K (peF K (pv 0))) (fun _ _ _ _=>by exact⟨(pgC 0),C8,(pv 0),(Q1 B2)⟩)))
   (B1 (psF K (pv 0) (Jm (N':=["name"]) (cap:=[none]) (cl:=[]) (E8 trivial trivial) rfl (piL K (peF K (pv 0))) (fun _ _ _ _=>by exact⟨(pgC 0),C8,(pv 0),(Q1 B2)⟩)))
   (B3 (V3 PassesOwn.never rfl (piL K (peF K (pv 0))) (pgT K (n:=2) (C0 (C7 (i:=3) sc.nd rfl (by first | exact Or.inl rfl | exact Or.inr rfl)) (C0 (C7 (i:=4) sc.nd rfl (by first | exact Or.inl rfl | exact Or.inr rfl)) J2)))
   (B1 (E4 (Pz K PySem.F.plainAttrs_list PySem.F.slot_list_append PySem.F.type_list_append K8 (M9 hu (peF K (pv 0)) (pv 4) (fun _ _=>rfl)) (A8 (pv 3) B2)))
   (B3 (E4 (Pz K PySem.F.plainAttrs_list PySem.F.slot_list_append PySem.F.type_list_append K8 (M9 hu (peF K (pv 0)) (pv 3) (fun _ _=>rfl)) (A8 (pv 4) B2))))))))))))),?_⟩
  obtain⟨hN1,hN2,hN3⟩:=id hN
  obtain⟨hO1,hO2,hO3⟩:=id hO
  refine B5 fun Z1 hZ1=>?_
  refine ex1 rfl ⟨n,ss,rfl,SqL.of hS,hN,fun H1 s1=>?_⟩
  refine hZ1 _ _ (B5 fun Z2 hZ2=>?_)
  refine ex1 rfl (ex1 rfl ⟨n,ss,a,ps,rfl,SqL.of (s1 _ _ hS),SqL.of (s1 _ _ hP),D0 s1 hI,hO,fun H2 s2=>?_⟩)
  refine hZ2 _ _ (B5 fun Z3 hZ3=>?_)
  have s12:=s1.trans s2
  refine ex1 rfl ⟨n,ss,rfl,SqL.of (s12 _ _ hS),fun l1 ns hl1 p1 w1=>?_⟩
  have nx1:x≠l1:=B0 (s12 _ _ hx) hl1
  refine ex1 rfl ⟨x,T.CWeb,dx,[],rfl,by rw[B7 nx1];exact s12 _ _ hx,T.clWeb,T.nWeb_names,by decide,?_⟩
  have hxa:a≠x:=T9 hP hx (by intro z;cases z)
  have k3:Sm [x] H (upd (upd H2 l1 (.lst (ns.map V.str))) x (.ins T.CWeb dx (O7 "names" (.ref l1) []))):=(Sm.new s12.sm hl1).upd (by simp)
  have e3:(upd (upd H2 l1 (.lst (ns.map V.str))) x (.ins T.CWeb dx (O7 "names" (.ref l1) []))) l1=some (.lst (ns.map V.str)):=by rw[B7 nx1.symm,A9]
  generalize hH3:upd (upd H2 l1 (.lst (ns.map V.str))) x (.ins T.CWeb dx (O7 "names" (.ref l1) []))=H3 at k3 e3⊢
  refine hZ3 _ _ (B5 fun Z4 hZ4=>?_)
  have x3:H3 x=some (.ins T.CWeb dx [("names",.ref l1)]):=by rw[<-hH3,A9];rfl
  have nin:∀{b:Addr},b≠x->b∉[x]:=fun h z=>h (AD.mp z)
  have pin3:∀q∈ps,E7 H3 q:=fun q hq=>k3 _ _ (hI q hq) (nin (T9 (hI q hq) hx (by intro z;cases z)))
  refine ex1 rfl ⟨a,ps,rfl,SqL.of (k3 _ _ hP (nin hxa)),pin3,fun l2 qs hl2 p2 w2=>?_⟩
  have nx2:x≠l2:=B0 x3 hl2
  refine ex1 rfl ⟨x,T.CWeb,dx,[("names",.ref l1)],rfl,by rw[B7 nx2];exact x3,T.clWeb,T.nWeb_strikes,by simp,?_⟩
  have k4:Sm [x] H3 (upd (upd H3 l2 (.lst (P0 qs))) x (.ins T.CWeb dx (O7 "strikes" (.ref l2) [("names",.ref l1)]))):=(Sm.new (Sm.refl _ _) hl2).upd (by simp)
  have e4:(upd (upd H3 l2 (.lst (P0 qs))) x (.ins T.CWeb dx (O7 "strikes" (.ref l2) [("names",.ref l1)]))) l2=some (.lst (P0 qs)):=by rw[B7 nx2.symm,A9]
  have x4:(upd (upd H3 l2 (.lst (P0 qs))) x (.ins T.CWeb dx (O7 "strikes" (.ref l2) [("names",.ref l1)]))) x=some (.ins T.CWeb dx [("names",.ref l1),("strikes",.ref l2)]):=by rw[A9];rfl
  refine hZ4 _ _ ?_
  show zBu _ _ _ _ (upd (upd H3 l2 (.lst (P0 qs))) x (.ins T.CWeb dx (O7 "strikes" (.ref l2) [("names",.ref l1)])))
  generalize upd (upd H3 l2 (.lst (P0 qs))) x (.ins T.CWeb dx (O7 "strikes" (.ref l2) [("names",.ref l1)]))=H4 at k4 e4 x4⊢
  have f4:H4 l1=some (.lst (ns.map V.str)):=k4 _ _ e3 (nin nx1.symm)
  have pin4:∀q∈qs,E7 H4 q:=fun q hq=>k4 _ _ (pin3 q (p2.mem_iff.mp hq)) (nin (T9 (pin3 q (p2.mem_iff.mp hq)) x3 (by intro z;cases z)))
  have ndn:ns.Nodup:=p1.nodup_iff.mpr hN2
  have lnn:ns.length<=1000:=by rw[p1.length_eq];omega
  refine B5 fun Z5 hZ5=>?_
  refine ex1 rfl ⟨x,T.CWeb,dx,_,ex1 rfl ⟨x4,T.clWeb,T.nWeb_names,rfl,l1,rfl,⟨_,SqL.of f4⟩,fun c hc=>Vm (K:=K) (asL (SqL.of f4)) ⟨_,rfl⟩ ndn lnn hc fun _ kc H5 s5 e5 D5 c5 n5=>?_⟩⟩
  have x5:=s5 _ _ x4
  refine ex1 rfl ⟨x,T.CWeb,dx,ex1 rfl ⟨x5,T.clWeb,T.nWeb_strikers_by_name,by simp,?_⟩⟩
  have k6:Sm [x] H5 (upd H5 x (.ins T.CWeb dx (O7 "strikers_by_name" (.ref c) [("names",.ref l1),("strikes",.ref l2)]))):=(Sm.refl _ _).upd (by simp)
  have x6:(upd H5 x (.ins T.CWeb dx (O7 "strikers_by_name" (.ref c) [("names",.ref l1),("strikes",.ref l2)]))) x=some (.ins T.CWeb dx [("names",.ref l1),("strikes",.ref l2),("strikers_by_name",.ref c)]):=by rw[A9];rfl
  generalize upd H5 x (.ins T.CWeb dx (O7 "strikers_by_name" (.ref c) [("names",.ref l1),("strikes",.ref l2)]))=H6 at k6 x6⊢
  refine hZ5 _ _ (B5 fun Z6 hZ6=>?_)
  have kk6:∀{b:Addr} {o:HO},H4 b=some o->b≠x->H6 b=some o:=fun e hb=>k6 _ _ (s5 _ _ e) (nin hb)
  have f6:=kk6 f4 nx1.symm
  have g6:=kk6 e4 nx2.symm
  have c6:H6 c=some (.dK kc):=k6 _ _ e5 (nin (B0 x4 hc).symm)
  have cl6:∀n∈ns,H6 (la kc n)=some (.lst []):=fun n hn=>k6 _ _ (c5 n hn) (nin (B0 x4 (D5.fr n hn)).symm)
  refine ex1 rfl ⟨x,T.CWeb,dx,_,ex1 rfl ⟨x6,T.clWeb,T.nWeb_names,rfl,l1,rfl,⟨_,SqL.of f6⟩,fun d hd=>Vm (K:=K) (asL (SqL.of f6)) ⟨_,rfl⟩ ndn lnn hd fun _ kd H7 s7 e7 D7 c7 n7=>?_⟩⟩
  have x7:=s7 _ _ x6
  refine ex1 rfl ⟨x,T.CWeb,dx,ex1 rfl ⟨x7,T.clWeb,T.nWeb_struck_by_name,by simp,?_⟩⟩
  have k8:Sm [x] H7 (upd H7 x (.ins T.CWeb dx (O7 "struck_by_name" (.ref d) [("names",.ref l1),("strikes",.ref l2),("strikers_by_name",.ref c)]))):=(Sm.refl _ _).upd (by simp)
  have x8:(upd H7 x (.ins T.CWeb dx (O7 "struck_by_name" (.ref d) [("names",.ref l1),("strikes",.ref l2),("strikers_by_name",.ref c)]))) x=some (.ins T.CWeb dx (wf l1 l2 c d)):=by rw[A9];rfl
  generalize upd H7 x (.ins T.CWeb dx (O7 "struck_by_name" (.ref d) [("names",.ref l1),("strikes",.ref l2),("strikers_by_name",.ref c)]))=H8 at k8 x8⊢
  refine hZ6 _ _ ?_
  have kk8:∀{b:Addr} {o:HO},H6 b=some o->b≠x->H8 b=some o:=fun e hb=>k8 _ _ (s7 _ _ e) (nin hb)
  have f8:=kk8 f6 nx1.symm
  have g8:=kk8 g6 nx2.symm
  have c8:=kk8 c6 (B0 x4 hc).symm
  have d8:H8 d=some (.dK kd):=k8 _ _ e7 (nin (B0 x6 hd).symm)
  have cl8:∀n∈ns,H8 (la kc n)=some (.lst []):=fun n hn=>kk8 (cl6 n hn) (B0 x4 (D5.fr n hn)).symm
  have dl8:∀n∈ns,H8 (la kd n)=some (.lst []):=fun n hn=>k8 _ _ (c7 n hn) (nin (B0 x6 (D7.fr n hn)).symm)
  have pin8:∀q∈qs,E7 H8 q:=fun q hq=>kk8 (kk6 (pin4 q hq) (T9 (pin4 q hq) x4 (by intro z;cases z))) (T9 (pin4 q hq) x4 (by intro z;cases z))
  have dif:∀n∈ns,∀m∈ns,la kc n≠la kd m:=fun n hn m hm=>B0 (cl6 n hn) (D7.fr m hm)
  have old4:∀{b:Addr} {o:HO},H4 b=some o->b≠x->(∀n∈ns,b≠la kc n)/\∀n∈ns,b≠la kd n:=fun e hb=>⟨fun n hn=>B0 e (D5.fr n hn),fun n hn=>B0 (kk6 e hb) (D7.fr n hn)⟩
  have kall:Sm [x] H H8:=fun b o e hb=>by
   have hb':b≠x:=fun z=>hb (by simp[z])
   exact kk8 (kk6 (k4 _ _ (k3 _ _ e hb) hb) hb') hb'
  have odif:∀{b:Addr} {o:HO},H b=some o->b≠x->(∀n∈ns,b≠la kc n)/\∀n∈ns,b≠la kd n:=fun e hb=>old4 (k4 _ _ (k3 _ _ e (nin hb)) (nin hb)) hb
  have xdif:(∀n∈ns,x≠la kc n)/\∀n∈ns,x≠la kd n:=⟨fun n hn=>B0 x4 (D5.fr n hn),fun n hn=>B0 x6 (D7.fr n hn)⟩
  have cdif:(∀n∈ns,c≠la kc n)/\∀n∈ns,c≠la kd n:=⟨fun n hn=>(n5 n hn).symm,fun n hn=>B0 c6 (D7.fr n hn)⟩
  have ddif:(∀n∈ns,d≠la kc n)/\∀n∈ns,d≠la kd n:=⟨fun n hn=>(B0 (cl6 n hn) hd).symm,fun n hn=>(n7 n hn).symm⟩
  refine⟨_,rfl,x,T.CWeb,dx,_,_,rfl,x8,T.clWeb,T.nWeb_strikes,rfl,l2,rfl,⟨_,SqL.of g8⟩,Au (asL (SqL.of g8)) (fun i σ H9=>(∃v3 v4,σ = [some (.ref x),some (.ref n),some (.ref a),v3,v4]) /\
   (∀b o,H8 b=some o->((∀n∈ns,b≠la kc n)/\∀n∈ns,b≠la kd n)->H9 b=some o)/\(∀n∈ns,H9 (la kc n)=some (.lst ((B4 (qs.take i) n).map V.str)))/\∀n∈ns,H9 (la kd n)=some (.lst ((E3 (qs.take i) n).map V.str)))
   ⟨⟨_,_,rfl⟩,fun b o e _=>e,cl8,dl8⟩ ?_ ?_ ?_⟩
  ·rintro i σ H9 _ ⟨_,h1,_⟩ o e
   exact h1 _ _ e (old4 e4 nx2.symm)
  ·rintro i σ H9 v hv ⟨⟨v3,v4,rfl⟩,h1,h2,h3⟩ D1 hD1 _
   unfold P0 at hv
   rw[AI]at hv
   cases hq:qs[i]? with
   | none=>rw[hq]at hv;cases hv
   | some q =>
    rw[hq]at hv
    cases hv
    have hm:q∈qs:=BJ hq
    have hq9:E7 H9 q:=h1 _ _ (pin8 q hm) (old4 (pin4 q hm) (T9 (pin4 q hm) x4 (by intro z;cases z)))
    obtain⟨m1,m2⟩:=hO1 q (p2.mem_iff.mp hm)
    have m1:q.2.1∈ns:=p1.mem_iff.mpr m1
    have m2:q.2.2∈ns:=p1.mem_iff.mpr m2
    have hlen:∀l:List PA2,l.length<=200->∀n,(B4 l n).length<=200/\(E3 l n).length<=200:=fun l hl n=>by
     unfold B4 E3
     rw[AB,AB]
     exact⟨Nat.le_trans (BL ..) hl,Nat.le_trans (BL ..) hl⟩
    have hl200:(qs.take i).length<=200:=by
     rw[AS]
     have:=p2.length_eq
     omega
    have x9:H9 x=some (.ins T.CWeb dx (wf l1 l2 c d)):=h1 _ _ x8 xdif
    refine⟨q.1,ex1 rfl ⟨SqT.of hq9,rfl,_,ex1 rfl (C1 rfl rfl ?_)⟩⟩
    refine ex1 rfl ⟨x,T.CWeb,dx,_,ex1 rfl ⟨x9,T.clWeb,T.nWeb_strikers_by_name,rfl,ex1 rfl ⟨c,.ref (la kc q.2.2),rfl,by rw[<-D5.val _ m2];exact DGet.k (k:=Sum.inr q.2.2) (h1 _ _ c8 cdif),.inl ⟨rfl,_,SqL.of (h2 _ m2)⟩,ex1 rfl ⟨_,C1 rfl rfl ⟨h2 _ m2,?_,?_⟩⟩⟩⟩⟩
    ·rw[AB,sizeLine_eq]
     have:=(hlen _ hl200 q.2.2).1
     omega
    have x10:(upd H9 (la kc q.2.2) (.lst ((B4 (qs.take i) q.2.2).map V.str ++ [.str q.2.1]))) x=some (.ins T.CWeb dx (wf l1 l2 c d)):=by rw[B7 (xdif.1 _ m2)];exact x9
    have d10:(upd H9 (la kc q.2.2) (.lst ((B4 (qs.take i) q.2.2).map V.str ++ [.str q.2.1]))) d=some (.dK kd):=by rw[B7 (ddif.1 _ m2)];exact h1 _ _ d8 ddif
    have l10:(upd H9 (la kc q.2.2) (.lst ((B4 (qs.take i) q.2.2).map V.str ++ [.str q.2.1]))) (la kd q.2.1)=some (.lst ((E3 (qs.take i) q.2.1).map V.str)):=by rw[B7 (dif _ m2 _ m1).symm];exact h3 _ m1
    refine ex1 rfl ⟨x,T.CWeb,dx,_,ex1 rfl ⟨x10,T.clWeb,T.nWeb_struck_by_name,rfl,ex1 rfl ⟨d,.ref (la kd q.2.1),rfl,by rw[<-D7.val _ m1];exact DGet.k (k:=Sum.inr q.2.1) d10,.inl ⟨rfl,_,SqL.of l10⟩,ex1 rfl ⟨_,C1 rfl rfl ⟨l10,?_,?_⟩⟩⟩⟩⟩
    ·rw[AB,sizeLine_eq]
     have:=(hlen _ hl200 q.2.1).2
     omega
    refine hD1 _ _ ⟨⟨_,_,rfl⟩,fun b o e hb=>?_,fun m hm=>?_,fun m hm=>?_⟩
    ·rw[B7 (hb.2 _ m1),B7 (hb.1 _ m2)]
     exact h1 b o e hb
    ·rw[B7 (dif m hm _ m1),take_succ hq,Bj]
     by_cases e:q.2.2=m
     ·rw[<-e,A9,AQ rfl,AR];rfl
     ·rw[AJ e,CI,B7 (fun z=>e (D5.inj _ hm _ m2 z).symm)]
      exact h2 m hm
    ·rw[take_succ hq,Er]
     by_cases e:q.2.1=m
     ·rw[<-e,A9,AQ rfl,AR];rfl
     ·rw[AJ e,CI,B7 (fun z=>e (D7.inj _ hm _ m1 z).symm),B7 (dif _ m2 _ hm).symm]
      exact h3 m hm
  ·rintro σ H9 ⟨_,h1,h2,h3⟩
   have hlq:(P0 qs).length=qs.length:=by unfold P0;rw[AB]
   rw[hlq,CG]at h2 h3
   refine k ns qs H9 p1 w1 p2 w2 (fun b o e hb=>?_) ⟨⟨ndn,by rw[p1.length_eq];exact hN3,w1,fun q hq=>⟨p1.mem_iff.mpr (hO1 q (p2.mem_iff.mp hq)).1,p1.mem_iff.mpr (hO1 q (p2.mem_iff.mp hq)).2⟩,(p2.map _).nodup_iff.mpr hO2,by rw[p2.length_eq];exact hO3,w2⟩,dx,l1,l2,c,d,kc,kd,h1 _ _ x8 xdif,h1 _ _ f8 (old4 f4 nx1.symm),h1 _ _ g8 (old4 e4 nx2.symm),fun q hm=>h1 _ _ (pin8 q hm) (old4 (pin4 q hm) (T9 (pin4 q hm) x4 (by intro z;cases z))),h1 _ _ c8 cdif,h1 _ _ d8 ddif,fun n hn=>⟨_,D5.val n hn,h2 n hn⟩,fun n hn=>⟨_,D7.val n hn,h3 n hn⟩⟩
   have hb':b≠x:=fun z=>hb (by simp[z])
   exact h1 _ _ (kall b o e hb) (odif e hb')
end
theorem WebAt.same{C:Addr}{H H':Hp}{x:Addr}{ns:List Str}{qs:List PA2}(h:WebAt C H x ns qs)(s:Same H H'):WebAt C H' x ns qs:=by
 obtain⟨ok,dx,a,b,c,d,kc,kd,e1,e2,e3,e4,e5,e6,e7,e8⟩:=h
 exact⟨ok,dx,a,b,c,d,kc,kd,s _ _ e1,s _ _ e2,s _ _ e3,D0 s e4,s _ _ e5,s _ _ e6,fun n hn=>let⟨l,v,e⟩:=e7 n hn;⟨l,v,s _ _ e⟩,fun n hn=>let⟨l,v,e⟩:=e8 n hn;⟨l,v,s _ _ e⟩⟩
section
variable{P:Program}{w:World}{K:PySem.W.Frag}{mg:Str->Option Value}{base:Heap}
theorem Ad:FnScope ["self"] ["self"] (B6 s_Web_all_names):=⟨rfl,rfl,rfl,by decide +kernel,rfl,by decide +kernel,by decide +kernel⟩
def V0(C:Addr):Sp:=fun vs H Q _=>∃(x:Addr) (ns:List Str) (qs:List PA2),vs = [.ref x]/\WebAt C H x ns qs/\∀l,H l=none->Q (.ref l) (upd H l (.lst (ns.map V.str)))
theorem T3(T:Tx K mg):FnOk P w K mg base CX0 1 T.mWeb_all_names.f T.mWeb_all_names.fd ["self"] (V0 T.CWeb):=by
 refine T.mWeb_all_names.F.ok Ad (fun vs H Q E h=>?_) (fun cdv A outer s H vs Q E hr h=>?_)
 ·obtain⟨x,ns,qs,rfl,_⟩:=h
  rfl
 ·obtain⟨x,ns,qs,rfl,⟨ok,dx,a,b,c,d,kc,kd,e1,e2,e3,e4,e5,e6,e7,e8⟩,k⟩:=h
  refine⟨_,(B3 (B9 (Is (Ip K) T.b_list Jo (A8 (peF K (pv 0)) B2)))),?_⟩
  exact⟨_,rfl,x,T.CWeb,dx,_,_,rfl,e1,T.clWeb,T.nWeb_names,rfl,a,_,rfl,.inl (SqL.of e2),k⟩
theorem z8:FnScope ["self", "name"] ["self", "name"] (B6 s_Web_check_has):=⟨rfl,rfl,rfl,by decide +kernel,rfl,by decide +kernel,by decide +kernel⟩
def V1(C:Addr):Sp:=fun vs H Q _=>∃(x:Addr) (n:Str) (ns:List Str) (qs:List PA2),vs = [.ref x,.str n]/\WebAt C H x ns qs/\n∈ns/\Q .non H
theorem S9(T:Tx K mg):FnOk P w K mg base CX0 1 T.mWeb_check_has.f T.mWeb_check_has.fd ["self", "name"] (V1 T.CWeb):=by
 refine T.mWeb_check_has.F.ok z8 (fun vs H Q E h=>?_) (fun cdv A outer s H vs Q E hr h=>?_)
 ·obtain⟨x,n,ns,qs,rfl,_⟩:=h
  rfl
 ·obtain⟨x,n,ns,qs,rfl,⟨ok,dx,a,b,c,d,kc,kd,e1,e2,e3,e4,e5,e6,e7,e8⟩,hn,k⟩:=h
  refine⟨_,(B3 (J4 (C3 (Uh K) (pv 1) (peF K (pv 0)) rfl) (B3 Z7) C4)),?_⟩
  refine ex1 rfl (ex1 rfl ⟨x,T.CWeb,dx,_,ex1 rfl ⟨e1,T.clWeb,T.nWeb_names,rfl,Nt (.inl (SqL.of e2)) ⟨_,rfl,?_⟩⟩⟩)
  rw[AH hn]
  exact U3 k
theorem Ed:FnScope ["self", "name"] ["self", "name"] (B6 s_Web_struck):=⟨rfl,rfl,rfl,by decide +kernel,rfl,by decide +kernel,by decide +kernel⟩
def Hy(C:Addr):Sp:=fun vs H Q _=>∃(x:Addr) (n:Str) (ns:List Str) (qs:List PA2),vs = [.ref x,.str n]/\WebAt C H x ns qs/\n∈ns/\∀l,H l=none->Q (.ref l) (upd H l (.lst ((E3 qs n).map V.str)))
theorem Dz(T:Tx K mg):FnOk P w K mg base CX0 2 T.mWeb_struck.f T.mWeb_struck.fd ["self", "name"] (Hy T.CWeb):=by
 have G_Web_check_has:FnOk P w K mg base CX0 1 T.mWeb_check_has.f T.mWeb_check_has.fd ["self", "name"] (V1 T.CWeb):=S9 T
 refine T.mWeb_struck.F.ok Ed (fun vs H Q E h=>?_) (fun cdv A outer s H vs Q E hr h=>?_)
 ·obtain⟨x,n,ns,qs,rfl,_⟩:=h
  rfl
 ·obtain⟨x,n,ns,qs,rfl,hW,hn,k⟩:=h
  have hu:=z9 hr
  obtain⟨ok,dx,a,b,c,d,kc,kd,e1,e2,e3,e4,e5,e6,e7,e8⟩:=id hW
  refine⟨_,(B1 (E4 (G0 (pv 0) T.clWeb T.mWeb_check_has.m G_Web_check_has (hr.mono (by decide)) T.mWeb_check_has.b .nil K6 (A8 (pv 1) B2)))
   (B3 (B9 (Is (Ip K) T.b_list Jo (A8 (M9 hu (peF K (pv 0)) (pv 1) (fun _ _=>rfl)) B2))))),?_⟩
  refine ex1 rfl ⟨x,dx,ex1 rfl ⟨e1,rfl,ex1 rfl ⟨x,n,ns,qs,rfl,hW,hn,?_⟩⟩⟩
  obtain⟨l,v,e⟩:=e8 n hn
  exact⟨_,rfl,x,T.CWeb,dx,_,_,rfl,e1,T.clWeb,T.nWeb_struck_by_name,rfl,_,rfl,d,_,rfl,by rw[<-v];exact DGet.k (k:=Sum.inr n) e6,l,_,rfl,.inl (SqL.of e),k⟩
theorem Bn:FnScope ["self", "name"] ["self", "name"] (B6 s_Web_strikers):=⟨rfl,rfl,rfl,by decide +kernel,rfl,by decide +kernel,by decide +kernel⟩
def S2(C:Addr):Sp:=fun vs H Q _=>∃(x:Addr) (n:Str) (ns:List Str) (qs:List PA2),vs = [.ref x,.str n]/\WebAt C H x ns qs/\n∈ns/\∀l,H l=none->Q (.ref l) (upd H l (.lst ((B4 qs n).map V.str)))
theorem P8(T:Tx K mg):FnOk P w K mg base CX0 2 T.mWeb_strikers.f T.mWeb_strikers.fd ["self", "name"] (S2 T.CWeb):=by
 have G_Web_check_has:FnOk P w K mg base CX0 1 T.mWeb_check_has.f T.mWeb_check_has.fd ["self", "name"] (V1 T.CWeb):=S9 T
 refine T.mWeb_strikers.F.ok Bn (fun vs H Q E h=>?_) (fun cdv A outer s H vs Q E hr h=>?_)
 ·obtain⟨x,n,ns,qs,rfl,_⟩:=h
  rfl
 ·obtain⟨x,n,ns,qs,rfl,hW,hn,k⟩:=h
  have hu:=z9 hr
  obtain⟨ok,dx,a,b,c,d,kc,kd,e1,e2,e3,e4,e5,e6,e7,e8⟩:=id hW
  refine⟨_,(B1 (E4 (G0 (pv 0) T.clWeb T.mWeb_check_has.m G_Web_check_has (hr.mono (by decide)) T.mWeb_check_has.b .nil K6 (A8 (pv 1) B2)))
   (B3 (B9 (Is (Ip K) T.b_list Jo (A8 (M9 hu (peF K (pv 0)) (pv 1) (fun _ _=>rfl)) B2))))),?_⟩
  refine ex1 rfl ⟨x,dx,ex1 rfl ⟨e1,rfl,ex1 rfl ⟨x,n,ns,qs,rfl,hW,hn,?_⟩⟩⟩
  obtain⟨l,v,e⟩:=e7 n hn
  exact⟨_,rfl,x,T.CWeb,dx,_,_,rfl,e1,T.clWeb,T.nWeb_strikers_by_name,rfl,_,rfl,c,_,rfl,by rw[<-v];exact DGet.k (k:=Sum.inr n) e5,l,_,rfl,.inl (SqL.of e),k⟩
theorem Dp:FnScope ["_law_cell", "_law_k", "_law_m"] ["_law_cell", "_law_k"] (B6 s_law_mix):=⟨rfl,rfl,rfl,by decide +kernel,rfl,by decide +kernel,by decide +kernel⟩
def Vj:Sp:=fun vs H Q _=>∃(cell k:Int),vs = [.int cell,.int k]/\0<=k/\k<=2000000/\∀m:Int,0<=m->m<1999999973->Q (.int m) H
theorem No(T:Tx K mg):FnOk P w K mg base CX0 1 T.law_mix.f T.law_mix.fd ["_law_cell", "_law_k"] Vj:=by
 have sc:=Dp
 refine T.law_mix.F.ok Dp (fun vs H Q E h=>?_) (fun cdv A outer s H vs Q E hr h=>?_)
 ·obtain⟨c,k,rfl,_⟩:=h
  rfl
 ·obtain⟨cell,k,rfl,k0,k1,q⟩:=h
  refine⟨_,(B1 (C5 (i:=2) sc.nd rfl (by first | exact Or.inl rfl | exact Or.inr rfl) (D9 Gu (D9 Bu (D9 Bi (D9 Bi (D9 Gu (pv 0) B8) (D9 Bu (D9 Bu (pv 1) (pv 1)) B8)) B8) B8) B8))
   (B3 (B9 (D9 Gu (D9 Bu (pv 2) (pv 2)) B8)))),?_⟩
  refine ex1 rfl (C1 rfl rfl ⟨(show(0:Int)<2147483629 by decide),ex1 rfl (ex1 rfl (C1 rfl rfl ⟨.inl ⟨by omega,by omega⟩,C1 rfl rfl ⟨.inr ⟨by decide,by decide⟩,C1 rfl rfl (C1 rfl rfl (C1 rfl rfl ⟨.inr ⟨by decide,by decide⟩,C1 rfl rfl ⟨(show(0:Int)<2147483647 by decide),?_⟩⟩))⟩⟩))⟩)
  generalize hm:(cell % 2147483629+k*k*7919+11)*48271 % 2147483647=m
  have h1:0<=m:=by rw[<-hm];exact FX _ (by decide)
  have h2:m<2147483647:=by rw[<-hm];exact FD _ (by decide)
  exact⟨_,rfl,_,rfl,_,_,rfl,rfl,.inl ⟨by omega,by omega⟩,_,_,rfl,rfl,(show(0:Int)<1999999973 by decide),q _ (FX _ (by decide)) (FD _ (by decide))⟩
def LeftAt(H:Hp)(p:Addr)(c:Int):Prop:=∃a b:Int,H p=some (.lst [.int a,.int b,.int c])/\0<=c
theorem LeftAt.isS{H:Hp}{p:Addr}{c:Int}(h:LeftAt H p c):(H p).isSome=true:=by
 obtain⟨_,_,e,_⟩:=h
 rw[e];rfl
theorem LeftAt.get{H:Hp}{p:Addr}{c:Int}(h:LeftAt H p c):H p=some ((H p).get h.isS):=(Option.some_get _).symm
theorem LeftAt.cast{H:Hp}{p:Addr}{c c':Int}(h:LeftAt H p c)(e:c=c'):LeftAt H p c':=e▸h
theorem LeftAt.upd{H:Hp}{p a:Addr}{c:Int}{o:HO}(h:LeftAt H p c)(n:p≠a):LeftAt (L2.upd H a o) p c:=by
 obtain⟨x,y,e,z⟩:=h
 exact⟨x,y,by rw[B7 n];exact e,z⟩
theorem LeftAt.same{H H':Hp}{p:Addr}{c:Int}(h:LeftAt H p c)(s:Same H H'):LeftAt H' p c:=by
 obtain⟨x,y,e,z⟩:=h
 exact⟨x,y,s _ _ e,z⟩
theorem zDu(c:Bool):-(2^64) <(if c=true then(1:Int)else 0)/\(if c=true then(1:Int)else 0)<2^64:=by cases c<;>exact⟨by decide,by decide⟩
theorem Cf:FnScope ["_law_script", "_law_k", "_law_cell"] ["_law_script", "_law_k"] (B6 s_law_left):=⟨rfl,rfl,rfl,by decide +kernel,rfl,by decide +kernel,by decide +kernel⟩
def Pm(K:PySem.W.Frag):Sp:=fun vs H Q _=>∃(p:Addr) (xs:List Int) (k:Nat),vs = [.ref p,.int (k:Int)]/\SqL K H p (xs.map V.int)/\k<=1000/\∀l H',H l=none->Same H H'->LeftAt H' l 0->Q (.ref l) H'
theorem Ka(T:Tx K mg):FnOk P w K mg base CX0 1 T.law_left.f T.law_left.fd ["_law_script", "_law_k"] (Pm K):=by
 have sc:=Cf
 refine T.law_left.F.ok Cf (fun vs H Q E h=>?_) (fun cdv A outer s H vs Q E hr h=>?_)
 ·obtain⟨p,xs,k,rfl,_⟩:=h
  rfl
 ·obtain⟨p,xs,k,rfl,hS,hk,q⟩:=h
  refine⟨_,(B1 (C5 (i:=2) sc.nd rfl (by first | exact Or.inl rfl | exact Or.inr rfl) (Tj (C3 zCq (pv 1) (E9 (j7 K) T.b_len W8 (A8 (pv 0) B2)) (F0 _)) (V6 (ixL K) (pv 0) (pv 1) (fun _ _=>rfl)) B8))
   (B3 (B9 (Q1 (A8 (D9 Bu (E9 Md T.b_abs Vt (A8 (pv 2) B2)) (Is Hf T.b_int Vc (A8 (I0 zCs (E9 Md T.b_abs Vt (A8 (pv 2) B2)) (D9 zBj B8 B8) (F0 _)) B2))) (A8 (D9 Bi (pv 2) (D9 Bu B8 (pv 1))) (A8 B8 B2))))))),?_⟩
  refine ex1 rfl (ex1 rfl (C1 (a:=p) rfl (.inl hS) (C1 rfl rfl (ex1 rfl ?_))))
  have at1:decide ((k:Int) <((xs.map V.int).length:Int))=true->∃c:Int,atI (xs.map V.int) (k:Int)=some (.int c):=fun c1=>by
   have c1:(k:Int) <((xs.map V.int).length:Int):=AW c1
   rw[AB]at c1
   have hk':xs[k]?=some (xs[k]'(by omega)):=AC (by omega)
   exact⟨_,l7 (by rw[AI,hk'];rfl)⟩
  refine U4 (fun c1=>?_) (fun c1=>?_)
  ·obtain⟨c,hc⟩:=at1 c1
   refine ex1 rfl (ex1 rfl ⟨p,_,C1 rfl rfl ⟨hS,hc,?_⟩⟩)
   (repeat first | refine⟨_,rfl,?_⟩ | refine⟨_,_,rfl,rfl,?_⟩)
   refine⟨⟨by decide,by decide,by decide⟩,?_⟩
   (repeat first | refine⟨_,rfl,?_⟩ | refine⟨_,_,rfl,rfl,?_⟩)
   refine .inr ⟨_,rfl,?_⟩
   (repeat first | refine⟨_,rfl,?_⟩ | refine⟨_,_,rfl,rfl,?_⟩)
   refine⟨.inr ?_,?_⟩
   ·exact zDu _
   (repeat first | refine⟨_,rfl,?_⟩ | refine⟨_,_,rfl,rfl,?_⟩)
   refine⟨.inl ⟨by decide,by decide⟩,?_⟩
   (repeat first | refine⟨_,rfl,?_⟩ | refine⟨_,_,rfl,rfl,?_⟩)
   exact⟨by show 3<=sizeLine;decide,fun l hl=>q l _ hl (Same.new hl) ⟨_,_,A9,by decide⟩⟩
  ·(repeat first | refine⟨_,rfl,?_⟩ | refine⟨_,_,rfl,rfl,?_⟩)
   refine⟨⟨by decide,by decide,by decide⟩,?_⟩
   (repeat first | refine⟨_,rfl,?_⟩ | refine⟨_,_,rfl,rfl,?_⟩)
   refine .inr ⟨_,rfl,?_⟩
   (repeat first | refine⟨_,rfl,?_⟩ | refine⟨_,_,rfl,rfl,?_⟩)
   refine⟨.inr ?_,?_⟩
   ·exact zDu _
   (repeat first | refine⟨_,rfl,?_⟩ | refine⟨_,_,rfl,rfl,?_⟩)
   refine⟨.inl ⟨by decide,by decide⟩,?_⟩
   (repeat first | refine⟨_,rfl,?_⟩ | refine⟨_,_,rfl,rfl,?_⟩)
   exact⟨by show 3<=sizeLine;decide,fun l hl=>q l _ hl (Same.new hl) ⟨_,_,A9,by decide⟩⟩
theorem Cc:FnScope ["_law_left_here", "_law_many", "_law_digit"] ["_law_left_here", "_law_many"] (B6 s_law_pick):=⟨rfl,rfl,rfl,by decide +kernel,rfl,by decide +kernel,by decide +kernel⟩
def m9:Sp:=fun vs H Q _=>∃(p:Addr) (c many:Int),vs = [.ref p,.int many]/\LeftAt H p c/\c<=1000000/\0<many/\many<=1000000 /\
 ∀(d:Nat) H',(d:Int)<many->Sm [p] H H'->LeftAt H' p (c+1)->Q (.int (d:Int)) H'
theorem P5(T:Tx K mg):FnOk P w K mg base CX0 2 T.law_pick.f T.law_pick.fd ["_law_left_here", "_law_many"] m9:=by
 have G_law_mix:FnOk P w K mg base CX0 1 T.law_mix.f T.law_mix.fd ["_law_cell", "_law_k"] Vj:=No T
 have sc:=Cc
 refine T.law_pick.F.ok Cc (fun vs H Q E h=>?_) (fun cdv A outer s H vs Q E hr h=>?_)
 ·obtain⟨p,c,m,rfl,_⟩:=h
  rfl
 ·obtain⟨p,c,many,rfl,⟨a,b,e,c0⟩,c1,m0,m1,q⟩:=h
  refine⟨_,(B1 (d6 (D9 Bi (V6 (ixL K) (pv 0) B8 (fun _ _=>rfl)) B8) (Wa (pv 0) B8 Lz))
   (B1 (J4 (C3 Zm (V6 (ixL K) (pv 0) B8 (fun _ _=>rfl)) B8 (F0 _)) (B1 (C5 (i:=2) sc.nd rfl (by first | exact Or.inl rfl | exact Or.inr rfl) (D9 Gu (V6 (ixL K) (pv 0) B8 (fun _ _=>rfl)) (pv 1)))
   (B1 (d6 (D9 Pg (V6 (ixL K) (pv 0) B8 (fun _ _=>rfl)) (pv 1)) (Wa (pv 0) B8 Lz))
   (B3 (B9 (pv 2))))) C4)
   (B3 (B9 (D9 Gu (D9 Pg (C6 T.law_mix G_law_mix (hr.mono (by decide)) (A8 (C6 T.law_mix G_law_mix (hr.mono (by decide)) (A8 (V6 (ixL K) (pv 0) B8 (fun _ _=>rfl)) (A8 (V6 (ixL K) (pv 0) B8 (fun _ _=>rfl)) B2))) (A8 (D9 Bi (V6 (ixL K) (pv 0) B8 (fun _ _=>rfl)) B8) B2))) B8) (pv 1)))))),?_⟩
  have nn:∀d:Int,0<=d->d<many->∀a' b',Q (.int d) (upd (upd H p (.lst [.int a,.int b,.int (c+1)])) p (.lst [.int a',.int b',.int (c+1)]))/\Q (.int d) (upd H p (.lst [.int a',.int b',.int (c+1)])):=fun d h0 h1 a' b'=>by
   obtain⟨n,rfl⟩:=Int.eq_ofNat_of_zero_le h0
   exact⟨q n _ h1 (((Sm.refl _ _).upd (by simp)).upd (by simp)) ⟨a',b',A9,by omega⟩,q n _ h1 ((Sm.refl _ _).upd (by simp)) ⟨a',b',A9,by omega⟩⟩
  refine ex1 rfl ⟨p,_,C1 rfl rfl ⟨SqL.of e,rfl,C1 rfl rfl (ex1 rfl ⟨p,_,_,2,rfl,rfl,e,rfl,?_⟩)⟩⟩
  refine ex1 rfl ⟨p,_,C1 rfl rfl ⟨SqL.of A9,rfl,C1 rfl rfl (ex1 rfl ?_)⟩⟩
  refine U4 (fun h1=>?_) (fun h1=>?_)
  ·have h1:(0:Int)<a:=AW h1
   refine ex1 rfl ⟨p,_,C1 rfl rfl ⟨SqL.of A9,rfl,ex1 rfl (C1 rfl rfl ⟨m0,?_⟩)⟩⟩
   refine ex1 rfl ⟨p,_,C1 rfl rfl ⟨SqL.of A9,rfl,ex1 rfl (C1 rfl rfl ⟨⟨m0,by omega⟩,ex1 rfl ⟨p,_,_,0,rfl,rfl,A9,rfl,?_⟩⟩)⟩⟩
   exact⟨_,rfl,(nn _ (FX _ (by omega)) (FD _ m0) _ _).1⟩
  ·refine ex1 rfl ⟨p,_,C1 rfl rfl ⟨SqL.of A9,rfl,ex1 rfl ⟨p,_,C1 rfl rfl ⟨SqL.of A9,rfl,_,ex1 rfl ⟨by omega,by omega,fun m2 h2 h3=>?_⟩⟩⟩⟩⟩
   refine ex1 rfl ⟨p,_,C1 rfl rfl ⟨SqL.of A9,rfl,C1 rfl rfl ⟨_,ex1 rfl ⟨by omega,by omega,fun m3 h4 h5=>?_⟩⟩⟩⟩
   refine C1 rfl rfl ⟨⟨by decide,by decide⟩,ex1 rfl (C1 rfl rfl ⟨m0,?_⟩)⟩
   exact(nn _ (FX _ (by omega)) (FD _ m0) _ _).2
end
theorem six{d n:Nat}(h:d<n):seqIndex? (d:Int) n=some d:=by
 unfold seqIndex?
 simp
 omega
theorem erase_perm{α:Type}{l:List α}{i:Nat}{x:α}(h:l[i]?=some x):(x::l.eraseIdx i).Perm l:=ST.erase_perm h
theorem Fy{α β:Type}(f:α->β):∀(l:List α) (i:Nat),(l.map f).eraseIdx i =(l.eraseIdx i).map f
 | [],_=>rfl
 | _::_,0=>rfl
 | a::l,i+1=>by
  show f a ::(l.map f).eraseIdx i=f a ::(l.eraseIdx i).map f
  rw[Fy f l i]
theorem Tu{all rest got:List Str}(pm:(rest++got).Perm all)(h1:∀x∈all,J7 x=true)(h2:all.Nodup)(h3:all.length<=100):Y5 got:=by
 refine⟨fun x hx=>h1 x (pm.mem_iff.mp (BV _ hx)),?_,?_⟩
 ·exact(EE.mp (pm.nodup_iff.mpr h2)).2.1
 ·have:=pm.length_eq
  rw[BA]at this
  omega
theorem Tr{all rest got:List Str}{d:Nat}{x:Str}(pm:(rest++got).Perm all)(h:rest[d]?=some x):(rest.eraseIdx d ++(got ++ [x])).Perm all:=by
 refine List.Perm.trans ?_ pm
 rw[<-BE]
 refine CT.trans ?_
 rw[<-BE]
 exact(erase_perm h).append_right got
theorem Sm1{p b:Addr}{H H':Hp}{o:HO}(h:Sm [p] H H')(e:H b=some o)(n:b≠p):H' b=some o:=h b o e fun z=>n (AD.mp z)
section
variable{P:Program}{w:World}{K:PySem.W.Frag}{mg:Str->Option Value}{base:Heap}
def all20:List Str:=["b", "aa", "zebra", "c", "quartzes", "ab", "m", "knows", "d", "mm", "likes", "z", "a", "ba", "abcdefgh", "y", "zz", "e", "x", "f"]
abbrev txt20:Str := "b aa zebra c quartzes ab m knows d mm likes z a ba abcdefgh y zz e x f"
theorem Yj:Builtin.Str.partsBetween txt20 (Builtin.Str.occurrences txt20 " " 0 txt20.length (txt20.length+1)) (" ":Str).length=all20:=by decide +kernel
theorem all20_ok:(∀x∈all20,J7 x=true)/\all20.Nodup:=⟨by decide +kernel,by decide +kernel⟩
theorem Jd:∃all:List Str,all.length=20/\(∀x∈all,J7 x=true)/\all.Nodup/\∀(Q:VK) (H:Hp),(∀l,H l=none->Q (.ref l) (upd H l (.lst (all.map V.str))))->Vr (.str txt20) [.str " "] H Q :=
 ⟨all20,rfl,all20_ok.1,all20_ok.2,fun Q H h=>⟨txt20, " ",all20,rfl,rfl,by decide +kernel,by decide +kernel,by decide +kernel,by decide +kernel,Yj,by decide +kernel,h⟩⟩
theorem u8:FnScope ["_law_left_here", "_law_many", "_law_some", "_law_names_here", "_law_k"] ["_law_left_here", "_law_many"] (B6 s_law_names):=⟨rfl,rfl,rfl,by decide +kernel,rfl,by decide +kernel,by decide +kernel⟩
def Ki:Sp:=fun vs H Q _=>∃(p:Addr) (c:Int) (many:Nat),vs = [.ref p,.int (many:Int)]/\LeftAt H p c/\c<=900000/\many<=20 /\
 ∀l (ss:List Str) H',H l=none->Sm [p] H H'->H' l=some (.lst (ss.map V.str))->ss.length=many->Y5 ss->LeftAt H' p (c+many)->Q (.ref l) H'
set_option maxHeartbeats 2000000 in
theorem Fx(T:Tx K mg):FnOk P w K mg base CX0 3 T.law_names.f T.law_names.fd ["_law_left_here", "_law_many"] Ki:=by
 have G_law_pick:FnOk P w K mg base CX0 2 T.law_pick.f T.law_pick.fd ["_law_left_here", "_law_many"] m9:=P5 T
 have sc:=u8
 refine T.law_names.F.ok u8 (fun vs H Q E h=>?_) (fun cdv A outer s H vs Q E hr h=>?_)
 ·obtain⟨p,c,m,rfl,_⟩:=h
  rfl
 ·obtain⟨p,c,many,rfl,hL,c1,m1,q⟩:=h
  obtain⟨a0,b0,e0,c0⟩:=id hL
  refine⟨_,(B1 (C5 (i:=2) sc.nd rfl (by first | exact Or.inl rfl | exact Or.inr rfl) (Pz K PySem.F.plainAttrs_str PySem.F.slot_str_split PySem.F.type_str_split Sx W7 (A8 W7 B2)))
   (B1 (C5 (i:=3) sc.nd rfl (by first | exact Or.inl rfl | exact Or.inr rfl) (Q1 B2))
   (B1 (V3 PassesOwn.never rfl (zBz T.b_range (A8 (pv 1) B2)) (C7 (i:=4) sc.nd rfl (by first | exact Or.inl rfl | exact Or.inr rfl))
   (B3 (E4 (Pz K PySem.F.plainAttrs_list PySem.F.slot_list_append PySem.F.type_list_append K8 (pv 3) (A8 (Pz K PySem.F.plainAttrs_list PySem.F.slot_list_pop PySem.F.type_list_pop Uc (pv 2) (A8 (C6 T.law_pick G_law_pick (hr.mono (by decide)) (A8 (pv 0) (A8 (E9 (j7 K) T.b_len W8 (A8 (pv 2) B2)) B2))) B2)) B2)))))
   (B3 (B9 (pv 3)))))),?_⟩
  obtain⟨all,al,a1,a2,hspl⟩:=Jd
  refine⟨rfl,?_⟩
  dsimp only[Fd,tC,Vo]
  refine hspl _ _ fun a ha=>?_
  refine⟨CA _,fun b hb=>?_⟩
  have hb':H b=none:=(Same.new ha).free hb
  have nab:a≠b:=B0 A9 hb
  have npa:p≠a:=B0 e0 ha
  have npb:p≠b:=B0 e0 hb'
  refine ex1 rfl (ex1 rfl ⟨by omega,by omega,?_⟩)
  rw[EC]
  refine t6 (fun i σ H1=>(∃v4,σ = [some (.ref p),some (.int (many:Int)),some (.ref a),some (.ref b),v4])/\Sm [p] H H1/\LeftAt H1 p (c+i)/\∃rest got:List Str,H1 a=some (.lst (rest.map V.str))/\H1 b=some (.lst (got.map V.str))/\(rest++got).Perm all/\got.length=i) ?_ ?_ ?_
  ·refine⟨⟨_,rfl⟩,((Same.new ha).trans (Same.new hb)).sm,((hL.cast (by omega)).upd npa).upd npb,all,[],by rw[B7 nab,A9],by rw[A9];rfl,by rw[CI],rfl⟩
  ·rintro i σ H1 hi ⟨⟨v4,rfl⟩,k1,L1,rest,got,ea,eb,pm,hg⟩ D1 hD1 _
   have hlen:rest.length=20-i:=by
    have:=pm.length_eq
    rw[BA,hg,al]at this
    omega
   refine ex1 rfl ⟨.inl ⟨rfl,_,SqL.of eb⟩,ex1 rfl ⟨.inl ⟨rfl,_,SqL.of ea⟩,ex1 rfl (ex1 rfl (C1 (a:=a) rfl (.inl (SqL.of ea)) (Eh (a:=p) (b:=c+i) rfl L1 (by omega) ?_ ?_ fun d H2 hd k2 L2=>?_)))⟩⟩
   ·rw[AB];omega
   ·rw[AB];omega
   rw[AB]at hd
   have hd':d<rest.length:=by omega
   have hx:rest[d]?=some rest[d]:=AC hd'
   have ea2:=Sm1 k2 ea npa.symm
   have eb2:=Sm1 k2 eb npb.symm
   refine⟨a,_,_,d,.str rest[d],rfl,rfl,ea2,by omega,by omega,six (by rw[AB];exact hd'),by rw[AI,hx];rfl,b,C1 rfl rfl ⟨by rw[B7 nab.symm];exact eb2,?_,?_⟩⟩
   ·rw[AB,sizeLine_eq];omega
   refine hD1 _ _ ⟨⟨_,rfl⟩,?_,?_,rest.eraseIdx d,got ++ [rest[d]],?_,?_,Tr pm hx,by rw[BA,hg];rfl⟩
   ·exact((k1.trans k2).updN ha).updN hb'
   ·exact((L2.cast (by omega)).upd npa).upd npb
   ·rw[B7 nab,A9,Fy]
   ·rw[A9,AR];rfl
  ·rintro σ H1 ⟨⟨v4,rfl⟩,k1,L1,rest,got,ea,eb,pm,hg⟩
   exact⟨_,rfl,q b got H1 hb' k1 eb hg (Tu pm a1 a2 (by omega)) L1⟩
end
def pd(k:Str×Str):PyData:=.tuple [.str k.1,.str k.2]
theorem Mj{x:Str}(h:J7 x=true):PySem.PyData.strOk x=true:=by
 unfold J7 at h
 rw[BP]at h
 unfold PySem.PyData.strOk
 rw[<-Array.all_toList,CJ]
 intro c hc
 have:=(CJ.mp h.2) c hc
 unfold Yi at this
 rw[BP]at this
 have:=AW this.2
 exact AH (by omega)
theorem On{K:PySem.W.Frag}{H:Hp}{t:Addr}{k:Str×Str}(h:H t=some (.tup [.str k.1,.str k.2])):Rp K H (pd k) (.ref t):=by
 unfold pd
 simp only[Rp,Rps]
 exact⟨t,_,rfl,SqT.of h,_,_,rfl,rfl,_,_,rfl,rfl,rfl⟩
theorem Hc{K:PySem.W.Frag}{H:Hp}:∀{ps:List PA2},(∀q∈ps,E7 H q)->Rps K H (ps.map fun q=>pd q.2) (P0 ps)
 | [],_=>by simp[Rps,P0]
 | q::r,h=>by
  show Rps K H (pd q.2::r.map fun q=>pd q.2) (V.ref q.1::P0 r)
  simp only[Rps]
  exact⟨_,_,rfl,On (h q (AU ..)),Hc fun z hz=>h z (AM _ hz)⟩
theorem Tb{K:PySem.W.Frag}{H:Hp}{l:Addr}{ps:List PA2}(hl:H l=some (.lst (P0 ps)))(h:∀q∈ps,E7 H q):Rp K H (.list (ps.map fun q=>pd q.2)) (.ref l):=by
 simp only[Rp]
 exact⟨l,_,rfl,SqL.of hl,Hc h⟩
theorem zBc(a b:Str×Str):PyData.eqv (pd a) (pd b)=decide (a=b):=by
 unfold pd
 rw[PyData.eqv,PyData.eqvAll,PyData.eqvAll,PyData.eqvAll,PyData.eqv,PyData.eqv]
 by_cases h1:a.1=b.1
 ·by_cases h2:a.2=b.2
  ·rw[AH (Prod.ext h1 h2),h1,h2];simp
  ·rw[A_ fun z=>h2 (congrArg Prod.snd z)];simp[h2]
 ·rw[A_ fun z=>h1 (congrArg Prod.fst z)];simp[h1]
theorem Gj(k:Str×Str):∀ps:List PA2,((ps.map fun q=>pd q.2).any fun z=>PyData.eqv z (pd k))=decide (k∈ps.map fun q=>q.2)
 | []=>rfl
 | q::r=>by
  rw[BG,FO,Gj k r,zBc,BG]
  by_cases e:q.2=k
  ·rw[AH e,Bool.true_or,AH (show k∈q.2::_ from by rw[<-e];exact AU ..)]
  ·rw[A_ e,FZ]
   by_cases h:k∈r.map fun q=>q.2
   ·rw[AH h,AH (AM _ h)]
   ·rw[A_ h,A_ fun z=>(BD.mp z).elim (fun z=>e z.symm) h]
theorem Ve{k:Str×Str}(h1:PySem.PyData.strOk k.1=true)(h2:PySem.PyData.strOk k.2=true):(pd k).canLay0=true:=by
 unfold pd
 simp[PyData.canLay0,PyData.canLayAll0,h1,h2]
theorem Sf:∀{ps:List PA2},(∀q∈ps,PySem.PyData.strOk q.2.1=true/\PySem.PyData.strOk q.2.2=true)->PyData.canLayAll0 (ps.map fun q=>pd q.2)=true
 | [],_=>rfl
 | q::r,h=>by
  rw[BG,PyData.canLayAll0,Ve (h q (AU ..)).1 (h q (AU ..)).2,Sf fun z hz=>h z (AM _ hz)]
  rfl
theorem r9{K:PySem.W.Frag}{H:Hp}{t l:Addr}{k:Str×Str}{ps:List PA2}{Q:VK}(ht:H t=some (.tup [.str k.1,.str k.2]))(hl:H l=some (.lst (P0 ps)))(hp:∀q∈ps,E7 H q)
  (hk:PySem.PyData.strOk k.1=true/\PySem.PyData.strOk k.2=true) (hs:∀q∈ps,PySem.PyData.strOk q.2.1=true/\PySem.PyData.strOk q.2.2=true) (q:Q (.bl (!decide (k∈ps.map fun q=>q.2))) H):Yr K true (.ref t) (.ref l) H Q :=
 ⟨pd k,_,On ht,.inl (Tb hl hp),⟨Ve hk.1 hk.2,by simp[pd,PyData.depth,PyData.depthAll]⟩,Sf hs,by rw[AQ rfl,Gj];exact q⟩
structure FL(H:Hp)(l:Addr)(ps:List PA2)(ss:List Str):Prop where
 at_:H l=some (.lst (P0 ps))
 pin:∀q∈ps,E7 H q
 nm:∀q∈ps,q.2.1∈ss/\q.2.2∈ss
 nd:(ps.map fun q=>q.2).Nodup
theorem FL.sm{H H':Hp}{p l:Addr}{c:Int}{ps:List PA2}{ss:List Str}(h:FL H l ps ss)(L:LeftAt H p c)(n:l≠p)(s:Sm [p] H H'):FL H' l ps ss:=by
 obtain⟨x,y,e,_⟩:=L
 exact⟨Sm1 s h.at_ n,fun q hq=>Sm1 s (h.pin q hq) (T9 (h.pin q hq) e (by intro z;cases z)),h.nm,h.nd⟩
theorem FL.new{H:Hp}{l t:Addr}{o:HO}{ps:List PA2}{ss:List Str}(h:FL H l ps ss)(n:H t=none):FL (upd H t o) l ps ss :=
 ⟨by rw[B7 (B0 h.at_ n)];exact h.at_,fun q hq=>by unfold E7;rw[B7 (B0 (h.pin q hq) n)];exact h.pin q hq,h.nm,h.nd⟩
theorem FL.put{H:Hp}{l t:Addr}{ps:List PA2}{ss:List Str}{x y:Str}(h:FL H l ps ss)(k:Nat)(ht:H t=some (.tup [.str x,.str y]))(hx:x∈ss)(hy:y∈ss)(hn:(x,y)∉ps.map fun q=>q.2) :
  FL (upd H l (.lst ((P0 ps).take k++V.ref t ::(P0 ps).drop k))) l (ps.take k ++(t,x,y)::ps.drop k) ss:=by
 have pm:(ps.take k ++(t,x,y)::ps.drop k).Perm ((t,x,y)::ps):=by
  refine List.perm_middle.trans (List.Perm.cons _ ?_)
  rw[BU]
 have mm:∀q∈ps.take k ++(t,x,y)::ps.drop k,q =(t,x,y)\/q∈ps:=fun q hq=>BD.mp (pm.mem_iff.mp hq)
 refine⟨?_,fun q hq=>?_,fun q hq=>?_,?_⟩
 ·rw[A9]
  unfold P0
  rw[AR,List.map_take,BG,List.map_drop]
 ·unfold E7
  rcases mm q hq with rfl | z
  ·rw[B7 (T9 ht h.at_ (by intro z;cases z))];exact ht
  ·rw[B7 (T9 (h.pin q z) h.at_ (by intro z;cases z))];exact h.pin q z
 ·rcases mm q hq with rfl | z
  ·exact⟨hx,hy⟩
  ·exact h.nm q z
 ·rw[(pm.map _).nodup_iff]
  show((x,y)::ps.map fun q=>q.2).Nodup
  exact DB.mpr ⟨hn,h.nd⟩
theorem FL.app{H:Hp}{l t:Addr}{ps:List PA2}{ss:List Str}{x y:Str}(h:FL H l ps ss)(ht:H t=some (.tup [.str x,.str y]))(hx:x∈ss)(hy:y∈ss)(hn:(x,y)∉ps.map fun q=>q.2) :
  FL (upd H l (.lst (P0 ps ++ [V.ref t]))) l (ps ++ [(t,x,y)]) ss:=by
 have:=h.put ps.length ht hx hy hn
 have e:(P0 ps).length=ps.length:=by unfold P0;rw[AB]
 rw[<-e,CG,List.drop_length,e,CG,List.drop_length]at this
 exact this
theorem Lv(ss:List Str):∀tt:List Str,(tt.flatMap fun a=>ss.map fun b=>(a,b)).length=tt.length*ss.length
 | []=>by simp
 | a::r=>by rw[List.flatMap_cons,BA,AB,Lv ss r,BN,Nat.succ_mul];omega
theorem FL.len{H:Hp}{l:Addr}{ps:List PA2}{ss:List Str}(h:FL H l ps ss):ps.length<=ss.length*ss.length:=by
 have:=h.nd.length_le_of_subset (l₂:=ss.flatMap fun a=>ss.map fun b=>(a,b)) (fun k hk=>by
  obtain⟨q,hq,rfl⟩:=AK.mp hk
  obtain⟨h1,h2⟩:=h.nm q hq
  exact List.mem_flatMap.mpr ⟨q.2.1,h1,AK.mpr ⟨q.2.2,h2,rfl⟩⟩)
 rw[Lv,AB]at this
 exact this
section
variable{P:Program}{w:World}{K:PySem.W.Frag}{mg:Str->Option Value}{base:Heap}
theorem Wm(d1 d2 d:Nat)(h1:d1<3)(h2:d2<4)(h:d<8):∃n:Nat,n<=10/\atI [V.int (8 +(d1:Int)),V.int d2,V.int 4,V.int 5,V.int 6,V.int 7,V.int 5,V.int 6] (d:Int)=some (.int (n:Int)):=by
 suffices ∃n:Nat,n<=10/\[V.int (8 +(d1:Int)),V.int d2,V.int 4,V.int 5,V.int 6,V.int 7,V.int 5,V.int 6][d]?=some (.int (n:Int)) by
  obtain⟨n,h,e⟩:=this
  exact⟨n,h,l7 e⟩
 match d,h with
 | 0,_=>exact⟨8+d1,by omega,by show some (V.int _)=_;rw[Int.natCast_add];rfl⟩
 | 1,_=>exact⟨d2,by omega,rfl⟩
 | 2,_=>exact⟨4,by omega,rfl⟩
 | 3,_=>exact⟨5,by omega,rfl⟩
 | 4,_=>exact⟨6,by omega,rfl⟩
 | 5,_=>exact⟨7,by omega,rfl⟩
 | 6,_=>exact⟨5,by omega,rfl⟩
 | 7,_=>exact⟨6,by omega,rfl⟩
theorem Bw:FnScope ["_law_left_here", "_law_way"] ["_law_left_here"] (B6 s_law_size):=⟨rfl,rfl,rfl,by decide +kernel,rfl,by decide +kernel,by decide +kernel⟩
def Rk:Sp:=fun vs H Q _=>∃(p:Addr) (c:Int),vs = [.ref p]/\LeftAt H p c/\c<=900000 /\
 ∀(n:Nat) H',n<=10->Sm [p] H H'->LeftAt H' p (c+3)->Q (.int (n:Int)) H'
theorem Jr(T:Tx K mg):FnOk P w K mg base CX0 3 T.law_size.f T.law_size.fd ["_law_left_here"] Rk:=by
 have G_law_pick:FnOk P w K mg base CX0 2 T.law_pick.f T.law_pick.fd ["_law_left_here", "_law_many"] m9:=P5 T
 have sc:=Bw
 refine T.law_size.F.ok Bw (fun vs H Q E h=>?_) (fun cdv A outer s H vs Q E hr h=>?_)
 ·obtain⟨p,c,rfl,_⟩:=h
  rfl
 ·obtain⟨p,c,rfl,hL,c1,q⟩:=h
  refine⟨_,(B1 (C5 (i:=1) sc.nd rfl (by first | exact Or.inl rfl | exact Or.inr rfl) (C6 T.law_pick G_law_pick (hr.mono (by decide)) (A8 (pv 0) (A8 B8 B2))))
   (@B3 _ _ _ (@B9 _ _ _ _ (@V6 _ _ _ _ _ _ _ (ixL K) (@Q1 _ _ _ _ (@A8 _ _ _ _ _ (D9 Bi B8 (C6 T.law_pick G_law_pick (hr.mono (by decide)) (A8 (pv 0) (A8 B8 B2)))) (@A8 _ _ _ _ _ (C6 T.law_pick G_law_pick (hr.mono (by decide)) (A8 (pv 0) (A8 B8 B2))) (@A8 _ _ _ _ _ B8 (@A8 _ _ _ _ _ B8 (@A8 _ _ _ _ _ B8 (@A8 _ _ _ _ _ B8 (@A8 _ _ _ _ _ B8 (@A8 _ _ _ _ _ B8 B2 (by rfl)) (by rfl)) (by rfl)) (by rfl)) (by rfl)) (by rfl)) (by rfl)) (by rfl))) (pv 1) (fun _ _=>rfl))))),?_⟩
  refine ex1 rfl (Eh (a:=p) rfl hL (by omega) (by decide) (by decide) fun d H1 hd k1 L1=>?_)
  refine ex1 rfl (Eh (a:=p) rfl L1 (by omega) (by decide) (by decide) fun d1 H2 hd1 k2 L2=>?_)
  refine C1 rfl rfl ?_
  refine ex1 rfl (Eh (a:=p) rfl L2 (by omega) (by decide) (by decide) fun d2 H3 hd2 k3 L3=>?_)
  refine⟨by show 8<=sizeLine;decide,fun l hl=>?_⟩
  obtain⟨n,hn,e⟩:=Wm d1 d2 d (by omega) (by omega) (by omega)
  have e3:=L3.get
  refine ex1 rfl ⟨l,_,C1 rfl rfl ⟨SqL.of A9,e,?_⟩⟩
  exact q n _ hn (((k1.trans k2).trans k3).new hl) ((L3.cast (by omega)).upd (B0 e3 hl))
theorem LeftAt.ne{H:Hp}{p n:Addr}{c:Int}{ss:List Str}(h:LeftAt H p c)(hn:H n=some (.lst (ss.map V.str))):n≠p:=by
 rintro rfl
 obtain⟨a,b,e,_⟩:=h
 rw[hn]at e
 cases ss with
 | nil=>cases e
 | cons x r=>cases e
theorem LeftAt.neP{H:Hp}{p n:Addr}{c:Int}{ss:List PA2}(h:LeftAt H p c)(hn:H n=some (.lst (P0 ss))):n≠p:=by
 rintro rfl
 obtain⟨a,b,e,_⟩:=h
 rw[hn]at e
 cases ss with
 | nil=>cases e
 | cons x r=>cases e
theorem Sq(d:Nat)(h:d<4):∃n:Nat,0<n/\n<=9/\atI [V.int 4,V.int 6,V.int 9,V.int 3] (d:Int)=some (.int (n:Int)):=by
 suffices ∃n:Nat,0<n/\n<=9/\[V.int 4,V.int 6,V.int 9,V.int 3][d]?=some (.int (n:Int)) by
  obtain⟨n,h1,h2,e⟩:=this
  exact⟨n,h1,h2,l7 e⟩
 match d,h with
 | 0,_=>exact⟨4,by omega,by omega,rfl⟩
 | 1,_=>exact⟨6,by omega,by omega,rfl⟩
 | 2,_=>exact⟨9,by omega,by omega,rfl⟩
 | 3,_=>exact⟨3,by omega,by omega,rfl⟩
theorem W9:FnScope ["_law_left_here", "_law_names_here", "_law_found", "_law_often", "_law_one", "_law_other"] ["_law_left_here", "_law_names_here"] (B6 s_law_strikes):=⟨rfl,rfl,rfl,by decide +kernel,rfl,by decide +kernel,by decide +kernel⟩
def Dn(K:PySem.W.Frag):Sp:=fun vs H Q _=>∃(p n:Addr) (c:Int) (ss:List Str),vs = [.ref p,.ref n]/\LeftAt H p c/\c<=900000/\H n=some (.lst (ss.map V.str))/\Y5 ss/\ss.length<=10 /\
 ∀l (ps:List PA2) c' H',H l=none->Sm [p] H H'->H' l=some (.lst (P0 ps))->(∀q∈ps,E7 H' q)->StrkOk ss ps->c'<=c+1000->LeftAt H' p c'->Q (.ref l) H'
def SI(H:Hp)(p f:Addr)(ss:List Str)(b:Int)(H1:Hp):Prop:=Sm [p] H H1/\(∃c',c'<=b/\LeftAt H1 p c')/\∃ps,FL H1 f ps ss
set_option maxHeartbeats 4000000 in
theorem Ck(T:Tx K mg):FnOk P w K mg base CX0 3 T.law_strikes.f T.law_strikes.fd ["_law_left_here", "_law_names_here"] (Dn K):=by
 have G_law_pick:FnOk P w K mg base CX0 2 T.law_pick.f T.law_pick.fd ["_law_left_here", "_law_many"] m9:=P5 T
 have sc:=W9
 refine T.law_strikes.F.ok W9 (fun vs H Q E h=>?_) (fun cdv A outer s H vs Q E hr h=>?_)
 ·obtain⟨p,n,c,ss,rfl,_⟩:=h
  rfl
 ·obtain⟨p,n,c,ss,rfl,hL,c1,hn,hN,hlen,q⟩:=h
  obtain⟨a0,b0,e0,c0⟩:=id hL
  refine⟨_,(B1 (C5 (i:=2) sc.nd rfl (by first | exact Or.inl rfl | exact Or.inr rfl) (Q1 B2))
   (B1 (C5 (i:=3) sc.nd rfl (by first | exact Or.inl rfl | exact Or.inr rfl) (V6 (ixL K) (Q1 (A8 B8 (A8 B8 (A8 B8 (A8 B8 B2))))) (C6 T.law_pick G_law_pick (hr.mono (by decide)) (A8 (pv 0) (A8 B8 B2))) (fun _ _=>rfl)))
   (B1 (V3 PassesOwn.never rfl (piL K (pv 1)) (C7 (i:=4) sc.nd rfl (by first | exact Or.inl rfl | exact Or.inr rfl))
   (B1 (V3 PassesOwn.never rfl (piL K (pv 1)) (C7 (i:=5) sc.nd rfl (by first | exact Or.inl rfl | exact Or.inr rfl))
   (B3 (J4 (PW.pt (f7 (C3 Uj (pv 4) (pv 5) (F0 _)) (f7 (C3 j8 (C6 T.law_pick G_law_pick (hr.mono (by decide)) (A8 (pv 0) (A8 (pv 3) B2))) B8 (F0 _)) (U9 (C3 (Aj K hr.units) (O6 (A8 (pv 4) (A8 (pv 5) B2))) (pv 2) rfl))))) (B1 (E4 (Pz K PySem.F.plainAttrs_list PySem.F.slot_list_insert PySem.F.type_list_insert Qo (pv 2) (A8 (C6 T.law_pick G_law_pick (hr.mono (by decide)) (A8 (pv 0) (A8 (D9 Bi (E9 (j7 K) T.b_len W8 (A8 (pv 2) B2)) B8) B2))) (A8 (O6 (A8 (pv 4) (A8 (pv 5) B2))) B2))))
   (B3 (J4 (PW.pt (f7 (C3 j8 (C6 T.law_pick G_law_pick (hr.mono (by decide)) (A8 (pv 0) (A8 B8 B2))) B8 (F0 _)) (U9 (C3 (Aj K hr.units) (O6 (A8 (pv 5) (A8 (pv 4) B2))) (pv 2) rfl)))) (B3 (E4 (Pz K PySem.F.plainAttrs_list PySem.F.slot_list_append PySem.F.type_list_append K8 (pv 2) (A8 (O6 (A8 (pv 5) (A8 (pv 4) B2))) B2)))) C4))) C4)))
   (B3 (J4 (PW.pt (f7 (C3 j8 (C6 T.law_pick G_law_pick (hr.mono (by decide)) (A8 (pv 0) (A8 B8 B2))) B8 (F0 _)) (U9 (C3 (Aj K hr.units) (O6 (A8 (pv 4) (A8 (pv 4) B2))) (pv 2) rfl)))) (B3 (E4 (Pz K PySem.F.plainAttrs_list PySem.F.slot_list_append PySem.F.type_list_append K8 (pv 2) (A8 (O6 (A8 (pv 4) (A8 (pv 4) B2))) B2)))) C4))))
   (B3 (B9 (pv 2)))))),?_⟩
  refine⟨CA _,fun f hf=>?_⟩
  have npf:p≠f:=B0 e0 hf
  have nnf:n≠f:=B0 hn hf
  have nnp:n≠p:=hL.ne hn
  have nnD:n∉[p]:=by simpa using nnp
  have nm:∀x∈ss,PySem.PyData.strOk x=true:=fun x hx=>Mj (hN.1 x hx)
  refine⟨by show 4<=sizeLine;decide,fun t ht=>?_⟩
  have s1:Same H (upd (upd H f (.lst [])) t (.lst [.int 4,.int 6,.int 9,.int 3])):=(Same.new hf).trans (Same.new ht)
  have ef:(upd (upd H f (.lst [])) t (.lst [.int 4,.int 6,.int 9,.int 3])) f=some (.lst []):=by rw[B7 (B0 A9 ht),A9]
  refine ex1 rfl (Eh (a:=p) (b:=c) rfl (hL.same s1) (by omega) (by decide) (by decide) fun d H1 hd k1 L1=>?_)
  obtain⟨often,o1,o2,eo⟩:=Sq d (by omega)
  have hpt:p≠t:=B0 ((Same.new hf) _ _ e0) ht
  refine⟨t,_,C1 rfl rfl ⟨SqL.of (Sm1 k1 A9 hpt.symm),eo,?_⟩⟩
  have i0:SI H p f ss (c+1) H1:=⟨s1.sm.trans k1,⟨_,Int.le_refl _,L1⟩,[],Sm1 k1 ef npf.symm,by simp,by simp,by simp⟩
  have hseq:∀{H1 b},SI H p f ss b H1->SqL K H1 n (ss.map V.str):=fun h=>(h.1.at nnD).seqL (SqL.of hn)
  refine ex1 rfl ⟨n,rfl,⟨_,hseq i0⟩,?_⟩
  refine Au (asL (K:=K) (SqL.of hn)) (fun i σ H1=>(∃v4 v5,σ = [some (.ref p),some (.ref n),some (.ref f),some (.int (often:Int)),v4,v5])/\SI H p f ss (c+1+31*i) H1) ?_ ?_ ?_ ?_
  ·exact⟨⟨_,_,rfl⟩,by simpa using i0⟩
  ·rintro i σ H1 hi ⟨_,h1⟩
   exact h1.1.at nnD
  ·rintro i σ H1 x hx ⟨⟨v4,v5,rfl⟩,h1⟩ D1 hD1 _
   rw[AI]at hx
   obtain⟨one,ho,rfl⟩:∃y,ss[i]?=some y/\V.str y=x:=by
    cases e:ss[i]? with
    | none=>rw[e]at hx;cases hx
    | some y=>rw[e]at hx;exact⟨y,rfl,by injection hx⟩
   have hone:one∈ss:=BJ ho
   have hi:i<ss.length:=(AG.mp ho).1
   refine ex1 rfl ⟨n,rfl,⟨_,hseq h1⟩,?_⟩
   refine Au (asL (K:=K) (SqL.of hn)) (fun j σ H1=>(∃v5,σ = [some (.ref p),some (.ref n),some (.ref f),some (.int (often:Int)),some (.str one),v5])/\SI H p f ss (c+1+31*i+3*j) H1) ?_ ?_ ?_ ?_
   ·exact⟨⟨_,rfl⟩,by simpa using h1⟩
   ·rintro i σ H1 hi ⟨_,h1⟩
    exact h1.1.at nnD
   ·rintro j σ H1 x hx ⟨⟨v5,rfl⟩,h1⟩ D2 hD2 _
    rw[AI]at hx
    obtain⟨oth,ho,rfl⟩:∃y,ss[j]?=some y/\V.str y=x:=by
     cases e:ss[j]? with
     | none=>rw[e]at hx;cases hx
     | some y=>rw[e]at hx;exact⟨y,rfl,by injection hx⟩
    have hoth:oth∈ss:=BJ ho
    have hj:j<ss.length:=(AG.mp ho).1
    obtain⟨k1,⟨c',hc',L1⟩,ps,F1⟩:=h1
    have done:∀{H2 c2 ps2},Sm [p] H H2->c2<=c'+3->LeftAt H2 p c2->FL H2 f ps2 ss->SI H p f ss (c+1+31*i+3 *((j+1:Nat):Int)) H2:=fun{H2 c2 ps2} a b d e=>⟨a,⟨c2,by omega,d⟩,ps2,e⟩
    refine ex1 rfl (ex1 rfl ⟨rfl,ex1 rfl ?_⟩)
    refine U4 (fun h1=>?_) (fun h1=>U3 (hD2 _ _ ⟨⟨_,rfl⟩,done k1 (by omega) L1 F1⟩))
    refine ex1 rfl (ex1 rfl (Eh (a:=p) (b:=c') rfl L1 (by omega) (by omega) (by omega) fun d1 H2 hd1 k2 L2=>⟨rfl,_,rfl,?_⟩))
    have F2:=F1.sm L1 npf.symm k2
    refine U4 (fun h2=>?_) (fun h2=>U3 (hD2 _ _ ⟨⟨_,rfl⟩,done (k1.trans k2) (by omega) L2 F2⟩))
    refine ex1 rfl (ex1 rfl ⟨by show 2<=sizeLine;decide,fun t2 ht2=>?_⟩)
    have F3:=F2.new (o:=.tup [.str one,.str oth]) ht2
    have e2:=L2.get
    have L3:=L2.upd (o:=.tup [.str one,.str oth]) (B0 e2 ht2)
    have k3:=(k1.trans k2).new (o:=.tup [.str one,.str oth]) ht2
    refine ex1 rfl (r9 (k:=(one,oth)) A9 F3.at_ F3.pin ⟨nm _ hone,nm _ hoth⟩ (fun q hq=>⟨nm _ (F3.nm q hq).1,nm _ (F3.nm q hq).2⟩) ⟨_,rfl,?_⟩)
    refine U4 (fun h3=>?_) (fun h3=>hD2 _ _ ⟨⟨_,rfl⟩,done k3 (by omega) L3 F3⟩)
    have h3':(one,oth)∉ps.map fun q=>q.2:=by simpa using h3
    have lps:=F3.len
    have lps':ps.length<=100:=Nat.le_trans lps (Nat.mul_le_mul hlen hlen)
    have rl:(P0 ps).length=ps.length:=by unfold P0;rw[AB]
    refine ex1 rfl ⟨.inl ⟨rfl,_,SqL.of F3.at_⟩,ex1 rfl (ex1 rfl (C1 (a:=f) rfl (.inl (SqL.of F3.at_)) (C1 rfl rfl (Eh (a:=p) (b:=c'+1) rfl L3 (by omega) (by omega) (by omega) fun d2 H4 hd2 k4 L4=>?_))))⟩
    have F4:=F3.sm L3 npf.symm k4
    refine ex1 rfl (ex1 rfl ⟨by show 2<=sizeLine;decide,fun t3 ht3=>?_⟩)
    have F5:=F4.new (o:=.tup [.str one,.str oth]) ht3
    have e4:=L4.get
    have L5:=L4.upd (o:=.tup [.str one,.str oth]) (B0 e4 ht3)
    have k5:=(k3.trans k4).new (o:=.tup [.str one,.str oth]) ht3
    refine⟨f,_,_,d2,ex1 rfl ⟨rfl,rfl,F5.at_,by omega,by rw[sizeLine_eq];omega,?_⟩⟩
    have F6:=F5.put d2 A9 hone hoth h3'
    have L6:=L5.upd (o:=.lst ((P0 ps).take d2++V.ref t3 ::(P0 ps).drop d2)) npf
    have k6:=k5.updN (o:=.lst ((P0 ps).take d2++V.ref t3 ::(P0 ps).drop d2)) hf
    generalize hps:ps.take d2 ++(t3,one,oth)::ps.drop d2=ps' at F6
    refine ex1 rfl (Eh (a:=p) rfl L6 (by omega) (by decide) (by decide) fun d3 H7 hd3 k7 L7=>⟨rfl,_,rfl,?_⟩)
    have F7:=F6.sm L6 npf.symm k7
    refine U4 (fun h4=>?_) (fun h4=>U3 (hD2 _ _ ⟨⟨_,rfl⟩,done (k6.trans k7) (by omega) L7 F7⟩))
    refine ex1 rfl (ex1 rfl ⟨by show 2<=sizeLine;decide,fun t4 ht4=>?_⟩)
    have F8:=F7.new (o:=.tup [.str oth,.str one]) ht4
    have e7:=L7.get
    have L8:=L7.upd (o:=.tup [.str oth,.str one]) (B0 e7 ht4)
    have k8:=(k6.trans k7).new (o:=.tup [.str oth,.str one]) ht4
    refine ex1 rfl (r9 (k:=(oth,one)) A9 F8.at_ F8.pin ⟨nm _ hoth,nm _ hone⟩ (fun q hq=>⟨nm _ (F8.nm q hq).1,nm _ (F8.nm q hq).2⟩) ⟨_,rfl,?_⟩)
    refine U4 (fun h5=>?_) (fun h5=>hD2 _ _ ⟨⟨_,rfl⟩,done k8 (by omega) L8 F8⟩)
    have h5':(oth,one)∉ps'.map fun q=>q.2:=by simpa using h5
    have lps:=F8.len
    have lps':ps'.length<=100:=Nat.le_trans lps (Nat.mul_le_mul hlen hlen)
    have rl:(P0 ps').length=ps'.length:=by unfold P0;rw[AB]
    refine ex1 rfl ⟨.inl ⟨rfl,_,SqL.of F8.at_⟩,ex1 rfl (ex1 rfl ⟨by show 2<=sizeLine;decide,fun t5 ht5=>?_⟩)⟩
    have F9:=F8.new (o:=.tup [.str oth,.str one]) ht5
    have e8:=L8.get
    have L9:=L8.upd (o:=.tup [.str oth,.str one]) (B0 e8 ht5)
    have k9:=k8.new (o:=.tup [.str oth,.str one]) ht5
    refine⟨f,C1 rfl rfl ⟨F9.at_,by rw[sizeLine_eq];omega,hD2 _ _ ⟨⟨_,rfl⟩,done (k9.updN hf) (by omega) (L9.upd npf) (F9.app A9 hoth hone h5')⟩⟩⟩
   ·rintro σ H1 ⟨⟨v5,rfl⟩,k1,⟨c',hc',L1⟩,ps,F1⟩
    simp only[AB]at hc'
    have done:∀{H2 c2 ps2},Sm [p] H H2->c2<=c'+1->LeftAt H2 p c2->FL H2 f ps2 ss->SI H p f ss (c+1+31 *((i+1:Nat):Int)) H2:=fun{H2 c2 ps2} a b d e=>⟨a,⟨c2,by omega,d⟩,ps2,e⟩
    refine ex1 rfl (Eh (a:=p) (b:=c') rfl L1 (by omega) (by decide) (by decide) fun d3 H7 hd3 k7 L7=>⟨rfl,_,rfl,?_⟩)
    have F7:=F1.sm L1 npf.symm k7
    refine U4 (fun h4=>?_) (fun h4=>U3 (hD1 _ _ ⟨⟨_,_,rfl⟩,done (k1.trans k7) (by omega) L7 F7⟩))
    refine ex1 rfl (ex1 rfl ⟨by show 2<=sizeLine;decide,fun t4 ht4=>?_⟩)
    have F8:=F7.new (o:=.tup [.str one,.str one]) ht4
    have e7:=L7.get
    have L8:=L7.upd (o:=.tup [.str one,.str one]) (B0 e7 ht4)
    have k8:=(k1.trans k7).new (o:=.tup [.str one,.str one]) ht4
    refine ex1 rfl (r9 (k:=(one,one)) A9 F8.at_ F8.pin ⟨nm _ hone,nm _ hone⟩ (fun q hq=>⟨nm _ (F8.nm q hq).1,nm _ (F8.nm q hq).2⟩) ⟨_,rfl,?_⟩)
    refine U4 (fun h5=>?_) (fun h5=>hD1 _ _ ⟨⟨_,_,rfl⟩,done k8 (by omega) L8 F8⟩)
    have h5':(one,one)∉ps.map fun q=>q.2:=by simpa using h5
    have lps:=F8.len
    have lps':ps.length<=100:=Nat.le_trans lps (Nat.mul_le_mul hlen hlen)
    have rl:(P0 ps).length=ps.length:=by unfold P0;rw[AB]
    refine ex1 rfl ⟨.inl ⟨rfl,_,SqL.of F8.at_⟩,ex1 rfl (ex1 rfl ⟨by show 2<=sizeLine;decide,fun t5 ht5=>?_⟩)⟩
    have F9:=F8.new (o:=.tup [.str one,.str one]) ht5
    have e8:=L8.get
    have L9:=L8.upd (o:=.tup [.str one,.str one]) (B0 e8 ht5)
    have k9:=k8.new (o:=.tup [.str one,.str one]) ht5
    refine⟨f,C1 rfl rfl ⟨F9.at_,by rw[sizeLine_eq];omega,hD1 _ _ ⟨⟨_,_,rfl⟩,done (k9.updN hf) (by omega) (L9.upd npf) (F9.app A9 hone hone h5')⟩⟩⟩
  ·rintro σ H1 ⟨⟨v4,v5,rfl⟩,k1,⟨c',hc',L1⟩,ps,F1⟩
   simp only[AB]at hc'
   have lps:=F1.len
   have lps':ps.length<=100:=Nat.le_trans lps (Nat.mul_le_mul hlen hlen)
   exact⟨_,rfl,q f ps c' H1 hf k1 F1.at_ F1.pin ⟨F1.nm,F1.nd,by omega⟩ (by omega) L1⟩
end
theorem bor(x y:Nat):Builtin.bitOr (x:Int) (y:Int) =((x ||| y:Nat):Int):=by
 have h1:¬0<=Builtin.bitNot (x:Int):=by unfold Builtin.bitNot;omega
 have h2:¬0<=Builtin.bitNot (y:Int):=by unfold Builtin.bitNot;omega
 have h3:∀z:Int,Builtin.bitNot (Builtin.bitNot z)=z:=fun z=>by unfold Builtin.bitNot;omega
 rw[Builtin.bitOr,PyProof.Rows.bitAnd_nn h1 h2,h3,h3,h3]
 rfl
theorem zAo(x y:Nat):Builtin.bitAnd (x:Int) (y:Int) =((x &&& y:Nat):Int):=by simp[Builtin.bitAnd]
theorem zEi(k:Nat):(1:Int)*2 ^((k:Int).toNat) =((2^k:Nat):Int):=by rw[Int.one_mul,EC,Int.natCast_pow];rfl
def M8(m:Nat):V:=.int (m:Int)
structure MB(ns:List Str)(ks:List (Str×Str))(B:List Nat):Prop where
 len:B.length=ns.length
 bit:∀i j,(B.getD i 0).testBit j=true↔∃k∈ks,ns[i]?=some k.1/\ns[j]?=some k.2
theorem Lf{α:Type}{l:List α}(h:l.Nodup){i j:Nat}{x:α}(hi:l[i]?=some x)(hj:l[j]?=some x):i=j:=by
 obtain⟨a,e⟩:=AG.mp hi
 obtain⟨b,e'⟩:=AG.mp hj
 exact(List.getElem_inj h).mp (e.trans e'.symm)
theorem Vx{x y:Str}(h:x.cps.toList=y.cps.toList):x=y:=by
 cases x;cases y
 exact congrArg Str.mk (Array.toList_inj.mp h)
theorem Tl{x y:Str}(h1:leS x y)(h2:leS y x):x=y:=Vx (List.le_antisymm (as:=x.cps.toList) (bs:=y.cps.toList) h1 h2)
theorem Dg{a b:List Str}(h1:a.Pairwise leS)(h2:b.Pairwise leS)(h:a.Perm b):a=b:=List.Perm.eq_of_pairwise (fun _ _ _ _=>Tl) h1 h2 h
def Ho(ns:List Str)(m i:Nat):List Str:=(List.range i).filterMap fun k=>if m.testBit k=true then ns[k]? else none
def setOf(ns:List Str)(m:Nat):List Str:=Ho ns m ns.length
theorem j9{ns:List Str}{m i:Nat}{x:Str}(h:ns[i]?=some x):Ho ns m (i+1)=Ho ns m i++if m.testBit i=true then [x]else []:=by
 unfold Ho
 rw[EH,List.filterMap_append]
 congr 1
 by_cases e:m.testBit i=true
 ·rw[AQ e];simp[e,h]
 ·rw[AJ e];simp[e]
theorem mem_setOf{ns:List Str}{m:Nat}{x:Str}:x∈setOf ns m↔∃k,m.testBit k=true/\ns[k]?=some x:=by
 unfold setOf Ho
 rw[List.mem_filterMap]
 constructor
 ·rintro⟨k,hk,e⟩
  by_cases h:m.testBit k=true
  ·rw[AQ h]at e;exact⟨k,h,e⟩
  ·rw[AJ h]at e;cases e
 ·rintro⟨k,h,e⟩
  exact⟨k,B_.mpr (AG.mp e).1,by rw[AQ h];exact e⟩
theorem Bv(ns:List Str)(m:Nat):∀i,i<=ns.length->(Ho ns m i).Sublist (ns.take i)
 | 0,_=>by simp[Ho]
 | i+1,h=>by
  have hi:ns[i]?=some ns[i]:=AC (by omega)
  rw[j9 hi,take_succ hi]
  refine(Bv ns m i (by omega)).append ?_
  by_cases e:m.testBit i=true
  ·rw[AQ e];exact List.Sublist.refl _
  ·rw[AJ e];exact List.nil_sublist _
theorem Ie(ns:List Str)(m:Nat):(setOf ns m).Sublist ns:=by
 have:=Bv ns m ns.length (Nat.le_refl _)
 rwa [CG]at this
def Fj(B:List Nat)(m j:Nat):Prop:=∃k,m.testBit k=true/\(B.getD k 0).testBit j=true
def Bh(n:Nat)(A B:List Nat)(m j:Nat):Prop:=j<n/\∀b,(A.getD j 0).testBit b=true->Fj B m b
def Fk(B:List Nat)(m:Nat):Prop:=∀i j,m.testBit i=true->m.testBit j=true->¬(B.getD i 0).testBit j=true
theorem M6(d k j:Nat):(d ||| 2^k).testBit j=true↔d.testBit j=true\/j=k:=by
 rw[BR,CD,EW,AY]
 exact⟨fun h=>h.imp id Eq.symm,fun h=>h.imp id Eq.symm⟩
theorem Xf{H H':Hp}{p:Addr}{c:Int}{q:PA2}(h:E7 H q)(L:LeftAt H p c)(s:Sm [p] H H'):E7 H' q:=by
 obtain⟨x,y,e,_⟩:=L
 exact Sm1 s h (T9 h e (by intro z;cases z))
def sd(ss:List Str):PyData:=.list (ss.map PyData.str)
theorem Mn{K:PySem.W.Frag}{H:Hp}:∀ss:List Str,Rps K H (ss.map PyData.str) (ss.map V.str)
 | []=>by simp[Rps]
 | x::r=>by
  simp only[BG,Rps,Rp]
  exact⟨_,_,rfl,rfl,Mn r⟩
theorem X5{K:PySem.W.Frag}{H:Hp}{l:Addr}{ss:List Str}(h:SqL K H l (ss.map V.str)):Rp K H (sd ss) (.ref l):=by
 unfold sd
 simp only[Rp]
 exact⟨l,_,rfl,h,Mn ss⟩
theorem p0:∀ss:List Str,PyData.depthAll (ss.map PyData.str)<=1
 | []=>by simp[PyData.depthAll]
 | x::r=>by
  have:=p0 r
  simp only[BG,PyData.depthAll,PyData.depth]
  omega
theorem Ky:∀{ss:List Str},(∀x∈ss,PySem.PyData.strOk x=true)->PyData.canLayAll0 (ss.map PyData.str)=true
 | [],_=>rfl
 | x::r,h=>by
  rw[BG,PyData.canLayAll0,Ky fun z hz=>h z (AM _ hz)]
  simp[PyData.canLay0,h x (AU ..)]
theorem n4{ss:List Str}(h:∀x∈ss,J7 x=true):Pl (sd ss):=by
 refine⟨?_,?_⟩
 ·unfold sd
  rw[PyData.canLay0]
  exact Ky fun x hx=>Mj (h x hx)
 ·unfold sd
  rw[PyData.depth]
  have:=p0 ss
  omega
theorem Jv{K:PySem.W.Frag}{x y:V}{d:PyData}{H:Hp}{Q:VK}(h1:Rp K H d x)(h2:Rp K H d y)(p:Pl d)(q:Q (.bl false) H):zDc K x y H Q :=
 ⟨d,d,h1,h2,p,p,by rw[PySem.SeqAt.eqv_refl d p.1];exact q⟩
section
variable{P:Program}{w:World}{K:PySem.W.Frag}{mg:Str->Option Value}{base:Heap}
theorem De:FnScope ["_law_left_here", "_law_names_here"] ["_law_left_here"] (B6 s_law_web):=⟨rfl,rfl,rfl,by decide +kernel,rfl,by decide +kernel,by decide +kernel⟩
end
def pB(p:Prop):Bool:=@decide p (Classical.propDecidable p)
theorem pB_iff{p:Prop}:pB p=true↔p:=@AY p (Classical.propDecidable p)
theorem zCx{p:Prop}{b:Bool}(h:b=true↔p):b=pB p:=CK.mpr (h.trans pB_iff.symm)
theorem Ol:∀(j a b:Nat),(∀j,a.testBit j=true->¬b.testBit j=true)->(a+b).testBit j =(a.testBit j||b.testBit j)
 | 0,a,b,h=>by
  have h0:=h 0
  rw[CV,CV,AY,AY]at h0
  rw[CV,CV,CV,<-Bool.decide_or]
  exact decide_eq_decide.mpr ⟨fun z=>by omega,fun z=>by omega⟩
 | j+1,a,b,h=>by
  have h0:=h 0
  rw[CV,CV,AY,AY]at h0
  rw[DJ,DJ,DJ,show(a+b) / 2=a / 2+b / 2 by omega]
  exact Ol j (a / 2) (b / 2) fun i=>by have:=h (i+1);rw[DJ,DJ]at this;exact this
theorem Iu:∀{l:List Nat},l.Nodup->∀j,((l.map fun k=>2^k).sum).testBit j=true↔j∈l
 | [],_,j=>by simp
 | k::l,nd,j=>by
  obtain⟨n1,n2⟩:=DB.mp nd
  have ih:=Iu n2
  rw[BG,List.sum_cons,Nat.add_comm,Ol j _ _ fun i z y=>?_,CD,ih,EW,AY,BD]
  rotate_left
  ·rw[EW,AY]at y
   exact n1 (y▸(ih i).mp z)
  exact⟨fun h=>h.elim .inr fun e=>.inl e.symm,fun h=>h.elim (fun e=>.inr e.symm) .inl⟩
theorem Wo:∀(s:Nat),0<s->∃k,s.testBit k=true/\s-(s &&&(s-1))=2^k:=by
 intro s
 induction s using Nat.strongRecOn with
 | _ s ih =>
  intro h
  by_cases o:s % 2=1
  ·refine⟨0,by rw[CV];exact AH o,?_⟩
   have e:s &&&(s-1)=s-1:=CP fun i=>by
    rw[EI]
    cases i with
    | zero=>rw[CV,CV,A_ (by omega:¬(s-1) % 2=1),GE]
    | succ i=>rw[DJ,DJ,show(s-1) / 2=s / 2 by omega,Bool.and_self]
   rw[e]
   omega
  ·obtain⟨k,h1,h2⟩:=ih (s / 2) (by omega) (by omega)
   refine⟨k+1,by rw[DJ];exact h1,?_⟩
   have e:s &&&(s-1)=2 *(s / 2 &&&(s / 2-1)):=CP fun i=>by
    rw[EI]
    cases i with
    | zero=>rw[CV,CV,A_ o,DQ,CV,A_ (by omega)]
    | succ i=>rw[DJ,DJ,DJ,Nat.mul_div_cancel_left _ (by decide),EI,show(s-1) / 2=s / 2-1 by omega]
   have:s / 2 &&&(s / 2-1)<=s / 2:=Nat.and_le_left
   rw[e,Nat.pow_succ]
   omega
def Low(n m:Nat):Prop:=∀j,m.testBit j=true->j<n
theorem Low.or{n m k:Nat}(h:Low n m)(hk:k<n):Low n (m ||| 2^k):=fun j hj=>((M6 m k j).mp hj).elim (h j) fun e=>by omega
theorem Low.zero(n:Nat):Low n 0:=fun j hj=>by rw[DK]at hj;cases hj
theorem Low.lt{n m:Nat}(h:Low n m):m<2^n:=Nat.lt_pow_two_of_testBit m fun i hi=>BI.mpr fun z=>by have:=h i z;omega
structure Net(n:Nat)(A B:List Nat):Prop where
 tr:∀i j,(A.getD i 0).testBit j=true↔(B.getD j 0).testBit i=true
 lt:∀i j,(B.getD i 0).testBit j=true->i<n/\j<n
theorem MB.net{ns:List Str}{ks:List (Str×Str)}{A B:List Nat}(a:MB ns (ks.map fun k=>(k.2,k.1)) A)(b:MB ns ks B):Net ns.length A B:=by
 refine⟨fun i j=>?_,fun i j h=>?_⟩
 ·rw[a.bit,b.bit]
  constructor
  ·rintro⟨_,hk,h1,h2⟩
   obtain⟨k,hk',rfl⟩:=AK.mp hk
   exact⟨k,hk',h2,h1⟩
  ·rintro⟨k,hk,h1,h2⟩
   exact⟨_,AK.mpr ⟨k,hk,rfl⟩,h2,h1⟩
 ·obtain⟨k,_,h1,h2⟩:=(b.bit i j).mp h
  exact⟨(AG.mp h1).1,(AG.mp h2).1⟩
def StandM(n:Nat)(A B:List Nat)(m:Nat):Prop:=Low n m/\Fk B m/\∀j,m.testBit j=true->Bh n A B m j
def Fits(c b m:Nat):Prop:=(∀j,c.testBit j=true->m.testBit j=true)/\∀j,m.testBit j=true->¬b.testBit j=true
def Sub(c c':Nat):Prop:=∀j,c.testBit j=true->c'.testBit j=true
theorem Fits.mono{c c' b b' m:Nat}(h:Fits c' b' m)(hc:Sub c c')(hb:Sub b b'):Fits c b m:=⟨fun j z=>h.1 j (hc j z),fun j z y=>h.2 j z (hb j y)⟩
def Qb(n:Nat)(A B:List Nat)(c b:Nat):Prop:=(∀j,Fj B c j->b.testBit j=true)/\(∀j,Fj A c j->b.testBit j=true) /\
 ∀i j,i<n->(¬∃k,k<n/\¬b.testBit k=true/\(B.getD k 0).testBit i=true)->(B.getD i 0).testBit j=true->b.testBit j=true
theorem Ou{n:Nat}{A B:List Nat}(N:Net n A B){c b m:Nat}(h:StandM n A B m)(f:Fits c b m):(∀j,Fj B c j->¬m.testBit j=true)/\(∀j,Fj A c j->¬m.testBit j=true) /\
  ∀i j,i<n->(¬∃k,k<n/\¬b.testBit k=true/\(B.getD k 0).testBit i=true)->(B.getD i 0).testBit j=true->¬m.testBit j=true:=by
 obtain⟨lo,qu,kp⟩:=h
 refine⟨fun j ⟨k,hk,e⟩ z=>qu k j (f.1 k hk) z e,fun j ⟨k,hk,e⟩ z=>qu j k z (f.1 k hk) ((N.tr k j).mp e),fun i j hi nk e z=>?_⟩
 obtain⟨k,hk,e'⟩:=(kp j z).2 i ((N.tr j i).mpr e)
 exact nk ⟨k,lo k hk,f.2 k hk,e'⟩
theorem o0{n:Nat}{A B:List Nat}(N:Net n A B){c b:Nat}(lo:Low n c)(s:Qb n A B c b)(dis:∀j,c.testBit j=true->¬b.testBit j=true)(all:∀j,j<n->c.testBit j=true\/b.testBit j=true):StandM n A B c:=by
 obtain⟨s1,s2,s3⟩:=s
 refine⟨lo,fun i j hi hj e=>dis j hj (s1 j ⟨i,hi,e⟩),fun j hj=>⟨lo j hj,fun x hx=>?_⟩⟩
 have hx':=(N.tr j x).mp hx
 by_cases hh:Fj B c x
 ·exact hh
 ·refine absurd (s3 x j (N.lt x j hx').1 (fun⟨k,hk,nb,e⟩=>hh ⟨k,(all k hk).resolve_right nb,e⟩) hx') (dis j hj)
theorem Gz{n c b m:Nat}(lo:Low n m)(all:∀j,j<n->c.testBit j=true\/b.testBit j=true)(f:Fits c b m):m=c:=CP fun j=>by
 rw[CK]
 exact⟨fun h=>(all j (lo j h)).resolve_right (f.2 j h),f.1 j⟩
theorem fits_or{c b m k:Nat}:Fits (c ||| 2^k) b m↔Fits c b m/\m.testBit k=true:=by
 constructor
 ·rintro⟨h1,h2⟩
  exact⟨⟨fun j z=>h1 j (by rw[BR,z];rfl),h2⟩,h1 k (by rw[BR,FP,Bool.or_true])⟩
 ·rintro⟨⟨h1,h2⟩,h3⟩
  exact⟨fun j z=>((M6 c k j).mp z).elim (h1 j) fun e=>e▸h3,h2⟩
theorem fits_bar{c b m k:Nat}:Fits c (b ||| 2^k) m↔Fits c b m/\¬m.testBit k=true:=by
 constructor
 ·rintro⟨h1,h2⟩
  exact⟨⟨h1,fun j z y=>h2 j z (by rw[BR,y];rfl)⟩,fun z=>h2 k z (by rw[BR,FP,Bool.or_true])⟩
 ·rintro⟨⟨h1,h2⟩,h3⟩
  exact⟨h1,fun j z y=>((M6 b k j).mp y).elim (h2 j z) fun e=>h3 (e▸z)⟩
def und(n c b:Nat):Nat:=(List.range n).countP fun i=>!c.testBit i&&!b.testBit i
theorem Mw{n c c' b b':Nat}(hc:Sub c c')(hb:Sub b b'):und n c' b'<=und n c b:=List.countP_mono_left fun i _ h=>by
 rw[BP,DZ,DZ]at h⊢
 exact⟨BI.mpr fun z=>BI.mp h.1 (hc i z),BI.mpr fun z=>BI.mp h.2 (hb i z)⟩
theorem Kc{n c c' b b' k:Nat}(hc:Sub c c')(hb:Sub b b')(hk:k<n)(h0:¬c.testBit k=true/\¬b.testBit k=true)(h1:c'.testBit k=true\/b'.testBit k=true):und n c' b' < und n c b:=by
 unfold und
 have hm:=B_.mpr hk
 obtain⟨l1,l2,e⟩:=List.append_of_mem hm
 rw[e,List.countP_append,List.countP_append,List.countP_cons,List.countP_cons]
 have m1:=fun l:List Nat=>List.countP_mono_left (l:=l) (p:=fun i=>!c'.testBit i&&!b'.testBit i) (q:=fun i=>!c.testBit i&&!b.testBit i) fun i _ h=>by
  rw[BP,DZ,DZ]at h⊢
  exact⟨BI.mpr fun z=>BI.mp h.1 (hc i z),BI.mpr fun z=>BI.mp h.2 (hb i z)⟩
 have a1:=m1 l1
 have a2:=m1 l2
 have x1:(!c'.testBit k&&!b'.testBit k)=false:=by
  rcases h1 with h | h<;>rw[h]<;>simp
 have x2:(!c.testBit k&&!b.testBit k)=true:=by
  rw[BI.mpr h0.1,BI.mpr h0.2];rfl
 rw[x1,x2,AJ (by decide),AQ rfl]
 omega
def chs:Nat->List (List Nat)
 | 0=>[[0]]
 | n+1=>((chs n).flatMap fun c=>[c ++(c.getLast?.map fun m=>m ||| 2^n).toList,c.dropLast.map fun m=>m ||| 2^n]).filter fun c=>!c.isEmpty
theorem Bg:∀n m,Low n m->∃c∈chs n,m∈c
 | 0,m,h=>⟨[0],AD.mpr rfl,by
  have:m=0:=CP fun j=>by rw[DK];exact BI.mpr fun z=>absurd (h j z) (Nat.not_lt_zero _)
  rw[this];exact AD.mpr rfl⟩
 | n+1,m,h=>by
  have put:∀c d,c∈chs n->d∈[c ++(c.getLast?.map fun m=>m ||| 2^n).toList,c.dropLast.map fun m=>m ||| 2^n]->m∈d->∃c∈chs (n+1),m∈c:=fun c d hc hd hm=>by
   refine⟨d,AL.mpr ⟨List.mem_flatMap.mpr ⟨c,hc,hd⟩,?_⟩,hm⟩
   cases d with
   | nil=>exact absurd hm BK
   | cons _ _=>rfl
  by_cases cn:m.testBit n=true
  ·have lo:Low n (m % 2^n):=fun j z=>by
    rw[Nat.testBit_mod_two_pow,BP,AY]at z
    exact z.1
   have e:m % 2^n ||| 2^n=m:=CP fun j=>by
    rw[BR,Nat.testBit_mod_two_pow,EW,CK,CD,BP,AY,AY]
    constructor
    ·rintro(⟨_,z⟩ | rfl)
     ·exact z
     ·exact cn
    ·intro z
     by_cases cj:j<n
     ·exact .inl ⟨cj,z⟩
     ·have:=h j z
      exact .inr (by omega)
   obtain⟨c,hc,hm⟩:=Bg n _ lo
   have ne:c≠[]:=fun z=>by rw[z]at hm;exact absurd hm BK
   rw[<-List.dropLast_concat_getLast ne]at hm
   rcases AV.mp hm with hm | hm
   ·exact put c _ hc (AM _ (AD.mpr rfl)) (AK.mpr ⟨_,hm,e⟩)
   ·refine put c _ hc (AU ..) (BV _ ?_)
    rw[List.getLast?_eq_getLast ne]
    rw[AD]at hm
    rw[hm]at e
    simp only[FW,Option.toList_some,AD]
    exact e.symm
  ·have lo:Low n m:=fun j z=>by
    have:=h j z
    rcases Nat.lt_or_ge j n with y | y
    ·exact y
    ·exact absurd (show m.testBit n=true by rw[show n=j by omega];exact z) cn
   obtain⟨c,hc,hm⟩:=Bg n m lo
   exact put c _ hc (AU ..) (FM _ hm)
theorem Zp{a b n:Nat}(h:Sub a b):Sub (a ||| 2^n) (b ||| 2^n):=fun j z=>by
 rw[BR,CD]at z⊢
 exact z.imp (h j) id
theorem Lm:∀n,∀c∈chs n,c.Pairwise Sub
 | 0,c,h=>by rw[AD.mp h];exact DP _ _
 | n+1,d,h=>by
  obtain⟨c,hc,hd⟩:=List.mem_flatMap.mp (AL.mp h).1
  have ih:=Lm n c hc
  rcases BD.mp hd with rfl | hd
  ·refine BZ.mpr ⟨ih,?_,fun a ha b hb=>?_⟩
   ·cases c.getLast?<;>simp
   ·cases hl:c.getLast? with
    | none=>rw[hl]at hb;simp at hb
    | some l =>
     rw[hl]at hb
     simp only[FW,Option.toList_some,AD]at hb
     subst hb
     have ne:c≠[]:=fun z=>by rw[z]at ha;exact absurd ha BK
     have el:c.getLast ne=l:=by rw[List.getLast?_eq_getLast ne]at hl;exact BH hl
     have sl:Sub a l:=by
      rw[<-List.dropLast_concat_getLast ne,el]at ha ih
      rcases AV.mp ha with ha | ha
      ·exact(BZ.mp ih).2.2 a ha l (AD.mpr rfl)
      ·rw[AD.mp ha];exact fun j z=>z
     exact fun j z=>by rw[BR,sl j z];rfl
  ·rw[AD.mp hd]
   exact CB.mpr ((ih.sublist (List.dropLast_sublist c)).imp Zp)
theorem Hh(p:Nat->Bool):∀L:List Nat,L.length =(L.filter p).length +(L.filter fun m=>!p m).length
 | []=>rfl
 | a::L=>by
  have:=Hh p L
  rw[CH,CH]
  cases h:p a<;>simp<;>omega
theorem Vw:∀(Cs:List (List Nat)) (L:List Nat),L.Nodup->(∀m∈L,∃c∈Cs,m∈c)->(∀c∈Cs,∀a∈L,∀b∈L,a∈c->b∈c->a=b)->L.length<=Cs.length
 | [],L,_,h,_=>by
  cases L with
  | nil=>exact Nat.le_refl _
  | cons a _=>obtain⟨_,z,_⟩:=h a (AU ..);exact absurd z BK
 | c::Cs,L,nd,h,one=>by
  have ih:=Vw Cs (L.filter fun m=>!decide (m∈c)) (nd.sublist BT) (fun m hm=>by
   obtain⟨h1,h2⟩:=AL.mp hm
   obtain⟨d,hd,hmd⟩:=h m h1
   rcases BD.mp hd with rfl | hd
   ·rw[AH hmd]at h2;cases h2
   ·exact⟨d,hd,hmd⟩) fun d hd a ha b hb=>one d (AM _ hd) a (AL.mp ha).1 b (AL.mp hb).1
  have le1:(L.filter fun m=>decide (m∈c)).length<=1:=by
   have nd':=nd.sublist (BT (p:=fun m=>decide (m∈c)))
   match e:L.filter (fun m=>decide (m∈c)),nd' with
   | [],_=>exact CA _
   | [_],_=>exact Nat.le_refl _
   | a::b::r,nd' =>
    have ha:a∈L.filter (fun m=>decide (m∈c)):=by rw[e];exact AU ..
    have hb:b∈L.filter (fun m=>decide (m∈c)):=by rw[e];exact AM _ (AU ..)
    have:=one c (AU ..) a (AL.mp ha).1 b (AL.mp hb).1 (AW (AL.mp ha).2) (AW (AL.mp hb).2)
    exact absurd (this▸AU ..) (DB.mp nd').1
  have:=Hh (fun m=>decide (m∈c)) L
  rw[BN]
  omega
theorem Xh:∀n,n<=10->(chs n).length<=300:=by decide +kernel
theorem Tk{n:Nat}(hn:n<=10){L:List Nat}(nd:L.Nodup)(lo:∀m∈L,Low n m)(anti:∀a∈L,∀b∈L,Sub a b->a=b):L.length<=300:=by
 refine Nat.le_trans (Vw (chs n) L nd (fun m hm=>Bg n m (lo m hm)) fun c hc a ha b hb h1 h2=>?_) (Xh n hn)
 obtain⟨i,hi,ei⟩:=EG h1
 obtain⟨j,hj,ej⟩:=EG h2
 have pw:=DV.mp (Lm n c hc)
 rcases Nat.lt_trichotomy i j with z | z | z
 ·have:=pw i j hi hj z
  rw[ei,ej]at this
  exact anti a ha b hb this
 ·subst z;rw[<-ei,<-ej]
 ·have:=pw j i hj hi z
  rw[ei,ej]at this
  exact(anti b hb a ha this).symm
theorem Jp(m i:Nat):((Builtin.bitAnd ((2^i:Nat):Int) (m:Int)) != 0)=m.testBit i:=by
 rw[zAo]
 have e:(2^i &&& m)=if m.testBit i=true then 2^i else 0:=CP fun j=>by
  rw[EI,EW]
  by_cases h:m.testBit i=true
  ·rw[AQ h,EW]
   by_cases c:i=j
   ·subst c;rw[h,Bool.and_true]
   ·rw[A_ c,DQ]
  ·rw[AJ h,DK]
   by_cases c:i=j
   ·subst c;rw[BI.mpr h,GE]
   ·rw[A_ c,DQ]
 rw[e]
 have p:0<2^i:=Nat.pow_pos (by decide)
 by_cases h:m.testBit i=true
 ·rw[AQ h,h,bne_iff_ne]
  omega
 ·rw[AJ h,BI.mpr h];rfl
theorem Yq(x y:Nat)(h:∀j,y.testBit j=true->x.testBit j=true):∃z:Nat,Builtin.bitXor (x:Int) (y:Int) =(z:Int)/\∀j,z.testBit j=true↔x.testBit j=true/\¬y.testBit j=true:=by
 have hz:∀j,(x ^^^ y).testBit j=true↔x.testBit j=true/\¬y.testBit j=true:=fun j=>by
  rw[Nat.testBit_xor]
  cases hx:x.testBit j<;>cases hy:y.testBit j<;>simp
  exact absurd (h j hy) (by rw[hx];decide)
 refine⟨x ^^^ y,?_,hz⟩
 have e:(x ^^^ y)+y=x:=CP fun j=>by
  rw[Ol j _ _ fun i z=>((hz i).mp z).2,CK,CD,hz]
  exact⟨fun z=>z.elim (·.1) (h j),fun z=>by by_cases c:y.testBit j=true<;>simp[z,c]⟩
 have a:x &&& y=y:=CP fun j=>by
  rw[EI,CK,BP]
  exact⟨(·.2),fun z=>⟨h j z,z⟩⟩
 rw[PyProof.Rows.bitXor_and,zAo,a]
 omega
def bK(M:List Nat)(n:Nat):List (Key×V):=(List.range n).map fun i=>((Sum.inl ((2^i:Nat):Int):Key),M8 (M.getD i 0))
theorem Pp{i j:Nat}(h:((2^i:Nat):Int) =((2^j:Nat):Int)):i=j:=(Nat.pow_right_inj (by decide)).mp (Int.ofNat_inj.mp h)
theorem Mb(M:List Nat):∀{n i:Nat},i<n->U5 (bK M n) (.inl ((2^i:Nat):Int))=some (M8 (M.getD i 0))
 | n+1,i,h=>by
  unfold U5 bK
  rw[EH,AR,List.find?_append]
  by_cases c:i<n
  ·have ih:=Mb M c
   unfold U5 bK at ih
   cases e:(List.find? (fun kv:Key×V=>decide (kv.1=Sum.inl ((2^i:Nat):Int))) ((List.range n).map fun i=>((Sum.inl ((2^i:Nat):Int):Key),M8 (M.getD i 0))))with
   | none=>rw[e]at ih;cases ih
   | some q=>rw[e]at ih;rw[Option.some_or];exact ih
  ·have e:i=n:=by omega
   subst e
   rw[List.find?_eq_none.mpr fun q hq z=>?_,Option.none_or]
   ·rw[BG,ET,AH rfl];rfl
   ·obtain⟨k,hk,rfl⟩:=AK.mp hq
    have:=Pp (Sum.inl.inj (AW z))
    have:=B_.mp hk
    omega
def mf(a b c d:Addr)(n L:Nat):List (Str×V):=[("names",.ref a),("full",M8 (2^n-1)),("bit_of",.ref b),("strikers_of",.ref c),("struck_of",.ref d),("loops",M8 L)]
structure MarksAt(C:Addr)(H:Hp)(x c:Addr)(ns:List Str)(A B:List Nat)(L:Nat):Prop where
 ex:∃dx a b d kb,H x=some (.ins C dx (mf a b c d ns.length L))/\H a=some (.lst (ns.map V.str))/\Rd H b (.dK kb)/\(∀i n,ns[i]?=some n->U5 kb (.inr n)=some (M8 (2^i)))/\Rd H c (.dK (bK A ns.length))/\H d=some (.dK (bK B ns.length))/\d≠c/\b≠c
 net:Net ns.length A B
 nd:ns.Nodup
 len:ns.length<=100
 loops:∀j,L.testBit j=true↔(A.getD j 0).testBit j=true
theorem Ti{H:Hp}{a c:Addr}{kvs:List (Key×V)}{o:HO}(r:Rd H c (.dK kvs))(h:H a=some o)(n1:∀kvs,o≠ .dK kvs)(n2:∀ob u,o≠ .frz ob u):a≠c:=by
 rintro rfl
 rcases r with r | ⟨ob,r⟩
 ·rw[h]at r;exact n1 _ (BH r)
 ·rw[h]at r;exact n2 _ _ (BH r)
theorem zDe{H H':Hp}{b c:Addr}{u:HO}(r:Rd H b u)(s:Sm [c] H H')(n:b≠c):Rd H' b u:=r.imp (fun h=>Sm1 s h n) fun⟨o,h⟩=>⟨o,Sm1 s h n⟩
theorem MarksAt.fz{C:Addr}{H H':Hp}{x c:Addr}{ns:List Str}{A B:List Nat}{L:Nat}(h:MarksAt C H x c ns A B L)(s:Sm [c] H H')(r:Rd H' c (.dK (bK A ns.length))):MarksAt C H' x c ns A B L:=by
 obtain⟨⟨dx,a,b,d,kb,e1,e2,e3,e4,e5,e6,n1,n2⟩,h1,h2,h3,h4⟩:=h
 exact⟨⟨dx,a,b,d,kb,Sm1 s e1 (Ti e5 e1 (fun _ z=>by cases z) fun _ _ z=>by cases z),Sm1 s e2 (Ti e5 e2 (fun _ z=>by cases z) fun _ _ z=>by cases z),zDe e3 s n2,e4,r,Sm1 s e6 n1,n1,n2⟩,h1,h2,h3,h4⟩
theorem MarksAt.same{C:Addr}{H H':Hp}{x c:Addr}{ns:List Str}{A B:List Nat}{L:Nat}(h:MarksAt C H x c ns A B L)(s:Same H H'):MarksAt C H' x c ns A B L :=
 h.fz s.sm (let⟨_,_,_,_,_,_,_,_,_,e5,_⟩:=h.ex;e5.imp (s _ _) fun⟨o,e⟩=>⟨o,s _ _ e⟩)
def V4(m i:Nat):List Nat:=(List.range i).filter fun k=>m.testBit k
theorem Ax(m i:Nat):V4 m (i+1)=V4 m i++if m.testBit i=true then [i]else []:=by
 unfold V4
 rw[EH,DR,CH,FY]
theorem Ce(m i:Nat):(V4 m i).length<=i:=Nat.le_trans (BL ..) (by rw[BX];exact Nat.le_refl _)
section
variable{P:Program}{w:World}{K:PySem.W.Frag}{mg:Str->Option Value}{base:Heap}
theorem T1:FnScope ["self", "some"] ["self", "some"] (B6 s_Marks_bits_in):=⟨rfl,rfl,rfl,by decide +kernel,rfl,by decide +kernel,by decide +kernel⟩
def l5(C:Addr):Sp:=fun vs H Q _=>∃(x c:Addr) (ns:List Str) (A B:List Nat) (L m:Nat),vs = [.ref x,.int (m:Int)]/\MarksAt C H x c ns A B L/\∀l H',H l=none->Sm [c] H H'->MarksAt C H' x c ns A B L->H' l=some (.lst ((V4 m ns.length).map fun k=>M8 (2^k)))->Q (.ref l) H'
theorem T5(T:Tx K mg):FnOk P w K mg base CX0 1 T.mMarks_bits_in.f T.mMarks_bits_in.fd ["self", "some"] (l5 T.CMarks):=by
 have sc:=T1
 refine T.mMarks_bits_in.F.ok T1 (fun vs H Q E h=>?_) (fun cdv A outer s H vs Q E hr h=>?_)
 ·obtain⟨x,c,ns,A,B,L,m,rfl,_⟩:=h
  rfl
 ·obtain⟨x,c,ns,A,B,L,m,rfl,hM,q⟩:=h
  obtain⟨dx,a,b,d,kb,e1,e2,e3,e4,e5,e6,n1,n2⟩:=hM.ex
  have ln:=hM.len
  refine⟨_,(B3 (B9 (J5 (N':=["bit", "some"]) (cap:=[none,some 1]) (cl:=[("some",_)]) (E8 ⟨⟨rfl,rfl,rfl,rfl⟩,trivial⟩ ⟨rfl,trivial⟩) rfl (Wq (peF K (pv 0))) (fun _ _ _ _=>by exact⟨(pgC 0),(K4 (ptV K (D9 X0 (pv 0) (pv 1)))),(pv 0)⟩)))),?_⟩
  refine ex1 rfl ⟨x,T.CMarks,dx,_,ex1 rfl ⟨e1,T.clMarks,T.nMarks_strikers_of,rfl,c,_,rfl,e5,fun o D hD=>?_⟩⟩
  have hDc:D≠c:=fun z=>by rw[z,A9]at hD;cases hD
  have kz:Sm [c] H (upd H c (.frz o (.dK (bK A ns.length)))):=(Sm.refl _ _).upd (by simp)
  have rz:Rd (upd H c (.frz o (.dK (bK A ns.length)))) c (.dK (bK A ns.length)):=.inr ⟨o,A9⟩
  have fz:(upd H c (.frz o (.dK (bK A ns.length)))) c=some (.frz o (.dK (bK A ns.length))):=A9
  have hD0:H D=none:=by rw[B7 hDc]at hD;exact hD
  have M1:=hM.fz kz rz
  generalize upd H c (.frz o (.dK (bK A ns.length)))=H1 at hD kz rz fz M1⊢
  have lb:(bK A ns.length).length=ns.length:=by unfold bK;rw[AB,BX]
  refine Hd (n:=ns.length) (fun i σ G=>(∃v0,σ = [v0,some (.int (m:Int))])/\Same H1 G/\G D=some (.lst ((V4 m i).map fun k=>M8 (2^k)))) ⟨⟨_,rfl⟩,Same.new hD,A9⟩ ?_ ?_ ?_ ?_
  ·rintro i σ G hi ⟨_,sG,_⟩
   exact⟨sG _ _ fz,by rw[lb];exact hi⟩
  ·rintro σ G ⟨_,sG,_⟩
   exact⟨sG _ _ fz,by rw[lb];exact Nat.le_refl _⟩
  ·rintro i σ G y H' N hi ⟨⟨v0,rfl⟩,sG,eG⟩ ⟨rfl,k,v,hk,rfl⟩ hN
   unfold bK at hk
   rw[AI,List.getElem?_range hi]at hk
   obtain⟨rfl,rfl⟩:=Prod.mk.inj (BH hk)
   refine ex1 rfl (ex1 rfl (C1 rfl rfl ⟨_,rfl,?_⟩))
   dsimp only
   rw[Jp]
   have hl:=Ce m i
   refine U4 (fun z=>ex1 rfl ⟨_,eG,by rw[AB,sizeLine_eq];omega,hN _ _ ⟨⟨_,rfl⟩,sG.upd hD,?_⟩⟩) (fun z=>hN _ _ ⟨⟨_,rfl⟩,sG,?_⟩)
   ·rw[A9,Ax,AQ z,AR];rfl
   ·rw[Ax,AJ z,CI];exact eG
  ·rintro σ G ⟨_,sG,eG⟩
   exact q D G hD0 (kz.trans sG.sm) (M1.same sG) eG
end
theorem Uy{α:Type}{J:It}{ys:List α}{r:α->V}(f:α->V){a D:Addr}{H:Hp}(as:AsSeq J (ys.map r) a H){tc:TT}{te:TE}{c:St}{v0:Option V}{Q:St->Hp->Prop}(p:α->Bool)(len:ys.length<=5000)(hD:H D=none)
  (ht:∀y∈ys,∀G,Same H G->∀M:Bool->Hp->Prop,(∀G',Same G G'->M (p y) G')->tc (some (r y)::c) G M) (he:∀y∈ys,∀G,Same H G->∀M:VK,(∀G',Same G G'->M (f y) G')->te (some (r y)::c) G M)
  (q:∀σ G,Same H G->G D=some (.lst ((ys.filter p).map f))->Q σ G):Ea (Q6 0) tc (p9 D te) J (v0::c) (upd H D (.lst [])) Q:=by
 refine O8 as (fun i σ G=>(∃v,σ=v::c)/\Same H G/\G D=some (.lst (((ys.take i).filter p).map f))) ⟨⟨_,rfl⟩,Same.new hD,A9⟩ (fun i σ G _ h=>h.2.1.at a) ?_ ?_
 ·rintro i σ G v N hx ⟨⟨v0,rfl⟩,sG,eG⟩ hN
  rw[AI]at hx
  obtain⟨y,hy,rfl⟩:=BS.mp hx
  have my:=BJ hy
  refine ht y my G sG _ fun G' s'=>?_
  have eG:=s' _ _ eG
  have sG:=sG.trans s'
  have hs:(ys.take (i+1)).filter p =(ys.take i).filter p++if p y=true then [y]else []:=by
   rw[take_succ hy,DR,CH,FY]
  have hl:=BL p (ys.take i)
  rw[AS]at hl
  refine U4 (fun c=>he y my G' sG _ fun G2 s2=>⟨_,s2 _ _ eG,by rw[AB,sizeLine_eq];omega,hN _ _ ⟨⟨_,rfl⟩,(sG.trans s2).upd hD,?_⟩⟩) (fun c=>hN _ _ ⟨⟨_,rfl⟩,sG,?_⟩)
  ·rw[A9,hs,AQ c,AR];rfl
  ·rw[hs,AJ c,CI];exact eG
 ·rintro σ G ⟨_,sG,eG⟩
  rw[AB,CG]at eG
  exact q σ G sG eG
theorem Gm{α:Type}{J:It}{ys:List α}{r:α->V}(f:α->V){a D:Addr}{H:Hp}(as:AsSeq J (ys.map r) a H){tc:TT}{te:TE}{c:St}{v0:Option V}{Q:St->Hp->Prop}(p:α->Bool)(len:ys.length<=5000)(hD:H D=none)
  (ht:∀y∈ys,∀G,Same H G->∀M:Bool->Hp->Prop,(∀G',Same G G'->M (p y) G')->tc (some (r y)::c) G M) (he:∀y∈ys,∀G,Same H G->∀M:VK,M (f y) G->te (some (r y)::c) G M)
  (q:∀σ G,Same H G->G D=some (.lst ((ys.filter p).map f))->Q σ G):Ea (Q6 0) tc (p9 D te) J (v0::c) (upd H D (.lst [])) Q :=
 Uy f as p len hD ht (fun y hy G s M hM=>he y hy G s M (hM G fun b o e=>e)) q
theorem mem_bitsTo{m n k:Nat}:k∈V4 m n↔k<n/\m.testBit k=true:=by
 unfold V4
 rw[AL,B_]
theorem J1(n j:Nat):(2^n-1).testBit j=true↔j<n:=by rw[Nat.testBit_two_pow_sub_one,AY]
section
variable{P:Program}{w:World}{K:PySem.W.Frag}{mg:Str->Option Value}{base:Heap}
theorem Q8:FnScope ["self", "some"] ["self", "some"] (B6 s_Marks_names_in):=⟨rfl,rfl,rfl,by decide +kernel,rfl,by decide +kernel,by decide +kernel⟩
def Y1(C:Addr):Sp:=fun vs H Q _=>∃(x c:Addr) (ns:List Str) (A B:List Nat) (L m:Nat),vs = [.ref x,.int (m:Int)]/\MarksAt C H x c ns A B L/\∀l H',H l=none->Same H H'->H' l=some (.lst ((setOf ns m).map V.str))->Q (.ref l) H'
theorem Q7(T:Tx K mg):FnOk P w K mg base CX0 1 T.mMarks_names_in.f T.mMarks_names_in.fd ["self", "some"] (Y1 T.CMarks):=by
 have sc:=Q8
 refine T.mMarks_names_in.F.ok Q8 (fun vs H Q E h=>?_) (fun cdv A outer s H vs Q E hr h=>?_)
 ·obtain⟨x,c,ns,A,B,L,m,rfl,_⟩:=h
  rfl
 ·obtain⟨x,c,ns,A,B,L,m,rfl,hM,q⟩:=h
  have hu:=z9 hr
  obtain⟨dx,a,b,d,kb,e1,e2,e3,e4,e5,e6,n1,n2⟩:=hM.ex
  have ln:=hM.len
  refine⟨_,(B3 (B9 (J5 (N':=["name", "some", "self"]) (cap:=[none,some 1,some 0]) (cl:=[("some",_),("self",_)]) (E8 ⟨⟨rfl,rfl,rfl,rfl⟩,⟨⟨rfl,rfl,rfl,rfl⟩,trivial⟩⟩ ⟨rfl,⟨rfl,trivial⟩⟩) rfl (piL K (peF K (pv 0))) (fun _ _ _ _=>by exact⟨(pgC 0),(K4 (ptV K (D9 X0 (M9 hu (peF K (pv 2)) (pv 0) (fun _ _=>rfl)) (pv 1)))),(pv 0)⟩)))),?_⟩
  refine ex1 rfl ⟨x,T.CMarks,dx,_,ex1 rfl ⟨e1,T.clMarks,T.nMarks_names,rfl,a,rfl,⟨_,SqL.of e2⟩,fun D hD=>?_⟩⟩
  refine O8 (asL (SqL.of e2)) (fun i σ G=>(∃v0,σ = [v0,some (.int (m:Int)),some (.ref x)])/\Same H G/\G D=some (.lst ((Ho ns m i).map V.str))) ⟨⟨_,rfl⟩,Same.new hD,A9⟩ (fun i σ G _ h=>h.2.1.at a) ?_ ?_
  ·rintro i σ G y N hx ⟨⟨v0,rfl⟩,sG,eG⟩ hN
   rw[AI]at hx
   obtain⟨n,hn,rfl⟩:=BS.mp hx
   have li:=(AG.mp hn).1
   have rb:Rd G b (.dK kb):=e3.imp (sG _ _) fun⟨o,e⟩=>⟨o,sG _ _ e⟩
   refine ex1 rfl ⟨x,T.CMarks,dx,_,ex1 rfl ⟨sG _ _ e1,T.clMarks,T.nMarks_bit_of,rfl,ex1 rfl ⟨b,_,rfl,.inl ⟨kb,.inr n,rb,rfl,(e4 i n hn).symm⟩,ex1 rfl (C1 rfl rfl ⟨_,rfl,?_⟩)⟩⟩⟩
   dsimp only
   rw[Jp]
   have hle:=(Bv ns m i (by omega)).length_le
   rw[AS]at hle
   refine U4 (fun z=>ex1 rfl ⟨_,eG,by rw[AB,sizeLine_eq];omega,hN _ _ ⟨⟨_,rfl⟩,sG.upd hD,?_⟩⟩) (fun z=>hN _ _ ⟨⟨_,rfl⟩,sG,?_⟩)
   ·rw[A9,j9 hn,AQ z,AR];rfl
   ·rw[j9 hn,AJ z,CI];exact eG
  ·rintro σ G ⟨_,sG,eG⟩
   rw[AB]at eG
   exact q D G hD sG eG
theorem Gf:FnScope ["sets", "whole", "one"] ["sets"] (B6 s_joined):=⟨rfl,rfl,rfl,by decide +kernel,rfl,by decide +kernel,by decide +kernel⟩
def Bt(K:PySem.W.Frag):Sp:=fun vs H Q _=>∃(l:Addr) (zs:List Nat),vs = [.ref l]/\H l=some (.lst (zs.map M8))/\∀r:Nat,(∀j,r.testBit j=true↔∃z∈zs,z.testBit j=true)->Q (.int (r:Int)) H
theorem Fm(T:Tx K mg):FnOk P w K mg base CX0 1 T.joined.f T.joined.fd ["sets"] (Bt K):=by
 have sc:=Gf
 refine T.joined.F.ok Gf (fun vs H Q E h=>?_) (fun cdv A outer s H vs Q E hr h=>?_)
 ·obtain⟨l,zs,rfl,_⟩:=h
  rfl
 ·obtain⟨l,zs,rfl,el,q⟩:=h
  refine⟨_,(B1 (C5 (i:=1) sc.nd rfl (by first | exact Or.inl rfl | exact Or.inr rfl) B8)
   (B1 (V3 PassesOwn.never rfl (piL K (pv 0)) (C7 (i:=2) sc.nd rfl (by first | exact Or.inl rfl | exact Or.inr rfl))
   (B3 (Vy (i:=1) sc.nd rfl (Or.inl rfl) (pv 2) zCh)))
   (B3 (B9 (pv 1))))),?_⟩
  refine B5 fun N0 hN0=>?_
  refine hN0 _ _ (B5 fun N1 hN1=>?_)
  refine ex1 rfl ⟨l,rfl,⟨_,SqL.of el⟩,?_⟩
  refine Au (asL (K:=K) (SqL.of el)) (fun i σ G=>G=H/\∃(r:Nat) (v2:Option V),σ = [some (.ref l),some (.int (r:Int)),v2]/\∀j,r.testBit j=true↔∃z∈zs.take i,z.testBit j=true) ⟨rfl,0,_,rfl,fun j=>by simp⟩ (fun i σ G _ h=>by rw[h.1];exact fun o e=>e) ?_ ?_
  ·rintro i σ G y hx ⟨rfl,r,v2,rfl,hr⟩ D' hD' _
   rw[AI]at hx
   obtain⟨z,hz,rfl⟩:=BS.mp hx
   refine ex1 rfl (ex1 rfl (C1 rfl rfl ?_))
   dsimp only
   rw[bor]
   refine hD' _ _ ⟨rfl,_,_,rfl,fun j=>?_⟩
   rw[BR,CD,hr,take_succ hz]
   constructor
   ·rintro(⟨z',h1,h2⟩ | h)
    ·exact⟨z',FM _ h1,h2⟩
    ·exact⟨z,BV _ (AD.mpr rfl),h⟩
   ·rintro⟨z',h1,h2⟩
    rcases AV.mp h1 with h1 | h1
    ·exact .inl ⟨z',h1,h2⟩
    ·rw[AD.mp h1]at h2;exact .inr h2
  ·rintro σ G ⟨rfl,r,v2,rfl,hr⟩
   rw[AB,CG]at hr
   exact hN1 _ _ (ex1 rfl (q r hr))
def r6(C:Addr)(f:List Nat->List Nat->List Nat):Sp:=fun vs H Q _=>∃(x c:Addr) (ns:List Str) (A B:List Nat) (L m:Nat),vs = [.ref x,.int (m:Int)]/\MarksAt C H x c ns A B L/\∀(r:Nat) H',Sm [c] H H'->MarksAt C H' x c ns A B L->(∀j,r.testBit j=true↔Fj (f A B) m j)->Q (.int (r:Int)) H'
theorem Sh{n m r:Nat}{M:List Nat}(lt:∀k j,(M.getD k 0).testBit j=true->k<n)(h:∀j,r.testBit j=true↔∃z∈(V4 m n).map (fun k=>M.getD k 0),z.testBit j=true)(j:Nat):r.testBit j=true↔Fj M m j:=by
 rw[h]
 constructor
 ·rintro⟨z,hz,e⟩
  obtain⟨k,hk,rfl⟩:=AK.mp hz
  exact⟨k,(mem_bitsTo.mp hk).2,e⟩
 ·rintro⟨k,hk,e⟩
  exact⟨_,AK.mpr ⟨k,mem_bitsTo.mpr ⟨lt k j e,hk⟩,rfl⟩,e⟩
theorem Q3:FnScope ["self", "some"] ["self", "some"] (B6 s_Marks_struck_by):=⟨rfl,rfl,rfl,by decide +kernel,rfl,by decide +kernel,by decide +kernel⟩
theorem K3(T:Tx K mg):FnOk P w K mg base CX0 2 T.mMarks_struck_by.f T.mMarks_struck_by.fd ["self", "some"] (r6 T.CMarks fun _ B=>B):=by
 have G_Marks_bits_in:FnOk P w K mg base CX0 1 T.mMarks_bits_in.f T.mMarks_bits_in.fd ["self", "some"] (l5 T.CMarks):=T5 T
 have G_joined:FnOk P w K mg base CX0 1 T.joined.f T.joined.fd ["sets"] (Bt K):=Fm T
 have sc:=Q3
 refine T.mMarks_struck_by.F.ok Q3 (fun vs H Q E h=>?_) (fun cdv A outer s H vs Q E hr h=>?_)
 ·obtain⟨x,c,ns,A,B,L,m,rfl,_⟩:=h
  rfl
 ·obtain⟨x,c,ns,A,B,L,m,rfl,hM,q⟩:=h
  have hu:=z9 hr
  obtain⟨dx,a,b,d,kb,e1,_⟩:=hM.ex
  have ln:=hM.len
  refine⟨_,(B3 (B9 (C6 T.joined G_joined (hr.mono (by decide)) (A8 (J5 (N':=["bit", "self"]) (cap:=[none,some 0]) (cl:=[("self",_)]) (E8 ⟨⟨rfl,rfl,rfl,rfl⟩,trivial⟩ ⟨rfl,trivial⟩) rfl (piL K (G0 (pv 0) T.clMarks T.mMarks_bits_in.m G_Marks_bits_in (hr.mono (by decide)) T.mMarks_bits_in.b .nil K6 (A8 (pv 1) B2))) (fun _ _ _ _=>by exact⟨(pgC 0),C8,(M9 hu (peF K (pv 1)) (pv 0) (fun _ _=>rfl))⟩)) B2)))),?_⟩
  refine ex1 rfl ⟨x,dx,ex1 rfl ⟨e1,rfl,ex1 rfl ⟨x,c,ns,A,B,L,m,rfl,hM,fun l H1 hl k1 M1 el=>?_⟩⟩⟩
  obtain⟨dx,a,b,d,kb,e1,e2,e3,e4,e5,e6,n1,n2⟩:=M1.ex
  refine⟨l,rfl,⟨_,SqL.of el⟩,fun D hD=>?_⟩
  refine Gm (fun k=>M8 (B.getD k 0)) (asL (SqL.of el)) (fun _=>true) (Nat.le_trans (Ce ..) (by omega)) hD (fun k hk G sG M hM=>hM G fun b o e=>e) (fun k hk G sG M hM=>?_) fun σ' G sG eG=>?_
  ·exact ex1 rfl ⟨x,T.CMarks,dx,_,ex1 rfl ⟨sG _ _ e1,T.clMarks,T.nMarks_struck_of,rfl,ex1 rfl ⟨d,_,rfl,.inl ⟨_,.inl ((2^k:Nat):Int),.inl (sG _ _ e6),rfl,(Mb B (mem_bitsTo.mp hk).1).symm⟩,hM⟩⟩⟩
  rw[DW.mpr fun _ _=>rfl]at eG
  have eG:G D=some (.lst (((V4 m ns.length).map fun k=>B.getD k 0).map M8)):=by rw[eG,CC];rfl
  refine⟨D,_,rfl,eG,fun r hr=>q r G (k1.trans sG.sm) (M1.same sG) (Sh (fun k j e=>(hM.net.lt k j e).1) hr)⟩
theorem O0:FnScope ["self", "some"] ["self", "some"] (B6 s_Marks_strikers_at):=⟨rfl,rfl,rfl,by decide +kernel,rfl,by decide +kernel,by decide +kernel⟩
theorem W2(T:Tx K mg):FnOk P w K mg base CX0 2 T.mMarks_strikers_at.f T.mMarks_strikers_at.fd ["self", "some"] (r6 T.CMarks fun A _=>A):=by
 have G_Marks_bits_in:FnOk P w K mg base CX0 1 T.mMarks_bits_in.f T.mMarks_bits_in.fd ["self", "some"] (l5 T.CMarks):=T5 T
 have G_joined:FnOk P w K mg base CX0 1 T.joined.f T.joined.fd ["sets"] (Bt K):=Fm T
 have sc:=O0
 refine T.mMarks_strikers_at.F.ok O0 (fun vs H Q E h=>?_) (fun cdv A outer s H vs Q E hr h=>?_)
 ·obtain⟨x,c,ns,A,B,L,m,rfl,_⟩:=h
  rfl
 ·obtain⟨x,c,ns,A,B,L,m,rfl,hM,q⟩:=h
  have hu:=z9 hr
  obtain⟨dx,a,b,d,kb,e1,_⟩:=hM.ex
  have ln:=hM.len
  refine⟨_,(B3 (B9 (C6 T.joined G_joined (hr.mono (by decide)) (A8 (J5 (N':=["bit", "self"]) (cap:=[none,some 0]) (cl:=[("self",_)]) (E8 ⟨⟨rfl,rfl,rfl,rfl⟩,trivial⟩ ⟨rfl,trivial⟩) rfl (piL K (G0 (pv 0) T.clMarks T.mMarks_bits_in.m G_Marks_bits_in (hr.mono (by decide)) T.mMarks_bits_in.b .nil K6 (A8 (pv 1) B2))) (fun _ _ _ _=>by exact⟨(pgC 0),C8,(M9 hu (peF K (pv 1)) (pv 0) (fun _ _=>rfl))⟩)) B2)))),?_⟩
  refine ex1 rfl ⟨x,dx,ex1 rfl ⟨e1,rfl,ex1 rfl ⟨x,c,ns,A,B,L,m,rfl,hM,fun l H1 hl k1 M1 el=>?_⟩⟩⟩
  obtain⟨dx,a,b,d,kb,e1,e2,e3,e4,e5,e6,n1,n2⟩:=M1.ex
  refine⟨l,rfl,⟨_,SqL.of el⟩,fun D hD=>?_⟩
  refine Gm (fun k=>M8 (A.getD k 0)) (asL (SqL.of el)) (fun _=>true) (Nat.le_trans (Ce ..) (by omega)) hD (fun k hk G sG M hM=>hM G fun b o e=>e) (fun k hk G sG M hM=>?_) fun σ' G sG eG=>?_
  ·exact ex1 rfl ⟨x,T.CMarks,dx,_,ex1 rfl ⟨sG _ _ e1,T.clMarks,T.nMarks_strikers_of,rfl,ex1 rfl ⟨c,_,rfl,.inl ⟨_,.inl ((2^k:Nat):Int),e5.imp (sG _ _) fun⟨o,e⟩=>⟨o,sG _ _ e⟩,rfl,(Mb A (mem_bitsTo.mp hk).1).symm⟩,hM⟩⟩⟩
  rw[DW.mpr fun _ _=>rfl]at eG
  have eG:G D=some (.lst (((V4 m ns.length).map fun k=>A.getD k 0).map M8)):=by rw[eG,CC];rfl
  refine⟨D,_,rfl,eG,fun r hr=>q r G (k1.trans sG.sm) (M1.same sG) (Sh (fun k j e=>(hM.net.lt j k ((hM.net.tr k j).mp e)).2) hr)⟩
theorem O1:FnScope ["self", "some"] ["self", "some"] (B6 s_Marks_unstruck_by):=⟨rfl,rfl,rfl,by decide +kernel,rfl,by decide +kernel,by decide +kernel⟩
def S3(C:Addr):Sp:=fun vs H Q _=>∃(x c:Addr) (ns:List Str) (A B:List Nat) (L m:Nat),vs = [.ref x,.int (m:Int)]/\MarksAt C H x c ns A B L/\∀(r:Nat) H',Sm [c] H H'->MarksAt C H' x c ns A B L->(∀j,r.testBit j=true↔j<ns.length/\¬Fj B m j)->Q (.int (r:Int)) H'
theorem J6(T:Tx K mg):FnOk P w K mg base CX0 3 T.mMarks_unstruck_by.f T.mMarks_unstruck_by.fd ["self", "some"] (S3 T.CMarks):=by
 have G_Marks_struck_by:FnOk P w K mg base CX0 2 T.mMarks_struck_by.f T.mMarks_struck_by.fd ["self", "some"] (r6 T.CMarks fun _ B=>B):=K3 T
 have sc:=O1
 refine T.mMarks_unstruck_by.F.ok O1 (fun vs H Q E h=>?_) (fun cdv A outer s H vs Q E hr h=>?_)
 ·obtain⟨x,c,ns,A,B,L,m,rfl,_⟩:=h
  rfl
 ·obtain⟨x,c,ns,A,B,L,m,rfl,hM,q⟩:=h
  obtain⟨dx,a,b,d,kb,e1,_⟩:=hM.ex
  refine⟨_,(B3 (B9 (D9 Cp (peF K (pv 0)) (G0 (pv 0) T.clMarks T.mMarks_struck_by.m G_Marks_struck_by (hr.mono (by decide)) T.mMarks_struck_by.b .nil K6 (A8 (pv 1) B2))))),?_⟩
  refine ex1 rfl ⟨x,T.CMarks,dx,_,ex1 rfl ⟨e1,T.clMarks,T.nMarks_full,rfl,ex1 rfl ⟨x,dx,ex1 rfl ⟨e1,rfl,ex1 rfl ⟨x,c,ns,A,B,L,m,rfl,hM,fun r H1 k1 M1 hr=>?_⟩⟩⟩⟩⟩
  obtain⟨z,ez,hz⟩:=Yq (2^ns.length-1) r fun j hj=>by
   obtain⟨k,_,e⟩:=(hr j).mp hj
   exact(J1 _ _).mpr (hM.net.lt k j e).2
  refine⟨_,_,rfl,rfl,?_⟩
  dsimp only
  rw[ez]
  exact q z H1 k1 M1 fun j=>by rw[hz,J1,hr]
theorem w9:FnScope ["some"] ["some"] (B6 s_first_bit):=⟨rfl,rfl,rfl,by decide +kernel,rfl,by decide +kernel,by decide +kernel⟩
def Ey:Sp:=fun vs H Q _=>∃s:Nat,vs = [.int (s:Int)]/\0<s/\∀k:Nat,s.testBit k=true->Q (.int ((2^k:Nat):Int)) H
theorem u6(T:Tx K mg):FnOk P w K mg base CX0 1 T.first_bit.f T.first_bit.fd ["some"] Ey:=by
 have sc:=w9
 refine T.first_bit.F.ok w9 (fun vs H Q E h=>?_) (fun cdv A outer s H vs Q E hr h=>?_)
 ·obtain⟨s,rfl,_⟩:=h
  rfl
 ·obtain⟨s,rfl,h0,q⟩:=h
  refine⟨_,(B3 (B9 (D9 X0 (pv 0) (zCw zAk (pv 0))))),?_⟩
  refine ex1 rfl (ex1 rfl ⟨_,rfl,C1 rfl rfl ?_⟩)
  obtain⟨k,h1,h2⟩:=Wo s h0
  have e:-(s:Int)=Builtin.bitNot (((s-1:Nat)):Int):=by unfold Builtin.bitNot;omega
  have:=q k h1
  dsimp only
  rw[e,PyProof.Rows.bitAnd_not,zAo]
  have e2:(s:Int)-((s &&&(s-1):Nat):Int) =((2^k:Nat):Int):=by
   have:s &&&(s-1)<=s:=Nat.and_le_left
   omega
  rw[e2]
  exact this
def X7(C:Addr):Sp:=fun vs H Q _=>∃(x c:Addr) (ns:List Str) (A B:List Nat) (L ch ba:Nat),vs = [.ref x,.int (ch:Int),.int (ba:Int)]/\MarksAt C H x c ns A B L/\Low ns.length ch/\Low ns.length ba /\
 ∀t (ba':Nat) H',Sm [c] H H'->MarksAt C H' x c ns A B L->H' t=some (.tup [.int (ch:Int),.int (ba':Int)])->Low ns.length ba'->Sub ba ba'->(∀m,StandM ns.length A B m->Fits ch ba m->Fits ch ba' m)->Qb ns.length A B ch ba'->Q (.ref t) H'
theorem Q4:FnScope ["marks", "chosen", "barred", "safe", "more"] ["marks", "chosen", "barred"] (B6 s_settle_standing):=⟨rfl,rfl,rfl,by decide +kernel,rfl,by decide +kernel,by decide +kernel⟩
set_option maxHeartbeats 2000000 in
theorem K0(T:Tx K mg):FnOk P w K mg base CX0 4 T.settle_standing.f T.settle_standing.fd ["marks", "chosen", "barred"] (X7 T.CMarks):=by
 have G_Marks_struck_by:FnOk P w K mg base CX0 2 T.mMarks_struck_by.f T.mMarks_struck_by.fd ["self", "some"] (r6 T.CMarks fun _ B=>B):=K3 T
 have G_Marks_strikers_at:FnOk P w K mg base CX0 2 T.mMarks_strikers_at.f T.mMarks_strikers_at.fd ["self", "some"] (r6 T.CMarks fun A _=>A):=W2 T
 have G_Marks_unstruck_by:FnOk P w K mg base CX0 3 T.mMarks_unstruck_by.f T.mMarks_unstruck_by.fd ["self", "some"] (S3 T.CMarks):=J6 T
 have sc:=Q4
 refine T.settle_standing.F.ok Q4 (fun vs H Q E h=>?_) (fun cdv A outer s H vs Q E hr h=>?_)
 ·obtain⟨x,c,ns,A,B,L,ch,ba,rfl,_⟩:=h
  rfl
 ·obtain⟨x,c,ns,A,B,L,ch,ba,rfl,hM,loc,lob,q⟩:=h
  have net:=hM.net
  refine⟨_,(B3 (Ai PassesOwn.never (I9 M0) (B1 (C5 (i:=3) sc.nd rfl (by first | exact Or.inl rfl | exact Or.inr rfl) (G0 (pv 0) T.clMarks T.mMarks_unstruck_by.m G_Marks_unstruck_by (hr.mono (by decide)) T.mMarks_unstruck_by.b .nil K6 (A8 (D9 Cp (peF K (pv 0)) (pv 2)) B2)))
   (B1 (C5 (i:=4) sc.nd rfl (by first | exact Or.inl rfl | exact Or.inr rfl) (D9 n0 (D9 n0 (D9 n0 (pv 2) (G0 (pv 0) T.clMarks T.mMarks_struck_by.m G_Marks_struck_by (hr.mono (by decide)) T.mMarks_struck_by.b .nil K6 (A8 (pv 1) B2))) (G0 (pv 0) T.clMarks T.mMarks_strikers_at.m G_Marks_strikers_at (hr.mono (by decide)) T.mMarks_strikers_at.b .nil K6 (A8 (pv 1) B2))) (G0 (pv 0) T.clMarks T.mMarks_struck_by.m G_Marks_struck_by (hr.mono (by decide)) T.mMarks_struck_by.b .nil K6 (A8 (pv 3) B2))))
   (B1 (J4 (C3 j8 (pv 4) (pv 2) (F0 _)) (B3 (B9 (O6 (A8 (pv 1) (A8 (pv 2) B2))))) C4)
   (B3 (C5 (i:=2) sc.nd rfl (by first | exact Or.inl rfl | exact Or.inr rfl) (pv 4)))))))),?_⟩
  refine⟨fun k σ G=>∃(b1:Nat) (v3 v4:Option V),σ = [some (.ref x),some (.int (ch:Int)),some (.int (b1:Int)),v3,v4]/\k=2^ns.length-b1/\Low ns.length b1/\Sub ba b1/\Sm [c] H G/\MarksAt T.CMarks G x c ns A B L/\∀m,StandM ns.length A B m->Fits ch ba m->Fits ch b1 m,⟨_,ba,_,_,rfl,rfl,lob,fun j h=>h,Sm.refl _ _,hM,fun m _ h=>h⟩,?_⟩
  rintro k σ G ⟨b1,v3,v4,rfl,rfl,lo1,sub1,kG,MG,snd1⟩
  refine⟨_,rfl,Rx ⟨fun σ' G'=>∃(b2:Nat) (v3 v4:Option V),σ' = [some (.ref x),some (.int (ch:Int)),some (.int (b2:Int)),v3,v4]/\b1<b2/\Low ns.length b2/\Sub ba b2/\Sm [c] H G'/\MarksAt T.CMarks G' x c ns A B L/\∀m,StandM ns.length A B m->Fits ch ba m->Fits ch b2 m,?_,?_⟩⟩
  ·rintro σ' G' ⟨b2,v3,v4,rfl,lt,lo2,h⟩
   have:=lo2.lt
   exact⟨2^ns.length-b2,by omega,b2,_,_,rfl,rfl,lo2,h⟩
  refine B5 fun N1 hN1=>?_
  obtain⟨dx,a,b,d,kb,e1,_⟩:=MG.ex
  obtain⟨z,ez,hz⟩:=Yq (2^ns.length-1) b1 fun j hj=>(J1 _ _).mpr (lo1 j hj)
  refine ex1 rfl ⟨x,dx,ex1 rfl ⟨e1,rfl,ex1 rfl ⟨x,T.CMarks,dx,_,ex1 rfl ⟨e1,T.clMarks,T.nMarks_full,rfl,ex1 rfl (C1 rfl rfl ?_)⟩⟩⟩⟩
  dsimp only
  rw[ez]
  refine⟨x,c,ns,A,B,L,z,rfl,MG,fun sf G1 k1 M1 hsf=>?_⟩
  refine hN1 _ _ (B5 fun N2 hN2=>?_)
  obtain⟨dx,a,b,d,kb,e1,_⟩:=M1.ex
  refine ex1 rfl (ex1 rfl ⟨x,dx,ex1 rfl ⟨e1,rfl,ex1 rfl ⟨x,c,ns,A,B,L,ch,rfl,M1,fun r1 G2 k2 M2 h1=>?_⟩⟩⟩)
  refine C1 rfl rfl ?_
  dsimp only
  rw[bor]
  obtain⟨dx,a,b,d,kb,e1,_⟩:=M2.ex
  refine ex1 rfl ⟨x,dx,ex1 rfl ⟨e1,rfl,ex1 rfl ⟨x,c,ns,A,B,L,ch,rfl,M2,fun r2 G3 k3 M3 h2=>?_⟩⟩⟩
  refine C1 rfl rfl ?_
  dsimp only
  rw[bor]
  obtain⟨dx,a,b,d,kb,e1,_⟩:=M3.ex
  refine ex1 rfl ⟨x,dx,ex1 rfl ⟨e1,rfl,ex1 rfl ⟨x,c,ns,A,B,L,sf,rfl,M3,fun r3 G4 k4 M4 h3=>?_⟩⟩⟩
  refine C1 rfl rfl ?_
  dsimp only
  rw[bor]
  have k4:=kG.trans (k1.trans (k2.trans (k3.trans k4)))
  generalize hmo:(b1 ||| r1 ||| r2 ||| r3)=mo
  have hm:∀j,mo.testBit j=true↔((b1.testBit j=true\/Fj B ch j)\/Fj A ch j)\/Fj B sf j:=fun j=>by
   rw[<-hmo,BR,BR,BR,CD,CD,CD,h1,h2,h3]
  have hs3:∀j,Fj B sf j↔∃i,i<ns.length/\(¬∃k,k<ns.length/\¬b1.testBit k=true/\(B.getD k 0).testBit i=true)/\(B.getD i 0).testBit j=true:=fun j=>by
   constructor
   ·rintro⟨i,hi,e⟩
    obtain⟨hn,nh⟩:=(hsf i).mp hi
    exact⟨i,hn,fun⟨k,hk,nb,e'⟩=>nh ⟨k,(hz k).mpr ⟨(J1 _ _).mpr hk,nb⟩,e'⟩,e⟩
   ·rintro⟨i,hi,nk,e⟩
    exact⟨i,(hsf i).mpr ⟨hi,fun⟨k,hk,e'⟩=>nk ⟨k,(J1 _ _).mp ((hz k).mp hk).1,((hz k).mp hk).2,e'⟩⟩,e⟩
  refine hN2 _ _ (B5 fun N3 hN3=>?_)
  refine ex1 rfl (ex1 rfl ⟨rfl,_,rfl,U4 (fun eq=>?_) (fun ne=>?_)⟩)
  ·have eq:mo=b1:=by have:=V.int.inj (AW eq);omega
   refine ex1 rfl (ex1 rfl ⟨by show 2<=sizeLine;decide,fun t ht=>?_⟩)
   have ut:=Same.new (o:=.tup [.int (ch:Int),.int (b1:Int)]) ht
   refine q t b1 _ (k4.trans ut.sm) (M4.same ut) A9 lo1 sub1 snd1 ⟨fun j h=>?_,fun j h=>?_,fun i j hi nk e=>?_⟩
   ·rw[<-eq];exact(hm j).mpr (.inl (.inl (.inr h)))
   ·rw[<-eq];exact(hm j).mpr (.inl (.inr h))
   ·rw[<-eq];exact(hm j).mpr (.inr ((hs3 j).mpr ⟨i,hi,nk,e⟩))
  ·have ne:mo≠b1:=fun z=>ne (AH (by rw[z]))
   refine hN3 _ _ ?_
   have sb:Sub b1 mo:=fun j h=>(hm j).mpr (.inl (.inl (.inl h)))
   refine ex1 rfl ⟨mo,_,_,rfl,DX (Nat.le_of_testBit sb) (Ne.symm ne),fun j h=>?_,fun j h=>sb j (sub1 j h),k4,M4,fun m hs hf=>?_⟩
   ·rcases(hm j).mp h with((h | ⟨k,_,e⟩) | ⟨k,_,e⟩) | ⟨k,_,e⟩
    ·exact lo1 j h
    ·exact(net.lt k j e).2
    ·exact(net.lt j k ((net.tr k j).mp e)).1
    ·exact(net.lt k j e).2
   ·have f1:=snd1 m hs hf
    obtain⟨x1,x2,x3⟩:=Ou net hs f1
    refine⟨f1.1,fun j hj z=>?_⟩
    rcases(hm j).mp z with((h | h) | h) | h
    ·exact f1.2 j hj h
    ·exact x1 j h hj
    ·exact x2 j h hj
    ·obtain⟨i,hi,nk,e⟩:=(hs3 j).mp h
     exact x3 i j hi nk e hj
end
def er(H:Hp)(l:Addr):Hp:=fun b=>if b=l then none else H b
theorem Re{H:Hp}{l b:Addr}(n:b≠l):er H l b=H b:=AJ n
theorem Y6(H:Hp)(l:Addr):Same (er H l) H:=fun b o e=>by
 unfold er at e
 by_cases c:b=l
 ·rw[AQ c]at e;cases e
 ·rw[AJ c]at e;exact e
theorem Vn(H:Hp)(l:Addr)(o:HO):er (upd H l o) l=er H l:=funext fun b=>by
 unfold er
 by_cases c:b=l
 ·rw[AQ c,AQ c]
 ·rw[AJ c,AJ c,B7 c]
theorem MarksAt.er{C:Addr}{H H':Hp}{x c l:Addr}{ns:List Str}{A B:List Nat}{L:Nat}(h:MarksAt C (er H l) x c ns A B L)(k:Sm [c] H H')(h':MarksAt C H' x c ns A B L)(n:l≠c):MarksAt C (Sw.er H' l) x c ns A B L:=by
 refine h.fz (fun b o e nb=>?_) ?_
 ·have:b≠l:=fun z=>by subst z;unfold Sw.er at e;rw[AQ rfl]at e;cases e
  rw[Re this]
  exact k b o (Y6 H l b o e) nb
 ·obtain⟨_,_,_,_,_,_,_,_,_,e5,_⟩:=h'.ex
  unfold Rd
  rw[Re n.symm]
  exact e5
theorem Jz{n:Nat}(p:Nat->Prop)(h:∀m,p m->Low n m):∃Ls:List Nat,Ls.Nodup/\∀m,m∈Ls↔p m:=by
 classical
 refine⟨(List.range (2^n)).filter fun m=>decide (p m),BT.nodup GI,fun m=>?_⟩
 rw[AL,B_,AY]
 exact⟨fun z=>z.2,fun z=>⟨(h m z).lt,z⟩⟩
theorem V9(x y:Nat):((Builtin.bitAnd (x:Int) (y:Int)) != 0)=true↔∃j,x.testBit j=true/\y.testBit j=true:=by
 rw[zAo,bne_iff_ne]
 constructor
 ·intro h
  have h:x &&& y≠0:=fun z=>h (by rw[z];rfl)
  obtain⟨j,hj⟩:=Nat.exists_testBit_of_ne_zero h
  rw[EI,BP]at hj
  exact⟨j,hj⟩
 ·rintro⟨j,h1,h2⟩ z
  have e:x &&& y=0:=by omega
  have:=DK j
  rw[<-e,EI,h1,h2]at this
  cases this
section
variable{P:Program}{w:World}{K:PySem.W.Frag}{mg:Str->Option Value}{base:Heap}
abbrev Tgt:=Nat->List Nat->List Nat->Nat->Prop
def P4(C:Addr)(Tg:Tgt):Sp:=fun vs H Q _=>∃(x c:Addr) (ns:List Str) (A B:List Nat) (L ch ba:Nat),vs = [.ref x,.int (ch:Int),.int (ba:Int)]/\MarksAt C H x c ns A B L/\Low ns.length ch/\Low ns.length ba /\
 ∀t (ch' ba':Nat) H',Sm [c] H H'->MarksAt C H' x c ns A B L->H' t=some (.tup [.int (ch':Int),.int (ba':Int)])->Low ns.length ch'->Low ns.length ba'->Sub ch ch'->Sub ba ba'->(∀m,Tg ns.length A B m->Fits ch ba m->Fits ch' ba' m)->((∀j,ch'.testBit j=true->¬ba'.testBit j=true)->(∀j,j<ns.length->ch'.testBit j=true\/ba'.testBit j=true)->Tg ns.length A B ch')->Q (.ref t) H'
def i6(C f:Addr)(Tg:Tgt)(k:Nat):Sp:=fun vs H Q E=>∃(x c l:Addr) (ns:List Str) (A B:List Nat) (L ch ba:Nat) (fs:List Nat),vs = [.ref x,.ref f,.bl false,.int (ch:Int),.int (ba:Int),.ref l]/\MarksAt C (er H l) x c ns A B L/\Low ns.length ch/\Low ns.length ba/\und ns.length ch ba<=k/\H l=some (.lst (fs.map M8))/\fs.length<=300 /\
 ∀Ls:List Nat,Ls.Nodup->(∀m,m∈Ls↔Tg ns.length A B m/\Fits ch ba m)->(∀H',fs.length+Ls.length<=300->Sm [c,l] H H'->MarksAt C (er H' l) x c ns A B L->H' l=some (.lst ((fs++Ls).map M8))->Q .non H')/\(300<fs.length+Ls.length->False)
theorem g7:FnScope ["marks", "settle", "greatest", "chosen", "barred", "found", "undecided", "most", "first"] ["marks", "settle", "greatest", "chosen", "barred", "found"] (B6 s_gather):=⟨rfl,rfl,rfl,by decide +kernel,rfl,by decide +kernel,by decide +kernel⟩
set_option maxHeartbeats 4000000 in
theorem Dj(T:Tx K mg){f:Addr}{fd:FuncData}{Tg:Tgt}{n k:Nat}{S:Sp}(tl:∀n A B m,Tg n A B m->Low n m)(G_settle:FnOk P w K mg base CX0 n f fd ["marks", "chosen", "barred"] (P4 T.CMarks Tg))(hk_settle:PySem.W.keepIn K (.ref f)=true)(hb_settle:Binds K fd ["marks", "chosen", "barred"] [])
  (h1:1<=n) (G_gather:FnOk P w K mg base CX0 n T.gather.f T.gather.fd ["marks", "settle", "greatest", "chosen", "barred", "found"] S) (hS:∀k',k=k'+1->S=i6 T.CMarks f Tg k') :
  FnOk P w K mg base CX0 (n+1) T.gather.f T.gather.fd ["marks", "settle", "greatest", "chosen", "barred", "found"] (i6 T.CMarks f Tg k):=by
 have G_first_bit:FnOk P w K mg base CX0 n T.first_bit.f T.first_bit.fd ["some"] Ey:=(u6 T).mono h1
 have sc:=g7
 refine T.gather.F.ok g7 (fun vs H Q E h=>?_) (fun cdv A outer s H vs Q E hr h=>?_)
 ·obtain⟨x,c,l,ns,A,B,L,ch,ba,fs,rfl,_⟩:=h
  rfl
 ·obtain⟨x,c,l,ns,A,B,L,ch,ba,fs,rfl,hR,loc,lob,hu,el,lf,q⟩:=h
  have hM:=hR.same (Y6 H l)
  refine⟨_,(B1 (d6 (Ke (i:=1) G_settle (hr.mono (Nat.le_refl _)) hk_settle hb_settle K6 (A8 (pv 0) (A8 (pv 3) (A8 (pv 4) B2)))) (pgT K (n:=2) (C0 (C7 (i:=3) sc.nd rfl (by first | exact Or.inl rfl | exact Or.inr rfl)) (C0 (C7 (i:=4) sc.nd rfl (by first | exact Or.inl rfl | exact Or.inr rfl)) J2))))
   (B1 (J4 (ptV K (D9 X0 (pv 3) (pv 4))) (B3 o7) C4)
   (B1 (C5 (i:=6) sc.nd rfl (by first | exact Or.inl rfl | exact Or.inr rfl) (D9 Cp (peF K (pv 0)) (D9 n0 (pv 3) (pv 4))))
   (B1 (C5 (i:=7) sc.nd rfl (by first | exact Or.inl rfl | exact Or.inr rfl) (D9 n0 (pv 3) (pv 6)))
   (B1 (J4 (PW.pt (f7 (I9 (pv 2)) (U9 (I9 (E9 (Mg K) T.b_any Lb (A8 (J5 (N':=["one", "most"]) (cap:=[none,some 7]) (cl:=[("most",_)]) (E8 ⟨⟨rfl,rfl,rfl,rfl⟩,trivial⟩ ⟨rfl,trivial⟩) rfl (piL K (pv 5)) (fun _ _ _ _=>by exact⟨(pgC 0),C8,(I0 j8 (D9 X0 (pv 1) (pv 0)) (pv 1) (F0 _))⟩)) B2)))))) (B3 o7) C4)
   (B1 (J4 (K9 (ptV K (pv 6))) (B1 (J4 (C3 j8 (E9 (j7 K) T.b_len W8 (A8 (pv 5) B2)) (Wl T.gMOST) (F0 _)) (B3 Z7) C4)
   (B1 (E4 (Pz K PySem.F.plainAttrs_list PySem.F.slot_list_append PySem.F.type_list_append K8 (pv 5) (A8 (pv 3) B2)))
   (B3 o7))) C4)
   (B1 (C5 (i:=8) sc.nd rfl (by first | exact Or.inl rfl | exact Or.inr rfl) (C6 T.first_bit G_first_bit (hr.mono (Nat.le_refl _)) (A8 (pv 6) B2)))
   (B1 (E4 (C6 T.gather G_gather (hr.mono (Nat.le_refl _)) (@A8 _ _ _ _ _ (pv 0) (@A8 _ _ _ _ _ (pv 1) (@A8 _ _ _ _ _ (pv 2) (@A8 _ _ _ _ _ (D9 n0 (pv 3) (pv 8)) (@A8 _ _ _ _ _ (pv 4) (@A8 _ _ _ _ _ (pv 5) B2 (by rfl)) (by rfl)) (by rfl)) (by rfl)) (by rfl)) (by rfl))))
   (B3 (E4 (C6 T.gather G_gather (hr.mono (Nat.le_refl _)) (@A8 _ _ _ _ _ (pv 0) (@A8 _ _ _ _ _ (pv 1) (@A8 _ _ _ _ _ (pv 2) (@A8 _ _ _ _ _ (pv 3) (@A8 _ _ _ _ _ (D9 n0 (pv 4) (pv 8)) (@A8 _ _ _ _ _ (pv 5) B2 (by rfl)) (by rfl)) (by rfl)) (by rfl)) (by rfl)) (by rfl))))))))))))),?_⟩
  refine B5 fun N1 hN1=>?_
  refine⟨rfl,ex1 rfl (ex1 rfl (ex1 rfl ⟨x,c,ns,A,B,L,ch,ba,rfl,hM,loc,lob,fun t c1 b1 H1 k1 M1 et lo1 lo2 sub1 sub2 snd cpl=>?_⟩))⟩
  refine⟨t,_,rfl,SqT.of et,rfl,_,_,rfl,_,_,rfl,rfl,?_⟩
  have nlc:l≠c:=let⟨_,_,_,_,_,_,_,_,_,e5,_⟩:=hM.ex;Ti e5 el (fun _ z=>by cases z) fun _ _ z=>by cases z
  have el1:=Sm1 k1 el nlc
  have R1:=hR.er k1 M1 nlc
  have k1:Sm [c,l] H H1:=fun b o e nb=>k1 b o e fun z=>nb (BD.mpr (.inl (AD.mp z)))
  refine hN1 _ _ (B5 fun N2 hN2=>?_)
  refine ex1 rfl (ex1 rfl (C1 rfl rfl ⟨_,rfl,U4 (fun cm=>?_) (fun cm=>?_)⟩))
  ·obtain⟨j,j1,j2⟩:=(V9 c1 b1).mp cm
   have:=(q [] List.nodup_nil fun m=>⟨fun z=>absurd z BK,fun⟨z,y⟩=>absurd j2 ((snd m z y).2 j ((snd m z y).1 j j1))⟩).1 H1 (by rw[GV];omega) k1 R1 (by rw[CI];exact el1)
   exact this
  have dis:∀j,c1.testBit j=true->¬b1.testBit j=true:=fun j z y=>cm ((V9 c1 b1).mpr ⟨j,z,y⟩)
  have fit:∀m,Tg ns.length A B m/\Fits ch ba m↔Tg ns.length A B m/\Fits c1 b1 m:=fun m=>⟨fun⟨z,y⟩=>⟨z,snd m z y⟩,fun⟨z,y⟩=>⟨z,y.mono sub1 sub2⟩⟩
  refine hN2 _ _ (B5 fun N3 hN3=>?_)
  obtain⟨dx,a,b,d,kb,e1,_⟩:=M1.ex
  obtain⟨u,eu,hu2⟩:=Yq (2^ns.length-1) (c1 ||| b1) fun j hj=>by
   rw[BR,CD]at hj
   exact(J1 _ _).mpr (hj.elim (lo1 j) (lo2 j))
  have hu2:∀j,u.testBit j=true↔j<ns.length/\¬c1.testBit j=true/\¬b1.testBit j=true:=fun j=>by
   rw[hu2,J1,BR,CD,not_or]
  refine ex1 rfl ⟨x,T.CMarks,dx,_,ex1 rfl ⟨e1,T.clMarks,T.nMarks_full,rfl,ex1 rfl (ex1 rfl (C1 rfl rfl ?_))⟩⟩
  dsimp only
  rw[bor]
  refine C1 rfl rfl ?_
  dsimp only
  rw[eu]
  refine hN3 _ _ (B5 fun N4 hN4=>?_)
  refine ex1 rfl (ex1 rfl (C1 rfl rfl ?_))
  refine hN4 _ _ (B5 fun N5 hN5=>?_)
  refine ex1 rfl ⟨_,rfl,U3 (U3 ?_)⟩
  refine hN5 _ _ (B5 fun N6 hN6=>?_)
  refine ex1 rfl ⟨_,rfl,U4 (fun z0=>?_) (fun z0=>?_)⟩
  ·have u0:u=0:=by
    rw[DZ,bne_eq_false_iff_eq]at z0
    omega
   have all:∀j,j<ns.length->c1.testBit j=true\/b1.testBit j=true:=fun j hj=>by
    by_cases h:c1.testBit j=true
    ·exact .inl h
    ·by_cases h':b1.testBit j=true
     ·exact .inr h'
     ·have:=(hu2 j).mpr ⟨hj,h,h'⟩
      rw[u0,DK]at this
      cases this
   have tg:=cpl dis all
   have qq:=q [c1] (DP _ _) fun m=>by
    rw[fit,AD]
    exact⟨fun z=>by rw[z];exact⟨tg,fun j h=>h,dis⟩,fun⟨z,y⟩=>Gz (tl _ _ _ _ z) all y⟩
   have lm:(fs.map M8).length=fs.length:=AB ..
   refine B5 fun N7 hN7=>?_
   refine ex1 rfl (C1 (a:=l) rfl (.inl (SqL.of el1)) ⟨rfl,_,rfl,U4 (fun e3=>?_) (fun e3=>?_)⟩)
   ·have l300:fs.length=300:=by
     have:=V.int.inj (AW e3)
     rw[lm]at this
     omega
    exact qq.2 (by rw[F_];omega)
   ·have l300:fs.length<300:=DX lf fun z=>e3 (AH (by rw[lm,z];rfl))
    refine hN7 _ _ (B5 fun N8 hN8=>?_)
    refine ex1 rfl ⟨.inl ⟨rfl,_,SqL.of el1⟩,ex1 rfl ⟨l,_,_,rfl,rfl,el1,by rw[lm,sizeLine_eq];omega,hN8 _ _ ?_⟩⟩
    have:=qq.1 (upd H1 l (.lst (fs.map M8 ++ [.int (c1:Int)]))) (by rw[F_];omega) (k1.upd (by simp)) (by rw[Vn];exact R1) (by rw[A9,AR];rfl)
    exact this
  ·have upos:0<u:=by
    rcases Nat.eq_zero_or_pos u with h | h
    ·exact absurd (by rw[h];rfl) z0
    ·exact h
   refine hN6 _ _ (B5 fun N7 hN7=>?_)
   refine ex1 rfl ⟨u,rfl,upos,fun kk hkk=>?_⟩
   obtain⟨k0,nc,nb⟩:=(hu2 kk).mp hkk
   have ss:∀a:Nat,Sub a (a ||| 2^kk):=fun a j h=>by rw[BR,h];rfl
   have sb:∀a:Nat,(a ||| 2^kk).testBit kk=true:=fun a=>by rw[BR,FP,Bool.or_true]
   have un1:=Mw (n:=ns.length) sub1 sub2
   have un2:=Kc (n:=ns.length) (ss c1) (fun j h=>h:Sub b1 b1) k0 ⟨nc,nb⟩ (.inl (sb c1))
   have un3:=Kc (n:=ns.length) (fun j h=>h:Sub c1 c1) (ss b1) k0 ⟨nc,nb⟩ (.inr (sb b1))
   obtain⟨k',rfl⟩:∃k',k=k'+1:=⟨k-1,by omega⟩
   have hSS:=hS k' rfl
   subst hSS
   have mem:∀{L1 L2:List Nat},(∀m,m∈L1↔Tg ns.length A B m/\Fits (c1 ||| 2^kk) b1 m)->(∀m,m∈L2↔Tg ns.length A B m/\Fits c1 (b1 ||| 2^kk) m)->∀m,m∈L1++L2↔Tg ns.length A B m/\Fits ch ba m:=fun h1 h2 m=>by
    rw[fit,AV,h1,h2,fits_or,fits_bar]
    constructor
    ·rintro(⟨a,b,_⟩ | ⟨a,b,_⟩)
     ·exact⟨a,b⟩
     ·exact⟨a,b⟩
    ·rintro⟨a,b⟩
     by_cases h:m.testBit kk=true
     ·exact .inl ⟨a,b,h⟩
     ·exact .inr ⟨a,b,h⟩
   have nod:∀{L1 L2:List Nat},L1.Nodup->L2.Nodup->(∀m,m∈L1↔Tg ns.length A B m/\Fits (c1 ||| 2^kk) b1 m)->(∀m,m∈L2↔Tg ns.length A B m/\Fits c1 (b1 ||| 2^kk) m)->(L1++L2).Nodup:=fun n1 n2 h1 h2=>EE.mpr ⟨n1,n2,fun a ha b hb e=>by
    subst e
    exact(fits_bar.mp ((h2 a).mp hb).2).2 (fits_or.mp ((h1 a).mp ha).2).2⟩
   refine hN7 _ _ (B5 fun N8 hN8=>?_)
   refine ex1 rfl (ex1 rfl (ex1 rfl (ex1 rfl (ex1 rfl (C1 rfl rfl ?_)))))
   refine ex1 rfl (ex1 rfl ⟨x,c,l,ns,A,B,L,c1 ||| 2^kk,b1,fs,by dsimp only;rw[bor];rfl,R1,lo1.or k0,lo2,by omega,el1,lf,fun L1 nd1 m1=>⟨fun H2 le2 k2 M2 el2=>?_,fun gt=>?_⟩⟩)
   ·refine hN8 _ _ ?_
    refine ex1 rfl (ex1 rfl (ex1 rfl (ex1 rfl (ex1 rfl (ex1 rfl (C1 rfl rfl ?_))))))
    refine ex1 rfl ⟨x,c,l,ns,A,B,L,c1,b1 ||| 2^kk,fs++L1,by dsimp only;rw[bor];rfl,M2,lo1,lo2.or k0,by omega,el2,by rw[BA];exact le2,fun L2 nd2 m2=>⟨fun H3 le3 k3 M3 el3=>?_,fun gt=>?_⟩⟩
    ·rw[BA]at le3
     rw[BE]at el3
     exact(q (L1++L2) (nod nd1 nd2 m1 m2) (mem m1 m2)).1 H3 (by rw[BA];omega) (k1.trans (k2.trans k3)) M3 el3
    ·rw[BA]at gt
     exact((q (L1++L2) (nod nd1 nd2 m1 m2) (mem m1 m2)).2 (by rw[BA];omega))
   ·obtain⟨L2,nd2,m2⟩:=Jz (n:=ns.length) (fun m=>Tg ns.length A B m/\Fits c1 (b1 ||| 2^kk) m) fun m h=>tl _ _ _ _ h.1
    exact((q (L1++L2) (nod nd1 nd2 m1 m2) (mem m1 m2)).2 (by rw[BA];omega))
def Xe:Sp:=fun _ _ _ _=>False
theorem Kj{f:Addr}{fd:FuncData}{ps:List Str}{CX:CXT}{n:Nat}:FnOk P w K mg base CX n f fd ps Xe:=⟨fun _ _ _ _ h=>h.elim,fun _ _ _ _ _ _ _ _ _ _ _ _ _ h=>h.elim⟩
theorem Y8(T:Tx K mg){f:Addr}{fd:FuncData}{Tg:Tgt}{n:Nat}(tl:∀n A B m,Tg n A B m->Low n m)(G:FnOk P w K mg base CX0 n f fd ["marks", "chosen", "barred"] (P4 T.CMarks Tg))(hk:PySem.W.keepIn K (.ref f)=true)(hb:Binds K fd ["marks", "chosen", "barred"] [])(h1:1<=n) :
  ∀k,FnOk P w K mg base CX0 (n+1+k) T.gather.f T.gather.fd ["marks", "settle", "greatest", "chosen", "barred", "found"] (i6 T.CMarks f Tg k)
 | 0=>Dj T tl G hk hb h1 Kj fun k' e=>by omega
 | k+1=>Dj (n:=n+1+k) T tl (G.mono (by omega)) hk hb (by omega) (Y8 T tl G hk hb h1 k) fun k' e=>by cases e;rfl
theorem Gg(T:Tx K mg):FnOk P w K mg base CX0 4 T.settle_standing.f T.settle_standing.fd ["marks", "chosen", "barred"] (P4 T.CMarks StandM) :=
 (K0 T).imp fun vs H Q E h=>by
  obtain⟨x,c,ns,A,B,L,ch,ba,e,hM,loc,lob,q⟩:=h
  exact⟨x,c,ns,A,B,L,ch,ba,e,hM,loc,lob,fun t ba' H' k M et lo sub snd st=>q t ch ba' H' k M et loc lo (fun j h=>h) sub snd fun dis all=>o0 hM.net loc st dis all⟩
end
def O3(n:Nat)(A B:List Nat)(m:Nat):Prop:=StandM n A B m/\∀j,Bh n A B m j->m.testBit j=true
theorem Bm{n:Nat}{A B:List Nat}{m m' j:Nat}(s:Sub m m')(h:Bh n A B m j):Bh n A B m' j:=⟨h.1,fun b hb=>let⟨k,hk,e⟩:=h.2 b hb;⟨k,s k hk,e⟩⟩
section
variable{P:Program}{w:World}{K:PySem.W.Frag}{mg:Str->Option Value}{base:Heap}
theorem g9:FnScope ["self", "some"] ["self", "some"] (B6 s_Marks_kept):=⟨rfl,rfl,rfl,by decide +kernel,rfl,by decide +kernel,by decide +kernel⟩
def Ks(C:Addr):Sp:=fun vs H Q _=>∃(x c:Addr) (ns:List Str) (A B:List Nat) (L m:Nat),vs = [.ref x,.int (m:Int)]/\MarksAt C H x c ns A B L/\∀(r:Nat) H',Sm [c] H H'->MarksAt C H' x c ns A B L->(∀j,r.testBit j=true↔Bh ns.length A B m j)->Q (.int (r:Int)) H'
theorem Dy(T:Tx K mg):FnOk P w K mg base CX0 4 T.mMarks_kept.f T.mMarks_kept.fd ["self", "some"] (Ks T.CMarks):=by
 have G_Marks_struck_by:FnOk P w K mg base CX0 2 T.mMarks_struck_by.f T.mMarks_struck_by.fd ["self", "some"] (r6 T.CMarks fun _ B=>B):=K3 T
 have G_Marks_unstruck_by:FnOk P w K mg base CX0 3 T.mMarks_unstruck_by.f T.mMarks_unstruck_by.fd ["self", "some"] (S3 T.CMarks):=J6 T
 have sc:=g9
 refine T.mMarks_kept.F.ok g9 (fun vs H Q E h=>?_) (fun cdv A outer s H vs Q E hr h=>?_)
 ·obtain⟨x,c,ns,A,B,L,m,rfl,_⟩:=h
  rfl
 ·obtain⟨x,c,ns,A,B,L,m,rfl,hM,q⟩:=h
  obtain⟨dx,a,b,d,kb,e1,_⟩:=hM.ex
  refine⟨_,(B3 (B9 (D9 Cp (peF K (pv 0)) (G0 (pv 0) T.clMarks T.mMarks_struck_by.m G_Marks_struck_by (hr.mono (by decide)) T.mMarks_struck_by.b .nil K6 (A8 (G0 (pv 0) T.clMarks T.mMarks_unstruck_by.m G_Marks_unstruck_by (hr.mono (by decide)) T.mMarks_unstruck_by.b .nil K6 (A8 (pv 1) B2)) B2))))),?_⟩
  refine ex1 rfl ⟨x,T.CMarks,dx,_,ex1 rfl ⟨e1,T.clMarks,T.nMarks_full,rfl,ex1 rfl ⟨x,dx,ex1 rfl ⟨e1,rfl,ex1 rfl ⟨x,dx,ex1 rfl ⟨e1,rfl,ex1 rfl ⟨x,c,ns,A,B,L,m,rfl,hM,fun r1 H1 k1 M1 h1=>?_⟩⟩⟩⟩⟩⟩⟩
  refine⟨x,c,ns,A,B,L,r1,rfl,M1,fun r H2 k2 M2 hr=>?_⟩
  obtain⟨z,ez,hz⟩:=Yq (2^ns.length-1) r fun j hj=>by
   obtain⟨k,_,e⟩:=(hr j).mp hj
   exact(J1 _ _).mpr (hM.net.lt k j e).2
  refine⟨_,_,rfl,rfl,?_⟩
  dsimp only
  rw[ez]
  refine q z H2 (k1.trans k2) M2 fun j=>?_
  rw[hz,J1,hr]
  constructor
  ·rintro⟨hj,nh⟩
   refine⟨hj,fun b hb=>?_⟩
   have e:=(hM.net.tr j b).mp hb
   by_cases c:Fj B m b
   ·exact c
   ·exact absurd ⟨b,(h1 b).mpr ⟨(hM.net.lt b j e).1,c⟩,e⟩ nh
  ·rintro⟨hj,h⟩
   exact⟨hj,fun⟨k,hk,e⟩=>((h1 k).mp hk).2 (h k ((hM.net.tr j k).mpr e))⟩
theorem U2:FnScope ["marks", "chosen", "barred", "more"] ["marks", "chosen", "barred"] (B6 s_settle_whole):=⟨rfl,rfl,rfl,by decide +kernel,rfl,by decide +kernel,by decide +kernel⟩
set_option maxHeartbeats 2000000 in
theorem U1(T:Tx K mg):FnOk P w K mg base CX0 5 T.settle_whole.f T.settle_whole.fd ["marks", "chosen", "barred"] (P4 T.CMarks O3):=by
 have G_settle_standing:FnOk P w K mg base CX0 4 T.settle_standing.f T.settle_standing.fd ["marks", "chosen", "barred"] (X7 T.CMarks):=K0 T
 have G_Marks_kept:FnOk P w K mg base CX0 4 T.mMarks_kept.f T.mMarks_kept.fd ["self", "some"] (Ks T.CMarks):=Dy T
 have sc:=U2
 refine T.settle_whole.F.ok U2 (fun vs H Q E h=>?_) (fun cdv A outer s H vs Q E hr h=>?_)
 ·obtain⟨x,c,ns,A,B,L,ch,ba,rfl,_⟩:=h
  rfl
 ·obtain⟨x,c,ns,A,B,L,ch,ba,rfl,hM,loc,lob,q⟩:=h
  have net:=hM.net
  refine⟨_,(B3 (Ai PassesOwn.never (I9 M0) (B1 (d6 (C6 T.settle_standing G_settle_standing (hr.mono (by decide)) (A8 (pv 0) (A8 (pv 1) (A8 (pv 2) B2)))) (pgT K (n:=2) (C0 (C7 (i:=1) sc.nd rfl (by first | exact Or.inl rfl | exact Or.inr rfl)) (C0 (C7 (i:=2) sc.nd rfl (by first | exact Or.inl rfl | exact Or.inr rfl)) J2))))
   (B1 (C5 (i:=3) sc.nd rfl (by first | exact Or.inl rfl | exact Or.inr rfl) (D9 n0 (pv 1) (G0 (pv 0) T.clMarks T.mMarks_kept.m G_Marks_kept (hr.mono (by decide)) T.mMarks_kept.b .nil K6 (A8 (pv 1) B2))))
   (B1 (J4 (PW.pt (Cn (C3 j8 (pv 3) (pv 1) (F0 _)) (W3 (ptV K (D9 X0 (pv 1) (pv 2)))))) (B3 (B9 (O6 (A8 (pv 1) (A8 (pv 2) B2))))) C4)
   (B3 (C5 (i:=1) sc.nd rfl (by first | exact Or.inl rfl | exact Or.inr rfl) (pv 3)))))))),?_⟩
  refine⟨fun k σ G=>∃(c1 b1:Nat) (v3:Option V),σ = [some (.ref x),some (.int (c1:Int)),some (.int (b1:Int)),v3]/\k=2^ns.length-c1/\Low ns.length c1/\Low ns.length b1/\Sub ch c1/\Sub ba b1/\Sm [c] H G/\MarksAt T.CMarks G x c ns A B L/\∀m,O3 ns.length A B m->Fits ch ba m->Fits c1 b1 m,⟨_,ch,ba,_,rfl,rfl,loc,lob,fun j h=>h,fun j h=>h,Sm.refl _ _,hM,fun m _ h=>h⟩,?_⟩
  rintro k σ G ⟨c1,b1,v3,rfl,rfl,lo1,lo2,sub1,sub2,kG,MG,snd1⟩
  refine⟨_,rfl,Rx ⟨fun σ' G'=>∃(c2 b2:Nat) (v3:Option V),σ' = [some (.ref x),some (.int (c2:Int)),some (.int (b2:Int)),v3]/\c1<c2/\Low ns.length c2/\Low ns.length b2/\Sub ch c2/\Sub ba b2/\Sm [c] H G'/\MarksAt T.CMarks G' x c ns A B L/\∀m,O3 ns.length A B m->Fits ch ba m->Fits c2 b2 m,?_,?_⟩⟩
  ·rintro σ' G' ⟨c2,b2,v3,rfl,lt,lo3,h⟩
   have:=lo3.lt
   exact⟨2^ns.length-c2,by omega,c2,b2,_,rfl,rfl,lo3,h⟩
  refine B5 fun N1 hN1=>?_
  refine ex1 rfl (ex1 rfl (ex1 rfl ⟨x,c,ns,A,B,L,c1,b1,rfl,MG,lo1,lo2,fun t b2 G1 k1 M1 et lo3 sub3 snd2 st=>?_⟩))
  refine⟨t,_,rfl,SqT.of et,rfl,_,_,rfl,_,_,rfl,rfl,?_⟩
  have snd3:∀m,O3 ns.length A B m->Fits ch ba m->Fits c1 b2 m:=fun m hw hf=>snd2 m hw.1 (snd1 m hw hf)
  refine hN1 _ _ (B5 fun N2 hN2=>?_)
  obtain⟨dx,a,b,d,kb,e1,_⟩:=M1.ex
  refine ex1 rfl (ex1 rfl ⟨x,dx,ex1 rfl ⟨e1,rfl,ex1 rfl ⟨x,c,ns,A,B,L,c1,rfl,M1,fun r G2 k2 M2 hr=>?_⟩⟩⟩)
  refine C1 rfl rfl ?_
  dsimp only
  rw[bor]
  have k2:=kG.trans (k1.trans k2)
  generalize hmo:(c1 ||| r)=mo
  have hm:∀j,mo.testBit j=true↔c1.testBit j=true\/Bh ns.length A B c1 j:=fun j=>by rw[<-hmo,BR,CD,hr]
  have ret:(mo=c1\/∃j,c1.testBit j=true/\b2.testBit j=true)->∀t' G3,Same G2 G3->G3 t'=some (.tup [.int (c1:Int),.int (b2:Int)])->Q (.ref t') G3:=fun hc t' G3 s3 et'=>by
   refine q t' c1 b2 G3 (k2.trans s3.sm) (M2.same s3) et' lo1 lo3 sub1 (fun j h=>sub3 j (sub2 j h)) snd3 fun dis all=>⟨o0 net lo1 st dis all,fun j hj=>?_⟩
   rcases hc with e | ⟨i,h1,h2⟩
   ·rw[<-e];exact(hm j).mpr (.inr hj)
   ·exact absurd h2 (dis i h1)
  have tup:(mo=c1\/∃j,c1.testBit j=true/\b2.testBit j=true)->zCv (zBw (Fd (Ig 1) (Fd (Ig 2) Vo))) { nx:=fun _ H'=>Q .non H',rt:=Q } [some (.ref x),some (.int (c1:Int)),some (.int (b2:Int)),some (.int (mo:Int))] G2:=fun hc =>
   ex1 rfl (ex1 rfl ⟨by show 2<=sizeLine;decide,fun t' ht'=>ret hc t' _ (Same.new ht') A9⟩)
  refine hN2 _ _ (B5 fun N3 hN3=>?_)
  refine ex1 rfl (ex1 rfl ⟨rfl,_,rfl,U4 (fun eq=>?_) (fun ne=>?_)⟩)
  ·exact Rx (tup (.inl (by have:=V.int.inj (AW eq);omega)))
  ·refine ex1 rfl (ex1 rfl (C1 rfl rfl ⟨_,rfl,U4 (fun cm=>?_) (fun cm=>?_)⟩))
   ·exact tup (.inr ((V9 c1 b2).mp cm))
   ·have ne:mo≠c1:=fun z=>ne (AH (by rw[z]))
    have sb:Sub c1 mo:=fun j h=>(hm j).mpr (.inl h)
    refine hN3 _ _ ?_
    refine ex1 rfl ⟨mo,b2,_,rfl,DX (Nat.le_of_testBit sb) (Ne.symm ne),fun j h=>((hm j).mp h).elim (lo1 j) (·.1),lo3,fun j h=>sb j (sub1 j h),fun j h=>sub3 j (sub2 j h),k2,M2,fun m hw hf=>?_⟩
    have f1:=snd3 m hw hf
    exact⟨fun j h=>((hm j).mp h).elim (f1.1 j) fun y=>hw.2 j (Bm f1.1 y),f1.2⟩
end
def OutM(n:Nat)(A B:List Nat)(m:Nat):Prop:=Low n m/\Fk B m/\∀j,j<n->m.testBit j=true\/Fj B m j
theorem OutM.stand{n:Nat}{A B:List Nat}(N:Net n A B){m:Nat}(h:OutM n A B m):StandM n A B m:=⟨h.1,h.2.1,fun j hj=>⟨h.1 j hj,fun b hb=>by
 have e:=(N.tr j b).mp hb
 exact(h.2.2 b (N.lt b j e).1).resolve_left fun z=>h.2.1 b j z hj e⟩⟩
section
variable{P:Program}{w:World}{K:PySem.W.Frag}{mg:Str->Option Value}{base:Heap}
theorem Q2:FnScope ["marks", "chosen", "barred", "more"] ["marks", "chosen", "barred"] (B6 s_settle_outright):=⟨rfl,rfl,rfl,by decide +kernel,rfl,by decide +kernel,by decide +kernel⟩
set_option maxHeartbeats 2000000 in
theorem f9(T:Tx K mg):FnOk P w K mg base CX0 5 T.settle_outright.f T.settle_outright.fd ["marks", "chosen", "barred"] (P4 T.CMarks OutM):=by
 have G_settle_standing:FnOk P w K mg base CX0 4 T.settle_standing.f T.settle_standing.fd ["marks", "chosen", "barred"] (X7 T.CMarks):=K0 T
 have G_Marks_unstruck_by:FnOk P w K mg base CX0 3 T.mMarks_unstruck_by.f T.mMarks_unstruck_by.fd ["self", "some"] (S3 T.CMarks):=J6 T
 have sc:=Q2
 refine T.settle_outright.F.ok Q2 (fun vs H Q E h=>?_) (fun cdv A outer s H vs Q E hr h=>?_)
 ·obtain⟨x,c,ns,A,B,L,ch,ba,rfl,_⟩:=h
  rfl
 ·obtain⟨x,c,ns,A,B,L,ch,ba,rfl,hM,loc,lob,q⟩:=h
  have net:=hM.net
  refine⟨_,(B3 (Ai PassesOwn.never (I9 M0) (B1 (d6 (C6 T.settle_standing G_settle_standing (hr.mono (by decide)) (A8 (pv 0) (A8 (pv 1) (A8 (pv 2) B2)))) (pgT K (n:=2) (C0 (C7 (i:=1) sc.nd rfl (by first | exact Or.inl rfl | exact Or.inr rfl)) (C0 (C7 (i:=2) sc.nd rfl (by first | exact Or.inl rfl | exact Or.inr rfl)) J2))))
   (B1 (C5 (i:=3) sc.nd rfl (by first | exact Or.inl rfl | exact Or.inr rfl) (D9 n0 (pv 1) (G0 (pv 0) T.clMarks T.mMarks_unstruck_by.m G_Marks_unstruck_by (hr.mono (by decide)) T.mMarks_unstruck_by.b .nil K6 (A8 (D9 Cp (peF K (pv 0)) (pv 2)) B2))))
   (B1 (J4 (PW.pt (Cn (C3 j8 (pv 3) (pv 1) (F0 _)) (W3 (ptV K (D9 X0 (pv 1) (pv 2)))))) (B3 (B9 (O6 (A8 (pv 1) (A8 (pv 2) B2))))) C4)
   (B3 (C5 (i:=1) sc.nd rfl (by first | exact Or.inl rfl | exact Or.inr rfl) (pv 3)))))))),?_⟩
  refine⟨fun k σ G=>∃(c1 b1:Nat) (v3:Option V),σ = [some (.ref x),some (.int (c1:Int)),some (.int (b1:Int)),v3]/\k=2^ns.length-c1/\Low ns.length c1/\Low ns.length b1/\Sub ch c1/\Sub ba b1/\Sm [c] H G/\MarksAt T.CMarks G x c ns A B L/\∀m,OutM ns.length A B m->Fits ch ba m->Fits c1 b1 m,⟨_,ch,ba,_,rfl,rfl,loc,lob,fun j h=>h,fun j h=>h,Sm.refl _ _,hM,fun m _ h=>h⟩,?_⟩
  rintro k σ G ⟨c1,b1,v3,rfl,rfl,lo1,lo2,sub1,sub2,kG,MG,snd1⟩
  refine⟨_,rfl,Rx ⟨fun σ' G'=>∃(c2 b2:Nat) (v3:Option V),σ' = [some (.ref x),some (.int (c2:Int)),some (.int (b2:Int)),v3]/\c1<c2/\Low ns.length c2/\Low ns.length b2/\Sub ch c2/\Sub ba b2/\Sm [c] H G'/\MarksAt T.CMarks G' x c ns A B L/\∀m,OutM ns.length A B m->Fits ch ba m->Fits c2 b2 m,?_,?_⟩⟩
  ·rintro σ' G' ⟨c2,b2,v3,rfl,lt,lo3,h⟩
   have:=lo3.lt
   exact⟨2^ns.length-c2,by omega,c2,b2,_,rfl,rfl,lo3,h⟩
  refine B5 fun N1 hN1=>?_
  refine ex1 rfl (ex1 rfl (ex1 rfl ⟨x,c,ns,A,B,L,c1,b1,rfl,MG,lo1,lo2,fun t b2 G1 k1 M1 et lo3 sub3 snd2 st=>?_⟩))
  refine⟨t,_,rfl,SqT.of et,rfl,_,_,rfl,_,_,rfl,rfl,?_⟩
  have snd3:∀m,OutM ns.length A B m->Fits ch ba m->Fits c1 b2 m:=fun m hw hf=>snd2 m (hw.stand net) (snd1 m hw hf)
  refine hN1 _ _ (B5 fun N2 hN2=>?_)
  obtain⟨dx,a,b,d,kb,e1,_⟩:=M1.ex
  obtain⟨z,ez,hz⟩:=Yq (2^ns.length-1) b2 fun j hj=>(J1 _ _).mpr (lo3 j hj)
  refine ex1 rfl (ex1 rfl ⟨x,dx,ex1 rfl ⟨e1,rfl,ex1 rfl ⟨x,T.CMarks,dx,_,ex1 rfl ⟨e1,T.clMarks,T.nMarks_full,rfl,ex1 rfl (C1 rfl rfl ?_)⟩⟩⟩⟩)
  dsimp only
  rw[ez]
  refine⟨x,c,ns,A,B,L,z,rfl,M1,fun r G2 k2 M2 hr=>?_⟩
  refine C1 rfl rfl ?_
  dsimp only
  rw[bor]
  have k2:=kG.trans (k1.trans k2)
  generalize hmo:(c1 ||| r)=mo
  have hm:∀j,mo.testBit j=true↔c1.testBit j=true\/(j<ns.length/\¬Fj B z j):=fun j=>by rw[<-hmo,BR,CD,hr]
  have ret:(mo=c1\/∃j,c1.testBit j=true/\b2.testBit j=true)->∀t' G3,Same G2 G3->G3 t'=some (.tup [.int (c1:Int),.int (b2:Int)])->Q (.ref t') G3:=fun hc t' G3 s3 et'=>by
   refine q t' c1 b2 G3 (k2.trans s3.sm) (M2.same s3) et' lo1 lo3 sub1 (fun j h=>sub3 j (sub2 j h)) snd3 fun dis all=>⟨lo1,(o0 net lo1 st dis all).2.1,fun j hj=>?_⟩
   rcases hc with e | ⟨i,h1,h2⟩
   ·by_cases hh:Fj B c1 j
    ·exact .inr hh
    ·refine .inl ?_
     rw[<-e]
     refine(hm j).mpr (.inr ⟨hj,fun⟨k,hk,e'⟩=>hh ⟨k,?_,e'⟩⟩)
     obtain⟨h1,h2⟩:=(hz k).mp hk
     exact(all k ((J1 _ _).mp h1)).resolve_right h2
   ·exact absurd h2 (dis i h1)
  have tup:(mo=c1\/∃j,c1.testBit j=true/\b2.testBit j=true)->zCv (zBw (Fd (Ig 1) (Fd (Ig 2) Vo))) { nx:=fun _ H'=>Q .non H',rt:=Q } [some (.ref x),some (.int (c1:Int)),some (.int (b2:Int)),some (.int (mo:Int))] G2:=fun hc =>
   ex1 rfl (ex1 rfl ⟨by show 2<=sizeLine;decide,fun t' ht'=>ret hc t' _ (Same.new ht') A9⟩)
  refine hN2 _ _ (B5 fun N3 hN3=>?_)
  refine ex1 rfl (ex1 rfl ⟨rfl,_,rfl,U4 (fun eq=>?_) (fun ne=>?_)⟩)
  ·exact Rx (tup (.inl (by have:=V.int.inj (AW eq);omega)))
  ·refine ex1 rfl (ex1 rfl (C1 rfl rfl ⟨_,rfl,U4 (fun cm=>?_) (fun cm=>?_)⟩))
   ·exact tup (.inr ((V9 c1 b2).mp cm))
   ·have ne:mo≠c1:=fun z=>ne (AH (by rw[z]))
    have sb:Sub c1 mo:=fun j h=>(hm j).mpr (.inl h)
    refine hN3 _ _ ?_
    refine ex1 rfl ⟨mo,b2,_,rfl,DX (Nat.le_of_testBit sb) (Ne.symm ne),fun j h=>((hm j).mp h).elim (lo1 j) (·.1),lo3,fun j h=>sb j (sub1 j h),fun j h=>sub3 j (sub2 j h),k2,M2,fun m hw hf=>?_⟩
    have f1:=snd3 m hw hf
    refine⟨fun j h=>((hm j).mp h).elim (f1.1 j) fun⟨hj,nh⟩=>?_,f1.2⟩
    refine(hw.2.2 j hj).resolve_right fun⟨k,hk,e⟩=>nh ⟨k,(hz k).mpr ⟨(J1 _ _).mpr (hw.1 k hk),f1.2 k hk⟩,e⟩
end
theorem Iv(κ:Nat->Key)(v:Nat->V){N:Nat}(inj:∀i j,i<N->j<N->κ i=κ j->i=j):∀n,n<=N->∀i,i<N->U5 ((List.range n).map fun k=>(κ k,v k)) (κ i)=if i<n then some (v i)else none
 | 0,_,i,_=>rfl
 | n+1,h,i,hi=>by
  have ih:=Iv κ v inj n (by omega) i hi
  unfold U5 at ih⊢
  rw[EH,AR,List.find?_append]
  by_cases c:i<n
  ·rw[AQ c]at ih
   rw[AQ (by omega)]
   cases e:(List.find? (fun kv:Key×V=>decide (kv.1=κ i)) ((List.range n).map fun k=>(κ k,v k)))with
   | none=>rw[e]at ih;cases ih
   | some q=>rw[e]at ih;rw[Option.some_or];exact ih
  ·rw[AJ c]at ih
   cases e:(List.find? (fun kv:Key×V=>decide (kv.1=κ i)) ((List.range n).map fun k=>(κ k,v k)))with
   | some q=>rw[e]at ih;cases ih
   | none =>
    rw[Option.none_or,BG,ET]
    by_cases c':i=n
    ·subst c'
     rw[AH rfl,AQ (by omega)];rfl
    ·rw[A_ fun z=>c' (inj n i (by omega) hi z).symm,AJ (by omega)];rfl
theorem Pt(κ:Nat->Key)(v:Nat->V){N:Nat}(inj:∀i j,i<N->j<N->κ i=κ j->i=j){n:Nat}(h:n<N):Cv ((List.range n).map fun k=>(κ k,v k)) (κ n) (v n) =(List.range (n+1)).map fun k=>(κ k,v k):=by
 rw[Ua _ (by rw[Iv κ v inj n (by omega) n h,AJ (by omega)]),EH,AR];rfl
theorem Lp:∀n,(((List.range n).map fun k=>((2^k:Nat):Int)).sum) =((2^n-1:Nat):Int)
 | 0=>rfl
 | n+1=>by
  rw[EH,AR,List.sum_append,Lp n]
  have:0<2^n:=Nat.pow_pos (by decide)
  simp only[BG,List.map_nil,List.sum_cons,List.sum_nil,Nat.pow_succ]
  omega
theorem Kp(l:List Nat):((l.map fun k=>((2^k:Nat):Int)).sum) =(((l.map fun k=>2^k).sum:Nat):Int):=by
 induction l with
 | nil=>rfl
 | cons a r ih=>rw[BG,List.sum_cons,ih,BG,List.sum_cons];omega
theorem Hk{ns:List Str}{y:Str}(h:y∈ns):ns[ns.idxOf y]?=some y:=by
 rw[AC (List.idxOf_lt_length_of_mem h),List.getElem_idxOf]
def ML(ns:List Str)(g:Str->List Str):List Nat:=ns.map fun n=>((g n).map fun y=>2^ns.idxOf y).sum
theorem Wz{ns:List Str}{g:Str->List Str}{i:Nat}{n:Str}(h:ns[i]?=some n):(ML ns g).getD i 0 =(((g n).map fun y=>ns.idxOf y).map fun k=>2^k).sum:=by
 unfold ML
 rw[BW,AI,h,CC];rfl
theorem zAb{ns:List Str}{g:Str->List Str}{ks:List (Str×Str)}(nd:ns.Nodup)(gn:∀n∈ns,(g n).Nodup)(gm:∀n∈ns,∀y,y∈g n↔(n,y)∈ks)(mem:∀k∈ks,k.1∈ns/\k.2∈ns):MB ns ks (ML ns g):=by
 refine⟨by unfold ML;rw[AB],fun i j=>?_⟩
 cases hi:ns[i]? with
 | none =>
  have e:(ML ns g).getD i 0=0:=by unfold ML;rw[BW,AI,hi];rfl
  rw[e,DK]
  exact⟨fun z=>(by cases z),fun⟨k,_,z,_⟩=>(by cases z)⟩
 | some n =>
  have hn:=BJ hi
  have nj:((g n).map fun y=>ns.idxOf y).Nodup:=by
   refine CB.mpr (GS (fun{a b} ha hb ne e=>ne ?_) (gn n hn))
   have ea:=Hk (mem _ ((gm n hn a).mp ha)).2
   have eb:=Hk (mem _ ((gm n hn b).mp hb)).2
   rw[e,eb]at ea
   exact(BH ea).symm
  rw[Wz hi,Iu nj,AK]
  constructor
  ·rintro⟨y,hy,rfl⟩
   have hk:=(gm n hn y).mp hy
   exact⟨_,hk,rfl,Hk (mem _ hk).2⟩
  ·rintro⟨k,hk,e1,e2⟩
   have e1:=BH e1
   refine⟨k.2,(gm n hn k.2).mpr (by rw[e1];exact hk),?_⟩
   exact Lf nd (Hk (mem _ hk).2) e2
theorem Kg{J:It}{a D:Addr}{ns:List Str}{H:Hp}{Q:St->Hp->Prop}(as:AsSeq J (ns.map V.str) a H){tk tv:TE}{r:St}{v0:Option V}(M:List Nat)(len:ns.length<=1000)(hD:H D=none)
  (hk:∀i n G (R:VK),ns[i]?=some n->Same H G->R (M8 (2^i)) G->tk (some (.str n)::r) G R)
  (hv:∀i n G (R:VK),ns[i]?=some n->Same H G->(∀G',Same G G'->R (M8 (M.getD i 0)) G')->tv (some (.str n)::r) G R)
  (q:∀σ G,Same H G->G D=some (.dK (bK M ns.length))->Q σ G):Ea (Q6 0) y6 (Qc D tk tv) J (v0::r) (upd H D (.dK [])) Q:=by
 refine O8 as (fun i σ G=>(∃v,σ=v::r)/\Same H G/\G D=some (.dK (bK M i))) ⟨⟨_,rfl⟩,Same.new hD,A9⟩ (fun i σ G _ h=>h.2.1.at a) ?_ ?_
 ·rintro i σ G v N hx ⟨⟨v0,rfl⟩,sG,eG⟩ hN
  rw[AI]at hx
  obtain⟨n,hn,rfl⟩:=BS.mp hx
  have li:=(AG.mp hn).1
  refine An (hk i n G _ hn sG (hv i n G _ hn sG fun G' s'=>?_))
  refine⟨bK M i,.inl ((2^i:Nat):Int),s' _ _ eG,rfl,by unfold bK;rw[AB,BX,sizeLine_eq];omega,hN _ _ ⟨⟨_,rfl⟩,(sG.trans s').upd hD,?_⟩⟩
  rw[A9]
  unfold bK
  rw[Pt (fun k=>(Sum.inl ((2^k:Nat):Int):Key)) (fun k=>M8 (M.getD k 0)) (N:=i+1) (fun a b _ _ e=>Pp (Sum.inl.inj e)) (E_ i)]
 ·rintro σ G ⟨_,sG,eG⟩
  rw[AB]at eG
  exact q σ G sG eG
theorem WebAt.smx{C M:Addr}{H H':Hp}{x w dx:Addr}{ns:List Str}{qs:List PA2}(h:WebAt C H w ns qs)(hx:H x=some (.ins M dx []))(s:Sm [x] H H'):WebAt C H' w ns qs:=by
 obtain⟨ok,dw,a,b,c,d,kc,kd,e1,e2,e3,e4,e5,e6,e7,e8⟩:=h
 have k:∀{b:Addr} {o:HO},H b=some o->o≠ .ins M dx []->H' b=some o:=fun e n=>s _ _ e fun z=>n (by rw[AD.mp z,hx]at e;exact(BH e).symm)
 exact⟨ok,dw,a,b,c,d,kc,kd,k e1 (by unfold wf;intro z;cases z),k e2 (by intro z;cases z),k e3 (by intro z;cases z),fun q hq=>k (e4 q hq) (by intro z;cases z),k e5 (by intro z;cases z),k e6 (by intro z;cases z),fun n hn=>let⟨l,v,e⟩:=e7 n hn;⟨l,v,k e (by intro z;cases z)⟩,fun n hn=>let⟨l,v,e⟩:=e8 n hn;⟨l,v,k e (by intro z;cases z)⟩⟩
theorem Ge{qs:List PA2}{n y:Str}:y∈B4 qs n↔(n,y)∈(qs.map fun q=>q.2).map fun k=>(k.2,k.1):=by
 unfold B4
 rw[CC,AK,AK]
 constructor
 ·rintro⟨q,h,rfl⟩
  obtain⟨h1,h2⟩:=AL.mp h
  exact⟨q,h1,Prod.ext (AW h2) rfl⟩
 ·rintro⟨q,h,e⟩
  exact⟨q,AL.mpr ⟨h,AH (congrArg Prod.fst e)⟩,congrArg Prod.snd e⟩
theorem Js{qs:List PA2}{n y:Str}:y∈E3 qs n↔(n,y)∈qs.map fun q=>q.2:=by
 unfold E3
 rw[AK,AK]
 constructor
 ·rintro⟨q,h,rfl⟩
  obtain⟨h1,h2⟩:=AL.mp h
  exact⟨q,h1,Prod.ext (AW h2) rfl⟩
 ·rintro⟨q,h,e⟩
  exact⟨q,AL.mpr ⟨h,AH (congrArg Prod.fst e)⟩,congrArg Prod.snd e⟩
theorem Ji{qs:List PA2}(h:(qs.map fun q=>q.2).Nodup)(n:Str):(B4 qs n).Nodup:=by
 unfold B4
 refine CB.mpr (GS (fun{a b} ha hb ne e=>ne ?_) ((CB.mp h).sublist BT))
 exact Prod.ext e ((AW (AL.mp ha).2).trans (AW (AL.mp hb).2).symm)
theorem Qp{qs:List PA2}(h:(qs.map fun q=>q.2).Nodup)(n:Str):(E3 qs n).Nodup:=by
 unfold E3
 refine CB.mpr (GS (fun{a b} ha hb ne e=>ne ?_) ((CB.mp h).sublist BT))
 exact Prod.ext ((AW (AL.mp ha).2).trans (AW (AL.mp hb).2).symm) e
def kbT(ns:List Str)(i:Nat):List (Key×V):=(List.range i).map fun k=>((Sum.inr (ns.getD k ""):Key),M8 (2^k))
theorem Eg{ns:List Str}{i:Nat}{n:Str}(h:ns[i]?=some n):ns.getD i "" = n:=by rw[BW,h];rfl
theorem Vz{ns:List Str}(nd:ns.Nodup):∀i j,i<ns.length->j<ns.length->(Sum.inr (ns.getD i ""):Key)=Sum.inr (ns.getD j "")->i=j:=fun i j hi hj e=>by
 have e:=Sum.inr.inj e
 rw[Eg (AC hi),Eg (AC hj)]at e
 exact Lf nd (AC hi) (by rw[AC hj,e])
theorem Ko{ns:List Str}(nd:ns.Nodup){i:Nat}{n:Str}(h:ns[i]?=some n):U5 (kbT ns ns.length) (.inr n)=some (M8 (2^i)):=by
 have hi:=(AG.mp h).1
 have:=Iv (fun k=>(Sum.inr (ns.getD k ""):Key)) (fun k=>M8 (2^k)) (Vz nd) ns.length (Nat.le_refl _) i hi
 rw[AQ hi]at this
 rw[Eg h]at this
 exact this
section
variable{P:Program}{w:World}{K:PySem.W.Frag}{mg:Str->Option Value}{base:Heap}
theorem Mr{G:Hp}{b l:Addr}{ns ys:List Str}{R:VK}(nd:ns.Nodup)(hb:G b=some (.dK (kbT ns ns.length)))(hl:G l=some (.lst (ys.map V.str)))(hm:∀y∈ys,y∈ns)(len:ys.length<=1000)(hR:∀G',Same G G'->R (.int ((((ys.map fun y=>ns.idxOf y).map fun k=>2^k).sum:Nat):Int)) G') :
  ∀D,G D=none->Ea (Q6 0) y6 (p9 D (Zj (Ig 1) (Ig 0))) (Itl K l) [none,some (.ref b)] (upd G D (.lst [])) fun _ H2=>∃(p:Addr) (zs:List Int),[V.ref D] = [.ref p]/\SqL K H2 p (zs.map V.int)/\R (.int zs.sum) H2:=fun D hD=>by
 refine Gm (fun y=>M8 (2^ns.idxOf y)) (asL (SqL.of hl)) (fun _=>true) (by omega) hD (fun y hy G1 s1 M hM=>hM G1 fun b o e=>e) (fun y hy G1 s1 M hM=>?_) fun σ G1 s1 e1=>?_
 ·exact ex1 rfl (ex1 rfl ⟨b,_,rfl,.inl ⟨_,.inr y,.inl (s1 _ _ hb),rfl,(Ko nd (Hk (hm y hy))).symm⟩,hM⟩)
 ·rw[DW.mpr fun _ _=>rfl]at e1
  refine⟨D,(ys.map fun y=>ns.idxOf y).map fun k=>((2^k:Nat):Int),rfl,SqL.of (by rw[e1,CC,CC];rfl),?_⟩
  rw[Kp]
  exact hR G1 s1
theorem S0:FnScope ["self", "web", "bits"] ["self", "web"] (B6 s_Marks___init__):=⟨rfl,rfl,rfl,by decide +kernel,rfl,by decide +kernel,by decide +kernel⟩
def S4(CM CW:Addr):Sp:=fun vs H Q _=>∃(x dx wb:Addr) (ns:List Str) (qs:List PA2),vs = [.ref x,.ref wb]/\H x=some (.ins CM dx [])/\WebAt CW H wb ns qs /\
 ∀(c:Addr) (A B:List Nat) (L:Nat) H',H c=none->Sm [x] H H'->MarksAt CM H' x c ns A B L->MB ns ((qs.map fun q=>q.2).map fun k=>(k.2,k.1)) A->MB ns (qs.map fun q=>q.2) B->Q .non H'
set_option maxHeartbeats 4000000 in
theorem Z8(T:Tx K mg):FnOk P w K mg base CX0 3 T.fMarks___init__ T.fdMarks___init__ ["self", "web"] (S4 T.CMarks T.CWeb):=by
 have G_Web_all_names:FnOk P w K mg base CX0 1 T.mWeb_all_names.f T.mWeb_all_names.fd ["self"] (V0 T.CWeb):=T3 T
 have G_Web_strikers:FnOk P w K mg base CX0 2 T.mWeb_strikers.f T.mWeb_strikers.fd ["self", "name"] (S2 T.CWeb):=P8 T
 have G_Web_struck:FnOk P w K mg base CX0 2 T.mWeb_struck.f T.mWeb_struck.fd ["self", "name"] (Hy T.CWeb):=Dz T
 have sc:=S0
 refine T.FMarks___init__.ok S0 (fun vs H Q E h=>?_) (fun cdv A outer s H vs Q E hr h=>?_)
 ·obtain⟨x,dx,wb,ns,qs,rfl,_⟩:=h
  rfl
 ·obtain⟨x,dx,wb,ns,qs,rfl,hx,hW,q⟩:=h
  have hu:=z9 hr
  have okw:=hW.ok
  have ln:=okw.len
  have nd:=okw.nd
  refine⟨_,(B1 (psF K (pv 0) (Mh (pv 1) T.clWeb T.mWeb_all_names.m G_Web_all_names (hr.mono (by decide)) T.mWeb_all_names.b .nil K6))
   (B1 (C5 (i:=2) sc.nd rfl (by first | exact Or.inl rfl | exact Or.inr rfl) (Jm (N':=["place", "name"]) (cap:=[none,none]) (cl:=[]) (E8 trivial trivial) rfl (piE K T.b_enumerate (A8 (peF K (pv 0)) B2)) (fun _ _ _ _=>by exact⟨(pgT K (n:=2) (C0 (pgC 0) (C0 (pgC 1) J2))),C8,(pv 1),(D9 Zz B8 (pv 0))⟩)))
   (B1 (psF K (pv 0) (E9 Yg T.b_sum La (A8 (Ow (pv 2)) B2)))
   (B1 (psF K (pv 0) (pv 2))
   (B1 (psF K (pv 0) (Jm (N':=["name", "bits", "web"]) (cap:=[none,some 2,some 1]) (cl:=[("web",_),("bits",_)]) (E8 ⟨⟨rfl,rfl,rfl,rfl⟩,⟨⟨rfl,rfl,rfl,rfl⟩,trivial⟩⟩ ⟨rfl,⟨rfl,trivial⟩⟩) rfl (piL K (peF K (pv 0))) (fun _ _ _ _=>by exact⟨(pgC 0),C8,(M9 hu (pv 1) (pv 0) (fun _ _=>rfl)),(E9 (Ry K) T.b_sum La (A8 (J5 (N':=["one", "bits"]) (cap:=[none,some 1]) (cl:=[("bits",_)]) (E8 ⟨⟨rfl,rfl,rfl,rfl⟩,trivial⟩ ⟨rfl,trivial⟩) rfl (piL K (G0 (pv 2) T.clWeb T.mWeb_strikers.m G_Web_strikers (hr.mono (by decide)) T.mWeb_strikers.b .nil K6 (A8 (pv 0) B2))) (fun _ _ _ _=>by exact⟨(pgC 0),C8,(M9 hu (pv 1) (pv 0) (fun _ _=>rfl))⟩)) B2))⟩)))
   (B1 (psF K (pv 0) (Jm (N':=["name", "bits", "web"]) (cap:=[none,some 2,some 1]) (cl:=[("web",_),("bits",_)]) (E8 ⟨⟨rfl,rfl,rfl,rfl⟩,⟨⟨rfl,rfl,rfl,rfl⟩,trivial⟩⟩ ⟨rfl,⟨rfl,trivial⟩⟩) rfl (piL K (peF K (pv 0))) (fun _ _ _ _=>by exact⟨(pgC 0),C8,(M9 hu (pv 1) (pv 0) (fun _ _=>rfl)),(E9 (Ry K) T.b_sum La (A8 (J5 (N':=["one", "bits"]) (cap:=[none,some 1]) (cl:=[("bits",_)]) (E8 ⟨⟨rfl,rfl,rfl,rfl⟩,trivial⟩ ⟨rfl,trivial⟩) rfl (piL K (G0 (pv 2) T.clWeb T.mWeb_struck.m G_Web_struck (hr.mono (by decide)) T.mWeb_struck.b .nil K6 (A8 (pv 0) B2))) (fun _ _ _ _=>by exact⟨(pgC 0),C8,(M9 hu (pv 1) (pv 0) (fun _ _=>rfl))⟩)) B2))⟩)))
   (B3 (psF K (pv 0) (E9 (Ry K) T.b_sum La (A8 (J5 (N':=["bit", "self"]) (cap:=[none,some 0]) (cl:=[("self",_)]) (E8 ⟨⟨rfl,rfl,rfl,rfl⟩,trivial⟩ ⟨rfl,trivial⟩) rfl (zAl (Ow (pv 2))) (fun _ _ _ _=>by exact⟨(pgC 0),(K4 (ptV K (D9 X0 (pv 0) (M9 hu (peF K (pv 1)) (pv 0) (fun _ _=>rfl))))),(pv 0)⟩)) B2)))))))))),?_⟩
  have nin:∀{b:Addr},b≠x->b∉[x]:=fun h z=>h (AD.mp z)
  refine B5 fun Z1 hZ1=>?_
  obtain⟨_,dw,_,_,_,_,_,_,ew,_⟩:=id hW
  refine ex1 rfl ⟨wb,dw,ex1 rfl ⟨ew,rfl,wb,ns,qs,rfl,hW,fun l1 hl1=>?_⟩⟩
  have nx1:x≠l1:=B0 hx hl1
  refine ex1 rfl ⟨x,T.CMarks,dx,[],rfl,(B7 nx1).trans hx,T.clMarks,T.nMarks_names,by decide,?_⟩
  have k1:Sm [x] H (upd (upd H l1 (.lst (ns.map V.str))) x (.ins T.CMarks dx (O7 "names" (.ref l1) []))):=(Sm.new (Sm.refl _ _) hl1).upd (by simp)
  have a1:(upd (upd H l1 (.lst (ns.map V.str))) x (.ins T.CMarks dx (O7 "names" (.ref l1) []))) l1=some (.lst (ns.map V.str)):=(B7 nx1.symm).trans A9
  have x1:(upd (upd H l1 (.lst (ns.map V.str))) x (.ins T.CMarks dx (O7 "names" (.ref l1) []))) x=some (.ins T.CMarks dx [("names",.ref l1)]):=by rw[A9];rfl
  generalize upd (upd H l1 (.lst (ns.map V.str))) x (.ins T.CMarks dx (O7 "names" (.ref l1) []))=H1 at k1 a1 x1⊢
  refine hZ1 _ _ (B5 fun Z2 hZ2=>?_)
  refine ex1 rfl ⟨x,T.CMarks,dx,_,ex1 rfl ⟨x1,T.clMarks,T.nMarks_names,rfl,l1,ex1 rfl ⟨SqL.of a1,fun b hb=>?_⟩⟩⟩
  refine Hd (n:=ns.length) (fun i σ G=>(∃v0 v1,σ = [v0,v1])/\Same H1 G/\G b=some (.dK (kbT ns i))) ⟨⟨_,_,rfl⟩,Same.new hb,A9⟩ ?_ ?_ ?_ ?_
  ·rintro i σ G hi ⟨_,sG,_⟩
   exact⟨_,_,(sG.at l1).seqL (SqL.of a1),by rw[AI,AC hi];rfl⟩
  ·rintro σ G ⟨_,sG,_⟩
   exact⟨_,(sG.at l1).seqL (SqL.of a1),by rw[AB]⟩
  ·rintro i σ G y H' N hi ⟨⟨v0,v1,rfl⟩,sG,eG⟩ ⟨t,y,rfl,ht,rfl,hy⟩ hN
   have hy:=hy _ ((sG.at l1).seqL (SqL.of a1))
   have hi':ns[i]?=some ns[i]:=AC hi
   rw[AI,hi']at hy
   cases hy
   refine⟨t,ex1 rfl ⟨SqT.of A9,rfl,_,ex1 rfl (C1 rfl rfl (Wt ?_))⟩⟩
   refine ex1 rfl (ex1 rfl (C1 rfl rfl ⟨⟨by omega,by omega,by decide⟩,?_⟩))
   dsimp only
   rw[zEi]
   have st:=sG.trans (Same.new (o:=.tup [.int i,.str ns[i]]) ht)
   refine⟨kbT ns i,.inr ns[i],(B7 (B0 eG ht)).trans eG,rfl,by unfold kbT;rw[AB,BX,sizeLine_eq];omega,hN _ _ ⟨⟨_,_,rfl⟩,st.upd hb,?_⟩⟩
   rw[A9]
   have:=Pt (fun k=>(Sum.inr (ns.getD k ""):Key)) (fun k=>M8 (2^k)) (Vz nd) hi
   rw[Eg hi']at this
   exact congrArg (fun z=>some (HO.dK z)) this
  rintro σ2 H2 ⟨_,s2,b2⟩
  have nxb:x≠b:=B0 x1 hb
  have x2:=s2 _ _ x1
  have a2:=s2 _ _ a1
  have k2:=k1.trans s2.sm
  refine hZ2 _ _ (B5 fun Z3 hZ3=>?_)
  refine ex1 rfl ⟨b,_,rfl,b2,fun v hv=>?_⟩
  have sv:=Same.new (o:=Mc v b) hv
  have fv:(upd H2 v (Mc v b)) v=some (Mc v b):=A9
  generalize upd H2 v (Mc v b)=H2' at sv fv⊢
  refine⟨v,b,kbT ns ns.length,(List.range ns.length).map fun k=>((2^k:Nat):Int),rfl,fv,sv _ _ b2,by unfold kbT;rw[CC,CC];rfl,?_⟩
  rw[Lp]
  have x2:=sv _ _ x2
  have a2:=sv _ _ a2
  have b2:=sv _ _ b2
  have k2:=k2.trans sv.sm
  refine ex1 rfl ⟨x,T.CMarks,dx,_,rfl,x2,T.clMarks,T.nMarks_full,by simp,?_⟩
  have k3:Sm [x] H2' (upd H2' x (.ins T.CMarks dx (O7 "full" (.int ((2^ns.length-1:Nat):Int)) [("names",.ref l1)]))):=(Sm.refl _ _).upd (by simp)
  have x3:(upd H2' x (.ins T.CMarks dx (O7 "full" (.int ((2^ns.length-1:Nat):Int)) [("names",.ref l1)]))) x=some (.ins T.CMarks dx [("names",.ref l1),("full",M8 (2^ns.length-1))]):=by rw[A9];rfl
  generalize upd H2' x (.ins T.CMarks dx (O7 "full" (.int ((2^ns.length-1:Nat):Int)) [("names",.ref l1)]))=H3 at k3 x3⊢
  have a3:=k3 _ _ a2 (nin nx1.symm)
  have b3:=k3 _ _ b2 (nin nxb.symm)
  have k3:=k2.trans k3
  refine hZ3 _ _ (B5 fun Z4 hZ4=>?_)
  refine ex1 rfl (ex1 rfl ⟨x,T.CMarks,dx,_,rfl,x3,T.clMarks,T.nMarks_bit_of,by simp,?_⟩)
  have k4:Sm [x] H3 (upd H3 x (.ins T.CMarks dx (O7 "bit_of" (.ref b) [("names",.ref l1),("full",M8 (2^ns.length-1))]))):=(Sm.refl _ _).upd (by simp)
  have x4:(upd H3 x (.ins T.CMarks dx (O7 "bit_of" (.ref b) [("names",.ref l1),("full",M8 (2^ns.length-1))]))) x=some (.ins T.CMarks dx [("names",.ref l1),("full",M8 (2^ns.length-1)),("bit_of",.ref b)]):=by rw[A9];rfl
  generalize upd H3 x (.ins T.CMarks dx (O7 "bit_of" (.ref b) [("names",.ref l1),("full",M8 (2^ns.length-1))]))=H4 at k4 x4⊢
  have a4:=k4 _ _ a3 (nin nx1.symm)
  have b4:=k4 _ _ b3 (nin nxb.symm)
  have k4:=k3.trans k4
  refine hZ4 _ _ (B5 fun Z5 hZ5=>?_)
  have mA:=zAb (ns:=ns) (g:=B4 qs) (ks:=(qs.map fun q=>q.2).map fun k=>(k.2,k.1)) nd (fun n _=>Ji okw.ndq n) (fun n _ y=>Ge) fun k hk=>by
   rw[CC]at hk
   obtain⟨q,hq,rfl⟩:=AK.mp hk
   exact⟨(okw.mem q hq).2,(okw.mem q hq).1⟩
  have mB:=zAb (ns:=ns) (g:=E3 qs) (ks:=qs.map fun q=>q.2) nd (fun n _=>Qp okw.ndq n) (fun n _ y=>Js) fun k hk=>by
   obtain⟨q,hq,rfl⟩:=AK.mp hk
   exact okw.mem q hq
  have net:Net ns.length (ML ns (B4 qs)) (ML ns (E3 qs)):=MB.net mA mB
  have W4:=hW.smx hx k4
  have ins1:∀{n:Str} (y:Str),y∈B4 qs n->y∈ns:=fun y hy=>by
   obtain⟨q,hq,rfl⟩:=AK.mp hy
   exact(okw.mem q (AL.mp hq).1).1
  have ins2:∀{n:Str} (y:Str),y∈E3 qs n->y∈ns:=fun y hy=>by
   obtain⟨q,hq,rfl⟩:=AK.mp hy
   exact(okw.mem q (AL.mp hq).1).2
  have lq:=okw.lenq
  have len1:∀n,(B4 qs n).length<=1000:=fun n=>by unfold B4;rw[AB];have:=BL (fun q:PA2=>decide (q.2.2=n)) qs;omega
  have len2:∀n,(E3 qs n).length<=1000:=fun n=>by unfold E3;rw[AB];have:=BL (fun q:PA2=>decide (q.2.1=n)) qs;omega
  refine ex1 rfl ⟨x,T.CMarks,dx,_,ex1 rfl ⟨x4,T.clMarks,T.nMarks_names,rfl,l1,rfl,⟨_,SqL.of a4⟩,fun c hc=>?_⟩⟩
  refine Kg (asL (SqL.of a4)) (ML ns (B4 qs)) (by omega) hc (fun i n G R hn sG hR=>?_) (fun i n G R hn sG hR=>?_) fun σ5 H5 s5 c5=>?_
  ·exact ex1 rfl (ex1 rfl ⟨b,_,rfl,.inl ⟨_,.inr n,.inl (sG _ _ b4),rfl,(Ko nd hn).symm⟩,hR⟩)
  ·have WG:=W4.same sG
   obtain⟨_,dw,_,_,_,_,_,_,ew,_⟩:=id WG
   refine ex1 rfl ⟨wb,dw,ex1 rfl ⟨ew,rfl,ex1 rfl ⟨wb,n,ns,qs,rfl,WG,BJ hn,fun l hl=>?_⟩⟩⟩
   have ul:=Same.new (o:=.lst ((B4 qs n).map V.str)) hl
   refine⟨l,rfl,⟨_,SqL.of A9⟩,Mr nd (ul _ _ (sG _ _ b4)) A9 (fun y hy=>ins1 y hy) (len1 n) fun G' s'=>?_⟩
   have:=hR G' (ul.trans s')
   rw[Wz hn]at this
   exact this
  generalize ML ns (B4 qs)=A at mA net c5
  have hc0:H c=none:=k4.none (nin (B0 x4 hc).symm) hc
  have nxc:x≠c:=B0 x4 hc
  have x5:=s5 _ _ x4
  have a5:=s5 _ _ a4
  have b5:=s5 _ _ b4
  have bc:b≠c:=B0 b4 hc
  have k5:=k4.trans s5.sm
  refine ex1 rfl ⟨x,T.CMarks,dx,_,rfl,x5,T.clMarks,T.nMarks_strikers_of,by simp,?_⟩
  have k6:Sm [x] H5 (upd H5 x (.ins T.CMarks dx (O7 "strikers_of" (.ref c) [("names",.ref l1),("full",M8 (2^ns.length-1)),("bit_of",.ref b)]))):=(Sm.refl _ _).upd (by simp)
  have x6:(upd H5 x (.ins T.CMarks dx (O7 "strikers_of" (.ref c) [("names",.ref l1),("full",M8 (2^ns.length-1)),("bit_of",.ref b)]))) x=some (.ins T.CMarks dx [("names",.ref l1),("full",M8 (2^ns.length-1)),("bit_of",.ref b),("strikers_of",.ref c)]):=by rw[A9];rfl
  generalize upd H5 x (.ins T.CMarks dx (O7 "strikers_of" (.ref c) [("names",.ref l1),("full",M8 (2^ns.length-1)),("bit_of",.ref b)]))=H6 at k6 x6⊢
  have a6:=k6 _ _ a5 (nin nx1.symm)
  have b6:=k6 _ _ b5 (nin nxb.symm)
  have c6:=k6 _ _ c5 (nin nxc.symm)
  have k6:=k5.trans k6
  have W6:=hW.smx hx k6
  refine hZ5 _ _ (B5 fun Z6 hZ6=>?_)
  refine ex1 rfl ⟨x,T.CMarks,dx,_,ex1 rfl ⟨x6,T.clMarks,T.nMarks_names,rfl,l1,rfl,⟨_,SqL.of a6⟩,fun d hd=>?_⟩⟩
  refine Kg (asL (SqL.of a6)) (ML ns (E3 qs)) (by omega) hd (fun i n G R hn sG hR=>?_) (fun i n G R hn sG hR=>?_) fun σ7 H7 s7 d7=>?_
  ·exact ex1 rfl (ex1 rfl ⟨b,_,rfl,.inl ⟨_,.inr n,.inl (sG _ _ b6),rfl,(Ko nd hn).symm⟩,hR⟩)
  ·have WG:=W6.same sG
   obtain⟨_,dw,_,_,_,_,_,_,ew,_⟩:=id WG
   refine ex1 rfl ⟨wb,dw,ex1 rfl ⟨ew,rfl,ex1 rfl ⟨wb,n,ns,qs,rfl,WG,BJ hn,fun l hl=>?_⟩⟩⟩
   have ul:=Same.new (o:=.lst ((E3 qs n).map V.str)) hl
   refine⟨l,rfl,⟨_,SqL.of A9⟩,Mr nd (ul _ _ (sG _ _ b6)) A9 (fun y hy=>ins2 y hy) (len2 n) fun G' s'=>?_⟩
   have:=hR G' (ul.trans s')
   rw[Wz hn]at this
   exact this
  generalize ML ns (E3 qs)=B at mB net d7
  have nxd:x≠d:=B0 x6 hd
  have x7:=s7 _ _ x6
  have a7:=s7 _ _ a6
  have b7:=s7 _ _ b6
  have c7:=s7 _ _ c6
  have dc:d≠c:=(B0 c6 hd).symm
  have k7:=k6.trans s7.sm
  refine ex1 rfl ⟨x,T.CMarks,dx,_,rfl,x7,T.clMarks,T.nMarks_struck_of,by simp,?_⟩
  have k8:Sm [x] H7 (upd H7 x (.ins T.CMarks dx (O7 "struck_of" (.ref d) [("names",.ref l1),("full",M8 (2^ns.length-1)),("bit_of",.ref b),("strikers_of",.ref c)]))):=(Sm.refl _ _).upd (by simp)
  have x8:(upd H7 x (.ins T.CMarks dx (O7 "struck_of" (.ref d) [("names",.ref l1),("full",M8 (2^ns.length-1)),("bit_of",.ref b),("strikers_of",.ref c)]))) x=some (.ins T.CMarks dx [("names",.ref l1),("full",M8 (2^ns.length-1)),("bit_of",.ref b),("strikers_of",.ref c),("struck_of",.ref d)]):=by rw[A9];rfl
  generalize upd H7 x (.ins T.CMarks dx (O7 "struck_of" (.ref d) [("names",.ref l1),("full",M8 (2^ns.length-1)),("bit_of",.ref b),("strikers_of",.ref c)]))=H8 at k8 x8⊢
  have a8:=k8 _ _ a7 (nin nx1.symm)
  have b8:=k8 _ _ b7 (nin nxb.symm)
  have c8:=k8 _ _ c7 (nin nxc.symm)
  have d8:=k8 _ _ d7 (nin nxd.symm)
  have k8:=k7.trans k8
  refine hZ6 _ _ ?_
  refine ex1 rfl ⟨b,_,rfl,b8,fun v hv=>?_⟩
  have sv:=Same.new (o:=Mc v b) hv
  have fv:(upd H8 v (Mc v b)) v=some (Mc v b):=A9
  generalize upd H8 v (Mc v b)=H9 at sv fv⊢
  refine⟨v,b,_,rfl,fv,sv _ _ b8,fun o D hD=>?_⟩
  have nDb:D≠b:=fun z=>by rw[z,A9]at hD;cases hD
  have kz:Sm [b] H9 (upd H9 b (.frz o (.dK (kbT ns ns.length)))):=(Sm.refl _ _).upd (by simp)
  have fz:(upd H9 b (.frz o (.dK (kbT ns ns.length)))) b=some (.frz o (.dK (kbT ns ns.length))):=A9
  have hb0:H b=none:=k1.none (nin nxb.symm) hb
  have kx:Sm [x] H (upd H9 b (.frz o (.dK (kbT ns ns.length)))):=(k8.trans sv.sm).updN hb0
  have nb:∀{b':Addr},b'≠b->b'∉[b]:=fun h z=>h (AD.mp z)
  have nab:l1≠b:=B0 a1 hb
  have x9:=kz _ _ (sv _ _ x8) (nb nxb)
  have a9:=kz _ _ (sv _ _ a8) (nb nab)
  have c9:=kz _ _ (sv _ _ c8) (nb bc.symm)
  have nbd:d≠b:=(B0 b6 hd).symm
  have d9:=kz _ _ (sv _ _ d8) (nb nbd)
  generalize upd H9 b (.frz o (.dK (kbT ns ns.length)))=H10 at kz fz kx hD x9 a9 c9 d9⊢
  have lb:(kbT ns ns.length).length=ns.length:=by unfold kbT;rw[AB,BX]
  refine Hd (n:=ns.length) (fun i σ G=>(∃v0,σ = [v0,some (.ref x)])/\Same H10 G/\G D=some (.lst (((List.range i).filter fun k=>(A.getD k 0).testBit k).map fun k=>M8 (2^k)))) ⟨⟨_,rfl⟩,Same.new hD,A9⟩ ?_ ?_ ?_ ?_
  ·rintro i σ G hi ⟨_,sG,_⟩
   exact⟨sG _ _ fz,by rw[lb];exact hi⟩
  ·rintro σ G ⟨_,sG,_⟩
   exact⟨sG _ _ fz,by rw[lb];exact Nat.le_refl _⟩
  ·rintro i σ G y H' N hi ⟨⟨v0,rfl⟩,sG,eG⟩ ⟨rfl,k,hk⟩ hN
   unfold kbT at hk
   rw[AI,List.getElem?_range hi]at hk
   obtain⟨_,rfl⟩:=Prod.mk.inj (BH hk)
   refine ex1 rfl (ex1 rfl ⟨x,T.CMarks,dx,_,ex1 rfl ⟨sG _ _ x9,T.clMarks,T.nMarks_strikers_of,rfl,ex1 rfl ⟨c,_,rfl,.inl ⟨_,.inl ((2^i:Nat):Int),.inl (sG _ _ c9),rfl,(Mb A hi).symm⟩,C1 rfl rfl ⟨_,rfl,?_⟩⟩⟩⟩)
   dsimp only
   rw[Jp]
   have hl:=BL (fun k=>(A.getD k 0).testBit k) (List.range i)
   rw[BX]at hl
   refine U4 (fun z=>ex1 rfl ⟨_,eG,by rw[AB,sizeLine_eq];omega,hN _ _ ⟨⟨_,rfl⟩,sG.upd hD,?_⟩⟩) (fun z=>hN _ _ ⟨⟨_,rfl⟩,sG,?_⟩)
   ·rw[A9,EH,DR,CH,AQ z,AR];rfl
   ·rw[EH,DR,CH,AJ z,FY,CI];exact eG
  rintro σ11 H11 ⟨_,s11,e11⟩
  generalize hLl:(List.range ns.length).filter (fun k=>(A.getD k 0).testBit k)=Ll at e11
  refine⟨D,Ll.map fun k=>((2^k:Nat):Int),rfl,SqL.of (by rw[e11,CC];rfl),?_⟩
  rw[Kp]
  have hL:∀j,((Ll.map fun k=>2^k).sum).testBit j=true↔(A.getD j 0).testBit j=true:=fun j=>by
   rw[Iu (by rw[<-hLl];exact BT.nodup GI),<-hLl,AL,B_]
   exact⟨(·.2),fun h=>⟨(net.lt j j ((net.tr j j).mp h)).1,h⟩⟩
  generalize (Ll.map fun k=>2^k).sum=L at hL
  have x11:=s11 _ _ x9
  refine ex1 rfl ⟨x,T.CMarks,dx,_,rfl,x11,T.clMarks,T.nMarks_loops,by simp,?_⟩
  have k12:Sm [x] H11 (upd H11 x (.ins T.CMarks dx (O7 "loops" (.int (L:Int)) [("names",.ref l1),("full",M8 (2^ns.length-1)),("bit_of",.ref b),("strikers_of",.ref c),("struck_of",.ref d)]))):=(Sm.refl _ _).upd (by simp)
  have x12:(upd H11 x (.ins T.CMarks dx (O7 "loops" (.int (L:Int)) [("names",.ref l1),("full",M8 (2^ns.length-1)),("bit_of",.ref b),("strikers_of",.ref c),("struck_of",.ref d)]))) x=some (.ins T.CMarks dx (mf l1 b c d ns.length L)):=by rw[A9];rfl
  generalize upd H11 x (.ins T.CMarks dx (O7 "loops" (.int (L:Int)) [("names",.ref l1),("full",M8 (2^ns.length-1)),("bit_of",.ref b),("strikers_of",.ref c),("struck_of",.ref d)]))=H12 at k12 x12⊢
  refine q c A B L H12 hc0 ((kx.trans s11.sm).trans k12) ⟨⟨dx,l1,b,d,kbT ns ns.length,x12,k12 _ _ (s11 _ _ a9) (nin nx1.symm),.inr ⟨o,k12 _ _ (s11 _ _ fz) (nin nxb.symm)⟩,fun i n h=>Ko nd h,.inl (k12 _ _ (s11 _ _ c9) (nin nxc.symm)),k12 _ _ (s11 _ _ d9) (nin nxd.symm),dc,bc⟩,net,nd,ln,hL⟩ mA mB
end
structure LLn(H0 H:Hp)(ts:List (Addr×List Str)):Prop where
 at_:∀t∈ts,H t.1=some (.lst (t.2.map V.str))
 nd:(ts.map fun t=>t.1).Nodup
 new:∀t∈ts,H0 t.1=none
theorem Mq{J:It}{l D:Addr}{H:Hp}{ns:List Str}{Ms:List Nat}{r:St}{v0:Option V}{te:TE}{Q:St->Hp->Prop}(as:AsSeq J (Ms.map M8) l H)(len:Ms.length<=5000)(hD:H D=none)
  (step:∀m G (R:VK),Same H G->(∀z G',G z=none->Same G G'->G' z=some (.lst ((setOf ns m).map V.str))->R (.ref z) G')->te (some (M8 m)::r) G R)
  (q:∀σ G (ts:List (Addr×List Str)),Same H G->G D=some (.lst (ts.map fun t=>V.ref t.1))->LLn H G ts->(∀t∈ts,t.1≠D)->(ts.map fun t=>t.2)=Ms.map (setOf ns)->Q σ G):Ea (Q6 0) y6 (p9 D te) J (v0::r) (upd H D (.lst [])) Q:=by
 refine O8 as (fun i σ G=>(∃v,σ=v::r)/\Same H G/\∃ts:List (Addr×List Str),G D=some (.lst (ts.map fun t=>V.ref t.1))/\LLn H G ts/\(∀t∈ts,t.1≠D)/\(ts.map fun t=>t.2) =(Ms.take i).map (setOf ns)) ⟨⟨_,rfl⟩,Same.new hD,[],A9,⟨fun t h=>absurd h BK,List.nodup_nil,fun t h=>absurd h BK⟩,fun t h=>absurd h BK,rfl⟩ (fun i σ G _ h=>h.2.1.at l) ?_ ?_
 ·rintro i σ G y N hx ⟨⟨v0,rfl⟩,sG,ts,eG,LG,nG,mG⟩ hN
  rw[AI]at hx
  obtain⟨m,hm,rfl⟩:=BS.mp hx
  have li:=(AG.mp hm).1
  have lt:ts.length=i:=by
   have:=congrArg List.length mG
   rw[AB,AB,AS]at this
   omega
  refine An (step m G _ sG fun z G' hz s' ez=>?_)
  have nz:z≠D:=(B0 eG hz).symm
  refine⟨_,s' _ _ eG,by rw[AB,sizeLine_eq];omega,hN _ _ ⟨⟨_,rfl⟩,(sG.trans s').upd hD,ts ++ [(z,setOf ns m)],?_,⟨fun t ht=>?_,?_,fun t ht=>?_⟩,fun t ht=>?_,?_⟩⟩
  ·rw[A9,AR];rfl
  ·rcases AV.mp ht with h | h
   ·rw[B7 (nG t h)];exact s' _ _ (LG.at_ t h)
   ·rw[AD.mp h,B7 nz];exact ez
  ·rw[AR]
   refine EE.mpr ⟨LG.nd,DP _ _,fun a ha b hb e=>?_⟩
   obtain⟨t,ht,rfl⟩:=AK.mp ha
   rw[List.map_singleton,AD]at hb
   rw[hb]at e
   have:=LG.at_ t ht
   rw[e,hz]at this
   cases this
  ·rcases AV.mp ht with h | h
   ·exact LG.new t h
   ·rw[AD.mp h];exact sG.free hz
  ·rcases AV.mp ht with h | h
   ·exact nG t h
   ·rw[AD.mp h];exact nz
  ·rw[AR,mG,take_succ hm,AR];rfl
 ·rintro σ G ⟨_,sG,ts,eG,LG,nG,mG⟩
  rw[AB,CG]at mG
  exact q σ G ts sG eG LG nG mG
section
variable{P:Program}{w:World}{K:PySem.W.Frag}{mg:Str->Option Value}{base:Heap}
def Ag(CW f:Addr)(Tg:Tgt):Sp:=fun vs H Q E=>∃(wb:Addr) (ns:List Str) (qs:List PA2),vs = [.ref wb,.ref f,.bl false]/\WebAt CW H wb ns qs/\ns.length<=10 /\
 ∀(A B Ms:List Nat),MB ns ((qs.map fun q=>q.2).map fun k=>(k.2,k.1)) A->MB ns (qs.map fun q=>q.2) B->Ms.Nodup->(∀m,m∈Ms↔Tg ns.length A B m) ->
  (∀r (ts:List (Addr×List Str)) H',Ms.length<=300->Same H H'->H r=none->H' r=some (.lst (ts.map fun t=>V.ref t.1))->LLn H H' ts->(∀t∈ts,t.1≠r)->(ts.map fun t=>t.2).Perm (Ms.map (setOf ns))->ts.Pairwise (fun a b=>TS.lexB (TS.kyS b.2) (TS.kyS a.2)=false)->Q (.ref r) H')/\(300<Ms.length->False)
theorem P9:FnScope ["web", "settle", "greatest", "marks", "found"] ["web", "settle", "greatest"] (B6 s_all_found):=⟨rfl,rfl,rfl,by decide +kernel,rfl,by decide +kernel,by decide +kernel⟩
set_option maxHeartbeats 4000000 in
theorem U7(T:Tx K mg){f:Addr}{Tg:Tgt}(tl:∀n A B m,Tg n A B m->Low n m)(tq:∀n A B m,Tg n A B m->Fk B m){g:Nat}(hg:3<=g)(G_gather:FnOk P w K mg base CX0 (g+1) T.gather.f T.gather.fd ["marks", "settle", "greatest", "chosen", "barred", "found"] (i6 T.CMarks f Tg 10)) :
  FnOk P w K mg base CX0 (g+2) T.all_found.f T.all_found.fd ["web", "settle", "greatest"] (Ag T.CWeb f Tg):=by
 have G_Marks___init__:FnOk P w K mg base CX0 g T.fMarks___init__ T.fdMarks___init__ ["self", "web"] (S4 T.CMarks T.CWeb):=(Z8 T).mono hg
 have G_Marks_names_in:FnOk P w K mg base CX0 (g+1) T.mMarks_names_in.f T.mMarks_names_in.fd ["self", "some"] (Y1 T.CMarks):=(Q7 T).mono (by omega)
 have sc:=P9
 refine T.all_found.F.ok P9 (fun vs H Q E h=>?_) (fun cdv A outer s H vs Q E hr h=>?_)
 ·obtain⟨wb,ns,qs,rfl,_⟩:=h
  rfl
 ·obtain⟨wb,ns,qs,rfl,hW,ln,q⟩:=h
  refine⟨_,(B1 (C5 (i:=3) sc.nd rfl (by first | exact Or.inl rfl | exact Or.inr rfl) (Iw T.mkMarks G_Marks___init__ (hr.mono (Nat.le_refl _)) rfl T.mgMarks T.bMarks___init__ .nil K6 (A8 (pv 0) B2)))
   (B1 (C5 (i:=4) sc.nd rfl (by first | exact Or.inl rfl | exact Or.inr rfl) (Q1 B2))
   (B1 (E4 (C6 T.gather G_gather (hr.mono (Nat.le_refl _)) (@A8 _ _ _ _ _ (pv 3) (@A8 _ _ _ _ _ (pv 1) (@A8 _ _ _ _ _ (pv 2) (@A8 _ _ _ _ _ B8 (@A8 _ _ _ _ _ (peF K (pv 3)) (@A8 _ _ _ _ _ (pv 4) B2 (by rfl)) (by rfl)) (by rfl)) (by rfl)) (by rfl)) (by rfl))))
   (B3 (B9 (E9 (Kd K hr.units) T.b_sorted P1 (A8 (J5 (N':=["some", "marks"]) (cap:=[none,some 3]) (cl:=[("marks",_)]) (E8 ⟨⟨rfl,rfl,rfl,rfl⟩,trivial⟩ ⟨rfl,trivial⟩) rfl (piL K (pv 4)) (fun _ _ _ _=>by exact⟨(pgC 0),C8,(G0 (pv 1) T.clMarks T.mMarks_names_in.m G_Marks_names_in (hr.mono (Nat.le_refl _)) T.mMarks_names_in.b .nil K6 (A8 (pv 0) B2))⟩)) B2))))))),?_⟩
  refine B5 fun N1 hN1=>?_
  refine ex1 rfl ?_
  intro x dx nx ndx nex
  have s0:Same H (upd (upd H dx (.own x)) x (.ins T.CMarks dx [])):=fun b o e=>by
   rw[B7 (B0 e nx),B7 (B0 e ndx)]
   exact e
  refine⟨x,dx,wb,ns,qs,rfl,A9,hW.same s0,fun c A B L H1 hc k1 M1 mA mB=>⟨rfl,?_⟩⟩
  have s1:Same H H1:=fun b o e=>k1 b o (s0 b o e) (by simpa using B0 e nx)
  have hcn:H c=none:=s0.free hc
  refine hN1 _ _ (B5 fun N2 hN2=>?_)
  refine⟨CA _,fun l hl=>?_⟩
  have ul:=Same.new (o:=.lst []) hl
  have fl:(upd H1 l (.lst [])) l=some (.lst (([]:List Nat).map M8)):=A9
  have hln:H l=none:=s1.free hl
  have R2:MarksAt T.CMarks (er (upd H1 l (.lst [])) l) x c ns A B L:=M1.same fun b o e=>by
   have:b≠l:=B0 e hl
   rw[Re this,B7 this]
   exact e
  generalize upd H1 l (.lst [])=H2 at ul fl R2⊢
  have s2:=s1.trans ul
  have M2:=R2.same (Y6 H2 l)
  obtain⟨Ms,ndM,mM⟩:=Jz (n:=ns.length) (fun m=>Tg ns.length A B m) fun m h=>tl _ _ _ _ h
  obtain⟨q1,q2⟩:=q A B Ms mA mB ndM mM
  have fitz:∀m,Tg ns.length A B m/\Fits 0 L m↔Tg ns.length A B m:=fun m=>⟨(·.1),fun h=>⟨h,fun j z=>(by rw[DK]at z;cases z),fun j z y=>tq _ _ _ _ h j j z z ((M2.net.tr j j).mp ((M2.loops j).mp y))⟩⟩
  refine hN2 _ _ (B5 fun N3 hN3=>?_)
  obtain⟨dx',a,b,d,kb,e1,_⟩:=M2.ex
  refine ex1 rfl (ex1 rfl (ex1 rfl (ex1 rfl ⟨x,T.CMarks,dx',_,ex1 rfl ⟨e1,T.clMarks,T.nMarks_loops,rfl,ex1 rfl ⟨x,c,l,ns,A,B,L,0,L,[],rfl,R2,Low.zero _,fun j hj=>(M2.net.lt j j ((M2.net.tr j j).mp ((M2.loops j).mp hj))).1,Nat.le_trans List.countP_le_length (by rw[BX];exact ln),fl,by decide,fun Ls ndL mL=>⟨fun H3 le3 k3 R3 el3=>?_,fun gt=>?_⟩⟩⟩⟩)))
  ·have pm:Ls.Perm Ms:=(DT ndL ndM).mpr fun m=>by rw[mL,mM,fitz]
   rw[GW]at el3
   rw[GV,D_]at le3
   have M3:=R3.same (Y6 H3 l)
   have s3:Same H H3:=fun b o e=>k3 b o (s2 b o e) (by
    intro z
    rcases BD.mp z with rfl | z
    ·rw[hcn]at e;cases e
    ·rw[AD.mp z,hln]at e;cases e)
   refine hN3 _ _ ?_
   refine ex1 rfl ⟨l,rfl,⟨_,SqL.of el3⟩,fun D hD=>?_⟩
   refine Mq (ns:=ns) (asL (SqL.of el3)) (by omega) hD (fun m G R sG hR=>?_) fun σ' G ts sG eG LG nG mG=>?_
   ·have MG:=M3.same sG
    obtain⟨dx',a,b,d,kb,e1,_⟩:=MG.ex
    exact ex1 rfl ⟨x,dx',ex1 rfl ⟨e1,rfl,ex1 rfl ⟨x,c,ns,A,B,L,m,rfl,MG,fun z G' hz s' ez=>hR z G' hz s' ez⟩⟩⟩
   ·refine⟨D,ts,rfl,SqL.of eG,LG.at_,fun r ts' hr0 pt srt=>?_⟩
    have ur:=Same.new (o:=.lst (ts'.map fun t=>V.ref t.1)) hr0
    have hrn:H r=none:=(s3.trans sG).free hr0
    refine q1 r ts' _ (by rw[<-pm.length_eq];exact le3) ((s3.trans sG).trans ur) hrn A9 ⟨fun t ht=>ur _ _ (LG.at_ t (pt.mem_iff.mp ht)),(pt.map _).nodup_iff.mpr LG.nd,fun t ht=>s3.free (LG.new t (pt.mem_iff.mp ht))⟩ (fun t ht=>B0 (LG.at_ t (pt.mem_iff.mp ht)) hr0) ?_ srt
    refine(pt.map fun t=>t.2).trans ?_
    rw[mG]
    exact pm.map _
  ·rw[GV,D_]at gt
   have pm:Ls.Perm Ms:=(DT ndL ndM).mpr fun m=>by rw[mL,mM,fitz]
   exact q2 (by rw[<-pm.length_eq];exact gt)
def m8(CW:Addr)(Tg:Tgt):Sp:=fun vs H Q E=>∃(wb:Addr) (ns:List Str) (qs:List PA2),vs = [.ref wb]/\WebAt CW H wb ns qs/\ns.length<=10 /\
 ∀(A B Ms:List Nat),MB ns ((qs.map fun q=>q.2).map fun k=>(k.2,k.1)) A->MB ns (qs.map fun q=>q.2) B->Ms.Nodup->(∀m,m∈Ms↔Tg ns.length A B m) ->
  (∀r (ts:List (Addr×List Str)) H',Ms.length<=300->Same H H'->H r=none->H' r=some (.lst (ts.map fun t=>V.ref t.1))->LLn H H' ts->(∀t∈ts,t.1≠r)->(ts.map fun t=>t.2).Perm (Ms.map (setOf ns))->ts.Pairwise (fun a b=>TS.lexB (TS.kyS b.2) (TS.kyS a.2)=false)->Q (.ref r) H')/\(300<Ms.length->False)
theorem Y9:FnScope ["web"] ["web"] (B6 s_whole_sets):=⟨rfl,rfl,rfl,by decide +kernel,rfl,by decide +kernel,by decide +kernel⟩
theorem Ei(T:Tx K mg):FnOk P w K mg base CX0 18 T.whole_sets.f T.whole_sets.fd ["web"] (m8 T.CWeb O3):=by
 have G_all_found:FnOk P w K mg base CX0 17 T.all_found.f T.all_found.fd ["web", "settle", "greatest"] (Ag T.CWeb T.settle_whole.f O3) :=
  U7 T (fun _ _ _ _ h=>h.1.1) (fun _ _ _ _ h=>h.1.2.1) (g:=15) (by decide) (Y8 T (fun _ _ _ _ h=>h.1.1) (U1 T) T.settle_whole.F.kp T.settle_whole.b (by decide) 10)
 have sc:=Y9
 refine T.whole_sets.F.ok Y9 (fun vs H Q E h=>?_) (fun cdv A outer s H vs Q E hr h=>?_)
 ·obtain⟨wb,ns,qs,rfl,_⟩:=h
  rfl
 ·obtain⟨wb,ns,qs,rfl,hW,ln,q⟩:=h
  refine⟨_,(B3 (B9 (C6 T.all_found G_all_found (hr.mono (by decide)) (A8 (pv 0) (A8 (Uo T.settle_whole.m) (A8 M0 B2)))))),?_⟩
  exact ex1 rfl ⟨wb,ns,qs,rfl,hW,ln,q⟩
theorem T2:FnScope ["web"] ["web"] (B6 s_standing_sets):=⟨rfl,rfl,rfl,by decide +kernel,rfl,by decide +kernel,by decide +kernel⟩
theorem Aa(T:Tx K mg):FnOk P w K mg base CX0 18 T.standing_sets.f T.standing_sets.fd ["web"] (m8 T.CWeb StandM):=by
 have G_all_found:FnOk P w K mg base CX0 17 T.all_found.f T.all_found.fd ["web", "settle", "greatest"] (Ag T.CWeb T.settle_standing.f StandM) :=
  U7 T (fun _ _ _ _ h=>h.1) (fun _ _ _ _ h=>h.2.1) (g:=15) (by decide) ((Y8 T (fun _ _ _ _ h=>h.1) (Gg T) T.settle_standing.F.kp T.settle_standing.b (by decide) 10).mono (by decide))
 have sc:=T2
 refine T.standing_sets.F.ok T2 (fun vs H Q E h=>?_) (fun cdv A outer s H vs Q E hr h=>?_)
 ·obtain⟨wb,ns,qs,rfl,_⟩:=h
  rfl
 ·obtain⟨wb,ns,qs,rfl,hW,ln,q⟩:=h
  refine⟨_,(B3 (B9 (C6 T.all_found G_all_found (hr.mono (by decide)) (A8 (pv 0) (A8 (Uo T.settle_standing.m) (A8 M0 B2)))))),?_⟩
  exact ex1 rfl ⟨wb,ns,qs,rfl,hW,ln,q⟩
theorem S7:FnScope ["web"] ["web"] (B6 s_outright_sets):=⟨rfl,rfl,rfl,by decide +kernel,rfl,by decide +kernel,by decide +kernel⟩
theorem y9(T:Tx K mg):FnOk P w K mg base CX0 18 T.outright_sets.f T.outright_sets.fd ["web"] (m8 T.CWeb OutM):=by
 have G_all_found:FnOk P w K mg base CX0 17 T.all_found.f T.all_found.fd ["web", "settle", "greatest"] (Ag T.CWeb T.settle_outright.f OutM) :=
  U7 T (fun _ _ _ _ h=>h.1) (fun _ _ _ _ h=>h.2.1) (g:=15) (by decide) (Y8 T (fun _ _ _ _ h=>h.1) (f9 T) T.settle_outright.F.kp T.settle_outright.b (by decide) 10)
 have sc:=S7
 refine T.outright_sets.F.ok S7 (fun vs H Q E h=>?_) (fun cdv A outer s H vs Q E hr h=>?_)
 ·obtain⟨wb,ns,qs,rfl,_⟩:=h
  rfl
 ·obtain⟨wb,ns,qs,rfl,hW,ln,q⟩:=h
  refine⟨_,(B3 (B9 (C6 T.all_found G_all_found (hr.mono (by decide)) (A8 (pv 0) (A8 (Uo T.settle_outright.m) (A8 M0 B2)))))),?_⟩
  exact ex1 rfl ⟨wb,ns,qs,rfl,hW,ln,q⟩
end
def Anti(l:List Nat):Prop:=l.Pairwise fun a b=>¬Sub a b/\¬Sub b a
theorem Anti.nodup{l:List Nat}(h:Anti l):l.Nodup:=h.imp fun z e=>z.1 (by rw[e];exact fun j y=>y)
theorem Anti.few{n:Nat}(hn:n<=10){l:List Nat}(h:Anti l)(lo:∀m∈l,Low n m):l.length<=300:=Tk hn h.nodup lo fun a ha b hb s=>by
 obtain⟨i,hi,ei⟩:=EG ha
 obtain⟨j,hj,ej⟩:=EG hb
 have pw:=DV.mp h
 rcases Nat.lt_trichotomy i j with z | z | z
 ·have:=(pw i j hi hj z).1
  rw[ei,ej]at this
  exact absurd s this
 ·subst z;rw[<-ei,<-ej]
 ·have:=(pw j i hj hi z).2
  rw[ei,ej]at this
  exact absurd s this
theorem Xq(x y:Nat):decide (V.int (Builtin.bitAnd (x:Int) (y:Int))=V.int (x:Int))=true↔Sub x y:=by
 rw[AY,zAo]
 constructor
 ·intro e j hj
  have e:x &&& y=x:=by have:=V.int.inj e;omega
  rw[<-e,EI,BP]at hj
  exact hj.2
 ·intro h
  have e:x &&& y=x:=CP fun j=>by
   rw[EI,CK,BP]
   exact⟨(·.1),fun z=>⟨z,h j z⟩⟩
  rw[e]
theorem Yd{H G:Hp}{l:Addr}(s:Same H G):Same (er H l) (er G l):=fun b o e=>by
 have:b≠l:=fun z=>by subst z;unfold er at e;rw[AQ rfl]at e;cases e
 rw[Re this]at e⊢
 exact s b o e
section
variable{P:Program}{w:World}{K:PySem.W.Frag}{mg:Str->Option Value}{base:Heap}
def W1(C f:Addr)(Tg:Tgt)(k:Nat):Sp:=fun vs H Q _=>∃(x c l:Addr) (ns:List Str) (A B:List Nat) (L ch ba:Nat) (fs:List Nat),vs = [.ref x,.ref f,.bl true,.int (ch:Int),.int (ba:Int),.ref l]/\MarksAt C (er H l) x c ns A B L/\ns.length<=10/\Low ns.length ch/\Low ns.length ba/\und ns.length ch ba<=k/\H l=some (.lst (fs.map M8)) /\
 Anti fs/\(∀g∈fs,Low ns.length g)/\(∀g∈fs,∀m,Fits ch ba m->¬Sub g m) /\
 ∀(Ls:List Nat) H',Sm [c,l] H H'->MarksAt C (er H' l) x c ns A B L->H' l=some (.lst ((fs++Ls).map M8))->Anti (fs++Ls)->(∀m∈Ls,Tg ns.length A B m/\Fits ch ba m)->(∀m,Tg ns.length A B m->Fits ch ba m->∃g∈fs++Ls,Sub m g)->Q .non H'
set_option maxHeartbeats 4000000 in
theorem Bo(T:Tx K mg){f:Addr}{fd:FuncData}{Tg:Tgt}{n k:Nat}{S:Sp}(tl:∀n A B m,Tg n A B m->Low n m)(G_settle:FnOk P w K mg base CX0 n f fd ["marks", "chosen", "barred"] (P4 T.CMarks Tg))(hk_settle:PySem.W.keepIn K (.ref f)=true)(hb_settle:Binds K fd ["marks", "chosen", "barred"] [])
  (h1:1<=n) (G_gather:FnOk P w K mg base CX0 n T.gather.f T.gather.fd ["marks", "settle", "greatest", "chosen", "barred", "found"] S) (hS:∀k',k=k'+1->S=W1 T.CMarks f Tg k') :
  FnOk P w K mg base CX0 (n+1) T.gather.f T.gather.fd ["marks", "settle", "greatest", "chosen", "barred", "found"] (W1 T.CMarks f Tg k):=by
 have G_first_bit:FnOk P w K mg base CX0 n T.first_bit.f T.first_bit.fd ["some"] Ey:=(u6 T).mono h1
 have sc:=g7
 refine T.gather.F.ok g7 (fun vs H Q E h=>?_) (fun cdv A outer s H vs Q E hr h=>?_)
 ·obtain⟨x,c,l,ns,A,B,L,ch,ba,fs,rfl,_⟩:=h
  rfl
 ·obtain⟨x,c,l,ns,A,B,L,ch,ba,fs,rfl,hR,ln,loc,lob,hu,el,an,lof,nof,q⟩:=h
  have hM:=hR.same (Y6 H l)
  have lf:=an.few ln lof
  refine⟨_,(B1 (d6 (Ke (i:=1) G_settle (hr.mono (Nat.le_refl _)) hk_settle hb_settle K6 (A8 (pv 0) (A8 (pv 3) (A8 (pv 4) B2)))) (pgT K (n:=2) (C0 (C7 (i:=3) sc.nd rfl (by first | exact Or.inl rfl | exact Or.inr rfl)) (C0 (C7 (i:=4) sc.nd rfl (by first | exact Or.inl rfl | exact Or.inr rfl)) J2))))
   (B1 (J4 (ptV K (D9 X0 (pv 3) (pv 4))) (B3 o7) C4)
   (B1 (C5 (i:=6) sc.nd rfl (by first | exact Or.inl rfl | exact Or.inr rfl) (D9 Cp (peF K (pv 0)) (D9 n0 (pv 3) (pv 4))))
   (B1 (C5 (i:=7) sc.nd rfl (by first | exact Or.inl rfl | exact Or.inr rfl) (D9 n0 (pv 3) (pv 6)))
   (B1 (J4 (PW.pt (f7 (I9 (pv 2)) (U9 (I9 (E9 (Mg K) T.b_any Lb (A8 (J5 (N':=["one", "most"]) (cap:=[none,some 7]) (cl:=[("most",_)]) (E8 ⟨⟨rfl,rfl,rfl,rfl⟩,trivial⟩ ⟨rfl,trivial⟩) rfl (piL K (pv 5)) (fun _ _ _ _=>by exact⟨(pgC 0),C8,(I0 j8 (D9 X0 (pv 1) (pv 0)) (pv 1) (F0 _))⟩)) B2)))))) (B3 o7) C4)
   (B1 (J4 (K9 (ptV K (pv 6))) (B1 (J4 (C3 j8 (E9 (j7 K) T.b_len W8 (A8 (pv 5) B2)) (Wl T.gMOST) (F0 _)) (B3 Z7) C4)
   (B1 (E4 (Pz K PySem.F.plainAttrs_list PySem.F.slot_list_append PySem.F.type_list_append K8 (pv 5) (A8 (pv 3) B2)))
   (B3 o7))) C4)
   (B1 (C5 (i:=8) sc.nd rfl (by first | exact Or.inl rfl | exact Or.inr rfl) (C6 T.first_bit G_first_bit (hr.mono (Nat.le_refl _)) (A8 (pv 6) B2)))
   (B1 (E4 (C6 T.gather G_gather (hr.mono (Nat.le_refl _)) (@A8 _ _ _ _ _ (pv 0) (@A8 _ _ _ _ _ (pv 1) (@A8 _ _ _ _ _ (pv 2) (@A8 _ _ _ _ _ (D9 n0 (pv 3) (pv 8)) (@A8 _ _ _ _ _ (pv 4) (@A8 _ _ _ _ _ (pv 5) B2 (by rfl)) (by rfl)) (by rfl)) (by rfl)) (by rfl)) (by rfl))))
   (B3 (E4 (C6 T.gather G_gather (hr.mono (Nat.le_refl _)) (@A8 _ _ _ _ _ (pv 0) (@A8 _ _ _ _ _ (pv 1) (@A8 _ _ _ _ _ (pv 2) (@A8 _ _ _ _ _ (pv 3) (@A8 _ _ _ _ _ (D9 n0 (pv 4) (pv 8)) (@A8 _ _ _ _ _ (pv 5) B2 (by rfl)) (by rfl)) (by rfl)) (by rfl)) (by rfl)) (by rfl))))))))))))),?_⟩
  refine B5 fun N1 hN1=>?_
  refine⟨rfl,ex1 rfl (ex1 rfl (ex1 rfl ⟨x,c,ns,A,B,L,ch,ba,rfl,hM,loc,lob,fun t c1 b1 H1 k1 M1 et lo1 lo2 sub1 sub2 snd cpl=>?_⟩))⟩
  refine⟨t,_,rfl,SqT.of et,rfl,_,_,rfl,_,_,rfl,rfl,?_⟩
  have nlc:l≠c:=let⟨_,_,_,_,_,_,_,_,_,e5,_⟩:=hM.ex;Ti e5 el (fun _ z=>by cases z) fun _ _ z=>by cases z
  have el1:=Sm1 k1 el nlc
  have R1:=hR.er k1 M1 nlc
  have k1:Sm [c,l] H H1:=fun b o e nb=>k1 b o e fun z=>nb (BD.mpr (.inl (AD.mp z)))
  have none:∀G,Sm [c,l] H G->MarksAt T.CMarks (er G l) x c ns A B L->G l=some (.lst (fs.map M8))->(∀m,Tg ns.length A B m->Fits ch ba m->∃g∈fs,Sub m g)->Q .non G:=fun G kG RG eG h=>q [] G kG RG (by rw[CI];exact eG) (by rw[CI];exact an) (fun m z=>absurd z BK) (by rw[CI];exact h)
  refine hN1 _ _ (B5 fun N2 hN2=>?_)
  refine ex1 rfl (ex1 rfl (C1 rfl rfl ⟨_,rfl,U4 (fun cm=>?_) (fun cm=>?_)⟩))
  ·obtain⟨j,j1,j2⟩:=(V9 c1 b1).mp cm
   exact none H1 k1 R1 el1 fun m z y=>absurd j2 ((snd m z y).2 j ((snd m z y).1 j j1))
  have dis:∀j,c1.testBit j=true->¬b1.testBit j=true:=fun j z y=>cm ((V9 c1 b1).mpr ⟨j,z,y⟩)
  refine hN2 _ _ (B5 fun N3 hN3=>?_)
  obtain⟨dx,a,b,d,kb,e1,_⟩:=M1.ex
  obtain⟨u,eu,hu2⟩:=Yq (2^ns.length-1) (c1 ||| b1) fun j hj=>by
   rw[BR,CD]at hj
   exact(J1 _ _).mpr (hj.elim (lo1 j) (lo2 j))
  have hu2:∀j,u.testBit j=true↔j<ns.length/\¬c1.testBit j=true/\¬b1.testBit j=true:=fun j=>by
   rw[hu2,J1,BR,CD,not_or]
  refine ex1 rfl ⟨x,T.CMarks,dx,_,ex1 rfl ⟨e1,T.clMarks,T.nMarks_full,rfl,ex1 rfl (ex1 rfl (C1 rfl rfl ?_))⟩⟩
  dsimp only
  rw[bor]
  refine C1 rfl rfl ?_
  dsimp only
  rw[eu]
  refine hN3 _ _ (B5 fun N4 hN4=>?_)
  refine ex1 rfl (ex1 rfl (C1 rfl rfl ?_))
  dsimp only
  rw[bor]
  generalize hmost:(c1 ||| u)=most
  have hm:∀m,Tg ns.length A B m->Fits ch ba m->Sub m most:=fun m z y j hj=>by
   have f1:=snd m z y
   rw[<-hmost,BR,CD]
   by_cases h:c1.testBit j=true
   ·exact .inl h
   ·exact .inr ((hu2 j).mpr ⟨tl _ _ _ _ z j hj,h,f1.2 j hj⟩)
  refine hN4 _ _ (B5 fun N5 hN5=>?_)
  refine ex1 rfl ⟨_,rfl,Rx ?_⟩
  refine ex1 rfl ⟨l,rfl,⟨_,SqL.of el1⟩,fun D hD=>?_⟩
  refine Gm (fun g=>V.bl (pB (Sub most g))) (asL (SqL.of el1)) (fun _=>true) (by omega) hD (fun g hg G sG M hM=>hM G fun b o e=>e) (fun g hg G sG M hM=>?_) fun σ' G2 s2 e2=>?_
  ·refine ex1 rfl (ex1 rfl (C1 rfl rfl (ex1 rfl ⟨rfl,?_⟩)))
   rw[<-zCx (Xq most g)]at hM
   exact hM
  rw[DW.mpr fun _ _=>rfl]at e2
  have e2:G2 D=some (.lst ((fs.map fun g=>pB (Sub most g)).map V.bl)):=by rw[e2,CC];rfl
  refine⟨D,_,rfl,SqL.of e2,_,rfl,?_⟩
  have k2:=k1.trans s2.sm
  have R2:=R1.same (Yd s2)
  have el2:=s2 _ _ el1
  have M2:=M1.same s2
  refine U4 (fun ya=>?_) (fun na=>?_)
  ·obtain⟨_,hb,e⟩:=EM.mp ya
   obtain⟨g,hg,rfl⟩:=AK.mp hb
   exact none G2 k2 R2 el2 fun m z y=>⟨g,hg,fun j hj=>pB_iff.mp e j (hm m z y j hj)⟩
  have nsub:∀g∈fs,¬Sub most g:=fun g hg h=>na (EM.mpr ⟨_,AK.mpr ⟨g,hg,rfl⟩,pB_iff.mpr h⟩)
  refine hN5 _ _ (B5 fun N6 hN6=>?_)
  refine ex1 rfl ⟨_,rfl,U4 (fun z0=>?_) (fun z0=>?_)⟩
  ·have u0:u=0:=by
    rw[DZ,bne_eq_false_iff_eq]at z0
    omega
   have em:most=c1:=by rw[<-hmost,u0,Nat.or_zero]
   have all:∀j,j<ns.length->c1.testBit j=true\/b1.testBit j=true:=fun j hj=>by
    by_cases h:c1.testBit j=true
    ·exact .inl h
    ·by_cases h':b1.testBit j=true
     ·exact .inr h'
     ·have:=(hu2 j).mpr ⟨hj,h,h'⟩
      rw[u0,DK]at this
      cases this
   have tg:=cpl dis all
   have fc:Fits ch ba c1:=(show Fits c1 b1 c1 from⟨fun j h=>h,dis⟩).mono sub1 sub2
   have an2:Anti (fs ++ [c1]):=BZ.mpr ⟨an,DP _ _,fun g hg b hb=>by
    rw[AD.mp hb]
    exact⟨nof g hg c1 fc,fun h=>nsub g hg (em▸h)⟩⟩
   have l300:=an2.few ln fun m hm=>(AV.mp hm).elim (lof m) fun h=>by rw[AD.mp h];exact lo1
   rw[BA,F_]at l300
   have lm:(fs.map M8).length=fs.length:=AB ..
   refine B5 fun N7 hN7=>?_
   refine ex1 rfl (C1 (a:=l) rfl (.inl (SqL.of el2)) ⟨rfl,_,rfl,U4 (fun e3=>?_) (fun e3=>?_)⟩)
   ·have:=V.int.inj (AW e3)
    rw[lm]at this
    omega
   ·refine hN7 _ _ (B5 fun N8 hN8=>?_)
    refine ex1 rfl ⟨.inl ⟨rfl,_,SqL.of el2⟩,ex1 rfl ⟨l,_,_,rfl,rfl,el2,by rw[lm,sizeLine_eq];omega,hN8 _ _ ?_⟩⟩
    have:=q [c1] (upd G2 l (.lst (fs.map M8 ++ [.int (c1:Int)]))) (k2.upd (by simp)) (by rw[Vn];exact R2) (by rw[A9,AR];rfl) an2 (fun m hm=>by rw[AD.mp hm];exact⟨tg,fc⟩) fun m z y=>⟨c1,BV _ (AD.mpr rfl),by rw[Gz (tl _ _ _ _ z) all (snd m z y)];exact fun j h=>h⟩
    exact this
  ·have upos:0<u:=by
    rcases Nat.eq_zero_or_pos u with h | h
    ·exact absurd (by rw[h];rfl) z0
    ·exact h
   refine hN6 _ _ (B5 fun N7 hN7=>?_)
   refine ex1 rfl ⟨u,rfl,upos,fun kk hkk=>?_⟩
   obtain⟨k0,nc,nb⟩:=(hu2 kk).mp hkk
   have ss:∀a:Nat,Sub a (a ||| 2^kk):=fun a j h=>by rw[BR,h];rfl
   have sb:∀a:Nat,(a ||| 2^kk).testBit kk=true:=fun a=>by rw[BR,FP,Bool.or_true]
   have un1:=Mw (n:=ns.length) sub1 sub2
   have un2:=Kc (n:=ns.length) (ss c1) (fun j h=>h:Sub b1 b1) k0 ⟨nc,nb⟩ (.inl (sb c1))
   have un3:=Kc (n:=ns.length) (fun j h=>h:Sub c1 c1) (ss b1) k0 ⟨nc,nb⟩ (.inr (sb b1))
   obtain⟨k',rfl⟩:∃k',k=k'+1:=⟨k-1,by omega⟩
   have hSS:=hS k' rfl
   subst hSS
   refine hN7 _ _ (B5 fun N8 hN8=>?_)
   refine ex1 rfl (ex1 rfl (ex1 rfl (ex1 rfl (ex1 rfl (C1 rfl rfl ?_)))))
   refine ex1 rfl (ex1 rfl ⟨x,c,l,ns,A,B,L,c1 ||| 2^kk,b1,fs,by dsimp only;rw[bor];rfl,R2,ln,lo1.or k0,lo2,by omega,el2,an,lof,fun g hg m h=>nof g hg m ((fits_or.mp h).1.mono sub1 sub2),fun L1 H3 k3 R3 el3 an3 m3 cv3=>?_⟩)
   refine hN8 _ _ ?_
   refine ex1 rfl (ex1 rfl (ex1 rfl (ex1 rfl (ex1 rfl (ex1 rfl (C1 rfl rfl ?_))))))
   refine ex1 rfl ⟨x,c,l,ns,A,B,L,c1,b1 ||| 2^kk,fs++L1,by dsimp only;rw[bor];rfl,R3,ln,lo1,lo2.or k0,by omega,el3,an3,fun m hm=>(AV.mp hm).elim (lof m) fun h=>tl _ _ _ _ (m3 m h).1,fun g hg m h=>?_,fun L2 H4 k4 R4 el4 an4 m4 cv4=>?_⟩
   ·rcases AV.mp hg with hg | hg
    ·exact nof g hg m ((fits_bar.mp h).1.mono sub1 sub2)
    ·exact fun z=>(fits_bar.mp h).2 (z kk (fits_or.mp (m3 g hg).2).2)
   ·rw[BE]at el4 an4 cv4
    refine q (L1++L2) H4 (k2.trans (k3.trans k4)) R4 el4 an4 (fun m hm=>?_) fun m z y=>?_
    ·rcases AV.mp hm with h | h
     ·exact⟨(m3 m h).1,(fits_or.mp (m3 m h).2).1.mono sub1 sub2⟩
     ·exact⟨(m4 m h).1,(fits_bar.mp (m4 m h).2).1.mono sub1 sub2⟩
    ·have f1:=snd m z y
     by_cases h:m.testBit kk=true
     ·obtain⟨g,hg,sg⟩:=cv3 m z (fits_or.mpr ⟨f1,h⟩)
      refine⟨g,?_,sg⟩
      rw[<-BE]
      exact FM _ hg
     ·exact cv4 m z (fits_bar.mpr ⟨f1,h⟩)
theorem Db(T:Tx K mg){f:Addr}{fd:FuncData}{Tg:Tgt}{n:Nat}(tl:∀n A B m,Tg n A B m->Low n m)(G:FnOk P w K mg base CX0 n f fd ["marks", "chosen", "barred"] (P4 T.CMarks Tg))(hk:PySem.W.keepIn K (.ref f)=true)(hb:Binds K fd ["marks", "chosen", "barred"] [])(h1:1<=n) :
  ∀k,FnOk P w K mg base CX0 (n+1+k) T.gather.f T.gather.fd ["marks", "settle", "greatest", "chosen", "barred", "found"] (W1 T.CMarks f Tg k)
 | 0=>Bo T tl G hk hb h1 Kj fun k' e=>by omega
 | k+1=>Bo (n:=n+1+k) T tl (G.mono (by omega)) hk hb (by omega) (Db T tl G hk hb h1 k) fun k' e=>by cases e;rfl
def Xg(Tg:Tgt):Tgt:=fun n A B m=>Tg n A B m/\∀m',Tg n A B m'->Sub m m'->m'=m
theorem Fb{a b:Nat}(h:Sub a b)(h':Sub b a):a=b:=CP fun j=>CK.mpr ⟨h j,h' j⟩
def Hq(CW f:Addr)(Tg:Tgt):Sp:=fun vs H Q _=>∃(wb:Addr) (ns:List Str) (qs:List PA2),vs = [.ref wb,.ref f,.bl true]/\WebAt CW H wb ns qs/\ns.length<=10 /\
 ∀(A B Ms:List Nat),MB ns ((qs.map fun q=>q.2).map fun k=>(k.2,k.1)) A->MB ns (qs.map fun q=>q.2) B->Ms.Nodup->(∀m,m∈Ms↔Xg Tg ns.length A B m) ->
  ∀r (ts:List (Addr×List Str)) H',Same H H'->H r=none->H' r=some (.lst (ts.map fun t=>V.ref t.1))->LLn H H' ts->(∀t∈ts,t.1≠r)->(ts.map fun t=>t.2).Perm (Ms.map (setOf ns))->ts.Pairwise (fun a b=>TS.lexB (TS.kyS b.2) (TS.kyS a.2)=false)->Q (.ref r) H'
set_option maxHeartbeats 4000000 in
theorem Eu(T:Tx K mg){f:Addr}{Tg:Tgt}(tl:∀n A B m,Tg n A B m->Low n m)(tq:∀n A B m,Tg n A B m->Fk B m){g:Nat}(hg:3<=g)(G_gather:FnOk P w K mg base CX0 (g+1) T.gather.f T.gather.fd ["marks", "settle", "greatest", "chosen", "barred", "found"] (W1 T.CMarks f Tg 10)) :
  FnOk P w K mg base CX0 (g+2) T.all_found.f T.all_found.fd ["web", "settle", "greatest"] (Hq T.CWeb f Tg):=by
 have G_Marks___init__:FnOk P w K mg base CX0 g T.fMarks___init__ T.fdMarks___init__ ["self", "web"] (S4 T.CMarks T.CWeb):=(Z8 T).mono hg
 have G_Marks_names_in:FnOk P w K mg base CX0 (g+1) T.mMarks_names_in.f T.mMarks_names_in.fd ["self", "some"] (Y1 T.CMarks):=(Q7 T).mono (by omega)
 have sc:=P9
 refine T.all_found.F.ok P9 (fun vs H Q E h=>?_) (fun cdv A outer s H vs Q E hr h=>?_)
 ·obtain⟨wb,ns,qs,rfl,_⟩:=h
  rfl
 ·obtain⟨wb,ns,qs,rfl,hW,ln,q⟩:=h
  refine⟨_,(B1 (C5 (i:=3) sc.nd rfl (by first | exact Or.inl rfl | exact Or.inr rfl) (Iw T.mkMarks G_Marks___init__ (hr.mono (Nat.le_refl _)) rfl T.mgMarks T.bMarks___init__ .nil K6 (A8 (pv 0) B2)))
   (B1 (C5 (i:=4) sc.nd rfl (by first | exact Or.inl rfl | exact Or.inr rfl) (Q1 B2))
   (B1 (E4 (C6 T.gather G_gather (hr.mono (Nat.le_refl _)) (@A8 _ _ _ _ _ (pv 3) (@A8 _ _ _ _ _ (pv 1) (@A8 _ _ _ _ _ (pv 2) (@A8 _ _ _ _ _ B8 (@A8 _ _ _ _ _ (peF K (pv 3)) (@A8 _ _ _ _ _ (pv 4) B2 (by rfl)) (by rfl)) (by rfl)) (by rfl)) (by rfl)) (by rfl))))
   (B3 (B9 (E9 (Kd K hr.units) T.b_sorted P1 (A8 (J5 (N':=["some", "marks"]) (cap:=[none,some 3]) (cl:=[("marks",_)]) (E8 ⟨⟨rfl,rfl,rfl,rfl⟩,trivial⟩ ⟨rfl,trivial⟩) rfl (piL K (pv 4)) (fun _ _ _ _=>by exact⟨(pgC 0),C8,(G0 (pv 1) T.clMarks T.mMarks_names_in.m G_Marks_names_in (hr.mono (Nat.le_refl _)) T.mMarks_names_in.b .nil K6 (A8 (pv 0) B2))⟩)) B2))))))),?_⟩
  refine B5 fun N1 hN1=>?_
  refine ex1 rfl ?_
  intro x dx nx ndx nex
  have s0:Same H (upd (upd H dx (.own x)) x (.ins T.CMarks dx [])):=fun b o e=>by
   rw[B7 (B0 e nx),B7 (B0 e ndx)]
   exact e
  refine⟨x,dx,wb,ns,qs,rfl,A9,hW.same s0,fun c A B L H1 hc k1 M1 mA mB=>⟨rfl,?_⟩⟩
  have s1:Same H H1:=fun b o e=>k1 b o (s0 b o e) (by simpa using B0 e nx)
  have hcn:H c=none:=s0.free hc
  refine hN1 _ _ (B5 fun N2 hN2=>?_)
  refine⟨CA _,fun l hl=>?_⟩
  have ul:=Same.new (o:=.lst []) hl
  have fl:(upd H1 l (.lst [])) l=some (.lst (([]:List Nat).map M8)):=A9
  have hln:H l=none:=s1.free hl
  have R2:MarksAt T.CMarks (er (upd H1 l (.lst [])) l) x c ns A B L:=M1.same fun b o e=>by
   have:b≠l:=B0 e hl
   rw[Re this,B7 this]
   exact e
  generalize upd H1 l (.lst [])=H2 at ul fl R2⊢
  have s2:=s1.trans ul
  have M2:=R2.same (Y6 H2 l)
  obtain⟨Ms,ndM,mM⟩:=Jz (n:=ns.length) (fun m=>Xg Tg ns.length A B m) fun m h=>tl _ _ _ _ h.1
  have q1:=q A B Ms mA mB ndM mM
  have fitz:∀m,Tg ns.length A B m/\Fits 0 L m↔Tg ns.length A B m:=fun m=>⟨(·.1),fun h=>⟨h,fun j z=>(by rw[DK]at z;cases z),fun j z y=>tq _ _ _ _ h j j z z ((M2.net.tr j j).mp ((M2.loops j).mp y))⟩⟩
  refine hN2 _ _ (B5 fun N3 hN3=>?_)
  obtain⟨dx',a,b,d,kb,e1,_⟩:=M2.ex
  refine ex1 rfl (ex1 rfl (ex1 rfl (ex1 rfl ⟨x,T.CMarks,dx',_,ex1 rfl ⟨e1,T.clMarks,T.nMarks_loops,rfl,ex1 rfl ⟨x,c,l,ns,A,B,L,0,L,[],rfl,R2,ln,Low.zero _,fun j hj=>(M2.net.lt j j ((M2.net.tr j j).mp ((M2.loops j).mp hj))).1,Nat.le_trans List.countP_le_length (by rw[BX];exact ln),fl,List.Pairwise.nil,(fun g z=>absurd z BK),(fun g z=>absurd z BK),fun Ls H3 k3 R3 el3 an3 mL cv=>?_⟩⟩⟩)))
  ·rw[GW]at el3 an3
   have pm:Ls.Perm Ms:=(DT an3.nodup ndM).mpr fun m=>by
    rw[mM]
    have cov:∀m,Tg ns.length A B m->∃g∈Ls,Sub m g:=fun m h=>by
     obtain⟨g,hg,sg⟩:=cv m h ((fitz m).mpr h).2
     exact⟨g,by rw[GW]at hg;exact hg,sg⟩
    constructor
    ·intro h
     refine⟨(mL m h).1,fun m' t' s'=>?_⟩
     obtain⟨g,hg,sg⟩:=cov m' t'
     have e:m=g:=by
      obtain⟨i,hi,ei⟩:=EG h
      obtain⟨j,hj,ej⟩:=EG hg
      have pw:=DV.mp an3
      have smg:Sub m g:=fun j z=>sg j (s' j z)
      rcases Nat.lt_trichotomy i j with z | z | z
      ·have:=(pw i j hi hj z).1
       rw[ei,ej]at this
       exact absurd smg this
      ·subst z;rw[<-ei,<-ej]
      ·have:=(pw j i hj hi z).2
       rw[ei,ej]at this
       exact absurd smg this
     subst e
     exact Fb sg s'
    ·rintro⟨h1,h2⟩
     obtain⟨g,hg,sg⟩:=cov m h1
     rw[<-h2 g (mL g hg).1 sg]
     exact hg
   have le3:Ls.length<=300:=an3.few ln fun m hm=>tl _ _ _ _ (mL m hm).1
   have M3:=R3.same (Y6 H3 l)
   have s3:Same H H3:=fun b o e=>k3 b o (s2 b o e) (by
    intro z
    rcases BD.mp z with rfl | z
    ·rw[hcn]at e;cases e
    ·rw[AD.mp z,hln]at e;cases e)
   refine hN3 _ _ ?_
   refine ex1 rfl ⟨l,rfl,⟨_,SqL.of el3⟩,fun D hD=>?_⟩
   refine Mq (ns:=ns) (asL (SqL.of el3)) (by omega) hD (fun m G R sG hR=>?_) fun σ' G ts sG eG LG nG mG=>?_
   ·have MG:=M3.same sG
    obtain⟨dx',a,b,d,kb,e1,_⟩:=MG.ex
    exact ex1 rfl ⟨x,dx',ex1 rfl ⟨e1,rfl,ex1 rfl ⟨x,c,ns,A,B,L,m,rfl,MG,fun z G' hz s' ez=>hR z G' hz s' ez⟩⟩⟩
   ·refine⟨D,ts,rfl,SqL.of eG,LG.at_,fun r ts' hr0 pt srt=>?_⟩
    have ur:=Same.new (o:=.lst (ts'.map fun t=>V.ref t.1)) hr0
    have hrn:H r=none:=(s3.trans sG).free hr0
    refine q1 r ts' _ ((s3.trans sG).trans ur) hrn A9 ⟨fun t ht=>ur _ _ (LG.at_ t (pt.mem_iff.mp ht)),(pt.map _).nodup_iff.mpr LG.nd,fun t ht=>s3.free (LG.new t (pt.mem_iff.mp ht))⟩ (fun t ht=>B0 (LG.at_ t (pt.mem_iff.mp ht)) hr0) ?_ srt
    refine(pt.map fun t=>t.2).trans ?_
    rw[mG]
    exact pm.map _
def Lw(CW:Addr)(Tg:Tgt):Sp:=fun vs H Q _=>∃(wb:Addr) (ns:List Str) (qs:List PA2),vs = [.ref wb]/\WebAt CW H wb ns qs/\ns.length<=10 /\
 ∀(A B Ms:List Nat),MB ns ((qs.map fun q=>q.2).map fun k=>(k.2,k.1)) A->MB ns (qs.map fun q=>q.2) B->Ms.Nodup->(∀m,m∈Ms↔Xg Tg ns.length A B m) ->
  ∀r (ts:List (Addr×List Str)) H',Same H H'->H r=none->H' r=some (.lst (ts.map fun t=>V.ref t.1))->LLn H H' ts->(∀t∈ts,t.1≠r)->(ts.map fun t=>t.2).Perm (Ms.map (setOf ns))->ts.Pairwise (fun a b=>TS.lexB (TS.kyS b.2) (TS.kyS a.2)=false)->Q (.ref r) H'
theorem T6:FnScope ["web"] ["web"] (B6 s_greatest_sets):=⟨rfl,rfl,rfl,by decide +kernel,rfl,by decide +kernel,by decide +kernel⟩
theorem y4(T:Tx K mg):FnOk P w K mg base CX0 18 T.greatest_sets.f T.greatest_sets.fd ["web"] (Lw T.CWeb O3):=by
 have G_all_found:FnOk P w K mg base CX0 17 T.all_found.f T.all_found.fd ["web", "settle", "greatest"] (Hq T.CWeb T.settle_whole.f O3) :=
  Eu T (fun _ _ _ _ h=>h.1.1) (fun _ _ _ _ h=>h.1.2.1) (g:=15) (by decide) (Db T (fun _ _ _ _ h=>h.1.1) (U1 T) T.settle_whole.F.kp T.settle_whole.b (by decide) 10)
 have sc:=T6
 refine T.greatest_sets.F.ok T6 (fun vs H Q E h=>?_) (fun cdv A outer s H vs Q E hr h=>?_)
 ·obtain⟨wb,ns,qs,rfl,_⟩:=h
  rfl
 ·obtain⟨wb,ns,qs,rfl,hW,ln,q⟩:=h
  refine⟨_,(B3 (B9 (C6 T.all_found G_all_found (hr.mono (by decide)) (A8 (pv 0) (A8 (Uo T.settle_whole.m) (A8 M0 B2)))))),?_⟩
  exact ex1 rfl ⟨wb,ns,qs,rfl,hW,ln,q⟩
end
theorem As{K:PySem.W.Frag}{a D:Addr}{ts:List Str}{r:St}{tc:TT}{H:Hp}{Q:St->Hp->Prop}(p:Str->Bool)(e:H a=some (.lst (ts.map V.str)))(len:ts.length<=1000)(hD:H D=none)
  (ht:∀y∈ts,∀H1,Same H H1->∀Q':Bool->Hp->Prop,(∀H2,Same H1 H2->Q' (p y) H2)->tc (some (.str y)::r) H1 Q') (h:∀σ H2,Same H H2->H2 D=some (.lst ((ts.filter p).map V.str))->Q σ H2) (v0:Option V) :
  Ea (Q6 0) tc (p9 D (Ig 0)) (Itl K a) (v0::r) (upd H D (.lst [])) Q:=by
 refine O8 (asL (K:=K) (SqL.of e)) (fun i σ H3=>(∃v,σ=v::r)/\Same H H3/\H3 D=some (.lst (((ts.take i).filter p).map V.str)))
  ⟨⟨_,rfl⟩,Same.new hD,A9⟩ (fun i σ H1 _ ⟨_,s1,_⟩=>s1.at a) ?_ ?_
 ·rintro i σ H3 v N hx ⟨⟨v0,rfl⟩,s3,e3⟩ hN
  rw[AI]at hx
  obtain⟨y,hy,rfl⟩:=BS.mp hx
  refine ht y (BJ hy) H3 s3 _ fun H4 s4=>?_
  have e3:=s4 _ _ e3
  have s3:=s3.trans s4
  have hs:(ts.take (i+1)).filter p =(ts.take i).filter p++if p y=true then [y]else []:=by
   rw[take_succ hy,DR,CH,FY]
  have hl:(((ts.take i).filter p).map V.str).length<=1000:=by
   rw[AB]
   have:=BL p (ts.take i)
   rw[AS]at this
   omega
  refine U4 (fun c=>ex1 rfl ⟨_,e3,by rw[sizeLine_eq];omega,hN _ _ ⟨⟨_,rfl⟩,s3.upd hD,?_⟩⟩) (fun c=>hN _ _ ⟨⟨_,rfl⟩,s3,?_⟩)
  ·rw[A9,hs,AQ c,AR];rfl
  ·rw[hs,AJ c,CI];exact e3
 ·rintro σ H3 ⟨_,s3,e3⟩
  rw[AB,CG]at e3
  exact h σ H3 s3 e3
abbrev wIn:Str := "in"
abbrev wOut:Str := "out"
abbrev wOpen:Str := "open"
def WD(kvs:List (Key×V))(f:Str->Option Str):Prop:=∀n,U5 kvs (.inr n) =(f n).map V.str
def Kt(f:Str->Option Str)(l:List Str)(w:Str)(n:Str):Option Str:=if n∈l then some w else f n
theorem S6{f:Str->Option Str}{l:List Str}{w n:Str}(h:n∈l):Kt f l w n=some w:=AQ h
theorem K7{f:Str->Option Str}{l:List Str}{w n:Str}(h:n∉l):Kt f l w n=f n:=AJ h
theorem WD.mrg{w:Str}:∀{l:List Str} {kvs:List (Key×V)} {f:Str->Option Str},WD kvs f->WD (Fi kvs (l.map fun n=>(Sum.inr n,V.str w))) (Kt f l w)
 | [],_,_,h=>fun n=>by rw[K7 BK];exact h n
 | a::l,kvs,f,h=>fun n=>by
  have h1:WD (Cv kvs (.inr a) (.str w)) (Kt f [a] w):=fun m=>by
   rw[Jy]
   by_cases e:m=a
   ·rw[AQ e,S6 (AD.mpr e)];rfl
   ·rw[AJ e,K7 fun z=>e (AD.mp z)];exact h m
  refine(WD.mrg (l:=l) h1 n).trans ?_
  by_cases e:n∈l
  ·rw[S6 e,S6 (AM _ e)]
  ·rw[K7 e]
   by_cases e':n=a
   ·rw[S6 (AD.mpr e'),S6 (e'▸AU ..)]
   ·rw[K7 fun z=>e' (AD.mp z),K7 fun z=>(BD.mp z).elim e' e]
def Z0(qs:List PA2)(f:Str->Option Str)(n:Str):Bool:=((B4 qs n).map fun y=>decide (f y=some wOut)).all id
def Fa(qs:List PA2)(f:Str->Option Str)(n:Str):Bool:=((B4 qs n).map fun y=>decide (f y=some wIn)).any id
theorem allOut_iff{qs:List PA2}{f:Str->Option Str}{n:Str}:Z0 qs f n=true↔∀y∈B4 qs n,f y=some wOut:=by
 unfold Z0
 rw[List.all_map,CJ]
 exact⟨fun h y hy=>AW (h y hy),fun h y hy=>AH (h y hy)⟩
theorem oneIn_iff{qs:List PA2}{f:Str->Option Str}{n:Str}:Fa qs f n=true↔∃y∈B4 qs n,f y=some wIn:=by
 unfold Fa
 rw[List.any_map,EM]
 exact⟨fun⟨y,hy,h⟩=>⟨y,hy,AW h⟩,fun⟨y,hy,h⟩=>⟨y,hy,AH h⟩⟩
theorem Lk{K:PySem.W.Frag}{a D:Addr}{ts:List Str}{r:St}{te:TE}{H:Hp}{Q:St->Hp->Prop}(p:Str->Bool)(e:H a=some (.lst (ts.map V.str)))(len:ts.length<=1000)(hD:H D=none)
  (ht:∀y∈ts,∀H1,Same H H1->∀Q':VK,(∀H2,Same H1 H2->Q' (.bl (p y)) H2)->te (some (.str y)::r) H1 Q') (h:∀σ H2,Same H H2->H2 D=some (.lst ((ts.map p).map V.bl))->Q σ H2) (v0:Option V) :
  Ea (Q6 0) y6 (p9 D te) (Itl K a) (v0::r) (upd H D (.lst [])) Q:=by
 refine O8 (asL (K:=K) (SqL.of e)) (fun i σ H3=>(∃v,σ=v::r)/\Same H H3/\H3 D=some (.lst (((ts.take i).map p).map V.bl)))
  ⟨⟨_,rfl⟩,Same.new hD,A9⟩ (fun i σ H1 _ ⟨_,s1,_⟩=>s1.at a) ?_ ?_
 ·rintro i σ H3 v N hx ⟨⟨v0,rfl⟩,s3,e3⟩ hN
  rw[AI]at hx
  obtain⟨y,hy,rfl⟩:=BS.mp hx
  have hi:=(AG.mp hy).1
  refine An (ht y (BJ hy) H3 s3 _ fun H4 s4=>⟨_,s4 _ _ e3,?_,hN _ _ ⟨⟨_,rfl⟩,(s3.trans s4).upd hD,?_⟩⟩)
  ·rw[AB,AB,AS,sizeLine_eq];omega
  ·rw[A9,take_succ hy,AR,AR];rfl
 ·rintro σ H3 ⟨_,s3,e3⟩
  rw[AB,CG]at e3
  exact h σ H3 s3 e3
theorem Ld{K:PySem.W.Frag}{a D:Addr}{ts:List Str}{w:Str}{H:Hp}{Q:St->Hp->Prop}(e:H a=some (.lst (ts.map V.str)))(nd:ts.Nodup)(len:ts.length<=1000)(hD:H D=none)
  (h:∀σ H2,Same H H2->H2 D=some (.dK (ts.map fun n=>(Sum.inr n,V.str w)))->Q σ H2) (v0:Option V) :
  Ea (Q6 0) y6 (Qc D (Ig 0) (tC (.str w))) (Itl K a) [v0] (upd H D (.dK [])) Q:=by
 refine O8 (asL (K:=K) (SqL.of e)) (fun i σ H3=>(∃v,σ = [v])/\Same H H3/\H3 D=some (.dK ((ts.take i).map fun n=>(Sum.inr n,V.str w))))
  ⟨⟨_,rfl⟩,Same.new hD,A9⟩ (fun i σ H1 _ ⟨_,s1,_⟩=>s1.at a) ?_ ?_
 ·rintro i σ H3 v N hx ⟨⟨v0,rfl⟩,s3,e3⟩ hN
  rw[AI]at hx
  obtain⟨y,hy,rfl⟩:=BS.mp hx
  have hi:=(AG.mp hy).1
  refine An (ex1 rfl ⟨_,.inr y,e3,rfl,?_,hN _ _ ⟨⟨_,rfl⟩,s3.upd hD,?_⟩⟩)
  ·rw[AB,AS,sizeLine_eq];omega
  ·rw[A9]
   unfold Cv
   rw[AJ,take_succ hy,AR];rfl
   rw[List.any_map,EM]
   rintro⟨z,hz,c⟩
   have c:(Sum.inr z:Key) = .inr y:=AW c
   cases c
   exact t7 nd hy hz
 ·rintro σ H3 ⟨_,s3,e3⟩
  rw[AB,CG]at e3
  exact h σ H3 s3 e3
def RL(H:Hp)(l:Addr)(rs:List (Addr×Str×Str)):Prop:=H l=some (.lst (rs.map fun q=>V.ref q.1))/\∀q∈rs,∃v,H q.1=some (.tup [.str q.2.1,.str q.2.2,v])
theorem RL.same{H H':Hp}{l:Addr}{rs:List (Addr×Str×Str)}(h:RL H l rs)(s:Same H H'):RL H' l rs:=⟨s _ _ h.1,fun q hq=>let⟨v,e⟩:=h.2 q hq;⟨v,s _ _ e⟩⟩
theorem Ij{K:PySem.W.Frag}{a D:Addr}{ts:List Str}{w:Str}{v3:V}{t3:TE}{r:St}{H:Hp}{Q:St->Hp->Prop}(e:H a=some (.lst (ts.map V.str)))(len:ts.length<=1000)(hD:H D=none)(h3:∀y H1 (Q':VK),Q' v3 H1->t3 (some (.str y)::r) H1 Q')
  (h:∀σ rs H2,Same H H2->RL H2 D rs->rs.map (fun q=>q.2)=ts.map (fun n=>(n,w))->Q σ H2) (v0:Option V) :
  Ea (Q6 0) y6 (p9 D (zBw (Fd (Ig 0) (Fd (tC (.str w)) (Fd t3 Vo))))) (Itl K a) (v0::r) (upd H D (.lst [])) Q:=by
 refine O8 (asL (K:=K) (SqL.of e)) (fun i σ H3=>(∃v,σ=v::r)/\Same H H3/\∃rs,RL H3 D rs/\rs.map (fun q=>q.2) =(ts.take i).map fun n=>(n,w))
  ⟨⟨_,rfl⟩,Same.new hD,[],⟨A9,fun q h=>absurd h BK⟩,rfl⟩ (fun i σ H1 _ ⟨_,s1,_⟩=>s1.at a) ?_ ?_
 ·rintro i σ H3 v N hx ⟨⟨v0,rfl⟩,s3,rs,L3,q3⟩ hN
  rw[AI]at hx
  obtain⟨y,hy,rfl⟩:=BS.mp hx
  have hi:=(AG.mp hy).1
  have lr:=congrArg List.length q3
  rw[AB,AB,AS]at lr
  refine An (ex1 rfl (h3 _ _ _ ⟨by show 3<=sizeLine;decide,fun t ht=>?_⟩))
  have u4:=Same.new (o:=.tup [.str y,.str w,v3]) ht
  have ntD:t≠D:=(B0 L3.1 ht).symm
  refine⟨_,u4 _ _ L3.1,by rw[AB,sizeLine_eq];omega,hN _ _ ⟨⟨_,rfl⟩,(s3.trans u4).upd hD,rs ++ [(t,y,w)],⟨by rw[A9,AR];rfl,fun q hq=>?_⟩,by rw[take_succ hy,AR,AR,q3];rfl⟩⟩
  rcases AV.mp hq with c | c
  ·obtain⟨v,ev⟩:=L3.2 q c
   exact⟨v,(B7 (T9 ev L3.1 (by intro z;cases z))).trans (u4 _ _ ev)⟩
  ·rw[AD.mp c]
   exact⟨v3,(B7 ntD).trans A9⟩
 ·rintro σ H3 ⟨_,s3,rs,L3,q3⟩
  rw[AB,CG]at q3
  exact h σ rs H3 s3 L3 q3
section
variable{P:Program}{w:World}{K:PySem.W.Frag}{mg:Str->Option Value}{base:Heap}
def Y2(C:Addr):Sp:=fun vs H Q _=>∃(x d:Addr) (ns:List Str) (qs:List PA2) (kvs:List (Key×V)) (f:Str->Option Str),vs = [.ref x,.ref d]/\WebAt C H x ns qs/\H d=some (.dK kvs)/\WD kvs f/\∀l H',Same H H'->H l=none->H' l=some (.lst ((ns.filter fun n=>(f n).isNone).map V.str))->Q (.ref l) H'
theorem Be:FnScope ["web", "words"] ["web", "words"] (B6 s_wordless):=⟨rfl,rfl,rfl,by decide +kernel,rfl,by decide +kernel,by decide +kernel⟩
theorem Bs(T:Tx K mg):FnOk P w K mg base CX0 2 T.wordless.f T.wordless.fd ["web", "words"] (Y2 T.CWeb):=by
 have G_Web_all_names:FnOk P w K mg base CX0 1 T.mWeb_all_names.f T.mWeb_all_names.fd ["self"] (V0 T.CWeb):=T3 T
 have sc:=Be
 refine T.wordless.F.ok Be (fun vs H Q E h=>?_) (fun cdv A outer s H vs Q E hr h=>?_)
 ·obtain⟨x,d,ns,qs,kvs,f,rfl,_⟩:=h
  rfl
 ·obtain⟨x,d,ns,qs,kvs,f,rfl,hW,hd,hf,k⟩:=h
  have hu:=z9 hr
  refine⟨_,(B3 (B9 (J5 (N':=["name", "words"]) (cap:=[none,some 1]) (cl:=[("words",_)]) (E8 ⟨⟨rfl,rfl,rfl,rfl⟩,trivial⟩ ⟨rfl,trivial⟩) rfl (piL K (Mh (pv 0) T.clWeb T.mWeb_all_names.m G_Web_all_names (hr.mono (by decide)) T.mWeb_all_names.b .nil K6)) (fun _ _ _ _=>by exact⟨(pgC 0),(K4 (Yt (Sd hu (pv 0) (pv 1)))),(pv 0)⟩)))),?_⟩
  obtain⟨ok,dx,a1,b,c,d',kc,kd,e2,_⟩:=id hW
  have ln:=ok.len
  refine ex1 rfl ⟨x,dx,ex1 rfl ⟨e2,rfl,x,ns,qs,rfl,hW,fun l2 hl2=>?_⟩⟩
  have s2:=Same.new (o:=.lst (ns.map V.str)) hl2
  have f2:(upd H l2 (.lst (ns.map V.str))) l2=some (.lst (ns.map V.str)):=A9
  generalize upd H l2 (.lst (ns.map V.str))=H2 at s2 f2⊢
  refine⟨l2,rfl,⟨_,SqL.of f2⟩,fun D hD=>?_⟩
  refine As (fun n=>(f n).isNone) f2 (by omega) hD (fun y hy H3 s3 Q' hQ=>?_) (fun σ H3 s3 e3=>k D H3 (s2.trans s3) (s2.free hD) e3) _
  refine ex1 rfl (ex1 rfl ⟨d,_,rfl,DGet.k (k:=Sum.inr y) (s3 _ _ (s2 _ _ hd)),_,rfl,?_⟩)
  rw[hf y]
  have e:(!((f y).map V.str).isSome) =(f y).isNone:=by cases f y<;>rfl
  rw[e]
  exact hQ _ fun b o e=>e
def Du(C:Addr):Sp:=fun vs H Q _=>∃(x d:Addr) (n:Str) (ns:List Str) (qs:List PA2) (kvs:List (Key×V)) (f:Str->Option Str),vs = [.ref x,.ref d,.str n]/\WebAt C H x ns qs/\n∈ns/\H d=some (.dK kvs)/\WD kvs f/\∀H',Same H H'->Q (.bl (Z0 qs f n)) H'
def Gb(C:Addr):Sp:=fun vs H Q _=>∃(x d:Addr) (n:Str) (ns:List Str) (qs:List PA2) (kvs:List (Key×V)) (f:Str->Option Str),vs = [.ref x,.ref d,.str n]/\WebAt C H x ns qs/\n∈ns/\H d=some (.dK kvs)/\WD kvs f/\∀H',Same H H'->Q (.bl (Fa qs f n)) H'
theorem Wd{H:Hp}{d:Addr}{kvs:List (Key×V)}{f:Str->Option Str}{y w:Str}{r:St}{Q:VK}(hd:H d=some (.dK kvs))(hf:WD kvs f)(h:Q (.bl (decide (f y=some w))) H):tOp rEq (Vi (Ig 1) (Ig 0)) (tC (.str w)) (some (.str y)::some (.ref d)::r) H Q:=by
 refine ex1 rfl ⟨d,rfl,.inl ⟨kvs,.inl hd⟩,ex1 rfl ⟨_,DGet.k (k:=Sum.inr y) hd,?_⟩⟩
 rw[hf y]
 cases e:f y with
 | none=>rw[e]at h;exact⟨rfl,h⟩
 | some z =>
  rw[e]at h
  refine⟨rfl,?_⟩
  have e':decide (V.str z=V.str w)=decide (some z=some w):=decide_eq_decide.mpr ⟨fun c=>by injection c with c;rw[c],fun c=>by injection c with c;rw[c]⟩
  show Q (.bl (decide (V.str z=V.str w))) H
  rw[e'];exact h
theorem Dt:FnScope ["web", "words", "name"] ["web", "words", "name"] (B6 s_all_out):=⟨rfl,rfl,rfl,by decide +kernel,rfl,by decide +kernel,by decide +kernel⟩
theorem Hi:FnScope ["web", "words", "name"] ["web", "words", "name"] (B6 s_one_in):=⟨rfl,rfl,rfl,by decide +kernel,rfl,by decide +kernel,by decide +kernel⟩
theorem Nn(T:Tx K mg):FnOk P w K mg base CX0 3 T.all_out.f T.all_out.fd ["web", "words", "name"] (Du T.CWeb):=by
 have G_Web_strikers:FnOk P w K mg base CX0 2 T.mWeb_strikers.f T.mWeb_strikers.fd ["self", "name"] (S2 T.CWeb):=P8 T
 have sc:=Dt
 refine T.all_out.F.ok Dt (fun vs H Q E h=>?_) (fun cdv A outer s H vs Q E hr h=>?_)
 ·obtain⟨x,d,n,ns,qs,kvs,f,rfl,_⟩:=h
  rfl
 ·obtain⟨x,d,n,ns,qs,kvs,f,rfl,hW,hn,hd,hf,k⟩:=h
  have hu:=z9 hr
  refine⟨_,(B3 (B9 (E9 (V5 K) T.b_all U0 (A8 (J5 (N':=["striker", "words"]) (cap:=[none,some 1]) (cl:=[("words",_)]) (E8 ⟨⟨rfl,rfl,rfl,rfl⟩,trivial⟩ ⟨rfl,trivial⟩) rfl (piL K (G0 (pv 0) T.clWeb T.mWeb_strikers.m G_Web_strikers (hr.mono (by decide)) T.mWeb_strikers.b .nil K6 (A8 (pv 2) B2))) (fun _ _ _ _=>by exact⟨(pgC 0),C8,(I0 j8 (Ln hu (pv 1) (pv 0) ⟨rfl,rfl,rfl,rfl⟩) W7 (F0 _))⟩)) B2)))),?_⟩
  obtain⟨ok,dx,a1,b,c,d',kc,kd,e2,_⟩:=id hW
  have lq:=ok.lenq
  have ls:(B4 qs n).length<=qs.length:=by unfold B4;rw[AB];exact BL ..
  refine ex1 rfl ⟨x,dx,ex1 rfl ⟨e2,rfl,ex1 rfl ⟨x,n,ns,qs,rfl,hW,hn,fun l2 hl2=>?_⟩⟩⟩
  have s2:=Same.new (o:=.lst ((B4 qs n).map V.str)) hl2
  have f2:(upd H l2 (.lst ((B4 qs n).map V.str))) l2=some (.lst ((B4 qs n).map V.str)):=A9
  generalize upd H l2 (.lst ((B4 qs n).map V.str))=H2 at s2 f2⊢
  refine⟨l2,rfl,⟨_,SqL.of f2⟩,fun D hD=>?_⟩
  exact Lk (fun y=>decide (f y=some wOut)) f2 (by omega) hD (fun y hy H3 s3 Q' hQ=>Wd (s3 _ _ (s2 _ _ hd)) hf (hQ _ fun b o e=>e)) (fun σ H3 s3 e3=>⟨D,_,rfl,SqL.of e3,k H3 (s2.trans s3)⟩) _
theorem Ql(T:Tx K mg):FnOk P w K mg base CX0 3 T.one_in.f T.one_in.fd ["web", "words", "name"] (Gb T.CWeb):=by
 have G_Web_strikers:FnOk P w K mg base CX0 2 T.mWeb_strikers.f T.mWeb_strikers.fd ["self", "name"] (S2 T.CWeb):=P8 T
 have sc:=Hi
 refine T.one_in.F.ok Hi (fun vs H Q E h=>?_) (fun cdv A outer s H vs Q E hr h=>?_)
 ·obtain⟨x,d,n,ns,qs,kvs,f,rfl,_⟩:=h
  rfl
 ·obtain⟨x,d,n,ns,qs,kvs,f,rfl,hW,hn,hd,hf,k⟩:=h
  have hu:=z9 hr
  refine⟨_,(B3 (B9 (E9 (Mg K) T.b_any Lb (A8 (J5 (N':=["striker", "words"]) (cap:=[none,some 1]) (cl:=[("words",_)]) (E8 ⟨⟨rfl,rfl,rfl,rfl⟩,trivial⟩ ⟨rfl,trivial⟩) rfl (piL K (G0 (pv 0) T.clWeb T.mWeb_strikers.m G_Web_strikers (hr.mono (by decide)) T.mWeb_strikers.b .nil K6 (A8 (pv 2) B2))) (fun _ _ _ _=>by exact⟨(pgC 0),C8,(I0 j8 (Ln hu (pv 1) (pv 0) ⟨rfl,rfl,rfl,rfl⟩) W7 (F0 _))⟩)) B2)))),?_⟩
  obtain⟨ok,dx,a1,b,c,d',kc,kd,e2,_⟩:=id hW
  have lq:=ok.lenq
  have ls:(B4 qs n).length<=qs.length:=by unfold B4;rw[AB];exact BL ..
  refine ex1 rfl ⟨x,dx,ex1 rfl ⟨e2,rfl,ex1 rfl ⟨x,n,ns,qs,rfl,hW,hn,fun l2 hl2=>?_⟩⟩⟩
  have s2:=Same.new (o:=.lst ((B4 qs n).map V.str)) hl2
  have f2:(upd H l2 (.lst ((B4 qs n).map V.str))) l2=some (.lst ((B4 qs n).map V.str)):=A9
  generalize upd H l2 (.lst ((B4 qs n).map V.str))=H2 at s2 f2⊢
  refine⟨l2,rfl,⟨_,SqL.of f2⟩,fun D hD=>?_⟩
  exact Lk (fun y=>decide (f y=some wIn)) f2 (by omega) hD (fun y hy H3 s3 Q' hQ=>Wd (s3 _ _ (s2 _ _ hd)) hf (hQ _ fun b o e=>e)) (fun σ H3 s3 e3=>⟨D,_,rfl,SqL.of e3,k H3 (s2.trans s3)⟩) _
end
theorem Ox:∀{l m:List Str},l.Nodup->(∀x∈l,x∈m)->l.length<=m.length
 | [],_,_,_=>CA _
 | x::l,m,nd,h=>by
  obtain⟨n1,n2⟩:=DB.mp nd
  have hx:=h x (AU ..)
  have h1:=Ox (m:=m.erase x) n2 fun y hy=>(List.mem_erase_of_ne (fun z:y=x=>n1 (z▸hy))).mpr (h y (AM _ hy))
  rw[List.length_erase_of_mem hx]at h1
  have:=List.length_pos_of_mem hx
  rw[BN]
  omega
theorem Ch{ns:List Str}{qs:List PA2}(h:∀q∈qs,q.2.1∈ns/\q.2.2∈ns):∀n∈ns,∀y∈B4 qs n,y∈ns:=fun n _ y hy=>by
 obtain⟨q,hq,rfl⟩:=AK.mp hy
 exact(h q (AL.mp hq).1).1
def Gr(ns:List Str)(sr:Str->List Str)(n:Str):Prop:=∀S:Str->Prop,(∀m∈ns,(∀y∈sr m,∃z∈sr y,S z)->S m)->S n
theorem Gr.closed{ns:List Str}{sr:Str->List Str}{m:Str}(hm:m∈ns)(h:∀y∈sr m,∃z∈sr y,Gr ns sr z):Gr ns sr m:=fun S hS=>hS m hm fun y hy=>let⟨z,h1,h2⟩:=h y hy;⟨z,h1,h2 S hS⟩
structure RInv(ns:List Str)(qs:List PA2)(f:Str->Option Str):Prop where
 sub:∀n w,f n=some w->n∈ns
 val:∀n w,f n=some w->w=wIn\/w=wOut
 gr:∀n,f n=some wIn->Gr ns (B4 qs) n
 ino:∀n,f n=some wIn->∀y∈B4 qs n,f y=some wOut
 outi:∀n,f n=some wOut->∃z∈B4 qs n,f z=some wIn
section
variable{ns l:List Str}{qs:List PA2}{f:Str->Option Str}{w w' n:Str}
theorem i7(hl:∀n∈l,f n=none)(h:f n=some w):Kt f l w' n=some w:=by rw[K7 fun z=>by rw[hl n z]at h;cases h];exact h
theorem J3(h:Kt f l w' n=some w):(n∈l/\w=w')\/f n=some w:=by
 by_cases c:n∈l
 ·rw[S6 c]at h;exact .inl ⟨c,(BH h).symm⟩
 ·rw[K7 c]at h;exact .inr h
theorem Qg:wIn≠wOut:=by decide +kernel
theorem RInv.ins(h:RInv ns qs f)(hl:∀n∈l,n∈ns/\f n=none/\∀y∈B4 qs n,f y=some wOut):RInv ns qs (Kt f l wIn) where
 sub:=fun n w e=>(J3 e).elim (fun z=>(hl n z.1).1) (h.sub n w)
 val:=fun n w e=>(J3 e).elim (fun z=>.inl z.2) (h.val n w)
 gr:=fun n e=>(J3 e).elim (fun z=>Gr.closed (hl n z.1).1 fun y hy=>let⟨v,h1,h2⟩:=h.outi y ((hl n z.1).2.2 y hy);⟨v,h1,h.gr v h2⟩) (h.gr n)
 ino:=fun n e y hy=>i7 (fun m hm=>(hl m hm).2.1) ((J3 e).elim (fun z=>(hl n z.1).2.2 y hy) fun z=>h.ino n z y hy)
 outi:=fun n e=>(J3 e).elim (fun z=>absurd z.2.symm Qg) fun z=>let⟨v,h1,h2⟩:=h.outi n z;⟨v,h1,i7 (fun m hm=>(hl m hm).2.1) h2⟩
theorem RInv.outs(h:RInv ns qs f)(hl:∀n∈l,n∈ns/\f n=none/\∃z∈B4 qs n,f z=some wIn):RInv ns qs (Kt f l wOut) where
 sub:=fun n w e=>(J3 e).elim (fun z=>(hl n z.1).1) (h.sub n w)
 val:=fun n w e=>(J3 e).elim (fun z=>.inr z.2) (h.val n w)
 gr:=fun n e=>(J3 e).elim (fun z=>absurd z.2 Qg) (h.gr n)
 ino:=fun n e y hy=>i7 (fun m hm=>(hl m hm).2.1) ((J3 e).elim (fun z=>absurd z.2 Qg) fun z=>h.ino n z y hy)
 outi:=fun n e=>let⟨v,h1,h2⟩:=(J3 e).elim (fun z=>(hl n z.1).2.2) (h.outi n);⟨v,h1,i7 (fun m hm=>(hl m hm).2.1) h2⟩
theorem RInv.fin(h:RInv ns qs f)(ok:WebOk ns qs)(h1:∀n∈ns,f n=none->¬Z0 qs f n=true)(h2:∀n∈ns,f n=none->¬Fa qs f n=true)(n:Str):f n=some wIn↔Gr ns (B4 qs) n:=by
 refine⟨h.gr n,fun g=>g (fun m=>f m=some wIn) fun m hm hy=>?_⟩
 have out:∀y∈B4 qs m,f y=some wOut:=fun y hy'=>by
  obtain⟨z,hz,ez⟩:=hy y hy'
  cases e:f y with
  | none=>exact absurd (oneIn_iff.mpr ⟨z,hz,ez⟩) (h2 y (Ch ok.mem m hm y hy') e)
  | some w =>
   rcases h.val y w e with rfl | rfl
   ·have:=h.ino y e z hz
    rw[ez]at this
    exact absurd (BH this) Qg
   ·rfl
 cases e:f m with
 | none=>exact absurd (allOut_iff.mpr out) (h1 m hm e)
 | some w =>
  rcases h.val m w e with rfl | rfl
  ·rfl
  ·obtain⟨z,hz,ez⟩:=h.outi m e
   rw[out z hz]at ez
   exact absurd (BH ez).symm Qg
def wl(ns:List Str)(f:Str->Option Str):List Str:=ns.filter fun n=>(f n).isNone
def U8(ns:List Str)(qs:List PA2)(f:Str->Option Str):List Str:=(wl ns f).filter (Z0 qs f)
def M5(ns:List Str)(qs:List PA2)(f:Str->Option Str):List Str:=(wl ns f).filter (Fa qs f)
def Ab(ns:List Str)(qs:List PA2)(f:Str->Option Str):Str->Option Str:=Kt f (U8 ns qs f) wIn
def nxt(ns:List Str)(qs:List PA2)(f:Str->Option Str):Str->Option Str:=Kt (Ab ns qs f) (M5 ns qs (Ab ns qs f)) wOut
def Cu(ns:List Str)(qs:List PA2)(f:Str->Option Str):List (Str×Str):=((U8 ns qs f).map fun n=>(n,wIn)) ++(M5 ns qs (Ab ns qs f)).map fun n=>(n,wOut)
theorem mem_wl:n∈wl ns f↔n∈ns/\f n=none:=by unfold wl;rw[AL,Option.isNone_iff_eq_none]
theorem Et(h:n∈U8 ns qs f):n∈ns/\f n=none/\∀y∈B4 qs n,f y=some wOut:=by
 obtain⟨h1,h2⟩:=AL.mp h
 exact⟨(mem_wl.mp h1).1,(mem_wl.mp h1).2,allOut_iff.mp h2⟩
theorem Am(h:n∈M5 ns qs f):n∈ns/\f n=none/\∃z∈B4 qs n,f z=some wIn:=by
 obtain⟨h1,h2⟩:=AL.mp h
 exact⟨(mem_wl.mp h1).1,(mem_wl.mp h1).2,oneIn_iff.mp h2⟩
theorem RInv.next(h:RInv ns qs f):RInv ns qs (nxt ns qs f):=(h.ins fun _ hn=>Et hn).outs fun _ hn=>Am hn
theorem Wc(hl:∀n∈l,n∈ns/\f n=none)(nd:l.Nodup)(nn:ns.Nodup):(wl ns (Kt f l w)).length+l.length<=(wl ns f).length:=by
 rw[<-BA]
 refine Ox (EE.mpr ⟨nn.filter _,nd,fun a ha b hb e=>?_⟩) fun x hx=>?_
 ·have:=(mem_wl.mp ha).2
  rw[e,S6 hb]at this
  cases this
 ·rcases AV.mp hx with c | c
  ·obtain⟨c1,c2⟩:=mem_wl.mp c
   refine mem_wl.mpr ⟨c1,?_⟩
   by_cases d:x∈l
   ·rw[S6 d]at c2;cases c2
   ·rw[K7 d]at c2;exact c2
  ·exact mem_wl.mpr (hl x c)
theorem Pa(nn:ns.Nodup):(wl ns (nxt ns qs f)).length +(Cu ns qs f).length<=(wl ns f).length:=by
 have h1:=Wc (w:=wIn) (l:=U8 ns qs f) (fun n h=>⟨(Et h).1,(Et h).2.1⟩) ((nn.filter _).filter _) nn
 have h2:=Wc (f:=Ab ns qs f) (w:=wOut) (l:=M5 ns qs (Ab ns qs f)) (fun n h=>⟨(Am h).1,(Am h).2.1⟩) ((nn.filter _).filter _) nn
 unfold Cu
 rw[BA,AB,AB]
 have e1:wl ns (Kt f (U8 ns qs f) wIn)=wl ns (Ab ns qs f):=rfl
 have e2:wl ns (Kt (Ab ns qs f) (M5 ns qs (Ab ns qs f)) wOut)=wl ns (nxt ns qs f):=rfl
 rw[e1]at h1
 rw[e2]at h2
 omega
theorem Kw(h:Cu ns qs f = []):nxt ns qs f=f/\(∀n∈ns,f n=none->¬Z0 qs f n=true)/\∀n∈ns,f n=none->¬Fa qs f n=true:=by
 obtain⟨h1,h2⟩:=List.append_eq_nil_iff.mp h
 have h1:=List.map_eq_nil_iff.mp h1
 have h2:=List.map_eq_nil_iff.mp h2
 have e1:Ab ns qs f=f:=by unfold Ab;rw[h1];exact funext fun n=>K7 BK
 rw[e1]at h2
 refine⟨?_,fun n hn e c=>?_,fun n hn e c=>?_⟩
 ·unfold nxt;rw[e1,h2];exact funext fun n=>K7 BK
 ·have:n∈U8 ns qs f:=AL.mpr ⟨mem_wl.mpr ⟨hn,e⟩,c⟩
  rw[h1]at this;exact absurd this BK
 ·have:n∈M5 ns qs f:=AL.mpr ⟨mem_wl.mpr ⟨hn,e⟩,c⟩
  rw[h2]at this;exact absurd this BK
structure RRows(rs:List (Str×Str))(f:Str->Option Str):Prop where
 nd:(rs.map fun r=>r.1).Nodup
 iff:∀n w,(n,w)∈rs↔f n=some w
theorem RRows.put{rs:List (Str×Str)}(h:RRows rs f)(hl:∀n∈l,f n=none)(nd:l.Nodup):RRows (rs++l.map fun n=>(n,w)) (Kt f l w) where
 nd:=by
  rw[AR,CC,show(l.map ((fun r:Str×Str=>r.1)∘fun n=>(n,w)))=l from List.map_id _]
  refine EE.mpr ⟨h.nd,nd,fun a ha b hb e=>?_⟩
  obtain⟨r,hr,rfl⟩:=AK.mp ha
  have:=(h.iff r.1 r.2).mp hr
  rw[e,hl b hb]at this
  cases this
 iff:=fun n v=>by
  rw[AV,h.iff,AK]
  constructor
  ·rintro(c | ⟨m,hm,e⟩)
   ·exact i7 hl c
   ·cases e;exact S6 hm
  ·intro c
   rcases J3 c with⟨d,rfl⟩ | d
   ·exact .inr ⟨n,d,rfl⟩
   ·exact .inl d
theorem RRows.next{rs:List (Str×Str)}(h:RRows rs f)(nn:ns.Nodup):RRows (rs++Cu ns qs f) (nxt ns qs f):=by
 unfold Cu
 rw[<-BE]
 exact(h.put (fun n hn=>(Et hn).2.1) ((nn.filter _).filter _)).put (fun n hn=>(Am hn).2.1) ((nn.filter _).filter _)
end
theorem Sn{H H':Hp}{d b:Addr}{o:HO}(k:Sm [d] H H')(e:H' d=some o)(h:H' b=none):H b=none:=by
 cases e':H b with
 | none=>rfl
 | some o' =>
  have:=Sm1 k e' (B0 e h).symm
  rw[h]at this
  cases this
theorem Same.smd{H0 H H':Hp}{d:Addr}(s:Same H0 H)(h:H0 d=none)(k:Sm [d] H H'):Same H0 H':=fun b o e=>Sm1 k (s b o e) (B0 e h)
section
variable{P:Program}{w:World}{K:PySem.W.Frag}{mg:Str->Option Value}{base:Heap}
def w8(C:Addr):Sp:=fun vs H Q _=>∃(H0:Hp) (x d:Addr) (num:Int) (ns:List Str) (qs:List PA2) (kvs:List (Key×V)) (f:Str->Option Str),vs = [.ref x,.ref d,.int num]/\Same H0 H/\H0 d=none/\WebAt C H0 x ns qs/\H d=some (.dK kvs)/\WD kvs f/\kvs.length<=1000000 /\
 ∀l rs kvs' H',Sm [d] H H'->H l=none->RL H' l rs->rs.map (fun q=>q.2)=Cu ns qs f->H' d=some (.dK kvs')->WD kvs' (nxt ns qs f)->kvs'.length<=kvs.length+200->Q (.ref l) H'
theorem u3:FnScope ["web", "words", "number", "ins", "outs"] ["web", "words", "number"] (B6 s_one_round):=⟨rfl,rfl,rfl,by decide +kernel,rfl,by decide +kernel,by decide +kernel⟩
set_option maxHeartbeats 4000000 in
theorem Hv(T:Tx K mg):FnOk P w K mg base CX0 4 T.one_round.f T.one_round.fd ["web", "words", "number"] (w8 T.CWeb):=by
 have G_wordless:FnOk P w K mg base CX0 2 T.wordless.f T.wordless.fd ["web", "words"] (Y2 T.CWeb):=Bs T
 have G_all_out:FnOk P w K mg base CX0 3 T.all_out.f T.all_out.fd ["web", "words", "name"] (Du T.CWeb):=Nn T
 have G_one_in:FnOk P w K mg base CX0 3 T.one_in.f T.one_in.fd ["web", "words", "name"] (Gb T.CWeb):=Ql T
 have sc:=u3
 refine T.one_round.F.ok u3 (fun vs H Q E h=>?_) (fun cdv A outer s H vs Q E hr h=>?_)
 ·obtain⟨H0,x,d,num,ns,qs,kvs,f,rfl,_⟩:=h
  rfl
 ·obtain⟨H0,x,d,num,ns,qs,kvs,f,rfl,s0,hd0,hW,hd,hf,hk,k⟩:=h
  refine⟨_,(B1 (Eb (i:=3) (N':=["name", "web", "words"]) (cap:=[none,some 0,some 1]) (cl:=[("words",_),("web",_)]) sc.nd rfl (by first | exact Or.inl rfl | exact Or.inr rfl) (E8 ⟨⟨rfl,rfl,rfl,rfl⟩,⟨⟨rfl,rfl,rfl,rfl⟩,trivial⟩⟩ ⟨rfl,⟨rfl,trivial⟩⟩) rfl (piL K (C6 T.wordless G_wordless (hr.mono (by decide)) (A8 (pv 0) (A8 (pv 1) B2)))) (fun _ _ _ _=>by exact⟨(pgC 0),(K4 (I9 (C6 T.all_out G_all_out (hr.mono (by decide)) (A8 (pv 1) (A8 (pv 2) (A8 (pv 0) B2)))))),(pv 0)⟩))
   (B1 (E4 (Rj (pv 1) (Jm (N':=["name"]) (cap:=[none]) (cl:=[]) (E8 trivial trivial) rfl (piL K (pv 3)) (fun _ _ _ _=>by exact⟨(pgC 0),C8,(pv 0),W7⟩)) ⟨rfl,rfl,rfl,rfl⟩))
   (B1 (Eb (i:=4) (N':=["name", "web", "words"]) (cap:=[none,some 0,some 1]) (cl:=[("words",_),("web",_)]) sc.nd rfl (by first | exact Or.inl rfl | exact Or.inr rfl) (E8 ⟨⟨rfl,rfl,rfl,rfl⟩,⟨⟨rfl,rfl,rfl,rfl⟩,trivial⟩⟩ ⟨rfl,⟨rfl,trivial⟩⟩) rfl (piL K (C6 T.wordless G_wordless (hr.mono (by decide)) (A8 (pv 0) (A8 (pv 1) B2)))) (fun _ _ _ _=>by exact⟨(pgC 0),(K4 (I9 (C6 T.one_in G_one_in (hr.mono (by decide)) (A8 (pv 1) (A8 (pv 2) (A8 (pv 0) B2)))))),(pv 0)⟩))
   (B1 (E4 (Rj (pv 1) (Jm (N':=["name"]) (cap:=[none]) (cl:=[]) (E8 trivial trivial) rfl (piL K (pv 4)) (fun _ _ _ _=>by exact⟨(pgC 0),C8,(pv 0),W7⟩)) ⟨rfl,rfl,rfl,rfl⟩))
   (B3 (B9 (D9 Pq (J5 (N':=["name", "number"]) (cap:=[none,some 2]) (cl:=[("number",_)]) (E8 ⟨⟨rfl,rfl,rfl,rfl⟩,trivial⟩ ⟨rfl,trivial⟩) rfl (piL K (pv 3)) (fun _ _ _ _=>by exact⟨(pgC 0),C8,(O6 (A8 (pv 0) (A8 W7 (A8 (pv 1) B2))))⟩)) (J5 (N':=["name", "number"]) (cap:=[none,some 2]) (cl:=[("number",_)]) (E8 ⟨⟨rfl,rfl,rfl,rfl⟩,trivial⟩ ⟨rfl,trivial⟩) rfl (piL K (pv 4)) (fun _ _ _ _=>by exact⟨(pgC 0),C8,(O6 (A8 (pv 0) (A8 W7 (A8 (pv 1) B2))))⟩))))))))),?_⟩
  have ok:=hW.ok
  have ln:=ok.len
  have nn:=ok.nd
  have lfl:∀g:Str->Option Str,(wl ns g).length<=100:=fun g=>Nat.le_trans (BL ..) ln
  have li:(U8 ns qs f).length<=100:=Nat.le_trans (BL ..) (lfl _)
  have lo:(M5 ns qs (Ab ns qs f)).length<=100:=Nat.le_trans (BL ..) (lfl _)
  refine B5 fun N1 hN1=>?_
  refine ex1 rfl (ex1 rfl ⟨x,d,ns,qs,kvs,f,rfl,hW.same s0,hd,hf,fun l1 H1 s1 hl1 e1=>?_⟩)
  refine⟨l1,rfl,⟨_,SqL.of e1⟩,fun D1 hD1=>?_⟩
  refine As (Z0 qs f) e1 (Nat.le_trans (lfl f) (by decide)) hD1 (fun y hy G sg Q' hQ=>?_) (fun σ H2 s2 e2=>?_) _
  ·refine ex1 rfl (ex1 rfl (ex1 rfl ⟨x,d,y,ns,qs,kvs,f,rfl,(hW.same s0).same (s1.trans sg),(mem_wl.mp hy).1,(s1.trans sg) _ _ hd,hf,fun G' sg'=>⟨_,rfl,hQ G' sg'⟩⟩))
  have e2:H2 D1=some (.lst ((U8 ns qs f).map V.str)):=e2
  have s12:=s1.trans s2
  have hd2:=s12 _ _ hd
  refine hN1 _ _ (B5 fun N2 hN2=>?_)
  refine ex1 rfl ⟨d,rfl,.inl ⟨_,.inl hd2⟩,ex1 rfl ⟨D1,rfl,⟨_,SqL.of e2⟩,fun E1 hE1=>?_⟩⟩
  refine Ld e2 ((nn.filter _).filter _) (Nat.le_trans li (by decide)) hE1 (fun σ H3 s3 e3=>?_) _
  have hd3:=s3 _ _ hd2
  have k1:=hf.mrg (w:=wIn) (l:=U8 ns qs f)
  have m1:=Y3 kvs ((U8 ns qs f).map fun n=>(Sum.inr n,V.str wIn))
  rw[AB]at m1
  refine⟨E1,kvs,_,rfl,hd3,e3,(B0 hd2 hE1),by rw[AB,sizeLine_eq];omega,hN2 _ _ (B5 fun N3 hN3=>?_)⟩
  have n1:D1≠d:=T9 (s3 _ _ e2) hd3 (by intro z;cases z)
  have k4:Sm [d] H (upd H3 d (.dK (Fi kvs ((U8 ns qs f).map fun n=>(Sum.inr n,V.str wIn))))):=(s12.trans s3).sm.upd (by simp)
  have d4:(upd H3 d (.dK (Fi kvs ((U8 ns qs f).map fun n=>(Sum.inr n,V.str wIn))))) d=some (.dK (Fi kvs ((U8 ns qs f).map fun n=>(Sum.inr n,V.str wIn)))):=A9
  have e4:(upd H3 d (.dK (Fi kvs ((U8 ns qs f).map fun n=>(Sum.inr n,V.str wIn))))) D1=some (.lst ((U8 ns qs f).map V.str)):=(B7 n1).trans (s3 _ _ e2)
  generalize Fi kvs ((U8 ns qs f).map fun n=>(Sum.inr n,V.str wIn))=kv1 at k1 m1 k4 d4 e4⊢
  generalize upd H3 d (.dK kv1)=H4 at k4 d4 e4⊢
  have W4:=hW.same (Same.smd s0 hd0 k4)
  have k1:WD kv1 (Ab ns qs f):=k1
  clear s1 s2 s12 s3 e1 e2 e3 hd2 hd3 hl1 hD1 hE1
  refine ex1 rfl (ex1 rfl ⟨x,d,ns,qs,kv1,Ab ns qs f,rfl,W4,d4,k1,fun l2 H5 s5 hl2 e5=>?_⟩)
  refine⟨l2,rfl,⟨_,SqL.of e5⟩,fun D2 hD2=>?_⟩
  refine As (Fa qs (Ab ns qs f)) e5 (Nat.le_trans (lfl _) (by decide)) hD2 (fun y hy G sg Q' hQ=>?_) (fun σ H6 s6 e6=>?_) _
  ·refine ex1 rfl (ex1 rfl (ex1 rfl ⟨x,d,y,ns,qs,kv1,Ab ns qs f,rfl,W4.same (s5.trans sg),(mem_wl.mp hy).1,(s5.trans sg) _ _ d4,k1,fun G' sg'=>⟨_,rfl,hQ G' sg'⟩⟩))
  have e6:H6 D2=some (.lst ((M5 ns qs (Ab ns qs f)).map V.str)):=e6
  have s56:=s5.trans s6
  have hd6:=s56 _ _ d4
  refine hN3 _ _ (B5 fun N4 hN4=>?_)
  refine ex1 rfl ⟨d,rfl,.inl ⟨_,.inl hd6⟩,ex1 rfl ⟨D2,rfl,⟨_,SqL.of e6⟩,fun E2 hE2=>?_⟩⟩
  refine Ld e6 ((nn.filter _).filter _) (Nat.le_trans lo (by decide)) hE2 (fun σ H7 s7 e7=>?_) _
  have hd7:=s7 _ _ hd6
  have k2:=k1.mrg (w:=wOut) (l:=M5 ns qs (Ab ns qs f))
  have m2:=Y3 kv1 ((M5 ns qs (Ab ns qs f)).map fun n=>(Sum.inr n,V.str wOut))
  rw[AB]at m2
  refine⟨E2,kv1,_,rfl,hd7,e7,(B0 hd6 hE2),by rw[AB,sizeLine_eq];omega,hN4 _ _ ?_⟩
  have n2:D2≠d:=T9 (s7 _ _ e6) hd7 (by intro z;cases z)
  have k8:Sm [d] H (upd H7 d (.dK (Fi kv1 ((M5 ns qs (Ab ns qs f)).map fun n=>(Sum.inr n,V.str wOut))))):=(k4.trans (s56.trans s7).sm).upd (by simp)
  have d8:(upd H7 d (.dK (Fi kv1 ((M5 ns qs (Ab ns qs f)).map fun n=>(Sum.inr n,V.str wOut))))) d=some (.dK (Fi kv1 ((M5 ns qs (Ab ns qs f)).map fun n=>(Sum.inr n,V.str wOut)))):=A9
  have a8:(upd H7 d (.dK (Fi kv1 ((M5 ns qs (Ab ns qs f)).map fun n=>(Sum.inr n,V.str wOut))))) D1=some (.lst ((U8 ns qs f).map V.str)):=(B7 n1).trans (s7 _ _ (s56 _ _ e4))
  have b8:(upd H7 d (.dK (Fi kv1 ((M5 ns qs (Ab ns qs f)).map fun n=>(Sum.inr n,V.str wOut))))) D2=some (.lst ((M5 ns qs (Ab ns qs f)).map V.str)):=(B7 n2).trans (s7 _ _ e6)
  generalize Fi kv1 ((M5 ns qs (Ab ns qs f)).map fun n=>(Sum.inr n,V.str wOut))=kv2 at k2 m2 k8 d8 a8 b8⊢
  generalize upd H7 d (.dK kv2)=H8 at k8 d8 a8 b8⊢
  have k2:WD kv2 (nxt ns qs f):=k2
  refine ex1 rfl ⟨D1,rfl,⟨_,SqL.of a8⟩,fun R1 hR1=>?_⟩
  refine Ij (v3:=.int num) a8 (Nat.le_trans li (by decide)) hR1 (fun y G Q' hq=>⟨_,rfl,hq⟩) (fun σ rs1 H9 s9 L9 q9=>?_) _
  refine ex1 rfl ⟨D2,rfl,⟨_,SqL.of (s9 _ _ b8)⟩,fun R2 hR2=>?_⟩
  refine Ij (v3:=.int num) (s9 _ _ b8) (Nat.le_trans lo (by decide)) hR2 (fun y G Q' hq=>⟨_,rfl,hq⟩) (fun σ rs2 HA sA LA qA=>?_) _
  have L9:=L9.same sA
  have lr1:=congrArg List.length q9
  have lr2:=congrArg List.length qA
  rw[AB,AB]at lr1 lr2
  refine⟨R1,R2,_,_,rfl,rfl,L9.1,LA.1,by rw[AB,AB,sizeLine_eq];omega,fun c hc=>?_⟩
  have uB:=Same.new (o:=.lst ((rs1.map fun q=>V.ref q.1)++rs2.map fun q=>V.ref q.1)) hc
  have s8A:=s9.trans sA
  refine k c (rs1++rs2) kv2 _ (k8.trans (s8A.trans uB).sm) (Sn (k8.trans s8A.sm) (s8A _ _ d8) hc) ⟨by rw[A9,AR],fun q hq=>?_⟩ ?_ (uB _ _ (s8A _ _ d8)) k2 (by omega)
  ·rcases AV.mp hq with z | z
   ·obtain⟨v,ev⟩:=L9.2 q z;exact⟨v,uB _ _ ev⟩
   ·obtain⟨v,ev⟩:=LA.2 q z;exact⟨v,uB _ _ ev⟩
  ·rw[AR,q9,qA];rfl
end
theorem RL.smd{H H':Hp}{l d:Addr}{rs:List (Addr×Str×Str)}{kvs:List (Key×V)}(h:RL H l rs)(e:H d=some (.dK kvs))(k:Sm [d] H H'):RL H' l rs :=
 ⟨Sm1 k h.1 (T9 h.1 e (by intro z;cases z)),fun q hq=>let⟨v,ev⟩:=h.2 q hq;⟨v,Sm1 k ev (T9 ev e (by intro z;cases z))⟩⟩
structure RRes(ns:List Str)(qs:List PA2)(rr:List (Str×Str)):Prop where
 nd:(rr.map fun r=>r.1).Nodup
 iff:∀n,(n,wIn)∈rr↔Gr ns (B4 qs) n
 len:rr.length<=300
def Ze(H:Hp)(ns:List Str)(qs:List PA2)(Q:VK):Prop:=∀l rs H',Same H H'->H l=none->RL H' l rs->RRes ns qs (rs.map fun q=>q.2)->Q (.ref l) H'
theorem Xj:wIn≠wOpen:=by decide +kernel
theorem Wk{ns:List Str}{qs:List PA2}{f:Str->Option Str}{rr:List (Str×Str)}(ok:WebOk ns qs)(R:RInv ns qs f)(W:RRows rr f)(h1:∀n∈ns,f n=none->¬Z0 qs f n=true)(h2:∀n∈ns,f n=none->¬Fa qs f n=true):RRes ns qs (rr ++(wl ns f).map fun n=>(n,wOpen)) where
 nd:=by
  rw[AR,CC,show((wl ns f).map ((fun r:Str×Str=>r.1)∘fun n=>(n,wOpen)))=wl ns f from List.map_id _]
  refine EE.mpr ⟨W.nd,ok.nd.filter _,fun a ha b hb e=>?_⟩
  obtain⟨r,hr,rfl⟩:=AK.mp ha
  have:=(W.iff r.1 r.2).mp hr
  rw[e,(mem_wl.mp hb).2]at this
  cases this
 iff:=fun n=>by
  rw[<-R.fin ok h1 h2 n,<-W.iff,AV,AK]
  exact⟨fun h=>h.elim id fun⟨m,_,e⟩=>absurd (congrArg Prod.snd e).symm Xj,.inl⟩
 len:=by
  have a1:rr.length<=ns.length:=by
   have:=Ox (m:=ns) W.nd fun x hx=>by
    obtain⟨r,hr,rfl⟩:=AK.mp hx
    exact R.sub r.1 r.2 ((W.iff r.1 r.2).mp hr)
   rwa [AB]at this
  have a2:(wl ns f).length<=ns.length:=BL ..
  have:=ok.len
  rw[BA,AB]
  omega
section
variable{P:Program}{w:World}{K:PySem.W.Frag}{mg:Str->Option Value}{base:Heap}
def Fp(C:Addr):Sp:=fun vs H Q _=>∃(x d0:Addr) (ns:List Str) (qs:List PA2),vs = [.ref x,.ref d0]/\WebAt C H x ns qs/\H d0=some (.dK [])/\Ze H ns qs Q
theorem T0:FnScope ["web", "known", "words", "rows", "number", "fresh"] ["web", "known"] (B6 s_rounds_beside):=⟨rfl,rfl,rfl,by decide +kernel,rfl,by decide +kernel,by decide +kernel⟩
set_option maxHeartbeats 4000000 in
theorem y8(T:Tx K mg):FnOk P w K mg base CX0 5 T.rounds_beside.f T.rounds_beside.fd ["web", "known"] (Fp T.CWeb):=by
 have G_wordless:FnOk P w K mg base CX0 2 T.wordless.f T.wordless.fd ["web", "words"] (Y2 T.CWeb):=Bs T
 have G_one_round:FnOk P w K mg base CX0 4 T.one_round.f T.one_round.fd ["web", "words", "number"] (w8 T.CWeb):=Hv T
 have sc:=T0
 refine T.rounds_beside.F.ok T0 (fun vs H Q E h=>?_) (fun cdv A outer s H vs Q E hr h=>?_)
 ·obtain⟨x,d0,ns,qs,rfl,_⟩:=h
  rfl
 ·obtain⟨x,d0,ns,qs,rfl,hW,hd0,k⟩:=h
  refine⟨_,(B1 (C5 (i:=2) sc.nd rfl (by first | exact Or.inl rfl | exact Or.inr rfl) (Is Xm T.b_dict Xy (A8 (pv 1) B2)))
   (B1 (C5 (i:=3) sc.nd rfl (by first | exact Or.inl rfl | exact Or.inr rfl) (Q1 B2))
   (B1 (C5 (i:=4) sc.nd rfl (by first | exact Or.inl rfl | exact Or.inr rfl) B8)
   (B1 (C5 (i:=5) sc.nd rfl (by first | exact Or.inl rfl | exact Or.inr rfl) (C6 T.one_round G_one_round (hr.mono (by decide)) (A8 (pv 0) (A8 (pv 2) (A8 (pv 4) B2)))))
   (B1 (Ai PassesOwn.never (ptV K (pv 5)) (B1 (E4 (Pz K PySem.F.plainAttrs_list PySem.F.slot_list_extend PySem.F.type_list_extend Sj (pv 3) (A8 (pv 5) B2)))
   (B1 (Vy (i:=4) sc.nd rfl (Or.inl rfl) B8 Zn)
   (B3 (C5 (i:=5) sc.nd rfl (by first | exact Or.inl rfl | exact Or.inr rfl) (C6 T.one_round G_one_round (hr.mono (by decide)) (A8 (pv 0) (A8 (pv 2) (A8 (pv 4) B2)))))))))
   (B3 (B9 (D9 Pq (pv 3) (J5 (N':=["name"]) (cap:=[none]) (cl:=[]) (E8 trivial trivial) rfl (piL K (C6 T.wordless G_wordless (hr.mono (by decide)) (A8 (pv 0) (A8 (pv 2) B2)))) (fun _ _ _ _=>by exact⟨(pgC 0),C8,(O6 (A8 (pv 0) (A8 W7 (A8 zAw B2))))⟩)))))))))),?_⟩
  have ok:=hW.ok
  have ln:=ok.len
  have nn:=ok.nd
  have lwl:∀g:Str->Option Str,(wl ns g).length<=100:=fun g=>Nat.le_trans (BL ..) ln
  refine B5 fun N1 hN1=>?_
  refine ex1 rfl ⟨d0,_,rfl,hd0,fun d hd=>?_⟩
  have u1:=Same.new (o:=.dK []) hd
  have f1:(upd H d (.dK [])) d=some (.dK []):=A9
  generalize upd H d (.dK [])=H1 at u1 f1⊢
  refine hN1 _ _ (B5 fun N2 hN2=>?_)
  refine⟨CA _,fun r hr0=>?_⟩
  have u2:=Same.new (o:=.lst []) hr0
  have f2:(upd H1 r (.lst [])) r=some (.lst []):=A9
  generalize upd H1 r (.lst [])=H2 at u2 f2⊢
  have hr':=u1.free hr0
  refine hN2 _ _ (B5 fun N3 hN3=>?_)
  refine hN3 _ _ (B5 fun N4 hN4=>?_)
  have R0:RInv ns qs fun _=>none:=⟨fun n w h=>(by cases h),fun n w h=>(by cases h),fun n h=>(by cases h),fun n h=>(by cases h),fun n h=>(by cases h)⟩
  have W0:RRows [] fun _=>none:=⟨List.nodup_nil,fun n w=>⟨fun h=>absurd h BK,fun h=>by cases h⟩⟩
  refine ex1 rfl (ex1 rfl (ex1 rfl ⟨H,x,d,1,ns,qs,[],fun _=>none,rfl,u1.trans u2,hd,hW,u2 _ _ f1,fun n=>rfl,CA _,fun l rs kvs H3 k3 hl L3 q3 e3 wd3 len3=>?_⟩))
  have L2:RL H2 r []:=⟨f2,fun q h=>absurd h BK⟩
  have lr:l≠r:=(B0 f2 hl).symm
  have rw0:=Pa (ns:=ns) (qs:=qs) (f:=fun _=>none) nn
  have lw0:=lwl fun _=>none
  refine hN4 _ _ (B5 fun N5 hN5=>?_)
  refine⟨fun m σ H4=>∃(num:Int) (kk:Nat) (l:Addr) (kvs:List (Key×V)) (f:Str->Option Str) (rd rs:List (Addr×Str×Str)),σ = [some (.ref x),some (.ref d0),some (.ref d),some (.ref r),some (.int num),some (.ref l)]/\Same H H4/\H4 d=some (.dK kvs)/\WD kvs f/\kvs.length<=200*kk/\RL H4 r rd/\RL H4 l rs/\l≠r/\RInv ns qs f /\
   RRows ((rd.map fun q=>q.2)++rs.map fun q=>q.2) f/\(rs = []->(∀n∈ns,f n=none->¬Z0 qs f n=true)/\∀n∈ns,f n=none->¬Fa qs f n=true)/\m =(wl ns f).length+rs.length/\kk+m<=101/\rd.length<=200*kk,⟨_,1,1,l,kvs,_,[],rs,rfl,Same.smd (u1.trans u2) hd k3,e3,wd3,len3,L2.smd (u2 _ _ f1) k3,L3,lr,R0.next,by rw[q3];exact W0.next nn,fun h=>?_,rfl,?_,CA _⟩,?_⟩
  ·rw[h]at q3
   obtain⟨z1,z2,z3⟩:=Kw q3.symm
   rw[z1];exact⟨z2,z3⟩
  ·have:=congrArg List.length q3
   rw[AB]at this
   omega
  rintro m σ H4 ⟨num,kk,l,kvs,f,rd,rs,rfl,s4,e4,wd4,len4,Lr,Ll,nlr,R4,W4,cl4,rfl,hm4,ld4⟩
  refine ex1 rfl ⟨_,.inl ⟨_,SqL.of Ll.1,rfl⟩,?_⟩
  cases rs with
  | nil =>
   refine U3 (hN5 _ _ ?_)
   obtain⟨c1,c2⟩:=cl4 rfl
   rw[List.map_nil,CI]at W4
   refine ex1 rfl (ex1 rfl (ex1 rfl ⟨x,d,ns,qs,kvs,f,rfl,hW.same s4,e4,wd4,fun l1 H5 s5 hl1 e5=>⟨l1,rfl,⟨_,SqL.of e5⟩,fun D hD=>?_⟩⟩))
   refine Ij (v3:=.non) (r:=[]) e5 (Nat.le_trans (lwl f) (by decide)) hD (fun y G Q' hq=>hq) (fun σ rs2 H6 s6 L6 q6=>?_) _
   have s56:=s5.trans s6
   have Lr:=Lr.same s56
   have l2:=congrArg List.length q6
   rw[AB,AB]at l2
   have:=lwl f
   have l2:rs2.length =(wl ns f).length:=l2
   refine⟨r,D,_,_,rfl,rfl,Lr.1,L6.1,by rw[AB,AB,sizeLine_eq];omega,fun c hc=>?_⟩
   have u7:=Same.new (o:=.lst ((rd.map fun q=>V.ref q.1)++rs2.map fun q=>V.ref q.1)) hc
   have s46:=s4.trans s56
   refine k c (rd++rs2) _ (s46.trans u7) (s46.free hc) ⟨by rw[A9,AR],fun q hq=>?_⟩ (by rw[AR,q6];exact Wk ok R4 W4 c1 c2)
   rcases AV.mp hq with z | z
   ·obtain⟨v,ev⟩:=Lr.2 q z;exact⟨v,u7 _ _ ev⟩
   ·obtain⟨v,ev⟩:=L6.2 q z;exact⟨v,u7 _ _ ev⟩
  | cons q0 rs' =>
   refine Rx ⟨_,fun _ _ z=>z,B5 fun M1 hM1=>?_⟩
   have lrs:(q0::rs').length<=101:=by omega
   refine ex1 rfl ⟨.inl ⟨rfl,_,SqL.of Lr.1⟩,ex1 rfl ⟨r,l,_,_,rfl,rfl,Lr.1,Ll.1,by rw[AB,AB,sizeLine_eq];omega,hM1 _ _ (B5 fun M2 hM2=>?_)⟩⟩
   have s5:=s4.upd (o:=.lst ((rd.map fun q=>V.ref q.1) ++(q0::rs').map fun q=>V.ref q.1)) hr'
   have nrd:r≠d:=T9 Lr.1 e4 (by intro z;cases z)
   have e5:(upd H4 r (.lst ((rd.map fun q=>V.ref q.1) ++(q0::rs').map fun q=>V.ref q.1))) d=some (.dK kvs):=(B7 nrd.symm).trans e4
   have L5:RL (upd H4 r (.lst ((rd.map fun q=>V.ref q.1) ++(q0::rs').map fun q=>V.ref q.1))) r (rd++q0::rs'):=⟨by rw[A9,AR],fun q hq=>by
    obtain⟨v,ev⟩:∃v,H4 q.1=some (.tup [.str q.2.1,.str q.2.2,v]):=(AV.mp hq).elim (Lr.2 q) (Ll.2 q)
    exact⟨v,(B7 (T9 ev Lr.1 (by intro z;cases z))).trans ev⟩⟩
   generalize upd H4 r (.lst ((rd.map fun q=>V.ref q.1) ++(q0::rs').map fun q=>V.ref q.1))=H5 at s5 e5 L5⊢
   refine ex1 rfl ⟨_,_,rfl,rfl,hM2 _ _ ?_⟩
   refine ex1 rfl (ex1 rfl (ex1 rfl ⟨H,x,d,_,ns,qs,kvs,f,rfl,s5,hd,hW,e5,wd4,by omega,fun l' rs2 kv2 H6 k6 hl6 L6 q6 e6 wd6 len6=>?_⟩))
   have rwl:=Pa (ns:=ns) (qs:=qs) (f:=f) nn
   have l6:=congrArg List.length q6
   rw[AB]at l6
   have lc:(q0::rs').length=rs'.length+1:=rfl
   refine⟨(wl ns (nxt ns qs f)).length+rs2.length,by omega,_,kk+1,l',kv2,nxt ns qs f,rd++q0::rs',rs2,rfl,Same.smd s5 hd k6,e6,wd6,by omega,L5.smd e5 k6,L6,(B0 L5.1 hl6).symm,R4.next,?_,fun h=>?_,rfl,by omega,by rw[BA];omega⟩
   ·rw[q6,AR]
    exact W4.next nn
   ·rw[h]at q6
    obtain⟨z1,z2,z3⟩:=Kw q6.symm
    rw[z1];exact⟨z2,z3⟩
def Ia(C:Addr):Sp:=fun vs H Q _=>∃(x:Addr) (ns:List Str) (qs:List PA2),vs = [.ref x]/\WebAt C H x ns qs/\Ze H ns qs Q
theorem Ic:FnScope ["web"] ["web"] (B6 s_rounds):=⟨rfl,rfl,rfl,by decide +kernel,rfl,by decide +kernel,by decide +kernel⟩
theorem Od(T:Tx K mg):FnOk P w K mg base CX0 6 T.rounds.f T.rounds.fd ["web"] (Ia T.CWeb):=by
 have G_rounds_beside:FnOk P w K mg base CX0 5 T.rounds_beside.f T.rounds_beside.fd ["web", "known"] (Fp T.CWeb):=y8 T
 have sc:=Ic
 refine T.rounds.F.ok Ic (fun vs H Q E h=>?_) (fun cdv A outer s H vs Q E hr h=>?_)
 ·obtain⟨x,ns,qs,rfl,_⟩:=h
  rfl
 ·obtain⟨x,ns,qs,rfl,hW,k⟩:=h
  refine⟨_,(B3 (B9 (C6 T.rounds_beside G_rounds_beside (hr.mono (by decide)) (A8 (pv 0) (A8 Sr B2))))),?_⟩
  refine ex1 rfl fun D hD=>?_
  have u1:=Same.new (o:=.dK []) hD
  exact⟨x,D,ns,qs,rfl,hW.same u1,A9,fun l rs H' s' hl L R=>k l rs H' (u1.trans s') (u1.free hl) L R⟩
def Tc(rs:List (Addr×Str×Str)):List Str:=(rs.filter fun q=>decide (q.2.2=wIn)).map fun q=>q.2.1
theorem Ym{ns:List Str}{qs:List PA2}{rs:List (Addr×Str×Str)}(h:RRes ns qs (rs.map fun q=>q.2)):(Tc rs).Nodup/\∀n,n∈Tc rs↔Gr ns (B4 qs) n:=by
 refine⟨?_,fun n=>?_⟩
 ·have:=h.nd
  rw[CC]at this
  exact(BT.map _).nodup this
 ·rw[<-h.iff n]
  unfold Tc
  rw[AK,AK]
  constructor
  ·rintro⟨q,hq,rfl⟩
   obtain⟨h1,h2⟩:=AL.mp hq
   exact⟨q,h1,Prod.ext rfl (AW h2)⟩
  ·rintro⟨q,hq,e⟩
   exact⟨q,AL.mpr ⟨hq,AH (congrArg Prod.snd e)⟩,congrArg Prod.fst e⟩
theorem Hl(rs:List (Addr×Str×Str))(q:Addr×Str×Str):Tc (rs ++ [q])=Tc rs++if q.2.2=wIn then [q.2.1]else []:=by
 unfold Tc
 rw[DR,AR,CH,FY]
 by_cases c:q.2.2=wIn
 ·rw[AQ (AH c),AQ c];rfl
 ·rw[AJ fun y=>c (AW y),AJ c];rfl
theorem Up(rs:List (Addr×Str×Str)):(Tc rs).length<=rs.length:=by unfold Tc;rw[AB];exact BL ..
def zCj(H:Hp)(ns:List Str)(sr:Str->List Str)(Q:VK):Prop:=∀(l:Addr) (ts:List Str) (H':Hp),Same H H'->H l=none->H' l=some (.lst (ts.map V.str))->ts.Nodup->ts.Pairwise leS->(∀n,n∈ts↔Gr ns sr n)->Q (.ref l) H'
def Lj(C:Addr):Sp:=fun vs H Q _=>∃(x:Addr) (ns:List Str) (qs:List PA2),vs = [.ref x]/\WebAt C H x ns qs/\zCj H ns (B4 qs) Q
theorem Mu:FnScope ["web"] ["web"] (B6 s_least):=⟨rfl,rfl,rfl,by decide +kernel,rfl,by decide +kernel,by decide +kernel⟩
set_option maxHeartbeats 2000000 in
theorem Ta(T:Tx K mg):FnOk P w K mg base CX0 7 T.least.f T.least.fd ["web"] (Lj T.CWeb):=by
 have G_rounds:FnOk P w K mg base CX0 6 T.rounds.f T.rounds.fd ["web"] (Ia T.CWeb):=Od T
 have sc:=Mu
 refine T.least.F.ok Mu (fun vs H Q E h=>?_) (fun cdv A outer s H vs Q E hr h=>?_)
 ·obtain⟨x,ns,qs,rfl,_⟩:=h
  rfl
 ·obtain⟨x,ns,qs,rfl,hW,k⟩:=h
  refine⟨_,(B3 (B9 (E9 (Fc K) T.b_sorted P1 (A8 (J5 (N':=["name", "word", "number"]) (cap:=[none,none,none]) (cl:=[]) (E8 trivial trivial) rfl (piL K (C6 T.rounds G_rounds (hr.mono (by decide)) (A8 (pv 0) B2))) (fun _ _ _ _=>by exact⟨(pgT K (n:=3) (C0 (pgC 0) (C0 (pgC 1) (C0 (pgC 2) J2)))),(K4 (C3 j8 (pv 1) W7 (F0 _))),(pv 0)⟩)) B2)))),?_⟩
  refine ex1 rfl ⟨x,ns,qs,rfl,hW,fun l rs H1 s1 hl L1 R1=>?_⟩
  have len:=R1.len
  rw[AB]at len
  obtain⟨nd,iff⟩:=Ym R1
  refine⟨l,rfl,⟨_,SqL.of L1.1⟩,fun D hD=>?_⟩
  refine O8 (asL (K:=K) (SqL.of L1.1)) (fun i σ H3=>(∃v0 v1 v2,σ = [v0,v1,v2])/\Same H1 H3/\H3 D=some (.lst ((Tc (rs.take i)).map V.str)))
   ⟨⟨_,_,_,rfl⟩,Same.new hD,A9⟩ (fun i σ H1 _ ⟨_,s1,_⟩=>s1.at l) ?_ ?_
  ·rintro i σ H3 v N hx ⟨⟨v0,v1,v2,rfl⟩,s3,e3⟩ hN
   rw[AI]at hx
   obtain⟨q,hq,rfl⟩:=BS.mp hx
   obtain⟨z,ez⟩:=L1.2 q (BJ hq)
   have li:=Up (rs.take i)
   rw[AS]at li
   refine⟨q.1,ex1 rfl ⟨SqT.of (s3 _ _ ez),rfl,_,ex1 rfl ⟨_,ex1 rfl (C1 rfl rfl ?_)⟩⟩⟩
   refine ex1 rfl ⟨rfl,ex1 rfl (U4 (fun c=>?_) (fun c=>?_))⟩
   ·have c:q.2.2=wIn:=by injection AW c
    refine ex1 rfl ⟨_,e3,by rw[AB,sizeLine_eq];omega,hN _ _ ⟨⟨_,_,_,rfl⟩,s3.upd hD,?_⟩⟩
    rw[A9,take_succ hq,Hl,AQ c,AR];rfl
   ·have c:¬q.2.2=wIn:=fun y=>c (AH (congrArg V.str y))
    exact hN _ _ ⟨⟨_,_,_,rfl⟩,s3,by rw[take_succ hq,Hl,AJ c,CI];exact e3⟩
  ·rintro σ H3 ⟨_,s3,e3⟩
   rw[AB,CG]at e3
   have s13:=s1.trans s3
   refine⟨D,_,rfl,SqL.of e3,fun m ts hm pm so=>?_⟩
   exact k m ts _ (s13.trans (Same.new hm)) (s13.free hm) A9 (pm.nodup_iff.mpr nd) so fun n=>pm.mem_iff.trans (iff n)
end
def Ae(qs:List PA2)(a b:Str):Prop:=∃q∈qs,q.2.1=a/\q.2.2=b
instance(qs:List PA2)(a b:Str):Decidable (Ae qs a b):=inferInstanceAs (Decidable (∃q∈qs,q.2.1=a/\q.2.2=b))
def Lx(qs:List PA2)(ss:List Str):Prop:=∀m∈ss,∀n∈ss,¬Ae qs m n
def zAr(qs:List PA2)(ss:List Str):Prop:=∀x,∀n∈ss,Ae qs x n->∃m∈ss,Ae qs m x
theorem strk_strikers{qs:List PA2}{a b:Str}:a∈B4 qs b↔Ae qs a b:=by
 unfold B4 Ae
 rw[AK]
 constructor
 ·rintro⟨q,hq,rfl⟩
  obtain⟨h1,h2⟩:=AL.mp hq
  exact⟨q,h1,rfl,AW h2⟩
 ·rintro⟨q,hq,rfl,rfl⟩
  exact⟨q,AL.mpr ⟨hq,AH rfl⟩,rfl⟩
def X4(qs:List PA2)(ss:List Str):Prop:=Lx qs ss/\zAr qs ss
def Uq(qs:List PA2)(ss:List Str)(n:Str):Prop:=∀x,Ae qs x n->∃m∈ss,Ae qs m x
def Ds(ns:List Str)(qs:List PA2)(ss:List Str):Prop:=X4 qs ss/\∀n∈ns,n∈ss↔Uq qs ss n
theorem Gp{qs:List PA2}{a b:Str}:Ae qs a b↔(a,b)∈qs.map fun q=>q.2:=by
 unfold Ae
 rw[AK]
 constructor
 ·rintro⟨q,h,rfl,rfl⟩;exact⟨q,h,rfl⟩
 ·rintro⟨q,h,e⟩;exact⟨q,h,congrArg Prod.fst e,congrArg Prod.snd e⟩
theorem Ah{ns:List Str}{ps:List PA2}{B:List Nat}(M:MB ns (ps.map fun q=>q.2) B){i j:Nat}{x y:Str}(hi:ns[i]?=some x)(hj:ns[j]?=some y):(B.getD i 0).testBit j=true↔Ae ps x y:=by
 rw[M.bit,Gp]
 constructor
 ·rintro⟨k,h,h1,h2⟩
  rw[hi]at h1
  rw[hj]at h2
  rw[BH h1,BH h2]
  exact h
 ·intro h
  exact⟨(x,y),h,hi,hj⟩
theorem Dw{ns:List Str}{ks:List (Str×Str)}{B:List Nat}(M:MB ns ks B){i j:Nat}(h:(B.getD i 0).testBit j=true):∃x y,ns[i]?=some x/\ns[j]?=some y:=by
 obtain⟨k,_,h1,h2⟩:=(M.bit i j).mp h
 exact⟨_,_,h1,h2⟩
theorem Gw{ns:List Str}{ps:List PA2}{A:List Nat}(M:MB ns ((ps.map fun q=>q.2).map fun k=>(k.2,k.1)) A){i j:Nat}{x y:Str}(hi:ns[i]?=some x)(hj:ns[j]?=some y):(A.getD i 0).testBit j=true↔Ae ps y x:=by
 rw[M.bit,Gp]
 constructor
 ·rintro⟨k,h,h1,h2⟩
  obtain⟨k',h',rfl⟩:=AK.mp h
  rw[hi]at h1
  rw[hj]at h2
  have e:k' =(y,x):=Prod.ext (BH h2).symm (BH h1).symm
  rw[<-e]
  exact h'
 ·intro h
  exact⟨(x,y),AK.mpr ⟨(y,x),h,rfl⟩,hi,hj⟩
theorem Ff{ns rs:List Str}{ps:List PA2}{B:List Nat}{m:Nat}(M:MB ns (ps.map fun q=>q.2) B)(pr:rs.Perm (setOf ns m)){j:Nat}{y:Str}(hj:ns[j]?=some y):Fj B m j↔∃x∈rs,Ae ps x y:=by
 constructor
 ·rintro⟨k,hk,hb⟩
  obtain⟨x,y',ex,ey⟩:=Dw M hb
  refine⟨x,pr.mem_iff.mpr (mem_setOf.mpr ⟨k,hk,ex⟩),(Ah M ex hj).mp hb⟩
 ·rintro⟨x,hx,hs⟩
  obtain⟨k,hk,ex⟩:=mem_setOf.mp (pr.mem_iff.mp hx)
  exact⟨k,hk,(Ah M ex hj).mpr hs⟩
theorem Kf{ns rs:List Str}{ps:List PA2}{A B:List Nat}{m:Nat}(MA:MB ns ((ps.map fun q=>q.2).map fun k=>(k.2,k.1)) A)(M:MB ns (ps.map fun q=>q.2) B)(pr:rs.Perm (setOf ns m))(hin:∀x y,Ae ps x y->x∈ns){j:Nat}{y:Str}(hj:ns[j]?=some y) :
  Bh ns.length A B m j↔∀x,Ae ps x y->∃z∈rs,Ae ps z x:=by
 constructor
 ·rintro⟨_,h⟩ x hx
  obtain⟨i,hi⟩:=GA.mp (hin x y hx)
  exact(Ff M pr hi).mp (h i ((Gw MA hj hi).mpr hx))
 ·intro h
  refine⟨(AG.mp hj).1,fun b hb=>?_⟩
  obtain⟨_,x,_,hx⟩:=Dw MA hb
  exact(Ff M pr hx).mpr (h x ((Gw MA hj hx).mp hb))
theorem R8{ns:List Str}{ps:List PA2}{B:List Nat}{m:Nat}(M:MB ns (ps.map fun q=>q.2) B):Lx ps (setOf ns m)↔Fk B m:=by
 constructor
 ·intro h i j hi hj hb
  obtain⟨x,y,ex,ey⟩:=Dw M hb
  exact h x (mem_setOf.mpr ⟨i,hi,ex⟩) y (mem_setOf.mpr ⟨j,hj,ey⟩) ((Ah M ex ey).mp hb)
 ·intro h x hx y hy hs
  obtain⟨i,hi,ex⟩:=mem_setOf.mp hx
  obtain⟨j,hj,ey⟩:=mem_setOf.mp hy
  exact h i j hi hj ((Ah M ex ey).mpr hs)
theorem Ap{ns:List Str}{ps:List PA2}{A B:List Nat}{m:Nat}(nd:ns.Nodup)(MA:MB ns ((ps.map fun q=>q.2).map fun k=>(k.2,k.1)) A)(M:MB ns (ps.map fun q=>q.2) B)(lo:Low ns.length m)(hin:∀x y,Ae ps x y->x∈ns):O3 ns.length A B m↔Ds ns ps (setOf ns m):=by
 have at_:∀{j:Nat} {y:Str},ns[j]?=some y->(m.testBit j=true↔y∈setOf ns m):=fun{j y} hj=>by
  rw[mem_setOf]
  refine⟨fun h=>⟨j,h,hj⟩,fun⟨k,hk,e⟩=>?_⟩
  have:=(HG (AG.mp hj).1 nd).mp (hj.trans e.symm)
  rw[this]
  exact hk
 have kp:∀{j:Nat} {y:Str},ns[j]?=some y->(Bh ns.length A B m j↔Uq ps (setOf ns m) y):=fun hj=>Kf MA M (EA _) hin hj
 constructor
 ·rintro⟨⟨_,q,b⟩,k⟩
  refine⟨⟨(R8 M).mpr q,fun x n hn hx=>?_⟩,fun n hn=>?_⟩
  ·obtain⟨j,hj,e⟩:=mem_setOf.mp hn
   exact(kp e).mp (b j hj) x hx
  ·obtain⟨j,e⟩:=GA.mp hn
   rw[<-at_ e,<-kp e]
   exact⟨b j,k j⟩
 ·rintro⟨⟨q,b⟩,k⟩
  have key:∀j,j<ns.length->(m.testBit j=true↔Bh ns.length A B m j):=fun j hj=>by
   have e:ns[j]?=some ns[j]:=AC hj
   rw[at_ e,kp e]
   exact k _ (DI hj)
  exact⟨⟨lo,(R8 M).mp q,fun j hj=>(key j (lo j hj)).mp hj⟩,fun j hj=>(key j hj.1).mpr hj⟩
theorem few{n:Nat}{Ms:List Nat}(nd:Ms.Nodup)(h:∀m∈Ms,Low n m):Ms.length<=2^n:=by
 classical
 have pm:Ms.Perm ((List.range (2^n)).filter fun m=>decide (m∈Ms)):=(DT nd (BT.nodup GI)).mpr fun m=>by
  rw[AL,B_,AY]
  exact⟨fun z=>⟨(h m z).lt,z⟩,(·.2)⟩
 rw[pm.length_eq]
 exact Nat.le_trans (BL _ _) (by rw[BX];exact Nat.le_refl _)
theorem Iq:∀{a b:List Str},TS.kyS a=TS.kyS b->a=b
 | [],[],_=>rfl
 | [],_::_,h=>by cases h
 | _::_,[],h=>by cases h
 | x::a,y::b,h=>by
  obtain⟨h1,h2⟩:=HJ h
  rw[Vx h1,Iq h2]
theorem Xu{a b:List (List Str)}(h1:a.Pairwise fun x y=>TS.lexB (TS.kyS y) (TS.kyS x)=false)(h2:b.Pairwise fun x y=>TS.lexB (TS.kyS y) (TS.kyS x)=false)(h:a.Perm b):a=b :=
 List.Perm.eq_of_pairwise (fun x y _ _ h1 h2=>Iq (TS.lexB_total _ _ h2 h1)) h1 h2 h
def lld(ls:List (List Str)):PyData:=.list (ls.map sd)
theorem Br{K:PySem.W.Frag}{H:Hp}{r:Addr}{ts:List (Addr×List Str)}(hr:H r=some (.lst (ts.map fun t=>V.ref t.1)))(ht:∀t∈ts,H t.1=some (.lst (t.2.map V.str))):Rp K H (lld (ts.map fun t=>t.2)) (.ref r):=by
 unfold lld
 simp only[Rp]
 refine⟨r,_,rfl,SqL.of hr,?_⟩
 clear hr
 induction ts with
 | nil=>simp[Rps]
 | cons t ts ih =>
  show Rps K H (sd t.2 ::(ts.map fun t=>t.2).map sd) (V.ref t.1::ts.map fun t=>V.ref t.1)
  simp only[Rps]
  exact⟨_,_,rfl,X5 (SqL.of (ht t (AU ..))),ih fun u hu=>ht u (AM _ hu)⟩
theorem Mf{ls:List (List Str)}(h:∀l∈ls,∀y∈l,J7 y=true):Pl (lld ls):=by
 have h1:∀ls:List (List Str),(∀l∈ls,∀y∈l,J7 y=true)->PyData.canLayAll0 (ls.map sd)=true/\PyData.depthAll (ls.map sd)<=10:=fun ls=>by
  induction ls with
  | nil=>exact fun _=>⟨rfl,by simp[PyData.depthAll]⟩
  | cons l ls ih =>
   intro h
   obtain⟨i1,i2⟩:=ih fun u hu=>h u (AM _ hu)
   have p:=n4 (h l (AU ..))
   have d:(sd l).depth<=10:=by
    unfold sd
    rw[PyData.depth]
    have:=p0 l
    omega
   rw[BG,PyData.canLayAll0,PyData.depthAll,p.1,i1]
   exact⟨rfl,by omega⟩
 obtain⟨a,b⟩:=h1 ls h
 refine⟨by unfold lld;rw[PyData.canLay0];exact a,?_⟩
 unfold lld
 rw[PyData.depth]
 omega
section
variable{P:Program}{w:World}{K:PySem.W.Frag}{mg:Str->Option Value}{base:Heap}
theorem zAt{xs rs:List Str}{a l D:Addr}{H:Hp}{v0:Option V}{Q:St->Hp->Prop}(hl:H l=some (.lst (xs.map V.str)))(ha:H a=some (.lst (rs.map V.str)))(len:xs.length<=5000)(hD:H D=none)
  (q:∀σ G,Same H G->G D=some (.lst ((xs.map fun x=>decide (x∈rs)).map V.bl))->Q σ G):Ea (Q6 0) y6 (p9 D (tOp (rIn K false) (Ig 0) (Ig 1))) (Itl K l) [v0,some (.ref a)] (upd H D (.lst [])) Q :=
 Uy (fun x=>V.bl (decide (x∈rs))) (asL (SqL.of hl)) (fun _=>true) len hD (fun y _ G sG M hM=>hM G fun b o e=>e) (fun y _ G sG M hM=>ex1 rfl (ex1 rfl (K1 (.inl (SqL.of (sG _ _ ha))) (hM G fun b o e=>e)))) fun σ G sG eG=>q σ G sG (by rw[eG,DW.mpr fun _ _=>rfl,CC];rfl)
theorem Y7:FnScope ["_law_one", "_law_other"] ["_law_one", "_law_other"] (B6 s_law_within):=⟨rfl,rfl,rfl,by decide +kernel,rfl,by decide +kernel,by decide +kernel⟩
def At:Sp:=fun vs H Q _=>∃(a b:Addr) (xs ys:List Str),vs = [.ref a,.ref b]/\H a=some (.lst (xs.map V.str))/\H b=some (.lst (ys.map V.str))/\xs.length<=100/\∀H',Same H H'->Q (.bl (xs.all fun x=>decide (x∈ys))) H'
theorem e9(T:Tx K mg):FnOk P w K mg base CX0 1 T.law_within.f T.law_within.fd ["_law_one", "_law_other"] At:=by
 have sc:=Y7
 refine T.law_within.F.ok Y7 (fun vs H Q E h=>?_) (fun cdv A outer s H vs Q E hr h=>?_)
 ·obtain⟨a,b,xs,ys,rfl,_⟩:=h
  rfl
 ·obtain⟨a,b,xs,ys,rfl,ha,hb,lx,q⟩:=h
  refine⟨_,(B3 (B9 (E9 (V5 K) T.b_all U0 (A8 (J5 (N':=["_law_name", "_law_other"]) (cap:=[none,some 1]) (cl:=[("_law_other",_)]) (E8 ⟨⟨rfl,rfl,rfl,rfl⟩,trivial⟩ ⟨rfl,trivial⟩) rfl (piL K (pv 0)) (fun _ _ _ _=>by exact⟨(pgC 0),C8,(I0 (j0 K) (pv 0) (pv 1) rfl)⟩)) B2)))),?_⟩
  refine ex1 rfl ⟨a,rfl,⟨_,SqL.of ha⟩,fun D hD=>?_⟩
  refine zAt ha hb (by omega) hD fun σ G sG eG=>⟨D,_,rfl,SqL.of eG,?_⟩
  rw[List.all_map]
  exact q G sG
end
theorem By:∀a b:List Str,PyData.eqvAll (a.map PyData.str) (b.map PyData.str)=decide (a=b)
 | [],[]=>by simp[PyData.eqvAll]
 | [],_::_=>by simp[PyData.eqvAll]
 | _::_,[]=>by simp[PyData.eqvAll]
 | x::a,y::b=>by
  rw[BG,BG,PyData.eqvAll,By a b,PyData.eqv]
  by_cases h1:x=y
  ·by_cases h2:a=b
   ·rw[AH h2,h1,h2];simp
   ·rw[A_ h2];simp[h2]
  ·simp[h1]
theorem Vd(a b:List Str):PyData.eqv (sd a) (sd b)=decide (a=b):=by
 unfold sd
 rw[PyData.eqv,By]
theorem Sb(x:List Str):∀zs:List (List Str),((zs.map sd).any fun z=>PyData.eqv z (sd x))=decide (x∈zs)
 | []=>by simp
 | z::r=>by
  rw[BG,FO,Sb x r,Vd]
  by_cases c:z=x
  ·rw[AH c,Bool.true_or]
   exact(AH (by rw[c];exact AU ..)).symm
  ·rw[A_ c,FZ]
   exact decide_eq_decide.mpr ⟨fun h=>AM _ h,fun h=>(BD.mp h).elim (fun e=>absurd e.symm c) id⟩
def X6(ps:List PA2)(rs:List Str):List Str:=(ps.filter fun q=>decide (q.2.1∈rs)).map fun q=>q.2.2
theorem mem_hitsP{ps:List PA2}{rs:List Str}{y:Str}:y∈X6 ps rs↔∃x∈rs,Ae ps x y:=by
 unfold X6
 rw[AK]
 constructor
 ·rintro⟨q,h,rfl⟩
  obtain⟨a,b⟩:=AL.mp h
  exact⟨q.2.1,AW b,q,a,rfl,rfl⟩
 ·rintro⟨x,hx,q,h,rfl,rfl⟩
  exact⟨q,AL.mpr ⟨h,AH hx⟩,rfl⟩
def hoB(ps:List PA2)(rs:List Str):Bool:=!(ps.any fun q=>decide (q.2.1∈rs)&&decide (q.2.2∈rs)) &&(ps.filter fun q=>decide (q.2.2∈rs)).all fun q=>decide (q.2.1∈X6 ps rs)
theorem hoB_iff{ps:List PA2}{rs:List Str}:hoB ps rs=true↔X4 ps rs:=by
 unfold hoB X4
 rw[BP,DZ,BI]
 refine and_congr ⟨fun h m hm n hn ⟨q,hq,e1,e2⟩=>h (EM.mpr ⟨q,hq,?_⟩),fun h z=>?_⟩ ⟨fun h x n hn ⟨q,hq,e1,e2⟩=>?_,fun h=>CJ.mpr fun q hq=>?_⟩
 ·rw[BP,AY,AY,e1,e2];exact⟨hm,hn⟩
 ·obtain⟨q,hq,e⟩:=EM.mp z
  rw[BP,AY,AY]at e
  exact h _ e.1 _ e.2 ⟨q,hq,rfl,rfl⟩
 ·have:=CJ.mp h q (AL.mpr ⟨hq,AH (by rw[e2];exact hn)⟩)
  rw[<-e1]
  exact mem_hitsP.mp (AW this)
 ·obtain⟨a,b⟩:=AL.mp hq
  exact AH (mem_hitsP.mpr (h q.2.1 q.2.2 (AW b) ⟨q,a,rfl,rfl⟩))
def auB(ps:List PA2)(ns rs:List Str):Bool:=ns.all fun n=>decide (n∈rs)||decide (n∈X6 ps rs)
section
variable{P:Program}{w:World}{K:PySem.W.Frag}{mg:Str->Option Value}{base:Heap}
theorem Ly{b D:Addr}{ps:List PA2}{H:Hp}{c:St}{v0 v1:Option V}{tc:TT}{te:TE}{Q:St->Hp->Prop}(f:PA2->V)(p:PA2->Bool)(hb:H b=some (.lst (P0 ps)))(hp:∀q∈ps,E7 H q)(len:ps.length<=5000)(hD:H D=none)
  (ht:∀y∈ps,∀G,Same H G->∀M:Bool->Hp->Prop,(∀G',Same G G'->M (p y) G')->tc (some (.str y.2.1)::some (.str y.2.2)::c) G M) (he:∀y∈ps,∀G,Same H G->∀M:VK,(∀G',Same G G'->M (f y) G')->te (some (.str y.2.1)::some (.str y.2.2)::c) G M)
  (q:∀σ G,Same H G->G D=some (.lst ((ps.filter p).map f))->Q σ G) :
  Ea (zDi K 2 (Wj (Q6 0) (Wj (Q6 1) zEc))) tc (p9 D te) (Itl K b) (v0::v1::c) (upd H D (.lst [])) Q:=by
 refine O8 (asL (SqL.of hb)) (fun i σ G=>(∃v0 v1,σ=v0::v1::c)/\Same H G/\G D=some (.lst (((ps.take i).filter p).map f))) ⟨⟨_,_,rfl⟩,Same.new hD,A9⟩ (fun i σ G _ h=>h.2.1.at b) ?_ ?_
 ·rintro i σ G v N hv ⟨⟨v0,v1,rfl⟩,sG,eG⟩ hN
  unfold P0 at hv
  rw[AI]at hv
  obtain⟨r,hr,rfl⟩:=BS.mp hv
  have mr:=BJ hr
  refine⟨r.1,_,rfl,SqT.of (sG _ _ (hp r mr)),rfl,⟨_,_,rfl,⟨_,_,rfl,⟨rfl,?_⟩⟩⟩⟩
  refine ht r mr G sG _ fun G' s'=>?_
  have hs:((ps.take (i+1)).filter p).map f =((ps.take i).filter p).map f++if p r=true then [f r]else []:=by
   rw[take_succ hr,DR,CH,FY,AR]
   cases p r<;>rfl
  have hl:=BL p (ps.take i)
  rw[AS]at hl
  have eG':=s' _ _ eG
  refine U4 (fun c=>he r mr G' (sG.trans s') _ fun G2 s2=>⟨_,s2 _ _ eG',by rw[AB,sizeLine_eq];omega,hN _ _ ⟨⟨_,_,rfl⟩,(sG.trans (s'.trans s2)).upd hD,?_⟩⟩) (fun c=>hN _ _ ⟨⟨_,_,rfl⟩,sG.trans s',?_⟩)
  ·rw[A9,hs,AQ c]
  ·rw[hs,AJ c,CI];exact eG'
 ·rintro σ G ⟨_,sG,eG⟩
  unfold P0 at eG
  rw[AB,CG]at eG
  exact q σ G sG eG
theorem u9:FnScope ["_law_some", "_law_strikes_here", "_law_hit"] ["_law_some", "_law_strikes_here"] (B6 s_law_holds):=⟨rfl,rfl,rfl,by decide +kernel,rfl,by decide +kernel,by decide +kernel⟩
def El:Sp:=fun vs H Q _=>∃(a b:Addr) (rs:List Str) (ps:List PA2),vs = [.ref a,.ref b]/\H a=some (.lst (rs.map V.str))/\H b=some (.lst (P0 ps))/\(∀q∈ps,E7 H q)/\ps.length<=1000/\∀H',Same H H'->Q (.bl (hoB ps rs)) H'
theorem y3(T:Tx K mg):FnOk P w K mg base CX0 1 T.law_holds.f T.law_holds.fd ["_law_some", "_law_strikes_here"] El:=by
 have sc:=u9
 refine T.law_holds.F.ok u9 (fun vs H Q E h=>?_) (fun cdv A outer s H vs Q E hr h=>?_)
 ·obtain⟨a,b,rs,ps,rfl,_⟩:=h
  rfl
 ·obtain⟨a,b,rs,ps,rfl,ha,hb,hp,lp,q⟩:=h
  refine⟨_,(B1 (J4 (I9 (E9 (Mg K) T.b_any Lb (A8 (J5 (N':=["_law_one", "_law_other", "_law_some"]) (cap:=[none,none,some 0]) (cl:=[("_law_some",_)]) (E8 ⟨⟨rfl,rfl,rfl,rfl⟩,trivial⟩ ⟨rfl,trivial⟩) rfl (piL K (pv 1)) (fun _ _ _ _=>by exact⟨(pgT K (n:=2) (C0 (pgC 0) (C0 (pgC 1) J2))),C8,(Vh (I0 (j0 K) (pv 0) (pv 2) rfl) (Pn (I0 (j0 K) (pv 1) (pv 2) rfl)))⟩)) B2))) (B3 (B9 M0)) C4)
   (B1 (C5 (i:=2) sc.nd rfl (by first | exact Or.inl rfl | exact Or.inr rfl) (J5 (N':=["_law_one", "_law_other", "_law_some"]) (cap:=[none,none,some 0]) (cl:=[("_law_some",_)]) (E8 ⟨⟨rfl,rfl,rfl,rfl⟩,trivial⟩ ⟨rfl,trivial⟩) rfl (piL K (pv 1)) (fun _ _ _ _=>by exact⟨(pgT K (n:=2) (C0 (pgC 0) (C0 (pgC 1) J2))),(K4 (C3 (j0 K) (pv 0) (pv 2) rfl)),(pv 1)⟩)))
   (B3 (B9 (E9 (V5 K) T.b_all U0 (A8 (J5 (N':=["_law_one", "_law_other", "_law_hit", "_law_some"]) (cap:=[none,none,some 2,some 0]) (cl:=[("_law_some",_),("_law_hit",_)]) (E8 ⟨⟨rfl,rfl,rfl,rfl⟩,⟨⟨rfl,rfl,rfl,rfl⟩,trivial⟩⟩ ⟨rfl,⟨rfl,trivial⟩⟩) rfl (piL K (pv 1)) (fun _ _ _ _=>by exact⟨(pgT K (n:=2) (C0 (pgC 0) (C0 (pgC 1) J2))),(K4 (C3 (j0 K) (pv 1) (pv 3) rfl)),(I0 (j0 K) (pv 0) (pv 2) rfl)⟩)) B2)))))),?_⟩
  refine B5 fun N1 hN1=>?_
  refine ex1 rfl ⟨b,rfl,⟨_,SqL.of hb⟩,fun D hD=>?_⟩
  refine Ly (fun q=>V.bl (decide (q.2.1∈rs)&&decide (q.2.2∈rs))) (fun _=>true) hb hp (by omega) hD (fun y _ G sG M hM=>hM G fun b o e=>e) (fun y my G sG M hM=>?_) fun σ' G sG eG=>?_
  ·have hM':∀b,b =(decide (y.2.1∈rs)&&decide (y.2.2∈rs))->M (.bl b) G:=fun b e=>by rw[e];exact hM G fun b o e=>e
   refine ex1 rfl (ex1 rfl (K1 (.inl (SqL.of (sG _ _ ha))) ⟨_,rfl,U4 (fun c=>?_) (fun c=>hM' _ (by rw[BI.mpr c];rfl))⟩))
   exact ex1 rfl (ex1 rfl (K1 (.inl (SqL.of (sG _ _ ha))) (hM' _ (by rw[c,GR]))))
  rw[DW.mpr fun _ _=>rfl]at eG
  have eG:G D=some (.lst ((ps.map fun q=>decide (q.2.1∈rs)&&decide (q.2.2∈rs)).map V.bl)):=by rw[eG,CC];rfl
  refine⟨D,_,rfl,SqL.of eG,_,rfl,?_⟩
  have e1:(ps.map fun q=>decide (q.2.1∈rs)&&decide (q.2.2∈rs)).any id=ps.any fun q=>decide (q.2.1∈rs)&&decide (q.2.2∈rs):=by rw[List.any_map];rfl
  rw[e1]
  cases c1:(ps.any fun q=>decide (q.2.1∈rs)&&decide (q.2.2∈rs))with
  | true =>
   refine Rx ?_
   have z:=q G sG
   unfold hoB at z
   rw[c1]at z
   exact z
  | false =>
   refine U3 (hN1 _ _ (B5 fun N2 hN2=>?_))
   refine ex1 rfl ⟨b,rfl,⟨_,SqL.of (sG _ _ hb)⟩,fun D2 hD2=>?_⟩
   refine Ly (fun q=>V.str q.2.2) (fun q=>decide (q.2.1∈rs)) (sG _ _ hb) (D0 sG hp) (by omega) hD2 (fun y _ G2 s2 M hM=>ex1 rfl (ex1 rfl (K1 (.inl (SqL.of (s2 _ _ (sG _ _ ha)))) ⟨_,rfl,hM G2 fun b o e=>e⟩))) (fun y my G2 s2 M hM=>ex1 rfl (hM G2 fun b o e=>e)) fun σ' G2 s2 e2=>?_
   have e2:G2 D2=some (.lst ((X6 ps rs).map V.str)):=by rw[e2];unfold X6;rw[CC];rfl
   have s2:=sG.trans s2
   refine hN2 _ _ ?_
   refine ex1 rfl ⟨b,rfl,⟨_,SqL.of (s2 _ _ hb)⟩,fun D3 hD3=>?_⟩
   refine Ly (fun q=>V.bl (decide (q.2.1∈X6 ps rs))) (fun q=>decide (q.2.2∈rs)) (s2 _ _ hb) (D0 s2 hp) (by omega) hD3 (fun y _ G3 s3 M hM=>ex1 rfl (ex1 rfl (K1 (.inl (SqL.of (s3 _ _ (s2 _ _ ha)))) ⟨_,rfl,hM G3 fun b o e=>e⟩))) (fun y my G3 s3 M hM=>ex1 rfl (ex1 rfl (K1 (.inl (SqL.of (s3 _ _ e2))) (hM G3 fun b o e=>e)))) fun σ' G3 s3 e3=>?_
   have e3:G3 D3=some (.lst (((ps.filter fun q=>decide (q.2.2∈rs)).map fun q=>decide (q.2.1∈X6 ps rs)).map V.bl)):=by rw[e3,CC];rfl
   refine⟨D3,_,rfl,SqL.of e3,?_⟩
   have e4:((ps.filter fun q=>decide (q.2.2∈rs)).map fun q=>decide (q.2.1∈X6 ps rs)).all id=hoB ps rs:=by unfold hoB;rw[c1,List.all_map];rfl
   rw[e4]
   exact q G3 (s2.trans s3)
theorem Q0:FnScope ["_law_some", "_law_names_here", "_law_strikes_here", "_law_hit"] ["_law_some", "_law_names_here", "_law_strikes_here"] (B6 s_law_all_outside):=⟨rfl,rfl,rfl,by decide +kernel,rfl,by decide +kernel,by decide +kernel⟩
def Do:Sp:=fun vs H Q _=>∃(a n b:Addr) (rs ns:List Str) (ps:List PA2),vs = [.ref a,.ref n,.ref b]/\H a=some (.lst (rs.map V.str))/\H n=some (.lst (ns.map V.str))/\ns.length<=100/\H b=some (.lst (P0 ps))/\(∀q∈ps,E7 H q)/\ps.length<=1000/\∀H',Same H H'->Q (.bl (auB ps ns rs)) H'
theorem j4(T:Tx K mg):FnOk P w K mg base CX0 1 T.law_all_outside.f T.law_all_outside.fd ["_law_some", "_law_names_here", "_law_strikes_here"] Do:=by
 have sc:=Q0
 refine T.law_all_outside.F.ok Q0 (fun vs H Q E h=>?_) (fun cdv A outer s H vs Q E hr h=>?_)
 ·obtain⟨a,n,b,rs,ns,ps,rfl,_⟩:=h
  rfl
 ·obtain⟨a,n,b,rs,ns,ps,rfl,ha,hn,ln,hb,hp,lp,q⟩:=h
  refine⟨_,(B1 (C5 (i:=3) sc.nd rfl (by first | exact Or.inl rfl | exact Or.inr rfl) (J5 (N':=["_law_one", "_law_other", "_law_some"]) (cap:=[none,none,some 0]) (cl:=[("_law_some",_)]) (E8 ⟨⟨rfl,rfl,rfl,rfl⟩,trivial⟩ ⟨rfl,trivial⟩) rfl (piL K (pv 2)) (fun _ _ _ _=>by exact⟨(pgT K (n:=2) (C0 (pgC 0) (C0 (pgC 1) J2))),(K4 (C3 (j0 K) (pv 0) (pv 2) rfl)),(pv 1)⟩)))
   (B3 (B9 (E9 (V5 K) T.b_all U0 (A8 (J5 (N':=["_law_name", "_law_some", "_law_hit"]) (cap:=[none,some 0,some 3]) (cl:=[("_law_some",_),("_law_hit",_)]) (E8 ⟨⟨rfl,rfl,rfl,rfl⟩,⟨⟨rfl,rfl,rfl,rfl⟩,trivial⟩⟩ ⟨rfl,⟨rfl,trivial⟩⟩) rfl (piL K (pv 1)) (fun _ _ _ _=>by exact⟨(pgC 0),C8,(zCo (I0 (j0 K) (pv 0) (pv 1) rfl) (Pn (I0 (j0 K) (pv 0) (pv 2) rfl)))⟩)) B2))))),?_⟩
  refine B5 fun N2 hN2=>?_
  refine ex1 rfl ⟨b,rfl,⟨_,SqL.of hb⟩,fun D2 hD2=>?_⟩
  refine Ly (fun q=>V.str q.2.2) (fun q=>decide (q.2.1∈rs)) hb hp (by omega) hD2 (fun y _ G2 s2 M hM=>ex1 rfl (ex1 rfl (K1 (.inl (SqL.of (s2 _ _ ha))) ⟨_,rfl,hM G2 fun b o e=>e⟩))) (fun y my G2 s2 M hM=>ex1 rfl (hM G2 fun b o e=>e)) fun σ' G2 s2 e2=>?_
  have e2:G2 D2=some (.lst ((X6 ps rs).map V.str)):=by rw[e2];unfold X6;rw[CC];rfl
  refine hN2 _ _ ?_
  refine ex1 rfl ⟨n,rfl,⟨_,SqL.of (s2 _ _ hn)⟩,fun D3 hD3=>?_⟩
  refine Uy (fun y=>V.bl (decide (y∈rs)||decide (y∈X6 ps rs))) (asL (SqL.of (s2 _ _ hn))) (fun _=>true) (by omega) hD3 (fun y _ G sG M hM=>hM G fun b o e=>e) (fun y my G3 s3 M hM=>?_) fun σ' G3 s3 e3=>?_
  ·have hM':∀b,b =(decide (y∈rs)||decide (y∈X6 ps rs))->M (.bl b) G3:=fun b e=>by rw[e];exact hM G3 fun b o e=>e
   refine ex1 rfl (ex1 rfl (K1 (.inl (SqL.of (s3 _ _ (s2 _ _ ha)))) ⟨_,rfl,U4 (fun c=>hM' _ (by rw[c];rfl)) (fun c=>?_)⟩))
   exact ex1 rfl (ex1 rfl (K1 (.inl (SqL.of (s3 _ _ e2))) (hM' _ (by rw[BI.mpr c,FZ]))))
  rw[DW.mpr fun _ _=>rfl]at e3
  have e3:G3 D3=some (.lst ((ns.map fun y=>decide (y∈rs)||decide (y∈X6 ps rs)).map V.bl)):=by rw[e3,CC];rfl
  refine⟨D3,_,rfl,SqL.of e3,?_⟩
  have e4:(ns.map fun y=>decide (y∈rs)||decide (y∈X6 ps rs)).all id=auB ps ns rs:=by unfold auB;rw[List.all_map];rfl
  rw[e4]
  exact q G3 (s2.trans s3)
theorem T7:FnScope ["_law_lists", "_law_k", "_law_some"] ["_law_lists"] (B6 s_law_is_rising):=⟨rfl,rfl,rfl,by decide +kernel,rfl,by decide +kernel,by decide +kernel⟩
def He:Sp:=fun vs H Q _=>∃(r:Addr) (ts:List (Addr×List Str)),vs = [.ref r]/\H r=some (.lst (ts.map fun t=>V.ref t.1))/\(∀t∈ts,H t.1=some (.lst (t.2.map V.str)))/\ts.length<=1000/\(∀t∈ts,t.2.Nodup/\t.2.length<=100/\t.2.Pairwise leS/\∀y∈t.2,J7 y=true)/\ts.Pairwise (fun a b=>TS.lexB (TS.kyS a.2) (TS.kyS b.2)=true)/\∀H',Same H H'->Q (.bl true) H'
theorem z7(T:Tx K mg):FnOk P w K mg base CX0 1 T.law_is_rising.f T.law_is_rising.fd ["_law_lists"] He:=by
 have sc:=T7
 refine T.law_is_rising.F.ok T7 (fun vs H Q E h=>?_) (fun cdv A outer s H vs Q E hr h=>?_)
 ·obtain⟨r,ts,rfl,_⟩:=h
  rfl
 ·obtain⟨r,ts,rfl,hr',ht,lt,ok,rise,q⟩:=h
  refine⟨_,(B1 (V3 PassesOwn.never rfl (piE K T.b_enumerate (A8 (pv 0) B2)) (pgT K (n:=2) (C0 (C7 (i:=1) sc.nd rfl (by first | exact Or.inl rfl | exact Or.inr rfl)) (C0 (C7 (i:=2) sc.nd rfl (by first | exact Or.inl rfl | exact Or.inr rfl)) J2)))
   (B3 (J4 (PW.pt (Cn (C3 (Tm K hr.units) (pv 2) (E9 (Ub w) T.b_sorted P1 (A8 (Is (Ya K w) T.b_set Ov (A8 (pv 2) B2)) B2)) (F0 _)) (W3 (PW.pt (f7 (C3 Zm (pv 1) B8 (F0 _)) (U9 (K9 (C3 (Yy hr.units) (V6 (ixL K) (pv 0) (D9 zAm (pv 1) B8) (fun _ _=>rfl)) (pv 2) (F0 _))))))))) (B3 (B9 M0)) C4)))
   (B3 (B9 M0))),?_⟩
  refine B5 fun N1 hN1=>?_
  refine ex1 rfl ⟨r,ex1 rfl ⟨SqL.of hr',Ty (n:=ts.length) (fun i σ G=>(∃v1 v2,σ = [some (.ref r),v1,v2])/\Same H G) ⟨⟨_,_,rfl⟩,fun b o e=>e⟩ ?_ ?_ ?_ ?_⟩⟩
  ·rintro i σ G hi ⟨_,sG⟩
   exact⟨_,_,SqL.of (sG _ _ hr'),by rw[AI,AC hi];rfl⟩
  ·rintro σ G ⟨_,sG⟩
   exact⟨_,SqL.of (sG _ _ hr'),by rw[AB]⟩
  ·rintro i σ G v H' hi ⟨⟨v1,v2,rfl⟩,sG⟩ ⟨tt,y,rfl,htt,rfl,hx⟩
   have hx:=hx _ (SqL.of (sG _ _ hr'))
   have hi':ts[i]?=some ts[i]:=AC hi
   rw[AI,hi']at hx
   cases hx
   have mt:=DI hi
   obtain⟨nd,l100,srt,nm⟩:=ok _ mt
   refine⟨tt,ex1 rfl ⟨SqT.of A9,rfl,_,_,rfl,_,_,rfl,rfl,?_⟩⟩
   have ut:=sG.trans (Same.new (o:=.tup [.int (i:Int),.ref ts[i].1]) htt)
   generalize upd G tt (.tup [.int (i:Int),.ref ts[i].1])=G1 at ut⊢
   have et:=ut _ _ (ht _ mt)
   refine ex1 rfl (ex1 rfl ⟨ts[i].1,ts[i].2,rfl,.inl (SqL.of et),nd,by omega,fun s1 hs1=>?_⟩)
   have us:=Same.new (o:=Ss w s1 ts[i].2) hs1
   refine⟨s1,ts[i].2,rfl,A9,fun l ss' hl pm srt'=>?_⟩
   have ul:=Same.new (o:=.lst (ss'.map V.str)) hl
   have e:ss'=ts[i].2:=Dg srt' srt pm
   subst e
   refine Jv (X5 (SqL.of (ul _ _ (us _ _ et)))) (X5 (SqL.of A9)) (n4 nm) ⟨_,rfl,U3 ?_⟩
   have s2:=us.trans ul
   generalize upd (upd G1 s1 (Ss w s1 ts[i].2)) l (.lst (ts[i].2.map V.str))=G2 at s2⊢
   have s2:=ut.trans s2
   refine ex1 rfl (C1 rfl rfl ⟨_,rfl,U4 (fun c=>?_) (fun c=>?_)⟩)
   ·have i0:0<i:=by have:=AW c;omega
    have e1:((i:Int)-1) =((i-1:Nat):Int):=by omega
    have hi1:ts[i-1]?=some ts[i-1]:=AC (by omega)
    have at1:atI (ts.map fun t=>V.ref t.1) ((i:Int)-1)=some (V.ref ts[i-1].1):=by
     rw[e1]
     exact l7 (by rw[AI,hi1];rfl)
    have lx:TS.lexB (TS.kyS ts[i-1].2) (TS.kyS ts[i].2)=true:=(DV.mp rise) (i-1) i (by omega) hi (by omega)
    refine ex1 rfl (ex1 rfl (C1 rfl rfl ⟨r,_,C1 rfl rfl ⟨SqL.of (s2 _ _ hr'),at1,ex1 rfl ⟨ts[i-1].1,ts[i].1,ts[i-1].2,ts[i].2,rfl,rfl,s2 _ _ (ht _ (DI _)),s2 _ _ (ht _ mt),_,rfl,?_⟩⟩⟩))
    rw[lx]
    exact U3 ⟨⟨_,_,rfl⟩,s2⟩
   ·exact U3 ⟨⟨_,_,rfl⟩,s2⟩
  ·rintro σ G ⟨⟨v1,v2,rfl⟩,sG⟩
   exact hN1 _ _ (q G sG)
end
theorem Xc{l:List Str}{ls:List (List Str)}:PyData.eqv (lld (l::ls)) (.list [])=false:=by
 unfold lld
 rw[BG,PyData.eqv,PyData.eqvAll]
 all_goals (intros;simp_all)
theorem Pu{ls:List (List Str)}(h:∀l∈ls,∀y∈l,J7 y=true):PyData.canLayAll0 (ls.map sd)=true:=by
 have:=(Mf h).1
 unfold lld at this
 rw[PyData.canLay0]at this
 exact this
section
variable{P:Program}{w:World}{K:PySem.W.Frag}{mg:Str->Option Value}{base:Heap}
theorem Z9{H:Hp}{a r:Addr}{s:List Str}{ts:List (Addr×List Str)}{Q:VK}(ha:H a=some (.lst (s.map V.str)))(hr:H r=some (.lst (ts.map fun t=>V.ref t.1)))(ht:∀t∈ts,H t.1=some (.lst (t.2.map V.str)))(h1:∀y∈s,J7 y=true)(h2:∀l∈ts.map (fun t=>t.2),∀y∈l,J7 y=true)
  (q:Q (.bl (decide (s∈ts.map fun t=>t.2))) H):Yr K false (.ref a) (.ref r) H Q:=by
 refine⟨sd s,_,X5 (SqL.of ha),.inl (Br hr ht),n4 h1,Pu h2,?_⟩
 rw[AJ (by decide),Sb]
 exact q
theorem T4:FnScope ["_law_most", "_law_standing", "_law_some", "_law_above"] ["_law_most", "_law_standing"] (B6 s_law_are_above):=⟨rfl,rfl,rfl,by decide +kernel,rfl,by decide +kernel,by decide +kernel⟩
def Lu:Sp:=fun vs H Q _=>∃(r s:Addr) (Ml Sl:List (Addr×List Str)),vs = [.ref r,.ref s]/\H r=some (.lst (Ml.map fun t=>V.ref t.1))/\(∀t∈Ml,H t.1=some (.lst (t.2.map V.str)))/\H s=some (.lst (Sl.map fun t=>V.ref t.1))/\(∀t∈Sl,H t.1=some (.lst (t.2.map V.str)))/\Ml.length<=1000 /\
 (∀t∈Ml,∀y∈t.2,J7 y=true)/\(∀t∈Sl,t.2.length<=100/\∀y∈t.2,J7 y=true)/\(∀t∈Sl,∃o∈Ml,(t.2.all fun x=>decide (x∈o.2))=true)/\(∀t∈Sl,t.2∈Ml.map (fun t=>t.2)->((Ml.filter fun o=>t.2.all fun x=>decide (x∈o.2)).map fun t=>t.2) = [t.2])/\∀H',Same H H'->Q (.bl true) H'
theorem y7(T:Tx K mg):FnOk P w K mg base CX0 2 T.law_are_above.f T.law_are_above.fd ["_law_most", "_law_standing"] Lu:=by
 have G_law_within:FnOk P w K mg base CX0 1 T.law_within.f T.law_within.fd ["_law_one", "_law_other"] At:=e9 T
 have sc:=T4
 refine T.law_are_above.F.ok T4 (fun vs H Q E h=>?_) (fun cdv A outer s H vs Q E hr h=>?_)
 ·obtain⟨r,s,Ml,Sl,rfl,_⟩:=h
  rfl
 ·obtain⟨r,s,Ml,Sl,rfl,er,aM,es,aS,lM,nM,nS,cov,one,q⟩:=h
  refine⟨_,(B1 (V3 PassesOwn.never rfl (piL K (pv 1)) (C7 (i:=2) sc.nd rfl (by first | exact Or.inl rfl | exact Or.inr rfl))
   (B1 (Eb (i:=3) (N':=["_law_other", "_law_some"]) (cap:=[none,some 2]) (cl:=[("_law_some",_)]) sc.nd rfl (by first | exact Or.inl rfl | exact Or.inr rfl) (E8 ⟨⟨rfl,rfl,rfl,rfl⟩,trivial⟩ ⟨rfl,trivial⟩) rfl (piL K (pv 0)) (fun _ _ _ _=>by exact⟨(pgC 0),(K4 (I9 (C6 T.law_within G_law_within (hr.mono (by decide)) (A8 (pv 1) (A8 (pv 0) B2))))),(pv 0)⟩))
   (B3 (J4 (PW.pt (Cn (C3 (zDf K hr.units) (pv 3) (Q1 B2) (F0 _)) (W3 (PW.pt (f7 (C3 (Qa K hr.units) (pv 2) (pv 0) rfl) (U9 (C3 (Tm K hr.units) (pv 3) (Q1 (A8 (pv 2) B2)) (F0 _)))))))) (B3 (B9 M0)) C4))))
   (B3 (B9 M0))),?_⟩
  refine B5 fun N1 hN1=>?_
  refine ex1 rfl ⟨s,rfl,⟨_,SqL.of es⟩,Au (asL (SqL.of es)) (fun j σ G=>(∃v2 v3,σ = [some (.ref r),some (.ref s),v2,v3])/\Same H G) ⟨⟨_,_,rfl⟩,fun b o e=>e⟩ (fun j σ G _ h=>h.2.at s) ?_ ?_⟩
  ·rintro j σ G y hy ⟨⟨v2,v3,rfl⟩,sG⟩ D2 hD2 _
   rw[AI]at hy
   obtain⟨t,ht,rfl⟩:=BS.mp hy
   have mt:=BJ ht
   have et:=sG _ _ (aS t mt)
   refine Ye fun M1 hM1=>?_
   refine ex1 rfl ⟨r,rfl,⟨_,SqL.of (sG _ _ er)⟩,fun D hD=>?_⟩
   refine Gm (r:=fun t:Addr×List Str=>V.ref t.1) (fun t=>V.ref t.1) (asL (SqL.of (sG _ _ er))) (fun o=>t.2.all fun x=>decide (x∈o.2)) (by omega) hD (fun o mo G1 s1 M hM=>?_) (fun y my G sG M hM=>ex1 rfl hM) fun σ' G1 s1 e1=>?_
   ·exact ex1 rfl (ex1 rfl ⟨t.1,o.1,t.2,o.2,rfl,s1 _ _ et,s1 _ _ (sG _ _ (aM o mo)),(nS t mt).1,fun G' s'=>⟨_,rfl,hM G' s'⟩⟩)
   have s1:=sG.trans s1
   have aA:∀o∈Ml.filter (fun o=>t.2.all fun x=>decide (x∈o.2)),o∈Ml:=fun o ho=>(AL.mp ho).1
   have nA:∀l∈(Ml.filter fun o=>t.2.all fun x=>decide (x∈o.2)).map (fun t=>t.2),∀y∈l,J7 y=true:=fun l hl y hy=>by
    obtain⟨o,ho,rfl⟩:=AK.mp hl
    exact nM o (aA o ho) y hy
   refine hM1 _ _ ?_
   refine ex1 rfl ⟨CA _,fun z hz=>?_⟩
   have uz:=Same.new (o:=.lst []) hz
   have rz:Rp K (upd G1 z (.lst [])) (.list []) (.ref z):=by
    simp only[Rp]
    exact⟨z,_,rfl,SqL.of A9,by simp[Rps]⟩
   refine⟨_,_,Br (uz _ _ e1) (fun o ho=>uz _ _ (s1 _ _ (aM o (aA o ho)))),rz,Mf nA,⟨rfl,by simp[PyData.depth,PyData.depthAll]⟩,_,rfl,?_⟩
   have ene:PyData.eqv (lld ((Ml.filter fun o=>t.2.all fun x=>decide (x∈o.2)).map fun t=>t.2)) (.list [])=false:=by
    obtain⟨o,ho,eo⟩:=cov t mt
    cases h:(Ml.filter fun o=>t.2.all fun x=>decide (x∈o.2))with
    | nil=>exact absurd (AL.mpr ⟨ho,eo⟩) (by rw[h];exact BK)
    | cons a b=>exact Xc
   rw[ene]
   refine U3 ?_
   have s2:=s1.trans uz
   have e1:=uz _ _ e1
   generalize upd G1 z (.lst [])=G2 at s2 e1⊢
   refine ex1 rfl (ex1 rfl (Z9 (s2 _ _ (aS t mt)) (s2 _ _ er) (fun o ho=>s2 _ _ (aM o ho)) (nS t mt).2 (fun l hl y hy=>by
    obtain⟨o,ho,rfl⟩:=AK.mp hl
    exact nM o ho y hy) ⟨_,rfl,U4 (fun c=>?_) (fun c=>U3 (hD2 _ _ ⟨⟨_,_,rfl⟩,s2⟩))⟩))
   have eq1:=one t mt (AW c)
   refine ex1 rfl (ex1 rfl ⟨by show 1<=sizeLine;decide,fun z2 hz2=>?_⟩)
   have uz2:=Same.new (o:=.lst [.ref t.1]) hz2
   have r1:=Br (K:=K) (uz2 _ _ e1) fun o ho=>uz2 _ _ (s2 _ _ (aM o (aA o ho)))
   have r2:Rp K (upd G2 z2 (.lst [.ref t.1])) (lld [t.2]) (.ref z2):=Br (ts:=[t]) A9 fun o ho=>by
    rw[AD.mp ho]
    exact uz2 _ _ (s2 _ _ (aS t mt))
   rw[eq1]at r1 nA
   exact Jv r1 r2 (Mf nA) ⟨_,rfl,U3 (hD2 _ _ ⟨⟨_,_,rfl⟩,s2.trans uz2⟩)⟩
  ·rintro σ G ⟨⟨v2,v3,rfl⟩,sG⟩
   exact hN1 _ _ (q G sG)
end
theorem LeftAt.neT{H:Hp}{p n:Addr}{c:Int}{ts:List (Addr×List Str)}(h:LeftAt H p c)(hn:H n=some (.lst (ts.map fun t=>V.ref t.1))):n≠p:=by
 refine h.neP (ss:=ts.map fun t=>(t.1, "", "")) ?_
 unfold P0
 rw[CC]
 exact hn
section
variable{P:Program}{w:World}{K:PySem.W.Frag}{mg:Str->Option Value}{base:Heap}
theorem X1:FnScope ["_law_left_here", "_law_names_here", "_law_some", "_law_name"] ["_law_left_here", "_law_names_here", "_law_some"] (B6 s_law_changed):=⟨rfl,rfl,rfl,by decide +kernel,rfl,by decide +kernel,by decide +kernel⟩
def Dc:Sp:=fun vs H Q _=>∃(p n a:Addr) (c:Int) (ss rs:List Str),vs = [.ref p,.ref n,.ref a]/\LeftAt H p c/\c<=100000/\H n=some (.lst (ss.map V.str))/\ss≠[]/\ss.length<=100/\H a=some (.lst (rs.map V.str))/\rs.Nodup/\rs.Pairwise leS/\rs.length<=100/\(∀x∈rs,x∈ss) /\
 ∀r (rs':List Str) H',Sm [p] H H'->LeftAt H' p (c+1)->H' r=some (.lst (rs'.map V.str))->rs'.Nodup->rs'.Pairwise leS->(∀x∈rs',x∈ss)->Q (.ref r) H'
theorem Cl(T:Tx K mg):FnOk P w K mg base CX0 3 T.law_changed.f T.law_changed.fd ["_law_left_here", "_law_names_here", "_law_some"] Dc:=by
 have G_law_pick:FnOk P w K mg base CX0 2 T.law_pick.f T.law_pick.fd ["_law_left_here", "_law_many"] m9:=P5 T
 have sc:=X1
 refine T.law_changed.F.ok X1 (fun vs H Q E h=>?_) (fun cdv A outer s H vs Q E hr h=>?_)
 ·obtain⟨p,n,a,c,ss,rs,rfl,_⟩:=h
  rfl
 ·obtain⟨p,n,a,c,ss,rs,rfl,L0,hc,hn,ne,ln,ha,ndr,srt,lr,sub,q⟩:=h
  refine⟨_,(B1 (C5 (i:=3) sc.nd rfl (by first | exact Or.inl rfl | exact Or.inr rfl) (V6 (ixL K) (pv 1) (C6 T.law_pick G_law_pick (hr.mono (by decide)) (A8 (pv 0) (A8 (E9 (j7 K) T.b_len W8 (A8 (pv 1) B2)) B2))) (fun _ _=>rfl)))
   (B1 (J4 (C3 (j0 K) (pv 3) (pv 2) rfl) (B3 (B9 (J5 (N':=["_law_one", "_law_name"]) (cap:=[none,some 3]) (cl:=[("_law_name",_)]) (E8 ⟨⟨rfl,rfl,rfl,rfl⟩,trivial⟩ ⟨rfl,trivial⟩) rfl (piL K (pv 2)) (fun _ _ _ _=>by exact⟨(pgC 0),(K4 (C3 Uj (pv 0) (pv 1) (F0 _))),(pv 0)⟩)))) C4)
   (B3 (B9 (E9 (Fc K) T.b_sorted P1 (A8 (D9 Pq (pv 2) (Q1 (A8 (pv 3) B2))) B2)))))),?_⟩
  have l0:0<ss.length:=List.length_pos_iff.mpr ne
  have lm:(ss.map V.str).length=ss.length:=AB ..
  refine B5 fun N1 hN1=>?_
  refine ex1 rfl (ex1 rfl (ex1 rfl (C1 (a:=n) rfl (.inl (SqL.of hn)) ⟨p,c,_,rfl,L0,by omega,by omega,by omega,fun d H1 hd k1 L1=>?_⟩)))
  have n1:=Sm1 k1 hn (L0.ne hn)
  have a1:=Sm1 k1 ha (L0.ne ha)
  have hd':d<ss.length:=by omega
  have hx:ss[d]?=some ss[d]:=AC hd'
  refine⟨n,_,C1 rfl rfl ⟨SqL.of n1,l7 (by rw[AI,hx];rfl),?_⟩⟩
  refine hN1 _ _ (B5 fun N2 hN2=>?_)
  refine ex1 rfl (ex1 rfl (K1 (.inl (SqL.of a1)) ⟨_,rfl,U4 (fun c1=>?_) (fun c1=>?_)⟩))
  ·refine ex1 rfl ⟨a,rfl,⟨_,SqL.of a1⟩,fun D hD=>?_⟩
   refine Gm (fun x=>V.str x) (asL (SqL.of a1)) (fun x=>!decide (V.str x=V.str ss[d])) (by omega) hD (fun y _ G sG M hM=>ex1 rfl (ex1 rfl ⟨rfl,_,rfl,hM G fun b o e=>e⟩)) (fun y my G sG M hM=>ex1 rfl hM) fun σ' G sG eG=>?_
   exact q D (rs.filter fun x=>!decide (V.str x=V.str ss[d])) G (k1.trans sG.sm) (L1.same sG) eG (ndr.sublist BT) (srt.sublist BT) fun x hx=>sub x (AL.mp hx).1
  ·refine hN2 _ _ ?_
   refine ex1 rfl (ex1 rfl ⟨by show 1<=sizeLine;decide,fun z hz=>?_⟩)
   have uz:=Same.new (o:=.lst [.str ss[d]]) hz
   refine⟨a,z,_,_,rfl,rfl,uz _ _ a1,A9,by rw[AB,sizeLine_eq];show _+1<=_;omega,fun z2 hz2=>?_⟩
   have uz2:=Same.new (o:=.lst (rs.map V.str ++ [.str ss[d]])) hz2
   have e2:(upd (upd H1 z (.lst [.str ss[d]])) z2 (.lst (rs.map V.str ++ [.str ss[d]]))) z2=some (.lst ((rs ++ [ss[d]]).map V.str)):=by rw[A9,AR];rfl
   refine⟨z2,rs ++ [ss[d]],rfl,SqL.of e2,fun l rs' hl pm srt'=>?_⟩
   have ul:=Same.new (o:=.lst (rs'.map V.str)) hl
   have sA:=uz.trans (uz2.trans ul)
   refine q l rs' _ (k1.trans sA.sm) (L1.same sA) A9 (pm.nodup_iff.mpr ?_) srt' fun x hx=>?_
   ·refine EE.mpr ⟨ndr,DP _ _,fun u hu v hv e=>?_⟩
    rw[AD.mp hv]at e
    exact c1 (AH (e▸hu))
   ·rcases AV.mp (pm.mem_iff.mp hx)with h | h
    ·exact sub x h
    ·rw[AD.mp h];exact DI hd'
theorem Q9:FnScope ["_law_left_here", "_law_names_here", "_law_strikes_here", "_law_standing", "_law_turn", "_law_some"] ["_law_left_here", "_law_names_here", "_law_strikes_here", "_law_standing"] (B6 s_law_neighbours):=⟨rfl,rfl,rfl,by decide +kernel,rfl,by decide +kernel,by decide +kernel⟩
def Mm:Sp:=fun vs H Q _=>∃(p n b s:Addr) (c:Int) (ss:List Str) (ps:List PA2) (Sl:List (Addr×List Str)),vs = [.ref p,.ref n,.ref b,.ref s]/\LeftAt H p c/\c<=50000/\H n=some (.lst (ss.map V.str))/\ss.length<=100/\(∀y∈ss,J7 y=true)/\H b=some (.lst (P0 ps))/\(∀q∈ps,E7 H q)/\ps.length<=1000 /\
 H s=some (.lst (Sl.map fun t=>V.ref t.1))/\(∀t∈Sl,H t.1=some (.lst (t.2.map V.str)))/\Sl≠[]/\Sl.length<=1000/\(∀t∈Sl,t.2.Nodup/\t.2.Pairwise leS/\t.2.length<=100/\∀x∈t.2,x∈ss)/\(∀rs:List Str,rs.Nodup->rs.Pairwise leS->(∀x∈rs,x∈ss)->(rs∈Sl.map (fun t=>t.2)↔X4 ps rs)) /\
 ∀H',Sm [p] H H'->Q (.bl true) H'
theorem l9(T:Tx K mg):FnOk P w K mg base CX0 4 T.law_neighbours.f T.law_neighbours.fd ["_law_left_here", "_law_names_here", "_law_strikes_here", "_law_standing"] Mm:=by
 have G_law_pick:FnOk P w K mg base CX0 2 T.law_pick.f T.law_pick.fd ["_law_left_here", "_law_many"] m9:=P5 T
 have G_law_changed:FnOk P w K mg base CX0 3 T.law_changed.f T.law_changed.fd ["_law_left_here", "_law_names_here", "_law_some"] Dc:=Cl T
 have G_law_holds:FnOk P w K mg base CX0 1 T.law_holds.f T.law_holds.fd ["_law_some", "_law_strikes_here"] El:=y3 T
 have sc:=Q9
 refine T.law_neighbours.F.ok Q9 (fun vs H Q E h=>?_) (fun cdv A outer s H vs Q E hr h=>?_)
 ·obtain⟨p,n,b,s,c,ss,ps,Sl,rfl,_⟩:=h
  rfl
 ·obtain⟨p,n,b,s,c,ss,ps,Sl,rfl,L0,hc,hn,ln,nm,hb,hp,lp,es,aS,neS,lS,ok,iff,q⟩:=h
  refine⟨_,(B1 (V3 PassesOwn.never rfl (zBz T.b_range (A8 (D9 Bu B8 (Is Hf T.b_int Vc (A8 (I0 (Tm K hr.units) (pv 1) (Q1 B2) (F0 _)) B2))) B2)) (C7 (i:=4) sc.nd rfl (by first | exact Or.inl rfl | exact Or.inr rfl))
   (B1 (C5 (i:=5) sc.nd rfl (by first | exact Or.inl rfl | exact Or.inr rfl) (C6 T.law_changed G_law_changed (hr.mono (by decide)) (A8 (pv 0) (A8 (pv 1) (A8 (V6 (ixL K) (pv 3) (C6 T.law_pick G_law_pick (hr.mono (by decide)) (A8 (pv 0) (A8 (E9 (j7 K) T.b_len W8 (A8 (pv 3) B2)) B2))) (fun _ _=>rfl)) B2)))))
   (B3 (J4 (C3 Uj (I0 (Qa K hr.units) (pv 5) (pv 3) rfl) (C6 T.law_holds G_law_holds (hr.mono (by decide)) (A8 (pv 5) (A8 (pv 2) B2))) (F0 _)) (B3 (B9 M0)) C4))))
   (B3 (B9 M0))),?_⟩
  have l0:0<Sl.length:=List.length_pos_iff.mpr neS
  have lm:(Sl.map fun t=>V.ref t.1).length=Sl.length:=AB ..
  refine B5 fun N1 hN1=>?_
  refine ex1 rfl ⟨CA _,fun z hz=>?_⟩
  have uz:=Same.new (o:=.lst []) hz
  have rz:Rp K (upd H z (.lst [])) (sd []) (.ref z):=X5 (ss:=[]) (SqL.of A9)
  refine⟨sd ss,sd [],X5 (SqL.of (uz _ _ hn)),rz,n4 nm,n4 (fun y h=>absurd h BK),.inr ⟨_,rfl,C1 rfl rfl ?_⟩⟩
  rw[Vd]
  obtain⟨k,ek,k12,kne⟩:∃k:Nat,((12:Int)*if(!decide (ss = []))=true then 1 else 0) =(k:Int)/\k<=12/\(0<k->ss≠[]):=by
   by_cases e:ss = []
   ·rw[AH e];exact⟨0,by simp,by omega,fun h=>absurd h (by omega)⟩
   ·rw[A_ e];exact⟨12,by simp,by omega,fun _=>e⟩
  refine⟨.inl ⟨by decide,by decide⟩,(k:Int),congrArg (fun x=>[V.int x]) ek,by omega,by omega,?_⟩
  rw[EC]
  have L1:=L0.same uz
  have n1:=uz _ _ hn
  have b1:=uz _ _ hb
  have s1:=uz _ _ es
  have p1:=D0 uz hp
  have aS1:∀t∈Sl,(upd H z (.lst [])) t.1=some (.lst (t.2.map V.str)):=fun t ht=>uz _ _ (aS t ht)
  generalize upd H z (.lst [])=H1 at uz L1 n1 b1 s1 p1 aS1⊢
  refine t6 (fun j σ G=>(∃v4 v5,σ = [some (.ref p),some (.ref n),some (.ref b),some (.ref s),v4,v5])/\Sm [p] H1 G/\LeftAt G p (c+2 *(j:Int))) ⟨⟨_,_,rfl⟩,Sm.refl _ _,L1.cast (by omega)⟩ ?_ ?_
  ·rintro j σ G hj ⟨⟨v4,v5,rfl⟩,kG,LG⟩ D2 hD2 _
   rw[Int.zero_add]
   have nG:=Sm1 kG n1 (L1.ne n1)
   have bG:=Sm1 kG b1 (L1.neP b1)
   have sG:=Sm1 kG s1 (L1.neT s1)
   refine Ye fun M1 hM1=>?_
   refine ex1 rfl (ex1 rfl (ex1 rfl (ex1 rfl (ex1 rfl (C1 (a:=s) rfl (.inl (SqL.of sG)) ⟨p,_,_,rfl,LG,by omega,by omega,by omega,fun d G1 hd k1 L2=>?_⟩)))))
   have hd':d<Sl.length:=by omega
   have hx:Sl[d]?=some Sl[d]:=AC hd'
   have mt:=DI hd'
   have kG1:=kG.trans k1
   have n2:=Sm1 kG1 n1 (L1.ne n1)
   have s2:=Sm1 kG1 s1 (L1.neT s1)
   have t2:=Sm1 kG1 (aS1 _ mt) (L1.ne (aS1 _ mt))
   obtain⟨o1,o2,o3,o4⟩:=ok _ mt
   refine⟨s,_,C1 rfl rfl ⟨SqL.of s2,l7 (by rw[AI,hx];rfl),?_⟩⟩
   refine⟨p,n,Sl[d].1,_,ss,Sl[d].2,rfl,L2,by omega,n2,kne (by omega),ln,t2,o1,o2,o3,o4,fun r rs' G2 k2 L3 er ndr srt sub=>?_⟩
   have kG2:=kG1.trans k2
   have s3:=Sm1 kG2 s1 (L1.neT s1)
   have b3:=Sm1 kG2 b1 (L1.neP b1)
   have p3:∀q∈ps,E7 G2 q:=fun q hq=>Xf (p1 q hq) L1 kG2
   have a3:∀t∈Sl,G2 t.1=some (.lst (t.2.map V.str)):=fun t ht=>Sm1 kG2 (aS1 t ht) (L1.ne (aS1 t ht))
   refine hM1 _ _ ?_
   refine ex1 rfl (ex1 rfl (Z9 er s3 a3 (fun y hy=>nm y (sub y hy)) (fun l hl y hy=>by
    obtain⟨t,ht,rfl⟩:=AK.mp hl
    exact nm y ((ok t ht).2.2.2 y hy)) (ex1 rfl (ex1 rfl ⟨r,b,rs',ps,rfl,er,b3,p3,lp,fun G3 s4=>⟨rfl,_,rfl,?_⟩⟩))))
   have e:decide (rs'∈Sl.map fun t=>t.2)=hoB ps rs':=CK.mpr (AY.trans ((iff rs' ndr srt sub).trans hoB_iff.symm))
   rw[e,AH rfl]
   exact U3 (hD2 _ _ ⟨⟨_,_,rfl⟩,kG2.trans s4.sm,(L3.same s4).cast (by omega)⟩)
  ·rintro σ G ⟨⟨v4,v5,rfl⟩,kG,LG⟩
   exact hN1 _ _ (q G (uz.sm.trans kG))
def Si:Sp:=fun vs H Q _=>∃p:Addr,vs = [.ref p]/\LeftAt H p 0 /\
 ∀t n a (ss:List Str) (ps:List PA2) H',Sm [p] H H'->H' t=some (.tup [.ref n,.ref a])->H' n=some (.lst (ss.map V.str))->Y5 ss->ss.length<=10->H' a=some (.lst (P0 ps))->(∀q∈ps,E7 H' q)->StrkOk ss ps->(∃c,LeftAt H' p c/\c<=5000)->Q (.ref t) H'
theorem Jc(T:Tx K mg):FnOk P w K mg base CX0 4 T.law_web.f T.law_web.fd ["_law_left_here"] Si:=by
 have G_law_names:FnOk P w K mg base CX0 3 T.law_names.f T.law_names.fd ["_law_left_here", "_law_many"] Ki:=Fx T
 have G_law_size:FnOk P w K mg base CX0 3 T.law_size.f T.law_size.fd ["_law_left_here"] Rk:=Jr T
 have G_law_strikes:FnOk P w K mg base CX0 3 T.law_strikes.f T.law_strikes.fd ["_law_left_here", "_law_names_here"] (Dn K):=Ck T
 have sc:=De
 refine T.law_web.F.ok De (fun vs H Q E h=>?_) (fun cdv A outer s H vs Q E hr h=>?_)
 ·obtain⟨p,rfl,_⟩:=h
  rfl
 ·obtain⟨p,rfl,L1,q⟩:=h
  refine⟨_,(B1 (C5 (i:=1) sc.nd rfl (by first | exact Or.inl rfl | exact Or.inr rfl) (C6 T.law_names G_law_names (hr.mono (by decide)) (A8 (pv 0) (A8 (C6 T.law_size G_law_size (hr.mono (by decide)) (A8 (pv 0) B2)) B2))))
   (B3 (B9 (O6 (A8 (pv 1) (A8 (C6 T.law_strikes G_law_strikes (hr.mono (by decide)) (A8 (pv 0) (A8 (pv 1) B2))) B2)))))),?_⟩
  refine B5 fun N1 hN1=>?_
  refine ex1 rfl (ex1 rfl ⟨p,0,rfl,L1,by decide,fun sz H2 hsz k2 L2=>?_⟩)
  refine⟨p,_,sz,rfl,L2,by omega,by omega,fun n ss H3 hn k3 e3 l3 N3 L3=>?_⟩
  refine hN1 _ _ ?_
  refine ex1 rfl (ex1 rfl (ex1 rfl ⟨p,n,_,ss,rfl,L3,by omega,e3,N3,by omega,fun a ps c4 H4 ha k4 e4 pin4 O4 hc4 L4=>⟨by show 2<=sizeLine;decide,fun t ht=>?_⟩⟩))
  have ut:=Same.new (o:=.tup [.ref n,.ref a]) ht
  exact q t n a ss ps _ ((k2.trans k3).trans (k4.trans ut.sm)) A9 (ut _ _ (Sm1 k4 e3 (L3.ne e3))) N3 (by omega) (ut _ _ e4) (D0 ut pin4) O4 ⟨_,L4.same ut,by omega⟩
end
theorem zAx{a b:Nat}(h:Sub a b):a<=b:=by
 have e:a ||| b=b:=CP fun j=>by
  rw[BR]
  cases ha:a.testBit j with
  | true=>rw[h j ha];rfl
  | false=>rw[FZ]
 rw[<-e]
 exact Nat.left_le_or
theorem StandM.more{n:Nat}{A B:List Nat}(N:Net n A B){m j:Nat}(h:StandM n A B m)(k:Bh n A B m j):StandM n A B (m ||| 2^j):=by
 obtain⟨lo,q,b⟩:=h
 have nohit:∀i,m.testBit i=true->¬(B.getD i 0).testBit j=true:=fun i hi hb=>by
  obtain⟨l,hl,e⟩:=k.2 i ((N.tr j i).mpr hb)
  exact q l i hl hi e
 have nohit2:∀i,m.testBit i=true->¬(B.getD j 0).testBit i=true:=fun i hi hb=>by
  obtain⟨l,hl,e⟩:=(b i hi).2 j ((N.tr i j).mpr hb)
  exact nohit l hl e
 have noself:¬(B.getD j 0).testBit j=true:=fun hb=>by
  obtain⟨l,hl,e⟩:=k.2 j ((N.tr j j).mpr hb)
  exact nohit l hl e
 have s:Sub m (m ||| 2^j):=fun i hi=>(M6 m j i).mpr (.inl hi)
 refine⟨lo.or k.1,fun i l hi hl hb=>?_,fun i hi=>?_⟩
 ·rcases(M6 m j i).mp hi with z | z
  ·rcases(M6 m j l).mp hl with y | y
   ·exact q i l z y hb
   ·subst y;exact nohit i z hb
  ·subst z
   rcases(M6 m i l).mp hl with y | y
   ·exact nohit2 l y hb
   ·subst y;exact noself hb
 ·rcases(M6 m j i).mp hi with z | z
  ·exact Bm s (b i z)
  ·subst z;exact Bm s k
theorem Bx{n:Nat}{A B:List Nat}(N:Net n A B):∀k m,StandM n A B m->2^n-m<=k->∃g,Xg O3 n A B g/\Sub m g
 | 0,m,h,hk=>absurd h.1.lt (by omega)
 | k+1,m,h,hk=>by
  by_cases c:∃m',StandM n A B m'/\Sub m m'/\m'≠m
  ·obtain⟨m',h',s',ne⟩:=c
   have:=zAx s'
   have:=h'.1.lt
   obtain⟨g,hg,sg⟩:=Bx N k m' h' (by omega)
   exact⟨g,hg,fun j z=>sg j (s' j z)⟩
  ·have mx:∀m',StandM n A B m'->Sub m m'->m'=m:=fun m' h' s'=>Classical.byContradiction fun z=>c ⟨m',h',s',z⟩
   refine⟨m,⟨⟨h,fun j kj=>?_⟩,fun m' w' s'=>mx m' w'.1 s'⟩,fun j z=>z⟩
   have e:=mx _ (h.more N kj) fun i hi=>(M6 m j i).mpr (.inl hi)
   rw[<-e]
   exact(M6 m j j).mpr (.inr rfl)
theorem Bf{ns:List Str}{a b:Nat}(nd:ns.Nodup)(la:Low ns.length a):((setOf ns a).all fun x=>decide (x∈setOf ns b))=true↔Sub a b:=by
 rw[CJ]
 constructor
 ·intro h j hj
  have jl:=la j hj
  have e:ns[j]?=some ns[j]:=AC jl
  obtain⟨k,hk,ek⟩:=mem_setOf.mp (AW (h _ (mem_setOf.mpr ⟨j,hj,e⟩)))
  rw[(HG (la j hj) nd).mp (e.trans ek.symm)]
  exact hk
 ·intro h x hx
  obtain⟨k,hk,e⟩:=mem_setOf.mp hx
  exact AH (mem_setOf.mpr ⟨k,h k hk,e⟩)
theorem Bz{ns:List Str}{a b:Nat}(nd:ns.Nodup)(la:Low ns.length a)(lb:Low ns.length b)(e:setOf ns a=setOf ns b):a=b:=by
 have h1:=(Bf (b:=b) nd la).mp (by rw[e];exact CJ.mpr fun x hx=>AH hx)
 have h2:=(Bf (b:=a) nd lb).mp (by rw[e];exact CJ.mpr fun x hx=>AH hx)
 exact Fb h1 h2
def zCu(ns:List Str)(qs:List PA2)(rs:List Str):Prop:=Lx qs rs/\∀n∈ns,n∈rs\/∃x∈rs,Ae qs x n
theorem Vp{ns:List Str}(nd:ns.Nodup){m j:Nat}{y:Str}(hj:ns[j]?=some y):m.testBit j=true↔y∈setOf ns m:=by
 rw[mem_setOf]
 refine⟨fun h=>⟨j,h,hj⟩,fun⟨k,hk,e⟩=>?_⟩
 rw[(HG (AG.mp hj).1 nd).mp (hj.trans e.symm)]
 exact hk
theorem Ay{ns:List Str}{ps:List PA2}{A B:List Nat}{m:Nat}(MA:MB ns ((ps.map fun q=>q.2).map fun k=>(k.2,k.1)) A)(M:MB ns (ps.map fun q=>q.2) B)(lo:Low ns.length m)(hin:∀x y,Ae ps x y->x∈ns):StandM ns.length A B m↔X4 ps (setOf ns m):=by
 have kp:∀{j:Nat} {y:Str},ns[j]?=some y->(Bh ns.length A B m j↔Uq ps (setOf ns m) y):=fun hj=>Kf MA M (EA _) hin hj
 constructor
 ·rintro⟨_,q,b⟩
  refine⟨(R8 M).mpr q,fun x n hn hx=>?_⟩
  obtain⟨j,hj,e⟩:=mem_setOf.mp hn
  exact(kp e).mp (b j hj) x hx
 ·rintro⟨q,b⟩
  refine⟨lo,(R8 M).mp q,fun j hj=>?_⟩
  have jl:=lo j hj
  have e:ns[j]?=some ns[j]:=AC jl
  exact(kp e).mpr fun x s=>b x _ (mem_setOf.mpr ⟨j,hj,e⟩) s
theorem Rv{ns:List Str}{ps:List PA2}{A B:List Nat}{m:Nat}(nd:ns.Nodup)(M:MB ns (ps.map fun q=>q.2) B)(lo:Low ns.length m):OutM ns.length A B m↔zCu ns ps (setOf ns m):=by
 unfold OutM zCu
 rw[R8 M]
 refine⟨fun⟨_,q,h⟩=>⟨q,fun n hn=>?_⟩,fun⟨q,h⟩=>⟨lo,q,fun j hj=>?_⟩⟩
 ·obtain⟨j,e⟩:=GA.mp hn
  rcases h j (AG.mp e).1 with z | z
  ·exact .inl ((Vp nd e).mp z)
  ·exact .inr ((Ff M (EA _) e).mp z)
 ·have e:ns[j]?=some ns[j]:=AC hj
  rcases h _ (DI hj)with z | z
  ·exact .inl ((Vp nd e).mpr z)
  ·exact .inr ((Ff M (EA _) e).mpr z)
theorem Im{α:Type}{ky:α->List (List Nat)}(inj:∀a b,ky a=ky b->a=b){l:List α}(nd:l.Nodup)(h:l.Pairwise (fun a b=>TS.lexB (ky b) (ky a)=false)):l.Pairwise (fun a b=>TS.lexB (ky a) (ky b)=true) :=
 (nd.and h).imp fun{a b} ⟨n,z⟩=>by
  cases e:TS.lexB (ky a) (ky b)with
  | true=>rfl
  | false=>exact absurd (inj _ _ (TS.lexB_total _ _ e z)) n
theorem Df{ns ss:List Str}(sub:ss.Sublist ns)(nd:ns.Nodup):(ns.filter fun n=>decide (n∈ss))=ss:=by
 induction sub with
 | slnil=>rfl
 | @cons l₁ l₂ a s ih =>
  obtain⟨h1,h2⟩:=DB.mp nd
  rw[CH,AJ (by simpa using fun z=>h1 (s.subset z)),ih h2]
 | @cons_cons l₁ l₂ a s ih =>
  obtain⟨h1,h2⟩:=DB.mp nd
  rw[CH,AQ (by simp)]
  congr 1
  refine Eq.trans (List.filter_congr fun n hn=>?_) (ih h2)
  rw[CK,AY,AY,BD]
  exact⟨fun z=>z.resolve_left fun e=>h1 (e▸hn),.inr⟩
theorem Ra{ns:List Str}{m j:Nat}{y:Str}(nd:ns.Nodup)(hj:ns[j]?=some y):m.testBit j=true↔y∈setOf ns m:=by
 rw[mem_setOf]
 refine⟨fun h=>⟨j,h,hj⟩,fun⟨k,hk,e⟩=>?_⟩
 rw[(HG (AG.mp hj).1 nd).mp (hj.trans e.symm)]
 exact hk
theorem Se(p:Nat->Prop):∀n,∃m,Low n m/\∀j,j<n->(m.testBit j=true↔p j)
 | 0=>⟨0,Low.zero 0,fun j h=>absurd h (Nat.not_lt_zero _)⟩
 | n+1=>by
  obtain⟨m,lo,h⟩:=Se p n
  by_cases c:p n
  ·refine⟨m ||| 2^n,fun j hj=>?_,fun j hj=>?_⟩
   ·rcases(M6 m n j).mp hj with z | z
    ·exact CQ (lo j z)
    ·omega
   ·rw[M6]
    by_cases e:j=n
    ·subst e;exact⟨fun _=>c,fun _=>.inr rfl⟩
    ·rw[h j (by omega)]
     exact⟨fun z=>z.resolve_right e,.inl⟩
  ·refine⟨m,fun j hj=>CQ (lo j hj),fun j hj=>?_⟩
   by_cases e:j=n
   ·subst e;exact⟨fun z=>absurd (lo j z) (DE _),fun z=>absurd z c⟩
   ·exact h j (by omega)
theorem Ru{ns ss:List Str}(nd:ns.Nodup)(sub:ss.Sublist ns):∃m,Low ns.length m/\setOf ns m=ss:=by
 obtain⟨m,lo,h⟩:=Se (fun j=>∃y∈ss,ns[j]?=some y) ns.length
 refine⟨m,lo,?_⟩
 rw[<-Df (Ie ns m) nd]
 conv=>rhs;rw[<-Df sub nd]
 refine List.filter_congr fun y hy=>?_
 obtain⟨j,hj⟩:=GA.mp hy
 rw[CK,AY,AY,<-Ra nd hj,h j (AG.mp hj).1]
 refine⟨fun⟨z,hz,e⟩=>?_,fun hz=>⟨y,hz,hj⟩⟩
 rw[hj]at e
 cases e
 exact hz
theorem Bp{ps qs:List PA2}(h:qs.Perm ps){x y:Str}:Ae ps x y↔Ae qs x y:=⟨fun⟨q,a,e⟩=>⟨q,h.mem_iff.mpr a,e⟩,fun⟨q,a,e⟩=>⟨q,h.mem_iff.mp a,e⟩⟩
theorem Bk{ps qs:List PA2}(h:qs.Perm ps){s:List Str}:X4 ps s↔X4 qs s:=by
 unfold X4 Lx zAr
 simp only[Bp h]
theorem OutM.max{n:Nat}{A B:List Nat}(N:Net n A B){m:Nat}(h:OutM n A B m):Xg O3 n A B m:=by
 refine⟨⟨h.stand N,fun j kj=>?_⟩,fun m' w' s=>?_⟩
 ·rcases h.2.2 j kj.1 with z | ⟨b,hb,e⟩
  ·exact z
  ·obtain⟨c,hc,e2⟩:=kj.2 b ((N.tr j b).mpr e)
   exact absurd e2 (h.2.1 c b hc hb)
 ·refine Fb (fun j hj=>?_) s
  rcases h.2.2 j (w'.1.1 j hj)with z | ⟨b,hb,e⟩
  ·exact z
  ·exact absurd e (w'.1.2.1 b j (s b hb) hj)
theorem n6{ns rs:List Str}(nd:ns.Nodup)(srt:ns.Pairwise leS)(ndr:rs.Nodup)(srr:rs.Pairwise leS)(h:∀x∈rs,x∈ns):rs.Sublist ns:=by
 have e:rs=ns.filter fun x=>decide (x∈rs):=Dg srr (srt.sublist BT) ((DT ndr (nd.sublist BT)).mpr fun x=>by
  rw[AL,AY]
  exact⟨fun z=>⟨h x z,z⟩,(·.2)⟩)
 rw[e]
 exact BT
theorem Dd{α:Type}{p:α->Bool}{x:α}:∀{l:List α},l.Nodup->x∈l->(∀y∈l,p y=true↔y=x)->l.filter p = [x]
 | y::l,nd,hx,h=>by
  obtain⟨n1,n2⟩:=DB.mp nd
  rw[CH]
  by_cases e:y=x
  ·subst e
   rw[AQ ((h y (AU ..)).mpr rfl)]
   congr 1
   refine List.filter_eq_nil_iff.mpr fun z hz w=>n1 ?_
   rw[<-(h z (AM _ hz)).mp w]
   exact hz
  ·rw[AJ fun w=>e ((h y (AU ..)).mp w)]
   exact Dd n2 ((BD.mp hx).resolve_left fun w=>e w.symm) fun z hz=>h z (AM _ hz)
theorem Gr.sub{ns:List Str}{sr:Str->List Str}{n:Str}(h:Gr ns sr n):n∈ns:=h (·∈ns) fun m hm _=>hm
theorem Gr.out{ns:List Str}{sr:Str->List Str}{n:Str}(h:Gr ns sr n):∀y∈sr n,∃z∈sr y,Gr ns sr z :=
 (h (fun m=>Gr ns sr m/\∀y∈sr m,∃z∈sr y,Gr ns sr z) fun m hm c=>by
  have:∀y∈sr m,∃z∈sr y,Gr ns sr z:=fun y hy=>let⟨z,a,b⟩:=c y hy;⟨z,a,b.1⟩
  exact⟨Gr.closed hm this,this⟩).2
theorem Gr.least{ns:List Str}{qs:List PA2}{s:List Str}{n:Str}(W:Ds ns qs s)(h:Gr ns (B4 qs) n):n∈s:=h (·∈s) fun m hm c=>(W.2 m hm).mpr fun x hx=>by
 obtain⟨z,a,b⟩:=c x (strk_strikers.mpr hx)
 exact⟨z,b,strk_strikers.mp a⟩
theorem Gr.whole{ns:List Str}{qs:List PA2}{s rs:List Str}(W:Ds ns qs s)(h:∀n,n∈rs↔Gr ns (B4 qs) n):Ds ns qs rs:=by
 have kp:∀n∈rs,Uq qs rs n:=fun n hn x hx=>by
  obtain⟨z,a,b⟩:=((h n).mp hn).out x (strk_strikers.mpr hx)
  exact⟨z,(h z).mpr b,strk_strikers.mp a⟩
 refine⟨⟨fun m hm n hn=>W.1.1 m (((h m).mp hm).least W) n (((h n).mp hn).least W),fun x n hn hx=>kp n hn x hx⟩,fun n hn=>⟨kp n,fun k=>(h n).mpr (Gr.closed hn fun y hy=>?_)⟩⟩
 obtain⟨z,a,b⟩:=k y (strk_strikers.mp hy)
 exact⟨z,strk_strikers.mpr b,(h z).mp a⟩
theorem Ts(ns:List Str)(i:Nat):Sk (ns.map V.str) none (some ((i:Int)+1)) =(ns.take (i+1)).map V.str:=by
 unfold Sk
 rw[HT.sIx_none,show((i:Int)+1) =((i+1:Nat):Int) by push_cast;rfl,HT.sIx_nat,ER,Nat.sub_zero,AB,<-List.map_take]
 congr 1
 rw[<-GY,CG]
theorem zEm(ss:List Str):Sk (ss.map V.str) none (some 8) =(ss.take 8).map V.str:=Ts ss 7
structure Lst(H:Hp)(ns:List Str)(r:Addr)(ts:List (Addr×List Str))(p:List Str->Prop):Prop where
 er:H r=some (.lst (ts.map fun t=>V.ref t.1))
 at_:∀t∈ts,H t.1=some (.lst (t.2.map V.str))
 srt:ts.Pairwise fun a b=>TS.lexB (TS.kyS b.2) (TS.kyS a.2)=false
 mem:∀s,s∈ts.map (fun t=>t.2)↔(∃m,Low ns.length m/\s=setOf ns m)/\p s
 nd:(ts.map fun t=>t.2).Nodup
 len:ts.length<=300
theorem Lst.same{H H':Hp}{ns:List Str}{r:Addr}{ts:List (Addr×List Str)}{p:List Str->Prop}(h:Lst H ns r ts p)(s:Same H H'):Lst H' ns r ts p:=⟨s _ _ h.er,fun t ht=>s _ _ (h.at_ t ht),h.srt,h.mem,h.nd,h.len⟩
theorem Lst.of{H0 H:Hp}{ns:List Str}{r:Addr}{ts:List (Addr×List Str)}{p:List Str->Prop}{Ms:List Nat}{Tg:Nat->Prop}(nd:ns.Nodup)(er:H r=some (.lst (ts.map fun t=>V.ref t.1)))(LL:LLn H0 H ts)(pm:(ts.map fun t=>t.2).Perm (Ms.map (setOf ns)))(srt:ts.Pairwise fun a b=>TS.lexB (TS.kyS b.2) (TS.kyS a.2)=false)
  (ndM:Ms.Nodup) (mm:∀m,m∈Ms↔Tg m) (tl:∀m,Tg m->Low ns.length m) (h:∀m,Low ns.length m->(Tg m↔p (setOf ns m))) (le:Ms.length<=300):Lst H ns r ts p:=by
 refine⟨er,LL.at_,srt,fun s=>?_,?_,?_⟩
 ·rw[pm.mem_iff,AK]
  constructor
  ·rintro⟨m,hm,rfl⟩
   have t:=(mm m).mp hm
   exact⟨⟨m,tl m t,rfl⟩,(h m (tl m t)).mp t⟩
  ·rintro⟨⟨m,lo,rfl⟩,hp⟩
   exact⟨m,(mm m).mpr ((h m lo).mpr hp),rfl⟩
 ·refine pm.nodup_iff.mpr ?_
  rw[List.Nodup,CB]
  exact(FF.mp ndM).imp fun{a b} ⟨ha,hb,n⟩ e=>n (Bz nd (tl a ((mm a).mp ha)) (tl b ((mm b).mp hb)) e)
 ·have:=pm.length_eq
  rw[AB,AB]at this
  omega
section
variable{H:Hp}{ns:List Str}{r:Addr}{ts:List (Addr×List Str)}{p:List Str->Prop}
theorem Lst.get(h:Lst H ns r ts p){t:Addr×List Str}(ht:t∈ts):(∃m,Low ns.length m/\t.2=setOf ns m)/\p t.2:=(h.mem t.2).mp (AK.mpr ⟨t,ht,rfl⟩)
theorem Lst.sub(h:Lst H ns r ts p){t:Addr×List Str}(ht:t∈ts):t.2.Sublist ns:=by
 obtain⟨⟨m,_,e⟩,_⟩:=h.get ht
 rw[e]
 exact Ie ns m
theorem Lst.nm(h:Lst H ns r ts p)(nmn:∀y∈ns,J7 y=true):∀l∈ts.map (fun t=>t.2),∀y∈l,J7 y=true:=fun l hl y hy=>by
 obtain⟨t,ht,rfl⟩:=AK.mp hl
 exact nmn y ((h.sub ht).subset hy)
theorem Lst.ok(h:Lst H ns r ts p)(nd:ns.Nodup)(srn:ns.Pairwise leS)(ln:ns.length<=8)(nmn:∀y∈ns,J7 y=true):∀t∈ts,t.2.Nodup/\t.2.length<=100/\t.2.Pairwise leS/\∀y∈t.2,J7 y=true:=fun t ht =>
 ⟨nd.sublist (h.sub ht),Nat.le_trans (h.sub ht).length_le (by omega),srn.sublist (h.sub ht),fun y hy=>nmn y ((h.sub ht).subset hy)⟩
theorem Lst.rise(h:Lst H ns r ts p):ts.Pairwise fun a b=>TS.lexB (TS.kyS a.2) (TS.kyS b.2)=true :=
 CB.mp (Im (ky:=TS.kyS) (fun a b=>Iq) h.nd (CB.mpr h.srt))
end
section
variable{K:PySem.W.Frag}
theorem o8{α:Type}{J:It}{ys:List α}{r:α->V}{a D:Addr}{H:Hp}{te:TE}{c:St}{v0:Option V}{Q:St->Hp->Prop}(as:AsSeq J (ys.map r) a H)(len:ys.length<=5000)(hD:H D=none)
  (he:∀y∈ys,∀G,Same H G->∀M:VK,(∀G',Same G G'->M (.bl true) G')->te (some (r y)::c) G M)
  (q:∀σ G (bs:List Bool),Same H G->G D=some (.lst (bs.map V.bl))->bs.all id=true->Q σ G):Ea (Q6 0) y6 (p9 D te) J (v0::c) (upd H D (.lst [])) Q :=
 Uy (fun _=>V.bl true) as (fun _=>true) len hD (fun y _ G sG M hM=>hM G fun b o e=>e) he fun σ G sG eG=>q σ G (ys.map fun _=>true) sG (by rw[eG,DW.mpr fun _ _=>rfl,CC];rfl) (CJ.mpr fun b hb=>by
  obtain⟨_,_,rfl⟩:=AK.mp hb
  rfl)
end
section
variable{P:Program}{w:World}{K:PySem.W.Frag}{mg:Str->Option Value}{base:Heap}
theorem Wb:FnScope ["_law_script", "_law_k", "_law_left_here", "_law_names_here", "_law_strikes_here", "_law_web_here", "_law_whole", "_law_most", "_law_outright", "_law_own", "_law_standing"] ["_law_script"] (B6 s_law):=⟨rfl,rfl,rfl,by decide +kernel,rfl,by decide +kernel,by decide +kernel⟩
def Li(K:PySem.W.Frag):Sp:=fun vs H Q _=>∃(u:Addr) (xs:List Int),vs = [.ref u]/\SqL K H u (xs.map V.int)/\xs.length<=63/\∀H',Q (.bl true) H'
set_option maxHeartbeats 4000000 in
theorem zAj(T:Tx K mg){f:Addr}{fd:FuncData}(F:Fun K "law" "law" s_law f fd):FnOk P w K mg base CX0 20 f fd ["_law_script"] (Li K):=by
 have G_law_left:FnOk P w K mg base CX0 1 T.law_left.f T.law_left.fd ["_law_script", "_law_k"] (Pm K):=Ka T
 have G_law_web:FnOk P w K mg base CX0 4 T.law_web.f T.law_web.fd ["_law_left_here"] Si:=Jc T
 have G_law_holds:FnOk P w K mg base CX0 1 T.law_holds.f T.law_holds.fd ["_law_some", "_law_strikes_here"] El:=y3 T
 have G_law_within:FnOk P w K mg base CX0 1 T.law_within.f T.law_within.fd ["_law_one", "_law_other"] At:=e9 T
 have G_law_are_above:FnOk P w K mg base CX0 2 T.law_are_above.f T.law_are_above.fd ["_law_most", "_law_standing"] Lu:=y7 T
 have G_law_is_rising:FnOk P w K mg base CX0 1 T.law_is_rising.f T.law_is_rising.fd ["_law_lists"] He:=z7 T
 have G_law_all_outside:FnOk P w K mg base CX0 1 T.law_all_outside.f T.law_all_outside.fd ["_law_some", "_law_names_here", "_law_strikes_here"] Do:=j4 T
 have G_law_neighbours:FnOk P w K mg base CX0 4 T.law_neighbours.f T.law_neighbours.fd ["_law_left_here", "_law_names_here", "_law_strikes_here", "_law_standing"] Mm:=l9 T
 have G_least:FnOk P w K mg base CX0 7 T.least.f T.least.fd ["web"] (Lj T.CWeb):=Ta T
 have G_standing_sets:FnOk P w K mg base CX0 18 T.standing_sets.f T.standing_sets.fd ["web"] (m8 T.CWeb StandM):=Aa T
 have G_whole_sets:FnOk P w K mg base CX0 18 T.whole_sets.f T.whole_sets.fd ["web"] (m8 T.CWeb O3):=Ei T
 have G_outright_sets:FnOk P w K mg base CX0 18 T.outright_sets.f T.outright_sets.fd ["web"] (m8 T.CWeb OutM):=y9 T
 have G_greatest_sets:FnOk P w K mg base CX0 18 T.greatest_sets.f T.greatest_sets.fd ["web"] (Lw T.CWeb O3):=y4 T
 have G_Web___init__:FnOk P w K mg base CX0 3 T.fWeb___init__ T.fdWeb___init__ ["self", "names", "strikes"] (Cg K T.CWeb):=Il T
 have sc:=Wb
 refine F.ok Wb (fun vs H Q E h=>?_) (fun cdv A outer s H vs Q E hr h=>?_)
 ·obtain⟨u,xs,rfl,_⟩:=h
  rfl
 ·obtain⟨u,xs,rfl,hS,hlen,q⟩:=h
  refine⟨_,(B1 (V3 PassesOwn.never rfl (zBz T.b_range (A8 (E9 (Pr rfl) T.b_max Zg (A8 B8 (A8 (E9 (Qx rfl) T.b_min zBn (A8 (E9 (j7 K) T.b_len W8 (A8 (pv 0) B2)) (A8 B8 B2))) B2))) B2)) (C7 (i:=1) sc.nd rfl (by first | exact Or.inl rfl | exact Or.inr rfl))
   (B1 (C5 (i:=2) sc.nd rfl (by first | exact Or.inl rfl | exact Or.inr rfl) (C6 T.law_left G_law_left (hr.mono (by decide)) (A8 (pv 0) (A8 (pv 1) B2))))
   (B1 (d6 (C6 T.law_web G_law_web (hr.mono (by decide)) (A8 (pv 2) B2)) (pgT K (n:=2) (C0 (C7 (i:=3) sc.nd rfl (by first | exact Or.inl rfl | exact Or.inr rfl)) (C0 (C7 (i:=4) sc.nd rfl (by first | exact Or.inl rfl | exact Or.inr rfl)) J2))))
   (B1 (C5 (i:=3) sc.nd rfl (by first | exact Or.inl rfl | exact Or.inr rfl) (Te (slL K) (pv 3) Yh (Xr B8)))
   (B1 (C5 (i:=4) sc.nd rfl (by first | exact Or.inl rfl | exact Or.inr rfl) (J5 (N':=["_law_one", "_law_names_here"]) (cap:=[none,some 3]) (cl:=[("_law_names_here",_)]) (E8 ⟨⟨rfl,rfl,rfl,rfl⟩,trivial⟩ ⟨rfl,trivial⟩) rfl (piL K (pv 4)) (fun _ _ _ _=>by exact⟨(pgC 0),(K4 (PW.pt (f7 (C3 (j0 K) (V6 (ixT K) (pv 0) B8 (fun _ _=>rfl)) (pv 1) rfl) (U9 (C3 (j0 K) (V6 (ixT K) (pv 0) B8 (fun _ _=>rfl)) (pv 1) rfl))))),(pv 0)⟩)))
   (B1 (C5 (i:=5) sc.nd rfl (by first | exact Or.inl rfl | exact Or.inr rfl) (Iw T.mkWeb G_Web___init__ (hr.mono (by decide)) rfl T.mgWeb T.bWeb___init__ .nil K6 (A8 (pv 3) (A8 (pv 4) B2))))
   (B1 (d6 (O6 (A8 (C6 T.whole_sets G_whole_sets (hr.mono (by decide)) (A8 (pv 5) B2)) (A8 (C6 T.greatest_sets G_greatest_sets (hr.mono (by decide)) (A8 (pv 5) B2)) B2))) (pgT K (n:=2) (C0 (C7 (i:=6) sc.nd rfl (by first | exact Or.inl rfl | exact Or.inr rfl)) (C0 (C7 (i:=7) sc.nd rfl (by first | exact Or.inl rfl | exact Or.inr rfl)) J2))))
   (B1 (d6 (O6 (A8 (C6 T.outright_sets G_outright_sets (hr.mono (by decide)) (A8 (pv 5) B2)) (A8 (C6 T.least G_least (hr.mono (by decide)) (A8 (pv 5) B2)) B2))) (pgT K (n:=2) (C0 (C7 (i:=8) sc.nd rfl (by first | exact Or.inl rfl | exact Or.inr rfl)) (C0 (C7 (i:=9) sc.nd rfl (by first | exact Or.inl rfl | exact Or.inr rfl)) J2))))
   (B1 (C5 (i:=10) sc.nd rfl (by first | exact Or.inl rfl | exact Or.inr rfl) (C6 T.standing_sets G_standing_sets (hr.mono (by decide)) (A8 (pv 5) B2)))
   (B1 (J4 (K9 (I9 (E9 (V5 K) T.b_all U0 (A8 (J5 (N':=["_law_some", "_law_strikes_here"]) (cap:=[none,some 4]) (cl:=[("_law_strikes_here",_)]) (E8 ⟨⟨rfl,rfl,rfl,rfl⟩,trivial⟩ ⟨rfl,trivial⟩) rfl (piL K (pv 10)) (fun _ _ _ _=>by exact⟨(pgC 0),C8,(C6 T.law_holds G_law_holds (hr.mono (by decide)) (A8 (pv 0) (A8 (pv 1) B2)))⟩)) B2)))) (B3 (B9 M0)) C4)
   (B1 (J4 (K9 (I9 (C6 T.law_is_rising G_law_is_rising (hr.mono (by decide)) (A8 (pv 10) B2)))) (B3 (B9 M0)) C4)
   (B1 (J4 (K9 (I9 (E9 (V5 K) T.b_all U0 (A8 (J5 (N':=["_law_lists"]) (cap:=[none]) (cl:=[]) (E8 trivial trivial) rfl (piT K (O6 (A8 (pv 6) (A8 (pv 7) (A8 (pv 8) B2))))) (fun _ _ _ _=>by exact⟨(pgC 0),C8,(C6 T.law_is_rising G_law_is_rising (hr.mono (by decide)) (A8 (pv 0) B2))⟩)) B2)))) (B3 (B9 M0)) C4)
   (B1 (J4 (PW.pt (Cn (K9 (I9 (E9 (V5 K) T.b_all U0 (A8 (J5 (N':=["_law_some", "_law_standing"]) (cap:=[none,some 10]) (cl:=[("_law_standing",_)]) (E8 ⟨⟨rfl,rfl,rfl,rfl⟩,trivial⟩ ⟨rfl,trivial⟩) rfl (piL K (pv 6)) (fun _ _ _ _=>by exact⟨(pgC 0),C8,(I0 (Qa K hr.units) (pv 0) (pv 1) rfl)⟩)) B2)))) (W3 (K9 (I9 (E9 (V5 K) T.b_all U0 (A8 (J5 (N':=["_law_some", "_law_whole"]) (cap:=[none,some 6]) (cl:=[("_law_whole",_)]) (E8 ⟨⟨rfl,rfl,rfl,rfl⟩,trivial⟩ ⟨rfl,trivial⟩) rfl (piL K (pv 7)) (fun _ _ _ _=>by exact⟨(pgC 0),C8,(I0 (Qa K hr.units) (pv 0) (pv 1) rfl)⟩)) B2))))))) (B3 (B9 M0)) C4)
   (B1 (J4 (K9 (I9 (E9 (V5 K) T.b_all U0 (A8 (J5 (N':=["_law_some", "_law_most"]) (cap:=[none,some 7]) (cl:=[("_law_most",_)]) (E8 ⟨⟨rfl,rfl,rfl,rfl⟩,trivial⟩ ⟨rfl,trivial⟩) rfl (piL K (pv 8)) (fun _ _ _ _=>by exact⟨(pgC 0),C8,(I0 (Qa K hr.units) (pv 0) (pv 1) rfl)⟩)) B2)))) (B3 (B9 M0)) C4)
   (B1 (J4 (C3 (Tm K hr.units) (pv 8) (J5 (N':=["_law_some", "_law_names_here", "_law_strikes_here"]) (cap:=[none,some 3,some 4]) (cl:=[("_law_strikes_here",_),("_law_names_here",_)]) (E8 ⟨⟨rfl,rfl,rfl,rfl⟩,⟨⟨rfl,rfl,rfl,rfl⟩,trivial⟩⟩ ⟨rfl,⟨rfl,trivial⟩⟩) rfl (piL K (pv 7)) (fun _ _ _ _=>by exact⟨(pgC 0),(K4 (I9 (C6 T.law_all_outside G_law_all_outside (hr.mono (by decide)) (A8 (pv 0) (A8 (pv 1) (A8 (pv 2) B2)))))),(pv 0)⟩)) (F0 _)) (B3 (B9 M0)) C4)
   (B1 (J4 (K9 (I9 (C6 T.law_are_above G_law_are_above (hr.mono (by decide)) (A8 (pv 7) (A8 (pv 10) B2))))) (B3 (B9 M0)) C4)
   (B1 (J4 (PW.pt (Cn (C3 (Aj K hr.units) (pv 9) (pv 6) rfl) (W3 (K9 (I9 (E9 (V5 K) T.b_all U0 (A8 (J5 (N':=["_law_some", "_law_own"]) (cap:=[none,some 9]) (cl:=[("_law_own",_)]) (E8 ⟨⟨rfl,rfl,rfl,rfl⟩,trivial⟩ ⟨rfl,trivial⟩) rfl (piL K (pv 6)) (fun _ _ _ _=>by exact⟨(pgC 0),C8,(C6 T.law_within G_law_within (hr.mono (by decide)) (A8 (pv 1) (A8 (pv 0) B2)))⟩)) B2))))))) (B3 (B9 M0)) C4)
   (B3 (J4 (K9 (I9 (C6 T.law_neighbours G_law_neighbours (hr.mono (by decide)) (A8 (pv 2) (A8 (pv 3) (A8 (pv 4) (A8 (pv 10) B2))))))) (B3 (B9 M0)) C4)))))))))))))))))))
   (B3 (B9 M0))),?_⟩
  refine ex1 rfl (C1 (a:=u) rfl (.inl hS) ⟨_,ex1 rfl ⟨_,ex1 rfl (ex1 rfl ?_)⟩⟩)
  have hz:∀l:Int,∃z:Nat,(if(if(4:Int)<l then 4 else l)>1 then(if(4:Int)<l then 4 else l)else 1) =(z:Int)/\z<=10:=fun l=>by
   by_cases h1:(4:Int)<l
   ·rw[AQ h1];exact⟨4,by decide,by decide⟩
   ·rw[AJ h1]
    by_cases h2:l>1
    ·rw[AQ h2];exact⟨l.toNat,by omega,by omega⟩
    ·rw[AJ h2];exact⟨1,by decide,by decide⟩
  obtain⟨z,ez,hz⟩:=hz ((xs.map V.int).length:Int)
  rw[ez]
  refine⟨by omega,by omega,?_⟩
  rw[EC]
  refine t6 (fun i σ H1=>(∃v1 v2 v3 v4 v5 v6 v7 v8 v9 v10,σ = [some (.ref u),v1,v2,v3,v4,v5,v6,v7,v8,v9,v10])/\Same H H1) ?_ ?_ ?_
  ·exact⟨⟨_,_,_,_,_,_,_,_,_,_,rfl⟩,fun b o e=>e⟩
  ·rintro i σ H0 hi ⟨⟨v1,v2,v3,v4,v5,v6,v7,v8,v9,v10,rfl⟩,s0⟩ D1 hD1 _
   rw[Int.zero_add]
   refine Ye fun N0 hN0=>?_
   refine ex1 rfl (ex1 rfl ⟨u,xs,i,rfl,(s0.at u).seqL hS,by omega,fun p H1 hp s1 L1=>?_⟩)
   refine hN0 _ _ (B5 fun N1 hN1=>?_)
   refine ex1 rfl ⟨p,rfl,L1,fun t n a ss ps H2 k2 et e2 N2 l2 a2 pin2 O2 ⟨c,L2,hc⟩=>?_⟩
   have s2:Same H0 H2:=fun b o e=>k2 b o (s1 b o e) (by simpa using B0 e hp)
   refine⟨t,_,rfl,SqT.of et,rfl,_,_,rfl,_,_,rfl,rfl,?_⟩
   refine hN1 _ _ (B5 fun N3 hN3=>?_)
   refine ex1 rfl (ex1 rfl ⟨n,_,rfl,SqL.of e2,fun n8 hn8=>?_⟩)
   have un:=Same.new (o:=.lst (Sk (ss.map V.str) none (some 8))) hn8
   have e8:(upd H2 n8 (.lst (Sk (ss.map V.str) none (some 8)))) n8=some (.lst ((ss.take 8).map V.str)):=by rw[A9,zEm]
   generalize upd H2 n8 (.lst (Sk (ss.map V.str) none (some 8)))=H3 at un e8⊢
   have a3:=un _ _ a2
   have pin3:=D0 un pin2
   refine hN3 _ _ (B5 fun N4 hN4=>?_)
   refine ex1 rfl ⟨a,rfl,⟨_,SqL.of a3⟩,fun D hD=>?_⟩
   refine Gm (r:=fun q:PA2=>V.ref q.1) (fun q=>V.ref q.1) (asL (SqL.of a3)) (fun q=>decide (q.2.1∈ss.take 8)&&decide (q.2.2∈ss.take 8)) (by have:=O2.len;omega) hD (fun y my G sG M hM=>?_) (fun y my G sG M hM=>ex1 rfl hM) fun σ' G sG eG=>?_
   ·have fy:E7 G y:=D0 sG pin3 y my
    have n3:=sG _ _ e8
    have hM':∀b,b =(decide (y.2.1∈ss.take 8)&&decide (y.2.2∈ss.take 8))->∀G',Same G G'->M b G':=fun b e G' s=>by rw[e];exact hM G' s
    refine ex1 rfl ⟨y.1,_,C1 rfl rfl ⟨SqT.of fy,rfl,ex1 rfl (K1 (.inl (SqL.of n3)) ⟨_,rfl,?_⟩)⟩⟩
    refine U4 (fun c=>?_) (fun c=>?_)
    ·refine ex1 rfl ⟨y.1,_,C1 rfl rfl ⟨SqT.of fy,rfl,ex1 rfl (K1 (.inl (SqL.of n3)) ⟨_,rfl,?_⟩)⟩⟩
     exact hM' _ (by rw[c,GR]) _ fun b o e=>e
    ·exact hM' _ (by rw[BI.mpr c,DQ]) _ fun b o e=>e
   have e4:=sG _ _ e8
   have s4:=s2.trans (un.trans sG)
   have L4:=L2.same (un.trans sG)
   have pin4:=D0 sG pin3
   have N5:Y5 (ss.take 8):=⟨fun x hx=>N2.1 x (CY hx),N2.2.1.sublist (DY _ _),by rw[AS];omega⟩
   have O5:StrkOk (ss.take 8) (ps.filter fun q=>decide (q.2.1∈ss.take 8)&&decide (q.2.2∈ss.take 8)):=⟨fun q hq=>by
    have:=(AL.mp hq).2
    rw[BP,AY,AY]at this
    exact this,(O2.nd.sublist (BT.map _)),Nat.le_trans (BL _ _) O2.len⟩
   have pin5:∀q∈ps.filter fun q=>decide (q.2.1∈ss.take 8)&&decide (q.2.2∈ss.take 8),E7 G q:=fun q hq=>pin4 q (AL.mp hq).1
   have l8:(ss.take 8).length<=8:=by rw[AS];omega
   clear e8 a3 pin3 pin4
   generalize ss.take 8=ss' at e4 eG N5 O5 pin5 l8
   generalize (ps.filter fun q=>decide (q.2.1∈ss')&&decide (q.2.2∈ss'))=ps' at eG O5 pin5
   refine hN4 _ _ (B5 fun N6 hN6=>?_)
   refine ex1 rfl (ex1 rfl ?_)
   intro x dx nx ndx nex
   have sx:Same G (upd (upd G dx (.own x)) x (.ins T.CWeb dx [])):=fun b o e=>by
    rw[B7 (B0 e nx),B7 (B0 e ndx)]
    exact e
   refine zDd (a:=x) (b:=dx) (c:=n8) (d:=ss') (e:=D) (f:=ps') rfl A9 (sx _ _ e4) N5 (sx _ _ eG) (D0 sx pin5) O5 fun ns qs H5 pn srn pq srq k5 W5=>⟨rfl,?_⟩
   have s5:Same G H5:=fun b o e=>k5 b o (sx b o e) (by simpa using B0 e nx)
   have sH5:Same H0 H5:=s4.trans s5
   have nmn:∀y∈ns,J7 y=true:=fun y hy=>N5.1 y (pn.mem_iff.mp hy)
   have ln:ns.length<=8:=by rw[pn.length_eq];exact l8
   have nd:=W5.ok.nd
   have mem:=W5.ok.mem
   have e5:=s5 _ _ e4
   have d5:=s5 _ _ eG
   have L5:=L4.same s5
   have pin5:=D0 s5 pin5
   have hin:∀y z,Ae qs y z->y∈ns:=fun y z ⟨q,h,e,_⟩=>e▸(mem q h).1
   have p8:2^ns.length<=2^8:=Nat.pow_le_pow_right (by decide) ln
   have few8:∀{Tg:Tgt} {A B Ms:List Nat},(∀m,Tg ns.length A B m->Low ns.length m)->Ms.Nodup->(∀m,m∈Ms↔Tg ns.length A B m)->¬300<Ms.length:=fun{Tg A B Ms} tl ndM mm=>by
    have:=few ndM fun m hm=>tl m ((mm m).mp hm)
    omega
   refine hN6 _ _ (B5 fun N7 hN7=>?_)
   refine ex1 rfl ⟨x,ns,qs,rfl,W5,by omega,fun A B Ms mA mB ndM mm=>⟨fun rW tW H6 le s6 hrW erW LW nrW pmW srtW=>?_,few8 (Tg:=O3) (fun m h=>h.1.1) ndM mm⟩⟩
   have LW:Lst H6 ns rW tW (Ds ns qs):=Lst.of nd erW LW pmW srtW ndM mm (fun m h=>h.1.1) (fun m lo=>Ap nd mA mB lo hin) le
   refine ex1 rfl ⟨x,ns,qs,rfl,W5.same s6,by omega,fun A B Ms mA mB ndM mm rM tM H7 s7 hrM erM LM nrM pmM srtM=>?_⟩
   have LM:Lst H7 ns rM tM (fun s=>∃m,Xg O3 ns.length A B m/\s=setOf ns m):=Lst.of nd erM LM pmM srtM ndM mm (fun m h=>h.1.1.1) (fun m lo=>⟨fun h=>⟨m,h,rfl⟩,fun⟨m',h,e⟩=>by rw[Bz nd lo h.1.1.1 e];exact h⟩) (by
    have:=few8 (Tg:=fun n A B m=>Xg O3 n A B m) (fun m h=>h.1.1.1) ndM mm
    omega)
   have LW:=LW.same s7
   have s7:=s6.trans s7
   refine⟨by show 2<=sizeLine;decide,fun t2 ht2=>?_⟩
   have ut:=Same.new (o:=.tup [.ref rW,.ref rM]) ht2
   refine⟨t2,_,rfl,SqT.of A9,rfl,_,_,rfl,_,_,rfl,rfl,?_⟩
   have LW:=LW.same ut
   have LM:=LM.same ut
   have s7:=s7.trans ut
   generalize upd H7 t2 (.tup [.ref rW,.ref rM])=H7 at LW LM s7⊢
   refine hN7 _ _ (B5 fun N8 hN8=>?_)
   refine ex1 rfl ⟨x,ns,qs,rfl,W5.same s7,by omega,fun A' B' Ms' mA' mB' ndM' mm'=>⟨fun rO tO H8 le s8 hrO erO LO nrO pmO srtO=>?_,few8 (Tg:=OutM) (fun m h=>h.1) ndM' mm'⟩⟩
   have LO:Lst H8 ns rO tO (zCu ns qs):=Lst.of nd erO LO pmO srtO ndM' mm' (fun m h=>h.1) (fun m lo=>Rv nd mB' lo) le
   have LW:=LW.same s8
   have LM:=LM.same s8
   have s8:=s7.trans s8
   refine ex1 rfl ⟨x,ns,qs,rfl,W5.same s8,fun g gs H9 s9 hg eg ndg srg mg=>?_⟩
   have LW:=LW.same s9
   have LM:=LM.same s9
   have LO:=LO.same s9
   have s9:=s8.trans s9
   refine⟨by show 2<=sizeLine;decide,fun t3 ht3=>?_⟩
   have ut:=Same.new (o:=.tup [.ref rO,.ref g]) ht3
   refine⟨t3,_,rfl,SqT.of A9,rfl,_,_,rfl,_,_,rfl,rfl,?_⟩
   have LW:=LW.same ut
   have LM:=LM.same ut
   have LO:=LO.same ut
   have eg:=ut _ _ eg
   have s9:=s9.trans ut
   generalize upd H9 t3 (.tup [.ref rO,.ref g])=H9 at LW LM LO eg s9⊢
   refine hN8 _ _ (B5 fun N9 hN9=>?_)
   refine ex1 rfl ⟨x,ns,qs,rfl,W5.same s9,by omega,fun A' B' Ms' mA' mB' ndM' mm'=>⟨fun rS tS G le s10 hrS erS LS nrS pmS srtS=>?_,few8 (Tg:=StandM) (fun m h=>h.1) ndM' mm'⟩⟩
   have LS:Lst G ns rS tS (X4 qs):=Lst.of nd erS LS pmS srtS ndM' mm' (fun m h=>h.1) (fun m lo=>Ay mA' mB' lo hin) le
   have LW:=LW.same s10
   have LM:=LM.same s10
   have LO:=LO.same s10
   have eg:=s10 _ _ eg
   have s10:=s9.trans s10
   have nG:=s10 _ _ e5
   have bG:=s10 _ _ d5
   have pG:=D0 s10 pin5
   have LG:=L5.same s10
   have lps:ps'.length<=1000:=Nat.le_trans O5.len (by decide)
   have s10':=s10
   refine hN9 _ _ (B5 fun N10 hN10=>?_)
   have zl:StandM ns.length A B 0:=⟨Low.zero _,(fun i j hi=>by rw[DK]at hi;cases hi),(fun j hj=>by rw[DK]at hj;cases hj)⟩
   have net:=mA.net mB
   obtain⟨g0,hg0,_⟩:=Bx net _ 0 zl (Nat.le_refl _)
   have wp0:=(Ap nd mA mB hg0.1.1.1 hin).mp hg0.1
   have hse:∀n,n∈ss'↔n∈ns:=fun n=>pn.mem_iff.symm
   have idS:Same G G:=fun b o e=>e
   refine ex1 rfl ⟨rS,rfl,⟨_,SqL.of LS.er⟩,fun D2 hD2=>?_⟩
   refine o8 (r:=fun t:Addr×List Str=>V.ref t.1) (asL (SqL.of LS.er)) (by have:=LS.len;omega) hD2 (fun t mt G1 s1 M hM=>?_) fun σ' G1 bs s1 eb ab=>⟨D2,bs,rfl,SqL.of eb,?_⟩
   ·refine ex1 rfl (ex1 rfl ⟨t.1,D,t.2,ps',rfl,s1 _ _ (LS.at_ t mt),s1 _ _ bG,D0 s1 pG,lps,fun G' s'=>?_⟩)
    have e:hoB ps' t.2=true:=hoB_iff.mpr ((Bk pq).mpr (LS.get mt).2)
    rw[e]
    exact hM G' s'
   rw[ab]
   refine⟨_,rfl,U3 ?_⟩
   refine hN10 _ _ (B5 fun N11 hN11=>?_)
   refine ex1 rfl ⟨rS,tS,rfl,(LS.same s1).er,(LS.same s1).at_,by have:=LS.len;omega,LS.ok nd srn ln nmn,LS.rise,fun G2 s2=>⟨_,rfl,U3 ?_⟩⟩
   have s2:=s1.trans s2
   refine hN11 _ _ (B5 fun N12 hN12=>?_)
   refine ex1 rfl (ex1 rfl (ex1 rfl ⟨by show 3<=sizeLine;decide,fun t4 ht4=>⟨t4,rfl,⟨_,SqT.of A9⟩,fun D3 hD3=>?_⟩⟩))
   have s3:=s2.trans (Same.new (o:=.tup [.ref rW,.ref rM,.ref rO]) ht4)
   have e4:(upd G2 t4 (.tup [.ref rW,.ref rM,.ref rO])) t4=some (.tup ([rW,rM,rO].map V.ref)):=A9
   generalize upd G2 t4 (.tup [.ref rW,.ref rM,.ref rO])=G3 at s3 e4 hD3⊢
   refine o8 (r:=V.ref) (asT (SqT.of e4)) (by show 3<=5000;decide) hD3 (fun y my G4 s4 M hM=>?_) fun σ' G4 bs s4 eb ab=>⟨D3,bs,rfl,SqL.of eb,?_⟩
   ·have s4:=s3.trans s4
    rcases BD.mp my with rfl | my
    ·exact ex1 rfl (⟨_,tW,rfl,(LW.same s4).er,(LW.same s4).at_,by have:=LW.len;omega,LW.ok nd srn ln nmn,LW.rise,fun G' s'=>hM G' s'⟩)
    ·rcases BD.mp my with rfl | my
     ·exact ex1 rfl (⟨_,tM,rfl,(LM.same s4).er,(LM.same s4).at_,by have:=LM.len;omega,LM.ok nd srn ln nmn,LM.rise,fun G' s'=>hM G' s'⟩)
     ·obtain rfl:=AD.mp my
      exact ex1 rfl (⟨_,tO,rfl,(LO.same s4).er,(LO.same s4).at_,by have:=LO.len;omega,LO.ok nd srn ln nmn,LO.rise,fun G' s'=>hM G' s'⟩)
   rw[ab]
   refine⟨_,rfl,U3 ?_⟩
   have s4:=s3.trans s4
   refine hN12 _ _ (B5 fun N13 hN13=>?_)
   have wS:∀t∈tW,t.2∈tS.map fun t=>t.2:=fun t ht=>(LS.mem _).mpr ⟨(LW.get ht).1,(LW.get ht).2.1⟩
   have mW:∀t∈tM,t.2∈tW.map fun t=>t.2:=fun t ht=>by
    obtain⟨m,hm,e⟩:=(LM.get ht).2
    refine(LW.mem _).mpr ⟨(LM.get ht).1,?_⟩
    rw[e]
    exact(Ap nd mA mB hm.1.1.1 hin).mp hm.1
   have oM:∀t∈tO,t.2∈tM.map fun t=>t.2:=fun t ht=>by
    obtain⟨⟨m,lo,e⟩,o⟩:=LO.get ht
    refine(LM.mem _).mpr ⟨⟨m,lo,e⟩,m,?_,e⟩
    rw[e]at o
    exact((Rv (A:=A) nd mB lo).mpr o).max net
   refine ex1 rfl ⟨rW,rfl,⟨_,SqL.of (LW.same s4).er⟩,fun D4 hD4=>?_⟩
   refine o8 (r:=fun t:Addr×List Str=>V.ref t.1) (asL (SqL.of (LW.same s4).er)) (by have:=LW.len;omega) hD4 (fun t mt G5 s5 M hM=>?_) fun σ' G5 bs s5 eb ab=>⟨D4,bs,rfl,SqL.of eb,?_⟩
   ·have s5:=s4.trans s5
    exact ex1 rfl (ex1 rfl (Z9 (s5 _ _ (LW.at_ t mt)) (LS.same s5).er (LS.same s5).at_ (LW.ok nd srn ln nmn t mt).2.2.2 (LS.nm nmn) (by rw[AH (wS t mt)];exact hM _ fun b o e=>e)))
   rw[ab]
   refine⟨_,rfl,U3 ?_⟩
   have s5:=s4.trans s5
   refine ex1 rfl ⟨rM,rfl,⟨_,SqL.of (LM.same s5).er⟩,fun D5 hD5=>?_⟩
   refine o8 (r:=fun t:Addr×List Str=>V.ref t.1) (asL (SqL.of (LM.same s5).er)) (by have:=LM.len;omega) hD5 (fun t mt G6 s6 M hM=>?_) fun σ' G6 bs s6 eb ab=>⟨D5,bs,rfl,SqL.of eb,?_⟩
   ·have s6:=s5.trans s6
    exact ex1 rfl (ex1 rfl (Z9 (s6 _ _ (LM.at_ t mt)) (LW.same s6).er (LW.same s6).at_ (LM.ok nd srn ln nmn t mt).2.2.2 (LW.nm nmn) (by rw[AH (mW t mt)];exact hM _ fun b o e=>e)))
   rw[ab]
   refine⟨_,rfl,U3 ?_⟩
   have s6:=s5.trans s6
   refine hN13 _ _ (B5 fun N14 hN14=>?_)
   refine ex1 rfl ⟨rO,rfl,⟨_,SqL.of (LO.same s6).er⟩,fun D6 hD6=>?_⟩
   refine o8 (r:=fun t:Addr×List Str=>V.ref t.1) (asL (SqL.of (LO.same s6).er)) (by have:=LO.len;omega) hD6 (fun t mt G7 s7 M hM=>?_) fun σ' G7 bs s7 eb ab=>⟨D6,bs,rfl,SqL.of eb,?_⟩
   ·have s7:=s6.trans s7
    exact ex1 rfl (ex1 rfl (Z9 (s7 _ _ (LO.at_ t mt)) (LM.same s7).er (LM.same s7).at_ (LO.ok nd srn ln nmn t mt).2.2.2 (LM.nm nmn) (by rw[AH (oM t mt)];exact hM _ fun b o e=>e)))
   rw[ab]
   refine⟨_,rfl,U3 ?_⟩
   have s7:=s6.trans s7
   refine hN14 _ _ (B5 fun N15 hN15=>?_)
   have lS8:ss'.length<=100:=by omega
   refine ex1 rfl (ex1 rfl ⟨rM,rfl,⟨_,SqL.of (LM.same s7).er⟩,fun D7 hD7=>?_⟩)
   refine Gm (r:=fun t:Addr×List Str=>V.ref t.1) (fun t=>V.ref t.1) (asL (SqL.of (LM.same s7).er)) (fun t=>auB ps' ss' t.2) (by have:=LM.len;omega) hD7 (fun t mt G8 s8 M hM=>?_) (fun y my G sG M hM=>ex1 rfl hM) fun σ' G8 s8 e8=>?_
   ·have s8:=s7.trans s8
    exact ex1 rfl (ex1 rfl (ex1 rfl ⟨t.1,n8,D,t.2,ss',ps',rfl,s8 _ _ (LM.at_ t mt),s8 _ _ nG,lS8,s8 _ _ bG,D0 s8 pG,lps,fun G' s'=>⟨_,rfl,hM G' s'⟩⟩))
   have s8:=s7.trans s8
   have au:∀s,auB ps' ss' s=true↔∀n∈ns,n∈s\/∃y∈s,Ae qs y n:=fun s=>by
    unfold auB
    rw[CJ]
    refine⟨fun h n hn=>?_,fun h n hn=>?_⟩
    ·have:=h n ((hse n).mpr hn)
     rw[CD,AY,AY,mem_hitsP]at this
     exact this.imp id fun⟨y,a,b⟩=>⟨y,a,(Bp pq).mp b⟩
    ·rw[CD,AY,AY,mem_hitsP]
     exact(h n ((hse n).mp hn)).imp id fun⟨y,a,b⟩=>⟨y,a,(Bp pq).mpr b⟩
   have el:(tO.map fun t=>t.2) =(tM.filter fun t=>auB ps' ss' t.2).map fun t=>t.2:=by
    refine Xu (CB.mpr LO.srt) (CB.mpr (LM.srt.sublist BT)) ((DT LO.nd (LM.nd.sublist (BT.map _))).mpr fun s=>?_)
    rw[AK (f:=fun t:Addr×List Str=>t.2) (l:=tM.filter _)]
    constructor
    ·intro h
     obtain⟨t,ht,rfl⟩:=AK.mp h
     obtain⟨o,ho,eo⟩:=AK.mp (oM t ht)
     exact⟨o,AL.mpr ⟨ho,(au _).mpr (by rw[eo];exact(LO.get ht).2.2)⟩,eo⟩
    ·rintro⟨t,ht,rfl⟩
     obtain⟨mt,at_⟩:=AL.mp ht
     obtain⟨m,hm,e⟩:=(LM.get mt).2
     refine(LO.mem _).mpr ⟨(LM.get mt).1,?_,(au _).mp at_⟩
     rw[e]
     exact(R8 mB).mpr hm.1.1.2.1
   have q1:=Br (K:=K) (LO.same s8).er (LO.same s8).at_
   have q2:=Br (K:=K) e8 fun t ht=>(LM.same s8).at_ t (AL.mp ht).1
   rw[<-el]at q2
   refine Jv q1 q2 (Mf (LO.nm nmn)) ⟨_,rfl,U3 ?_⟩
   refine hN15 _ _ (B5 fun N16 hN16=>?_)
   have subB:∀{s s':List Str} {m m':Nat},s=setOf ns m->s'=setOf ns m'->Low ns.length m->((s.all fun y=>decide (y∈s'))=true↔Sub m m'):=fun{s s' m m'} e e' lo=>by
    rw[e,e']
    exact Bf nd lo
   refine ex1 rfl (ex1 rfl ⟨rM,rS,tM,tS,rfl,(LM.same s8).er,(LM.same s8).at_,(LS.same s8).er,(LS.same s8).at_,by have:=LM.len;omega,fun t ht=>(LM.ok nd srn ln nmn t ht).2.2.2,fun t ht=>⟨(LS.ok nd srn ln nmn t ht).2.1,(LS.ok nd srn ln nmn t ht).2.2.2⟩,fun t ht=>?_,fun t ht tm=>?_,fun G9 s9=>⟨_,rfl,U3 ?_⟩⟩)
   ·obtain⟨⟨m,lo,e⟩,st⟩:=LS.get ht
    rw[e]at st
    obtain⟨g',hg',sg⟩:=Bx net _ m ((Ay mA mB lo hin).mpr st) (Nat.le_refl _)
    obtain⟨o,ho,eo⟩:=AK.mp ((LM.mem (setOf ns g')).mpr ⟨⟨g',hg'.1.1.1,rfl⟩,g',hg',rfl⟩)
    exact⟨o,ho,(subB e eo lo).mpr sg⟩
   ·have h1:=List.filter_map (f:=fun t:Addr×List Str=>t.2) (p:=fun s=>t.2.all fun y=>decide (y∈s)) (l:=tM)
    refine Eq.trans h1.symm (Dd LM.nd tm fun s hs=>?_)
    obtain⟨_,m,hm,e⟩:=(LM.mem _).mp tm
    obtain⟨_,m',hm',e'⟩:=(LM.mem _).mp hs
    rw[subB e e' hm.1.1.1,e,e']
    exact⟨fun z=>by rw[hm.2 m' hm'.1 z],fun z=>by rw[Bz nd hm'.1.1.1 hm.1.1.1 z];exact fun j y=>y⟩
   have s9:=s8.trans s9
   refine hN16 _ _ (B5 fun N17 hN17=>?_)
   have gw:Ds ns qs gs:=Gr.whole wp0 mg
   have gin:gs∈tW.map fun t=>t.2:=by
    obtain⟨m,lo,e⟩:=Ru nd (n6 nd srn ndg srg fun y hy=>((mg y).mp hy).sub)
    exact(LW.mem _).mpr ⟨⟨m,lo,e.symm⟩,gw⟩
   have gnm:∀y∈gs,J7 y=true:=fun y hy=>nmn y ((mg y).mp hy).sub
   have gl:gs.length<=100:=Nat.le_trans (n6 nd srn ndg srg fun y hy=>((mg y).mp hy).sub).length_le (by omega)
   refine ex1 rfl (ex1 rfl ⟨sd gs,_,X5 (SqL.of (s9 _ _ eg)),.inl (Br (LW.same s9).er (LW.same s9).at_),n4 gnm,Pu (LW.nm nmn),?_⟩)
   rw[AQ rfl,Sb,AH gin]
   refine⟨_,rfl,U3 ?_⟩
   refine ex1 rfl ⟨rW,rfl,⟨_,SqL.of (LW.same s9).er⟩,fun D8 hD8=>?_⟩
   refine o8 (r:=fun t:Addr×List Str=>V.ref t.1) (asL (SqL.of (LW.same s9).er)) (by have:=LW.len;omega) hD8 (fun t mt G10 s10 M hM=>?_) fun σ' G10 bs s10 eb ab=>⟨D8,bs,rfl,SqL.of eb,?_⟩
   ·have s10:=s9.trans s10
    refine ex1 rfl (ex1 rfl ⟨g,t.1,gs,t.2,rfl,s10 _ _ eg,s10 _ _ (LW.at_ t mt),gl,fun G' s'=>?_⟩)
    have e:(gs.all fun y=>decide (y∈t.2))=true:=CJ.mpr fun y hy=>AH (((mg y).mp hy).least (LW.get mt).2)
    rw[e]
    exact hM G' s'
   rw[ab]
   refine⟨_,rfl,U3 ?_⟩
   have s11:=s9.trans s10
   refine hN17 _ _ ?_
   have st0:X4 qs (setOf ns 0):=(Ay mA mB (Low.zero _) hin).mp zl
   have neS:tS≠[]:=fun e=>by
    have:=(LS.mem (setOf ns 0)).mpr ⟨⟨0,Low.zero _,rfl⟩,st0⟩
    rw[e]at this
    exact absurd this BK
   refine ex1 rfl (ex1 rfl (ex1 rfl (ex1 rfl ⟨p,n8,D,rS,c,ss',ps',tS,rfl,LG.same s11,by omega,s11 _ _ nG,lS8,N5.1,s11 _ _ bG,D0 s11 pG,lps,(LS.same s11).er,(LS.same s11).at_,neS,by have:=LS.len;omega,fun t ht=>⟨(LS.ok nd srn ln nmn t ht).1,(LS.ok nd srn ln nmn t ht).2.2.1,(LS.ok nd srn ln nmn t ht).2.1,fun y hy=>(hse y).mpr ((LS.sub ht).subset hy)⟩,fun rs ndr srr sub=>?_,fun G' k'=>⟨_,rfl,U3 ?_⟩⟩)))
   ·rw[LS.mem,Bk pq]
    obtain⟨m,lo,e⟩:=Ru nd (n6 nd srn ndr srr fun y hy=>(hse y).mp (sub y hy))
    exact⟨(·.2),fun h=>⟨⟨m,lo,e.symm⟩,h⟩⟩
   ·refine hD1 _ _ ⟨⟨_,_,_,_,_,_,_,_,_,_,rfl⟩,s0.trans fun b o e=>k' b o (s11 _ _ (s10' _ _ (sH5 _ _ e))) (by simpa using B0 e hp)⟩
  ·rintro σ H1 _
   exact q H1
end
section
variable{K:PySem.W.Frag}{h:Heap}{mg:Str->Option Value}
def fn_mk{x:Str}{st:Stmt}{ps:List Str}{f:Addr}{oc:Value}{od an:Option Addr}{osl:Array (Option Value)}{kV doc pm cdv ct:Value}(X:K.In h)(G:h.Ns mainGlobals mg)(a:PySem.W.nsIn K mainGlobals x=some (some (.ref f)))
  (l:K.lookup f=some ⟨oc,od,.func (PySem.W.fnOf x x (Q5 st) (P3 st) (B6 st) .none kV doc pm an cdv ct),osl⟩) (c:PySem.W.codeIn K cdv x=true) (k:PySem.W.keepIn K (.ref f)=true)
  (hb:∀(kV doc pm:Value) (an:Option Addr) (cdv ct:Value) (us:List Value),us.length=ps.length->bindArgs (PySem.W.fnOf x x (Q5 st) (P3 st) (B6 st) .none kV doc pm an cdv ct) ⟨us,[]⟩=pure (ps.zip us)):Fn K mg x st ps :=
 ⟨f,_,fun_mk l c k,(fun_mk l c k).binds hb,PySem.W.mg_of X G a⟩
def mt_mk{C:Addr}{x q:Str}{st:Stmt}{ps:List Str}{f:Addr}{oc:Value}{od an:Option Addr}{osl:Array (Option Value)}{kV doc pm cdv ct:Value}(a:PySem.W.findIn K (.ref C) x=some (some (.ref f)))(i:PySem.W.isFn K (.ref f)=true)
  (l:K.lookup f=some ⟨oc,od,.func (PySem.W.fnOf x q (Q5 st) (P3 st) (B6 st) .none kV doc pm an cdv ct),osl⟩) (c:PySem.W.codeIn K cdv q=true) (k:PySem.W.keepIn K (.ref f)=true)
  (hb:∀(kV doc pm:Value) (an:Option Addr) (cdv ct:Value) (us:List Value),us.length=ps.length->bindArgs (PySem.W.fnOf x q (Q5 st) (P3 st) (B6 st) .none kV doc pm an cdv ct) ⟨us,[]⟩=pure (ps.zip us)):Mt K C x q st ps :=
 ⟨f,_,fun_mk l c k,(fun_mk l c k).binds hb,⟨a,i,k⟩⟩
theorem str_mk{x z:Str}{v:Value}(X:K.In h)(G:h.Ns mainGlobals mg)(a:PySem.W.nsIn K mainGlobals x=some (some v))(e:∃t,v = .str z t):∃t,mg x=some (.str z t):=by
 obtain⟨t,rfl⟩:=e
 exact⟨t,PySem.W.mg_of X G a⟩
theorem int_mk{x:Str}{z:Int}{v:Value}(X:K.In h)(G:h.Ns mainGlobals mg)(a:PySem.W.nsIn K mainGlobals x=some (some v))(e:∃t,v = .int z t):∃t,mg x=some (.int z t):=by
 obtain⟨t,rfl⟩:=e
 exact⟨t,PySem.W.mg_of X G a⟩
theorem len1{us:List Value}(h:us.length=1):∃a,us = [a]:=List.length_eq_one_iff.mp h
theorem len2{us:List Value}(h:us.length=2):∃a b,us = [a,b]:=by
 cases us with
 | nil=>cases h
 | cons a r=>obtain⟨b,rfl⟩:=len1 (Nat.succ.inj h);exact⟨a,b,rfl⟩
theorem len3{us:List Value}(h:us.length=3):∃a b c,us = [a,b,c]:=by
 cases us with
 | nil=>cases h
 | cons a r=>obtain⟨b,c,rfl⟩:=len2 (Nat.succ.inj h);exact⟨a,b,c,rfl⟩
theorem len4{us:List Value}(h:us.length=4):∃a b c d,us = [a,b,c,d]:=by
 cases us with
 | nil=>cases h
 | cons a r=>obtain⟨b,c,d,rfl⟩:=len3 (Nat.succ.inj h);exact⟨a,b,c,d,rfl⟩
theorem zEp{us:List Value}(h:us.length=5):∃a b c d e,us = [a,b,c,d,e]:=by
 cases us with
 | nil=>cases h
 | cons a r=>obtain⟨b,c,d,e,rfl⟩:=len4 (Nat.succ.inj h);exact⟨a,b,c,d,e,rfl⟩
theorem len6{us:List Value}(h:us.length=6):∃a b c d e f,us = [a,b,c,d,e,f]:=by
 cases us with
 | nil=>cases h
 | cons a r=>obtain⟨b,c,d,e,f,rfl⟩:=zEp (Nat.succ.inj h);exact⟨a,b,c,d,e,f,rfl⟩
theorem noattr_mk{C:Addr}{f:Str}(h:PySem.W.findIn K (.ref C) f=some none):NoAttr K C f:=h
end
theorem all_mk{l:PySem.W.OpenLaw}{w:World}{K:PySem.W.Frag}{h:Heap}{mg:Str->Option Value}{fa f:Addr}{oc:Value}{od an:Option Addr}{osl:Array (Option Value)}{kV doc pm cdv ct:Value}(X:K.In h)(G:h.Ns mainGlobals mg)(hfa:mg "law" = some (.ref fa))
  (T:Tx K mg) (a:PySem.W.nsIn K mainGlobals "law" = some (some (.ref f))) (lk:K.lookup f=some ⟨oc,od,.func (PySem.W.fnOf "law" "law" (Q5 s_law) (P3 s_law) (B6 s_law) .none kV doc pm an cdv ct),osl⟩) (c:PySem.W.codeIn K cdv "law" = true) (k:PySem.W.keepIn K (.ref f)=true) :
  ∃fd:FuncData,(∀(s:Shared) (v:Value),BindsTo s fd ⟨[v],[]⟩ [("_law_script",v)])/\∀base:Heap,K.In base->base.Ns mainGlobals mg->FnOk l.prog w K mg base CX0 20 fa fd ["_law_script"] (Li K):=by
 have e:=hfa.symm.trans (PySem.W.mg_of X G a)
 cases e
 exact⟨PySem.W.fnOf "law" "law" (Q5 s_law) (P3 s_law) (B6 s_law) .none kV doc pm an cdv ct,fun s v=>.of_eq rfl,fun base _ _=>zAj T (fun_mk lk c k)⟩
theorem walk{l:PySem.W.OpenLaw}{q:Program}{loose:List Str}{XP:(Str->Option Value)->Heap->Prop}{YP:World->Heap->Prop}{d:DefRec}{K:Params->PySem.W.Frag}(hn:l.most=some 63)(hdf:d.params.defaults = [])
  (hY:∀(w:World) (h:Heap),YP w h->(K w.params).In h)
  (F:∀(w:World) (mg:Str->Option Value) (fa:Addr) (h:Heap),(K w.params).In h->h.Ns mainGlobals mg->mg d.name=some (.ref fa) ->
   ∃fd:FuncData,(∀(s:Shared) (u:Value),BindsTo s fd ⟨[u],[]⟩ [("_law_script",u)])/\∀base:Heap,(K w.params).In base->base.Ns mainGlobals mg->FnOk l.prog w (K w.params) mg base CX0 20 fa fd ["_law_script"] (Li (K w.params))) :
  PySem.W.WalkO q loose XP YP l.row.toRowW d [] (fun f vs=>PySem.call f vs) :=
 L2.walk_of (n:=63) (k:=20) (x := "_law_script") (CX:=fun _=>CX0) (sp:=fun w=>Li (K w.params)) hn (by decide) hdf ⟨rfl,by decide,by decide⟩ hY F (fun _ _ a ns hl _ hS=>⟨a,ns,rfl,hS,hl,fun _=>rfl⟩) fun _ _ _ _ _ z=>z
end Sw
open PySem PySem.W PyProof.Rows
set_option maxRecDepth 100000 in
set_option maxHeartbeats 0 in
theorem PySem.Challenge.cw_strikeweave_k29_lists_within_one_another_holds : PySem.Challenge.rw_strikeweave_k29_lists_within_one_another.Holds := by
 w_on;o_law;k_head;(case hw=>w_witness2)
 k_fill
 refine Sw.walk (l:=PySem.Challenge.rw_strikeweave_k29_lists_within_one_another) rfl rfl (fun w h Y=>PySem.W.kIn_of Y) ?F
 case F =>
  intro w mg fa h KX G hmg
  refine' Sw.all_mk KX G hmg (Sw.Tx.mk (Sw.fn_mk KX G ?a1 ?l2 ?c3 ?k4 (fun _ _ _ _ _ _ us hl=>by obtain⟨a,rfl⟩:=Sw.len1 hl;rfl))
   (Sw.fn_mk KX G ?a5 ?l6 ?c7 ?k8 (fun _ _ _ _ _ _ us hl=>by obtain⟨a,rfl⟩:=Sw.len1 hl;rfl))
   (Sw.fn_mk KX G ?a9 ?l10 ?c11 ?k12 (fun _ _ _ _ _ _ us hl=>by obtain⟨a,rfl⟩:=Sw.len1 hl;rfl))
   (Sw.fn_mk KX G ?a13 ?l14 ?c15 ?k16 (fun _ _ _ _ _ _ us hl=>by obtain⟨a,rfl⟩:=Sw.len1 hl;rfl))
   (Sw.fn_mk KX G ?a17 ?l18 ?c19 ?k20 (fun _ _ _ _ _ _ us hl=>by obtain⟨a,rfl⟩:=Sw.len1 hl;rfl))
   (Sw.fn_mk KX G ?a21 ?l22 ?c23 ?k24 (fun _ _ _ _ _ _ us hl=>by obtain⟨a,rfl⟩:=Sw.len1 hl;rfl))
   (Sw.fn_mk KX G ?a25 ?l26 ?c27 ?k28 (fun _ _ _ _ _ _ us hl=>by obtain⟨a,b,c,rfl⟩:=Sw.len3 hl;rfl))
   (Sw.fn_mk KX G ?a29 ?l30 ?c31 ?k32 (fun _ _ _ _ _ _ us hl=>by obtain⟨a,b,c,d,e,f,rfl⟩:=Sw.len6 hl;rfl))
   (Sw.fn_mk KX G ?a33 ?l34 ?c35 ?k36 (fun _ _ _ _ _ _ us hl=>by obtain⟨a,b,c,rfl⟩:=Sw.len3 hl;rfl))
   (Sw.fn_mk KX G ?a37 ?l38 ?c39 ?k40 (fun _ _ _ _ _ _ us hl=>by obtain⟨a,b,c,rfl⟩:=Sw.len3 hl;rfl))
   (Sw.fn_mk KX G ?a41 ?l42 ?c43 ?k44 (fun _ _ _ _ _ _ us hl=>by obtain⟨a,b,c,rfl⟩:=Sw.len3 hl;rfl))
   (Sw.fn_mk KX G ?a45 ?l46 ?c47 ?k48 (fun _ _ _ _ _ _ us hl=>by obtain⟨a,rfl⟩:=Sw.len1 hl;rfl))
   (Sw.fn_mk KX G ?a49 ?l50 ?c51 ?k52 (fun _ _ _ _ _ _ us hl=>by obtain⟨a,b,rfl⟩:=Sw.len2 hl;rfl))
   (Sw.fn_mk KX G ?a53 ?l54 ?c55 ?k56 (fun _ _ _ _ _ _ us hl=>by obtain⟨a,b,c,rfl⟩:=Sw.len3 hl;rfl))
   (Sw.fn_mk KX G ?a57 ?l58 ?c59 ?k60 (fun _ _ _ _ _ _ us hl=>by obtain⟨a,b,rfl⟩:=Sw.len2 hl;rfl))
   (Sw.fn_mk KX G ?a61 ?l62 ?c63 ?k64 (fun _ _ _ _ _ _ us hl=>by obtain⟨a,b,c,rfl⟩:=Sw.len3 hl;rfl))
   (Sw.fn_mk KX G ?a65 ?l66 ?c67 ?k68 (fun _ _ _ _ _ _ us hl=>by obtain⟨a,b,c,rfl⟩:=Sw.len3 hl;rfl))
   (Sw.fn_mk KX G ?a69 ?l70 ?c71 ?k72 (fun _ _ _ _ _ _ us hl=>by obtain⟨a,rfl⟩:=Sw.len1 hl;rfl))
   (Sw.fn_mk KX G ?a73 ?l74 ?c75 ?k76 (fun _ _ _ _ _ _ us hl=>by obtain⟨a,rfl⟩:=Sw.len1 hl;rfl))
   (Sw.fn_mk KX G ?a77 ?l78 ?c79 ?k80 (fun _ _ _ _ _ _ us hl=>by obtain⟨a,rfl⟩:=Sw.len1 hl;rfl))
   (Sw.fn_mk KX G ?a81 ?l82 ?c83 ?k84 (fun _ _ _ _ _ _ us hl=>by obtain⟨a,b,rfl⟩:=Sw.len2 hl;rfl))
   (Sw.fn_mk KX G ?a85 ?l86 ?c87 ?k88 (fun _ _ _ _ _ _ us hl=>by obtain⟨a,b,rfl⟩:=Sw.len2 hl;rfl))
   (Sw.fn_mk KX G ?a89 ?l90 ?c91 ?k92 (fun _ _ _ _ _ _ us hl=>by obtain⟨a,b,rfl⟩:=Sw.len2 hl;rfl))
   (Sw.fn_mk KX G ?a93 ?l94 ?c95 ?k96 (fun _ _ _ _ _ _ us hl=>by obtain⟨a,b,rfl⟩:=Sw.len2 hl;rfl))
   (Sw.fn_mk KX G ?a97 ?l98 ?c99 ?k100 (fun _ _ _ _ _ _ us hl=>by obtain⟨a,b,rfl⟩:=Sw.len2 hl;rfl))
   (Sw.fn_mk KX G ?a101 ?l102 ?c103 ?k104 (fun _ _ _ _ _ _ us hl=>by obtain⟨a,b,rfl⟩:=Sw.len2 hl;rfl))
   (Sw.fn_mk KX G ?a105 ?l106 ?c107 ?k108 (fun _ _ _ _ _ _ us hl=>by obtain⟨a,rfl⟩:=Sw.len1 hl;rfl))
   (Sw.fn_mk KX G ?a109 ?l110 ?c111 ?k112 (fun _ _ _ _ _ _ us hl=>by obtain⟨a,b,rfl⟩:=Sw.len2 hl;rfl))
   (Sw.fn_mk KX G ?a113 ?l114 ?c115 ?k116 (fun _ _ _ _ _ _ us hl=>by obtain⟨a,rfl⟩:=Sw.len1 hl;rfl))
   (Sw.fn_mk KX G ?a117 ?l118 ?c119 ?k120 (fun _ _ _ _ _ _ us hl=>by obtain⟨a,b,rfl⟩:=Sw.len2 hl;rfl))
   (Sw.fn_mk KX G ?a121 ?l122 ?c123 ?k124 (fun _ _ _ _ _ _ us hl=>by obtain⟨a,b,rfl⟩:=Sw.len2 hl;rfl))
   (Sw.fn_mk KX G ?a125 ?l126 ?c127 ?k128 (fun _ _ _ _ _ _ us hl=>by obtain⟨a,b,rfl⟩:=Sw.len2 hl;rfl))
   (Sw.fn_mk KX G ?a129 ?l130 ?c131 ?k132 (fun _ _ _ _ _ _ us hl=>by obtain⟨a,rfl⟩:=Sw.len1 hl;rfl))
   (Sw.fn_mk KX G ?a133 ?l134 ?c135 ?k136 (fun _ _ _ _ _ _ us hl=>by obtain⟨a,b,c,rfl⟩:=Sw.len3 hl;rfl))
   (Sw.fn_mk KX G ?a137 ?l138 ?c139 ?k140 (fun _ _ _ _ _ _ us hl=>by obtain⟨a,b,c,rfl⟩:=Sw.len3 hl;rfl))
   (Sw.fn_mk KX G ?a141 ?l142 ?c143 ?k144 (fun _ _ _ _ _ _ us hl=>by obtain⟨a,b,c,d,rfl⟩:=Sw.len4 hl;rfl))
   _
   ⟨?g146,?g147,?g148,?g149⟩
   (PySem.W.mg_of KX G ?q145)
   (Sw.noattr_mk ?n150)
   (Sw.noattr_mk ?n151)
   (Sw.noattr_mk ?n152)
   (Sw.noattr_mk ?n153)
   (Sw.noattr_mk ?n154)
   (Sw.noattr_mk ?n155)
   _
   _
   (L2.fun_mk ?l158 ?c159 ?k160)
   (L2.Fun.binds (L2.fun_mk ?l158 ?c159 ?k160) (fun _ _ _ _ _ _ us hl=>by obtain⟨a,b,rfl⟩:=Sw.len2 hl;rfl))
   ⟨?g161,?a156,?i157,?k162⟩
   (Sw.mt_mk ?a163 ?i164 ?l165 ?c166 ?k167 (fun _ _ _ _ _ _ us hl=>by obtain⟨a,b,rfl⟩:=Sw.len2 hl;rfl))
   (Sw.mt_mk ?a168 ?i169 ?l170 ?c171 ?k172 (fun _ _ _ _ _ _ us hl=>by obtain⟨a,b,rfl⟩:=Sw.len2 hl;rfl))
   (Sw.mt_mk ?a173 ?i174 ?l175 ?c176 ?k177 (fun _ _ _ _ _ _ us hl=>by obtain⟨a,b,rfl⟩:=Sw.len2 hl;rfl))
   (Sw.mt_mk ?a178 ?i179 ?l180 ?c181 ?k182 (fun _ _ _ _ _ _ us hl=>by obtain⟨a,b,rfl⟩:=Sw.len2 hl;rfl))
   (Sw.mt_mk ?a183 ?i184 ?l185 ?c186 ?k187 (fun _ _ _ _ _ _ us hl=>by obtain⟨a,b,rfl⟩:=Sw.len2 hl;rfl))
   (Sw.mt_mk ?a188 ?i189 ?l190 ?c191 ?k192 (fun _ _ _ _ _ _ us hl=>by obtain⟨a,b,rfl⟩:=Sw.len2 hl;rfl))
   (Sw.mt_mk ?a193 ?i194 ?l195 ?c196 ?k197 (fun _ _ _ _ _ _ us hl=>by obtain⟨a,b,rfl⟩:=Sw.len2 hl;rfl))
   (Sw.mt_mk ?a198 ?i199 ?l200 ?c201 ?k202 (fun _ _ _ _ _ _ us hl=>by obtain⟨a,b,rfl⟩:=Sw.len2 hl;rfl))
   _
   ⟨?g204,?g205,?g206,?g207⟩
   (PySem.W.mg_of KX G ?q203)
   (Sw.noattr_mk ?n208)
   (Sw.noattr_mk ?n209)
   (Sw.noattr_mk ?n210)
   (Sw.noattr_mk ?n211)
   _
   _
   (L2.fun_mk ?l214 ?c215 ?k216)
   (L2.Fun.binds (L2.fun_mk ?l214 ?c215 ?k216) (fun _ _ _ _ _ _ us hl=>by obtain⟨a,b,c,rfl⟩:=Sw.len3 hl;rfl))
   ⟨?g217,?a212,?i213,?k218⟩
   (Sw.mt_mk ?a219 ?i220 ?l221 ?c222 ?k223 (fun _ _ _ _ _ _ us hl=>by obtain⟨a,rfl⟩:=Sw.len1 hl;rfl))
   (Sw.mt_mk ?a224 ?i225 ?l226 ?c227 ?k228 (fun _ _ _ _ _ _ us hl=>by obtain⟨a,rfl⟩:=Sw.len1 hl;rfl))
   (Sw.mt_mk ?a229 ?i230 ?l231 ?c232 ?k233 (fun _ _ _ _ _ _ us hl=>by obtain⟨a,b,rfl⟩:=Sw.len2 hl;rfl))
   (Sw.mt_mk ?a234 ?i235 ?l236 ?c237 ?k238 (fun _ _ _ _ _ _ us hl=>by obtain⟨a,b,rfl⟩:=Sw.len2 hl;rfl))
   (Sw.mt_mk ?a239 ?i240 ?l241 ?c242 ?k243 (fun _ _ _ _ _ _ us hl=>by obtain⟨a,b,rfl⟩:=Sw.len2 hl;rfl))
   (Sw.int_mk KX G ?v244 ?e245)
   (Sw.str_mk KX G ?v246 ?e247)
   (Sw.int_mk KX G ?v248 ?e249)
   (PySem.W.mg_none_of KX G ?z250)
   (PySem.W.mg_none_of KX G ?z251)
   (PySem.W.mg_none_of KX G ?z252)
   (PySem.W.mg_none_of KX G ?z253)
   (PySem.W.mg_none_of KX G ?z254)
   (PySem.W.mg_none_of KX G ?z255)
   (PySem.W.mg_none_of KX G ?z256)
   (PySem.W.mg_none_of KX G ?z257)
   (PySem.W.mg_none_of KX G ?z258)
   (PySem.W.mg_none_of KX G ?z259)
   (PySem.W.mg_none_of KX G ?z260)
   (PySem.W.mg_none_of KX G ?z261)
   (PySem.W.mg_none_of KX G ?z262)
   (PySem.W.mg_none_of KX G ?z263)
   (PySem.W.mg_none_of KX G ?z264)
   (PySem.W.mg_none_of KX G ?z265)
   (PySem.W.mg_none_of KX G ?z266)
   (PySem.W.mg_none_of KX G ?z267)) ?aL ?lL ?cL ?kL
  (case a1=>k_is);(case l2=>k_is);(case c3=>k_is);(case k4=>k_is);(case a5=>k_is);(case l6=>k_is)
  (case c7=>k_is);(case k8=>k_is);(case a9=>k_is);(case l10=>k_is);(case c11=>k_is);(case k12=>k_is)
  (case a13=>k_is);(case l14=>k_is);(case c15=>k_is);(case k16=>k_is);(case a17=>k_is);(case l18=>k_is)
  (case c19=>k_is);(case k20=>k_is);(case a21=>k_is);(case l22=>k_is);(case c23=>k_is);(case k24=>k_is)
  (case a25=>k_is);(case l26=>k_is);(case c27=>k_is);(case k28=>k_is);(case a29=>k_is);(case l30=>k_is)
  (case c31=>k_is);(case k32=>k_is);(case a33=>k_is);(case l34=>k_is);(case c35=>k_is);(case k36=>k_is)
  (case a37=>k_is);(case l38=>k_is);(case c39=>k_is);(case k40=>k_is);(case a41=>k_is);(case l42=>k_is)
  (case c43=>k_is);(case k44=>k_is);(case a45=>k_is);(case l46=>k_is);(case c47=>k_is);(case k48=>k_is)
  (case a49=>k_is);(case l50=>k_is);(case c51=>k_is);(case k52=>k_is);(case a53=>k_is);(case l54=>k_is)
  (case c55=>k_is);(case k56=>k_is);(case a57=>k_is);(case l58=>k_is);(case c59=>k_is);(case k60=>k_is)
  (case a61=>k_is);(case l62=>k_is);(case c63=>k_is);(case k64=>k_is);(case a65=>k_is);(case l66=>k_is)
  (case c67=>k_is);(case k68=>k_is);(case a69=>k_is);(case l70=>k_is);(case c71=>k_is);(case k72=>k_is)
  (case a73=>k_is);(case l74=>k_is);(case c75=>k_is);(case k76=>k_is);(case a77=>k_is);(case l78=>k_is)
  (case c79=>k_is);(case k80=>k_is);(case a81=>k_is);(case l82=>k_is);(case c83=>k_is);(case k84=>k_is)
  (case a85=>k_is);(case l86=>k_is);(case c87=>k_is);(case k88=>k_is);(case a89=>k_is);(case l90=>k_is)
  (case c91=>k_is);(case k92=>k_is);(case a93=>k_is);(case l94=>k_is);(case c95=>k_is);(case k96=>k_is)
  (case a97=>k_is);(case l98=>k_is);(case c99=>k_is);(case k100=>k_is);(case a101=>k_is);(case l102=>k_is)
  (case c103=>k_is);(case k104=>k_is);(case a105=>k_is);(case l106=>k_is);(case c107=>k_is);(case k108=>k_is)
  (case a109=>k_is);(case l110=>k_is);(case c111=>k_is);(case k112=>k_is);(case a113=>k_is);(case l114=>k_is)
  (case c115=>k_is);(case k116=>k_is);(case a117=>k_is);(case l118=>k_is);(case c119=>k_is);(case k120=>k_is)
  (case a121=>k_is);(case l122=>k_is);(case c123=>k_is);(case k124=>k_is);(case a125=>k_is);(case l126=>k_is)
  (case c127=>k_is);(case k128=>k_is);(case a129=>k_is);(case l130=>k_is);(case c131=>k_is);(case k132=>k_is)
  (case a133=>k_is);(case l134=>k_is);(case c135=>k_is);(case k136=>k_is);(case a137=>k_is);(case l138=>k_is)
  (case c139=>k_is);(case k140=>k_is);(case a141=>k_is);(case l142=>k_is);(case c143=>k_is);(case k144=>k_is)
  (case q145=>k_is);(case g146=>k_is);(case g147=>k_is);(case g148=>k_is);(case g149=>k_is);(case n150=>k_is)
  (case n151=>k_is);(case n152=>k_is);(case n153=>k_is);(case n154=>k_is);(case n155=>k_is);(case a156=>k_is)
  (case i157=>k_is);(case l158=>k_is);(case c159=>k_is);(case k160=>k_is);(case g161=>k_is);(case k162=>k_is)
  (case a163=>k_is);(case i164=>k_is);(case l165=>k_is);(case c166=>k_is);(case k167=>k_is);(case a168=>k_is)
  (case i169=>k_is);(case l170=>k_is);(case c171=>k_is);(case k172=>k_is);(case a173=>k_is);(case i174=>k_is)
  (case l175=>k_is);(case c176=>k_is);(case k177=>k_is);(case a178=>k_is);(case i179=>k_is);(case l180=>k_is)
  (case c181=>k_is);(case k182=>k_is);(case a183=>k_is);(case i184=>k_is);(case l185=>k_is);(case c186=>k_is)
  (case k187=>k_is);(case a188=>k_is);(case i189=>k_is);(case l190=>k_is);(case c191=>k_is);(case k192=>k_is)
  (case a193=>k_is);(case i194=>k_is);(case l195=>k_is);(case c196=>k_is);(case k197=>k_is);(case a198=>k_is)
  (case i199=>k_is);(case l200=>k_is);(case c201=>k_is);(case k202=>k_is);(case q203=>k_is);(case g204=>k_is)
  (case g205=>k_is);(case g206=>k_is);(case g207=>k_is);(case n208=>k_is);(case n209=>k_is);(case n210=>k_is)
  (case n211=>k_is);(case a212=>k_is);(case i213=>k_is);(case l214=>k_is);(case c215=>k_is);(case k216=>k_is)
  (case g217=>k_is);(case k218=>k_is);(case a219=>k_is);(case i220=>k_is);(case l221=>k_is);(case c222=>k_is)
  (case k223=>k_is);(case a224=>k_is);(case i225=>k_is);(case l226=>k_is);(case c227=>k_is);(case k228=>k_is)
  (case a229=>k_is);(case i230=>k_is);(case l231=>k_is);(case c232=>k_is);(case k233=>k_is);(case a234=>k_is)
  (case i235=>k_is);(case l236=>k_is);(case c237=>k_is);(case k238=>k_is);(case a239=>k_is);(case i240=>k_is)
  (case l241=>k_is);(case c242=>k_is);(case k243=>k_is);(case v244=>k_is);(case e245=>exact⟨_,rfl⟩);(case v246=>k_is)
  (case e247=>exact⟨_,rfl⟩);(case v248=>k_is);(case e249=>exact⟨_,rfl⟩);(case z250=>k_is);(case z251=>k_is);(case z252=>k_is)
  (case z253=>k_is);(case z254=>k_is);(case z255=>k_is);(case z256=>k_is);(case z257=>k_is);(case z258=>k_is)
  (case z259=>k_is);(case z260=>k_is);(case z261=>k_is);(case z262=>k_is);(case z263=>k_is);(case z264=>k_is)
  (case z265=>k_is);(case z266=>k_is);(case z267=>k_is);(case aL=>k_is);(case lL=>k_is);(case cL=>k_is)
  (case kL=>k_is)
