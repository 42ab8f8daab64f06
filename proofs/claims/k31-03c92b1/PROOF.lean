import PyProof.Rows.All
import Wide.All
import OpenK.AllK
import Wide.FinOn
import PyProof.Rows.SortShellK
import KE.KSortTup
import Lean
import PyProof.EqAt
import PyProof.EqKinds
import PyProof.TupleCall
import PyProof.SetRoads
import PyProof.DictRoadsH
import PyProof.IsRules
import PyProof.CollectWalk
import PyProof.FactsAll.set
import PyProof.NeData
import PyProof.P3In
import PyProof.TupleOfSeq
import PyProof.ZipIter
import PyProof.Rows.ZipGen
import KE.KDictOf
import PyProof.AttrMissHeap
import PyProof.Rows.SumAny
import PyProof.DictIter
import PyProof.DictWalks
import PyProof.DictValues
import PyProof.ListRange
import PyProof.ListStr
import PyProof.DictTruth
import PySem.Challenge.RW_strikeweave_k31_trees_of_none
namespace PySem.W.Fast
def tw17028186347779793452:=0
def tw111502448543783828:=0
def tw16905271651673438236:=0
def tw2925055395393375499:=0
def tw16857771376507466214:=0
def tw2816922158056610203:=0
def tw3621195946012296193:=0
def tw11791094546046953717:=0
def tw16237127421992340041:=0
def tw9382071491011127345:=0
def tw8512478686077298789:=0
def tw13876965450657143053:=0
def tw5523366185766332370:=0
def tw483241057759567690:=0
def tw6037762506950726613:=0
def tw14245883788350903415:=0
def tw888514712234707479:=0
def tw7870956363163237579:=0
def tw1445406118616589573:=0
def tw9579845503428983967:=0
def tw15448623965824472693:=0
def tw10280191283514027370:=0
def tw4381618325578673205:=0
def tw13043536660210343013:=0
def tw3715937947832600205:=0
def tw12548601362646179111:=0
def tw10844163095691269641:=0
def tw1193217940800252730:=0
def tw13368755850971168403:=0
def tw14921323487100508362:=0
def tw11580307462275913356:=0
def tw280147740690822311:=0
def tw12293587287043484987:=0
def tw10794166236547310970:=0
def tw14761720481175975220:=0
def tw15378258686968115189:=0
def tw10499084038197541352:=0
def tw16545627269595454225:=0
def tw908159476540368143:=0
def tw6660010050107300066:=0
def tw14353910105186754798:=0
def tw2528615885467468300:=0
def tw2157226910316301501:=0
def tw12909906035073833148:=0
def tw9314727781809541740:=0
def tw6383687102344797200:=0
def tw7298184102264381048:=0
def tw12673494119830509698:=0
def tw14925826963770394722:=0
def tw7639597631265837753:=0
def tw9991974240314487265:=0
def tw17187222392867083843:=0
def tw15395277622540329036:=0
def tw12796460693109835010:=0
def tw7697633502691729429:=0
def tw8723724166114006637:=0
def tw7900098088341075943:=0
def tw15792972819235683059:=0
def tw12883103660217163168:=0
def tw9556200956235675664:=0
def tw8919509168039089026:=0
def tw17793550608654448489:=0
def tw14328814506489687409:=0
def tw1783392368588675315:=0
def tw12398933582660797301:=0
def tw12627654557963540350:=0
def tw4366794441049933312:=0
def tw5276331299176390467:=0
def tw12381305706505165922:=0
def tw10607935941600639188:=0
def tw13432768991181345677:=0
def tw3048183802132635050:=0
def tw15739142858440826920:=0
def tw14233754756776147235:=0
def tw5710912672749419479:=0
def tw6630011323876225157:=0
def tw14574585137200559504:=0
def tw12857860166725180534:=0
def tw14137770953740329358:=0
def tw737751476045791987:=0
def tw5570985648784022932:=0
def tw6317114347240400993:=0
def tw4576657170674259473:=0
def tw18200752770088151465:=0
def tw887368756766551409:=0
def tw9932841296477052812:=0
def tw9830368977422601665:=0
def tw13520226044604102107:=0
def tw8722542854631028440:=0
def tw13576069940163687704:=0
def tw9697925705274679979:=0
def tw4728575866507561582:=0
def tw10340426429925223545:=0
def tw620791563647463158:=0
def tw5106322910428883404:=0
def tw12362348307825024288:=0
def tw14998731023894255555:=0
def tw4265988040469639952:=0
def tw888622135954499836:=0
def tw3259315922201481899:=0
def tw420412709459018687:=0
def tw4662672283446043048:=0
def tw15722248460582514083:=0
def tw1212066643067679618:=0
def tw12620655407062049002:=0
def tw18380531703353542098:=0
def tw8012676954876554620:=0
def tw2100397223480345143:=0
def tw11477264477263165555:=0
def tw842684441547286883:=0
def tw16648008197528713702:=0
def tw1669455744607762760:=0
def tw13219769475675379273:=0
def tw18361592471396188562:=0
def tw6162127559271892591:=0
def tw11897922636689938183:=0
def tw8940257990198730848:=0
def tw18366711640086155387:=0
def tw16585452996349093368:=0
def tw15627983691921307546:=0
def tw8606285363924687581:=0
def tw11556998272980483890:=0
def tw14751348115787455887:=0
def tw3371681174848147154:=0
def tw16357193095346592187:=0
def tw10557235419027786567:=0
def tw7605464081732401227:=0
def tw4740730982821302838:=0
def tw1037521695804873608:=0
def tw4220985967767370235:=0
def tw791469546684331520:=0
def tw5598506680430283342:=0
def tw11719553796372882778:=0
def tw10882378901748457067:=0
def tw8871962576254829092:=0
def tw14108325238043108930:=0
def tw4812708877707561791:=0
def tw10957523298723402905:=0
def tw14979560362673968971:=0
def tw16453572069337096279:=0
def tw10725727850877049018:=0
def tw5658761401313755843:=0
def tw4139639010935900883:=0
def tw16960938084533594594:=0
def tw7102799730251413927:=0
def tw17684984514774077203:=0
def tw15751528916017678981:=0
def tw4108340957348662390:=0
def tw8820801769794033848:=0
def tw18030699533785690107:=0
def tw1032734522064508440:=0
def tw4890215651975072067:=0
def tw14988866408639630942:=0
def tw10610637835439682185:=0
def tw5537038811106344316:=0
def tw2950412230263127467:=0
def tw42044814361580770:=0
def tw16788971821189931523:=0
def tw3214289070116015094:=0
def tw7322835136998526175:=0
def tw12617044702574277783:=0
def tw1045393896222508774:=0
def tw10583048966932953619:=0
def tw6652803732233272929:=0
def tw292600842990533803:=0
def tw4783868150087114914:=0
def tw6217041897901987181:=0
def tw578838751397975431:=0
def tw9922545679906169341:=0
def tw17069159330431832310:=0
def tw15097979002816287423:=0
def tw18112183608297764263:=0
def tw1079283922797237619:=0
def tw3221937993441104316:=0
def tw6906093535964196561:=0
def tw10562026013844394378:=0
def tw9421754666512784107:=0
def tw1419110677607323771:=0
def tw13039595470630885529:=0
def tw6632250705827072668:=0
def tw16311694266535977109:=0
def tw15073611478930454999:=0
def tw14149300325072847177:=0
def tw11219445887252764379:=0
def tw4407548675869682076:=0
def tw8199301087666601399:=0
def tw12720847332212329698:=0
def tw8142485858268069590:=0
def tw11671337041070826206:=0
def tw12645412454709658611:=0
def tw6613922676571940670:=0
def tw8668902246987521672:=0
def tw5546879732159939465:=0
def tw4089956969775947113:=0
def tw7378031548442322290:=0
def tw4066738321033679264:=0
def tw3439881573792124963:=0
def tw1487251344521820127:=0
def tw3241209674520510363:=0
def tw11434309979905384291:=0
def tw13452049631109369546:=0
def tw15469670928743489029:=0
def tw17408615062248671340:=0
def tw13783033446816891248:=0
def tw6874681757613165039:=0
def tw4017010967675673216:=0
def tw17718461803498151163:=0
def tw6116401176087694408:=0
def tw12218707468951504955:=0
def tw8857775231919632266:=0
def tw16045948542357028853:=0
def tw5267624132439812454:=0
def tw10242701580939797111:=0
def tw2866967656085868604:=0
def tw289089642244675728:=0
def tw6092475535933192642:=0
def tw12479957942369758362:=0
def tw12210366015373996259:=0
def tw905493481247694437:=0
def tw11960715343945764633:=0
def tw2116405275052864934:=0
def tw11561164965941898289:=0
def tw14623494320965813787:=0
def tw11739240366994705002:=0
def tw1643832579746294994:=0
def tw6887327364866768824:=0
def tw9311006570668608646:=0
def tw15996984340960056372:=0
def tw7545273098936545515:=0
def tw9815506692455391164:=0
def tw9106901003807443513:=0
def tw15189093366582899162:=0
def tw17322739269702236354:=0
def tw7212825827002804705:=0
def tw15150739284031712616:=0
def tw17075317813945109223:=0
def tw10923606990339448608:=0
def tw952376704508036343:=0
def tw8146703739157660848:=0
def tw15830937047186367161:=0
def tw16264771109184755397:=0
def tw11348116758657097668:=0
def tw4640938312381289547:=0
def tw13678511747355230145:=0
def tw3446828500289376266:=0
def tw13784612638280551126:=0
def tw11347153149928075831:=0
def tw6438538009183233924:=0
def tw17674091137372981754:=0
def tw15562131814173044807:=0
def tw1043447916795246123:=0
def tw8189403505623633086:=0
def tw14601095711372459772:=0
def tw15166850686046102692:=0
def tw1341932297402417022:=0
def tw18332621669580606353:=0
def tw5324659308468375464:=0
def tw14117961170614894703:=0
def tw18405172829501119999:=0
def tw5113355048593277949:=0
def tw9458624313795577394:=0
def tw13520192921221244655:=0
def tw17531479489702228944:=0
def tw3620117179056651919:=0
def tw10862832736180276381:=0
def tw8605790642590966156:=0
def tw13623274345598959233:=0
def tw17830904886978166305:=0
def tw4011690587472103992:=0
def tw2259744948808352261:=0
def tw8350568877250264511:=0
def tw3385536697686475017:=0
def tw9187656106927808828:=0
def tw10472667464266967967:=0
def tw16891768358387151641:=0
def tw15395286510436431233:=0
def tw14087253022647665399:=0
def tw3262031128527035148:=0
def tw10139800198986544434:=0
def tw15078728942424094507:=0
def tw14564963327526643805:=0
def tw4424158294049349698:=0
def tw2994370872874415703:=0
def tw7288486297372880381:=0
def tw602167314402328267:=0
def tw15235073148023082875:=0
def tw15866560588743433788:=0
def tw15994977013280039183:=0
def tw3841649629633208979:=0
def tw12835311413512208629:=0
def tw5292209444218364617:=0
def tw16926549626645464490:=0
def tw1162567274122286268:=0
def tw13529729023468759296:=0
def tw17968822752634583969:=0
def tw8879572371527711714:=0
def tw16783812180320938273:=0
def tw992789992257418958:=0
def tw8500766013518214143:=0
def tw10134021419972940641:=0
def tw14983937904353301482:=0
def tw9944949631341311442:=0
def tw12261811700736522113:=0
def tw15892429636561548919:=0
def tw9337723006919512775:=0
def tw14864402843546385270:=0
def tw18109684240785959701:=0
def tw9848188558650444847:=0
def tw7834692445238552670:=0
def tw13487739904836569372:=0
def tw3170869560180447118:=0
def tw4800212553845347607:=0
def tw8715901625391707111:=0
def tw5884901088743683489:=0
def tw3820854713870275549:=0
def tw6649803775190871139:=0
def tw18224381612493893384:=0
def tw7653719544683958325:=0
def tw11936898151499911676:=0
def tw18103436509198888804:=0
def tw13647216265327541858:=0
def tw8763196812117183514:=0
def tw2951291263978456590:=0
def tw2311110651005462951:=0
def tw17287859223588934571:=0
def tw12123179010231146289:=0
def tw6053447296340689387:=0
def tw15933087436090094423:=0
def tw1200071167992537906:=0
def tw8131412027398915189:=0
def tw4982427596163008115:=0
def tw9486226412748687193:=0
def tw9704652582560029152:=0
def tw7613604248131149098:=0
def tw255943824925278892:=0
def tw15506282305522703275:=0
def tw15995620647093195498:=0
def tw3207530451984753398:=0
def tw6185372887136182196:=0
def tw13735190208809880519:=0
def tw344895231417685964:=0
def tw15449675502794898362:=0
def tw9438326136972911799:=0
def tw10683366696308584645:=0
def tw14580259013949922836:=0
def tw3044108338944207678:=0
def tw15397175875035490817:=0
def tw16867466640088015523:=0
def tw10111945557316244450:=0
def tw498695531628544866:=0
def tw7030123346514952161:=0
def tw639581144688872982:=0
def tw3015660851615218802:=0
def tw3378871271510214112:=0
def tw18254851116674176321:=0
def tw98547438899438495:=0
def tw14431088806611981860:=0
def tw10165030593624842891:=0
def tw17659802618420081373:=0
def tw8400931041940321363:=0
def tw12448465966505109478:=0
def tw17071268366960296082:=0
def tw6787230388025200832:=0
def tw7847173761442813767:=0
def tw14975737139558708535:=0
def tw5651824083234569349:=0
def tw2547386125481148036:=0
def tw2951298625878515842:=0
def tw8660220288226469031:=0
def tw8829435003937213418:=0
def tw17721545852874733185:=0
def tw4461611701515890215:=0
def tw18333937696746520262:=0
def tw6268371281057979092:=0
def tw9193368372236001681:=0
def tw69697959757950170:=0
def tw11078477069139033017:=0
def tw5865553531947752276:=0
def tw18125926188472354236:=0
def tw11677697897070089577:=0
def tw11909246068512743988:=0
def tw7958045004782403618:=0
def tw8689988905571636438:=0
def tw6942934331094838288:=0
def tw11373634195830993150:=0
def tw8974118860064194387:=0
def tw16037469931388220800:=0
def tw15829853858778961028:=0
def tw17689811339163883644:=0
def tw7059532423840795397:=0
def tw12291896555193754105:=0
def tw13255641168812921405:=0
def tw202151764575170173:=0
def tw14232727955595407680:=0
def tw12070782819341430838:=0
def tw13632361477402615211:=0
def tw17017625566892651215:=0
def tw1246190702172255475:=0
def tw936604760498409975:=0
def tw15883074966311335290:=0
def tw3968493071760728375:=0
def tw483917876660089852:=0
def tw18072172867272209442:=0
def tw17471834666837045135:=0
def tw1323735986602819187:=0
def tw11219225957841056355:=0
def tw16280102331604434738:=0
def tw3499617045238827799:=0
def tw6088653163558447122:=0
def tw10585928657915808473:=0
def tw16912615426340210946:=0
def tw10116692263907070203:=0
def tw12659259863357823579:=0
def tw13331883736662526207:=0
def tw15652227747190785748:=0
def tw6796274941458209660:=0
def tw4432669109271972955:=0
def tw17302781353973671383:=0
def tw893568323975028548:=0
def tw15101649569821924855:=0
def tw14313261171720071213:=0
def tw2176595415956685844:=0
def tw2275410284643856630:=0
def tw7383400606798497890:=0
def tw6609381255688646157:=0
end PySem.W.Fast
set_option autoImplicit false
set_option genSizeOf false
set_option genSizeOfSpec false
set_option bootstrap.genMatcherCode false
set_option compiler.extract_closed false
set_option linter.all false
set_option maxRecDepth 100000
section
open PySem PySem.Spec PyProof.Rows
abbrev A1:=@List
abbrev A2:=Value
abbrev A3:=Addr
abbrev A4:=Shared
abbrev A5:=@Option
abbrev A7:=Program
abbrev CM:=Keyed
abbrev F1:=@Array
abbrev HV:=SortSt
abbrev HW:=World
abbrev H_:=Heap
abbrev IB:=Expr
abbrev IC:=Around
abbrev IL:=Stmt
abbrev IM:=SetTable
abbrev IP:=FuncData
abbrev JB:=Scope
abbrev JP:=SortKind
abbrev JT:=NameKind
abbrev P_:=Env
end
section
open PySem PySem.Spec PyProof.Rows
def AA:=@wpAny_bind
def AB:=@List.length_map
def AC:=@List.getElem?_eq_getElem
def AD:=@Heap.get?_push_of_some
def AE:=@List.getElem?_eq_some_iff
def AF:=@List.mem_singleton
def AG:=@wpAny_pure
def AH:=@List.getElem?_map
def AI:=@Heap.lt_size
def AJ:=@if_neg
def AK:=@List.mem_of_getElem?
def AL:=@if_pos
def AM:=@List.size_toArray
def AN:=@List.getD_eq_getElem?_getD
def AO:=@List.map_append
def AQ:=@Heap.get?_push_size
def AR:=@List.mem_cons
def AS:=@List.length_take
def AU:=@List.length_append
def AV:=@List.mem_map
def AW:=@List.mem_append
def AX:=@Nat.ne_of_lt
def AY:=@Bool.false_eq_true
def AZ:=@Bool.false_ne_true
def A_:=@List.map_cons
def BA:=@Array.length_toList
def BB:=@decide_eq_true
def BC:=@Option.map_eq_some_iff
def BD:=@decide_eq_false
def BE:=@Option.some.inj
def BF:=@List.mem_cons_of_mem
def BG:=@Nat.lt_of_lt_of_le
def BH:=@Bool.and_eq_true
def BI:=@List.append_assoc
def BJ:=@List.length_cons
def BK:=@List.mem_append_right
def BL:=@Nat.eq_of_testBit_eq
def BM:=@List.mem_filter
def BN:=@List.not_mem_nil
def BO:=@Array.toList_append
def BP:=@List.mem_cons_self
def BQ:=@decide_eq_true_iff
def BR:=@List.take_append_drop
def BS:=@Array.getElem?_toList
def BT:=@List.length_filter_le
def BU:=@wpAny_holding
def BV:=@Bool.eq_iff_iff
def BW:=@Nat.testBit_and
def BX:=@List.mem_range
def BZ:=@of_decide_eq_true
def B_:=@List.take_length
def CA:=@Bool.eq_false_iff
def CB:=@wpAny_mono
def CC:=@Nat.zero_testBit
def CD:=@List.mem_of_mem_take
def CF:=@List.length_range
def CG:=@List.map_map
def CH:=@List.append_nil
def CI:=@Nat.zero_le
def CJ:=@if_false
def CK:=@Heap.get?_update_other
def CL:=@Array.getD_eq_getD_getElem?
def CN:=@List.pairwise_append
def CO:=@Nat.testBit_zero
def CP:=@List.pairwise_map
def CQ:=@List.nodup_cons
def CS:=@Int.toNat_natCast
def CT:=@List.perm_append_comm
def CU:=@List.mem_iff_getElem?
def CV:=@Nat.testBit_two_pow
def CY:=@List.length_drop
def CZ:=@List.take_of_length_le
def C_:=@List.filterMap_cons_some
def DA:=@wpAny_field
def DB:=@List.getElem?_append_right
def DC:=@wpAny_seqItems
def DD:=@Nat.testBit_succ
def DE:=@wpAny_truthy_bool
def DF:=@List.getElem?_append_left
def DG:=@List.getElem?_take_of_lt
def DH:=@List.Perm.append_left
def DI:=@Array.toList_push
def DJ:=@List.Perm.append_right
def DK:=@Nat.le_add_right
def DL:=@List.filter_cons
def DM:=@List.filter_sublist
def DN:=@Heap.get?_update_self
def DP:=@Nat.lt_irrefl
def DQ:=@Heap.size_push
def DR:=@Nat.le_of_lt
def DT:=@wpAny_Call_Name_kw
def DU:=@List.filter_append
def DV:=@List.mem_of_mem_drop
def DW:=@wpAny_call_entry
def DX:=@wpAny_callSpecial?_slot
def DY:=@List.take_sublist
def DZ:=@Nat.lt_succ_of_lt
def D_:=@List.nodup_append
def EA:=@Nat.testBit_or
def EB:=@List.filterMap_cons
def EC:=@List.replicate_succ
def ED:=@Heap.SameBut.update
def EE:=@List.map_eq_nil_iff
def EF:=@Nat.not_lt_zero
def EG:=@List.range_succ
def EH:=@wpAny_ite_false
def EI:=@Bool.or_eq_true
def EJ:=@List.extract_eq_take_drop
def EK:=@Option.isSome_iff_exists
def EL:=@List.filterMap_cons_none
def EM:=@List.drop_zero
def EN:=@Array.toList_extract
def EO:=@Nat.le_succ
def EQ:=@List.mem_append_left
def ER:=@Bool.false_and
def ES:=@if_true
def ET:=@wpAny_newObj_type
def EU:=@wpAny_rule
def EV:=@List.find?_cons
def EW:=@List.filter_eq_self
def EX:=@List.drop_eq_nil_of_le
def EY:=@Nat.zero_add
def EZ:=@Bool.not_true
def E_:=@Nat.lt_succ_self
def FA:=@List.drop_drop
def FB:=@Nat.lt_of_le_of_ne
def FC:=@Int.emod_lt_of_pos
def FD:=@wpAny_setField_rec
def FE:=@List.getElem?_eq_none
def FF:=@List.drop_eq_getElem_cons
def FG:=@Array.getElem?_eq_getElem
def FH:=@Nat.min_eq_left
def FI:=@wpAny_passesOwn
def FJ:=@List.of_mem_zip
def FK:=@List.forIn_cons
def FM:=@wpAny_updateSeq
def FN:=@List.drop_sublist
def FO:=@List.mem_iff_getElem
def FP:=@Array.toList_reverse
def FQ:=@wpAny_pyIter_list
def FR:=@wpAny_setState_of
def FS:=@List.Pairwise.imp_of_mem
def FT:=@Nat.testBit_two_pow_self
def FU:=@Nat.add_le_add_left
def FV:=@List.pairwise_singleton
def FW:=@List.all_eq_true
def FX:=@List.getElem_mem
def FY:=@wpAny_tryCatch
def FZ:=@Nat.eq_zero_of_not_pos
def F_:=@List.getElem?_drop
def GA:=@Array.size_extract
def GB:=@List.zip_cons_cons
def GC:=@wpAny_nextOf_list_item
def GD:=@List.length_nil
def GE:=@Int.emod_nonneg
def GF:=@List.filter_nil
def GG:=@wpAny_standAt
def GH:=@List.any_cons
def GI:=@Nat.lt_of_succ_lt
def GJ:=@List.ext_getElem?
def GK:=@List.flatten_cons
def GL:=@List.drop_take
def GM:=@Array.getElem?_eq_some_iff
def GN:=@List.nodup_nil
def GO:=@List.findSome?_eq_none_iff
def GP:=@List.map_nil
def GQ:=@List.nodup_range
def GR:=@Nat.zero_lt_succ
def GS:=@wpAny_pyIter_zip
def GT:=@List.pairwise_iff_getElem
def GU:=@List.getElem?_zip_eq_some
def GV:=@List.reverse_append
def GW:=@Array.size_setIfInBounds
def GX:=@List.cons.inj
def GY:=@List.sum_cons
def GZ:=@List.idxOf_lt_length_iff
def G_:=@Nat.zero_lt_one
def HA:=@Option.map_some
def HB:=@wpAny_specialOf
def HC:=@codeAny_builtin
def HD:=@Array.forIn_toList
def HE:=@Option.bind_eq_some_iff
def HF:=@wpAny_letGo
def HG:=@Nat.testBit_mod_two_pow
def HH:=@List.take_take
def HI:=@wpAny_newTuple
def HJ:=@Array.size_map
def HK:=@List.getElem?_set_self
def HL:=@Bool.and_false
def HM:=@Nat.succ.inj
def HN:=@Heap.size_update
def HP:=@List.lookup_cons
def HQ:=@List.any_eq_true
def HR:=@wpAny_attempt
def HS:=@wpAny_newList
def HU:=@List.map_take
end
noncomputable section
namespace TS
open PySem PyProof.Rows
def kk(κ:KeyKind)(p:CM):κ.α:=(κ.keyOf p.1).getD κ.dflt
def QZ(κ:KeyKind)(p:CM):Prop:=∃a,κ.keyOf p.1=some a
def le(κ:KeyKind)(p q:CM):Prop:=κ.kle (kk κ p) (kk κ q)
def KS(κ:KeyKind)(l:A1 CM):Prop:=l.Pairwise (le κ)
structure QM(prog:A7)(w:HW)(A:IC)(s:A4)(κ:KeyKind)(kd:JP):Prop where
 lt:∀(x y:A2) (a b:κ.α) (Q:Bool->A4->Prop) (E:A2->A4->Prop),κ.keyOf x=some a->κ.keyOf y=some b->Q (κ.blt a b) s->wpAny (model prog w) A (keyLt' kd x y) Q E s
section
variable{prog:A7}{w:HW}{A:IC}{E:A2->A4->Prop}{s:A4}{κ:KeyKind}{kd:JP}
theorem Gq(C:QM prog w A s κ kd){st:HV}{x y:CM}{Q:A5 Bool->HV->Prop}(e:kindOf st=kd)(f:QZ κ x)(g:QZ κ y)
  (h:Q (some (κ.blt (kk κ x) (kk κ y))) st):wpS (model prog w) A E s (lt' x y) Q st:=by
 obtain⟨a,c⟩:=f;obtain⟨b,d⟩:=g;have i:kk κ x=a:=by unfold kk;rw[c];rfl
 have j:kk κ y=b:=by unfold kk;rw[d];rfl
 rw[i,j]at h;rw[lt'_eq];refine wpS_bind (wpS_get ?_);rw[e];refine wpS_bind (wpS_lift (HR (C.lt x.1 y.1 a b _ _ c d ⟨rfl,?_⟩)));exact wpS_pure h
theorem D9{st:HV}{a:F1 CM}{i:Nat}{p:CM}{Q:CM->HV->Prop}(hi:a[i]?=some p)(h:Q p st):wpS (model prog w) A E s (elem' a i) Q st:=by
 rw[elem'_eq,hi];exact wpS_pure h
def U0:Bool->CM->F1 CM->Nat->Nat->Nat->StateT HV Sem (A5 Nat):=sortPriv% PySem.Builtin.gallop
def R_(left:Bool)(a:CM)(b:F1 CM)(bs:Nat)(i:Nat):StateT HV Sem (A5 Bool):=do
 let x <-elem' b (bs+i)
 if left then lt' x a else return(<-lt' a x).map (!·)
theorem Nb(left:Bool)(c:CM)(d:F1 CM)(bs n b:Nat):U0 left c d bs n b =(do
  let mut la:=0
  let mut a:=1
  let mut lo:=0
  let mut hi:=0
  let some g <-R_ left c d bs b | return none
  if g then
   let e:=n-b
   for _ in [0:n] do
    if a ≥ e then break
    let some f <-R_ left c d bs (b+a) | return none
    if !f then break
    la:=a
    a:=2*a+1
   lo:=b+la+1
   hi:=b+min a e
  else
   let e:=b+1
   for _ in [0:n] do
    if a ≥ e then break
    let some h <-R_ left c d bs (b-a) | return none
    if h then break
    la:=a
    a:=2*a+1
   lo:=b+1-min a e
   hi:=b-la
  for _ in [0:n] do
   if lo ≥ hi then break
   let m:=lo +(hi-lo) / 2
   let some f <-R_ left c d bs m | return none
   if f then lo:=m+1 else hi:=m
  return some hi):=rfl
def PB(κ:KeyKind)(left:Bool)(a:CM)(p:CM):Bool:=if left then κ.blt (kk κ p) (kk κ a)else !κ.blt (kk κ a) (kk κ p)
theorem Wy(C:QM prog w A s κ kd){st:HV}{left:Bool}{b p:CM}{c:F1 CM}{bs i:Nat}{Q:A5 Bool->HV->Prop}(d:kindOf st=kd)(a:QZ κ b)(e:QZ κ p)(hi:c[bs+i]?=some p)
  (h:Q (some (PB κ left b p)) st):wpS (model prog w) A E s (R_ left b c bs i) Q st:=by
 unfold R_;refine wpS_bind (D9 hi ?_);cases left with
 | true=>exact Gq C d e a h
 | false =>
  simp only[AY,CJ];refine wpS_bind (Gq C d a e ?_);exact wpS_pure h
theorem Mw(C:QM prog w A s κ kd){st:HV}{left:Bool}{L:CM}{O:F1 CM}{bs n g:Nat}{Q:A5 Nat->HV->Prop}(hk:kindOf st=kd)(R:QZ κ L)
  (P:Nat->Bool) (hP:∀i,i<n->∃p,O[bs+i]?=some p/\QZ κ p/\PB κ left L p=P i) (o:∀i j,i<=j->j<n->P j=true->P i=true) (T:g<n)
  (h:∀k,k<=n->(∀i,i<k->P i=true)->(∀i,k<=i->i<n->P i=false)->Q (some k) st):wpS (model prog w) A E s (U0 left L O bs n g) Q st:=by
 have B:∀{a:HV} {i:Nat} {Q:A5 Bool->HV->Prop},a=st->i<n->Q (some (P i)) a->wpS (model prog w) A E s (R_ left L O bs i) Q a:=by
  intro a i Q e hi q;subst e;obtain⟨p,U,V,W⟩:=hP i hi;exact Wy C hk R V U (by rw[W];exact q)
 have m:∀i j,i<=j->j<n->P i=false->P j=false:=by
  intro i j X hj hi;cases e:P j with
  | false=>rfl
  | true=>rw[o i j X hj e]at hi;cases hi
 rw[Nb];dsimp only;refine wpS_bind (B rfl T ?_);dsimp only;have S:∀{lo hi:Nat} {f:Nat->(A5 (A5 Nat)×Nat×Nat)->StateT HV Sem (ForInStep (A5 (A5 Nat)×Nat×Nat))},
   (∀x l h,wpS (model prog w) A E s (f x (none,l,h)) (fun r a=>a=st/\(if h<=l then r = .done (none,l,h)else if P (l +(h-l) / 2)=true then r = .yield (none,l +(h-l) / 2+1,h)else r = .yield (none,l,l +(h-l) / 2))) st\/¬(h<=l\/l +(h-l) / 2<n)) ->
   lo<=hi->hi<=n->(∀i,i<lo->P i=true)->(∀i,hi<=i->i<n->P i=false) ->
   wpS (model prog w) A E s (forIn [0:n] (none,lo,hi) f) (fun c a=>a=st/\∃k,c =(none,k,k)/\k<=n/\(∀i,i<k->P i=true)/\(∀i,k<=i->i<n->P i=false)) st:=by
  intro lo hi f hf U V W h4;refine wpS_forRange (I:=fun x c a=>a=st/\∃l r,c =(none,l,r)/\l<=r/\r<=n/\r-l<=n-x/\(∀i,i<l->P i=true)/\(∀i,r<=i->i<n->P i=false)) ?_ ?_ ⟨rfl,lo,hi,rfl,U,V,by omega,W,h4⟩
  .rintro x c a _ hx ⟨rfl,l,r,rfl,hl,K,hm,M,N⟩;have Y:r<=l\/l +(r-l) / 2<n:=by omega
   rcases hf x l r with q | q
   .refine wpS_mono q fun z st2 ⟨e,F⟩=>?_;subst e;by_cases b:r<=l
    .rw[AL b]at F;subst F;have:l=r:=by omega
     subst this;exact⟨rfl,l,rfl,K,M,N⟩
    .rw[AJ b]at F;cases u:P (l +(r-l) / 2)with
     | true =>
      rw[AL u]at F;subst F;exact⟨rfl,_,_,rfl,by omega,by omega,by omega,fun i hi=>o i (l +(r-l) / 2) (by omega) (by omega) u,N⟩
     | false =>
      rw[AJ (by rw[u];exact AZ)]at F;subst F;exact⟨rfl,_,_,rfl,by omega,by omega,by omega,M,fun i G y=>m (l +(r-l) / 2) i G y u⟩
   .exact absurd Y q
  .rintro c a ⟨rfl,l,r,rfl,hl,K,hm,M,N⟩;have:l=r:=by omega
   subst this;exact⟨rfl,l,rfl,K,M,N⟩
 cases K:P g with
 | true =>
  rw[AL rfl];refine wpS_bind (wpS_mono (wpS_forRange (I:=fun x c a=>a=st/\∃la d,c =(none,la,d)/\la<d/\x+1<=d/\g+la<n/\P (g+la)=true)
   (Q:=fun c a=>a=st/\∃la d,c =(none,la,d)/\la<d/\g+la<n/\P (g+la)=true/\(n-g<=d\/(g+d<n/\P (g+d)=false))) ?st ?en ⟨rfl,0,1,rfl,by omega,by omega,by omega,K⟩) ?po)
  case en =>
   rintro c a ⟨rfl,la,d,rfl,D,Z,v,t⟩;exact⟨rfl,la,d,rfl,D,v,t,.inl (by omega)⟩
  case st =>
   rintro x c a _ hx ⟨rfl,la,d,rfl,D,Z,v,t⟩;dsimp only;by_cases b:d ≥ n-g
   .rw[AL b];exact wpS_pure ⟨rfl,la,d,rfl,D,v,t,.inl b⟩
   .rw[AJ b];refine wpS_bind (B rfl (show g+d<n by omega) ?_);cases u:P (g+d)with
    | true=>exact wpS_pure ⟨rfl,d,2*d+1,rfl,by omega,by omega,by omega,u⟩
    | false=>exact wpS_pure ⟨rfl,la,d,rfl,D,v,t,.inr ⟨by omega,u⟩⟩
  case po =>
   rintro c a ⟨rfl,la,d,rfl,D,v,t,H⟩;dsimp only;refine wpS_bind (wpS_mono (S (lo:=g+la+1) (hi:=g+min d (n-g)) (fun x l J=>by
    dsimp only;by_cases b:J<=l
    .refine .inl ?_;rw[AL b];exact wpS_pure ⟨rfl,by rw[AL b]⟩
    .by_cases hn:l +(J - l) / 2<n
     .refine .inl ?_;rw[AJ b];refine wpS_bind (B rfl hn ?_);dsimp only;cases u:P (l +(J - l) / 2)with
      | true =>
       simp only[ES];exact wpS_pure ⟨rfl,by rw[AJ b]⟩
      | false =>
       simp only[AY,CJ];exact wpS_pure ⟨rfl,by rw[AJ b]⟩
     .exact .inr (by omega)) (by omega) (by omega) (fun i hi=>o i (g+la) (by omega) v t) fun i G y=>?_) fun c a ⟨e,k,e2,b1,b2,b3⟩=>?_)
   .rcases H with H | ⟨H,a6⟩
    .omega
    .exact m (g+d) i (by omega) y a6
   .subst e e2;exact wpS_pure (h k b1 b2 b3)
 | false =>
  rw[AJ AZ];refine wpS_bind (wpS_mono (wpS_forRange (I:=fun x c a=>a=st/\∃la d,c =(none,la,d)/\la<d/\x+1<=d/\la<=g/\P (g-la)=false)
   (Q:=fun c a=>a=st/\∃la d,c =(none,la,d)/\la<d/\la<=g/\P (g-la)=false/\(g+1<=d\/(d<=g/\P (g-d)=true))) ?st ?en ⟨rfl,0,1,rfl,by omega,by omega,by omega,K⟩) ?po)
  case en =>
   rintro c a ⟨rfl,la,d,rfl,D,Z,v,t⟩;exact⟨rfl,la,d,rfl,D,v,t,.inl (by omega)⟩
  case st =>
   rintro x c a _ hx ⟨rfl,la,d,rfl,D,Z,v,t⟩;dsimp only;by_cases b:d ≥ g+1
   .rw[AL b];exact wpS_pure ⟨rfl,la,d,rfl,D,v,t,.inl b⟩
   .rw[AJ b];refine wpS_bind (B rfl (show g-d<n by omega) ?_);cases u:P (g-d)with
    | false=>exact wpS_pure ⟨rfl,d,2*d+1,rfl,by omega,by omega,by omega,u⟩
    | true=>exact wpS_pure ⟨rfl,la,d,rfl,D,v,t,.inr ⟨by omega,u⟩⟩
  case po =>
   rintro c a ⟨rfl,la,d,rfl,D,v,t,H⟩;dsimp only;refine wpS_bind (wpS_mono (S (lo:=g+1-min d (g+1)) (hi:=g-la) (fun x l J=>by
    dsimp only;by_cases b:J<=l
    .refine .inl ?_;rw[AL b];exact wpS_pure ⟨rfl,by rw[AL b]⟩
    .by_cases hn:l +(J - l) / 2<n
     .refine .inl ?_;rw[AJ b];refine wpS_bind (B rfl hn ?_);dsimp only;cases u:P (l +(J - l) / 2)with
      | true =>
       simp only[ES];exact wpS_pure ⟨rfl,by rw[AJ b]⟩
      | false =>
       simp only[AY,CJ];exact wpS_pure ⟨rfl,by rw[AJ b]⟩
     .exact .inr (by omega)) (by omega) (by omega) (fun i hi=>?_) fun i G y=>m (g-la) i (by omega) y t) fun c a ⟨e,k,e2,b1,b2,b3⟩=>?_)
   .rcases H with H | ⟨H,a6⟩
    .omega
    .exact o i (g-d) (by omega) (by omega) a6
   .subst e e2;exact wpS_pure (h k b1 b2 b3)
end
section
variable{κ:KeyKind}
theorem RH(p:CM):le κ p p:=KeyOrd.kle_refl _
theorem IY{p q r:CM}(h1:le κ p q)(h2:le κ q r):le κ p r:=KeyOrd.kle_trans h1 h2
structure ML(κ:KeyKind)(a b:A1 CM)(o:A1 CM)(i j:Nat):Prop where
 perm:o.Perm (a.take i++b.take j)
 sor:KS κ o
 la:∀x∈o,∀y∈a.drop i,le κ x y
 lb:∀x∈o,∀y∈b.drop j,le κ x y
theorem ML.sym{a b o:A1 CM}{i j:Nat}(m:ML κ a b o i j):ML κ b a o j i:=⟨m.perm.trans CT,m.sor,m.lb,m.la⟩
theorem Fe{l:A1 CM}(k:Nat)(h:KS κ l):∀x∈l.take k,∀y∈l.drop k,le κ x y:=by
 have a:KS κ (l.take k++l.drop k):=by rw[BR];exact h
 exact(CN.mp a).2.2
theorem ML.addA{a b o:A1 CM}{i j:Nat}(m:ML κ a b o i j)(e:KS κ a)(k:Nat)(f:∀y∈(a.drop i).take k,∀z∈b.drop j,le κ y z):ML κ a b (o ++(a.drop i).take k) (i+k) j:=by
 have d:KS κ (a.drop i):=e.sublist (FN _ _);refine⟨?_,?_,fun x hx y c=>?_,fun x hx y c=>?_⟩
 .rw[List.take_add];refine(DJ _ m.perm).trans ?_;rw[BI,BI];exact DH _ CT
 .refine CN.mpr ⟨m.sor,d.sublist (DY _ _),fun x hx y c=>m.la x hx y (CD c)⟩
 .rw[<-FA]at c;rcases AW.mp hx with hx | hx
  .exact m.la x hx y (DV c)
  .exact Fe k d x hx y c
 .rcases AW.mp hx with hx | hx
  .exact m.lb x hx y c
  .exact f x hx y c
theorem ML.addB{a b o:A1 CM}{i j:Nat}(m:ML κ a b o i j)(c:KS κ b)(k:Nat)(d:∀y∈(b.drop j).take k,∀z∈a.drop i,le κ y z):ML κ a b (o ++(b.drop j).take k) i (j+k) :=
 (m.sym.addA c k d).sym
theorem ML.endA{a b o:A1 CM}{i j:Nat}(m:ML κ a b o i j)(e:KS κ a)(f:KS κ b)(h:∀y∈a.drop i,∀z∈b.drop j,le κ y z):KS κ (o++a.drop i++b.drop j)/\(o++a.drop i++b.drop j).Perm (a++b):=by
 refine⟨?_,?_⟩
 .refine CN.mpr ⟨CN.mpr ⟨m.sor,e.sublist (FN _ _),m.la⟩,f.sublist (FN _ _),fun x hx y c=>?_⟩;rcases AW.mp hx with hx | hx
  .exact m.lb x hx y c
  .exact h x hx y c
 .have g:(o++a.drop i++b.drop j).Perm ((a.take i++b.take j)++a.drop i++b.drop j):=DJ _ (DJ _ m.perm);refine g.trans ?_;have d:((a.take i++b.take j)++a.drop i++b.drop j).Perm ((a.take i++a.drop i) ++(b.take j++b.drop j)):=by
   rw[BI,BI,BI];refine DH _ ?_;rw[<-BI,<-BI];exact DJ _ CT
  rw[BR,BR]at d;exact d
theorem ML.endB{a b o:A1 CM}{i j:Nat}(m:ML κ a b o i j)(c:KS κ a)(d:KS κ b)(h:∀y∈b.drop j,∀z∈a.drop i,le κ y z):KS κ (o++b.drop j++a.drop i)/\(o++b.drop j++a.drop i).Perm (a++b) :=
 ⟨(m.sym.endA d c h).1,(m.sym.endA d c h).2.trans CT⟩
structure MH(κ:KeyKind)(a b:A1 CM)(o:A1 CM)(i j:Nat):Prop where
 perm:o.Perm (a.drop i++b.drop j)
 sor:KS κ o
 la:∀x∈o,∀y∈a.take i,le κ y x
 lb:∀x∈o,∀y∈b.take j,le κ y x
theorem MH.sym{a b o:A1 CM}{i j:Nat}(m:MH κ a b o i j):MH κ b a o j i:=⟨m.perm.trans CT,m.sor,m.lb,m.la⟩
theorem MH.addA{a b o:A1 CM}{i j:Nat}(m:MH κ a b o i j)(g:KS κ a)(k:Nat)(d:k<=i)(h:∀y∈(a.take i).drop k,∀z∈b.take j,le κ z y):MH κ a b ((a.take i).drop k++o) k j:=by
 have f:KS κ (a.take i):=g.sublist (DY _ _);have e:a.drop k =(a.take i).drop k++a.drop i:=by
  conv=>lhs;rw[<-BR i a]
  rw[List.drop_append];by_cases l:i<=a.length
  .rw[AS,FH l,Nat.sub_eq_zero_of_le d,EM]
  .have:a.drop i = []:=EX (by lia);rw[this,List.drop_nil]
 have n:(a.take i).take k=a.take k:=by rw[HH,FH d]
 refine⟨?_,?_,fun x hx y c=>?_,fun x hx y c=>?_⟩
 .rw[e,BI];exact DH _ m.perm
 .exact CN.mpr ⟨f.sublist (FN _ _),m.sor,fun x hx y c=>m.la y c x (DV hx)⟩
 .rw[<-n]at c;rcases AW.mp hx with hx | hx
  .exact Fe k f y c x hx
  .exact m.la x hx y (CD c)
 .rcases AW.mp hx with hx | hx
  .exact h x hx y c
  .exact m.lb x hx y c
theorem MH.addB{a b o:A1 CM}{i j:Nat}(m:MH κ a b o i j)(d:KS κ b)(k:Nat)(c:k<=j)(e:∀y∈(b.take j).drop k,∀z∈a.take i,le κ z y):MH κ a b ((b.take j).drop k++o) i k :=
 (m.sym.addA d k c e).sym
theorem MH.endA{a b o:A1 CM}{i j:Nat}(m:MH κ a b o i j)(e:KS κ a)(f:KS κ b)(h:∀y∈a.take i,∀z∈b.take j,le κ y z):KS κ (a.take i++b.take j++o)/\(a.take i++b.take j++o).Perm (a++b):=by
 refine⟨?_,?_⟩
 .refine CN.mpr ⟨CN.mpr ⟨e.sublist (DY _ _),f.sublist (DY _ _),h⟩,m.sor,fun x hx y c=>?_⟩;rcases AW.mp hx with hx | hx
  .exact m.la y c x hx
  .exact m.lb y c x hx
 .have g:(a.take i++b.take j++o).Perm (a.take i++b.take j ++(a.drop i++b.drop j)):=DH _ m.perm;refine g.trans ?_;have d:(a.take i++b.take j ++(a.drop i++b.drop j)).Perm ((a.take i++a.drop i) ++(b.take j++b.drop j)):=by
   rw[BI,BI];refine DH _ ?_;rw[<-BI,<-BI];exact DJ _ CT
  rw[BR,BR]at d;exact d
theorem MH.endB{a b o:A1 CM}{i j:Nat}(m:MH κ a b o i j)(c:KS κ a)(d:KS κ b)(h:∀y∈b.take j,∀z∈a.take i,le κ y z):KS κ (b.take j++a.take i++o)/\(b.take j++a.take i++o).Perm (a++b) :=
 ⟨(m.sym.endA d c h).1,(m.sym.endA d c h).2.trans CT⟩
end
section
variable{prog:A7}{w:HW}{A:IC}{E:A2->A4->Prop}{s:A4}{κ:KeyKind}{kd:JP}
def Af(g:Nat):StateT HV Sem Unit:=modify fun s=>SortSt.mk' (kindOf s) (arrOf s) (pendingOf s) g (failedOf s)
def Dj:F1 CM->F1 CM->StateT HV Sem (F1 CM):=sortPriv% PySem.Builtin.mergeLo
theorem Jk(a b:F1 CM):Dj a b =(do
  rule "list.sort.merge-lo"
  let d:=a.size+b.size
  let c (o:F1 CM) (i j:Nat):=o++a.extract i a.size++b.extract j b.size
  let g (o:F1 CM) (i j:Nat):=o++b.extract j b.size++a.extract i a.size
  let mut o:F1 CM:=#[<-elem' b 0]
  let mut i:=0
  let mut j:=1
  if j == b.size then return c o i j
  if i+1 == a.size then return g o i j
  let mut mg:=gallopOf (<-get)
  for _ in [0:d] do
   let mut e:=0
   let mut f:=0
   for _ in [0:d] do
    let some h <-lt' (<-elem' b j) (<-elem' a i) | return c o i j
    if h then
     o:=o.push (<-elem' b j);j:=j+1;f:=f+1;e:=0
     if j == b.size then return c o i j
     if f ≥ mg then break
    else
     o:=o.push (<-elem' a i);i:=i+1;e:=e+1;f:=0
     if i+1 == a.size then return g o i j
     if e ≥ mg then break
   rule "list.sort.gallop"
   mg:=mg+1
   for _ in [0:d] do
    if mg>1 then mg:=mg-1
    Af mg
    let some k <-U0 false (<-elem' b j) a i (a.size-i) 0 | return c o i j
    e:=k
    if k>0 then
     o:=o++a.extract i (i+k);i:=i+k
     if i+1 == a.size then return g o i j
     if i == a.size then return c o i j
    o:=o.push (<-elem' b j);j:=j+1
    if j == b.size then return c o i j
    let some k <-U0 true (<-elem' a i) b j (b.size-j) 0 | return c o i j
    f:=k
    if k>0 then
     o:=o++b.extract j (j+k);j:=j+k
     if j == b.size then return c o i j
    o:=o.push (<-elem' a i);i:=i+1
    if i+1 == a.size then return g o i j
    if e<7&&f<7 then break
   mg:=mg+1
   Af mg
  unsupported "internal:list.sort.merge-bound"):=rfl
def Sm(st a:HV):Prop:=kindOf a=kindOf st/\arrOf a=arrOf st/\pendingOf a=pendingOf st/\failedOf a=failedOf st
theorem Sm.refl(st:HV):Sm st st:=⟨rfl,rfl,rfl,rfl⟩
theorem W0{st st0:HV}{g:Nat}{Q:Unit->HV->Prop}(b:Sm st0 st)(h:∀a,Sm st0 a->Q () a):wpS (model prog w) A E s (Af g) Q st :=
 wpS_modify (h _ ⟨b.1,b.2.1,b.2.2.1,b.2.2.2⟩)
theorem Ch{l:A1 CM}{i k:Nat}{y:CM}(h:y∈(l.drop i).take k):∃t,t<k/\l[i+t]?=some y:=by
 obtain⟨t,a,e⟩:=FO.mp h;rw[AS,CY]at a;refine⟨t,by lia,?_⟩;rw[List.getElem_take,List.getElem_drop]at e;rw[<-e];exact AC (by lia)
theorem Ka{l:A1 CM}{i:Nat}{y:CM}(h:y∈l.drop i):∃t,i+t<l.length/\l[i+t]?=some y:=by
 obtain⟨t,a,e⟩:=FO.mp h;rw[CY]at a;refine⟨t,by lia,?_⟩;rw[List.getElem_drop]at e;rw[<-e];exact AC (by lia)
theorem Nd{l:A1 CM}{i:Nat}{y:CM}(h:y∈l.take i):∃t,t<i/\t<l.length/\l[t]?=some y:=by
 obtain⟨t,a,e⟩:=FO.mp h;rw[AS]at a;refine⟨t,by lia,by lia,?_⟩;rw[List.getElem_take]at e;rw[<-e];exact AC (by lia)
theorem Wx{l:A1 CM}{i k:Nat}{y:CM}(h:y∈(l.take i).drop k):∃t,k<=t/\t<i/\l[t]?=some y:=by
 obtain⟨t,b,a⟩:=Ka h;rw[AS]at b;rw[DG (by lia)]at a;exact⟨k+t,by lia,by lia,a⟩
theorem o7{l:A1 CM}(h:KS κ l){i j:Nat}{p q:CM}(a:i<=j)(b:l[i]?=some p)(c:l[j]?=some q):le κ p q:=by
 obtain⟨d,rfl⟩:=AE.mp b;obtain⟨e,rfl⟩:=AE.mp c;rcases Nat.lt_or_eq_of_le a with z | z
 .exact GT.mp h i j d e z
 .subst z;exact RH _
theorem Dk{l:A1 CM}(h:KS κ l){i:Nat}{p:CM}(a:l[i]?=some p):∀z∈l.drop i,le κ p z:=fun z b=>by
 obtain⟨t,_,e⟩:=Ka b;exact o7 h (DK _ _) a e
theorem IE{a:F1 CM}{i:Nat}{p:CM}:a[i]?=some p↔a.toList[i]?=some p:=by rw[BS]
theorem X2{a:F1 CM}{i:Nat}(h:i<a.size):∃p,a[i]?=some p:=⟨a[i],getElem?_pos a i h⟩
theorem Sq{l:A1 CM}{i:Nat}{p:CM}(h:l[i]?=some p):(l.drop i).take 1 = [p]:=by
 obtain⟨a,rfl⟩:=AE.mp h;rw[FF a];rfl
theorem Dt(a:F1 CM)(i k:Nat):(a.extract i (i+k)).toList =(a.toList.drop i).take k:=by
 rw[EN,EJ,Nat.add_sub_cancel_left]
theorem l4(a:F1 CM)(i:Nat):(a.extract i a.size).toList=a.toList.drop i:=by
 rw[EN,EJ,CZ];rw[CY,BA];exact Nat.le_refl _
theorem j4(a:F1 CM)(i:Nat):(a.extract 0 i).toList=a.toList.take i:=by
 rw[EN,EJ,EM,Nat.sub_zero]
def Rm(κ:KeyKind)(a b r:F1 CM):Prop:=KS κ r.toList/\r.toList.Perm (a.toList++b.toList)
structure M_(κ:KeyKind)(a b:F1 CM):Prop where
 sa:KS κ a.toList
 sb:KS κ b.toList
 ka:∀(i:Nat) p,a[i]?=some p->QZ κ p
 kb:∀(i:Nat) p,b[i]?=some p->QZ κ p
 na:1<=a.size
 nb:1<=b.size
 first:∀q,b[0]?=some q->∀z∈a.toList,le κ q z
 last:∀p,a[a.size-1]?=some p->∀z∈b.toList,le κ z p
section
variable{a b o:F1 CM}{i j k:Nat}{p q:CM}
theorem M_.pushB(P:M_ κ a b)(m:ML κ a.toList b.toList o.toList i j)(c:b[j]?=some q)(h:∀z∈a.toList.drop i,le κ q z):ML κ a.toList b.toList (o.push q).toList i (j+1):=by
 have d:=m.addB P.sb 1 (by rw[Sq (IE.mp c)];intro y e;rw[AF.mp e];exact h);rw[Sq (IE.mp c)]at d;rw[DI];exact d
theorem M_.pushA(P:M_ κ a b)(m:ML κ a.toList b.toList o.toList i j)(c:a[i]?=some p)(h:∀z∈b.toList.drop j,le κ p z):ML κ a.toList b.toList (o.push p).toList (i+1) j:=by
 have d:=m.addA P.sa 1 (by rw[Sq (IE.mp c)];intro y e;rw[AF.mp e];exact h);rw[Sq (IE.mp c)]at d;rw[DI];exact d
theorem M_.extA(P:M_ κ a b)(m:ML κ a.toList b.toList o.toList i j)(h:∀y∈(a.toList.drop i).take k,∀z∈b.toList.drop j,le κ y z):ML κ a.toList b.toList (o++a.extract i (i+k)).toList (i+k) j:=by
 rw[BO,Dt];exact m.addA P.sa k h
theorem M_.extB(P:M_ κ a b)(m:ML κ a.toList b.toList o.toList i j)(h:∀y∈(b.toList.drop j).take k,∀z∈a.toList.drop i,le κ y z):ML κ a.toList b.toList (o++b.extract j (j+k)).toList i (j+k):=by
 rw[BO,Dt];exact m.addB P.sb k h
theorem M_.doneB(P:M_ κ a b)(m:ML κ a.toList b.toList o.toList i j)(d:j=b.size):Rm κ a b (o++a.extract i a.size++b.extract j b.size):=by
 unfold Rm;rw[BO,BO,l4,l4];refine m.endA P.sa P.sb fun y _ z c=>?_;rw[EX (by rw[BA];lia)]at c;exact absurd c (by simp)
theorem M_.doneA(P:M_ κ a b)(m:ML κ a.toList b.toList o.toList i j)(hi:i=a.size):Rm κ a b (o++a.extract i a.size++b.extract j b.size):=by
 unfold Rm;rw[BO,BO,l4,l4];refine m.endA P.sa P.sb fun y c z _=>?_;rw[EX (by rw[BA];lia)]at c;exact absurd c (by simp)
theorem M_.lastA(P:M_ κ a b)(m:ML κ a.toList b.toList o.toList i j)(hi:i+1=a.size):Rm κ a b (o++b.extract j b.size++a.extract i a.size):=by
 unfold Rm;rw[BO,BO,l4,l4];refine m.endB P.sa P.sb fun y d z f=>?_;obtain⟨t,g,c⟩:=Ka f;rw[BA]at g;have e:i+t=a.size-1:=by lia
 rw[e]at c;exact P.last z (IE.mpr c) y (DV d)
end
theorem Sm.knd{st a:HV}(h:Sm st a){k:JP}(b:kindOf st=k):kindOf a=k:=h.1.trans b
theorem m8(C:QM prog w A s κ kd){st:HV}{left:Bool}{d:CM}{b:F1 CM}{bs n e:Nat}{Q:A5 Nat->HV->Prop}(D:kindOf st=kd)(f:QZ κ d)
  (hsz:bs+n<=b.size) (F:∀(i:Nat) p,b[i]?=some p->QZ κ p) (G:∀(u v:Nat) p q,u<=v->v<n->b[bs+u]?=some p->b[bs+v]?=some q->le κ p q) (g:e<n)
  (h:∀k,k<=n->(∀(t:Nat) p,t<k->b[bs+t]?=some p->PB κ left d p=true)->(∀(t:Nat) p,k<=t->t<n->b[bs+t]?=some p->PB κ left d p=false)->Q (some k) st) :
  wpS (model prog w) A E s (U0 left d b bs n e) Q st:=by
 have c:∀t,t<n->∃p,b[bs+t]?=some p:=fun t e=>X2 (by lia);refine Mw C D f (fun t=>match b[bs+t]? with | some p=>PB κ left d p | none=>false) (fun i H=>?_) (fun i j m y a=>?_) g fun k o I J=>?_
 .obtain⟨p,a⟩:=c i H;exact⟨p,a,F _ p a,by rw[a]⟩
 .obtain⟨p,z⟩:=c i (by lia);obtain⟨q,B⟩:=c j y;rw[B]at a;rw[z];have l:=G i j p q m y z B;dsimp only at a⊢;unfold PB at a⊢;cases left with
  | true =>
   simp only[ES]at a⊢;exact KeyOrd.klt_of_kle_of_klt l a
  | false =>
   simp only[AY,CJ,Bool.not_eq_true']at a⊢;exact KeyOrd.kle_trans l a
 .refine h k o (fun t p e a=>?_) fun t p r x a=>?_
  .have:=I t e;rw[a]at this;exact this
  .have:=J t r x;rw[a]at this;exact this
theorem Dl{a p:CM}(h:PB κ false a p=true):le κ p a:=by
 unfold PB at h;show κ.blt (kk κ a) (kk κ p)=false;simpa using h
theorem Av{a p:CM}(h:PB κ false a p=false):κ.klt (kk κ a) (kk κ p):=by
 unfold PB at h;show κ.blt (kk κ a) (kk κ p)=true;simpa using h
theorem Jw{a p:CM}(h:PB κ true a p=true):κ.klt (kk κ p) (kk κ a):=by
 unfold PB at h;show κ.blt (kk κ p) (kk κ a)=true;simpa using h
theorem Dh{a p:CM}(h:PB κ true a p=false):le κ a p:=by
 unfold PB at h;show κ.blt (kk κ p) (kk κ a)=false;simpa using h
section
variable{α:Type}{Q:α->HV->Prop}{st:HV}
theorem S8{c:Prop}{_:Decidable c}{t e:StateT HV Sem α}(h1:c->wpS (model prog w) A E s t Q st)(h2:¬c->wpS (model prog w) A E s e Q st):wpS (model prog w) A E s (if c then t else e) Q st:=by
 split
 .rename_i h;exact h1 h
 .rename_i h;exact h2 h
theorem O6{x y:Nat}{t e:StateT HV Sem α}(h1:x=y->wpS (model prog w) A E s t Q st)(h2:x≠y->wpS (model prog w) A E s e Q st):wpS (model prog w) A E s (if(x == y)=true then t else e) Q st :=
 S8 (fun h=>h1 (eq_of_beq h)) fun h=>h2 fun z=>h (beq_iff_eq.mpr z)
theorem Rs{c:Prop}{_:Decidable c}{t:StateT HV Sem α}{F:Nat->StateT HV Sem α}(x:Nat){y:Nat}(h:∀g,wpS (model prog w) A E s (F g) Q st)(e:t=F x):wpS (model prog w) A E s (if c then t else F y) Q st:=by
 subst e;exact S8 (fun _=>h _) fun _=>h _
theorem Eb{c:Prop}{_:Decidable c}{t:StateT HV Sem α}{F:F1 CM->Nat->StateT HV Sem α}{o:F1 CM}{i:Nat}(R:F1 CM->Nat->Prop)(h:∀o i,R o i->wpS (model prog w) A E s (F o i) Q st)
  (a:(∀o i,R o i->wpS (model prog w) A E s (F o i) Q st)->c->wpS (model prog w) A E s t Q st) (b:¬c->R o i):wpS (model prog w) A E s (if c then t else F o i) Q st:=S8 (a h) fun z=>h _ _ (b z)
end
theorem Rt{α β:Type}{h:Sem Unit}{i:StateT HV Sem CM}{x0:CM}{b e:Prop}{_:Decidable b}{_:Decidable e}{j k:CM->StateT HV Sem α}{d:CM->HV->β}{n:Nat}{f:Nat->β->StateT HV Sem (ForInStep β)}{g:β->StateT HV Sem α}{Q:α->HV->Prop}{st:HV}
  (m:∀R:Unit->HV->Prop,R () st->wpS (model prog w) A E s (liftM h:StateT HV Sem Unit) R st) (o:∀R:CM->HV->Prop,R x0 st->wpS (model prog w) A E s i R st) (h1:b->wpS (model prog w) A E s (j x0) Q st) (h2:¬b->e->wpS (model prog w) A E s (k x0) Q st)
  (p:¬b->¬e->wpS (model prog w) A E s (forIn [0:n] (d x0 st) f) (fun c a=>wpS (model prog w) A E s (g c) Q a) st) :
  wpS (model prog w) A E s ((liftM h:StateT HV Sem Unit) >>= fun _=>i >>= fun x=>if b then j x else if e then k x else get >>= fun a=>forIn [0:n] (d x a) f >>= g) Q st :=
 wpS_bind (m _ (wpS_bind (o _ (S8 h1 fun l=>S8 (h2 l) fun q=>wpS_bind (wpS_get (wpS_bind (p l q)))))))
def MR(κ:KeyKind)(a b:F1 CM)(st:HV){β:Type}(c:A5 (F1 CM)×β)(d:HV):Prop:=Sm st d/\∃r,c.1=some r/\Rm κ a b r
theorem MR.mk{a b r:F1 CM}{st d:HV}{β:Type}{c:β}(e:Sm st d)(h:Rm κ a b r):MR κ a b st (some r,c) d:=⟨e,r,rfl,h⟩
structure PV(κ:KeyKind)(a b:F1 CM)(n:Nat)(o:F1 CM)(i j:Nat):Prop where
 m:ML κ a.toList b.toList o.toList i j
 hi:i+1<a.size
 hj:j<b.size
 hn:n<=i+j
theorem PV.putB{a b o c:F1 CM}{n i j:Nat}(h:PV κ a b n o i j)(m:ML κ a.toList b.toList c.toList i (j+1))(e:j+1≠b.size):PV κ a b (n+1) c i (j+1):=⟨m,h.hi,FB h.hj e,Nat.succ_le_succ h.hn⟩
theorem PV.putA{a b o c:F1 CM}{n i j:Nat}(h:PV κ a b n o i j)(m:ML κ a.toList b.toList c.toList (i+1) j)(e:i+1+1≠a.size):PV κ a b (n+1) c (i+1) j:=⟨m,FB h.hi e,h.hj,by rw[Nat.add_right_comm];exact Nat.succ_le_succ h.hn⟩
theorem PV.mono{a b o:F1 CM}{n c i j:Nat}(h:PV κ a b n o i j)(l:c<=n):PV κ a b c o i j:=⟨h.m,h.hi,h.hj,Nat.le_trans l h.hn⟩
def zGg(κ:KeyKind)(a b:F1 CM)(st:HV)(n:Nat)(c:A5 (F1 CM)×F1 CM×Nat×Nat×Nat)(d:HV):Prop:=Sm st d/\∃o i j e,c =(none,o,i,j,e)/\PV κ a b n o i j
def PF(κ:KeyKind)(a b:F1 CM)(st:HV)(n:Nat)(c:A5 (F1 CM)×F1 CM×Nat×Nat×Nat×Nat)(d:HV):Prop:=Sm st d/\∃o i j e f,c =(none,o,i,j,e,f)/\PV κ a b n o i j
def PX(κ:KeyKind)(a b:F1 CM)(st:HV)(n:Nat)(c:A5 (F1 CM)×F1 CM×Nat×Nat×Nat×Nat×Nat)(d:HV):Prop:=Sm st d/\∃o i j e f g,c =(none,o,i,j,e,f,g)/\PV κ a b n o i j
theorem PF.mk{a b o:F1 CM}{st c:HV}{n i j d e:Nat}(f:Sm st c)(h:PV κ a b n o i j):PF κ a b st n (none,o,i,j,d,e) c:=⟨f,_,_,_,_,_,rfl,h⟩
theorem PX.mk{a b o:F1 CM}{st c:HV}{n i j mg d e:Nat}(f:Sm st c)(h:PV κ a b n o i j):PX κ a b st n (none,o,i,j,mg,d,e) c:=⟨f,_,_,_,_,_,_,rfl,h⟩
theorem Ic(C:QM prog w A s κ kd){st:HV}{a b:F1 CM}{Q:F1 CM->HV->Prop}(hk:kindOf st=kd)(P:M_ κ a b)
  (h:∀r d,Sm st d->Rm κ a b r->Q r d):wpS (model prog w) A E s (Dj a b) Q st:=by
 rw[Jk];obtain⟨b0,O⟩:=X2 (a:=b) (i:=0) P.nb;have m0:ML κ a.toList b.toList (#[]:F1 CM).toList 0 0:=⟨by simp,List.Pairwise.nil,fun x hx=>absurd hx (by simp),fun x hx=>absurd hx (by simp)⟩;have m1:ML κ a.toList b.toList (#[b0]:F1 CM).toList 0 1:=by
  have:=P.pushB m0 O (by rw[EM];exact P.first b0 O);simpa using this
 apply Rt (x0:=b0) (fun R z=>wpS_lift (EU ⟨rfl,z⟩)) (fun R z=>D9 O z)
 case h1=>exact fun S=>wpS_pure (h _ _ (Sm.refl _) (P.doneB m1 (eq_of_beq S)))
 case h2=>exact fun _ T=>wpS_pure (h _ _ (Sm.refl _) (P.lastA m1 (eq_of_beq T)))
 intro S T;have p1:PV κ a b 1 #[b0] 0 1:=⟨m1,FB P.na fun z=>T (beq_iff_eq.mpr z),FB P.nb fun z=>S (beq_iff_eq.mpr z),Nat.le_refl _⟩;refine wpS_mono (wpS_forRange (I:=fun x=>zGg κ a b st (x+1)) (Q:=MR κ a b st) ?st ?en ⟨Sm.refl _,_,_,_,_,rfl,p1⟩) ?po
 case po =>
  rintro⟨c1,c2⟩ d ⟨sm,r,e,Z⟩;cases e;exact wpS_pure (h r d sm Z)
 case en =>
  rintro c d ⟨sm,o,i,j,mg,rfl,p⟩;obtain⟨_,h1,h2,h3⟩:=p;exfalso;lia
 case st =>
  rintro x c d _ hx ⟨sm,o,i,j,mg,rfl,p⟩;refine wpS_bind (wpS_mono (wpS_forRange (I:=fun _=>PF κ a b st (x+1)) (Q:=fun c d=>MR κ a b st c d\/PF κ a b st (x+1) c d) ?st1 ?en1 (PF.mk sm p)) ?po1)
  case en1=>exact fun c st2 z=>.inr z
  case st1 =>
   rintro x2 c st2 _ _ ⟨f,o,i',j',ac,bc,rfl,N⟩;obtain⟨bj,l⟩:=X2 (a:=b) (i:=j') N.hj;obtain⟨ai,n⟩:=X2 (a:=a) (i:=i') (GI N.hi);refine wpS_bind (D9 l (wpS_bind (D9 n (wpS_bind (Gq C (f.knd hk) (P.kb _ _ l) (P.ka _ _ n) ?_)))));refine S8 (fun U=>wpS_bind (D9 l ?_)) fun U=>wpS_bind (D9 n ?_)
   .have m3:=P.pushB N.m l fun z H=>IY (KeyOrd.kle_of_klt U) (Dk P.sa (IE.mp n) z H);refine O6 (fun G=>wpS_pure (.inl (MR.mk f (P.doneB m3 G)))) fun G=>?_;have D:=(N.putB m3 G).mono (EO _);exact S8 (fun _=>wpS_pure (.inr (PF.mk f D))) fun _=>wpS_pure (PF.mk f D)
   .have m3:=P.pushA N.m n fun z H=>IY (show le κ ai bj from CA.mpr U) (Dk P.sb (IE.mp l) z H);refine O6 (fun G=>wpS_pure (.inl (MR.mk f (P.lastA m3 G)))) fun G=>?_;have D:=(N.putA m3 G).mono (EO _);exact S8 (fun _=>wpS_pure (.inr (PF.mk f D))) fun _=>wpS_pure (PF.mk f D)
  case po1 =>
   rintro⟨c1,c2⟩ st2 (⟨f,r,e,Z⟩ | ⟨f,o2,i2,j2,ac,bc,e,N⟩)
   .cases e;exact wpS_pure (MR.mk f Z)
   .cases e;refine wpS_bind (wpS_lift (EU ⟨rfl,?_⟩));refine wpS_bind (wpS_mono (wpS_forRange (I:=fun x3=>PX κ a b st (x+1+x3)) (Q:=fun c d=>MR κ a b st c d\/PX κ a b st (x+1+1) c d) ?st2 ?en2 (PX.mk f N)) ?po2)
    case en2 =>
     rintro c st3 ⟨F,o',i',j',mg',ac,bc,rfl,D⟩;refine .inr (PX.mk F (D.mono ?_));have:=P.na;lia
    case po2 =>
     rintro⟨c1,c2⟩ st3 (⟨F,r,e,Z⟩ | ⟨F,o',i',j',mg',ac,bc,e,D⟩)
     .cases e;exact wpS_pure (MR.mk F Z)
     .cases e;refine wpS_bind (W0 F fun st4 B=>?_);exact wpS_pure ⟨B,_,_,_,_,rfl,D⟩
    case st2 =>
     rintro x3 c st3 _ _ ⟨F,o3,V,j3,mg3,ac3,bc3,rfl,D⟩;obtain⟨bj,l⟩:=X2 (a:=b) (i:=j3) D.hj;have hi3:V +(a.size-V)<=a.size:=by rw[Nat.add_sub_cancel' (DR (GI D.hi))];exact Nat.le_refl _
     have hj3:=D.hj;apply Rs (mg3-1) (y:=mg3)
     case e=>exact rfl
     intro g;refine wpS_bind (W0 F fun st4 B=>?_);refine wpS_bind (D9 l (wpS_bind (m8 C (B.knd hk) (P.kb _ _ l) hi3 P.ka (fun u v p q W _ G Y=>o7 P.sa (FU W _) (IE.mp G) (IE.mp Y)) (Nat.sub_pos_of_lt (GI D.hi)) fun k hk1 k1 k2=>?_)));have m4:ML κ a.toList b.toList (o3++a.extract V (V+k)).toList (V+k) j3:=P.extA D.m fun y hy z H=>by
      obtain⟨t,X,e⟩:=Ch hy;exact IY (Dl (k1 t y X (IE.mpr e))) (Dk P.sb (IE.mp l) z H)
     have K:∀z∈a.toList.drop (V+k),le κ bj z:=fun z H=>by
      obtain⟨t,X,e⟩:=Ka H;rw[BA]at X;exact KeyOrd.kle_of_klt (Av (k2 (k+t) z (DK _ _) (by lia) (by rw[<-Nat.add_assoc];exact IE.mpr e)))
     apply Eb (o:=o3) (i:=V) (fun o i=>PV κ a b (x+1+x3) o i j3/\∀z∈a.toList.drop i,le κ bj z)
     .rintro o4 i4 ⟨p4,K⟩;refine wpS_bind (D9 l ?_);have m5:=P.pushB p4.m l K;refine O6 (fun e3=>wpS_pure (.inl (MR.mk B (P.doneB m5 e3)))) fun e3=>?_;have L:=p4.putB m5 e3;generalize o4.push bj=o5 at m5 L⊢;generalize j3+1=j5 at m5 L⊢;obtain⟨ai,n⟩:=X2 (a:=a) (i:=i4) (GI L.hi);refine wpS_bind (D9 n (wpS_bind (m8 C (B.knd hk) (P.ka _ _ n) (by rw[Nat.add_sub_cancel' (DR L.hj)];exact Nat.le_refl _) P.kb (fun u v p q W _ G Y=>o7 P.sb (FU W _) (IE.mp G) (IE.mp Y)) (Nat.sub_pos_of_lt L.hj) fun k' hk1' k1' k2'=>?_)));have M:∀z∈b.toList.drop (j5+k'),le κ ai z:=fun z H=>by
       obtain⟨t,X,e⟩:=Ka H;rw[BA]at X;exact Dh (k2' (k'+t) z (DK _ _) (by lia) (by rw[<-Nat.add_assoc];exact IE.mpr e))
      apply Eb (o:=o5) (i:=j5) (fun o j=>PV κ a b (x+1+x3+1) o i4 j/\∀z∈b.toList.drop j,le κ ai z)
      .rintro o6 j6 ⟨p6,M⟩;refine wpS_bind (D9 n ?_);have m7:=P.pushA p6.m n M;refine O6 (fun e5=>wpS_pure (.inl (MR.mk B (P.lastA m7 e5)))) fun e5=>?_;have p7:=p6.putA m7 e5;exact S8 (fun _=>wpS_pure (.inr (PX.mk B (p7.mono (by lia))))) fun _=>wpS_pure (PX.mk B (p7.mono (by lia)))
      .intro hF J;have m6:ML κ a.toList b.toList (o5++b.extract j5 (j5+k')).toList i4 (j5+k'):=P.extB m5 fun y hy z H=>by
        obtain⟨t,X,e⟩:=Ch hy;exact IY (KeyOrd.kle_of_klt (Jw (k1' t y X (IE.mpr e)))) (Dk P.sa (IE.mp n) z H)
       have hj5:=L.hj;exact O6 (fun e4=>wpS_pure (.inl (MR.mk B (P.doneB m6 e4)))) fun e4=>hF _ _ ⟨⟨m6,L.hi,by lia,Nat.le_trans L.hn (by lia)⟩,M⟩
      .intro J;have z0:k'=0:=FZ J;subst z0;exact⟨L,M⟩
     .intro hF J;have hi:=D.hi;exact O6 (fun G=>wpS_pure (.inl (MR.mk B (P.lastA m4 G)))) fun G=>O6 (fun Y=>wpS_pure (.inl (MR.mk B (P.doneA m4 Y)))) fun Y=>hF _ _ ⟨⟨m4,by lia,D.hj,Nat.le_trans D.hn (by lia)⟩,K⟩
     .intro J;have z0:k=0:=FZ J;subst z0;exact⟨D,K⟩
end
section
variable{prog:A7}{w:HW}{A:IC}{E:A2->A4->Prop}{s:A4}{κ:KeyKind}{kd:JP}
def Ep:F1 CM->F1 CM->StateT HV Sem (F1 CM):=sortPriv% PySem.Builtin.mergeHi
theorem Jo(a b:F1 CM):Ep a b =(do
  rule "list.sort.merge-hi"
  let e:=a.size+b.size
  let d (o:F1 CM) (i j:Nat):=a.extract 0 i++b.extract 0 j++o.reverse
  let h (o:F1 CM) (i j:Nat):=b.extract 0 j++a.extract 0 i++o.reverse
  let mut i:=a.size-1
  let mut j:=b.size
  let mut o:F1 CM:=#[<-elem' a i]
  if i == 0 then return d o i j
  if j == 1 then return h o i j
  let mut mg:=gallopOf (<-get)
  for _ in [0:e] do
   let mut f:=0
   let mut g:=0
   for _ in [0:e] do
    let some l <-lt' (<-elem' b (j-1)) (<-elem' a (i-1)) | return d o i j
    if l then
     i:=i-1;o:=o.push (<-elem' a i);f:=f+1;g:=0
     if i == 0 then return d o i j
     if f ≥ mg then break
    else
     j:=j-1;o:=o.push (<-elem' b j);g:=g+1;f:=0
     if j == 1 then return h o i j
     if g ≥ mg then break
   rule "list.sort.gallop"
   mg:=mg+1
   for _ in [0:e] do
    if mg>1 then mg:=mg-1
    Af mg
    let some c <-U0 false (<-elem' b (j-1)) a 0 i (i-1) | return d o i j
    let k:=i-c
    f:=k
    if k>0 then
     o:=o ++(a.extract c i).reverse;i:=c
     if i == 0 then return d o i j
    j:=j-1;o:=o.push (<-elem' b j)
    if j == 1 then return h o i j
    let some c <-U0 true (<-elem' a (i-1)) b 0 j (j-1) | return d o i j
    let k:=j-c
    g:=k
    if k>0 then
     o:=o ++(b.extract c j).reverse;j:=c
     if j == 1 then return h o i j
     if j == 0 then return d o i j
    i:=i-1;o:=o.push (<-elem' a i)
    if i == 0 then return d o i j
    if f<7&&g<7 then break
   mg:=mg+1
   Af mg
  unsupported "internal:list.sort.merge-bound"):=rfl
abbrev OU(κ:KeyKind)(a b o:F1 CM)(i j:Nat):Prop:=MH κ a.toList b.toList o.toList.reverse i j
section
variable{a b o:F1 CM}{i j k:Nat}{p q:CM}
theorem td1{l:A1 CM}{i:Nat}{p:CM}(hi:1<=i)(h:l[i-1]?=some p):(l.take i).drop (i-1) = [p]:=by
 rw[GL,show i-(i-1)=1 by lia];exact Sq h
theorem Jf(a:F1 CM)(k i:Nat):(a.extract k i).toList =(a.toList.take i).drop k:=by
 rw[EN,EJ,GL]
theorem Du{l:A1 CM}(h:KS κ l){i:Nat}{p:CM}(a:l[i-1]?=some p):∀z∈l.take i,le κ z p:=fun z b=>by
 obtain⟨t,c,_,e⟩:=Nd b;exact o7 h (by lia) e a
theorem M_.hpA(P:M_ κ a b)(m:OU κ a b o i j)(hi:1<=i)(c:a[i-1]?=some p)(h:∀z∈b.toList.take j,le κ z p):OU κ a b (o.push p) (i-1) j:=by
 have d:=m.addA P.sa (i-1) (by lia) (by rw[td1 hi (IE.mp c)];intro y e;rw[AF.mp e];exact h);rw[td1 hi (IE.mp c)]at d;unfold OU;rw[DI,GV];exact d
theorem M_.hpB(P:M_ κ a b)(m:OU κ a b o i j)(c:1<=j)(d:b[j-1]?=some q)(h:∀z∈a.toList.take i,le κ z q):OU κ a b (o.push q) i (j-1):=by
 have e:=m.addB P.sb (j-1) (by lia) (by rw[td1 c (IE.mp d)];intro y f;rw[AF.mp f];exact h);rw[td1 c (IE.mp d)]at e;unfold OU;rw[DI,GV];exact e
theorem M_.heA(P:M_ κ a b)(m:OU κ a b o i j)(c:k<=i)(h:∀y∈(a.toList.take i).drop k,∀z∈b.toList.take j,le κ z y):OU κ a b (o ++(a.extract k i).reverse) k j:=by
 unfold OU;rw[BO,FP,GV,List.reverse_reverse,Jf];exact m.addA P.sa k c h
theorem M_.heB(P:M_ κ a b)(m:OU κ a b o i j)(c:k<=j)(h:∀y∈(b.toList.take j).drop k,∀z∈a.toList.take i,le κ z y):OU κ a b (o ++(b.extract k j).reverse) i k:=by
 unfold OU;rw[BO,FP,GV,List.reverse_reverse,Jf];exact m.addB P.sb k c h
theorem M_.hdA(P:M_ κ a b)(m:OU κ a b o i j)(hi:i=0):Rm κ a b (a.extract 0 i++b.extract 0 j++o.reverse):=by
 unfold Rm;rw[BO,BO,FP,j4,j4];refine m.endA P.sa P.sb fun y c z _=>?_;rw[hi,List.take_zero]at c;exact absurd c (by simp)
theorem M_.hdB(P:M_ κ a b)(m:OU κ a b o i j)(d:j=0):Rm κ a b (a.extract 0 i++b.extract 0 j++o.reverse):=by
 unfold Rm;rw[BO,BO,FP,j4,j4];refine m.endA P.sa P.sb fun y _ z c=>?_;rw[d,List.take_zero]at c;exact absurd c (by simp)
theorem M_.hfB(P:M_ κ a b)(m:OU κ a b o i j)(g:j=1):Rm κ a b (b.extract 0 j++a.extract 0 i++o.reverse):=by
 unfold Rm;rw[BO,BO,FP,j4,j4];refine m.endB P.sa P.sb fun y c z d=>?_;obtain⟨t,h,_,e⟩:=Nd c;have f:t=0:=by lia
 rw[f]at e;exact P.first y (IE.mpr e) z (CD d)
end
structure OS(κ:KeyKind)(a b:F1 CM)(n:Nat)(o:F1 CM)(i j:Nat):Prop where
 m:OU κ a b o i j
 hi:1<=i
 hj:2<=j
 ia:i<=a.size
 jb:j<=b.size
 hn:n+i+j<=a.size+b.size
theorem OS.putA{a b o c:F1 CM}{n i j:Nat}(h:OS κ a b n o i j)(m:OU κ a b c (i-1) j)(e:i-1≠0):OS κ a b (n+1) c (i-1) j:=by
 obtain⟨_,g,d,k,f,l⟩:=h;exact⟨m,by lia,d,by lia,f,by lia⟩
theorem OS.putB{a b o c:F1 CM}{n i j:Nat}(h:OS κ a b n o i j)(m:OU κ a b c i (j-1))(e:j-1≠1):OS κ a b (n+1) c i (j-1):=by
 obtain⟨_,d,g,f,k,l⟩:=h;exact⟨m,d,by lia,f,by lia,by lia⟩
theorem OS.mono{a b o:F1 CM}{n c i j:Nat}(h:OS κ a b n o i j)(l:c<=n):OS κ a b c o i j:=⟨h.m,h.hi,h.hj,h.ia,h.jb,Nat.le_trans (Nat.add_le_add_right (Nat.add_le_add_right l _) _) h.hn⟩
theorem OS.la{a b o:F1 CM}{n i j:Nat}(h:OS κ a b n o i j):i-1<a.size:=BG (Nat.sub_lt h.hi (G_)) h.ia
theorem OS.lb{a b o:F1 CM}{n i j:Nat}(h:OS κ a b n o i j):j-1<b.size:=BG (Nat.sub_lt (GI h.hj) (G_)) h.jb
theorem OS.hj1{a b o:F1 CM}{n i j:Nat}(h:OS κ a b n o i j):1<=j:=Nat.le_of_succ_le h.hj
def zFx(κ:KeyKind)(a b:F1 CM)(st:HV)(n:Nat)(c:A5 (F1 CM)×Nat×Nat×F1 CM×Nat)(d:HV):Prop:=Sm st d/\∃i j o e,c =(none,i,j,o,e)/\OS κ a b n o i j
def PH(κ:KeyKind)(a b:F1 CM)(st:HV)(n:Nat)(c:A5 (F1 CM)×Nat×Nat×F1 CM×Nat×Nat)(d:HV):Prop:=Sm st d/\∃i j o e f,c =(none,i,j,o,e,f)/\OS κ a b n o i j
def PY(κ:KeyKind)(a b:F1 CM)(st:HV)(n:Nat)(c:A5 (F1 CM)×Nat×Nat×F1 CM×Nat×Nat×Nat)(d:HV):Prop:=Sm st d/\∃i j o e f g,c =(none,i,j,o,e,f,g)/\OS κ a b n o i j
theorem PH.mk{a b o:F1 CM}{st c:HV}{n i j d e:Nat}(f:Sm st c)(h:OS κ a b n o i j):PH κ a b st n (none,i,j,o,d,e) c:=⟨f,_,_,_,_,_,rfl,h⟩
theorem PY.mk{a b o:F1 CM}{st c:HV}{n i j mg d e:Nat}(f:Sm st c)(h:OS κ a b n o i j):PY κ a b st n (none,i,j,o,mg,d,e) c:=⟨f,_,_,_,_,_,_,rfl,h⟩
theorem Ie(C:QM prog w A s κ kd){st:HV}{a b:F1 CM}{Q:F1 CM->HV->Prop}(hk:kindOf st=kd)(P:M_ κ a b)
  (h:∀r f,Sm st f->Rm κ a b r->Q r f):wpS (model prog w) A E s (Ep a b) Q st:=by
 rw[Jo];have hna:=P.na;have hnb:=P.nb;obtain⟨b0,U⟩:=X2 (a:=a) (i:=a.size-1) (Nat.sub_lt hna G_);have m0:OU κ a b (#[]:F1 CM) a.size b.size:=⟨by simp,List.Pairwise.nil,fun x hx=>absurd hx (by simp),fun x hx=>absurd hx (by simp)⟩;have m1:OU κ a b (#[b0]:F1 CM) (a.size-1) b.size:=by
  have:=P.hpA m0 hna U (fun z J=>P.last b0 U z (CD J));simpa using this
 apply Rt (x0:=b0) (fun R z=>wpS_lift (EU ⟨rfl,z⟩)) (fun R z=>D9 U z)
 case h1=>exact fun N=>wpS_pure (h _ _ (Sm.refl _) (P.hdA m1 (eq_of_beq N)))
 case h2=>exact fun _ O=>wpS_pure (h _ _ (Sm.refl _) (P.hfB m1 (eq_of_beq O)))
 intro N O;have N:¬a.size-1=0:=fun z=>N (beq_iff_eq.mpr z);have O:¬b.size=1:=fun z=>O (beq_iff_eq.mpr z);have p1:OS κ a b 1 #[b0] (a.size-1) b.size:=⟨m1,by lia,by lia,by lia,by lia,by lia⟩;refine wpS_mono (wpS_forRange (I:=fun x=>zFx κ a b st (x+1)) (Q:=MR κ a b st) ?st ?en ⟨Sm.refl _,_,_,_,_,rfl,p1⟩) ?po
 case po =>
  rintro⟨c1,c2⟩ f ⟨sm,r,e,hr⟩;cases e;exact wpS_pure (h r f sm hr)
 case en =>
  rintro c f ⟨sm,i,j,o,mg,rfl,p⟩;obtain⟨_,h1,h2,_,_,h3⟩:=p;exfalso;lia
 case st =>
  rintro x c f _ hx ⟨sm,i,j,o,mg,rfl,p⟩;refine wpS_bind (wpS_mono (wpS_forRange (I:=fun _=>PH κ a b st (x+1)) (Q:=fun c f=>MR κ a b st c f\/PH κ a b st (x+1) c f) ?st1 ?en1 (PH.mk sm p)) ?po1)
  case en1=>exact fun c st2 z=>.inr z
  case st1 =>
   rintro x2 c st2 _ _ ⟨l,i',j',o,ac,bc,rfl,M⟩;obtain⟨bj,n⟩:=X2 (a:=b) (i:=j' - 1) M.lb;obtain⟨ai,B⟩:=X2 (a:=a) (i:=i' - 1) M.la;refine wpS_bind (D9 n (wpS_bind (D9 B (wpS_bind (Gq C (l.knd hk) (P.kb _ _ n) (P.ka _ _ B) ?_)))));refine S8 (fun V=>wpS_bind (D9 B ?_)) fun V=>wpS_bind (D9 n ?_)
   .have m3:=P.hpA M.m M.hi B fun z J=>IY (Du P.sb (IE.mp n) z J) (KeyOrd.kle_of_klt V);refine O6 (fun H=>wpS_pure (.inl (MR.mk l (P.hdA m3 H)))) fun H=>?_;have F:=(M.putA m3 H).mono (EO _);exact S8 (fun _=>wpS_pure (.inr (PH.mk l F))) fun _=>wpS_pure (PH.mk l F)
   .have m3:=P.hpB M.m M.hj1 n fun z J=>IY (Du P.sa (IE.mp B) z J) (show le κ ai bj from CA.mpr V);refine O6 (fun H=>wpS_pure (.inl (MR.mk l (P.hfB m3 H)))) fun H=>?_;have F:=(M.putB m3 H).mono (EO _);exact S8 (fun _=>wpS_pure (.inr (PH.mk l F))) fun _=>wpS_pure (PH.mk l F)
  case po1 =>
   rintro⟨c1,c2⟩ st2 (⟨l,r,e,hr⟩ | ⟨l,i2,j2,o2,ac,bc,e,M⟩)
   .cases e;exact wpS_pure (MR.mk l hr)
   .cases e;refine wpS_bind (wpS_lift (EU ⟨rfl,?_⟩));refine wpS_bind (wpS_mono (wpS_forRange (I:=fun x3=>PY κ a b st (x+1+x3)) (Q:=fun c f=>MR κ a b st c f\/PY κ a b st (x+1+1) c f) ?st2 ?en2 (PY.mk l M)) ?po2)
    case en2 =>
     rintro c st3 ⟨G,i',j',o',mg',ac,bc,rfl,F⟩;exact .inr (PY.mk G (F.mono (by lia)))
    case po2 =>
     rintro⟨c1,c2⟩ st3 (⟨G,r,e,hr⟩ | ⟨G,i',j',o',mg',ac,bc,e,F⟩)
     .cases e;exact wpS_pure (MR.mk G hr)
     .cases e;refine wpS_bind (W0 G fun st4 D=>?_);exact wpS_pure ⟨D,_,_,_,_,rfl,F⟩
    case st2 =>
     rintro x3 c st3 _ _ ⟨G,i3,j3,o3,mg3,ac3,bc3,rfl,F⟩;obtain⟨bj,n⟩:=X2 (a:=b) (i:=j3-1) F.lb;apply Rs (mg3-1) (y:=mg3)
     case e=>exact rfl
     intro g;refine wpS_bind (W0 G fun st4 D=>?_);refine wpS_bind (D9 n (wpS_bind (m8 C (D.knd hk) (P.kb _ _ n) (by rw[EY];exact F.ia) P.ka (fun u v p q W _ H e2=>o7 P.sa (FU W _) (IE.mp H) (IE.mp e2)) (Nat.sub_lt F.hi G_) fun k X k1 k2=>?_)));dsimp only;have m4:OU κ a b (o3 ++(a.extract k i3).reverse) k j3:=P.heA F.m X fun y hy z J=>by
      obtain⟨t,Y,Z,e⟩:=Wx hy;exact IY (Du P.sb (IE.mp n) z J) (KeyOrd.kle_of_klt (Av (k2 t y Y Z (by rw[EY];exact IE.mpr e))))
     have S:∀z∈a.toList.take k,le κ z bj:=fun z J=>by
      obtain⟨t,ht,_,e⟩:=Nd J;exact Dl (k1 t z ht (by rw[EY];exact IE.mpr e))
     generalize hd:i3-k=d;apply Eb (o:=o3) (i:=i3) (fun o i=>OS κ a b (x+1+x3) o i j3/\∀z∈a.toList.take i,le κ z bj)
     .rintro o4 i4 ⟨p4,S⟩;refine wpS_bind (D9 n ?_);have m5:=P.hpB p4.m p4.hj1 n S;refine O6 (fun e3=>wpS_pure (.inl (MR.mk D (P.hfB m5 e3)))) fun e3=>?_;have p5:=p4.putB m5 e3;generalize o4.push bj=o5 at m5 p5⊢;generalize j3-1=j5 at m5 p5⊢;obtain⟨ai,B⟩:=X2 (a:=a) (i:=i4-1) p5.la;refine wpS_bind (D9 B (wpS_bind (m8 C (D.knd hk) (P.ka _ _ B) (by rw[EY];exact p5.jb) P.kb (fun u v p q W _ H e2=>o7 P.sb (FU W _) (IE.mp H) (IE.mp e2)) (Nat.sub_lt p5.hj1 G_) fun k' K k1' k2'=>?_)));dsimp only;have T:∀z∈b.toList.take k',le κ z ai:=fun z J=>by
       obtain⟨t,ht,_,e⟩:=Nd J;exact KeyOrd.kle_of_klt (Jw (k1' t z ht (by rw[EY];exact IE.mpr e)))
      generalize hd':j5-k'=d';apply Eb (o:=o5) (i:=j5) (fun o j=>OS κ a b (x+1+x3+1) o i4 j/\∀z∈b.toList.take j,le κ z ai)
      .rintro o6 j6 ⟨p6,T⟩;refine wpS_bind (D9 B ?_);have m7:=P.hpA p6.m p6.hi B T;refine O6 (fun e5=>wpS_pure (.inl (MR.mk D (P.hdA m7 e5)))) fun e5=>?_;have p7:=p6.putA m7 e5;exact S8 (fun _=>wpS_pure (.inr (PY.mk D (p7.mono (by lia))))) fun _=>wpS_pure (PY.mk D (p7.mono (by lia)))
      .intro hF L;have m6:OU κ a b (o5 ++(b.extract k' j5).reverse) i4 k':=P.heB m5 K fun y hy z J=>by
        obtain⟨t,Y,Z,e⟩:=Wx hy;exact IY (Du P.sa (IE.mp B) z J) (Dh (k2' t y Y Z (by rw[EY];exact IE.mpr e)))
       obtain⟨_,h1,h2,h3,h4,h5⟩:=p5;exact O6 (fun e4=>wpS_pure (.inl (MR.mk D (P.hfB m6 e4)))) fun e4=>O6 (fun e5=>wpS_pure (.inl (MR.mk D (P.hdB m6 e5)))) fun e5=>hF _ _ ⟨⟨m6,h1,by lia,h3,Nat.le_trans K h4,by lia⟩,T⟩
      .intro L;have z0:k'=j5:=Nat.le_antisymm K (Nat.le_of_sub_eq_zero (hd'.trans (FZ L)));subst z0;exact⟨p5,T⟩
     .intro hF L;obtain⟨_,h1,h2,h3,h4,h5⟩:=F;exact O6 (fun H=>wpS_pure (.inl (MR.mk D (P.hdA m4 H)))) fun H=>hF _ _ ⟨⟨m4,by lia,h2,Nat.le_trans X h3,h4,by lia⟩,S⟩
     .intro L;have z0:k=i3:=Nat.le_antisymm X (Nat.le_of_sub_eq_zero (hd.trans (FZ L)));subst z0;exact⟨F,S⟩
end
section
variable{prog:A7}{w:HW}{A:IC}{E:A2->A4->Prop}{s:A4}{κ:KeyKind}{kd:JP}
def JK(l:A1 CM)(lo n:Nat):A1 CM:=(l.drop lo).take n
theorem Pz(m:A1 CM)(lo:Nat):∀(n:Nat) (a:F1 CM),lo+n+m.length<=a.size ->
  ((m.zipIdx n).foldl (fun a (x:CM×Nat)=>a.setIfInBounds (lo+x.2) x.1) a).size=a.size /\
  ∀t:Nat,((m.zipIdx n).foldl (fun a (x:CM×Nat)=>a.setIfInBounds (lo+x.2) x.1) a)[t]?=if lo+n<=t/\t<lo+n+m.length then m[t-(lo+n)]? else a[t]?:=by
 induction m with
 | nil =>
  intro n a h;refine⟨rfl,fun t=>?_⟩;rw[AJ (by simp only[GD];omega)];rfl
 | cons p m d =>
  intro n a h;rw[BJ]at h;rw[List.zipIdx_cons,List.foldl_cons];obtain⟨e,f⟩:=d (n+1) (a.setIfInBounds (lo+n) p) (by rw[GW];omega);refine⟨e.trans GW,fun t=>?_⟩;rw[f t,BJ];by_cases b:lo+n=t
  .subst b;rw[AJ (by omega),AL (by omega),Array.getElem?_setIfInBounds_self_of_lt (by omega),Nat.sub_self];rfl
  .by_cases c:lo +(n+1)<=t/\t<lo +(n+1)+m.length
   .rw[AL c,AL (by omega),show t-(lo+n) =(t-(lo +(n+1)))+1 by omega,List.getElem?_cons_succ]
   .rw[AJ c,AJ (by omega),Array.getElem?_setIfInBounds_ne b]
theorem By(m:A1 CM)(lo:Nat)(a:F1 CM)(h:lo+m.length<=a.size) :
  (m.zipIdx.foldl (fun a (x:CM×Nat)=>a.setIfInBounds (lo+x.2) x.1) a).toList=a.toList.take lo++m++a.toList.drop (lo+m.length):=by
 obtain⟨e,c⟩:=Pz m lo 0 a (by omega);refine GJ fun t=>?_;rw[BS,c t];have b:(a.toList.take lo).length=lo:=by rw[AS,BA];omega
 by_cases d:t<lo
 .rw[AJ (by omega),BI,DF (by omega),DG d,BS]
 .by_cases f:t<lo+m.length
  .rw[AL (by omega),DF (by rw[AU];omega),DB (by omega),b];rfl
  .rw[AJ (by omega),DB (by rw[AU];omega),AU,b,F_,BS];congr 1;omega
theorem Sj(l:A1 CM)(lo n:Nat):l=l.take lo++JK l lo n++l.drop (lo+n):=by
 unfold JK;rw[BI,<-FA,BR,BR]
theorem Hx(l:A1 CM)(lo n m:Nat):JK l lo (n+m)=JK l lo n++JK l (lo+n) m:=by
 unfold JK;rw[List.take_add,FA]
structure LF(κ:KeyKind)(l l':A1 CM)(lo n:Nat):Prop where
 perm:l'.Perm l
 front:l'.take lo=l.take lo
 back:l'.drop (lo+n)=l.drop (lo+n)
theorem LF.refl(l:A1 CM)(lo n:Nat):LF κ l l lo n:=⟨List.Perm.refl _,rfl,rfl⟩
theorem LF.seg_front{l a:A1 CM}{lo n:Nat}(h:LF κ l a lo n){u m:Nat}(b:u+m<=lo):JK a u m=JK l u m:=by
 have:∀x:A1 CM,JK x u m =((x.take lo).drop u).take m:=fun x=>by
  unfold JK;rw[GL,HH,FH (by omega)]
 rw[this,this,h.front]
theorem LF.seg_back{l a:A1 CM}{lo n:Nat}(h:LF κ l a lo n){u m:Nat}(b:lo+n<=u):JK a u m=JK l u m:=by
 have:∀x:A1 CM,JK x u m =((x.drop (lo+n)).drop (u-(lo+n))).take m:=fun x=>by
  unfold JK;rw[FA,show lo+n +(u-(lo+n))=u by omega]
 rw[this,this,h.back]
theorem LF.of{l z:A1 CM}{lo n:Nat}(hz:z.Perm (JK l lo n))(c:lo+n<=l.length):LF κ l (l.take lo++z++l.drop (lo+n)) lo n/\JK (l.take lo++z++l.drop (lo+n)) lo n=z:=by
 have a:(l.take lo).length=lo:=by rw[AS];omega
 have b:z.length=n:=by
  rw[hz.length_eq];unfold JK;rw[AS,CY];omega
 refine⟨⟨?_,?_,?_⟩,?_⟩
 .conv=>rhs;rw[Sj l lo n]
  exact DJ _ (DH _ hz)
 .rw[BI,List.take_append_of_le_length (by omega),CZ (by omega)]
 .rw[List.drop_append,EX (by rw[AU];omega),List.nil_append,AU,a,b,Nat.sub_self,EM]
 .unfold JK;rw[BI,List.drop_append,EX (by omega),List.nil_append,a,Nat.sub_self,EM,List.take_append_of_le_length (by omega),CZ (by omega)]
structure St(κ:KeyKind)(kd:JP)(a₀:F1 CM)(st:HV):Prop where
 perm:(arrOf st).toList.Perm a₀.toList
 kind:kindOf st=kd
 failed:failedOf st=none
theorem St.size{a₀:F1 CM}{st:HV}(h:St κ kd a₀ st):(arrOf st).size=a₀.size:=by
 have:=h.perm.length_eq;simpa using this
theorem St.has{a₀:F1 CM}{st:HV}(h:St κ kd a₀ st)(b:KeysOf κ a₀)(i:Nat)(p:CM)(e:(arrOf st)[i]?=some p):QZ κ p :=
 b p (h.perm.mem_iff.mp (AK (IE.mp e)))
theorem P8{l:A1 CM}{lo n t:Nat}(a:t<n):(JK l lo n)[t]?=l[lo+t]?:=by
 unfold JK;rw[DG a,F_]
theorem Jr(i:Nat):mergeAt' i =(do
  let u <-get
  let(some (b,c,f),some (e,d,_)):=((pendingOf u)[i]?,(pendingOf u)[i+1]?) | unsupported "internal:list.sort.pending"
  set (setPending u (((pendingOf u).setIfInBounds i (b,c+d,f)).eraseIdxIfInBounds (i+1)))
  let some k <-U0 false (<-elem' (arrOf u) e) (arrOf u) b c 0 | return false
  let(b,c):=(b+k,c-k)
  if c == 0 then return true
  let some d <-U0 true (<-elem' (arrOf u) (b+c-1)) (arrOf u) e d (d-1) | return false
  if d == 0 then return true
  let x:=(arrOf u).extract b e
  let y:=(arrOf u).extract e (e+d)
  let g <-if c<=d then Dj x y else Ep x y
  modify fun v=>setArr v (g.toList.zipIdx.foldl (fun a (z:CM×Nat)=>a.setIfInBounds (b+z.2) z.1) (arrOf v))
  return(failedOf (<-get)).isNone):=rfl
theorem Xc{st st2:HV}{Q:PUnit->HV->Prop}(h:Q ⟨⟩ st2):wpS (model prog w) A E s (set st2:StateT HV Sem PUnit) Q st:=by
 unfold wpS;rw[StateT.run_set];exact AG ⟨rfl,h⟩
theorem Ix(C:QM prog w A s κ kd){a₀:F1 CM}(L:KeysOf κ a₀){st:HV}{i b c pw sb f pw2:Nat}{Q:Bool->HV->Prop}(j:St κ kd a₀ st)
  (hi:(pendingOf st)[i]?=some (b,c,pw)) (hj:(pendingOf st)[i+1]?=some (sb,f,pw2)) (hsb:sb=b+c) (hsz:sb+f<=a₀.size) (hna:1<=c) (hnb:1<=f)
  (N:KS κ (JK (arrOf st).toList b c)) (O:KS κ (JK (arrOf st).toList sb f))
  (h:∀n,St κ kd a₀ n->LF κ (arrOf st).toList (arrOf n).toList b (c+f)->KS κ (JK (arrOf n).toList b (c+f)) ->
   pendingOf n =((pendingOf st).setIfInBounds i (b,c+f,pw)).eraseIdxIfInBounds (i+1)->Q true n):wpS (model prog w) A E s (mergeAt' i) Q st:=by
 subst hsb;have hL:(arrOf st).toList.length=a₀.size:=by rw[BA];exact j.size
 have hsz':=j.size;rw[Jr];refine wpS_bind (wpS_get ?_);rw[hi,hj];dsimp only;refine wpS_bind (Xc ?_);obtain⟨R,D⟩:=X2 (a:=arrOf st) (i:=b+c) (by omega);have S:∀u v p q,u<=v->v<c->(arrOf st)[b+u]?=some p->(arrOf st)[b+v]?=some q->le κ p q:=fun u v p q H hv T F =>
  o7 N H (by rw[P8 (by omega)];exact IE.mp T) (by rw[P8 hv];exact IE.mp F)
 have U:∀u v p q,u<=v->v<f->(arrOf st)[b+c+u]?=some p->(arrOf st)[b+c+v]?=some q->le κ p q:=fun u v p q H hv T F =>
  o7 O H (by rw[P8 (by omega)];exact IE.mp T) (by rw[P8 hv];exact IE.mp F)
 refine wpS_bind (D9 D (wpS_bind (m8 C j.kind (j.has L _ _ D) (by omega) (j.has L) S (by omega) fun k hk1 k1 k2=>?_)));dsimp only;have V:∀z∈JK (arrOf st).toList (b+c) f,le κ R z:=fun z I=>by
  obtain⟨t,l,e⟩:=Ch I;exact U 0 t R z (by omega) l D (IE.mpr e)
 have xk:∀x∈(JK (arrOf st).toList b c).take k,le κ x R:=fun x hx=>by
  obtain⟨t,l,o,e⟩:=Nd hx;unfold JK at o;rw[AS]at o;rw[P8 (by omega)]at e;exact Dl (k1 t x l (IE.mpr e))
 have kx:∀x∈(JK (arrOf st).toList b c).drop k,le κ R x:=fun x hx=>by
  obtain⟨t,l,e⟩:=Ka hx;unfold JK at l;rw[AS]at l;rw[P8 (by omega)]at e;exact KeyOrd.kle_of_klt (Av (k2 (k+t) x (by omega) (by omega) (IE.mpr e)))
 have W:St κ kd a₀ (setPending st (((pendingOf st).setIfInBounds i (b,c+f,pw)).eraseIdxIfInBounds (i+1))):=⟨j.perm,j.kind,j.failed⟩;by_cases X:c-k=0
 .rw[AL (by simpa using X)];have hkk:k=c:=by omega
  refine wpS_pure (h _ W (LF.refl _ _ _) ?_ rfl);show KS κ (JK (arrOf st).toList b (c+f));rw[Hx];refine CN.mpr ⟨N,O,fun x hx y hy=>IY (xk x ?_) (V y hy)⟩;rw[CZ (by unfold JK;rw[AS];omega)];exact hx
 rw[AJ (by simpa using X)];obtain⟨M,J⟩:=X2 (a:=arrOf st) (i:=b+k +(c-k)-1) (by omega);refine wpS_bind (D9 J (wpS_bind (m8 C W.kind (j.has L _ _ J) (by omega) (j.has L) U (by omega) fun g Y k1' k2'=>?_)));dsimp only;have G:(arrOf st)[b +(c-1)]?=some M:=by rw[show b +(c-1)=b+k +(c-k)-1 by omega];exact J
 have K:∀x∈JK (arrOf st).toList b c,le κ x M:=fun x hx=>by
  obtain⟨t,l,e⟩:=Ch hx;exact S t (c-1) x M (by omega) (by omega) (IE.mpr e) G
 have yk:∀y∈(JK (arrOf st).toList (b+c) f).take g,le κ y M:=fun y hy=>by
  obtain⟨t,l,o,e⟩:=Nd hy;unfold JK at o;rw[AS]at o;rw[P8 (by omega)]at e;exact KeyOrd.kle_of_klt (Jw (k1' t y l (IE.mpr e)))
 have ky:∀y∈(JK (arrOf st).toList (b+c) f).drop g,le κ M y:=fun y hy=>by
  obtain⟨t,l,e⟩:=Ka hy;unfold JK at l;rw[AS]at l;rw[P8 (by omega)]at e;exact Dh (k2' (g+t) y (by omega) (by omega) (IE.mpr e))
 by_cases B:g=0
 .rw[AL (by simpa using B)];refine wpS_pure (h _ W (LF.refl _ _ _) ?_ rfl);show KS κ (JK (arrOf st).toList b (c+f));rw[Hx];refine CN.mpr ⟨N,O,fun x hx y hy=>IY (K x hx) (ky y ?_)⟩;rw[B,EM];exact hy
 rw[AJ (by simpa using B)];have Z:((arrOf st).extract (b+k) (b+c)).toList =(JK (arrOf st).toList b c).drop k:=by
  rw[Jf];unfold JK;rw[GL,GL,FA];congr 1;omega
 have ey:((arrOf st).extract (b+c) (b+c+g)).toList =(JK (arrOf st).toList (b+c) f).take g:=by
  rw[Dt];unfold JK;rw[HH,FH Y]
 have P:M_ κ ((arrOf st).extract (b+k) (b+c)) ((arrOf st).extract (b+c) (b+c+g)):=by
  refine⟨by rw[Z];exact N.sublist (FN _ _),by rw[ey];exact O.sublist (DY _ _),fun t p e=>?_,fun t p e=>?_,?_,?_,fun q e z I=>?_,fun p e z I=>?_⟩
  .have m:=AK (IE.mp e);rw[Z]at m;obtain⟨u,_,F⟩:=Ch (DV m);exact j.has L _ p (IE.mpr F)
  .have m:=AK (IE.mp e);rw[ey]at m;obtain⟨u,_,F⟩:=Ch (CD m);exact j.has L _ p (IE.mpr F)
  .rw[GA];omega
  .rw[GA];omega
  .have m:=IE.mp e;rw[ey,DG (by omega),P8 (by omega)]at m;have:q=R:=by
    have:=IE.mp D;rw[Nat.add_zero,this]at m;exact(BE m).symm
   subst this;rw[Z]at I;exact kx z I
  .have m:=IE.mp e;rw[Z,GA,F_,P8 (by omega)]at m;have:p=M:=by
    have q:=IE.mp G;rw[show k +(min (b+c) (arrOf st).size-(b+k)-1)=c-1 by omega,q]at m;exact(BE m).symm
   subst this;rw[ey]at I;exact yk z I
 have fin:∀(r:F1 CM) (d:HV),Sm (setPending st (((pendingOf st).setIfInBounds i (b,c+f,pw)).eraseIdxIfInBounds (i+1))) d->Rm κ ((arrOf st).extract (b+k) (b+c)) ((arrOf st).extract (b+c) (b+c+g)) r ->
   Q (failedOf (setArr d (r.toList.zipIdx.foldl (fun a (z:CM×Nat)=>a.setIfInBounds (b+k+z.2) z.1) (arrOf d)))).isNone (setArr d (r.toList.zipIdx.foldl (fun a (z:CM×Nat)=>a.setIfInBounds (b+k+z.2) z.1) (arrOf d))):=by
  rintro r d ⟨q1,q2,q3,q4⟩ ⟨r1,r2⟩;rw[Z,ey]at r2;have hrl:r.toList.length =(c-k)+g:=by
   rw[r2.length_eq,AU];unfold JK;rw[CY,AS,AS,CY,AS,CY];omega
  have q2':arrOf d=arrOf st:=q2;have ef:failedOf (setArr d (r.toList.zipIdx.foldl (fun a (z:CM×Nat)=>a.setIfInBounds (b+k+z.2) z.1) (arrOf d)))=none:=q4.trans j.failed;rw[ef];have el:=By r.toList (b+k) (arrOf d) (by rw[q2'];omega);have eq:(r.toList.zipIdx.foldl (fun a (z:CM×Nat)=>a.setIfInBounds (b+k+z.2) z.1) (arrOf d)).toList =(arrOf st).toList.take b ++((JK (arrOf st).toList b c).take k++r.toList ++(JK (arrOf st).toList (b+c) f).drop g) ++(arrOf st).toList.drop (b +(c+f)):=by
   rw[el,q2',hrl];have T:(arrOf st).toList.take (b+k) =(arrOf st).toList.take b ++(JK (arrOf st).toList b c).take k:=by
    unfold JK;rw[List.take_add,HH,FH hk1]
   have F:(arrOf st).toList.drop (b+k +(c-k+g)) =(JK (arrOf st).toList (b+c) f).drop g ++(arrOf st).toList.drop (b +(c+f)):=by
    unfold JK;rw[GL,FA,show b+k +(c-k+g)=b+c+g by omega]
    conv=>lhs;rw[<-BR (f-g) ((arrOf st).toList.drop (b+c+g))]
    rw[FA,show b+c+g +(f-g)=b +(c+f) by omega]
   rw[T,F];simp only[BI]
  have hp:((JK (arrOf st).toList b c).take k++r.toList ++(JK (arrOf st).toList (b+c) f).drop g).Perm (JK (arrOf st).toList b (c+f)):=by
   rw[Hx];have a1:((JK (arrOf st).toList b c).take k++r.toList ++(JK (arrOf st).toList (b+c) f).drop g).Perm ((JK (arrOf st).toList b c).take k ++((JK (arrOf st).toList b c).drop k ++(JK (arrOf st).toList (b+c) f).take g) ++(JK (arrOf st).toList (b+c) f).drop g) :=
    DJ _ (DH _ r2)
   refine a1.trans (List.Perm.of_eq ?_);rw[<-BI,BR,BI,BR]
  obtain⟨pa,ps⟩:=LF.of (κ:=κ) hp (by rw[hL];omega);have hs:KS κ ((JK (arrOf st).toList b c).take k++r.toList ++(JK (arrOf st).toList (b+c) f).drop g):=by
   refine CN.mpr ⟨CN.mpr ⟨N.sublist (DY _ _),r1,fun x hx y hy=>?_⟩,O.sublist (FN _ _),fun x hx y hy=>?_⟩
   .rcases AW.mp (r2.mem_iff.mp hy)with hy | hy
    .exact IY (xk x hx) (kx y hy)
    .exact IY (xk x hx) (V y (CD hy))
   .rcases AW.mp hx with hx | hx
    .exact IY (K x (CD hx)) (ky y hy)
    .rcases AW.mp (r2.mem_iff.mp hx)with hx | hx
     .exact IY (K x (DV hx)) (ky y hy)
     .exact IY (yk x hx) (ky y hy)
  refine h _ ⟨?_,q1.trans j.kind,q4.trans j.failed⟩ ?_ ?_ q3
  .show(r.toList.zipIdx.foldl (fun a (z:CM×Nat)=>a.setIfInBounds (b+k+z.2) z.1) (arrOf d)).toList.Perm a₀.toList;rw[eq];exact pa.perm.trans j.perm
  .show LF κ (arrOf st).toList (r.toList.zipIdx.foldl (fun a (z:CM×Nat)=>a.setIfInBounds (b+k+z.2) z.1) (arrOf d)).toList b (c+f);rw[eq];exact pa
  .show KS κ (JK (r.toList.zipIdx.foldl (fun a (z:CM×Nat)=>a.setIfInBounds (b+k+z.2) z.1) (arrOf d)).toList b (c+f));rw[eq,ps];exact hs
 by_cases hab:c-k<=g
 .rw[AL hab];refine wpS_bind (Ic C W.kind P fun r d q r1=>?_);exact wpS_bind (wpS_modify (wpS_bind (wpS_get (wpS_pure (fin r d q r1)))))
 .rw[AJ hab];refine wpS_bind (Ie C W.kind P fun r d q r1=>?_);exact wpS_bind (wpS_modify (wpS_bind (wpS_get (wpS_pure (fin r d q r1)))))
end
section
variable{prog:A7}{w:HW}{A:IC}{E:A2->A4->Prop}{s:A4}{κ:KeyKind}{kd:JP}{a₀:F1 CM}
theorem Tt{xs:F1 CM}{i:Nat}{p:CM}(h:xs[i]?=some p):KK κ xs i=kk κ p:=by unfold KK kk;rw[h]
def SI(κ:KeyKind)(xs:F1 CM)(lo m:Nat):Prop:=∀i j,i<=j->j<m->κ.kle (KK κ xs (lo+i)) (KK κ xs (lo+j))
def NI(κ:KeyKind)(xs:F1 CM)(lo m:Nat):Prop:=∀i j,i<=j->j<m->κ.kle (KK κ xs (lo+j)) (KK κ xs (lo+i))
theorem SI.sor{xs:F1 CM}{lo m:Nat}(h:SI κ xs lo m):KS κ (JK xs.toList lo m):=by
 refine GT.mpr fun i j a b c=>?_;unfold JK at a b;rw[AS]at a b;have d:xs[lo+i]?=some (JK xs.toList lo m)[i]:=by
  rw[IE,<-P8 (n:=m) (by omega)];exact AC _
 have e:xs[lo+j]?=some (JK xs.toList lo m)[j]:=by
  rw[IE,<-P8 (n:=m) (by omega)];exact AC _
 have:=h i j (by omega) (by omega);rw[Tt d,Tt e]at this;exact this
structure Lo(κ:KeyKind)(kd:JP)(a₀:F1 CM)(st0:HV)(lo n:Nat)(st:HV):Prop where
 S:St κ kd a₀ st
 pend:pendingOf st=pendingOf st0
 out:∀t,t<lo\/lo+n<=t->(arrOf st)[t]? =(arrOf st0)[t]?
theorem Lo.part{st0 st:HV}{lo n:Nat}(h:Lo κ kd a₀ st0 lo n st)(c:St κ kd a₀ st0):LF κ (arrOf st0).toList (arrOf st).toList lo n:=by
 refine⟨h.S.perm.trans c.perm.symm,GJ fun t=>?_,GJ fun t=>?_⟩
 .by_cases b:t<lo
  .rw[DG b,DG b,BS,BS];exact h.out t (.inl b)
  .rw[FE (by rw[AS];omega),FE (by rw[AS];omega)]
 .rw[F_,F_,BS,BS];exact h.out _ (.inr (by omega))
theorem Lo.mirror{st0 st:HV}{lo n i j:Nat}(h:Lo κ kd a₀ st0 lo n st)(hi:lo<=i)(c:j<=lo+n)(d:lo+n<=a₀.size):Lo κ kd a₀ st0 lo n (setArr st (mirror (arrOf st) i j ((j-i) / 2))):=by
 refine⟨⟨(Array.perm_iff_toList_perm.mp (mirror_perm _ _ _ _)).trans h.S.perm,h.S.kind,h.S.failed⟩,h.pend,fun t b=>?_⟩;show(PyProof.Rows.mirror (arrOf st) i j ((j-i) / 2))[t]?=_;have:=h.S.size;rw[getElem?_mirror_all (by omega),AJ (by omega)];exact h.out t b
theorem Q7(C:QM prog w A s κ kd)(e:KeysOf κ a₀){st:HV}(b:St κ kd a₀ st){i j:Nat}{Q:A5 Bool->HV->Prop}(hi:i<a₀.size)(f:j<a₀.size)
  (h:Q (some (κ.blt (KK κ (arrOf st) i) (KK κ (arrOf st) j))) st):wpS (model prog w) A E s (ltAt' i j) Q st:=by
 have:=b.size;obtain⟨p,c⟩:=X2 (a:=arrOf st) (i:=i) (by omega);obtain⟨q,d⟩:=X2 (a:=arrOf st) (i:=j) (by omega);rw[ltAt'_eq];refine wpS_bind (wpS_get ?_);refine wpS_bind (D9 c (wpS_bind (D9 d (Gq C b.kind (b.has e _ _ c) (b.has e _ _ d) ?_))));rw[Tt c,Tt d]at h;exact h
theorem SQ{st:HV}{lo a b:Nat}{f:Nat->(A5 (A5 Nat)×Nat)->StateT HV Sem (ForInStep (A5 (A5 Nat)×Nat))}{Q:(A5 (A5 Nat)×Nat)->HV->Prop}
  (y:∀x n,1<=n->n<b->wpS (model prog w) A E s (f x (none,n)) (fun r k=>k=st/\r=if κ.blt (KK κ (arrOf st) (lo+n)) (KK κ (arrOf st) (lo+n-1))=true then .done (none,n)else .yield (none,n+1)) st)
  (B:1<=a) (m:a<=b) (z:SI κ (arrOf st) lo a)
  (h:∀n,a<=n->n<=b->SI κ (arrOf st) lo n->(n=b\/κ.klt (KK κ (arrOf st) (lo+n)) (KK κ (arrOf st) (lo+n-1)))->Q (none,n) st):wpS (model prog w) A E s (forIn [a:b] (none,a) f) Q st:=by
 refine wpS_forRange (I:=fun x c k=>k=st/\c =(none,x)/\SI κ (arrOf st) lo x) ?_ ?_ ⟨rfl,rfl,z⟩
 .rintro x c k o p ⟨rfl,rfl,g⟩;refine wpS_mono (y x x (by omega) p) fun r l ⟨e,er⟩=>?_;subst e;cases d:κ.blt (KK κ (arrOf l) (lo+x)) (KK κ (arrOf l) (lo+x-1))
  .rw[d,AJ AZ]at er;subst er;refine⟨rfl,rfl,fun i j q C=>?_⟩;by_cases t:j<x
   .exact g i j q t
   .have u:j=x:=by omega
    subst u;by_cases v:i=j
    .subst v;exact KeyOrd.kle_refl _
    .have:=g i (j-1) (by omega) (by omega);rw[show lo +(j-1)=lo+j-1 by omega]at this;exact KeyOrd.kle_trans this d
  .rw[d,AL rfl]at er;subst er;exact h x o (by omega) g (.inr d)
 .rintro c k ⟨rfl,rfl,g⟩;rw[show max a b=b by omega]at g⊢;exact h b m (Nat.le_refl _) g (.inl rfl)
theorem NI.step{xs e:F1 CM}{lo x:Nat}(l:1<=x)(f:∀k,KK κ e k=KK κ xs k)(g:NI κ xs lo x)(h:κ.kle (KK κ xs (lo+x)) (KK κ xs (lo+x-1))):NI κ e lo (x+1):=by
 intro i j a m;rw[f,f];by_cases b:j<x
 .exact g i j a b
 .have c:j=x:=by omega
  subst c;by_cases d:i=j
  .subst d;exact KeyOrd.kle_refl _
  .have:=g i (j-1) (by omega) (by omega);rw[show lo +(j-1)=lo+j-1 by omega]at this;exact KeyOrd.kle_trans h this
abbrev DS:=A5 (A5 Nat)×Nat×Nat
theorem Zs{st0 st:HV}{lo n d:Nat}(hsz:lo+d<=a₀.size){f:Nat->DS->StateT HV Sem (ForInStep DS)}{Q:DS->HV->Prop}
  (H:∀x n q b,1<=n->n<d->Lo κ kd a₀ st0 lo d b->wpS (model prog w) A E s (f x (none,n,q)) (fun r st2 =>
   if κ.blt (KK κ (arrOf b) (lo+n)) (KK κ (arrOf b) (lo+n-1))=true then(st2=if q>0 then setArr b (mirror (arrOf b) (lo+n-(q+1)) (lo+n) ((lo+n-(lo+n-(q+1))) / 2))else b)/\r = .yield (none,n+1,0)
   else st2=b/\r=if κ.blt (KK κ (arrOf b) (lo+n-1)) (KK κ (arrOf b) (lo+n))=true then .done (none,n,q)else .yield (none,n+1,q+1)) b)
  (h1:1<=n) (z:n<=d) (J:Lo κ kd a₀ st0 lo d st) (K:NI κ (arrOf st) lo n)
  (h:∀m q b,Lo κ kd a₀ st0 lo d b->n<=m->m<=d->NI κ (arrOf b) lo m->q+1<=m->(∀i,m-(q+1)<=i->i<m->KK κ (arrOf b) (lo+i)=KK κ (arrOf b) (lo+m-1))->Q (none,m,q) b) :
  wpS (model prog w) A E s (forIn [n:d] (none,n,0) f) Q st:=by
 refine wpS_forRange (I:=fun x c b=>∃q,c =(none,x,q)/\Lo κ kd a₀ st0 lo d b/\NI κ (arrOf b) lo x/\q+1<=x /\
   (∀i,x-(q+1)<=i->i<x->KK κ (arrOf b) (lo+i)=KK κ (arrOf b) (lo+x-1))) ?_ ?_ ⟨0,rfl,J,K,by omega,fun i h1 M=>by congr 1;omega⟩
 .rintro x c b B C ⟨q,rfl,j,l,v,p⟩;have L:=j.S.size;refine wpS_mono (H x x q b (by omega) C j) fun r st2 y=>?_;cases g:κ.blt (KK κ (arrOf b) (lo+x)) (KK κ (arrOf b) (lo+x-1))
  .rw[g,AJ AZ]at y;obtain⟨e,er⟩:=y;subst e;cases o:κ.blt (KK κ (arrOf st2) (lo+x-1)) (KK κ (arrOf st2) (lo+x))
   .rw[o,AJ AZ]at er;subst er;have t:KK κ (arrOf st2) (lo+x)=KK κ (arrOf st2) (lo+x-1):=KeyOrd.kle_antisymm o g;refine⟨q+1,rfl,j,NI.step (by omega) (fun _=>rfl) l o,by omega,fun i D F=>?_⟩;rw[show lo +(x+1)-1=lo+x by omega];by_cases G:i=x
    .subst G;rfl
    .rw[t];exact p i (by omega) (by omega)
   .rw[o,AL rfl]at er;subst er;exact h x q st2 j B (by omega) l v p
  .rw[g,AL rfl]at y;obtain⟨e,er⟩:=y;subst er;have o:κ.kle (KK κ (arrOf b) (lo+x)) (KK κ (arrOf b) (lo+x-1)):=KeyOrd.kle_of_klt g;by_cases u:q>0
   .rw[AL u]at e;subst e;refine⟨0,rfl,j.mirror (by omega) (by omega) hsz,NI.step (by omega) (KK_mirror_equal (by omega) fun k D F=>?_) l o,by omega,fun i D F=>by congr 1;omega⟩;have:=p (k-lo) (by omega) (by omega);rw[show lo +(k-lo)=k by omega]at this;exact this
   .rw[AJ u]at e;subst e;exact⟨0,rfl,j,NI.step (by omega) (fun _=>rfl) l o,by omega,fun i D F=>by congr 1;omega⟩
 .rintro c b ⟨q,rfl,j,l,v,p⟩;rw[show max n d=d by omega]at l v p⊢;exact h d q b j z (Nat.le_refl _) l v p
theorem NI.turn{xs:F1 CM}{lo n:Nat}(a:lo+n<=xs.size)(h:NI κ xs lo n):SI κ (mirror xs lo (lo+n) ((lo+n-lo) / 2)) lo n:=by
 intro i j b c;rw[KK_mirror a,KK_mirror a,AL (by omega),AL (by omega)];have:=h (n-1-j) (n-1-i) (by omega) (by omega);rw[show lo +(n-1-i)=lo +(lo+n)-1-(lo+i) by omega,show lo +(n-1-j)=lo +(lo+n)-1-(lo+j) by omega]at this;exact this
theorem Gu(C:QM prog w A s κ kd)(D:KeysOf κ a₀){st:HV}{lo c:Nat}{Q:A5 Nat->HV->Prop}(W:St κ kd a₀ st)(hsz:lo+c<=a₀.size)(h1:1<=c)
  (h:∀m b,Lo κ kd a₀ st lo c b->1<=m->m<=c->SI κ (arrOf b) lo m->Q (some m) b):wpS (model prog w) A E s (countRun' lo c) Q st:=by
 have X:Lo κ kd a₀ st lo c st:=⟨W,rfl,fun _ _=>rfl⟩;rw[countRun'_eq];dsimp only;refine wpS_bind (SQ (κ:=κ) (lo:=lo) (fun x n G H=>?_) (Nat.le_refl 1) h1 (fun i j p P=>by have:i=j:=(by omega);subst this;exact KeyOrd.kle_refl _) fun n R T F Y=>?_)
 .dsimp only;refine wpS_bind (Q7 C D W (by omega) (by omega) ?_);dsimp only;cases κ.blt (KK κ (arrOf st) (lo+n)) (KK κ (arrOf st) (lo+n-1))
  .exact wpS_pure ⟨rfl,rfl⟩
  .exact wpS_pure ⟨rfl,rfl⟩
 dsimp only;by_cases I:n=c
 .rw[AL (by simpa using I)];exact wpS_pure (h n st X R T F)
 rw[AJ (by simpa using I)];have U:κ.klt (KK κ (arrOf st) (lo+n)) (KK κ (arrOf st) (lo+n-1)):=Y.resolve_left I;have hz:=W.size;by_cases V:n>1
 .rw[AL V];refine wpS_bind (Q7 C D W (by omega) (by omega) ?_);dsimp only;cases J:κ.blt (KK κ (arrOf st) lo) (KK κ (arrOf st) (lo+n-1))with
  | true =>
   simp only[ES];exact wpS_pure (h n st X R T F)
  | false =>
   simp only[AY,CJ];have r:∀k,lo<=k->k<lo+n->KK κ (arrOf st) k=KK κ (arrOf st) (lo+n-1):=by
    intro k hk1 hk2;have a1:=F 0 (k-lo) (by omega) (by omega);have a2:=F (k-lo) (n-1) (by omega) (by omega);rw[Nat.add_zero,show lo +(k-lo)=k by omega]at a1;rw[show lo +(k-lo)=k by omega,show lo +(n-1)=lo+n-1 by omega]at a2;exact KeyOrd.kle_antisymm a2 (KeyOrd.kle_trans J a1)
   have K:=KK_mirror_equal (κ:=κ) (xs:=arrOf st) (i:=lo) (j:=lo+n) (by omega) r;refine wpS_bind (wpS_reverse ?_);have L:=X.mirror (i:=lo) (j:=lo+n) (by omega) (by omega) hsz;have Z:NI κ (mirror (arrOf st) lo (lo+n) ((lo+n-lo) / 2)) lo (n+1):=by
    refine NI.step (by omega) K (fun i j p P=>?_) (KeyOrd.kle_of_klt U);rw[r (lo+i) (by omega) (by omega),r (lo+j) (by omega) (by omega)];exact KeyOrd.kle_refl _
   refine wpS_bind (wpS_lift (EU ⟨rfl,?_⟩));refine wpS_bind (Zs (κ:=κ) (kd:=kd) (a₀:=a₀) (st0:=st) (lo:=lo) hsz (fun x f q b G H t=>?_) (by omega) (by omega) L Z fun m q b l hm1 u v y he=>?_)
   .dsimp only;refine wpS_bind (Q7 C D t.S (by omega) (by omega) ?_);dsimp only;cases κ.blt (KK κ (arrOf b) (lo+f)) (KK κ (arrOf b) (lo+f - 1))
    .simp only[AY,CJ];refine wpS_bind (Q7 C D t.S (by omega) (by omega) ?_);dsimp only;cases κ.blt (KK κ (arrOf b) (lo+f - 1)) (KK κ (arrOf b) (lo+f))
     .exact wpS_pure ⟨rfl,rfl⟩
     .exact wpS_pure ⟨rfl,rfl⟩
    .simp only[ES];by_cases y:q>0
     .rw[AL y,AL y];exact wpS_bind (wpS_reverse (wpS_pure ⟨rfl,rfl⟩))
     .rw[AJ y,AJ y];exact wpS_pure ⟨rfl,rfl⟩
   .dsimp only;have hz3:=l.S.size;by_cases z:q>0
    .rw[AL z];refine wpS_bind (wpS_reverse (wpS_bind (wpS_reverse ?_)));have g:=l.mirror (i:=lo+m-(q+1)) (j:=lo+m) (by omega) (by omega) hsz;have d:=g.mirror (i:=lo) (j:=lo+m) (by omega) (by omega) hsz;have hz4:=g.S.size;have M:NI κ (mirror (arrOf b) (lo+m-(q+1)) (lo+m) ((lo+m-(lo+m-(q+1))) / 2)) lo m:=by
      have K:=KK_mirror_equal (κ:=κ) (xs:=arrOf b) (i:=lo+m-(q+1)) (j:=lo+m) (by omega) (fun k G H=>by
       have:=he (k-lo) (by omega) (by omega);rw[show lo +(k-lo)=k by omega]at this;exact this)
      intro i j p P;rw[K,K];exact v i j p P
     have N:=M.turn (κ:=κ) (lo:=lo) (n:=m) (by rw[mirror_size];omega);refine wpS_bind (SQ (κ:=κ) (lo:=lo) (fun x f G H=>?_) (by omega) u N fun O B e o _=>wpS_pure (h O _ d (by omega) e o));dsimp only;refine wpS_bind (Q7 C D d.S (by omega) (by omega) ?_);dsimp only;cases κ.blt (KK κ _ (lo+f)) (KK κ _ (lo+f - 1))
     .exact wpS_pure ⟨rfl,rfl⟩
     .exact wpS_pure ⟨rfl,rfl⟩
    .rw[AJ z];refine wpS_bind (wpS_reverse ?_);have d:=l.mirror (i:=lo) (j:=lo+m) (by omega) (by omega) hsz;have N:=v.turn (κ:=κ) (lo:=lo) (n:=m) (by omega);refine wpS_bind (SQ (κ:=κ) (lo:=lo) (fun x f G H=>?_) (by omega) u N fun O B e o _=>wpS_pure (h O _ d (by omega) e o));dsimp only;refine wpS_bind (Q7 C D d.S (by omega) (by omega) ?_);dsimp only;cases κ.blt (KK κ _ (lo+f)) (KK κ _ (lo+f - 1))
     .exact wpS_pure ⟨rfl,rfl⟩
     .exact wpS_pure ⟨rfl,rfl⟩
 .rw[AJ V];have hn1':n=1:=by omega
  have L:=X;have Z:NI κ (arrOf st) lo (n+1):=by
   refine NI.step (by omega) (fun _=>rfl) (fun i j p P=>?_) (KeyOrd.kle_of_klt U);have:i=j:=by omega
   subst this;exact KeyOrd.kle_refl _
  refine wpS_bind (wpS_lift (EU ⟨rfl,?_⟩));refine wpS_bind (Zs (κ:=κ) (kd:=kd) (a₀:=a₀) (st0:=st) (lo:=lo) hsz (fun x f q b G H t=>?_) (by omega) (by omega) L Z fun m q b l hm1 u v y he=>?_)
  .dsimp only;refine wpS_bind (Q7 C D t.S (by omega) (by omega) ?_);dsimp only;cases κ.blt (KK κ (arrOf b) (lo+f)) (KK κ (arrOf b) (lo+f - 1))
   .simp only[AY,CJ];refine wpS_bind (Q7 C D t.S (by omega) (by omega) ?_);dsimp only;cases κ.blt (KK κ (arrOf b) (lo+f - 1)) (KK κ (arrOf b) (lo+f))
    .exact wpS_pure ⟨rfl,rfl⟩
    .exact wpS_pure ⟨rfl,rfl⟩
   .simp only[ES];by_cases y:q>0
    .rw[AL y,AL y];exact wpS_bind (wpS_reverse (wpS_pure ⟨rfl,rfl⟩))
    .rw[AJ y,AJ y];exact wpS_pure ⟨rfl,rfl⟩
  .dsimp only;have hz3:=l.S.size;by_cases z:q>0
   .rw[AL z];refine wpS_bind (wpS_reverse (wpS_bind (wpS_reverse ?_)));have g:=l.mirror (i:=lo+m-(q+1)) (j:=lo+m) (by omega) (by omega) hsz;have d:=g.mirror (i:=lo) (j:=lo+m) (by omega) (by omega) hsz;have hz4:=g.S.size;have M:NI κ (mirror (arrOf b) (lo+m-(q+1)) (lo+m) ((lo+m-(lo+m-(q+1))) / 2)) lo m:=by
     have K:=KK_mirror_equal (κ:=κ) (xs:=arrOf b) (i:=lo+m-(q+1)) (j:=lo+m) (by omega) (fun k G H=>by
      have:=he (k-lo) (by omega) (by omega);rw[show lo +(k-lo)=k by omega]at this;exact this)
     intro i j p P;rw[K,K];exact v i j p P
    have N:=M.turn (κ:=κ) (lo:=lo) (n:=m) (by rw[mirror_size];omega);refine wpS_bind (SQ (κ:=κ) (lo:=lo) (fun x f G H=>?_) (by omega) u N fun O B e o _=>wpS_pure (h O _ d (by omega) e o));dsimp only;refine wpS_bind (Q7 C D d.S (by omega) (by omega) ?_);dsimp only;cases κ.blt (KK κ _ (lo+f)) (KK κ _ (lo+f - 1))
    .exact wpS_pure ⟨rfl,rfl⟩
    .exact wpS_pure ⟨rfl,rfl⟩
   .rw[AJ z];refine wpS_bind (wpS_reverse ?_);have d:=l.mirror (i:=lo) (j:=lo+m) (by omega) (by omega) hsz;have N:=v.turn (κ:=κ) (lo:=lo) (n:=m) (by omega);refine wpS_bind (SQ (κ:=κ) (lo:=lo) (fun x f G H=>?_) (by omega) u N fun O B e o _=>wpS_pure (h O _ d (by omega) e o));dsimp only;refine wpS_bind (Q7 C D d.S (by omega) (by omega) ?_);dsimp only;cases κ.blt (KK κ _ (lo+f)) (KK κ _ (lo+f - 1))
    .exact wpS_pure ⟨rfl,rfl⟩
    .exact wpS_pure ⟨rfl,rfl⟩
theorem Lo.bubble{st0 st:HV}{lo n b d:Nat}(h:Lo κ kd a₀ st0 lo n st)(h1:lo+d<=b)(h2:b<lo+n)(e:lo+n<=a₀.size):Lo κ kd a₀ st0 lo n (setArr st (bubble (arrOf st) b d)):=by
 refine⟨⟨(Array.perm_iff_toList_perm.mp (bubble_perm _ _ _)).trans h.S.perm,h.S.kind,h.S.failed⟩,h.pend,fun t c=>?_⟩;show(PyProof.Rows.bubble (arrOf st) b d)[t]?=_;have:=h.S.size;rw[getElem?_bubble (by omega) d (by omega),AJ (by omega),AJ (by omega)];exact h.out t c
theorem Bv(C:QM prog w A s κ kd)(G:KeysOf κ a₀){st0 st:HV}{lo g n u:Nat}{Q:Bool->HV->Prop}(H:Lo κ kd a₀ st0 lo g st)(hsz:lo+g<=a₀.size)(U:n<=g)(J:u<=n)(K:SI κ (arrOf st) lo u)
  (h:∀b,Lo κ kd a₀ st0 lo g b->SI κ (arrOf b) lo n->Q true b):wpS (model prog w) A E s (binarySort' lo n u) Q st:=by
 rw[binarySort'_eq];refine wpS_bind (wpS_mono (wpS_forRange (I:=fun k c b=>c =(none,())/\Lo κ kd a₀ st0 lo g b/\SI κ (arrOf b) lo (min k n))
  (Q:=fun c b=>c =(none,())/\Lo κ kd a₀ st0 lo g b/\SI κ (arrOf b) lo n) ?step ?fin ?init) ?post)
 case post =>
  rintro c b ⟨rfl,m,f⟩;exact wpS_pure (h b m f)
 case init =>
  refine⟨rfl,H,fun i j v L=>?_⟩;by_cases B:u=0
  .have:i=j:=by omega
   subst this;exact KeyOrd.kle_refl _
  .exact K i j v (by omega)
 case fin =>
  rintro c b ⟨M,m,f⟩;refine⟨M,m,?_⟩
  rwa [show min (max (max u 1) n) n=n by omega]at f
 case step =>
  rintro k c b N O ⟨rfl,m,f⟩;rw[show min k n=k by omega]at f;dsimp only;refine wpS_bind (wpS_mono (wpS_forRange (I:=fun x c d=>d=b/\∃l r,c =(none,l,r)/\l<=r/\r<=k/\r-l<=k-x /\
    (∀i,i<l->κ.kle (KK κ (arrOf b) (lo+i)) (KK κ (arrOf b) (lo+k)))/\(∀i,r<=i->i<k->κ.klt (KK κ (arrOf b) (lo+k)) (KK κ (arrOf b) (lo+i))))
   (Q:=fun c d=>d=b/\∃l r,c =(none,l,r)/\l<=k /\
    (∀i,i<l->κ.kle (KK κ (arrOf b) (lo+i)) (KK κ (arrOf b) (lo+k)))/\(∀i,l<=i->i<k->κ.klt (KK κ (arrOf b) (lo+k)) (KK κ (arrOf b) (lo+i)))) ?istep ?ifin ?iinit) ?ipost)
  case iinit=>exact⟨rfl,0,k,rfl,by omega,by omega,by omega,fun i V=>by omega,fun i B F=>by omega⟩
  case ifin =>
   rintro c d ⟨rfl,l,r,rfl,D,t,P,o,p⟩;have:l=r:=by omega
   subst this;exact⟨rfl,l,l,rfl,t,o,p⟩
  case istep =>
   rintro x c d _ R ⟨rfl,l,r,rfl,D,t,P,o,p⟩;dsimp only;by_cases y:l ≥ r
   .rw[AL y];have:l=r:=by omega
    subst this;exact wpS_pure ⟨rfl,l,l,rfl,t,o,p⟩
   .rw[AJ y];refine wpS_bind (Q7 C G m.S (by omega) (by omega) ?_);dsimp only;cases q:κ.blt (KK κ (arrOf d) (lo+k)) (KK κ (arrOf d) (lo +(l+r) / 2))
    case true =>
     simp only[ES];refine wpS_pure ⟨rfl,l,(l+r) / 2,rfl,by omega,by omega,by omega,o,fun i B F=>?_⟩;exact KeyOrd.klt_of_klt_of_kle q (f _ _ B F)
    case false =>
     simp only[AY,CJ];refine wpS_pure ⟨rfl,(l+r) / 2+1,r,rfl,by omega,by omega,by omega,fun i B=>?_,p⟩;exact KeyOrd.kle_trans (f i ((l+r) / 2) (by omega) (by omega)) (show κ.kle _ _ from q)
  case ipost =>
   rintro c d ⟨rfl,l,r,rfl,T,o,p⟩;have W:=m.S.size;show wpS _ _ _ _ (do moveDown' (lo+k) (lo+l);pure (ForInStep.yield (none,()))) _ _;rw[moveDown'_eq];refine wpS_bind (wpS_modify (wpS_pure ⟨rfl,m.bubble (by omega) (by omega) hsz,?_⟩));rw[show min (k+1) n=k+1 by omega];intro i j v L;show κ.kle (KK κ (bubble (arrOf d) (lo+k) (lo+k-(lo+l))) (lo+i)) (KK κ (bubble (arrOf d) (lo+k) (lo+k-(lo+l))) (lo+j));rw[KK_bubble (by omega) (by omega),KK_bubble (by omega) (by omega),show lo+k-(lo+k-(lo+l))=lo+l by omega];have e:∀z,1<=z->lo+z-1=lo +(z-1):=fun z _=>by omega
   repeat' split
   all_goals first
    | (exfalso;omega)
    | exact KeyOrd.kle_refl _
    | exact o _ (by omega)
    | exact KeyOrd.kle_of_klt (p _ (by omega) (by omega))
    | exact f _ _ (by omega) (by omega)
    | (rw[e j (by omega)];exact KeyOrd.kle_of_klt (p _ (by omega) (by omega)))
    | (rw[e i (by omega)];exact o _ (by omega))
    | (rw[e j (by omega)];exact f _ _ (by omega) (by omega))
    | (rw[e i (by omega),e j (by omega)];exact f _ _ (by omega) (by omega))
    | (rw[e i (by omega)];exact f _ _ (by omega) (by omega))
end
abbrev Run:=Nat×Nat×Nat
def MQ:A1 Run->Nat->Nat->Prop
 | [],a,b=>a=b
 | x::r,a,b=>x.1=a/\1<=x.2.1/\MQ r (a+x.2.1) b
def MQ.app:∀{i l2:A1 Run} {a b:Nat},MQ (i++l2) a b↔∃c,MQ i a c/\MQ l2 c b
 | [],l2,a,b=>⟨fun h=>⟨a,rfl,h⟩,fun⟨c,d,e⟩=>by have:a=c:=d;subst this;exact e⟩
 | x::r,l2,a,b=>by
  constructor
  .rintro⟨d,e,j⟩;obtain⟨c,f,g⟩:=MQ.app.mp j;exact⟨c,⟨d,e,f⟩,g⟩
  .rintro⟨c,⟨d,e,f⟩,g⟩;exact⟨d,e,MQ.app.mpr ⟨c,f,g⟩⟩
def MQ.le:∀{l:A1 Run} {a b:Nat},MQ l a b->a+l.length<=b
 | [],a,b,h=>by have:a=b:=h;subst this;simp
 | x::r,a,b,⟨d,e,c⟩=>by have:=MQ.le c;rw[BJ];omega
def MQ.mem:∀{l:A1 Run} {a b:Nat} {x:Run},MQ l a b->x∈l->a<=x.1/\x.1+x.2.1<=b
 | [],_,_,_,_,hx=>absurd hx (by simp)
 | y::r,a,b,x,⟨d,f,c⟩,hx=>by
  have g:=MQ.le c;rcases AR.mp hx with e | hx
  .subst e;omega
  .have:=MQ.mem c hx;omega
def zFe{l:A1 Run}{i:Nat}{x y:Run}(a:l[i]?=some x)(b:l[i+1]?=some y):l=l.take i++x::y::l.drop (i+2):=by
 obtain⟨c,rfl⟩:=AE.mp a;obtain⟨d,rfl⟩:=AE.mp b
 conv=>lhs;rw[<-BR i l]
 rw[FF c,FF d]
def zEg{l:A1 Run}{i:Nat}{x y:Run}(z:Run)(a:l[i]?=some x)(b:l[i+1]?=some y):(l.set i z).eraseIdx (i+1)=l.take i++z::l.drop (i+2):=by
 obtain⟨d,_⟩:=AE.mp a;obtain⟨f,_⟩:=AE.mp b;have e:=zFe a b;have c:(l.take i).length=i:=by rw[AS];omega
 generalize l.take i=p at *;generalize l.drop (i+2)=q at *;subst e;rw[List.set_append_right _ _ (by omega),c,Nat.sub_self,List.eraseIdx_append_of_length_le (by omega),c,show i+1-i=1 by omega];rfl
section
variable{prog:A7}{w:HW}{A:IC}{E:A2->A4->Prop}{s:A4}{κ:KeyKind}{kd:JP}{a₀:F1 CM}
structure RI(κ:KeyKind)(kd:JP)(a₀:F1 CM)(lo:Nat)(st:HV):Prop where
 S:St κ kd a₀ st
 cov:MQ (pendingOf st).toList 0 lo
 sor:∀x∈(pendingOf st).toList,KS κ (JK (arrOf st).toList x.1 x.2.1)
theorem Jl(C:QM prog w A s κ kd)(I:KeysOf κ a₀){st:HV}{lo i:Nat}{Q:Bool->HV->Prop}(R:RI κ kd a₀ lo st)(J:lo<=a₀.size)(hi:i+1 <(pendingOf st).size)
  (h:∀b,RI κ kd a₀ lo b->(pendingOf b).size+1 =(pendingOf st).size->LF κ (arrOf st).toList (arrOf b).toList 0 lo->Q true b):wpS (model prog w) A E s (mergeAt' i) Q st:=by
 obtain⟨⟨g,d,q⟩,u⟩:∃x,(pendingOf st)[i]?=some x:=⟨_,getElem?_pos _ i (by omega)⟩;obtain⟨⟨K,f,r⟩,n⟩:∃x,(pendingOf st)[i+1]?=some x:=⟨_,getElem?_pos _ (i+1) hi⟩;have j:(pendingOf st).toList[i]?=some (g,d,q):=by rw[BS];exact u
 have k:(pendingOf st).toList[i+1]?=some (K,f,r):=by rw[BS];exact n
 have e:=zFe j k;have c:=R.cov;rw[e]at c;obtain⟨v,B,L⟩:=MQ.app.mp c;obtain⟨D,F,M,G,o⟩:=L;dsimp only at D F M G o;have N:=MQ.le o;refine Ix C I R.S u n (by omega) (by omega) F G (R.sor _ (AK j)) (R.sor _ (AK k)) fun b O p P T=>?_;have t:(pendingOf b).toList =(pendingOf st).toList.take i ++(g,d+f,q) ::(pendingOf st).toList.drop (i+2):=by
  rw[T,<-zEg (g,d+f,q) j k];simp
 refine h b ⟨O,?_,fun x l=>?_⟩ ?_ ?_
 .rw[t];exact MQ.app.mpr ⟨v,B,D,(by show 1<=d+f;omega),(by show MQ _ (v +(d+f)) lo;rw[<-Nat.add_assoc];exact o)⟩
 .rw[t]at l;have m:∀y∈(pendingOf st).toList,(y.1+y.2.1<=g\/g +(d+f)<=y.1)->KS κ (JK (arrOf b).toList y.1 y.2.1):=fun y n ho=>by
   have:=R.sor y n;rcases ho with ho | ho
   .rw[p.seg_front ho];exact this
   .rw[p.seg_back ho];exact this
  rcases AW.mp l with hm | hm
  .have:=MQ.mem B hm;exact m x (CD hm) (.inl (by omega))
  .rcases AR.mp hm with hm | hm
   .subst hm;exact P
   .have:=MQ.mem o hm;exact m x (DV hm) (.inr (by omega))
 .have:=congrArg List.length t;rw[BA,AU,BJ,AS,CY,BA]at this;omega
 .have H:∀z:A1 CM,z.drop (0+lo) =(z.drop (g +(d+f))).drop (lo-(g +(d+f))):=fun z=>by
   rw[FA];congr 1;omega
  exact⟨p.perm,rfl,by rw[H,H,p.back]⟩
theorem Ah{l:F1 Run}{a:Nat}:(l.modify (l.size-1) fun x=>(x.1,x.2.1,a)).toList.map (fun x:Run=>(x.1,x.2.1))=l.toList.map fun x:Run=>(x.1,x.2.1):=by
 refine GJ fun t=>?_;rw[AH,AH,BS,BS,Array.getElem?_modify];split
 .cases l[t]?<;>rfl
 .rfl
theorem MQ.congr:∀{l c:A1 Run} {a b:Nat},c.map (fun x:Run=>(x.1,x.2.1))=l.map (fun x:Run=>(x.1,x.2.1))->MQ l a b->MQ c a b
 | [],[],_,_,_,h=>h
 | [],_::_,_,_,e,_=>by simp at e
 | _::_,[],_,_,e,_=>by simp at e
 | x::r,y::n,a,b,e,⟨f,g,i⟩=>by
  rw[A_,A_]at e;obtain⟨j,k⟩:=GX e;obtain⟨m,d⟩:=Prod.mk.inj j;exact⟨m.trans f,by rw[d];exact g,by rw[d];exact MQ.congr k i⟩
theorem RI.congr{lo:Nat}{st:HV}(R:RI κ kd a₀ lo st){p:F1 Run}(e:p.toList.map (fun x:Run=>(x.1,x.2.1)) =(pendingOf st).toList.map fun x:Run=>(x.1,x.2.1)):RI κ kd a₀ lo (setPending st p):=by
 refine⟨⟨R.S.perm,R.S.kind,R.S.failed⟩,MQ.congr e R.cov,fun x b=>?_⟩;have:(x.1,x.2.1)∈(pendingOf st).toList.map fun x:Run=>(x.1,x.2.1):=by
  rw[<-e];exact AV.mpr ⟨x,b,rfl⟩
 obtain⟨y,c,d⟩:=AV.mp this;obtain⟨f,g⟩:=Prod.mk.inj d;have:=R.sor y c;rw[f,g]at this;exact this
theorem Ef(C:QM prog w A s κ kd)(v:KeysOf κ a₀){st:HV}{Q:Unit->HV->Prop}(hS:St κ kd a₀ st)(hp:pendingOf st = #[])
  (h:∀d,St κ kd a₀ d->KS κ (arrOf d).toList->Q () d):wpS (model prog w) A E s sortRuns' Q st:=by
 rw[sortRuns'_eq];refine wpS_bind (wpS_get ?_);dsimp only;have hz:=hS.size;rw[hz];generalize minRun' a₀.size a₀.size 0=B;refine wpS_bind (wpS_mono (wpS_forRange (I:=fun x c d=>∃lo,c =(none,lo)/\RI κ kd a₀ lo d/\lo<=a₀.size/\min x a₀.size<=lo)
  (Q:=fun c d=>∃lo,c =(none,lo)/\RI κ kd a₀ lo d/\lo=a₀.size) ?st ?en ⟨0,rfl,⟨hS,by rw[hp];rfl,fun x K=>by rw[hp]at K;exact absurd K (by simp)⟩,CI _,by omega⟩) ?po)
 case en =>
  rintro c d ⟨lo,rfl,R,P,h2⟩;exact⟨lo,rfl,R,by omega⟩
 case po =>
  rintro c d ⟨lo,rfl,R,rfl⟩;dsimp only;refine wpS_bind (wpS_mono (wpS_forRange (I:=fun x c d=>c =(none,())/\RI κ kd a₀ a₀.size d/\(pendingOf d).size+x<=a₀.size+1)
   (Q:=fun c d=>c =(none,())/\RI κ kd a₀ a₀.size d/\(pendingOf d).size<=1) ?st3 ?en3 ⟨rfl,R,?in3⟩) ?po3)
  case in3 =>
   have:=MQ.le R.cov;rw[BA]at this;omega
  case en3 =>
   rintro c e ⟨rfl,R2,g⟩;exact⟨rfl,R2,by omega⟩
  case po3 =>
   rintro c e ⟨rfl,R2,g⟩;refine wpS_pure (h e R2.S ?_);have c:=R2.cov;have L:=R2.sor;have hz2:=R2.S.size;have M:(pendingOf e).toList.length<=1:=by rw[BA];exact g
   generalize (pendingOf e).toList=l at c L M
   match l,c,L,M with
   | [],c,_,_ =>
    have c':0=a₀.size:=c;have:(arrOf e).toList = []:=List.eq_nil_of_length_eq_zero (by rw[BA];omega);rw[this];exact List.Pairwise.nil
   | [x],⟨c1,c2,c3⟩,L,_ =>
    have c3':0+x.2.1=a₀.size:=c3;have:=L x (AF.mpr rfl);unfold JK at this;rw[c1,EM,CZ (by rw[BA];omega)]at this;exact this
   | _::_::_,_,_,M=>exact absurd M (by simp)
  case st3 =>
   rintro x c e _ K ⟨rfl,R2,g⟩
   try dsimp only
   refine wpS_bind (wpS_get ?_);by_cases r:(pendingOf e).size<=1
   .rw[AL r];exact wpS_pure ⟨rfl,R2,r⟩
   rw[AJ r];refine wpS_bind (Jl C v R2 (Nat.le_refl _) ?_ fun st3 R3 e3 _=>?_)
   .have T:∀{c:Prop} [Decidable c] {n:Nat},(if c then n-1 else n)+1<=n+1:=by intro c _ n;split<;>omega
    exact Nat.lt_of_le_of_lt T (by omega)
   .simp only[EZ,AY,CJ];exact wpS_pure ⟨rfl,R3,by omega⟩
 case st =>
  rintro x c d _ K ⟨lo,rfl,R,P,h2⟩;dsimp only;by_cases D:lo ≥ a₀.size
  .rw[AL D];exact wpS_pure ⟨lo,rfl,R,by omega⟩
  rw[AJ D];refine wpS_bind (Gu C v R.S (by omega) (by omega) fun m e L2 hm1 hm2 t=>?_);dsimp only;by_cases F:m<B
  .rw[AL F];refine wpS_bind (wpS_lift (EU ⟨rfl,?_⟩));refine wpS_bind (Bv C v L2 (by omega) (show min (a₀.size-lo) B<=a₀.size-lo by omega) (by omega) t fun q O U=>?_);simp only[EZ,AY,CJ];have hN:1<=min (a₀.size-lo) B/\min (a₀.size-lo) B<=a₀.size-lo:=by omega
   generalize min (a₀.size-lo) B=N at hN U⊢;have G:RI κ kd a₀ lo q:=by
    refine⟨O.S,by rw[O.pend];exact R.cov,fun y k=>?_⟩;rw[O.pend]at k;have hc:=MQ.mem R.cov k;rw[(O.part R.S).seg_front (by omega)];exact R.sor y k
   refine wpS_bind (wpS_get ?_);have i:∀(b:HV),RI κ kd a₀ lo b->KS κ (JK (arrOf b).toList lo N)->RI κ kd a₀ (lo+N) (setPending b ((pendingOf b).push (lo,N,0))):=fun b f V=>by
    refine⟨⟨f.S.perm,f.S.kind,f.S.failed⟩,?_,fun y k=>?_⟩
    .show MQ ((pendingOf b).push (lo,N,0)).toList 0 (lo+N);rw[DI];exact MQ.app.mpr ⟨lo,f.cov,rfl,(by show 1<=N;omega),rfl⟩
    .have hy':y∈((pendingOf b).push (lo,N,0)).toList:=k;rw[DI]at hy';rcases AW.mp hy' with hy' | hy'
     .exact f.sor y hy'
     .rw[AF.mp hy'];exact V
   cases W:(pendingOf q).back? with
   | none =>
    dsimp only;refine wpS_bind (wpS_modify (wpS_pure ⟨_,rfl,i _ G U.sor,by omega,by omega⟩))
   | some X =>
    obtain⟨H,u,pb⟩:=X;dsimp only;generalize power' a₀.size (2*H+u) (2*H+u+u+N) a₀.size=Y;refine wpS_bind (wpS_mono (wpS_forRange (I:=fun x c b=>c =(none,())/\RI κ kd a₀ lo b/\LF κ (arrOf q).toList (arrOf b).toList 0 lo)
     (Q:=fun c b=>c =(none,())/\RI κ kd a₀ lo b/\LF κ (arrOf q).toList (arrOf b).toList 0 lo) ?stc1 (fun _ _ z=>z) ⟨rfl,G,LF.refl _ _ _⟩) ?poc1)
    case stc1 =>
     rintro x' c b _ _ ⟨rfl,f,j⟩
     try dsimp only
     refine wpS_bind (wpS_get ?_);by_cases o:(pendingOf b).size>1
     .rw[AL o];obtain⟨⟨u1,u2,Z⟩,hu⟩:∃y,(pendingOf b)[(pendingOf b).size-2]?=some y:=⟨_,getElem?_pos _ _ (by omega)⟩;rw[hu];dsimp only;by_cases p:Z<=Y
      .rw[AL p];exact wpS_pure ⟨rfl,f,j⟩
      rw[AJ p];refine wpS_bind (Jl C v f P (by omega) fun st7 R7 _ J=>?_);simp only[EZ,AY,CJ];exact wpS_pure ⟨rfl,R7,⟨J.perm.trans j.perm,rfl,J.back.trans j.back⟩⟩
     .rw[AJ o];exact wpS_pure ⟨rfl,f,j⟩
    case poc1 =>
     rintro c b ⟨rfl,f,j⟩;dsimp only;refine wpS_bind (wpS_modify (wpS_bind (wpS_modify (wpS_pure ⟨_,rfl,i _ (f.congr Ah) ?_,by omega,by omega⟩))));show KS κ (JK (arrOf b).toList lo N);rw[j.seg_back (by omega)];exact U.sor
  .rw[AJ F];have G:RI κ kd a₀ lo e:=by
    refine⟨L2.S,by rw[L2.pend];exact R.cov,fun y k=>?_⟩;rw[L2.pend]at k;have hc:=MQ.mem R.cov k;rw[(L2.part R.S).seg_front (by omega)];exact R.sor y k
   refine wpS_bind (wpS_get ?_);have i:∀(b:HV),RI κ kd a₀ lo b->KS κ (JK (arrOf b).toList lo m)->RI κ kd a₀ (lo+m) (setPending b ((pendingOf b).push (lo,m,0))):=fun b f V=>by
    refine⟨⟨f.S.perm,f.S.kind,f.S.failed⟩,?_,fun y k=>?_⟩
    .show MQ ((pendingOf b).push (lo,m,0)).toList 0 (lo+m);rw[DI];exact MQ.app.mpr ⟨lo,f.cov,rfl,(by show 1<=m;omega),rfl⟩
    .have hy':y∈((pendingOf b).push (lo,m,0)).toList:=k;rw[DI]at hy';rcases AW.mp hy' with hy' | hy'
     .exact f.sor y hy'
     .rw[AF.mp hy'];exact V
   cases W:(pendingOf e).back? with
   | none =>
    dsimp only;refine wpS_bind (wpS_modify (wpS_pure ⟨_,rfl,i _ G t.sor,by omega,by omega⟩))
   | some X =>
    obtain⟨H,u,pb⟩:=X;dsimp only;generalize power' a₀.size (2*H+u) (2*H+u+u+m) a₀.size=Y;refine wpS_bind (wpS_mono (wpS_forRange (I:=fun x c b=>c =(none,())/\RI κ kd a₀ lo b/\LF κ (arrOf e).toList (arrOf b).toList 0 lo)
     (Q:=fun c b=>c =(none,())/\RI κ kd a₀ lo b/\LF κ (arrOf e).toList (arrOf b).toList 0 lo) ?stc2 (fun _ _ z=>z) ⟨rfl,G,LF.refl _ _ _⟩) ?poc2)
    case stc2 =>
     rintro x' c b _ _ ⟨rfl,f,j⟩
     try dsimp only
     refine wpS_bind (wpS_get ?_);by_cases o:(pendingOf b).size>1
     .rw[AL o];obtain⟨⟨u1,u2,Z⟩,hu⟩:∃y,(pendingOf b)[(pendingOf b).size-2]?=some y:=⟨_,getElem?_pos _ _ (by omega)⟩;rw[hu];dsimp only;by_cases p:Z<=Y
      .rw[AL p];exact wpS_pure ⟨rfl,f,j⟩
      rw[AJ p];refine wpS_bind (Jl C v f P (by omega) fun st7 R7 _ J=>?_);simp only[EZ,AY,CJ];exact wpS_pure ⟨rfl,R7,⟨J.perm.trans j.perm,rfl,J.back.trans j.back⟩⟩
     .rw[AJ o];exact wpS_pure ⟨rfl,f,j⟩
    case poc2 =>
     rintro c b ⟨rfl,f,j⟩;dsimp only;refine wpS_bind (wpS_modify (wpS_bind (wpS_modify (wpS_pure ⟨_,rfl,i _ (f.congr Ah) ?_,by omega,by omega⟩))));show KS κ (JK (arrOf b).toList lo m);rw[j.seg_back (by omega)];exact t.sor
end
def kd1(κ:KeyKind)(v:A2):κ.α:=(κ.keyOf v).getD κ.dflt
section
variable{prog:A7}{w:HW}{A:IC}{E:A2->A4->Prop}{s:A4}{κ:KeyKind}{kd:JP}
def TK(a:A3)(s c:A4):Prop:=∀b o,b≠a->s.heap.get? b=some o->c.heap.get? b=some o
structure RP(prog:A7)(w:HW)(a:A3)(s:A4)(κ:KeyKind)(kd:JP)(vs:A1 A2):Prop where
 cmp:∀(A:IC) (s':A4),TK a s s'->QM prog w A s' κ kd
 key:∀v∈vs,∃k,κ.keyOf v=some k
 kind:2<=vs.length->∀(A:IC) (E:A2->A4->Prop) (s':A4) (Q:JP->A4->Prop),TK a s s'->Q kd s'->wpAny (model prog w) A (keyKind' vs.toArray) Q E s'
def Out(κ:KeyKind)(vs:A1 A2)(out:F1 A2):Prop:=out.toList.Perm vs/\out.toList.Pairwise fun u v=>κ.kle (kd1 κ u) (kd1 κ v)
theorem We{vs:A1 A2}{xs:F1 CM}(a:xs.toList.Perm (pairsOf vs).toList)(b:KS κ xs.toList):Out κ vs (xs.map (·.2)):=by
 rw[pairsOf_toList]at a;have c:∀p∈xs.toList,p.1=p.2:=fun p h=>(mem_zip_self (a.mem_iff.mp h)).1;have e:(xs.map (·.2)).toList=xs.toList.map (·.1):=by
  rw[Array.toList_map];exact List.map_congr_left fun p h=>(c p h).symm
 refine⟨?_,?_⟩
 .rw[e];have:=a.map Prod.fst
  rwa [List.map_fst_zip (Nat.le_refl _)]at this
 .rw[e,CP];exact b
theorem Dm{a:A3}{vs:A1 A2}{n:Nat}{P:Fin->A4->Prop}(k:s.heap.get? a=some (seqObj "list" vs.toArray n))(hz:vs.length<=sizeLine)(K:RP prog w a s κ kd vs)
  (h:∀out:F1 A2,Out κ vs out->P (.done (.ret .none)) { s with heap:=sortedHeap s.heap a vs out }) :
  wpAny (model prog w) A (Builtin.«list.sort» ⟨[.ref a],[]⟩) P E s:=by
 rw[list_sort_plain];have m:a<s.heap.objs.size:=AI k;have i:vs.toArray.size=vs.length:=by simp
 refine AA (listItems_at k rfl ?_);refine AA (listUpdate_at k rfl ?_ (by rw[i];exact hz) (by simp));obtain⟨l,j⟩:∃l,(s.heap.update a (Obj.mapSeq fun _=>#[])).get? a=some (seqObj "list" #[] l):=⟨_,get?_update_seq k (fun _=>#[])⟩;refine AA (seqEpoch_at j rfl ?_);refine AA (HI ?_ (by simpa using hz));refine AA (HS ?_);refine BU ?_;have d:(((s.heap.update a (Obj.mapSeq fun _=>#[])).push (seqObj "tuple" vs.toArray 0)).push (seqObj "list" #[] 0)).get? a=some (seqObj "list" #[] l):=by
  rw[Heap.get?_push_ne _ _ _ (by rw[size_push',HN];exact AX (DZ m)),Heap.get?_push_ne _ _ _ (by rw[HN];exact AX m)];exact j
 show wpAny (model prog w) A _ P E { s with heap:=((s.heap.update a (Obj.mapSeq fun _=>#[])).push (seqObj "tuple" vs.toArray 0)).push (seqObj "list" #[] 0) };dsimp only;have q:TK a s { s with heap:=((s.heap.update a (Obj.mapSeq fun _=>#[])).push (seqObj "tuple" vs.toArray 0)).push (seqObj "list" #[] 0) }:=fun b o r e =>
  AD _ (AD _ ((CK s.heap _ (Ne.symm r)).trans e))
 by_cases f:vs.toArray.size<2
 .rw[AL f,AL f];refine AA (AG ?_);rw[StateT.run_pure];refine AA (AG ?_);dsimp only;refine AA (seqEpoch_at d rfl ?_);refine AA (listUpdate_at d rfl ?_ (by simp) (by rw[HJ];show(pairsOf vs).size<=_;rw[pairsOf_size];omega));simp only[bne_self_eq_false,AY,CJ];refine AG (h _ (We (κ:=κ) (xs:=pairsOf vs) (List.Perm.refl _) ?_));rw[pairsOf_toList];rw[i]at f
  match vs,f with
  | [],_=>exact List.Pairwise.nil
  | [v],_=>exact FV _ _
  | _::_::_,f=>simp at f;omega
 .rw[AJ f,AJ f];refine AA (K.kind (by omega) A E _ _ q ?_);refine AA (CB (Ef (K.cmp A _ q) (a₀:=pairsOf vs) (st:=SortSt.mk' kd (vs.toArray.zip vs.toArray) #[] 7 none)
   (Q:=fun _ c=>St κ kd (pairsOf vs) c/\KS κ (arrOf c).toList)
   (fun p g=>?_) ⟨List.Perm.refl _,rfl,rfl⟩ rfl fun c t u=>⟨t,u⟩) ?_ fun _ _ e=>e)
  .rw[pairsOf_toList]at g;exact K.key _ (mem_zip_self g).2
  rintro⟨⟨⟩,c⟩ y ⟨rfl,g,x⟩;dsimp only;refine AA (seqEpoch_at d rfl ?_);refine AA (listUpdate_at d rfl ?_ (by simp) (by rw[HJ];show(arrOf c).size<=_;rw[g.size,pairsOf_size];omega));rw[show failedOf c=none from g.failed];simp only[bne_self_eq_false,AY,CJ];exact AG (h _ (We g.perm x))
theorem OJ{x:A2}{Q:A2->A4->Prop}
  (g:wpAny (model prog w) A.in1 (collect x) (fun vs s1=>s1.os=s.os/\vs.length<=sizeLine/\(∃(κ:KeyKind) (kd:JP),(∀d:A4,TK s1.heap.objs.size s1 d->RP prog w s1.heap.objs.size d κ kd vs) /\
   ∀(out:F1 A2) (h':H_) (e:Nat),Out κ vs out->(∀b o,s1.heap.get? b=some o->h'.get? b=some o)->h'.get? s1.heap.objs.size=some (seqObj "list" out e)->Q (.ref s1.heap.objs.size) { s1 with heap:=h' })) E s) :
  wpAny (model prog w) A (call (.builtin "sorted") [x]) Q E s:=by
 refine Calls.call_function_entry kind_sorted plain_sorted entry_sorted (args_sorted1 _) ?_;unfold Builtin.«sorted»;refine AA (m:=checkCount "sorted" 1 1 _) (AG ?_);refine AA (CB g (fun vs s1 ⟨i,j,κ,kd,K,q⟩=>?_) fun _ _ z=>z);refine AA (HS ?_);have a:(s1.heap.push (seqObj "list" vs.toArray 0)).get? s1.heap.objs.size=some (seqObj "list" vs.toArray 0):=AQ _ rfl;show wpAny _ _ _ _ _ { s1 with heap:=s1.heap.push (seqObj "list" vs.toArray 0) };have k:TK s1.heap.objs.size s1 { s1 with heap:=s1.heap.push (seqObj "list" vs.toArray 0) }:=fun b o _ e=>AD _ e;refine AA (BU (DW slot_list_sort ⟨_,a,rfl⟩ entry_list_sort (Dm (s:={ s1 with heap:=s1.heap.push (seqObj "list" vs.toArray 0) }) a j (K _ k) fun out l=>⟨_,rfl,?_⟩) (args_list_sort _)));obtain⟨e,n⟩:=sortedHeap_at (h:=s1.heap.push (seqObj "list" vs.toArray 0)) (out:=out) a;refine AG ⟨_,rfl,q out _ e l (fun b o f=>?_) n⟩;have c:=AI f;rw[sortedHeap_old (AX c) (by rw[size_push'];exact DZ c)];exact AD _ f
theorem QJ{a:A3}{vs:A1 A2}{ss:A1 Str}(b:StrsAre vs ss):RP prog w a s strKind oneType' vs:=by
 refine⟨fun A c _=>⟨fun x y k l Q E d e q=>?_⟩,fun v f=>?_,fun g A E c Q _ q=>?_⟩
 .rw[keyLt'_oneType];exact strKind_oneLt prog w A E c x y k l d e q
 .obtain⟨x,t,rfl⟩:=b.all v f;exact⟨_,rfl⟩
 .match vs,g,b with
  | v1::h::r,_,b =>
   rw[keyKind_strs b];exact AG q
def LE(a b:A1 Nat×A1 Nat):Bool:=decide (a.1<b.1)||(decide (a.1=b.1)&&decide (a.2<b.2))
theorem JH{a b:A1 Nat×A1 Nat}:LE a b=true↔a.1<b.1\/(a.1=b.1/\a.2<b.2):=by
 unfold LE;simp
theorem SW(a b:A1 Nat):a<b\/a=b\/b<a:=by
 by_cases h:a<b
 .exact .inl h
 .by_cases c:b<a
  .exact .inr (.inr c)
  .exact .inr (.inl (List.le_antisymm (List.not_lt.mp c) (List.not_lt.mp h)))
def Qu:A1 A2->A5 (A1 Nat×A1 Nat)
 | [.str x _,.str y _]=>some (x.cps.toList,y.cps.toList)
 | _=>none
def Rz(c:A2):Data->A5 (A1 Nat×A1 Nat)
 | .seq a _=>if c = .type "tuple" then Qu a.toList else none
 | _=>none
def NP(h:H_):A2->A5 (A1 Nat×A1 Nat)
 | .ref p=>(h.get? p).bind fun o=>Rz o.cls o.data
 | _=>none
@[reducible] def pairKind(h:H_):KeyKind where
 α:=A1 Nat×A1 Nat
 blt:=LE
 irrefl a:=by
  rw[CA];intro z;rcases JH.mp z with z | ⟨_,z⟩
  .exact List.lt_irrefl _ z
  .exact List.lt_irrefl _ z
 trans a b c e d:=by
  rw[JH]at *;rcases e with e | ⟨e,f⟩
  .rcases d with d | ⟨d,_⟩
   .exact .inl (List.lt_trans e d)
   .exact .inl (d▸e)
  .rcases d with d | ⟨d,g⟩
   .exact .inl (e▸d)
   .exact .inr ⟨e.trans d,List.lt_trans f g⟩
 negTrans a b c h:=by
  rw[JH]at h;simp only[JH];rcases h with h | ⟨h,i⟩
  .rcases SW a.1 b.1 with q | q | q
   .exact .inl (.inl q)
   .exact .inr (.inl (q▸h))
   .exact .inr (.inl (List.lt_trans q h))
  .rcases SW a.1 b.1 with q | q | q
   .exact .inl (.inl q)
   .rcases SW a.2 b.2 with r | r | r
    .exact .inl (.inr ⟨q,r⟩)
    .exact .inr (.inr ⟨q▸h,r▸i⟩)
    .exact .inr (.inr ⟨q▸h,List.lt_trans r i⟩)
   .exact .inr (.inl (h▸q))
 total a b e d:=by
  rw[CA]at e d;rcases SW a.1 b.1 with q | q | q
  .exact absurd (JH.mpr (.inl q)) e
  .rcases SW a.2 b.2 with r | r | r
   .exact absurd (JH.mpr (.inr ⟨q,r⟩)) e
   .exact Prod.ext q r
   .exact absurd (JH.mpr (.inr ⟨q.symm,r⟩)) d
  .exact absurd (JH.mpr (.inl q)) d
 keyOf:=NP h
 dflt:=([],[])
def MK(h:H_)(v:A2)(x y:Str):Prop:=∃p o n t u,v = .ref p/\h.get? p=some o/\o.cls = .type "tuple"/\o.data = .seq #[.str x t,.str y u] n
theorem MK.key{h:H_}{v:A2}{x y:Str}(z:MK h v x y):NP h v=some (x.cps.toList,y.cps.toList):=by
 obtain⟨p,o,n,t,u,rfl,e,c,d⟩:=z;show(h.get? p).bind (fun o=>Rz o.cls o.data)=_;rw[e];show Rz o.cls o.data=_;rw[d,c];unfold Rz;exact(AL rfl).trans rfl
theorem zBf{l:A1 A2}{k:A1 Nat×A1 Nat}(e:Qu l=some k):∃x t y u,l = [.str x t,.str y u]:=by
 match l,e with
 | [.str x t,.str y u],_=>exact⟨x,t,y,u,rfl⟩
theorem Ss{h:H_}{v:A2}{k:A1 Nat×A1 Nat}(e:NP h v=some k):∃x y,MK h v x y:=by
 match v,e with
 | .ref p,e =>
  have g:(h.get? p).bind (fun o=>Rz o.cls o.data)=some k:=e;obtain⟨o,i,b⟩:=HE.mp g;cases d:o.data with
  | seq f n =>
   rw[d]at b;have a:(if o.cls = .type "tuple" then Qu f.toList else none)=some k:=b;by_cases c:o.cls = .type "tuple"
   .rw[AL c]at a;obtain⟨x,t,y,u,j⟩:=zBf a;refine⟨x,y,p,o,n,t,u,rfl,i,c,?_⟩;rw[d];have:f = #[.str x t,.str y u]:=by rw[<-Array.toList_inj,j]
    rw[this]
   .rw[AJ c]at a;cases a
  | _=>rw[d]at b;cases b
theorem Ko{h:H_}{v:A2}{k:A1 Nat×A1 Nat}{x y:Str}(z:MK h v x y)(e:NP h v=some k):k =(x.cps.toList,y.cps.toList):=by
 rw[z.key]at e;exact(BE e).symm
theorem QC{a:A3}{vs:A1 A2}{F:H_}(B:∀v∈vs,∃x y,MK F v x y)(C:∀b o,F.get? b=some o->b≠a/\s.heap.get? b=some o) :
  RP prog w a s (pairKind F) (tuples' true) vs:=by
 refine⟨fun A G J=>⟨fun x y k l Q E O P q=>?_⟩,fun v K=>?_,fun h2 A E G Q J q=>?_⟩
 .obtain⟨g,m,R⟩:=Ss O;obtain⟨f,i,S⟩:=Ss P;have Y:=Ko R O;have Z:=Ko S P;subst Y Z;obtain⟨px,ox,nx,t1,u1,rfl,U,_,d1⟩:=R;obtain⟨py,oy,ny,t2,u2,rfl,V,_,d2⟩:=S;have f1:=J _ _ (C _ _ U).1 (C _ _ U).2;have f2:=J _ _ (C _ _ V).1 (C _ _ V).2;refine PySem.W.kat_lt f1 d1 f2 d2 ?_;show PySem.W.KatLex prog w A true _ Q [(.str g t1,.str f t2),(.str m u1,.str i u2)] 0 G;refine PySem.W.kat_cons (wpAny_eqBool_str (PySem.W.kat_go (fun j=>?_) fun j=>?_))
  .have j:g=f:=by simpa using j
   refine PySem.W.kat_yes (PySem.W.kat_cons (wpAny_eqBool_str (PySem.W.kat_go (fun h=>?_) fun h=>?_)))
   .have h:m=i:=by simpa using h
    refine PySem.W.kat_yes (PySem.W.kat_nil ?_);have:LE (g.cps.toList,m.cps.toList) (f.cps.toList,i.cps.toList)=decide (2<2):=by
     rw[j,h];exact(pairKind F).irrefl (f.cps.toList,i.cps.toList)
    show Q (decide (2<2)) G;rw[<-this];exact q
   .refine PySem.W.kat_no (PySem.W.kat_one _ _ (lt_str ?_));have:LE (g.cps.toList,m.cps.toList) (f.cps.toList,i.cps.toList)=decide (m.cps.toList<i.cps.toList):=by
     rw[j];unfold LE;simp[List.lt_irrefl]
    show Q (decide (m.cps.toList<i.cps.toList)) G;rw[<-this];exact q
  .have j:¬g=f:=by simpa using j
   refine PySem.W.kat_no (oneLt_str ?_);have L:¬g.cps.toList=f.cps.toList:=fun z=>j (by cases g;cases f;simp at z;simp[z]);have:LE (g.cps.toList,m.cps.toList) (f.cps.toList,i.cps.toList)=decide (g.cps.toList<f.cps.toList):=by
    unfold LE;simp[L]
   rw[<-this];exact q
 .obtain⟨x,y,z⟩:=B v K;exact⟨_,z.key⟩
 .have hT:∀(H:A1 A2),(∀v∈H,∃x y,MK F v x y)->∃D,PySem.W.KatTups G.heap H D/\D.length=H.length/\∀v∈D,∃x t,v = .str x t:=by
   intro H
   induction H with
   | nil=>exact fun _=>⟨[],.nil,rfl,fun v B=>by simp at B⟩
   | cons v r ih =>
    intro I;obtain⟨D,M,X,N⟩:=ih fun u hu=>I u (BF _ hu);obtain⟨x,y,p,o,n,t,u,rfl,e,c,d⟩:=I v (BP ..);refine⟨.str x t::D,.cons (J _ _ (C _ _ e).1 (C _ _ e).2) c d rfl M,by simp[X],fun z hz=>?_⟩;rcases AR.mp hz with rfl | hz
    .exact⟨x,t,rfl⟩
    .exact N z hz
  obtain⟨D,M,X,N⟩:=hT vs B;refine PySem.W.kat_kind (T:=.type "str") M (by omega) (fun v B=>?_) (by rfl) q;obtain⟨x,t,rfl⟩:=N v B;exact .now
end
end TS
set_option Elab.async false
namespace L2
open PySem PySem.Spec PyProof.Rows
abbrev IR:=Sum Int Str
def Fx:IR->A2->Bool
 | .inl k,v=>Value.isInt k v
 | .inr x,v=>Value.isStrOf x v
def zFt(w:HW):IR->Int
 | .inl k=>hashInt k
 | .inr x=>hashStr w x
def E8:∀{k:IR} {v:A2},Fx k v=true->(∃i t,k=Sum.inl i/\v=Value.int i t)\/(∃x t,k=Sum.inr x/\v=Value.str x t)
 | .inl i,v,h=>by
  obtain⟨t,e⟩:=Value.isInt_shape (k:=i) (v:=v) h;exact .inl ⟨i,t,rfl,e⟩
 | .inr x,v,h=>by
  obtain⟨t,e⟩:=Value.isStrOf_shape (x:=x) (v:=v) h;exact .inr ⟨x,t,rfl,e⟩
def Ou(i:Int)(t:Tok):Fx (.inl i) (.int i t)=true:=by simp[Fx,Value.isInt]
def Ol(x:Str)(t:Tok):Fx (.inr x) (.str x t)=true:=by simp[Fx,Value.isStrOf]
def zBy(a b:Int):decide ((Sum.inl a:IR)=Sum.inl b) =(a == b):=by
 by_cases e:a=b
 .subst e;simp
 .have h:¬(Sum.inl a:IR)=Sum.inl b:=fun q=>e (Sum.inl.inj q);rw[BD h];exact(beq_eq_false_iff_ne.mpr e).symm
def zBd(a b:Str):decide ((Sum.inr a:IR)=Sum.inr b)=decide (a=b):=by
 by_cases e:a=b
 .subst e;simp
 .have h:¬(Sum.inr a:IR)=Sum.inr b:=fun q=>e (Sum.inr.inj q);rw[BD h,BD e]
def zBr(a:Int)(b:Str):decide ((Sum.inl a:IR)=Sum.inr b)=false:=BD (fun q=>nomatch q)
def zBo(a:Str)(b:Int):decide ((Sum.inr a:IR)=Sum.inl b)=false:=BD (fun q=>nomatch q)
def C7(prog:A7)(w:HW):PySem.KeyKind prog w IR where
 is:=Fx
 hash:=zFt w
 inj:=fun v a b g f=>by
  rcases E8 g with⟨i,t,rfl,rfl⟩ | ⟨x,t,rfl,rfl⟩
  .rcases E8 f with⟨j,u,rfl,e⟩ | ⟨y,u,rfl,e⟩
   .injection e with c _;rw[c]
   .exact nomatch e
  .rcases E8 f with⟨j,u,rfl,e⟩ | ⟨y,u,rfl,e⟩
   .exact nomatch e
   .injection e with c _;rw[c]
 byValue:=fun k v h=>by
  rcases E8 h with⟨i,t,rfl,rfl⟩ | ⟨x,t,rfl,rfl⟩<;>rfl
 pyHash:=fun d h=>by
  rcases E8 d with⟨i,t,rfl,rfl⟩ | ⟨x,t,rfl,rfl⟩
  .exact wpAny_pyHash_int h
  .exact wpAny_pyHash_str h
 eqBool:=fun l d h=>by
  rcases E8 l with⟨i,t,rfl,rfl⟩ | ⟨x,t,rfl,rfl⟩
  .rcases E8 d with⟨j,u,rfl,rfl⟩ | ⟨y,u,rfl,rfl⟩
   .rw[zBy]at h;exact wpAny_eqBool_int h
   .rw[zBr]at h;exact SeqAt.EqAt.int_str i t y u _ _ _ _ h
  .rcases E8 d with⟨j,u,rfl,rfl⟩ | ⟨y,u,rfl,rfl⟩
   .rw[zBo]at h;exact SeqAt.EqAt.str_int x t j u _ _ _ _ h
   .rw[zBd]at h;exact wpAny_eqBool_str h
 «strs»:=fun k x t v h=>by
  rcases E8 h with⟨i,u,rfl,e⟩ | ⟨y,u,rfl,e⟩
  .exact nomatch e
  .injection e with c _;subst c;cases v<;>rfl
def Io(prog:A7)(w:HW)(i:Int)(t:Tok):(C7 prog w).is (.inl i) (.int i t)=true:=Ou i t
def Ji(prog:A7)(w:HW)(x:Str)(t:Tok):(C7 prog w).is (.inr x) (.str x t)=true:=Ol x t
inductive V where
 | non | bl (b:Bool) | int (i:Int) | str (x:Str) | byt (b:F1 UInt8) | flt (b:UInt64) | ref (a:A3) | ty (n:String)
 deriving DecidableEq
def RelV:V->A2->Prop
 | .non,u=>u=Value.none
 | .bl b,u=>u=Value.bool b
 | .int i,u=>∃t,u=Value.int i t
 | .str x,u=>∃t,u=Value.str x t
 | .byt b,u=>∃t,u=Value.bytes b t
 | .flt b,u=>∃t,u=Value.float b t
 | .ref a,u=>u=Value.ref a
 | .ty n,u=>u=Value.type n
abbrev IH:A1 V->A1 A2->Prop:=Paired RelV
def IH.length{xs:A1 V}{us:A1 A2}(r:IH xs us):xs.length=us.length:=Paired.length r
def IH.get:∀{xs:A1 V} {us:A1 A2} {i:Nat} {x:V},IH xs us->xs[i]?=some x->∃u,us[i]?=some u/\RelV x u
 | _,_,_,_,.nil,e=>by simp at e
 | _,_,0,_,.cons r _,e=>by simp at e;subst e;exact⟨_,rfl,r⟩
 | _,_,i+1,x,.cons _ t,e=>by
  obtain⟨u,a,b⟩:=IH.get (i:=i) (x:=x) t (by simpa using e);exact⟨u,by simpa using a,b⟩
def IH.set{x:V}{u:A2}(r:RelV x u):∀{xs:A1 V} {us:A1 A2} (i:Nat),IH xs us->IH (xs.set i x) (us.set i u)
 | _,_,_,.nil=>.nil
 | _,_,0,.cons _ t=>.cons r t
 | _,_,i+1,.cons q t=>.cons q (IH.set r i t)
def IH.append:∀{xs a:A1 V} {us b:A1 A2},IH xs us->IH a b->IH (xs++a) (us++b)
 | _,_,_,_,.nil,s=>s
 | _,_,_,_,.cons r t,s=>.cons r (IH.append t s)
def IH.take:∀{xs:A1 V} {us:A1 A2} (n:Nat),IH xs us->IH (xs.take n) (us.take n)
 | _,_,0,_=>.nil
 | _,_,_+1,.nil=>.nil
 | _,_,n+1,.cons r t=>.cons r (IH.take n t)
def IH.drop:∀{xs:A1 V} {us:A1 A2} (n:Nat),IH xs us->IH (xs.drop n) (us.drop n)
 | _,_,0,r=>r
 | _,_,_+1,.nil=>.nil
 | _,_,n+1,.cons _ t=>IH.drop n t
def MP:A5 V->A5 A2->Prop
 | some v,some u=>RelV v u
 | none,none=>True
 | _,_=>False
def KV{κ:Type}:A1 (κ×V)->A1 (κ×A2)->Prop:=Paired fun(p:κ×V) (q:κ×A2)=>p.1=q.1/\RelV p.2 q.2
def kV:IR->V
 | .inl i=>.int i
 | .inr x=>.str x
inductive HO where
 | lst (xs:A1 V)
 | tup (xs:A1 V)
 | dK (kvs:A1 (IR×V)) | dT (kvs:A1 (A1 IR×V))
 | set (S:Int->Bool) (n:Nat)
 | ins (C dx:A3) (fs:A1 (Str×V))
 | own (x:A3)
 | xd (fs:A1 (Str×V))
 | met (f x:A3)
 | rng (lo hi:Int)
 | frz (o:Obj) (u:HO)
 | tbl (ps:F1 A2)
 | ext (φ:H_->Prop)
set_option genInjectivity false
abbrev Hp:=A3->A5 HO
def HX(H:Hp)(a:A3)(o:HO):Hp:=fun b=>if b=a then some o else H b
def A9{H:Hp}{a:A3}{o:HO}:HX H a o a=some o:=by unfold HX;rw[AL rfl]
def B6{H:Hp}{a b:A3}{o:HO}(h:b≠a):HX H a o b=H b:=by unfold HX;rw[AJ h]
def P2{H:Hp}{a b:A3}{o u:HO}(h:H a=some o)(h':H b=some u)(d:o≠u):a≠b:=by
 intro e;subst e;rw[h]at h';exact d (BE h')
def B2{H:Hp}{a b:A3}{o:HO}(h:H a=some o)(h':H b=none):a≠b:=by
 intro e;subst e;rw[h]at h';cases h'
section
variable(P:A7)(w:HW)
def IK(H:Hp)(h:H_)(a:A3):HO->Prop
 | .lst d=>d.length<=sizeLine/\∃(b:A1 A2) (n:Nat),IH d b/\h.get? a=some { cls:=.type "list",data:=.seq b.toArray n }
 | .tup d=>d.length<=sizeLine/\∃b:A1 A2,IH d b/\IsTup h a b.toArray
 | .dK c=>c.length<=sizeLine/\(a == sysModules)=false/\∃j,KV c j/\h.DictOf (C7 P w) a j
 | .dT c=>c.length<=sizeLine/\(a == sysModules)=false/\∃d:A1 (A1 IR×A3×A2),
   Paired (fun(p:A1 IR×V) (q:A1 IR×A3×A2)=>p.1=q.1/\H q.2.1=some (.tup (p.1.map kV))/\RelV p.2 q.2.2) c d /\
   ∃o k r,h.get? a=some o/\o.ExactDict/\o.data = .dict k r/\k.toList=d.map (entryOfKey (tupleKind (C7 P w)))/\(d.map (·.1)).Nodup
 | .set S n=>h.SetOf (intKind P w) a S n
 | .ins C i g=>H i=some (.own a)/\g.length<=1000/\i≠a/\h.get? a=some (PySem.W.instObj C i) /\
   ∃e,h.Ns1 i e/\(∀f,MP (g.lookup f) (e f))/\PySem.Within e (g.map (·.1))
 | .own _=>∃o,h.get? a=some o
 | .xd g=>∃e,h.Ns1 a e/\∀f,MP (g.lookup f) (e f)
 | .rng lo s=>∃t u v,h.get? a=some { cls:=.type "range",data:=.fields #[.int lo t,.int s u,.int 1 v] }
 | .frz o u=>h.get? a=some o/\IK H h a u
 | .tbl y=>h.get? a=some { cls:=.none,data:=.fields y }
 | .met f x=>h.get? a=some (PySem.W.methodObj (.ref f) (.ref x))
 | .ext φ=>φ h/\(∃o,h.get? a=some o)/\∀l m:H_,φ l->(∀o,l.get? a=some o->m.get? a=some o)->φ m
def MC(H:Hp)(h:H_):Prop:=∀a o,H a=some o->IK P w H h a o
end
section
variable{P:A7}{w:HW}{H H':Hp}{h h':H_}{a:A3}{o:HO}
theorem IK.lt(x:IK P w H h a o):a<h.objs.size:=by
 cases o with
 | lst c=>obtain⟨_,_,_,_,e⟩:=x;exact AI e
 | tup c=>obtain⟨_,_,_,p⟩:=x;exact p.lt
 | dK b=>obtain⟨_,_,_,_,o,_,_,e,_⟩:=x;exact AI e
 | dT b=>obtain⟨_,_,_,_,o,_,_,e,_⟩:=x;exact AI e
 | set S n=>obtain⟨o,_,_,_,e,_⟩:=x;exact AI e
 | ins C g d=>obtain⟨_,_,_,e,_⟩:=x;exact AI e
 | own y=>obtain⟨_,e⟩:=x;exact AI e
 | xd d=>obtain⟨_,⟨_,_,_,e,_⟩,_⟩:=x;exact AI e
 | rng lo i=>obtain⟨_,_,_,e⟩:=x;exact AI e
 | frz j u=>obtain⟨e,_⟩:=x;exact AI e
 | tbl k=>exact AI (show h.get? a=some _ from x)
 | met f y=>exact AI (show h.get? a=some _ from x)
 | ext φ=>obtain⟨_,⟨_,e⟩,_⟩:=x;exact AI e
theorem Paired.mapP{α β:Type}{F G:α->β->Prop}:∀{l₁:A1 α} {l₂:A1 β},Paired F l₁ l₂->(∀a b,F a b->G a b)->Paired G l₁ l₂
 | _,_,.nil,_=>.nil
 | _,_,.cons r t,f=>.cons (f _ _ r) (Paired.mapP t f)
theorem IK.stay(x:IK P w H h a o)(k:∀b u,(b=a\/H b=some (.own a))->h.get? b=some u->h'.get? b=some u)
  (D:∀b,H b=some (.own a)->H' b=some (.own a)) (E:∀b xs,H b=some (.tup xs)->H' b=some (.tup xs)):IK P w H' h' a o:=by
 induction o with
 | lst xs=>obtain⟨z,l,n,r,e⟩:=x;exact⟨z,l,n,r,k _ _ (.inl rfl) e⟩
 | tup xs=>obtain⟨z,l,r,g,e,c⟩:=x;exact⟨z,l,r,g,k _ _ (.inl rfl) e,c⟩
 | dK m=>obtain⟨z,y,F,r,g,i,j,e,c⟩:=x;exact⟨z,y,F,r,g,i,j,k _ _ (.inl rfl) e,c⟩
 | dT m =>
  obtain⟨z,y,xs,r,g,i,j,e,c⟩:=x;exact⟨z,y,xs,Paired.mapP r fun p q z=>⟨z.1,E _ _ z.2.1,z.2.2⟩,g,i,j,k _ _ (.inl rfl) e,c⟩
 | set S n=>obtain⟨g,i,j,t,e,c⟩:=x;exact⟨g,i,j,t,k _ _ (.inl rfl) e,c⟩
 | ins C L G =>
  obtain⟨d,z,I,e,s,⟨A,i,j,J,c⟩,r⟩:=x;exact⟨D _ d,z,I,k _ _ (.inl rfl) e,s,⟨A,i,j,k _ _ (.inr d) J,c⟩,r⟩
 | own y=>obtain⟨g,e⟩:=x;exact⟨g,k _ _ (.inl rfl) e⟩
 | xd G=>obtain⟨s,⟨A,i,j,e,c⟩,r⟩:=x;exact⟨s,⟨A,i,j,k _ _ (.inl rfl) e,c⟩,r⟩
 | rng lo M=>obtain⟨t,u,v,e⟩:=x;exact⟨t,u,v,k _ _ (.inl rfl) e⟩
 | frz g u K=>obtain⟨e,q⟩:=x;exact⟨k _ _ (.inl rfl) e,K q⟩
 | tbl B =>
  have e:h.get? a=some { cls:=.none,data:=.fields B }:=x;show h'.get? a=some { cls:=.none,data:=.fields B };exact k a _ (.inl rfl) e
 | met f y =>
  have e:h.get? a=some (PySem.W.methodObj (.ref f) (.ref y)):=x;show h'.get? a=some (PySem.W.methodObj (.ref f) (.ref y));exact k a _ (.inl rfl) e
 | ext φ=>obtain⟨p,⟨o,e⟩,st⟩:=x;exact⟨st _ _ p fun o q=>k _ _ (.inl rfl) q,⟨o,k _ _ (.inl rfl) e⟩,st⟩
theorem MC.lt(x:MC P w H h)(e:H a=some o):a<h.objs.size:=(x a o e).lt
theorem MC.fresh(x:MC P w H h)(e:h.objs.size<=a):H a=none:=by
 cases q:H a with
 | none=>rfl
 | some u=>exact absurd (BG (x.lt q) e) (DP _)
theorem MC.kept(x:MC P w H h)(k:∀b u,h.get? b=some u->h'.get? b=some u):MC P w H h':=fun a o e =>
 (x a o e).stay (fun b u _ q=>k b u q) (fun _ q=>q) fun _ _ q=>q
theorem MC.laid(x:MC P w H h)(k:∀b u,h.get? b=some u->h'.get? b=some u)(i:h.objs.size<=a)(d:IK P w (HX H a o) h' a o):MC P w (HX H a o) h':=fun b u e=>by
 have f:=x.fresh i;by_cases g:b=a
 .subst g;rw[A9]at e;cases e;exact d
 .rw[B6 g]at e;exact(x b u e).stay (fun c v _ q=>k c v q) (fun c q=>by rw[B6 (B2 q f)];exact q) fun c j q=>by rw[B6 (B2 q f)];exact q
end
def Rd(H:Hp)(a:A3)(u:HO):Prop:=H a=some u\/∃o,H a=some (.frz o u)
def Rd.ok{P:A7}{w:HW}{H:Hp}{h:H_}{a:A3}{u:HO}(r:Rd H a u)(x:MC P w H h):IK P w H h a u:=by
 rcases r with r | ⟨o,r⟩
 .exact x a u r
 .obtain⟨_,q⟩:=x a _ r;exact q
def TH:A5 HO->Prop
 | some (.lst _)=>True
 | some (.dK _)=>True
 | some (.dT _)=>True
 | some (.set _ _)=>True
 | some (.ins _ _ _)=>True
 | some (.ext _)=>True
 | _=>False
section
variable{P:A7}{w:HW}{H:Hp}{h h':H_}{x e:A3}{o':HO}
theorem MC.write(p:MC P w H h)(g:TH (H x))(n:e=x\/H e=some (.own x))(k:∀b u,b≠e->h.get? b=some u->h'.get? b=some u)(l:∃u,h'.get? e=some u)
  (m:IK P w (HX H x o') h' x o'):MC P w (HX H x o') h':=fun b u q=>by
 have d:∀c y,H c=some (.own y)->c≠x:=fun c y r z=>by subst z;rw[r]at g;exact g
 have f:∀c i,H c=some (.tup i)->c≠x:=fun c i r z=>by subst z;rw[r]at g;exact g
 by_cases j:b=x
 .subst j;rw[A9]at q;cases q;exact m
 .rw[B6 j]at q;by_cases a:b=e
  .have o:H b=some (.own x):=by
    rcases n with z | z
    .exact absurd (a.trans z) j
    .rw[a];exact z
   rw[q]at o;cases o;obtain⟨v,s⟩:=l;exact⟨v,by rw[a];exact s⟩
  .refine(p b u q).stay (fun c v hc r=>k c v ?_ r) (fun c r=>by rw[B6 (d c b r)];exact r) fun c i r=>by rw[B6 (f c i r)];exact r
   rcases hc with rfl | hc
   .exact a
   .rintro rfl;rcases n with z | z
    .exact d c b hc z
    .rw[hc]at z;cases z;exact j rfl
end
structure Un(fs ex:A1 A3)(H H':Hp)(h h':H_):Prop where
 keep:∀b o,h.get? b=some o->H b=none->b∉fs->b∉ex->h'.get? b=some o
 slot:∀b o,h.get? b=some o->H b=none->b∈fs->b∉ex->∃sl,h'.get? b=some { o with slots:=sl }
 free:∀b o,h.get? b=some o->H b=none->b∉ex->H' b=none
 there:∀b o,h.get? b=some o->b∉ex->∃o',h'.get? b=some o'
 tups:∀b xs,H b=some (.tup xs)->H' b=some (.tup xs)
 frzs:∀b o u,H b=some (.frz o u)->H' b=some (.frz o u)
 tbls:∀b ps,H b=some (.tbl ps)->∃more,H' b=some (.tbl (ps++more))
section
variable{fs fs' ex ex':A1 A3}{H H1 H2:Hp}{h h1 h2 h':H_}{a x e:A3}{o:HO}
theorem Un.any(u:Un fs ex H H1 h h1){b:A3}{ob:Obj}(q:h.get? b=some ob)(n:H b=none)(a:b∉ex):∃d,h1.get? b=some { ob with slots:=d }:=by
 by_cases c:b∈fs
 .exact u.slot b ob q n c a
 .exact⟨ob.slots,u.keep b ob q n c a⟩
theorem Un.kept(k:∀b u,h.get? b=some u->h'.get? b=some u):Un fs ex H H h h' :=
 ⟨fun b a q _ _ _=>k b a q,fun b a q _ _ _=>⟨a.slots,k b a q⟩,fun _ _ _ n _=>n,fun b a q _=>⟨a,k b a q⟩,fun _ _ q=>q,fun _ _ _ q=>q,fun _ c q=>⟨#[],by rw[q];simp⟩⟩
theorem Un.refl:Un fs ex H H h h:=Un.kept fun _ _ q=>q
theorem Un.laid(k:∀b u,h.get? b=some u->h'.get? b=some u)(d:h.objs.size<=a)(c:H a=none):Un fs ex H (HX H a o) h h' where
 keep:=fun b u q _ _ _=>k b u q
 slot:=fun b u q _ _ _=>⟨u.slots,k b u q⟩
 free:=fun b u q n _=>by rw[B6 (AX (BG (AI q) d))];exact n
 there:=fun b u q _=>⟨u,k b u q⟩
 tups:=fun b e q=>by rw[B6 (B2 q c)];exact q
 frzs:=fun b u e q=>by rw[B6 (B2 q c)];exact q
 tbls:=fun b f q=>⟨#[],by rw[B6 (B2 q c),q];simp⟩
theorem Un.write(c:TH (H x))(j:e=x\/H e=some (.own x))(k:∀b u,b≠e->h.get? b=some u->h'.get? b=some u)(d:∃u,h'.get? e=some u):Un fs ex H (HX H x o) h h':=by
 have g:∀b,H b=none->b≠x:=fun b n z=>by subst z;rw[n]at c;exact c
 have i:∀b,H b=none->b≠e:=fun b n z=>by
  subst z;rcases j with r | r
  .exact g b n r
  .rw[n]at r;cases r
 have f:∀b u,H b=some u->¬TH (some u)->b≠x:=fun b u q l z=>by subst z;rw[q]at c;exact l c
 refine⟨fun b u q n _ _=>k b u (i b n) q,fun b u q n _ _=>⟨u.slots,k b u (i b n) q⟩,fun b u q n _=>by rw[B6 (g b n)];exact n,fun b u q _=>?_,
  fun b m q=>by rw[B6 (f b _ q fun z=>z)];exact q,fun b u m q=>by rw[B6 (f b _ q fun z=>z)];exact q,fun b p q=>⟨#[],by rw[B6 (f b _ q fun z=>z),q];simp⟩⟩
 by_cases a:b=e
 .subst a;exact d
 .exact⟨u,k b u a q⟩
end
def trk(h:H_)(H:Hp):A1 A3:=(List.range h.objs.size).filter fun a=>(H a).isSome
def Tf(h:H_)(H:Hp):H_:=PySem.W.hideAll h (trk h H)
def Hl(h:H_)(H:Hp):(Tf h H).objs.size=h.objs.size:=PySem.W.hideAll_size _ _
def y3{h:H_}{H:Hp}{b:A3}{o:Obj}(e:h.get? b=some o)(n:H b=none):(Tf h H).get? b=some o :=
 PySem.W.hideAll_get _ e fun a=>by
  have q:(H b).isSome=true:=(BM.mp a).2;rw[n]at q;simp at q
def Ow{h:H_}{H:Hp}{b:A3}{o:Obj}(e:(Tf h H).get? b=some o):h.get? b=some o/\H b=none:=by
 have a:h.get? b=some o:=PySem.W.of_hideAll (trk h H) e;refine⟨a,?_⟩;cases q:H b with
 | none=>rfl
 | some x =>
  have c:b∈trk h H:=BM.mpr ⟨BX.mpr (AI a),by simp[q]⟩;have z:(Tf h H).get? b=none:=PySem.W.hideAll_none (trk h H) c;rw[z]at e;cases e
structure Mod(K:PySem.W.Frag)(mg:Str->A5 A2)(base:H_):Prop where
 kin:K.In base
 glob:base.Ns mainGlobals mg
 blt:∃mb,base.Ns builtinsNs mb/\∀x:Str,x≠ "__name__"->mb x=bootBuiltins x
 nolimit:base.NoLimit
structure Cx where
 prog:A7
 w:HW
 K:PySem.W.Frag
 mg:Str->A5 A2
 base:H_
 A:IC
 N:A1 Str
 s₀:A4
 H₀:Hp
 env:P_
 outer:A1 P_
 stack:A1 P_
 ex:A1 A3
 fn:Str->Bool
 calm:Bool
 pn:A1 (A3×Obj)
 xe:A2->A4->Prop
def PP(l:A1 P_):A1 A3:=l.filterMap (·.frame)
abbrev Cx.fs(X:Cx):A1 A3:=PP X.outer
def S_(a:JB)(x:Str):Prop:=a.names.lookup x=some .local\/a.names.lookup x=some .cell\/a.names.lookup x=some .free
def Loc(a:JB)(x:Str):Prop:=a.names.lookup x=some .local\/a.names.lookup x=some .cell
def zGd(a:P_)(h:H_)(m:Str->A5 A2)(x:Str)(u:A2):Prop :=
 (a.kindOf x=some .local/\m x=some u)\/((a.kindOf x=some .cell\/a.kindOf x=some .free)/\∃c,a.cells.lookup x=some c/\h.IsCell c (some u))
structure Cx.Ok(X:Cx):Prop where
 mod:Mod X.K X.mg X.base
 kind:X.env.scope.kind = .function
 glob:X.env.globals=mainGlobals
 blt:X.env.builtins=builtinsNs
 above:X.s₀.heap.objs.size<=X.env.locals
 inj:∀x y c,X.env.cells.lookup x=some c->X.env.cells.lookup y=some c->x=y
 has:∀x,(X.env.kindOf x=some .cell\/X.env.kindOf x=some .free)->∃c,X.env.cells.lookup x=some c
 cab:∀x c,X.fn x=true->X.env.cells.lookup x=some c->X.s₀.heap.objs.size<=c
 hd:X.calm=true->X.A.handled=none
 frames:X.A.frames=some X.stack
 stk:X.stack=X.outer\/(X.stack=X.env::X.outer/\X.env.frame=some X.env.locals)
 exf:∀b∈X.ex,b≠X.env.locals/\∀x c,X.env.cells.lookup x=some c->c≠b
 bs:∀b o,X.base.get? b=some o->X.s₀.heap.get? b=some o/\X.H₀ b=none
 bsz:X.base.objs.size<=X.s₀.heap.objs.size
 noex:∀b o,X.base.get? b=some o->b∉X.ex
 exfs:∀b∈X.ex,b∉X.fs
 funs:X.s₀.heap.FunFrames X.base X.outer
 frf:∀b∈X.fs,X.H₀ b=none
structure Inv(X:Cx)(pins:A1 (A3×Obj))(σ:A1 (A5 V))(H:Hp)(s:A4):Prop where
 ok:X.Ok
 os:s.os=X.s₀.os
 bare:AllBare s.gens
 base:Un X.fs X.ex X.H₀ H X.s₀.heap s.heap
 loc:∃m,s.heap.Ns X.env.locals m/\∀(i:Nat) (x:Str) (v:V),X.N[i]?=some x->σ[i]?=some (some v)->S_ X.env.scope x->∃u,RelV v u/\zGd X.env s.heap m x u
 cell:∀x c,X.env.cells.lookup x=some c->∃v,s.heap.IsCell c v
 free:H X.env.locals=none
 freeC:∀x c,X.env.cells.lookup x=some c->H c=none
 pin:∀p∈X.pn++pins,s.heap.get? p.1=some p.2/\H p.1=none/\p.1≠X.env.locals/\p.1∉X.fs/\∀v,p.2.data≠ .cell v
 hok:MC X.prog X.w H s.heap
 len:σ.length=X.N.length
section
variable{X:Cx}{pins:A1 (A3×Obj)}{σ:A1 (A5 V)}{H H':Hp}{s:A4}{h':H_}
theorem Cx.Ok.nofr(a:X.Ok){b:A3}{o:Obj}(e:X.base.get? b=some o):b∉X.fs:=fun c=>by
 have:=(a.funs.mem c).1;rw[e]at this;cases this
theorem Inv.bs(I:Inv X pins σ H s):∀b o,X.base.get? b=some o->s.heap.get? b=some o/\H b=none:=fun b o e =>
 ⟨I.base.keep b o (I.ok.bs b o e).1 (I.ok.bs b o e).2 (I.ok.nofr e) (I.ok.noex b o e),I.base.free b o (I.ok.bs b o e).1 (I.ok.bs b o e).2 (I.ok.noex b o e)⟩
theorem Inv.bk(I:Inv X pins σ H s):∀b o,X.base.get? b=some o->s.heap.get? b=some o:=fun b o e=>(I.bs b o e).1
theorem Inv.mod(I:Inv X pins σ H s):Mod X.K X.mg X.base:=I.ok.mod
theorem Inv.kIn(I:Inv X pins σ H s):X.K.In s.heap:=I.ok.mod.kin.keeps I.bk
theorem Inv.lt(I:Inv X pins σ H s):X.env.locals<s.heap.objs.size:=let⟨_,a,_⟩:=I.loc;a.lt
theorem Inv.sz(I:Inv X pins σ H s):X.s₀.heap.objs.size<=s.heap.objs.size:=Nat.le_trans I.ok.above (DR I.lt)
theorem Inv.nofs(I:Inv X pins σ H s){a:A3}(h:s.heap.objs.size<=a):a∉X.fs:=fun b=>by
 obtain⟨_,o,c,_⟩:=I.ok.funs.mem b;exact absurd (BG (AI c) (Nat.le_trans I.sz h)) (DP _)
theorem Inv.cne(I:Inv X pins σ H s):∀x c,X.env.cells.lookup x=some c->c≠X.env.locals:=fun x c e z=>by
 obtain⟨v,o,d,f⟩:=I.cell x c e;obtain⟨m,⟨g,h,i,a,b,_⟩,_⟩:=I.loc;rw[z,a]at d;cases d;rw[b]at f;cases f
theorem Inv.funs(I:Inv X pins σ H s):s.heap.FunFrames X.base X.outer:=by
 have a:∀(l:A1 P_),(∀b∈PP l,b∈X.fs)->X.s₀.heap.FunFrames X.base l->s.heap.FunFrames X.base l:=by
  intro l
  induction l with
  | nil=>intro _ _;trivial
  | cons h r i =>
   intro g j;obtain⟨k,⟨L,o,c,m,n,p⟩,q⟩:=j;have d:L∈X.fs:=g L (by unfold PP;rw[EB,c];exact BP);obtain⟨t,e⟩:=I.base.slot L o n (I.ok.frf L d) d fun z=>I.ok.exfs L z d;exact⟨k,⟨L,_,c,m,e,p⟩,i (fun b f=>g b (by unfold PP;rw[EB,c];exact BF _ f)) q⟩
 exact a X.outer (fun _ f=>f) I.ok.funs
theorem Inv.stack(I:Inv X pins σ H s):s.heap.FunFrames X.base X.stack:=by
 rcases I.ok.stk with e | ⟨e,a⟩
 .rw[e];exact I.funs
 .rw[e];obtain⟨m,b,_⟩:=I.loc;refine .cons (by rw[I.ok.kind];decide) a b ?_ I.funs;exact Heap.get?_none_of_le (Nat.le_trans I.ok.bsz I.ok.above)
theorem Inv.stkSub(I:Inv X pins σ H s):∀b∈PP X.stack,b∈X.env.locals::X.fs:=fun b a=>by
 rcases I.ok.stk with e | ⟨e,c⟩
 .rw[e]at a;exact BF _ a
 .rw[e]at a;unfold PP at a;rw[EB,c]at a;exact a
theorem Inv.stkFree(I:Inv X pins σ H s):∀b∈PP X.stack,H b=none:=fun b hb=>by
 rcases AR.mp (I.stkSub b hb)with e | hb
 .rw[e];exact I.free
 .obtain⟨_,o,a,_⟩:=I.ok.funs.mem hb;exact I.base.free b o a (I.ok.frf b hb) fun z=>I.ok.exfs b z hb
theorem Inv.step{g':F1 GenState}{t':Nat}{d':Drawn}{ch:A1 A3}(I:Inv X pins σ H s)
  (g:∀b∈ch,(b∈X.ex\/X.s₀.heap.objs.size<=b)/\b≠X.env.locals/\(∀x c,X.env.cells.lookup x=some c->c≠b)/\∀p∈X.pn++pins,p.1≠b)
  (h:∀b o,b≠X.env.locals->b∉X.fs->b∉ch->s.heap.get? b=some o->H b=none->h'.get? b=some o)
  (B:∀b o,b≠X.env.locals->b∈X.fs->b∉ch->s.heap.get? b=some o->H b=none->∃O,h'.get? b=some { o with slots:=O }) (f:∀b o,b∉ch->s.heap.get? b=some o->H b=none->H' b=none)
  (C:∀b o,b∉ch->s.heap.get? b=some o->∃F,h'.get? b=some F)
  (G:∀b xs,H b=some (.tup xs)->H' b=some (.tup xs)) (J:∀b o u,H b=some (.frz o u)->H' b=some (.frz o u)) (K:∀b N,H b=some (.tbl N)->∃more,H' b=some (.tbl (N++more)))
  (ns:∀m,s.heap.Ns X.env.locals m->h'.Ns X.env.locals m) (P:MC X.prog X.w H' h') (W:AllBare g') :
  Inv X pins σ H' { s with heap:=h',gens:=g',drawn:=d',toks:=t' }:=by
 have L:∀b o,X.s₀.heap.get? b=some o->b≠X.env.locals:=fun b o e=>AX (BG (AI e) I.ok.above);have y:∀b o,X.s₀.heap.get? b=some o->b∉X.ex->b∉ch:=fun b o e a D=>by
  rcases(g b D).1 with z | z
  .exact a z
  .exact absurd (BG (AI e) z) (DP _)
 have j:∀x c,X.env.cells.lookup x=some c->∀v,s.heap.IsCell c v->h'.IsCell c v:=fun x c e v ⟨o,E,Q⟩=>by
  have t:c∉ch:=fun z=>(g c z).2.2.1 x c e rfl;by_cases S:c∈X.fs
  .obtain⟨O,q⟩:=B c o (I.cne x c e) S t E (I.freeC x c e);exact⟨_,q,Q⟩
  .exact⟨o,h c o (I.cne x c e) S t E (I.freeC x c e),Q⟩
 refine⟨I.ok,I.os,W,⟨fun b o e n D a=>?_,fun b o e n D a=>?_,fun b o e n a=>?_,fun b o e a=>?_,fun b xs e=>G b xs (I.base.tups b xs e),fun b o xs e=>J b o xs (I.base.frzs b o xs e),fun b N e=>?_⟩,?_,fun x c e=>?_,?_,fun x c e=>?_,fun p T=>?_,P,I.len⟩
 .exact h b o (L b o e) D (y b o e a) (I.base.keep b o e n D a) (I.base.free b o e n a)
 .obtain⟨O,A⟩:=I.base.slot b o e n D a;obtain⟨R,M⟩:=B b _ (L b o e) D (y b o e a) A (I.base.free b o e n a);exact⟨R,M⟩
 .obtain⟨F,A⟩:=I.base.there b o e a;exact f b F (y b o e a) A (I.base.free b o e n a)
 .obtain⟨F,A⟩:=I.base.there b o e a;exact C b F (y b o e a) A
 .obtain⟨Y,A⟩:=I.base.tbls b N e;obtain⟨Z,M⟩:=K b _ A;exact⟨Y++Z,by rw[M,Array.append_assoc]⟩
 .obtain⟨m,hn,hl⟩:=I.loc;refine⟨m,ns m hn,fun i x v A M e3=>?_⟩;obtain⟨u,r,l⟩:=hl i x v A M e3;refine⟨u,r,?_⟩;rcases l with l | ⟨k,c,e,z⟩
  .exact .inl l
  .exact .inr ⟨k,c,e,j x c e _ z⟩
 .obtain⟨v,z⟩:=I.cell x c e;exact⟨v,j x c e v z⟩
 .obtain⟨m,⟨o,_,_,E,_⟩,_⟩:=I.loc;exact f _ o (fun z=>(g _ z).2.1 rfl) E I.free
 .obtain⟨v,o,E,Q⟩:=I.cell x c e;exact f c o (fun z=>(g c z).2.2.1 x c e rfl) E (I.freeC x c e)
 .obtain⟨e,n,U,V,d⟩:=I.pin p T;have t:p.1∉ch:=fun z=>(g p.1 z).2.2.2 p T rfl;exact⟨h p.1 p.2 U V t e n,f p.1 p.2 t e n,U,V,d⟩
theorem Inv.un{t':Nat}(I:Inv X pins σ H s)(u:Un X.fs [] H H' s.heap h')(c:MC X.prog X.w H' h'):Inv X pins σ H' { s with heap:=h',toks:=t' }:=by
 obtain⟨m,⟨o,l,p,h,r⟩,_⟩:=id I.loc;obtain⟨q,i⟩:=u.any h I.free (by simp);exact I.step (g':=s.gens) (d':=s.drawn) (ch:=[]) (fun _ z=>nomatch z) (fun b o _ d _ e n=>u.keep b o e n d (by simp)) (fun b o _ d _ e n=>u.slot b o e n d (by simp)) (fun b o _ e n=>u.free b o e n (by simp)) (fun b o _ e=>u.there b o e (by simp)) u.tups u.frzs u.tbls (fun t j=>by
  obtain⟨v,f,g,a,k⟩:=j;rw[h]at a;cases a;exact⟨_,f,g,i,k⟩) c I.bare
theorem Inv.call{g':F1 GenState}{t':Nat}{d':Drawn}{ch:A1 A3}(I:Inv X pins σ H s)(u:Un (PP X.stack) ch H H' s.heap h')(g:MC X.prog X.w H' h')(l:AllBare g')
  (d:∀b∈ch,(b∈X.ex\/X.s₀.heap.objs.size<=b)/\b≠X.env.locals/\(∀x c,X.env.cells.lookup x=some c->c≠b)/\∀p∈X.pn++pins,p.1≠b) :
  Inv X pins σ H' { s with heap:=h',gens:=g',drawn:=d',toks:=t' }:=by
 obtain⟨m,⟨o,y,A,k,r⟩,_⟩:=id I.loc;obtain⟨B,h⟩:=u.any k I.free fun z=>(d _ z).2.1 rfl;exact I.step (ch:=ch) d (fun b o h q a e n=>u.keep b o e n (fun z=>(AR.mp (I.stkSub b z)).elim h q) a) (fun b o _ _ a e n=>u.any e n a) (fun b o a e n=>u.free b o e n a) (fun b o a e=>u.there b o e a) u.tups u.frzs u.tbls (fun C t=>by
  obtain⟨D,i,j,f,v⟩:=t;rw[k]at f;cases f;exact⟨_,i,j,h,v⟩) g l
theorem Inv.turned{t':Nat}{a:A3}(I:Inv X pins σ H s)(k:∀b o,b≠a->s.heap.get? b=some o->h'.get? b=some o)(h:H a=none)(g:a≠X.env.locals)
  (h1:a∈X.ex\/X.s₀.heap.objs.size<=a) (h2:∀x c,X.env.cells.lookup x=some c->c≠a) (i:∀p∈X.pn++pins,p.1≠a):Inv X pins σ H { s with heap:=h',toks:=t' }:=by
 have f:∀b u,H b=some u->b≠a:=fun b u e z=>by rw[z,h]at e;cases e
 refine I.step (g':=s.gens) (d':=s.drawn) (ch:=[a]) (fun b j=>?_) (fun b o _ _ d e _=>k b o (fun z=>d (by simp[z])) e) (fun b o _ _ d e _=>⟨o.slots,k b o (fun z=>d (by simp[z])) e⟩) (fun _ _ _ _ n=>n)
  (fun b o d e=>⟨o,k b o (fun z=>d (by simp[z])) e⟩) (fun _ _ e=>e) (fun _ _ _ e=>e) (fun b A e=>⟨#[],by rw[e];simp⟩) (fun m l=>?_) (fun b u e=>?_) I.bare
 .have e:b=a:=by simpa using j
  subst e;exact⟨h1,g,h2,i⟩
 .obtain⟨o,t,w,y,r⟩:=l;exact⟨o,t,w,k _ o (Ne.symm g) y,r⟩
 .refine(I.hok b u e).stay (fun c v d q=>k c v ?_ q) (fun _ q=>q) fun _ _ q=>q;rcases d with z | z
  .rw[z];exact f b u e
  .exact f c _ z
theorem Inv.tok(I:Inv X pins σ H s)(t:Nat):Inv X pins σ H { s with toks:=t }:=I.un (h':=s.heap) (t':=t) Un.refl I.hok
theorem Inv.kept{t':Nat}(I:Inv X pins σ H s)(k:∀b u,s.heap.get? b=some u->h'.get? b=some u):Inv X pins σ H { s with heap:=h',toks:=t' }:=I.un (Un.kept k) (I.hok.kept k)
theorem Inv.laid{a:A3}{o:HO}{t':Nat}(I:Inv X pins σ H s)(k:∀b u,s.heap.get? b=some u->h'.get? b=some u)(c:s.heap.objs.size<=a)(d:IK X.prog X.w (HX H a o) h' a o) :
  Inv X pins σ (HX H a o) { s with heap:=h',toks:=t' }:=I.un (Un.laid k c (I.hok.fresh c)) (I.hok.laid k c d)
theorem Inv.write{x e:A3}{o:HO}{t':Nat}(I:Inv X pins σ H s)(d:TH (H x))(f:e=x\/H e=some (.own x))(k:∀b u,b≠e->s.heap.get? b=some u->h'.get? b=some u)(a:∃u,h'.get? e=some u)
  (c:IK X.prog X.w (HX H x o) h' x o):Inv X pins σ (HX H x o) { s with heap:=h',toks:=t' }:=I.un (Un.write d f k a) (I.hok.write d f k a c)
theorem Inv.pins_of{a:A1 (A3×Obj)}(I:Inv X pins σ H s)(h:∀p∈a,s.heap.get? p.1=some p.2/\H p.1=none/\p.1≠X.env.locals/\p.1∉X.fs/\∀v,p.2.data≠ .cell v):Inv X a σ H s :=
 ⟨I.ok,I.os,I.bare,I.base,I.loc,I.cell,I.free,I.freeC,fun p b=>(AW.mp b).elim (fun z=>I.pin p (EQ _ z)) (h p),I.hok,I.len⟩
theorem Mh{N:A1 Str}(c:N.Nodup){i j:Nat}{x:Str}(a:N[i]?=some x)(b:N[j]?=some x):i=j:=by
 obtain⟨f,d⟩:=AE.mp a;obtain⟨g,e⟩:=AE.mp b;exact(List.getElem_inj c).mp (d.trans e.symm)
theorem Gh{M:Model}{A:IC}{E:A2->A4->Prop}{i:Nat}{x:Str}{v:V}{u:A2}{Q:Unit->A4->Prop}(I:Inv X pins σ H s)(hN:X.N.Nodup)(hi:X.N[i]?=some x)(t:Loc X.env.scope x)(r:RelV v u)
  (h:∀W,Inv X pins (σ.set i (some v)) H W->(∃a,Heap.SameBut a s.heap W.heap/\(a=X.env.locals\/X.env.cells.lookup x=some a))->Q () W) (hf:X.fn x=true\/X.env.scope.names.lookup x=some .local:=by first | exact .inl rfl | exact .inr rfl | assumption):wpAny M A (storeName X.env x u) Q E s:=by
 obtain⟨m,Y,hl⟩:=id I.loc;have K:(X.env.scope.kind == .class||(X.env.scope.kind == .module&&X.env.locals != X.env.globals))=false:=by rw[I.ok.kind];rfl
 have hiσ:i<σ.length:=by rw[I.len];exact(AE.mp hi).1
 have D:=I.cne;have g:∀{a:A3} {h':H_},(∃o,s.heap.get? a=some o/\H a=none)->Heap.SameBut a s.heap h'->MC X.prog X.w H h':=fun{a h'} ha f b ob e=>by
  obtain⟨_,_,B⟩:=ha;refine(I.hok b ob e).stay (fun c S hc q=>(f.2 c ?_).trans q) (fun _ q=>q) fun _ _ q=>q;rintro rfl;rcases hc with rfl | hc
  .rw[B]at e;cases e
  .rw[B]at hc;cases hc
 rcases t with hk | hk
 .refine wpAny_storeName_local hk Y (fun h' Z f=>?_) K;obtain⟨oL,_,_,hoL,_⟩:=id Y;refine h _ ⟨I.ok,I.os,I.bare,⟨fun b o e n F t=>?_,fun b o e n F t=>?_,I.base.free,fun b o e t=>?_,I.base.tups,I.base.frzs,I.base.tbls⟩,⟨_,Z,fun j y v' l C e3=>?_⟩,fun y c e=>?_,I.free,I.freeC,fun p hp=>?_,g ⟨oL,hoL,I.free⟩ f,by simpa using I.len⟩ ⟨_,f,.inl rfl⟩
  .exact(f.2 b (AX (BG (AI e) I.ok.above))).trans (I.base.keep b o e n F t)
  .obtain⟨sl,l⟩:=I.base.slot b o e n F t;exact⟨sl,(f.2 b (AX (BG (AI e) I.ok.above))).trans l⟩
  .obtain⟨o',l⟩:=I.base.there b o e t;exact⟨o',(f.2 b (AX (BG (AI e) I.ok.above))).trans l⟩
  .by_cases G:j=i
   .subst G;rw[hi]at l;cases l;rw[HK hiσ]at C;cases C;exact⟨u,r,.inl ⟨hk,by simp⟩⟩
   .rw[List.getElem?_set_ne (Ne.symm G)]at C;obtain⟨u',r',q⟩:=hl j y v' l C e3;refine⟨u',r',?_⟩;rcases q with⟨k,e⟩ | ⟨k,c,e,z⟩
    .refine .inl ⟨k,?_⟩;have:y≠x:=fun e=>G (Mh hN l (e▸hi));simp[this,e]
    .exact .inr ⟨k,c,e,z.sameBut f (D y c e)⟩
  .obtain⟨S,z⟩:=I.cell y c e;exact⟨S,z.sameBut f (D y c e)⟩
  .obtain⟨e,n,T,nf,d⟩:=I.pin p hp;exact⟨(f.2 p.1 T).trans e,n,T,nf,d⟩
 .have J:X.fn x=true:=by
   rcases hf with z | z
   .exact z
   .rw[z]at hk;cases hk
  obtain⟨c,hc⟩:=I.ok.has x (.inl hk);obtain⟨S,z⟩:=I.cell x c hc;refine wpAny_storeName_cell I.ok.kind hk hc z (fun h' L f=>?_);obtain⟨oc,O,P⟩:=id z;refine h { s with heap:=h' } ⟨I.ok,I.os,I.bare,⟨fun b o e n F t=>?_,fun b o e n F t=>?_,I.base.free,fun b o e t=>?_,I.base.tups,I.base.frzs,I.base.tbls⟩,⟨m,Y.sameBut f (Ne.symm (D x c hc)),fun j y v' l C e3=>?_⟩,fun y U e=>?_,I.free,I.freeC,fun p hp=>?_,g ⟨oc,O,I.freeC x c hc⟩ f,by simpa using I.len⟩ ⟨c,f,.inr hc⟩
  .exact(f.2 b (AX (BG (AI e) (I.ok.cab x c J hc)))).trans (I.base.keep b o e n F t)
  .obtain⟨sl,l⟩:=I.base.slot b o e n F t;exact⟨sl,(f.2 b (AX (BG (AI e) (I.ok.cab x c J hc)))).trans l⟩
  .obtain⟨o',l⟩:=I.base.there b o e t;exact⟨o',(f.2 b (AX (BG (AI e) (I.ok.cab x c J hc)))).trans l⟩
  .by_cases G:j=i
   .subst G;rw[hi]at l;cases l;rw[HK hiσ]at C;cases C;exact⟨u,r,.inr ⟨.inl hk,c,hc,L⟩⟩
   .rw[List.getElem?_set_ne (Ne.symm G)]at C;obtain⟨u',r',q⟩:=hl j y v' l C e3;refine⟨u',r',?_⟩;rcases q with q | ⟨k,U,e,z'⟩
    .exact .inl q
    .refine .inr ⟨k,U,e,z'.sameBut f ?_⟩;rintro rfl;exact G (Mh hN l (I.ok.inj _ _ _ e hc▸hi))
  .by_cases R:U=c
   .subst R;exact⟨_,L⟩
   .obtain⟨w2,z2⟩:=I.cell y U e;exact⟨w2,z2.sameBut f R⟩
  .obtain⟨e,n,T,nf,d⟩:=I.pin p hp;refine⟨(f.2 p.1 ?_).trans e,n,T,nf,d⟩;intro q;rw[q,O]at e;have q':oc=p.2:=BE e;exact d S (by rw[<-q'];exact P)
theorem g7{M:Model}{A:IC}{E:A2->A4->Prop}{i:Nat}{x:Str}{v:V}{u:A2}{Q:Unit->A4->Prop}(I:Inv X pins σ H s)(b:X.N.Nodup)(hi:X.N[i]?=some x)(c:Loc X.env.scope x)(r:RelV v u)
  (h:∀a,Inv X pins (σ.set i (some v)) H a->Q () a) (d:X.fn x=true\/X.env.scope.names.lookup x=some .local:=by first | exact .inl rfl | exact .inr rfl | assumption):wpAny M A (storeName X.env x u) Q E s :=
 Gh I b hi c r (fun a e _=>h a e) d
theorem Inv.call'{a:A4}{ch:A1 A3}(I:Inv X pins σ H s)(g:a.os=s.os)(u:Un (PP X.stack) ch H H' s.heap a.heap)(d:MC X.prog X.w H' a.heap)(h:AllBare a.gens)
  (f:∀b∈ch,(b∈X.ex\/X.s₀.heap.objs.size<=b)/\b≠X.env.locals/\(∀x c,X.env.cells.lookup x=some c->c≠b)/\∀p∈X.pn++pins,p.1≠b):Inv X pins σ H' a:=by
 obtain⟨h',g',d',t',i⟩:=a;have e:i=s.os:=g;subst e;exact I.call (g':=g') (t':=t') (d':=d') u d h f
end
abbrev XK:=A2->A5 A3->Hp->Prop
abbrev St:=A1 (A5 V)
abbrev VK:=V->Hp->Prop
abbrev TE:=St->Hp->VK->Prop
abbrev TT:=St->Hp->(Bool->Hp->Prop)->Prop
abbrev TA:=St->Hp->(A1 V->Hp->Prop)->Prop
structure Ends where
 nx:St->Hp->Prop
 rt:VK
 bk:St->Hp->Prop:=fun _ _=>False
 ct:St->Hp->Prop:=fun _ _=>False
abbrev TS:=Ends->St->Hp->Prop
def EP(X:Cx)(a:A1 (A3×Obj))(σ:St)(Q:VK)(u:A2)(c:A4):Prop:=∃v b,Inv X a σ b c/\RelV v u/\Q v b
def TP(X:Cx)(a:A1 (A3×Obj))(σ:St)(Q:Bool->Hp->Prop)(b:Bool)(d:A4):Prop:=∃c,Inv X a σ c d/\Q b c
def AP(X:Cx)(a:A1 (A3×Obj))(σ:St)(Q:A1 V->Hp->Prop)(us:A1 A2)(d:A4):Prop:=∃b c,Inv X a σ c d/\IH b us/\Q b c
def SP(X:Cx)(a:A1 (A3×Obj))(D:Ends)(f:Flow)(c:A4):Prop :=
 match f with
 | .next=>∃σ' b,Inv X a σ' b c/\D.nx σ' b
 | .brk=>∃σ' b,Inv X a σ' b c/\D.bk σ' b
 | .cont=>∃σ' b,Inv X a σ' b c/\D.ct σ' b
 | .ret u=>∃v σ' b,Inv X a σ' b c/\RelV v u/\D.rt v b
def PE(X:Cx)(e:IB)(t:TE):Prop :=
 ∀(a:A1 (A3×Obj)) (s:A4) (σ:St) (H:Hp) (Q:VK),Inv X a σ H s->t σ H Q->wpAny (model X.prog X.w) X.A (eval e X.env) (EP X a σ Q) X.xe s
def PT(X:Cx)(e:IB)(t:TT):Prop :=
 ∀(a:A1 (A3×Obj)) (s:A4) (σ:St) (H:Hp) (Q:Bool->Hp->Prop),Inv X a σ H s->t σ H Q->wpAny (model X.prog X.w) X.A (isTrue e X.env (eval e X.env)) (TP X a σ Q) X.xe s
def PW(X:Cx)(e:IB)(t:TT):Prop :=
 ∀(b:Sem A2) (a:A1 (A3×Obj)) (s:A4) (σ:St) (H:Hp) (Q:Bool->Hp->Prop),Inv X a σ H s->t σ H Q->wpAny (model X.prog X.w) X.A (isTrue e X.env b) (TP X a σ Q) X.xe s
def PW.pt{X:Cx}{e:IB}{t:TT}(h:PW X e t):PT X e t:=h _
def PA(X:Cx)(c:A1 IB)(t:TA):Prop :=
 ∀(b:Pos) (a:A1 (A3×Obj)) (s:A4) (σ:St) (H:Hp) (Q:A1 V->Hp->Prop),Inv X a σ H s->t σ H Q->wpAny (model X.prog X.w) X.A (spliced (backTo b (starEach c X.env))) (AP X a σ Q) X.xe s
def PS(X:Cx)(st:IL)(t:TS):Prop :=
 ∀(a:A1 (A3×Obj)) (s:A4) (σ:St) (H:Hp) (D:Ends),Inv X a σ H s->t D σ H->wpAny (model X.prog X.w) X.A (exec st X.env) (SP X a D) X.xe s
def P7(X:Cx)(st:A1 IL)(t:TS):Prop :=
 ∀(a:A1 (A3×Obj)) (s:A4) (σ:St) (H:Hp) (D:Ends),Inv X a σ H s->t D σ H->wpAny (model X.prog X.w) X.A (execs st X.env) (SP X a D) X.xe s
def IT{α:Type}{t:Sem α}{Q b:α->A4->Prop}{M:Model}{A:IC}{E:A2->A4->Prop}{s:A4}(h:wpAny M A t Q E s)(c:∀a s,Q a s->b a s):wpAny M A t b E s:=CB h c fun _ _ x=>x
section
variable{X:Cx}
def Vd(i:Nat):TE:=fun σ H Q=>∃v,σ[i]?=some (some v)/\Q v H
def tC(v:V):TE:=fun _ H Q=>Q v H
theorem Wo{i:Nat}{x:Str}{pos:Pos}(k:X.N[i]?=some x)(n:S_ X.env.scope x)(f:(x ==("__debug__":Str))=false:=by decide)(g:(x ==("__classdict__":Str))=false:=by decide):PE X (.Name x pos) (Vd i):=by
 intro d s σ H Q I h;obtain⟨v,e,h⟩:=h;obtain⟨m,o,p⟩:=I.loc;obtain⟨u,r,l⟩:=p i x v k e n;have b:EP X d σ Q u s:=⟨v,H,I,r,h⟩;rcases l with⟨hk,q⟩ | ⟨hk,c,j,a⟩
 .exact wpAny_Name (wpAny_loadName_local I.ok.kind hk o q b) f
 .rcases hk with hk | hk
  .exact wpAny_Name (wpAny_loadName_cell I.ok.kind hk j a b) f
  .exact wpAny_Name (wpAny_loadName_free I.ok.kind hk j a b g) f
theorem B4{i j pos}:PE X (.Constant (.int i) j pos) (tC (.int i)):=fun _ _ _ H _ I h=>wpAny_Constant_int ⟨.int i,H,I.tok _,⟨_,rfl⟩,h⟩
theorem Y9{b j pos}:PE X (.Constant (.bool b) j pos) (tC (.bl b)):=fun _ _ _ H _ I h=>Constant_bool ⟨.bl b,H,I,rfl,h⟩
theorem z6{j pos}:PE X (.Constant .none j pos) (tC .non):=fun _ _ _ H _ I h=>Constant_none ⟨.non,H,I,rfl,h⟩
theorem P5{x j pos}:PE X (.Constant (.str x) j pos) (tC (.str x)):=fun _ _ _ H _ I h=>Calls.Constant_str ⟨.str x,H,I.tok _,⟨_,rfl⟩,h⟩
def Gl(X:Cx)(x:Str):Prop:=X.env.kindOf x=some .globalImplicit
theorem Jc{E:A2->A4->Prop}{a:A1 (A3×Obj)}{s:A4}{σ:St}{H:Hp}{x:Str}{u:A2}{pos:Pos}{Q:A2->A4->Prop}(I:Inv X a σ H s)(b:Gl X x)(c:X.mg x=some u)(h:Q u s)
  (d:(x ==("__debug__":Str))=false:=by decide):wpAny (model X.prog X.w) X.A (eval (.Name x pos) X.env) Q E s :=
 Calls.Name_function_global I.ok.kind b (Calls.loadGlobal_global (by rw[I.ok.glob];exact I.mod.glob.keeps I.bk) c h) d
theorem W7{E:A2->A4->Prop}{a:A1 (A3×Obj)}{s:A4}{σ:St}{H:Hp}{x:Str}{u:A2}{pos:Pos}{Q:A2->A4->Prop}(I:Inv X a σ H s)(b:Gl X x)(c:X.mg x=none)(d:bootBuiltins x=some u)(h:Q u s)
  (e:x≠ "__name__":=by decide) (f:(x ==("__debug__":Str))=false:=by decide):wpAny (model X.prog X.w) X.A (eval (.Name x pos) X.env) Q E s:=by
 obtain⟨j,g,i⟩:=I.mod.blt;exact Calls.Name_function_global I.ok.kind b (Calls.loadGlobal_builtin (by rw[I.ok.glob];exact I.mod.glob.keeps I.bk) c (by rw[I.ok.blt];exact g.keeps I.bk) ((i x e).trans d) h) f
theorem Jt{x:Str}{v:V}{u:A2}{pos:Pos}(a:Gl X x)(b:X.mg x=some u)(r:RelV v u)(c:(x ==("__debug__":Str))=false:=by decide):PE X (.Name x pos) (tC v) :=
 fun _ _ _ H _ I h=>Jc I a b ⟨v,H,I,r,h⟩ c
theorem Yc{x:Str}{v:V}{u:A2}{pos:Pos}(a:Gl X x)(b:X.mg x=none)(c:bootBuiltins x=some u)(r:RelV v u)(d:x≠ "__name__":=by decide)(e:(x ==("__debug__":Str))=false:=by decide):PE X (.Name x pos) (tC v) :=
 fun _ _ _ H _ I h=>W7 I a b c ⟨v,H,I,r,h⟩ d e
variable{a b:IB}{ta tb:TE}{pos:Pos}
def PC(X:Cx)(op:CmpOp)(a b:IB)(t:TE):Prop :=
 ∀(c:A1 (A3×Obj)) (s:A4) (σ:St) (H:Hp) (Q:VK),Inv X c σ H s->t σ H Q ->
  wpAny (model X.prog X.w) X.A (eval a X.env) (fun v s₁=>wpAny (model X.prog X.w) X.A (eval b X.env) (fun u s₂=>wpAny (model X.prog X.w) X.A (compareOp op v u) (EP X c σ Q) X.xe s₂) X.xe s₁) X.xe s
def tB(t:TE):TT:=fun σ H Q=>t σ H fun x a=>∃c,x = .bl c/\Q c a
theorem zBv{op:CmpOp}{t:TE}(h:PC X op a b t)(h1:behindInMarks op b=false:=by first | exact e _ (by decide) (by decide) | rfl):PT X (.Compare a [op] [b] pos) (tB t):=by
 intro f s σ H Q I g;refine wpAny_isTrue_Compare1 (IT (h f s σ H _ I g) fun v n h1=>IT h1 fun u o i=>IT i fun c p ⟨x,j,k,l,m⟩=>?_) h1;obtain⟨d,rfl,q⟩:=m;cases l;exact DE ⟨j,k,q⟩
theorem Q4{e:IB}{t:TE}(h:PE X e t)(c:∀a,isTrue e X.env a =(do let v <-a;standAt e.pos;holding [v] (truthy v)):=by intro _;rfl):PT X e (tB t):=by
 intro b s σ H Q I f;refine isTrue_plain (IT (h b s σ H _ I f) fun v l ⟨x,g,i,j,k⟩=>?_) (c _);obtain⟨d,rfl,q⟩:=k;cases j;exact DE ⟨g,i,q⟩
variable{tA tB':TT}{rest:A1 IB}
def zGk(t u:TT):TT:=fun σ H Q=>t σ H fun c a=>if c=true then u σ a Q else Q false a
def tOr(t u:TT):TT:=fun σ H Q=>t σ H fun c a=>if c=true then Q true a else u σ a Q
def zGn(t:TT):TT:=fun σ H Q=>t σ H fun c a=>Q (!c) a
theorem Jz(d:PT X a tA):PW X (.BoolOp .And [a] pos) tA:=by
 intro f b s σ H Q I h;refine isTrue_and (IT (d b s σ H Q I h) fun c g e=>?_);cases c with
 | true=>exact isTrue_and_nil e
 | false=>exact e
theorem Y5(d:PT X a tA):PW X (.BoolOp .Or [a] pos) tA:=by
 intro f b s σ H Q I h;refine isTrue_or (IT (d b s σ H Q I h) fun c g e=>?_);cases c with
 | false=>exact isTrue_or_nil e
 | true=>exact e
theorem Ly(i:PT X a tA)(j:PW X (.BoolOp .And (b::rest) pos) tB'):PW X (.BoolOp .And (a::b::rest) pos) (zGk tA tB'):=by
 intro k d s σ H Q I h;refine isTrue_and (IT (i d s σ H _ I h) fun c l ⟨e,f,g⟩=>?_);cases c with
 | true=>exact j k d l σ e Q f g
 | false=>exact⟨e,f,g⟩
theorem Am(i:PT X a tA)(j:PW X (.BoolOp .Or (b::rest) pos) tB'):PW X (.BoolOp .Or (a::b::rest) pos) (tOr tA tB'):=by
 intro k d s σ H Q I h;refine isTrue_or (IT (i d s σ H _ I h) fun c l ⟨e,f,g⟩=>?_);cases c with
 | true=>exact⟨e,f,g⟩
 | false=>exact j k d l σ e Q f g
theorem Q5(d:PT X a tA):PT X (.UnaryOp .Not a pos) (zGn tA):=by
 intro b s σ H Q I h;exact isTrue_not (d b s σ H (fun c e=>Q (!c) e) I h)
def zDp(ta tb:TE):TE:=fun σ H Q=>ta σ H fun x a=>∃c,x = .bl c/\if c=true then tb σ a Q else Q (.bl false) a
theorem Db{op}{t:TE}(h:PE X a t):PE X (.BoolOp op [a] pos) t:=fun b s σ H Q I c=>BoolOp_one (h b s σ H Q I c)
theorem Ap(i:PE X a ta)(j:PE X (.BoolOp .And (b::rest) pos) tb):PE X (.BoolOp .And (a::b::rest) pos) (zDp ta tb):=by
 intro d s σ H Q I h;refine BoolOp_and (IT (i d s σ H _ I h) fun v k ⟨x,f,g,l,e⟩=>?_);obtain⟨c,rfl,e⟩:=e;cases l;refine DE ?_;cases c with
 | true=>exact j d k σ f Q g e
 | false=>exact⟨.bl false,f,g,rfl,e⟩
def tIf(t:TT)(ta tb:TE):TE:=fun σ H Q=>t σ H fun c a=>if c=true then ta σ a Q else tb σ a Q
theorem Tu{c:IB}(k:PT X c tA)(l:PE X a ta)(m:PE X b tb):PE X (.IfExp c a b pos) (tIf tA ta tb):=by
 intro e s σ H Q I h;refine wpAny_IfExp (IT (k e s σ H _ I h) fun d f ⟨g,i,j⟩=>?_);cases d with
 | true=>exact l e f σ g Q i j
 | false=>exact m e f σ g Q i j
end
def IA(K:PySem.W.Frag)(H:Hp)(a:A3)(xs:A1 V):Prop :=
 Rd H a (.lst xs) \/
  ∃(o:Obj) (b:F1 A2) (n:Nat),K.lookup a=some o/\o.cls = .type "list"/\o.dict=none/\o.data = .seq b n/\b.size<=sizeLine/\IH xs b.toList
def IZ(K:PySem.W.Frag)(H:Hp)(a:A3)(xs:A1 V):Prop :=
 Rd H a (.tup xs) \/
  ∃(o:Obj) (b:F1 A2) (n:Nat),K.lookup a=some o/\o.cls = .type "tuple"/\o.data = .seq b n/\b.size<=sizeLine/\IH xs b.toList
def zFw:A2->A5 V
 | .none=>some .non
 | .bool b=>some (.bl b)
 | .int i _=>some (.int i)
 | .str x _=>some (.str x)
 | .bytes b _=>some (.byt b)
 | .float b _=>some (.flt b)
 | .ref a=>some (.ref a)
 | .type n=>some (.ty n)
 | _=>none
def RelV.abs{x:V}{u:A2}(r:RelV x u):zFw u=some x:=by
 cases x with
 | non=>cases r;rfl
 | bl _=>cases r;rfl
 | int _=>obtain⟨t,rfl⟩:=r;rfl
 | str _=>obtain⟨t,rfl⟩:=r;rfl
 | byt _=>obtain⟨t,rfl⟩:=r;rfl
 | flt _=>obtain⟨t,rfl⟩:=r;rfl
 | ref _=>cases r;rfl
 | ty _=>cases r;rfl
def RelV.inj{x y:V}{u:A2}(r:RelV x u)(q:RelV y u):x=y:=BE (r.abs.symm.trans q.abs)
def IH.inj:∀{xs a:A1 V} {us:A1 A2},IH xs us->IH a us->xs=a
 | _,_,_,.nil,.nil=>rfl
 | _,_,_,.cons r t,.cons b c=>by rw[r.inj b,IH.inj t c]
section
variable{X:Cx}{pins:A1 (A3×Obj)}{σ:St}{H:Hp}{s:A4}{a:A3}{xs ys:A1 V}
theorem IA.of{K:PySem.W.Frag}(h:H a=some (.lst xs)):IA K H a xs:=.inl (.inl h)
theorem IZ.of{K:PySem.W.Frag}(h:H a=some (.tup xs)):IZ K H a xs:=.inl (.inl h)
theorem Inv.list(I:Inv X pins σ H s)(h:IA X.K H a xs):∃its:A1 A2,IH xs its/\PlainL s.heap a its.toArray/\xs.length<=sizeLine:=by
 rcases h with h | ⟨o,its,n,b,c,d,f,g,r⟩
 .obtain⟨z,its,n,r,e⟩:=h.ok I.hok;exact⟨its,r,⟨_,n,e,rfl,rfl,rfl⟩,z⟩
 .refine⟨its.toList,r,⟨o,n,I.kIn a o b,c,d,by simpa using f⟩,?_⟩;have e:=r.length;simp only[BA]at e;omega
theorem Inv.tuple(I:Inv X pins σ H s)(h:IZ X.K H a xs):∃its:A1 A2,IH xs its/\IsTup s.heap a its.toArray/\xs.length<=sizeLine:=by
 rcases h with h | ⟨o,its,n,b,c,d,f,r⟩
 .obtain⟨z,its,r,p⟩:=h.ok I.hok;exact⟨its,r,p,z⟩
 .refine⟨its.toList,r,⟨o,I.kIn a o b,c,n,by simpa using d⟩,?_⟩;have e:=r.length;simp only[BA]at e;omega
theorem Inv.list_inj(I:Inv X pins σ H s)(h:IA X.K H a xs)(h':IA X.K H a ys):xs=ys:=by
 obtain⟨c,r,⟨o,n,e,_,_,d⟩,_⟩:=I.list h;obtain⟨b,i,⟨k,l,f,_,_,g⟩,_⟩:=I.list h';rw[e]at f;cases f;rw[d]at g;injection g with j _;have:c=b:=by simpa using congrArg Array.toList j
 subst this;exact r.inj i
theorem Inv.tuple_inj(I:Inv X pins σ H s)(h:IZ X.K H a xs)(h':IZ X.K H a ys):xs=ys:=by
 obtain⟨c,r,⟨o,e,_,n,d⟩,_⟩:=I.tuple h;obtain⟨b,i,⟨k,f,_,l,g⟩,_⟩:=I.tuple h';rw[e]at f;cases f;rw[d]at g;injection g with j _;have:c=b:=by simpa using congrArg Array.toList j
 subst this;exact r.inj i
end
abbrev Cx.wish(X:Cx)(E:A2->A4->Prop):Cx:={ X with xe:=E }
abbrev Cx.nox(X:Cx):Cx:=X.wish fun _ _=>False
def Cx.Ok.wish{X:Cx}(a:X.Ok)(E:A2->A4->Prop):(X.wish E).Ok :=
 ⟨a.mod,a.kind,a.glob,a.blt,a.above,a.inj,a.has,a.cab,a.hd,a.frames,a.stk,a.exf,a.bs,a.bsz,a.noex,a.exfs,a.funs,a.frf⟩
def Cx.Ok.unwish{X:Cx}{E:A2->A4->Prop}(a:(X.wish E).Ok):X.Ok :=
 ⟨a.mod,a.kind,a.glob,a.blt,a.above,a.inj,a.has,a.cab,a.hd,a.frames,a.stk,a.exf,a.bs,a.bsz,a.noex,a.exfs,a.funs,a.frf⟩
section
variable{X:Cx}{pins:A1 (A3×Obj)}{σ:St}{H:Hp}{s:A4}{E:A2->A4->Prop}
theorem Inv.wish(I:Inv X pins σ H s)(E:A2->A4->Prop):Inv (X.wish E) pins σ H s:=⟨I.ok.wish E,I.os,I.bare,I.base,I.loc,I.cell,I.free,I.freeC,I.pin,I.hok,I.len⟩
theorem Inv.unwish(I:Inv (X.wish E) pins σ H s):Inv X pins σ H s:=⟨I.ok.unwish,I.os,I.bare,I.base,I.loc,I.cell,I.free,I.freeC,I.pin,I.hok,I.len⟩
theorem SP.unwish{D:Ends}{f:Flow}{b:A4}(h:SP (X.wish E) pins D f b):SP X pins D f b:=by
 cases f with
 | next=>obtain⟨σ',a,I,q⟩:=h;exact⟨σ',a,I.unwish,q⟩
 | brk=>obtain⟨σ',a,I,q⟩:=h;exact⟨σ',a,I.unwish,q⟩
 | cont=>obtain⟨σ',a,I,q⟩:=h;exact⟨σ',a,I.unwish,q⟩
 | ret u=>obtain⟨v,σ',a,I,r,q⟩:=h;exact⟨v,σ',a,I.unwish,r,q⟩
theorem P7.nox{st:A1 IL}{t:TS}(h:P7 X.nox st t):P7 X st t:=fun pins s σ H D I a =>
 CB (h pins s σ H D (I.wish _) a) (fun _ _ q=>q.unwish) fun _ _ z=>False.elim z
end
section
variable{X:Cx}{st:IL}{rest:A1 IL}{t u:TS}{e:IB}{te:TE}{pos:Pos}
def zEf:TS:=fun D σ H=>D.nx σ H
def SR(t u:TS):TS:=fun D σ H=>t { D with nx:=u D } σ H
theorem C5:P7 X [] zEf:=fun _ _ σ H _ I h=>wpAny_execs_nil ⟨σ,H,I,h⟩
theorem B3(h1:PS X st t)(h2:P7 X rest u):P7 X (st::rest) (SR t u):=by
 intro a s σ H D I h;refine wpAny_execs_cons (IT (h1 a s σ H { D with nx:=u D } I h) fun f b q=>?_);cases f with
 | next =>
  obtain⟨σ',c,d,q⟩:=q;exact h2 a b σ' c D d q
 | ret v=>exact q
 | brk=>exact q
 | cont=>exact q
theorem B5(h1:PS X st t):P7 X [st] t:=by
 intro a s σ H D I h;refine wpAny_execs_cons (IT (h1 a s σ H D I h) fun f b q=>?_);cases f with
 | next=>exact wpAny_execs_nil q
 | ret v=>exact q
 | brk=>exact q
 | cont=>exact q
def zEo:TS:=fun D σ H=>D.ct σ H
theorem Hv:PS X (.Continue pos) zEo:=fun _ _ σ H _ I h=>wpAny_Continue ⟨σ,H,I,h⟩
theorem Inv.quiet{a:A1 (A3×Obj)}{σ:St}{H:Hp}{s:A4}(I:Inv X a σ H s):interactive X.env=false:=by simp[interactive,I.ok.kind]
def zEa(te:TE):TS:=fun D σ H=>te σ H fun _ a=>D.nx σ a
theorem J9(b:PE X e te)(c:swapsWith e none pos.line X.env=pure false:=by rfl):PS X (.Expr e pos) (zEa te):=by
 intro a s σ H D I h;exact wpAny_Expr_any (IT (b a s σ H _ I h) fun v i ⟨x,d,f,j,g⟩=>⟨σ,d,f,g⟩) I.quiet c
def zFf(te:TE):TS:=fun D σ H=>te σ H D.rt
theorem C1(b:PE X e te):PS X (.Return (some e) pos) (zFf te):=by
 intro a s σ H D I h;exact wpAny_Return_some (IT (b a s σ H _ I h) fun v i ⟨x,c,d,f,g⟩=>⟨x,σ,c,d,f,g⟩)
def zFq(c:TT)(t u:TS):TS:=fun D σ H=>c σ H fun b a=>if b=true then t D σ a else u D σ a
theorem I0{c:IB}{a b:A1 IL}{f:TT}(l:PT X c f)(m:P7 X a t)(n:P7 X b u):PS X (.If c a b pos) (zFq f t u):=by
 intro e s σ H D I h;refine wpAny_If (IT (l e s σ H _ I h) fun d g ⟨i,j,k⟩=>?_);cases d with
 | true=>exact m e g σ i D j k
 | false=>exact n e g σ i D j k
def zBn:TS:=fun _ _ _=>False
theorem Eg:PS X st zBn:=fun _ _ _ _ _ _ h=>h.elim
end
abbrev TG:=V->St->Hp->(St->Hp->Prop)->Prop
abbrev RV:=A1 V->St->Hp->(St->Hp->Prop)->Prop
def PG(X:Cx)(a:IB)(t:TG):Prop :=
 ∀(b:A1 (A3×Obj)) (s:A4) (σ:St) (H:Hp) (v:V) (u:A2) (Q:St->Hp->Prop),Inv X b σ H s->RelV v u->t v σ H Q ->
  wpAny (model X.prog X.w) X.A (assign a X.env u) (fun _ d=>∃σ' c,Inv X b σ' c d/\Q σ' c) X.xe s
def TD(X:Cx)(ts:A1 IB)(t:RV):Prop :=
 ∀(a:A1 (A3×Obj)) (s:A4) (σ:St) (H:Hp) (b:A1 V) (c:A1 A2) (Q:St->Hp->Prop),Inv X a σ H s->IH b c->t b σ H Q ->
  wpAny (model X.prog X.w) X.A (assignInOrder ((assignEach ts X.env).map (·.2)) c) (fun _ e=>∃σ' d,Inv X a σ' d e/\Q σ' d) X.xe s
abbrev MY:=V->V->V->Hp->(Hp->Prop)->Prop
def zFb(X:Cx)(t:MY):Prop :=
 ∀(a:A1 (A3×Obj)) (s:A4) (σ:St) (H:Hp) (o i v:V) (b c u:A2) (Q:Hp->Prop),Inv X a σ H s->RelV o b->RelV i c->RelV v u->t o i v H Q ->
  wpAny (model X.prog X.w) X.A (setItem b c u) (fun _ e=>∃d,Inv X a σ d e/\Q d) X.xe s
abbrev TIp:=V->V->Hp->VK->Prop
def PIp(X:Cx)(op:Operator)(t:TIp):Prop :=
 ∀(a:A1 (A3×Obj)) (s:A4) (σ:St) (H:Hp) (x y:V) (v u:A2) (Q:VK),Inv X a σ H s->RelV x v->RelV y u->t x y H Q ->
  wpAny (model X.prog X.w) X.A (inplaceOp op v u) (EP X a σ Q) X.xe s
section
variable{X:Cx}{pos:Pos}
def U5(i:Nat):TG:=fun v σ H Q=>Q (σ.set i (some v)) H
theorem D0{i:Nat}{x:Str}(b:X.N.Nodup)(hi:X.N[i]?=some x)(c:Loc X.env.scope x)(d:X.fn x=true\/X.env.scope.names.lookup x=some .local:=by first | exact .inl rfl | exact .inr rfl | assumption):PG X (.Name x pos) (U5 i):=by
 intro a s σ H v u Q I r h;exact wpAny_assign_Name (g7 I b hi c r (fun f e=>⟨_,H,e,h⟩) d)
def zFg:RV:=fun a σ H Q=>a = []/\Q σ H
def Wz(t:TG)(u:RV):RV:=fun a σ H Q=>∃v r,a=v::r/\t v σ H fun σ' b=>u r σ' b Q
theorem M9:TD X [] zFg:=by
 intro a s σ H b c Q I r h;obtain⟨e,h⟩:=h;subst e;cases r;exact assignInOrder_nil ⟨σ,H,I,h⟩
theorem C8{e:IB}{b:A1 IB}{t:TG}{u:RV}(h1:PG X e t)(h2:TD X b u)
  (c:(assignEach (e::b) X.env).map (·.2)=assign e X.env ::(assignEach b X.env).map (·.2):=by rfl):TD X (e::b) (Wz t u):=by
 intro a s σ H l m Q I r h;obtain⟨v,n,d,h⟩:=h;subst d;cases r with
 | cons r f =>
  rw[c];refine assignInOrder_cons (IT (h1 a s σ H _ _ _ I r h) fun _ g ⟨σ1,i,j,k⟩=>?_);exact h2 a g σ1 i _ _ Q j f k
def zEb(K:PySem.W.Frag)(n:Nat)(t:RV):TG:=fun v σ H Q=>∃a b,v = .ref a/\IZ K H a b/\b.length=n/\t b σ H Q
theorem zBt{d:A1 IB}{k:Nat}{t:RV}{n:Nat}(j:X.calm=true)(h:TD X d t)
  (l:(assignEach d X.env).length=n:=by rfl) (f:(assignEach d X.env).findIdx? (·.1)=none:=by rfl):PG X (.Tuple d k pos) (zEb X.K n t):=by
 intro c s σ H v u Q I r g;obtain⟨a,m,p,q,w,g⟩:=g;subst p;cases r;obtain⟨x,i,y,C⟩:=I.tuple q;refine assign_Tuple_tuple (I.ok.hd j) y (by simp[l,<-w,i.length]) f fun z A=>?_;have B:Inv X c σ H { s with heap:=z }:=I.kept (t':=s.toks) fun b o e=>A b o (AX (AI e)) e;exact h c _ σ H m _ Q B (by simpa using i) g
def zGo(a b:TE)(t:MY):TG:=fun v σ H Q=>a σ H fun o c=>b σ c fun i d=>t o i v d fun e=>Q σ e
theorem Lv{o i:IB}{d e:TE}{t:MY}(f:PE X o d)(hi:PE X i e)(g:zFb X t)
  (j:∀v,assign (.Subscript o i pos) X.env v =(do
   let b <-holding [v] (eval o X.env)
   let c <-holding [v,b] (eval i X.env)
   standAt pos
   holding [v,b,c] (setItem b c v)
   release [v,b,c] []):=by intro _;rfl):PG X (.Subscript o i pos) (zGo d e t):=by
 intro a s σ H v u Q I r h;rw[j];refine AA (BU (IT (f a s σ H _ I h) fun b k ⟨x,l,m,n,p⟩=>?_));refine AA (BU (IT (hi a k σ l _ m p) fun c q ⟨y,w,z,A,B⟩=>?_));refine AA (GG (AA (BU (IT (g a q σ w x y v b c u _ z n A r B) fun _ F ⟨C,D,E⟩=>?_))));exact wpAny_release ⟨σ,C,D,E⟩
def zDc(a:TE)(g:TG):TS:=fun D σ H=>a σ H fun x b=>g x σ b D.nx
theorem Y3{tg e:IB}{b:TE}{g:TG}(c:PE X e b)(d:PG X tg g)(f:swapsWithSole [tg] e pos.line X.env=pure false:=by rfl)(hw:swappedStores [tg] e X.env=pure none:=by rfl)
  (h1:(assignEach [tg] X.env).map (·.2) = [assign tg X.env]:=by rfl):PS X (.Assign [tg] e pos) (zDc b g):=by
 intro a s σ H D I h;refine wpAny_Assign_stores (IT (c a s σ H _ I h) fun v i ⟨x,j,k,l,m⟩=>?_) f hw;rw[h1];exact IT (d a i σ j x v _ k l m) fun _ n q=>q
theorem C6{i:Nat}{x:Str}{e:IB}{c:TE}{a:Pos}(d:X.N.Nodup)(hi:X.N[i]?=some x)(f:Loc X.env.scope x)(g:PE X e c)(j:swapsWith e (some (.Name x a)) pos.line X.env=pure false:=by rfl)(k:X.fn x=true\/X.env.scope.names.lookup x=some .local:=by first | exact .inl rfl | exact .inr rfl | assumption) :
  PS X (.Assign [.Name x a] e pos) (zDc c (U5 i)):=by
 intro b s σ H D I h;refine wpAny_Assign_Name (IT (g b s σ H _ I h) fun v q ⟨y,l,m,n,o⟩=>?_) j;exact g7 m d hi f n (fun r p=>⟨_,l,p,o⟩) k
def zFv(i j:Nat)(a:TA):TS:=fun D σ H=>a σ H fun b c=>∃v w,b = [v,w]/\D.nx ((σ.set i (some v)).set j (some w)) c
theorem Ww{i j:Nat}{x y:Str}{a b:IB}{C:TA}{k l m:Pos}{n r d}(L:X.calm=true)(E:X.N.Nodup)(hi:X.N[i]?=some x)(M:X.N[j]?=some y)(t:i≠j)
  (F:X.env.scope.names.lookup x=some .local) (G:X.env.scope.names.lookup y=some .local) (O:PA X [a,b] C)
  (hw:swappedStores [.Tuple [.Name x k,.Name y l] n m] (.Tuple [a,b] r d) X.env=pure (some [x,y]))
  (P:swapsWithSole [.Tuple [.Name x k,.Name y l] n m] (.Tuple [a,b] r d) pos.line X.env=pure false:=by rfl) :
  PS X (.Assign [.Tuple [.Name x k,.Name y l] n m] (.Tuple [a,b] r d) pos) (zFv i j C):=by
 intro c s σ H D I h;rw[exec_Assign_arm];refine AA (GG ?_);rw[P];refine AA (AG ?_);rw[AJ (by decide)];refine AA (Tuple_ (IT (O _ c s σ H _ I h) fun Q s1 ⟨vs,J,R,S,u⟩=>?_));obtain⟨v,w,T,u⟩:=u;subst T;obtain⟨f,g,rfl,U,z⟩:∃f g,Q = [f,g]/\RelV v f/\RelV w g:=by
  cases S with
  | cons p q =>
   cases q with
   | cons V W =>
    cases W;exact⟨_,_,rfl,p,V⟩
 refine ET ?_ (by show 2<=sizeLine;decide);have Y:Inv X c σ J { s1 with heap:=s1.heap.push { cls:=.type "tuple",data:=.seq [f,g].toArray } }:=R.kept (t':=s1.toks) fun b o e=>AD _ e;rw[hw];refine AA (AG ?_);show wpAny (model X.prog X.w) X.A (do rule "assign.swapped-stores";let items <-unpackItems (.ref s1.heap.objs.size) 2 none;assignInOrder [fun v=>bindName X.env y v,fun v=>bindName X.env x v] items.reverse;pure Flow.next) _ _ _;refine AA (EU (AA (unpackItems_tuple (items:=#[f,g]) (I.ok.hd L) (IsTup.new s1.heap _) fun h' B=>?_)));have Z:=Y.kept (h':=h') (t':=s1.toks) fun b o e=>B b o (AX (AI e)) e;show wpAny _ _ (assignInOrder [fun v=>bindName X.env y v,fun v=>bindName X.env x v] [g,f] >>= fun _=>pure Flow.next) _ _ _;refine AA (assignInOrder_cons (wpAny_bindName (g7 Z E M (.inl G) z (fun s2 I4=>?_) (.inr G))));refine assignInOrder_cons (wpAny_bindName (g7 I4 E hi (.inl F) U (fun s3 K=>assignInOrder_nil (AG ?_)) (.inr F)));rw[List.set_comm _ _ (Ne.symm t)]at K;exact⟨_,J,K,u⟩
def zFu(i:Nat)(a:TE)(b:TIp):TS:=fun D σ H=>∃x,σ[i]?=some (some x)/\a σ H fun y c=>b x y c fun z d=>D.nx (σ.set i (some z)) d
theorem Zx{i:Nat}{x:Str}{e:IB}{j:TE}{op:Operator}{n:TIp}{d:Pos}(o:X.N.Nodup)(hi:X.N[i]?=some x)(f:Loc X.env.scope x)(p:PE X e j)(q:PIp X op n)(t:X.fn x=true\/X.env.scope.names.lookup x=some .local:=by first | exact .inl rfl | exact .inr rfl | assumption) :
  PS X (.AugAssign (.Name x d) op e pos) (zFu i j n):=by
 intro a s σ H D I h;obtain⟨v,B,h⟩:=h;obtain⟨m,C,E⟩:=I.loc;have g:S_ X.env.scope x:=by rcases f with k | k;exact .inl k;exact .inr (.inl k)
 obtain⟨u,r,l⟩:=E i x v hi B g;refine wpAny_AugAssign_Name ?_;have go:wpAny (model X.prog X.w) X.A (eval e X.env) (fun w s₂=>wpAny (model X.prog X.w) X.A (inplaceOp op u w) (fun r s₃=>wpAny (model X.prog X.w) X.A (storeName X.env x r) (fun _=>SP X a D .next) X.xe s₃) X.xe s₂) X.xe s:=by
  refine IT (p a s σ H _ I h) fun w F ⟨y,G,J,K,L⟩=>?_;refine IT (q a F σ G v y u w _ J r K L) fun z U ⟨V,M,O,P,Q⟩=>?_;exact g7 O o hi f P (fun W R=>⟨_,M,R,Q⟩) t
 rcases l with⟨hk,S⟩ | ⟨hk,c,T,b⟩
 .exact wpAny_loadName_local I.ok.kind hk C S go
 .rcases hk with hk | hk
  .exact wpAny_loadName_cell I.ok.kind hk T b go
  .rcases f with k | k
   .have:X.env.scope.names.lookup x=some .free:=hk;rw[k]at this;cases this
   .have:X.env.scope.names.lookup x=some .free:=hk;rw[k]at this;cases this
def ipI(f:Int->Int->Int):TIp:=fun x y H Q=>∃i j,x = .int i/\y = .int j/\Q (.int (f i j)) H
def zCb(c:TT)(f:TS):TS:=fun D σ H=>∃W:Nat->St->Hp->Prop,(∃m,W m σ H)/\∀m σ H,W m σ H ->
 c σ H fun b a=>if b=true then ∃N:St->Hp->Prop,(∀σ' d,N σ' d->∃e,e < m/\W e σ' d)/\f { D with nx:=N,ct:=N,bk:=D.nx } σ a else D.nx σ a
theorem Ti{c:IB}{d:A1 IL}{q:TT}{r:TS}(t:PassesOwn (model X.prog X.w) X.A X.env X.xe)(C:PT X c q)(E:P7 X d r):PS X (.While c d [] pos) (zCb q r):=by
 intro a s σ H D I h;obtain⟨W,⟨F,G⟩,e⟩:=h;refine wpAny_While (codeAny_whileLoop (fun n J=>∃σ' u,Inv X a σ' u J/\W n σ' u) ?_ F ⟨σ,H,I,G⟩);rintro n K ⟨σ1,x,L,M⟩;refine FI t (IT (C a K σ1 x _ L (e n σ1 x M)) fun b O ⟨y,z,i⟩=>?_);cases b with
 | true =>
  obtain⟨N,B,i⟩:=i;rw[AL rfl];refine FI t (IT (E a O σ1 y _ z i) fun f P j=>?_);cases f with
  | next =>
   obtain⟨σ3,g,k,l⟩:=j;obtain⟨m,o,p⟩:=B σ3 g l;exact⟨m,o,σ3,g,k,p⟩
  | cont =>
   obtain⟨σ3,g,k,l⟩:=j;obtain⟨m,o,p⟩:=B σ3 g l;exact⟨m,o,σ3,g,k,p⟩
  | brk=>exact j
  | ret v=>exact j
 | false =>
  rw[AJ AZ];exact wpAny_execs_nil ⟨σ1,y,z,i⟩
end
structure It where
 go:Nat->Hp->Prop
 yld:Nat->Hp->V->Hp->Prop
 stop:Nat->Hp->Prop
def Es(X:Cx)(a:A1 (A3×Obj))(H:Hp)(b:A3):Prop :=
 H b=none/\b≠X.env.locals/\b∉X.fs/\(b∈X.ex\/X.s₀.heap.objs.size<=b)/\(∀x c,X.env.cells.lookup x=some c->c≠b)/\∀p∈X.pn++a,p.1≠b
def Inv.fpOk{X:Cx}{a:A1 (A3×Obj)}{σ:St}{H H':Hp}{s:A4}{b:A3}(I:Inv X a σ H s)(d:s.heap.objs.size<=b)(f:H' b=none):Es X a H' b:=by
 refine⟨f,Nat.ne_of_gt (BG I.lt d),I.nofs d,.inr (Nat.le_trans I.sz d),fun x c e z=>?_,fun p g z=>?_⟩
 .obtain⟨v,q⟩:=I.cell x c e;exact absurd (BG q.lt (by rw[z];exact d)) (DP _)
 .exact absurd (BG (AI (I.pin p g).1) (by rw[z];exact d)) (DP _)
structure MO(P:A7)(w:HW)(K:PySem.W.Frag)(tg:IB)(J:It)(fp:A1 A3)(it:A3)(tn:Nat->H_->Prop):Prop where
 mem:it∈fp
 obj:∀i h,tn i h->∀b∈fp,∃o,h.get? b=some o/\∀v,o.data≠ .cell v
 keep:∀i h h',tn i h->(∀b∈fp,∀o,h.get? b=some o->h'.get? b=some o)->tn i h'
 item:∀(X:Cx),X.prog=P->X.w=w->X.K=K->X.calm=true->∀(i:Nat) (pins:A1 (A3×Obj)) (s:A4) (σ:St) (H:Hp) (E:A2->A4->Prop),Inv X pins σ H s->(∀b∈fp,Es X pins H b)->tn i s.heap->J.go i H ->
  wpAny (model P w) X.A (pyNext (.ref it)) (fun r s1=>∃u,r=some u /\
   wpAny (model P w) X.A (letOwnedTupleGo tg (.ref it) u) (fun _ s2=>∃x H',Inv X pins σ H' s2/\RelV x u/\J.yld i H x H'/\tn (i+1) s2.heap/\∀b∈fp,H' b=none) E s1) E s
 done:∀(X:Cx),X.prog=P->X.w=w->X.K=K->X.calm=true->∀(i:Nat) (pins:A1 (A3×Obj)) (s:A4) (σ:St) (H:Hp) (E:A2->A4->Prop),Inv X pins σ H s->(∀b∈fp,Es X pins H b)->tn i s.heap->J.stop i H ->
  wpAny (model P w) X.A (pyNext (.ref it)) (fun r s1=>r=none/\Inv X pins σ H s1) E s
 self:∀(A:IC) (i:Nat) (s:A4) (Q:A2->A4->Prop) (E:A2->A4->Prop),tn i s.heap->Q (.ref it) s->wpAny (model P w) A (pyIter (.ref it)) Q E s
abbrev TI:=St->Hp->(It->Hp->Prop)->Prop
def PIE(X:Cx)(a:A1 (A3×Obj))(σ:St)(tg:IB)(R:It->Hp->Prop)(c:A2)(e:A4):Prop :=
 ∃(f:A3) (g:A1 A3) (h:Nat->H_->Prop) (J:It) (d:Hp),c = .ref f/\Inv X a σ d e/\MO X.prog X.w X.K tg J g f h/\h 0 e.heap/\(∀b∈g,Es X a d b)/\R J d
def PI(X:Cx)(tg iter:IB)(b:TI):Prop :=
 ∀(a:A1 (A3×Obj)) (s:A4) (σ:St) (H:Hp) (R:It->Hp->Prop),Inv X a σ H s->b σ H R ->
  wpAny (model X.prog X.w) X.A (eval iter X.env) (fun v c=>wpAny (model X.prog X.w) X.A (pyIter v) (PIE X a σ tg R) X.xe c) X.xe s
def Nj{M:Model}{A:IC}{E:A2->A4->Prop}{s:A4}{tg:IB}{b:A3}{u:A2}{o:Obj}{n:String}{vs:F1 A2}{Q:Unit->A4->Prop}(c:s.heap.get? b=some o)(d:o.cls = .type n)(e:o.data = .fields vs)
    (f:["enumerate", "zip", "dict_itemiterator", "dict_reverseitemiterator", "odict_iterator", "itertools.zip_longest", "itertools.pairwise"].contains n=false) (a:Q () s):wpAny M A (letOwnedTupleGo tg (.ref b) u) Q E s:=by
  unfold letOwnedTupleGo;cases tg<;>first
    | exact AG a
    | (cases u<;>first
        | exact AG a
        | (refine AA (wpAny_load c ?_)
           rw[d,e];show wpAny M A (if(["enumerate", "zip", "dict_itemiterator", "dict_reverseitemiterator", "odict_iterator", "itertools.zip_longest", "itertools.pairwise"].contains n&&vs[0]? == some (rawInt _))=true then _ else _) Q E s;rw[AJ (by intro h;rw[f,ER]at h;cases h)];exact AG a))
def SO(K:PySem.W.Frag)(a:A3):It :=
 ⟨fun i H=>∃b x,IA K H a b/\b[i]?=some x,fun i H x c=>c=H/\∀b,IA K H a b->b[i]?=some x,fun i H=>∃b,IA K H a b/\b.length<=i⟩
def Itt(K:PySem.W.Frag)(a:A3):It :=
 ⟨fun i H=>∃b x,IZ K H a b/\b[i]?=some x,fun i H x c=>c=H/\∀b,IZ K H a b->b[i]?=some x,fun i H=>∃b,IZ K H a b/\b.length<=i⟩
def RQ(lo:Int)(n:Nat):It:=⟨fun i _=>i<n,fun i H x a=>a=H/\x = .int (lo+i),fun i _=>n<=i⟩
def Hn{P:A7}{w:HW}{K:PySem.W.Frag}{tg:IB}(a g:A3):MO P w K tg (SO K a) [g] g (fun i h=>h.IsListIter g a i) where
 mem:=by simp
 obj:=fun i h st b j=>by
  have e:b=g:=by simpa using j
  subst e;obtain⟨o,e,c,d⟩:=st;exact⟨o,e,fun v z=>by rw[d]at z;cases z⟩
 keep:=fun i h m st k=>st.at fun o e=>k g (by simp) o e
 item:=by
  intro X r t y N i f s σ H E I n st A;subst r t y;obtain⟨O,x,q,B⟩:=A;obtain⟨C,D,p,Q⟩:=I.list q;obtain⟨u,R,S⟩:=D.get B;obtain⟨F,G,T,J,L,M⟩:=n g (by simp);refine wpAny_pyNext_list_item st p.isList (x:=u) (by simpa using R) fun m l U=>?_;have V:Inv X f σ H { s with heap:=m }:=I.turned (t':=s.toks) (fun b o j e=>(U.2 b j).trans e) F G J L M;obtain⟨o,e,c,d⟩:=id l;exact⟨u,rfl,Nj (s:={ s with heap:=m }) e c d (by decide) ⟨x,H,V,S,⟨rfl,fun ys Y=>by rw[I.list_inj Y q];exact B⟩,l,fun b j=>(n b j).1⟩⟩
 done:=by
  intro X r t y N i f s σ H E I n st A;subst r t y;obtain⟨O,q,B⟩:=A;obtain⟨C,D,p,Q⟩:=I.list q;obtain⟨F,G,T,J,L,M⟩:=n g (by simp);have hl:=D.length;exact wpAny_pyNext_list_end (I.ok.hd N) st p.isList (by simp;omega) fun m Z=>⟨rfl,I.turned (t':=s.toks) (fun b o j e=>Z b o j e) F G J L M⟩
 self:=fun _ _ _ _ _ st h=>wpAny_pyIter_listiter st h
def Nc{P:A7}{w:HW}{K:PySem.W.Frag}{tg:IB}(a g:A3):MO P w K tg (Itt K a) [g] g (fun i h=>h.IsTupleIter g a i) where
 mem:=by simp
 obj:=fun i h st b j=>by
  have e:b=g:=by simpa using j
  subst e;obtain⟨o,e,c,d⟩:=st;exact⟨o,e,fun v z=>by rw[d]at z;cases z⟩
 keep:=fun i h n st k=>st.at fun o e=>k g (by simp) o e
 item:=by
  intro X t y A N i f s σ H E I q st B;subst t y A;obtain⟨O,x,r,C⟩:=B;obtain⟨l,D,p,Q⟩:=I.tuple r;obtain⟨u,R,S⟩:=D.get C;obtain⟨F,G,T,J,L,M⟩:=q g (by simp);refine wpAny_pyNext_tuple_item st (show s.heap.IsTuple a l.toArray from p) (x:=u) (by simpa using R) fun n m U=>?_;have V:Inv X f σ H { s with heap:=n }:=I.turned (t':=s.toks) (fun b o j e=>(U.2 b j).trans e) F G J L M;obtain⟨o,e,c,d⟩:=id m;exact⟨u,rfl,Nj (s:={ s with heap:=n }) e c d (by decide) ⟨x,H,V,S,⟨rfl,fun ys Y=>by rw[I.tuple_inj Y r];exact C⟩,m,fun b j=>(q b j).1⟩⟩
 done:=by
  intro X t y A N i f s σ H E I q st B;subst t y A;obtain⟨O,r,C⟩:=B;obtain⟨l,D,p,Q⟩:=I.tuple r;obtain⟨F,G,T,J,L,M⟩:=q g (by simp);have hl:=D.length;exact wpAny_pyNext_tuple_end (I.ok.hd N) st (show s.heap.IsTuple a l.toArray from p) (by simp;omega) fun n Z=>⟨rfl,I.turned (t':=s.toks) (fun b o j e=>Z b o j e) F G J L M⟩
 self:=fun _ _ _ _ _ st h=>wpAny_pyIter_tupleiter st h
def Nk{P:A7}{w:HW}{K:PySem.W.Frag}{tg:IB}(a:A3)(lo:Int)(n:Nat):MO P w K tg (RQ lo n) [a] a (fun i h=>IsRangeIter h a (lo +(i:Nat)*1) ((n:Int)-(i:Nat)) 1) where
 mem:=by simp
 obj:=fun i h st b d=>by
  have e:b=a:=by simpa using d
  subst e;exact⟨_,st,fun v z=>by
   have D:Data.fields _=Data.cell v:=z;cases D⟩
 keep:=fun i h g st k=>k a (by simp) _ st
 item:=by
  intro X l m p q i c s σ H E I j st r;subst l m p;obtain⟨u,x,F,y,A,B⟩:=j a (by simp);have W:=Walks.range (prog:=X.prog) (w:=X.w) (I.ok.hd q) a lo 1 n;refine W.item i s _ _ r st fun v g C G f kk=>?_;obtain⟨t,rfl⟩:=G;have J:Inv X c σ H { s with heap:=g,toks:=C }:=I.turned (fun b o d e=>kk b o (by simpa using d) e) u x y A B;refine⟨_,rfl,Nj (s:={ s with heap:=g,toks:=C }) (n := "range_iterator") f rfl rfl (by decide) ⟨.int (lo+i),H,J,⟨t,?_⟩,⟨rfl,rfl⟩,f,fun b d=>(j b d).1⟩⟩;rw[Int.mul_one]
 done:=by
  intro X l m p q i c s σ H E I j st r;subst l m p;obtain⟨u,x,F,y,A,B⟩:=j a (by simp);exact wpAny_pyNext_range_end (I.ok.hd q) st (by have:n<=i:=r;omega) fun g L=>⟨rfl,I.turned (t':=s.toks) (fun b o d e=>L b o d e) u x y A B⟩
 self:=fun _ _ _ _ _ st h=>wpAny_pyIter_rangeiter st h
section
variable{X:Cx}{tg:IB}
def zCp(K:PySem.W.Frag)(c:TE):TI:=fun σ H R=>c σ H fun x b=>∃a,x = .ref a/\(∃d,IA K b a d)/\R (SO K a) b
theorem Xk{l:IB}{g:TE}(i:PE X l g):PI X tg l (zCp X.K g):=by
 intro c s σ H R I h;refine IT (i c s σ H _ I h) fun v d ⟨x,j,f,k,m⟩=>?_;obtain⟨a,e,⟨u,n⟩,q⟩:=m;subst e;cases k;obtain⟨r,w,p,y⟩:=f.list n;refine FQ p.isList ?_;refine⟨d.heap.objs.size,[d.heap.objs.size],_,_,j,rfl,f.kept (t':=d.toks) fun b o e=>AD _ e,Hn a _,⟨_,AQ _ rfl,rfl,rfl⟩,fun b t=>?_,q⟩;have e:b=d.heap.objs.size:=by simpa using t
 subst e;exact f.fpOk (Nat.le_refl _) (f.hok.fresh (Nat.le_refl _))
theorem Ue{a:A1 (A3×Obj)}{σ:St}{H:Hp}{s:A4}{R:It->Hp->Prop}{E:A2->A4->Prop}{lo hi:Int}{t u v:Tok}{c:Nat}(I:Inv X a σ H s)(h1:-(2^62)<=lo)(h2:lo<2^62)(f:-(2^62)<=hi)(g:hi<2^62)
  (q:R (RQ lo (hi-lo).toNat) H):wpAny (model X.prog X.w) X.A (pyIter (.ref s.heap.objs.size)) (PIE X a σ tg R) E { s with heap:=s.heap.push { cls:=.type "range",data:=.fields #[.int lo t,.int hi u,.int 1 v] },toks:=c }:=by
 refine wpAny_pyIter_range (IsRange.new ..) (small_one h1 h2 f g) ?_;have d:Inv X a σ H { s with heap:=s.heap.push { cls:=.type "range",data:=.fields #[.int lo t,.int hi u,.int 1 v] },toks:=c }:=I.kept fun b o e=>AD _ e;refine⟨(s.heap.push { cls:=.type "range",data:=.fields #[.int lo t,.int hi u,.int 1 v] }).objs.size,[(s.heap.push { cls:=.type "range",data:=.fields #[.int lo t,.int hi u,.int 1 v] }).objs.size],_,_,H,rfl,
  d.kept (t':=c) fun b o e=>AD _ e,Nk _ lo (hi-lo).toNat,?_,fun b h=>?_,q⟩
 .have i:lo +((0:Nat):Int)*1=lo:=by simp
  have j:(((hi-lo).toNat:Nat):Int)-((0:Nat):Int)=Builtin.Range.rangeSize lo hi 1:=by rw[rangeSize_one];split<;>omega
  show IsRangeIter _ _ (lo +((0:Nat):Int)*1) ((((hi-lo).toNat:Nat):Int)-((0:Nat):Int)) 1;rw[i,j];exact AQ _ rfl
 .have e:b =(s.heap.push { cls:=.type "range",data:=.fields #[.int lo t,.int hi u,.int 1 v] }).objs.size:=by simpa using h
  subst e;exact d.fpOk (Nat.le_refl _) (d.hok.fresh (Nat.le_refl _))
def zCq(a:TA):TI:=fun σ H R=>a σ H fun b c=>∃j:Int,b = [.int j]/\-(2^62)<=j/\j<2^62/\R (RQ 0 j.toNat) c
theorem Qw{a:IB}{d:TA}{p pos:Pos}(f:Gl X "range")(g:X.mg "range" = none)(i:PA X [a] d)(k:starEach [a] X.env = [(false,eval a X.env)]:=by rfl):PI X tg (.Call (.Name "range" p) [a] [] pos) (zCq d):=by
 intro b s σ H R I h;refine Call_ (W7 I f g boot_range (PyProof.Rows.callWith_type1 (IT (i pos b s σ H _ I h) fun u v ⟨w,x,l,m,c⟩=>?_) k rfl));obtain⟨j,e,c,n,q⟩:=c;subst e;cases m with
 | cons r o =>
  cases o;obtain⟨t,rfl⟩:=r;exact call_range_1 (Ue l (by omega) (by omega) c n (by simpa using q))
def zFz(c:TI)(g:TG)(d:TS):TS:=fun D σ H=>c σ H fun J e=>∃W:Nat->Nat->St->Hp->Prop,(∃m,W 0 m σ e)/\∀i m σ H,W i m σ H ->
 (J.stop i H/\D.nx σ H)\/(J.go i H/\∃N:St->Hp->Prop,(∀σ' a,N σ' a->∃b,b < m/\W (i+1) b σ' a)/\∀x a,J.yld i H x a->g x σ a fun σ2 f=>d { D with nx:=N,ct:=N,bk:=D.nx } σ2 f)
def Ez(fp:A1 A3)(h:H_):A1 (A3×Obj):=fp.filterMap fun b=>(h.get? b).map fun o=>(b,o)
theorem W1{fp:A1 A3}{h:H_}{b:A3}{o:Obj}(a:b∈fp)(e:h.get? b=some o):(b,o)∈Ez fp h:=List.mem_filterMap.mpr ⟨b,a,by rw[e];rfl⟩
theorem Qi{fp:A1 A3}{h:H_}{p:A3×Obj}(a:p∈Ez fp h):p.1∈fp/\h.get? p.1=some p.2:=by
 obtain⟨b,c,e⟩:=List.mem_filterMap.mp a;cases q:h.get? b with
 | none=>rw[q]at e;cases e
 | some o =>
  rw[q]at e;have d:(b,o)=p:=BE e;subst d;exact⟨c,q⟩
theorem Inv.pinned{a:A1 (A3×Obj)}{σ:St}{H:Hp}{s:A4}{fp:A1 A3}(I:Inv X a σ H s)(g:∀b∈fp,Es X a H b)(h:∀b∈fp,∃o,s.heap.get? b=some o/\∀v,o.data≠ .cell v):Inv X (a++Ez fp s.heap) σ H s :=
 I.pins_of fun p i=>(AW.mp i).elim (fun z=>I.pin p (BK _ z)) fun z=>by
  obtain⟨c,e⟩:=Qi z;obtain⟨j,k,l,_⟩:=g p.1 c;obtain⟨o,f,d⟩:=h p.1 c;rw[e]at f;cases f;exact⟨e,j,k,l,d⟩
theorem Inv.unpinned{a pl:A1 (A3×Obj)}{σ:St}{H:Hp}{s:A4}(I:Inv X (a++pl) σ H s):Inv X a σ H s:=I.pins_of fun p b=>I.pin p (BK _ (EQ _ b))
theorem O4{iter:IB}{q:A1 IL}{R:TI}{g:TG}{S:TS}{pos:Pos}(z:PassesOwn (model X.prog X.w) X.A X.env X.xe)(U:X.calm=true)(hi:PI X tg iter R)(hg:PG X tg g)(c:P7 X q S)
  (hs:∀x,foldedSetIterable iter X.env x=pure x:=by intro _;rfl):PS X (.For tg iter q [] pos) (zFz R g S):=by
 intro a s σ H D I h;refine wpAny_For (IT (hi a s σ H _ I h) fun v s1 h1=>IT h1 fun itv s2 h2=>?_) hs;obtain⟨it,B,V,J,H2,e,I2,T,L,Y,W,⟨m0,w0⟩,C⟩:=h2;subst e;have j:∀{p:Hp},(∀b∈B,p b=none)->∀b∈B,Es X a p b:=fun hn b c=>⟨hn b c,(Y b c).2⟩;refine codeAny_forLoop_any (fun n Z=>∃i σ' p,Inv X a σ' p Z/\V i Z.heap/\(∀b∈B,p b=none)/\W i n σ' p) ?_ m0 ⟨0,σ,H2,I2,L,fun b c=>(Y b c).1,w0⟩;rintro n s3 ⟨i,σ3,K,I3,E,F,w3⟩;rcases C i n σ3 K w3 with⟨stop,qn⟩ | ⟨go,N,hN,step⟩
 .refine FI z (IT (T.done X rfl rfl rfl U i a s3 σ3 K X.xe I3 (j F) E stop) fun r s4 ⟨M,I4⟩=>?_);subst M;exact wpAny_execs_nil ⟨σ3,K,I4,qn⟩
 .refine FI z (IT (T.item X rfl rfl rfl U i a s3 σ3 K X.xe I3 (j F) E go) fun r s4 ⟨u,M,h4⟩=>?_);subst M;refine FI z (IT h4 fun _ s5 ⟨x,H5,I5,r5,y5,y,O⟩=>?_);have P:=I5.pinned (j O) (T.obj _ _ y);refine FI z (IT (hg _ s5 σ3 H5 x u _ P r5 (step x H5 y5)) fun _ s6 ⟨σ6,H6,I6,q6⟩=>?_);refine FI z (IT (c _ s6 σ6 H6 _ I6 q6) fun f Q t=>?_);have again:∀{σ7:St} {k:Hp},Inv X (a++Ez B s5.heap) σ7 k Q->N σ7 k->∃m,m<n/\∃i σ' p,Inv X a σ' p Q/\V i Q.heap/\(∀b∈B,p b=none)/\W i m σ' p:=fun{σ7 k} l G=>by
   obtain⟨m',hm,w7⟩:=hN σ7 k G;refine⟨m',hm,i+1,σ7,k,l.unpinned,T.keep _ _ _ y fun b c o e=>(l.pin (b,o) (BK _ (BK _ (W1 c e)))).1,fun b c=>?_,w7⟩;obtain⟨o,e,d⟩:=T.obj _ _ y b c;exact(l.pin (b,o) (BK _ (BK _ (W1 c e)))).2.1
  cases f with
  | next=>obtain⟨σ7,k,l,G⟩:=t;exact again l G
  | cont=>obtain⟨σ7,k,l,G⟩:=t;exact again l G
  | brk=>obtain⟨σ7,k,l,t⟩:=t;exact⟨σ7,k,l.unpinned,t⟩
  | ret v=>obtain⟨x7,σ7,k,l,r7,t⟩:=t;exact⟨x7,σ7,k,l.unpinned,r7,t⟩
end
def Td{lo:Int}{n:Nat}{g:TG}{c:TS}{D:Ends}{σ:St}{H:Hp}(Pv:Nat->St->Hp->Prop)(f:Pv 0 σ H)
  (h:∀i σ H,i<n->Pv i σ H->g (.int (lo+i)) σ H fun σ2 b=>c { D with nx:=Pv (i+1),ct:=Pv (i+1),bk:=D.nx } σ2 b) (j:∀σ H,Pv n σ H->D.nx σ H) :
  ∃W:Nat->Nat->St->Hp->Prop,(∃m,W 0 m σ H)/\∀i m σ H,W i m σ H ->
   ((RQ lo n).stop i H/\D.nx σ H)\/((RQ lo n).go i H/\∃N:St->Hp->Prop,(∀σ' H',N σ' H'->∃d,d < m/\W (i+1) d σ' H')/\∀x H',(RQ lo n).yld i H x H'->g x σ H' fun σ2 b=>c { D with nx:=N,ct:=N,bk:=D.nx } σ2 b):=by
 refine⟨fun i m σ H=>m=n-i/\i<=n/\Pv i σ H,⟨n,by simp,CI _,f⟩,?_⟩;rintro i m σ H ⟨rfl,l,p⟩;by_cases a:i<n
 .refine .inr ⟨a,Pv (i+1),fun σ' H' k=>⟨n-(i+1),by omega,rfl,a,k⟩,fun x H' y=>?_⟩;obtain⟨e,y⟩:=y;subst e y;exact h i σ _ a p
 .have e:i=n:=by omega
  subst e;exact .inl ⟨Nat.le_refl _,j σ H p⟩
abbrev R2:=V->V->Hp->VK->Prop
def KU(X:Cx)(f:A2->A2->Sem A2)(r:R2):Prop :=
 ∀(a:A1 (A3×Obj)) (s:A4) (σ:St) (H:Hp) (x y:V) (v u:A2) (Q:VK),Inv X a σ H s->RelV x v->RelV y u->r x y H Q ->
  wpAny (model X.prog X.w) X.A (f v u) (EP X a σ Q) X.xe s
def UnR(X:Cx)(f:A2->Sem A2)(r:V->Hp->VK->Prop):Prop :=
 ∀(a:A1 (A3×Obj)) (s:A4) (σ:St) (H:Hp) (x:V) (v:A2) (Q:VK),Inv X a σ H s->RelV x v->r x H Q ->
  wpAny (model X.prog X.w) X.A (f v) (EP X a σ Q) X.xe s
def K0(X:Cx)(f:A2)(r:A1 V->Hp->VK->Prop):Prop :=
 ∀(a:A1 (A3×Obj)) (s:A4) (σ:St) (H:Hp) (b:A1 V) (c:A1 A2) (Q:VK),Inv X a σ H s->IH b c->r b H Q ->
  wpAny (model X.prog X.w) X.A (call f c) (EP X a σ Q) X.xe s
def zFs(X:Cx)(r:V->Hp->(Bool->Hp->Prop)->Prop):Prop :=
 ∀(a:A1 (A3×Obj)) (s:A4) (σ:St) (H:Hp) (x:V) (v:A2) (Q:Bool->Hp->Prop),Inv X a σ H s->RelV x v->r x H Q ->
  wpAny (model X.prog X.w) X.A (truthy v) (TP X a σ Q) X.xe s
def tOp(r:R2)(a b:TE):TE:=fun σ H Q=>a σ H fun x c=>b σ c fun y d=>r x y d Q
def tUn(r:V->Hp->VK->Prop)(a:TE):TE:=fun σ H Q=>a σ H fun x b=>r x b Q
def rI(C:Int->Int->Prop)(g:Int->Int->V):R2:=fun x y H Q=>∃i j,x = .int i/\y = .int j/\C i j/\Q (g i j) H
def QU(g:Int->Int->V):R2:=fun x y H Q=>∃i j,x = .int i/\y = .int j/\Q (g i j) H
def rU(g:Int->V):V->Hp->VK->Prop:=fun x H Q=>∃i,x = .int i/\Q (g i) H
section
variable{X:Cx}{a b c:IB}{ta tb tc:TE}{pos:Pos}
theorem zDf(i:PE X a ta)(j:PE X b tb){c:A1 (A3×Obj)}{s:A4}{σ:St}{H:Hp}{R:V->V->Hp->Prop}(I:Inv X c σ H s)
  (h:ta σ H fun x g=>tb σ g fun y d=>R x y d) {Q:A2->A4->Prop} {f:A2->A2->Sem A2}
  (k:∀v u e x y d,Inv X c σ d e->RelV x v->RelV y u->R x y d->wpAny (model X.prog X.w) X.A (f v u) Q X.xe e) :
  wpAny (model X.prog X.w) X.A (eval a X.env) (fun v s₁=>wpAny (model X.prog X.w) X.A (eval b X.env) (fun u s₂=>wpAny (model X.prog X.w) X.A (f v u) Q X.xe s₂) X.xe s₁) X.xe s:=by
 refine IT (i c s σ H _ I h) fun v l ⟨x,g,m,n,o⟩=>?_;refine IT (j c l σ g _ m o) fun u e ⟨y,d,p,q,r⟩=>?_;exact k v u e x y d p n q r
theorem C4{op:Operator}{r:R2}(d:KU X (binaryOp op) r)(e:PE X a ta)(f:PE X b tb):PE X (.BinOp a op b pos) (tOp r ta tb):=by
 intro c s σ H Q I h;exact wpAny_BinOp (zDf e f I h fun v u g x y i j k l q=>d c g σ i x y v u Q j k l q)
theorem Iw{op:UnaryOp}{r:V->Hp->VK->Prop}(c:UnR X (unaryOp op) r)(d:PE X a ta):PE X (.UnaryOp op a pos) (tUn r ta):=by
 intro b s σ H Q I h;exact UnaryOp_ (IT (d b s σ H _ I h) fun v e ⟨x,f,g,i,j⟩=>c b e σ f x v Q g i j)
theorem SK{f:A2->A2->Sem A2}{C:Int->Int->Prop}{g:Int->Int->Int}
  (rule:∀(i j:Int) (t u:Tok) (s:A4) (Q:A2->A4->Prop) (E:A2->A4->Prop),C i j->Q (.int (g i j) s.toks) { s with toks:=s.toks+1 }->wpAny (model X.prog X.w) X.A (f (.int i t) (.int j u)) Q E s) :
  KU X f (rI C fun i j=>.int (g i j)):=by
 intro a s σ H x y v u Q I b c h;obtain⟨i,j,rfl,rfl,d,q⟩:=h;obtain⟨t,rfl⟩:=b;obtain⟨e,rfl⟩:=c;exact rule i j t e s _ _ d ⟨.int (g i j),H,I.tok _,⟨_,rfl⟩,q⟩
theorem SU{f:A2->A2->Sem A2}{g:Int->Int->Int}
  (rule:∀(i j:Int) (t u:Tok) (s:A4) (Q:A2->A4->Prop) (E:A2->A4->Prop),Q (.int (g i j) s.toks) { s with toks:=s.toks+1 }->wpAny (model X.prog X.w) X.A (f (.int i t) (.int j u)) Q E s) :
  KU X f (QU fun i j=>.int (g i j)):=by
 intro a s σ H x y v u Q I b c h;obtain⟨i,j,rfl,rfl,q⟩:=h;obtain⟨t,rfl⟩:=b;obtain⟨d,rfl⟩:=c;exact rule i j t d s _ _ ⟨.int (g i j),H,I.tok _,⟨_,rfl⟩,q⟩
theorem zDb{f:A2->A2->Sem A2}{g:Int->Int->Bool}
  (rule:∀(i j:Int) (t u:Tok) (s:A4) (Q:A2->A4->Prop) (E:A2->A4->Prop),Q (.bool (g i j)) s->wpAny (model X.prog X.w) X.A (f (.int i t) (.int j u)) Q E s) :
  KU X f (QU fun i j=>.bl (g i j)):=by
 intro a s σ H x y v u Q I b c h;obtain⟨i,j,rfl,rfl,q⟩:=h;obtain⟨t,rfl⟩:=b;obtain⟨d,rfl⟩:=c;exact rule i j t d s _ _ ⟨.bl (g i j),H,I,rfl,q⟩
def zGq(i j:Int):Prop:=0<j/\j<1073741824
def zEz(i j:Int):Prop:=0<=j/\j<=1000000/\i.natAbs<2^64
def SE(i j:Int):Prop:=(-(2^64)<i/\i<2^64)\/(-(2^64)<j/\j<2^64)
theorem SE.ok{i j:Int}(h:SE i j):IntMulOk i j:=by
 rcases h with⟨a,b⟩ | ⟨a,b⟩
 .exact .of_left (intBits_le_64 a b)
 .exact .of_right (intBits_le_64 a b)
theorem Nu(k:Nat):(0:Int)<=2^k:=by
 rw[two_pow_cast];exact Int.natCast_nonneg _
theorem m9:KU X (binaryOp .Add) (QU fun i j=>.int (i+j)):=SU fun _ _ _ _ _ _ _ q=>add_int q
theorem zCr:KU X (binaryOp .Sub) (QU fun i j=>.int (i-j)):=SU fun _ _ _ _ _ _ _ q=>sub_int q
theorem Cs:KU X (binaryOp .Mult) (rI SE fun i j=>.int (i*j)):=SK fun _ _ _ _ _ _ _ a q=>mul_int q a.ok
theorem Qy:KU X (binaryOp .FloorDiv) (rI zGq fun i j=>.int (i / j)):=SK fun i j _ _ _ _ _ a q=>by
 have b:(0:Int)<j:=a.1;have c:j<1073741824:=a.2;exact floordiv_int (by omega) (by rw[Int.fdiv_eq_ediv_of_nonneg i (by omega)];exact q) (.inl (PyProof.noPylong_small (by omega)))
theorem Fk:KU X (binaryOp .Mod) (rI (fun _ j=>0<j) fun i j=>.int (i % j)):=SK fun i j _ _ _ _ _ a q=>by
 have b:(0:Int)<j:=a;exact mod_int' (by omega) (by rw[Int.fmod_eq_emod_of_nonneg i (by omega)];exact q)
theorem zCu:KU X (binaryOp .Pow) (rI zEz fun i j=>.int (i^j.toNat)):=SK fun _ _ _ _ _ _ _ a q=>pow_int_small a.1 a.2.1 a.2.2 q
theorem Aq:KU X (binaryOp .LShift) (rI zEz fun i j=>.int (i*2^j.toNat)):=SK fun _ _ _ _ _ _ _ a q=>lshift_int_small a.1 a.2.1 a.2.2 q
theorem Fu:KU X (binaryOp .RShift) (rI (fun _ j=>0<=j) fun i j=>.int (i / 2^j.toNat)):=SK fun i j _ _ _ _ _ a q =>
 rshift_int a (by rw[Int.fdiv_eq_ediv_of_nonneg i (Nu _)];exact q)
theorem K5:KU X (binaryOp .BitAnd) (QU fun i j=>.int (Builtin.bitAnd i j)):=SU fun _ _ _ _ _ _ _ q=>and_int q
theorem Y2:KU X (binaryOp .BitOr) (QU fun i j=>.int (Builtin.bitOr i j)):=SU fun _ _ _ _ _ _ _ q=>or_int q
theorem Wb:KU X (binaryOp .BitXor) (QU fun i j=>.int (Builtin.bitXor i j)):=SU fun _ _ _ _ _ _ _ q=>xor_int q
theorem unI{f:A2->Sem A2}{g:Int->Int}
  (rule:∀(i:Int) (t:Tok) (s:A4) (Q:A2->A4->Prop) (E:A2->A4->Prop),Q (.int (g i) s.toks) { s with toks:=s.toks+1 }->wpAny (model X.prog X.w) X.A (f (.int i t)) Q E s) :
  UnR X f (rU fun i=>.int (g i)):=by
 intro a s σ H x v Q I b h;obtain⟨i,rfl,q⟩:=h;obtain⟨t,rfl⟩:=b;exact rule i t s _ _ ⟨.int (g i),H,I.tok _,⟨_,rfl⟩,q⟩
theorem Re:UnR X (unaryOp .USub) (rU fun i=>.int (-i)):=unI fun _ _ _ _ _ q=>neg_int q
theorem Lm:UnR X (unaryOp .Invert) (rU fun i=>.int (Builtin.bitNot i)):=unI fun _ _ _ _ _ q=>invert_int q
end
def zEu:V->V->Bool
 | .non,.non=>true | .non,.int _=>true | .int _,.non=>true | .non,.bl _=>true | .bl _,.non=>true | .non,.str _=>true | .str _,.non=>true
 | .int _,.int _=>true | .bl _,.bl _=>true | .str _,.str _=>true | .byt _,.byt _=>true
 | .int _,.str _=>true | .str _,.int _=>true | .bl _,.str _=>true | .str _,.bl _=>true
 | _,_=>false
def rEq:R2:=fun x y H Q=>zEu x y=true/\Q (.bl (decide (x=y))) H
def rNe:R2:=fun x y H Q=>zEu x y=true/\Q (.bl (!decide (x=y))) H
def Oe{i j:Int}:decide (V.int i=V.int j) =(i == j):=by
 rw[BV];simp
def Wq{i j:Bool}:decide (V.bl i=V.bl j) =(i == j):=by
 rw[BV];simp
def Od{i j:Str}:decide (V.str i=V.str j) =(i == j):=by
 rw[BV];simp
def Rj{i j:F1 UInt8}:decide (V.byt i=V.byt j) =(i.toList == j.toList):=by
 rw[BV];cases i;cases j;simp
section
variable{X:Cx}{a b c:IB}{ta tb tc:TE}{pos:Pos}
theorem E5{a:A1 (A3×Obj)}{σ:St}{H:Hp}{s:A4}{Q:VK}{k b:Bool}(I:Inv X a σ H s)(q:Q (.bl k) H)(e:k=b):EP X a σ Q (.bool b) s:=by
 subst e;exact⟨.bl k,H,I,rfl,q⟩
theorem Q8:KU X (compareOp .Eq) rEq:=by
 intro e s σ H x y v u Q I d a h;obtain⟨c,q⟩:=h;cases x with
 | non =>
  cases d;cases y with
  | non=>cases a;exact PySem.EqNone.eq_none_none (E5 I q (by simp))
  | bl j=>cases a;exact PySem.EqNone.eq_none_bool (E5 I q (by simp))
  | int j=>obtain⟨b,rfl⟩:=a;exact PySem.EqNone.eq_none_int (E5 I q (by simp))
  | str j=>obtain⟨b,rfl⟩:=a;exact PySem.EqNone.eq_none_str (E5 I q (by simp))
  | _=>exact absurd (show false=true from c) AZ
 | bl i =>
  cases d;cases y with
  | non=>cases a;exact PySem.EqNone.eq_bool_none (E5 I q (by simp))
  | bl j=>cases a;exact eq_bool (E5 I q Wq)
  | str j=>obtain⟨b,rfl⟩:=a;exact PySem.EqMixed.eq_bool_str (E5 I q (by simp))
  | _=>exact absurd (show false=true from c) AZ
 | int i =>
  obtain⟨t,rfl⟩:=d;cases y with
  | non=>cases a;exact PySem.EqNone.eq_int_none (E5 I q (by simp))
  | int j=>obtain⟨b,rfl⟩:=a;exact eq_int (E5 I q Oe)
  | str j=>obtain⟨b,rfl⟩:=a;exact PySem.EqMixed.eq_int_str (E5 I q (by simp))
  | _=>exact absurd (show false=true from c) AZ
 | str i =>
  obtain⟨t,rfl⟩:=d;cases y with
  | non=>cases a;exact PySem.EqNone.eq_str_none (E5 I q (by simp))
  | bl j=>cases a;exact PySem.EqMixed.eq_str_bool (E5 I q (by simp))
  | int j=>obtain⟨b,rfl⟩:=a;exact PySem.EqMixed.eq_str_int (E5 I q (by simp))
  | str j=>obtain⟨b,rfl⟩:=a;exact eq_str (E5 I q Od)
  | _=>exact absurd (show false=true from c) AZ
 | byt i =>
  obtain⟨t,rfl⟩:=d;cases y with
  | byt j=>obtain⟨b,rfl⟩:=a;exact PySem.W.eq_bytes (E5 I q Rj)
  | _=>exact absurd (show false=true from c) AZ
 | _=>cases y<;>exact absurd (show false=true from c) AZ
theorem Gw:KU X (compareOp .NotEq) rNe:=by
 intro e s σ H x y v u Q I d a h;obtain⟨c,q⟩:=h;cases x with
 | non =>
  cases d;cases y with
  | non=>cases a;exact PySem.EqNone.ne_none_none (E5 I q (by simp))
  | bl j=>cases a;exact PySem.EqNone.ne_none_bool (E5 I q (by simp))
  | int j=>obtain⟨b,rfl⟩:=a;exact PySem.EqNone.ne_none_int (E5 I q (by simp))
  | str j=>obtain⟨b,rfl⟩:=a;exact PySem.EqNone.ne_none_str (E5 I q (by simp))
  | _=>exact absurd (show false=true from c) AZ
 | bl i =>
  cases d;cases y with
  | non=>cases a;exact PySem.EqNone.ne_bool_none (E5 I q (by simp))
  | bl j=>cases a;exact ne_bool (E5 I q (congrArg not Wq))
  | str j=>obtain⟨b,rfl⟩:=a;exact PySem.EqMixed.ne_bool_str (E5 I q (by simp))
  | _=>exact absurd (show false=true from c) AZ
 | int i =>
  obtain⟨t,rfl⟩:=d;cases y with
  | non=>cases a;exact PySem.EqNone.ne_int_none (E5 I q (by simp))
  | int j=>obtain⟨b,rfl⟩:=a;exact ne_int (E5 I q (congrArg not Oe))
  | str j=>obtain⟨b,rfl⟩:=a;exact PySem.EqMixed.ne_int_str (E5 I q (by simp))
  | _=>exact absurd (show false=true from c) AZ
 | str i =>
  obtain⟨t,rfl⟩:=d;cases y with
  | non=>cases a;exact PySem.EqNone.ne_str_none (E5 I q (by simp))
  | bl j=>cases a;exact PySem.EqMixed.ne_str_bool (E5 I q (by simp))
  | int j=>obtain⟨b,rfl⟩:=a;exact PySem.EqMixed.ne_str_int (E5 I q (by simp))
  | str j=>obtain⟨b,rfl⟩:=a;exact ne_str (E5 I q (congrArg not Od))
  | _=>exact absurd (show false=true from c) AZ
 | byt i =>
  obtain⟨t,rfl⟩:=d;cases y with
  | byt j=>obtain⟨b,rfl⟩:=a;exact PySem.W.ne_bytes (E5 I q (congrArg not Rj))
  | _=>exact absurd (show false=true from c) AZ
 | _=>cases y<;>exact absurd (show false=true from c) AZ
theorem zCa:KU X (compareOp .Lt) (QU fun i j=>.bl (decide (i<j))):=zDb fun _ _ _ _ _ _ _ q=>lt_int q
theorem zAb:KU X (compareOp .LtE) (QU fun i j=>.bl (decide (i<=j))):=zDb fun _ _ _ _ _ _ _ q=>le_int q
theorem zAi:KU X (compareOp .Gt) (QU fun i j=>.bl (decide (j<i))):=zDb fun _ _ _ _ _ _ _ q=>gt_int q
theorem zDj:KU X (compareOp .GtE) (QU fun i j=>.bl (decide (j<=i))):=zDb fun _ _ _ _ _ _ _ q=>ge_int q
theorem Qt:KU X (compareOp .In) (fun x y H Q=>∃i j,x = .str i/\y = .str j/\Q (.bl (!(Builtin.Str.occurrences j i 0 j.length 1).isEmpty)) H):=by
 intro a s σ H x y v u Q I b c h;obtain⟨i,j,rfl,rfl,q⟩:=h;obtain⟨t,rfl⟩:=b;obtain⟨d,rfl⟩:=c;exact in_str (E5 I q rfl)
theorem zAf:KU X (compareOp .Is) (fun x y H Q=>y = .non/\Q (.bl (decide (x = .non))) H):=by
 intro a s σ H x y v u Q I b c h;obtain⟨rfl,q⟩:=h;cases c;refine is_none_gen (E5 I q ?_);cases x<;>first
  | (cases b;rfl)
  | (obtain⟨t,rfl⟩:=b;rfl)
theorem Jg:KU X (compareOp .IsNot) (fun x y H Q=>y = .non/\Q (.bl (!decide (x = .non))) H):=by
 intro a s σ H x y v u Q I b c h;obtain⟨rfl,q⟩:=h;cases c;refine isnot_none_gen (E5 I q ?_);cases x<;>first
  | (cases b;rfl)
  | (obtain⟨t,rfl⟩:=b;rfl)
theorem D6(b:IB){op:CmpOp}(h:op≠ .In:=by decide)(h2:op≠ .NotIn:=by decide):behindInMarks op b=false:=by
 have a:(op == CmpOp.In)=false:=by cases op<;>first | rfl | exact absurd rfl h
 have c:(op == CmpOp.NotIn)=false:=by cases op<;>first | rfl | exact absurd rfl h2
 cases b<;>simp[behindInMarks,a,c]
theorem P1{op:CmpOp}{r:R2}(d:KU X (compareOp op) r)(e:PE X a ta)(f:PE X b tb)(g:behindInMarks op b=false):PE X (.Compare a [op] [b] pos) (tOp r ta tb):=by
 intro c s σ H Q I h;exact wpAny_Compare1 (zDf e f I h fun v u i x y j k l m q=>d c i σ j x y v u Q k l m q) g
def zBs(t:TE):TT:=fun σ H Q=>t σ H fun x a=>∃k,x = .bl k/\Q k a
theorem C2{op:CmpOp}{r:R2}(f:KU X (compareOp op) r)(g:PE X a ta)(i:PE X b tb)(j:behindInMarks op b=false):PT X (.Compare a [op] [b] pos) (zBs (tOp r ta tb)):=by
 intro d s σ H Q I h;refine wpAny_isTrue_Compare1 (IT (g d s σ H _ I h) fun v l ⟨x,m,n,o,p⟩=>IT (i d l σ m _ n p) fun u q ⟨y,t,w,A,B⟩ =>
  IT (f d q σ t x y v u _ w o A B) fun c G ⟨z,C,D,E,k,e,F⟩=>?_) j
 subst e;cases E;exact DE ⟨C,D,F⟩
def zAr(r b:R2)(ta tb tc:TE):TE:=fun σ H Q=>ta σ H fun x c=>tb σ c fun y d=>r x y d fun z a=>∃k,z = .bl k /\
 (if k=true then tc σ a fun e f=>b y e f Q else Q (.bl false) a)
theorem Tn{op g:CmpOp}{r j:R2}(p:KU X (compareOp op) r)(i:KU X (compareOp g) j)(q:PE X a ta)(t:PE X b tb)(w:PE X c tc)
  (A:lastMarks [op,g] [b,c]=false:=by with_unfolding_all rfl):PT X (.Compare a [op,g] [b,c] pos) (zBs (zAr r j ta tb tc)):=by
 intro f s σ H Q I h;refine isTrue_chain (IT (q f s σ H _ I h) fun v B ⟨x,C,D,E,F⟩=>test_link (IT (t f B σ C _ D F) fun u G ⟨y,J,K,l,L⟩ =>
  IT (p f G σ J x y v u _ K E l L) fun d M ⟨z,m,n,N,k,e,o⟩=>?_)) A
 subst e;cases N;refine DE ?_;cases k with
 | false =>
  obtain⟨k',O,P⟩:=o;cases O;exact ite_ff ⟨m,n,P⟩
 | true =>
  refine ite_tt (test_last (IT (w f M σ m _ n o) fun R S ⟨T,U,V,W,Y⟩=>IT (i f S σ U y T u R _ V l W Y) fun d' s5 ⟨z2,Z,I5,r5,k2,e2,q5⟩=>?_));subst e2;cases r5;exact DE ⟨Z,I5,q5⟩
def zEk(K:PySem.W.Frag)(x:V)(H:Hp)(k:Bool):Prop :=
 match x with
 | .non=>k=false
 | .bl b=>k=b
 | .int i=>k =(i != 0)
 | .str y=>y.length<=sizeLine/\k =((y.length:Int) != 0)
 | .byt y=>y.size<=sizeLine/\k =((y.size:Int) != 0)
 | .ref p=>(∃a,IA K H p a/\k=!a.isEmpty)\/(∃a,IZ K H p a/\k=!a.isEmpty)\/∃c,H p=some (.dK c)/\k=!c.isEmpty
 | _=>False
theorem Mq{κ:Type}{a:A1 (κ×V)}{vs:A1 (κ×A2)}(r:KV a vs):(!vs.isEmpty)=!a.isEmpty:=by
 cases r<;>rfl
theorem Co{xs:A1 V}{its:A1 A2}(r:IH xs its):(!its.toArray.isEmpty)=!xs.isEmpty:=by
 cases r<;>simp
theorem Cy:(sizeLine:Nat)<2^63:=by rw[sizeLine_eq];decide
theorem zAk:zFs X (fun x H Q=>∃k,zEk X.K x H k/\Q k H):=by
 intro u s σ H x v Q I g h;obtain⟨k,e,q⟩:=h;have C:=Cy;have D:sizeLine=16777216:=sizeLine_eq;cases x with
 | non =>
  cases g;have a:k=false:=e;subst a;exact truthy_none ⟨H,I,q⟩
 | bl b =>
  cases g;have a:k=b:=e;subst a;exact DE ⟨H,I,q⟩
 | int i =>
  obtain⟨t,rfl⟩:=g;have a:k =(i != 0):=e;subst a;exact PySem.P.truthy_int ⟨H,I,q⟩
 | str y =>
  obtain⟨t,rfl⟩:=g;obtain⟨A,a⟩:y.length<=sizeLine/\k =((y.length:Int) != 0):=e;subst a;exact PySem.P.truthy_str (by omega) ⟨H,I.tok _,q⟩
 | byt y =>
  obtain⟨t,rfl⟩:=g;obtain⟨A,a⟩:y.size<=sizeLine/\k =((y.size:Int) != 0):=e;subst a;exact PySem.W.truthy_bytes (by omega) ⟨H,I.tok _,q⟩
 | ref p =>
  cases g;have a:(∃f,IA X.K H p f/\k=!f.isEmpty)\/(∃f,IZ X.K H p f/\k=!f.isEmpty)\/∃c,H p=some (.dK c)/\k=!c.isEmpty:=e;rcases a with⟨f,j,a⟩ | ⟨f,j,a⟩ | ⟨c,j,a⟩
  .subst a;obtain⟨n,r,o,z⟩:=I.list j;have d:=r.length;exact wpAny_truthy_list o.isList (by simp only[AM];omega) ⟨H,I.tok _,by rw[Co r];exact q⟩
  .subst a;obtain⟨n,r,o,z⟩:=I.tuple j;have d:=r.length;exact truthy_tuple o (by simp only[AM];omega) ⟨H,I.tok _,by rw[Co r];exact q⟩
  .subst a;obtain⟨z,B,l,r,m⟩:c.length<=sizeLine/\(p == sysModules)=false/\∃l,KV c l/\s.heap.DictOf (C7 X.prog X.w) p l:=I.hok p _ j;have d:c.length=l.length:=Paired.length r;exact wpAny_truthy_dict B m (by omega) ⟨H,I.tok _,by rw[Mq r];exact q⟩
 | _=>exact(show False from e).elim
theorem Tk(d:PE X a ta)(e:∀b,isTrue a X.env b =(do let v <-b;standAt a.pos;holding [v] (truthy v))) :
  PT X a (fun σ H Q=>ta σ H fun x H'=>∃k,zEk X.K x H' k/\Q k H'):=by
 intro c s σ H Q I h;exact isTrue_plain (IT (d c s σ H _ I h) fun v f ⟨x,g,i,j,l⟩=>zAk c f σ g x v Q i j l) (e _)
theorem U8{x:V}{us:A1 A2}(r:IH [x] us):∃u,us = [u]/\RelV x u:=by
 cases r with
 | cons a b=>cases b;exact⟨_,rfl,a⟩
theorem zCl{x y:V}{us:A1 A2}(r:IH [x,y] us):∃u a,us = [u,a]/\RelV x u/\RelV y a:=by
 cases r with
 | cons b c =>
  cases c with
  | cons d e=>cases e;exact⟨_,_,rfl,b,d⟩
theorem Lk:K0 X (.builtin "abs") (fun xs H Q=>∃i,xs = [.int i]/\Q (.int (if i<0 then -i else i)) H):=by
 intro a s σ H xs b Q I r h;obtain⟨i,rfl,q⟩:=h;obtain⟨u,rfl,t,rfl⟩:=U8 r;exact call_abs_int fun u c=>⟨.int (if i<0 then -i else i),H,I.tok _,⟨_,rfl⟩,q⟩
theorem Tb(c:X.calm=true):K0 X (.builtin "max") (fun xs H Q=>∃i j,xs = [.int i,.int j]/\Q (.int (if j>i then j else i)) H):=by
 intro b s σ H xs d Q I r h;obtain⟨i,j,rfl,q⟩:=h;obtain⟨u,e,rfl,⟨t,rfl⟩,⟨f,rfl⟩⟩:=zCl r;refine max_two_ints (I.ok.hd c) fun g l k=>⟨_,H,I.kept k,?_,q⟩;by_cases a:j>i
 .rw[AL a,AL a];exact⟨_,rfl⟩
 .rw[AJ a,AJ a];exact⟨_,rfl⟩
theorem Pk(c:X.calm=true):K0 X (.builtin "min") (fun xs H Q=>∃i j,xs = [.int i,.int j]/\Q (.int (if j<i then j else i)) H):=by
 intro b s σ H xs d Q I r h;obtain⟨i,j,rfl,q⟩:=h;obtain⟨u,e,rfl,⟨t,rfl⟩,⟨f,rfl⟩⟩:=zCl r;refine min_two_ints (I.ok.hd c) fun g l k=>⟨_,H,I.kept k,?_,q⟩;by_cases a:j<i
 .rw[AL a,AL a];exact⟨_,rfl⟩
 .rw[AJ a,AJ a];exact⟨_,rfl⟩
theorem Bg:K0 X (.type "int") (fun xs H Q=>(∃i,xs = [.int i]/\Q (.int i) H)\/∃k,xs = [.bl k]/\Q (.int (if k then 1 else 0)) H):=by
 intro a s σ H xs c Q I r h;rcases h with⟨i,rfl,q⟩ | ⟨k,rfl,q⟩
 .obtain⟨u,rfl,t,rfl⟩:=U8 r;exact call_int_int ⟨.int i,H,I,⟨_,rfl⟩,q⟩
 .obtain⟨u,rfl,b⟩:=U8 r;cases b;exact call_int_bool ⟨.int (if k then 1 else 0),H,I.tok _,⟨_,rfl⟩,q⟩
end
structure QF(h:H_)(x dx C:A3)(mA:Str->A5 A2):Prop where
 obj:h.get? x=some (PySem.W.instObj C dx)
 ns:h.Ns1 dx mA
 ne:dx≠x
def Oj{h:H_}{c:A3}{d:Str->A5 A2}(n:h.Ns1 c d):∃f,h.get? c=some f/\∀name,PySem.W.lookIn name f=some (d name):=by
 obtain⟨o,g,r,i,j,k,_,l⟩:=n;refine⟨o,i,fun name=>?_⟩;have e:=l name;unfold nsFind findBy at e;rw[<-Array.find?_toList]at e;unfold PySem.W.lookIn;rw[j];dsimp only;split
 .rename_i y q;rw[q]at e;exact congrArg some e
 .rename_i q;rw[q]at e;have a:g.toList.any (·.refKey)=false:=by
   rw[List.any_eq_false];intro y m;obtain⟨z,t,b⟩:=k y (Array.mem_toList_iff.mp m);simp[DictEntry.refKey,b]
  have p:¬g.toList.any (·.refKey)=true:=by rw[a];exact AZ
  rw[AJ p];exact congrArg some e
def QF.look{h:H_}{x b C:A3}{c:Str->A5 A2}(I:QF h x b C c):∃a,PySem.W.InstAt h x (PySem.W.instObj C b) C (some a)/\∀name,PySem.W.lookIn name a=some (c name) :=
 let⟨a,d,e⟩:=Oj I.ns
 ⟨a,⟨I.obj,rfl,rfl,d⟩,e⟩
section
variable{prog:A7}{w:HW}{A:IC}{E:A2->A4->Prop}{s:A4}{K:PySem.W.Frag}{x dx C f:A3}{mA:Str->A5 A2}{name:Str}{v:A2}
theorem Xp{a:Bool}{Q:A2->A4->Prop}(X:K.In s.heap)(I:QF s.heap x dx C mA)(c:PySem.W.plainGet K C name=true)(d:PySem.W.hasDictIn K C=true)
  (e:PySem.W.findIn K (.ref C) name=some none) (f:mA name=some v) (b:PySem.W.handedIn v=true) (h:Q v { s with toks:=s.toks+1 }) :
  wpAny (model prog w) A (getAttr (.ref x) name a) Q E s:=by
 obtain⟨i,J,g⟩:=I.look;exact PySem.W.get_value X J (PySem.W.plainGet_of c).1 (PySem.W.findObj_own d e rfl (by rw[g,f])) b h
theorem To{pl:Sem Bool}{Q:A2×A1 A2->A4->Prop}(X:K.In s.heap)(I:QF s.heap x dx C mA)(a:PySem.W.plainGet K C name=true)
  (b:PySem.W.findIn K (.ref C) name=some (some (.ref f))) (c:PySem.W.isFn K (.ref f)=true) (d:mA name=none) (h:Q (.ref f,[.ref x]) s) :
  wpAny (model prog w) A (getMethod (.ref x) name pl) Q E s:=by
 obtain⟨e,J,g⟩:=I.look;exact PySem.W.method_fn X J (PySem.W.plainGet_of a).1 (PySem.W.plainGet_of a).2 b (beq_iff_eq.mp c) (by show(PySem.W.lookIn name e).map (·.isSome)=some false;rw[g,d];rfl) h
theorem Xa{ns:A1 Str}{Q:Unit->A4->Prop}(X:K.In s.heap)(I:QF s.heap x dx C mA)
  (j:PySem.W.findIn K (.ref C) "__setattr__" = some (some (.builtin "object.__setattr__"))) (k:PySem.W.plainOver K C=true) (l:PySem.W.takerIn K C name=some none) (m:PySem.W.hasDictIn K C=true)
  (hw:PySem.Within mA ns) (hsz:ns.length<=sizeLine)
  (h:∀h',QF h' x dx C (fun y=>if y=name then some v else mA y)->Heap.SameBut dx s.heap h'->Q () { s with heap:=h',toks:=s.toks+2 }) :
  wpAny (model prog w) A (setAttr (.ref x) name v) Q E s:=by
 obtain⟨t,J,u⟩:=I.look;refine PySem.W.set_plain X J j (PySem.W.osa_open (s:={ s with toks:=s.toks+1 }) (r:=none) X J k l fun b=>?_);obtain⟨z,n,e⟩:=PySem.W.any_some m;have o:s.heap.get? x=some ⟨.ref C,some dx,.plain,#[]⟩:=I.obj;refine AA (AG (AA (AA (wpAny_loadPart o (AA (PySem.W.Looks.here (s:={ s with toks:=s.toks+1 }) (PySem.W.looks_clsIn X n) ?_))))));rw[e];refine AG (a:=some dx) (AA (AG (AA ?_)));refine wpAny_nsSet1 (s:={ s with toks:=s.toks+1 }) I.ns fun h' c d=>?_;obtain⟨B,p,q,f,g,i⟩:=c.count (PySem.Within.cons name v hw);refine AA (wpAny_lookBehind f (by rw[g];exact pastItsLine_dict (Nat.le_trans i (by rw[BJ];omega))) ?_);exact AG (h _ ⟨(d.2 _ (Ne.symm I.ne)).trans I.obj,c,I.ne⟩ d)
theorem Vq{R:Result->A4->Prop}{vs:A1 A2}{b:A1 (Str×A2)}(X:K.In s.heap)(c:PySem.W.makesIn K C=true)
  (hi:PySem.W.findIn K (.ref C) "__init__" = some (some (.ref f))) (e:PySem.W.typeIn K (.ref f)=some (.type "function"))
  (h:codeAny (model prog w) (A.under (.builtin "type.__call__" ⟨.ref C::vs,b⟩)) (.call (.ref f) ⟨.ref (s.heap.objs.size+1)::vs,b⟩) (PySem.W.InitBack (s.heap.objs.size+1) R)
   { s with heap:=(s.heap.push PySem.W.emptyDict).push (PySem.W.instObj C s.heap.objs.size) }) :
  codeAny (model prog w) A (.call (.ref C) ⟨vs,b⟩) R s:=by
 obtain⟨i,g,d,t,os⟩:=s;exact PySem.W.make_core (PySem.W.makes_of X c) (PySem.W.looks_findIn X hi) (fun a=>PySem.W.bind_fn X a e) (.inl rfl) h
end
def Q1(f:Str)(v:V):A1 (Str×V)->A1 (Str×V)
 | []=>[(f,v)]
 | (g,x)::r=>if g=f then(g,v)::r else(g,x)::Q1 f v r
def Bh(f g:Str)(v:V):∀c:A1 (Str×V),(Q1 f v c).lookup g=if g=f then some v else c.lookup g
 | []=>by
  show List.lookup g [(f,v)]=_;by_cases h:g=f
  .have a:(g == f)=true:=beq_iff_eq.mpr h;simp only[List.lookup,a,AL h]
  .have a:(g == f)=false:=beq_eq_false_iff_ne.mpr h;simp only[List.lookup,a,AJ h]
 | (k,x)::r=>by
  have d:=Bh f g v r;rw[show Q1 f v ((k,x)::r) =(if k=f then(k,v)::r else(k,x)::Q1 f v r)from rfl];by_cases b:k=f
  .rw[AL b];by_cases h:g=k
   .have a:(g == k)=true:=beq_iff_eq.mpr h;simp only[List.lookup,a,AL (h.trans b)]
   .have a:(g == k)=false:=beq_eq_false_iff_ne.mpr h;simp only[List.lookup,a,AJ (fun e:g=f=>h (e.trans b.symm))]
  .rw[AJ b];by_cases h:g=k
   .have a:(g == k)=true:=beq_iff_eq.mpr h;simp only[List.lookup,a,AJ (fun e:g=f=>b (h.symm.trans e))]
   .have a:(g == k)=false:=beq_eq_false_iff_ne.mpr h;simp only[List.lookup,a];exact d
def Bk(f:Str)(v:V):∀a:A1 (Str×V),f∈(Q1 f v a).map (·.1)/\∀g,g∈a.map (·.1)->g∈(Q1 f v a).map (·.1)
 | []=>⟨by simp[Q1],fun g h=>by simp at h⟩
 | (k,x)::r=>by
  obtain⟨c,d⟩:=Bk f v r;rw[show Q1 f v ((k,x)::r) =(if k=f then(k,v)::r else(k,x)::Q1 f v r)from rfl];by_cases b:k=f
  .rw[AL b];subst b;exact⟨by simp,fun g h=>by simpa using h⟩
  .rw[AJ b];refine⟨?_,fun g h=>?_⟩
   .rw[A_];exact BF _ c
   .rw[A_]at h⊢;rcases AR.mp h with e | e
    .exact AR.mpr (.inl e)
    .exact BF _ (d g e)
def Bq(f:Str)(v:V):∀a:A1 (Str×V),(Q1 f v a).length<=a.length+1
 | []=>by simp[Q1]
 | (k,x)::r=>by
  have c:=Bq f v r;rw[show Q1 f v ((k,x)::r) =(if k=f then(k,v)::r else(k,x)::Q1 f v r)from rfl];by_cases b:k=f
  .rw[AL b,BJ,BJ];omega
  .rw[AJ b,BJ,BJ];omega
def MP.some_of{v:V}{o:A5 A2}(r:MP (some v) o):∃u,o=some u/\RelV v u:=by
 cases o with
 | none=>exact(show False from r).elim
 | some u=>exact⟨u,rfl,r⟩
def MP.none_of{o:A5 A2}(r:MP none o):o=none:=by
 cases o with
 | none=>rfl
 | some u=>exact(show False from r).elim
def Ph{v:V}{u:A2}(r:RelV v u):PySem.W.handedIn u=true:=by
 cases v with
 | non=>cases(show u=Value.none from r);rfl
 | bl b=>cases(show u=Value.bool b from r);rfl
 | int i=>obtain⟨t,e⟩:=(show ∃t,u=Value.int i t from r);cases e;rfl
 | str x=>obtain⟨t,e⟩:=(show ∃t,u=Value.str x t from r);cases e;rfl
 | byt b=>obtain⟨t,e⟩:=(show ∃t,u=Value.bytes b t from r);cases e;rfl
 | flt b=>obtain⟨t,e⟩:=(show ∃t,u=Value.float b t from r);cases e;rfl
 | ref a=>cases(show u=Value.ref a from r);rfl
 | ty n=>cases(show u=Value.type n from r);rfl
section
variable{P:A7}{w:HW}{H H':Hp}{h h':H_}{a C dx:A3}{fs fs':A1 (Str×V)}
theorem Em(c:MC P w H h)(e:H a=some (.ins C dx fs)):∃b,QF h a dx C b/\(∀f,MP (fs.lookup f) (b f))/\PySem.Within b (fs.map (·.1))/\fs.length<=1000/\H dx=some (.own a):=by
 obtain⟨d,z,g,i,b,n,r,q⟩:=(show IK P w H h a (.ins C dx fs)from c a _ e);exact⟨b,⟨i,n,g⟩,r,q,z,d⟩
end
structure QP(K:PySem.W.Frag)(C:A3):Prop where
 pg:PySem.W.plainGet K C Str.empty=true
 hd:PySem.W.hasDictIn K C=true
 po:PySem.W.plainOver K C=true
 sa:PySem.W.findIn K (.ref C) "__setattr__" = some (some (.builtin "object.__setattr__"))
def QP.get{K:PySem.W.Frag}{C:A3}(c:QP K C)(f:Str):PySem.W.plainGet K C f=true:=c.pg
def JJ(K:PySem.W.Frag)(C:A3)(f:Str):Prop:=PySem.W.findIn K (.ref C) f=some none
def JJ.taker{K:PySem.W.Frag}{C:A3}{f:Str}(n:JJ K C f):PySem.W.takerIn K C f=some none:=by
 unfold PySem.W.takerIn;rw[show PySem.W.findIn K (.ref C) f=some none from n];rfl
structure RO(K:PySem.W.Frag)(C:A3)(m:Str)(f:A3):Prop where
 at_:PySem.W.findIn K (.ref C) m=some (some (.ref f))
 fn:PySem.W.isFn K (.ref f)=true
 kp:PySem.W.keepIn K (.ref f)=true
section
variable{X:Cx}{pins:A1 (A3×Obj)}{σ:St}{H:Hp}{s:A4}{a C dx:A3}{fs:A1 (Str×V)}{f:Str}{v:V}{A:IC}{E:A2->A4->Prop}
theorem Nn{b:Bool}{Q:A2->A4->Prop}(I:Inv X pins σ H s)(e:H a=some (.ins C dx fs))(c:QP X.K C)(n:JJ X.K C f)(l:fs.lookup f=some v)
  (h:∀u d,Inv X pins σ H d->RelV v u->Q u d):wpAny (model X.prog X.w) A (getAttr (.ref a) f b) Q E s:=by
 obtain⟨i,O,r,_,_,_⟩:=Em I.hok e;obtain⟨u,j,g⟩:=MP.some_of (v:=v) (o:=i f) (by rw[<-l];exact r f);exact Xp I.kIn O (c.get f) c.hd n j (Ph g) (h u _ (I.tok _) g)
theorem Ci{m:Str}{g:A3}{pl:Sem Bool}{Q:A2×A1 A2->A4->Prop}(I:Inv X pins σ H s)(e:H a=some (.ins C dx fs))(c:QP X.K C)(k:RO X.K C m g)(l:fs.lookup m=none)
  (h:Q (.ref g,[.ref a]) s):wpAny (model X.prog X.w) A (getMethod (.ref a) m pl) Q E s:=by
 obtain⟨b,O,r,_,_,_⟩:=Em I.hok e;have d:b m=none:=MP.none_of (by rw[<-l];exact r m);exact To I.kIn O (c.get m) k.at_ k.fn d h
theorem Mz{y:V}{u:A2}{Q:Unit->A4->Prop}(I:Inv X pins σ H s)(e:H a=some (.ins C dx fs))(c:QP X.K C)(n:JJ X.K C f)(J:fs.length<1000)(m:RelV y u)
  (h:∀i,Inv X pins σ (HX H a (.ins C dx (Q1 f y fs))) i->Q () i):wpAny (model X.prog X.w) A (setAttr (.ref a) f u) Q E s:=by
 obtain⟨j,O,r,k,_,l⟩:=Em I.hok e;have p:(fs.map (·.1)).length<=sizeLine:=by rw[AB,sizeLine_eq];omega
 refine Xa I.kIn O c.sa c.po n.taker c.hd k p fun t d v=>h _ ?_;have B:∃o,t.get? dx=some o:=let⟨o,_,_,D,_⟩:=d.ns;⟨o,D⟩;refine I.write (x:=a) (e:=dx) (by rw[e];exact True.intro) (.inr l) (fun b q F z=>(v.2 b F).trans z) B ?_;refine⟨by rw[B6 O.ne];exact l,?_,O.ne,d.obj,_,d.ns,fun g=>?_,fun g G=>?_⟩
 .have:=Bq f y fs;omega
 .show MP ((Q1 f y fs).lookup g) (if g=f then some u else j g);rw[Bh];by_cases q:g=f
  .rw[AL q,AL q];exact m
  .rw[AJ q,AJ q];exact r g
 .by_cases q:g=f
  .rw[q];exact(Bk f y fs).1
  .refine(Bk f y fs).2 g (k g fun z=>G ?_);show(if g=f then some u else j g)=none;rw[AJ q];exact z
theorem Inv.made(I:Inv X pins σ H s):Inv X pins σ (HX (HX H s.heap.objs.size (.own (s.heap.objs.size+1))) (s.heap.objs.size+1) (.ins C s.heap.objs.size []))
  { s with heap:=(s.heap.push PySem.W.emptyDict).push (PySem.W.instObj C s.heap.objs.size) }:=by
 have c:(s.heap.push PySem.W.emptyDict).get? s.heap.objs.size=some PySem.W.emptyDict:=AQ s.heap rfl;have f:((s.heap.push PySem.W.emptyDict).push (PySem.W.instObj C s.heap.objs.size)).get? (s.heap.objs.size+1)=some (PySem.W.instObj C s.heap.objs.size):=by
  have:=AQ (s.heap.push PySem.W.emptyDict) (o:=PySem.W.instObj C s.heap.objs.size) rfl
  rwa [DQ]at this
 have g:(s.heap.push PySem.W.emptyDict).Ns s.heap.objs.size (fun _=>none):=⟨PySem.W.emptyDict,#[],_,c,rfl,(fun e h=>absurd h (by simp)),fun _=>rfl⟩;have i:=I.laid (a:=s.heap.objs.size) (o:=.own (s.heap.objs.size+1)) (h':=s.heap.push PySem.W.emptyDict) (t':=s.toks) (fun b u q=>AD _ q) (Nat.le_refl _) ⟨_,c⟩;refine i.laid (a:=s.heap.objs.size+1) (o:=.ins C s.heap.objs.size []) (t':=s.toks) (fun b u q=>AD _ q) (Nat.le_of_eq (DQ _ _)) ?_;have d:s.heap.objs.size≠s.heap.objs.size+1:=AX (E_ _);refine⟨by rw[B6 d,A9],CI _,d,f,fun _=>none,(Heap.Ns1.of_empty g).at fun o q=>AD _ q,fun _=>True.intro,fun y j=>absurd rfl j⟩
theorem Zh{prog:A7}{w:HW}{a:P_}{e:IB}{f:Str}{pos:Pos}{s:A4}{Q:A2->A4->Prop}(b:attributeBase e f a (eval e a)=eval e a)
  (h:wpAny (model prog w) A (eval e a) (fun o s₁=>wpAny (model prog w) A (getAttr o f true) Q E s₁) E s):wpAny (model prog w) A (eval (.Attribute e f pos) a) Q E s :=
 Attribute_any_ h (by rw[arm_eval_Attribute,b])
end
def zCx(K:PySem.W.Frag)(d:TE)(f:Str):TE:=fun σ H Q=>d σ H fun x b=>∃a C e c v,x = .ref a/\b a=some (.ins C e c)/\QP K C/\JJ K C f/\c.lookup f=some v/\Q v b
def zEx(K:PySem.W.Frag)(e g:TE)(f:Str):TS:=fun D σ H=>g σ H fun y h=>e σ h fun x c=>∃a C d b,x = .ref a/\c a=some (.ins C d b)/\QP K C/\JJ K C f/\b.length<1000 /\
 D.nx σ (HX c a (.ins C d (Q1 f y b)))
section
variable{X:Cx}{o e value:IB}{f:Str}{pos pos' tpos:Pos}{ta tv:TE}
theorem zAt(d:PE X e ta)(g:attributeBase e f X.env (eval e X.env)=eval e X.env):PE X (.Attribute e f pos) (zCx X.K ta f):=by
 intro b s σ H Q I h;refine Zh g (IT (d b s σ H _ I h) fun u t ⟨x,i,j,k,a,C,w,y,v,m,o,c,n,l,q⟩=>?_);subst m;obtain rfl:u=Value.ref a:=k;exact Nn j o c n l fun z A p r=>⟨v,i,p,r,q⟩
theorem zBc(d:PE X o ta)(e:PE X value tv)(g:swapsWith value (some (.Attribute o f pos')) pos.line X.env=pure false):PS X (.Assign [.Attribute o f pos'] value pos) (zEx X.K ta tv f):=by
 intro b s σ H D I h;refine plainObj_wpAny_Assign_Attribute (IT (e b s σ H _ I h) fun u i ⟨y,j,k,m,q⟩=>IT (d b i σ j _ k q) fun p B ⟨x,E,r,t,a,C,F,G,v,w,c,n,l,z⟩=>?_) g;subst v;obtain rfl:p=Value.ref a:=t;exact Mz r w c n l m fun J A=>⟨σ,_,A,z⟩
end
section
variable{X:Cx}{pins:A1 (A3×Obj)}{σ:St}{H:Hp}{s:A4}{A:IC}{E:A2->A4->Prop}{Q:A2->A4->Prop}{c:A2}{b:Bool}
inductive NL(K:PySem.W.Frag)(H:Hp):V->A2->Prop where
 | non:NL K H .non (.type "NoneType")
 | bl (x:Bool):NL K H (.bl x) (.type "bool")
 | int (i:Int):NL K H (.int i) (.type "int")
 | str (x:Str):NL K H (.str x) (.type "str")
 | flt (x:UInt64):NL K H (.flt x) (.type "float")
 | lst {a:A3} {xs:A1 V} (e:H a=some (.lst xs)):NL K H (.ref a) (.type "list")
 | frz {a:A3} {o:Obj} {xs:A1 V} (e:H a=some (.frz o (.lst xs))):NL K H (.ref a) (.type "list")
 | tup {a:A3} {xs:A1 V} (e:H a=some (.tup xs)):NL K H (.ref a) (.type "tuple")
 | dK {a:A3} {kvs:A1 (IR×V)} (e:H a=some (.dK kvs)):NL K H (.ref a) (.type "dict")
 | dT {a:A3} {kvs:A1 (A1 IR×V)} (e:H a=some (.dT kvs)):NL K H (.ref a) (.type "dict")
 | ins {a C dx:A3} {fs:A1 (Str×V)} (e:H a=some (.ins C dx fs)) (cl:QP K C) (ha:PySem.W.findIn K (.ref C) "__class__" = some (some (.builtin "object.__class__")))
   (hn:PySem.W.specialIn K (.builtin "object.__class__") "__get__" = some (some (.builtin "getset_descriptor.__get__"))) (htk:PySem.W.takesIn K (.builtin "object.__class__")=some true)
   (hm:PySem.W.mroIn K C (.type "object")=some true):NL K H (.ref a) (.ref C)
theorem Pb{x:V}{u t:A2}(I:Inv X pins σ H s)(d:RelV x u)(ty:NL X.K H x t)(e:PySem.W.kitOne X.K t c=some b)(h:∀v,Q (.bool b) { s with toks:=v }) :
  wpAny (model X.prog X.w) A (call (.builtin "isinstance") [u,c]) Q E s:=by
 cases ty with
 | non=>cases(show u=Value.none from d);exact PySem.W.kia_one PySem.W.kitx_none I.kIn True.intro e (fun z=>nomatch z) h
 | bl y=>cases(show u=Value.bool y from d);exact PySem.W.kia_one PySem.W.kitx_bool I.kIn True.intro e (fun z=>nomatch z) h
 | int i=>obtain⟨t,q⟩:=(show ∃t,u=Value.int i t from d);cases q;exact PySem.W.kia_one PySem.W.kitx_int I.kIn True.intro e (fun z=>nomatch z) h
 | str y=>obtain⟨t,q⟩:=(show ∃t,u=Value.str y t from d);cases q;exact PySem.W.kia_one PySem.W.kitx_str I.kIn True.intro e (fun z=>nomatch z) h
 | flt y=>obtain⟨t,q⟩:=(show ∃t,u=Value.float y t from d);cases q;exact PySem.W.kia_one PySem.W.kitx_float I.kIn True.intro e (fun z=>nomatch z) h
 | @lst a k f =>
  cases(show u=Value.ref a from d);obtain⟨_,_,n,_,g⟩:=(show IK X.prog X.w H s.heap a (.lst k)from I.hok a _ f);exact PySem.W.kia_one PySem.W.kitx_list I.kIn ⟨_,g,rfl⟩ e (fun z=>nomatch z) h
 | @frz a B k f =>
  cases(show u=Value.ref a from d);obtain⟨_,_,_,n,_,g⟩:=(show IK X.prog X.w H s.heap a (.frz B (.lst k))from I.hok a _ f);exact PySem.W.kia_one PySem.W.kitx_list I.kIn ⟨_,g,rfl⟩ e (fun z=>nomatch z) h
 | @tup a k f =>
  cases(show u=Value.ref a from d);obtain⟨_,_,_,p⟩:=(show IK X.prog X.w H s.heap a (.tup k)from I.hok a _ f);obtain⟨o,g,l,_⟩:=p;exact PySem.W.kia_one PySem.W.kitx_tuple I.kIn ⟨o,g,l⟩ e (fun z=>nomatch z) h
 | @dK a j f =>
  cases(show u=Value.ref a from d);obtain⟨_,_,N,_,p⟩:=(show IK X.prog X.w H s.heap a (.dK j)from I.hok a _ f);obtain⟨o,D,F,g,l,_⟩:=p;exact PySem.W.kia_one PySem.W.kitx_dict I.kIn ⟨o,g,l.1⟩ e (fun z=>nomatch z) h
 | @dT a j f =>
  cases(show u=Value.ref a from d);obtain⟨_,_,k,_,o,D,F,g,l,_⟩:=(show IK X.prog X.w H s.heap a (.dT j)from I.hok a _ f);exact PySem.W.kia_one PySem.W.kitx_dict I.kIn ⟨o,g,l.1⟩ e (fun z=>nomatch z) h
 | @ins a C P R f r G L m M =>
  cases(show u=Value.ref a from d);obtain⟨S,O,_⟩:=Em I.hok f;obtain⟨T,J,_⟩:=O.look;exact PySem.W.kia_one (PySem.W.kitx_own (r.get _) r.hd G L m M) I.kIn J e (fun z=>nomatch z) h
end
structure JD(k:Nat)(A:IC):Prop where
 hd:A.handled=none
 dp:A.depth+3*k+5<recursionLimit
 un:A.units+16*k+200<cLine
def JD.mono{j k:Nat}{A:IC}(r:JD k A)(h:j<=k):JD j A:=⟨r.hd,by have:=r.dp;omega,by have:=r.un;omega⟩
def JD.deeper{k:Nat}{A:IC}(r:JD (k+1) A)(a:P_):JD k (A.deeper a) :=
 ⟨r.hd,by have:=r.dp;show A.depth+1+3*k+5<_;omega,by have:=r.un;show A.units+3+16*k+200<_;omega⟩
def Ny{A:IC}{C:A3}{us:A1 A2}{a:A1 (Str×A2)}:(A.under (.builtin "type.__call__" ⟨.ref C::us,a⟩)).depth=A.depth+1:=by
 first | rfl | simp[Around.under,Code.weight,Code.isCreation,Code.isGuard,Code.isCaller,Code.frames,Code.isFrame,guardIds]
def Nx{A:IC}{C:A3}{us:A1 A2}{a:A1 (Str×A2)}:(A.under (.builtin "type.__call__" ⟨.ref C::us,a⟩)).units=A.units+1:=by
 first | rfl | simp[Around.under,Code.cUnits,Code.frames,Code.isFrame]
def JD.make{k:Nat}{A:IC}(r:JD (k+1) A)(C:A3)(us:A1 A2)(a:A1 (Str×A2)):JD k (A.under (.builtin "type.__call__" ⟨.ref C::us,a⟩)) :=
 ⟨r.hd,by have:=r.dp;rw[Ny];omega,by have:=r.un;rw[Nx];omega⟩
def JD.depth{k:Nat}{A:IC}(r:JD k A):A.depth<recursionLimit:=by have:=r.dp;omega
def JD.units{k:Nat}{A:IC}(r:JD k A):A.units+64<cLine:=by have:=r.un;omega
def Zp:TA:=fun _ H Q=>Q [] H
def Ze(a:TE)(b:TA):TA:=fun σ H Q=>a σ H fun x c=>b σ c fun d e=>Q (x::d) e
section
variable{X:Cx}{e:IB}{es:A1 IB}{te:TE}{t:TA}{pos:Pos}
theorem B1:PA X [] Zp:=fun _ _ _ _ H Q I h=>Calls.spliced_nil ⟨[],H,I,.nil,h⟩
theorem A8(b:PE X e te)(c:PA X es t)(d:starEach (e::es) X.env =(false,eval e X.env)::starEach es X.env:=by rfl):PA X (e::es) (Ze te t):=by
 intro pos a s σ H Q I h;rw[d];show wpAny _ _ (spliced ((false,eval e X.env)::backTo pos (starEach es X.env))) _ _ s;refine Calls.spliced_cons (IT (b a s σ H _ I h) fun u f ⟨x,g,i,j,k⟩=>?_);exact IT (c pos a f σ g _ i k) fun q r ⟨l,m,n,o,p⟩=>⟨x::l,m,n,.cons j o,p⟩
def zFy(t:TA):TE:=fun σ H Q=>t σ H fun a b=>a.length<=sizeLine/\∀p,b p=none->Q (.ref p) (HX b p (.tup a))
def zFi(t:TA):TE:=fun σ H Q=>t σ H fun a b=>a.length<=sizeLine/\∀p,b p=none->Q (.ref p) (HX b p (.lst a))
theorem G7{g}(h:PA X es t):PE X (.Tuple es g pos) (zFy t):=by
 intro a s σ H Q I i;refine wpAny_Tuple_spliced (IT (h pos a s σ H _ I i) fun j c ⟨k,d,f,r,z,q⟩=>⟨by rw[<-r.length];exact z,?_⟩);have l:d c.heap.objs.size=none:=f.hok.fresh (Nat.le_refl _);refine⟨.ref c.heap.objs.size,HX d c.heap.objs.size (.tup k),f.laid (t':=c.toks) (fun b u e=>AD _ e) (Nat.le_refl _) ?_,rfl,q _ l⟩;exact⟨z,j,r,⟨_,AQ _ rfl,rfl,_,rfl⟩⟩
theorem I9(h:PA X es t):PE X (.List es pos) (zFi t):=by
 intro a s σ H Q I g;refine wpAny_List_spliced (IT (h pos a s σ H _ I g) fun i c ⟨j,d,f,r,z,q⟩=>⟨by rw[<-r.length];exact z,?_⟩);have k:d c.heap.objs.size=none:=f.hok.fresh (Nat.le_refl _);refine⟨.ref c.heap.objs.size,HX d c.heap.objs.size (.lst j),f.laid (t':=c.toks) (fun b u e=>AD _ e) (Nat.le_refl _) ?_,rfl,q _ k⟩;exact⟨z,i,0,r,AQ _ rfl⟩
end
abbrev Sp:=A1 V->Hp->VK->XK->Prop
abbrev RE:=A1 P_->Hp->A4->XK->A2->A4->Prop
structure PJ(P:A7)(w:HW)(K:PySem.W.Frag)(mg:Str->A5 A2)(base:H_)(A:IC)(outer:A1 P_)(s:A4)(H:Hp):Prop where
 frames:A.frames=some outer
 mod:Mod K mg base
 bs:∀b o,base.get? b=some o->s.heap.get? b=some o/\H b=none
 bsz:base.objs.size<=s.heap.objs.size
 funs:s.heap.FunFrames base outer
 frf:∀b∈PP outer,H b=none
 hok:MC P w H s.heap
 bare:AllBare s.gens
def CE(a:A1 P_)(P:A7)(w:HW)(H:Hp)(s:A4)(Q:VK)(u:A2)(b:A4):Prop :=
 ∃v c,b.os=s.os/\AllBare b.gens/\Un (PP a) [] H c s.heap b.heap/\MC P w c b.heap/\RelV v u/\Q v c
def CR(c:RE)(a:A1 P_)(P:A7)(w:HW)(H:Hp)(s:A4)(Q:VK)(E:XK)(r:Result)(b:A4):Prop :=
 match r with
 | .ok (.ret u)=>CE a P w H s Q u b
 | .ok _=>False
 | .error e=>c a H s E e b
structure IG(P:A7)(w:HW)(K:PySem.W.Frag)(mg:Str->A5 A2)(base:H_)(CX:RE)(k:Nat)(f:A3)(fd:IP)(ps:A1 Str)(sp:Sp):Prop where
 len:∀vs H Q E,sp vs H Q E->vs.length=ps.length
 run:∀(A:IC) (outer:A1 P_) (s:A4) (H:Hp) (args:Args) (us:A1 A2) (vs:A1 V) (Q:VK) (E:XK),JD k A->PJ P w K mg base A outer s H->BindsTo s fd args (ps.zip us)->IH vs us->sp vs H Q E ->
  codeAny (model P w) A (.call (.ref f) args) (CR CX outer P w H s Q E) s
def IG.mono{P:A7}{w:HW}{K:PySem.W.Frag}{mg:Str->A5 A2}{base:H_}{b:RE}{j k:Nat}{f:A3}{c:IP}{d:A1 Str}{sp:Sp}(F:IG P w K mg base b j f c d sp)(h:j<=k) :
  IG P w K mg base b k f c d sp:=⟨F.len,fun A a s H args e g Q E i=>F.run A a s H args e g Q E (i.mono h)⟩
def PJ.make{P:A7}{w:HW}{K:PySem.W.Frag}{mg:Str->A5 A2}{base:H_}{A:IC}{a:A1 P_}{s:A4}{H:Hp}(e:PJ P w K mg base A a s H)(C:A3)(us:A1 A2)(b:A1 (Str×A2)) :
  PJ P w K mg base (A.under (.builtin "type.__call__" ⟨.ref C::us,b⟩)) a s H:=⟨by first | exact e.frames | (simpa [Around.under,Code.envs,Code.isFrame,pushEnvs] using e.frames),e.mod,e.bs,e.bsz,e.funs,e.frf,e.hok,e.bare⟩
section
variable{X:Cx}{pins:A1 (A3×Obj)}{σ:St}{H:Hp}{s s':A4}
theorem Inv.env0(I:Inv X pins σ H s):PJ X.prog X.w X.K X.mg X.base X.A X.stack s H :=
 ⟨I.ok.frames,I.ok.mod,I.bs,Nat.le_trans I.ok.bsz I.sz,I.stack,I.stkFree,I.hok,I.bare⟩
theorem Inv.after{Q:VK}{u:A2}(I:Inv X pins σ H s)(h:CE X.stack X.prog X.w H s Q u s'):EP X pins σ Q u s':=by
 obtain⟨v,f,os,a,i,c,r,q⟩:=h;obtain⟨j,g,d,t,e⟩:=s';obtain rfl:e=s.os:=os;exact⟨v,f,I.call (h':=j) (g':=g) (d':=d) (t':=t) (ch:=[]) i c a (fun b z=>absurd z (by simp)),r,q⟩
end
def Yi(sp:Sp)(a:A1 V)(E:XK)(t:TA):TE:=fun σ H Q=>t σ H fun b c=>sp (b++a) c Q E
def zCk(C:A3)(m:Str)(sp:Sp)(b:A1 V)(E:XK)(e:TE)(t:TA):TE:=fun σ H Q=>e σ H fun x c=>∃a f d,x = .ref a/\c a=some (.ins C f d)/\d.lookup m=none /\
 t σ c fun g h=>sp (x ::(g++b)) h Q E
def zEc(C:A3)(sp:Sp)(b:A1 V)(E:XK)(t:TA):TE:=fun σ H Q=>t σ H fun d c=>∀x a,c x=none->c a=none->a≠x ->
 sp (.ref x ::(d++b)) (HX (HX c a (.own x)) x (.ins C a [])) (fun v e=>v = .non/\Q (.ref x) e) E
def Binds(K:PySem.W.Frag)(c:IP)(b:A1 Str)(ds:A1 A2):Prop :=
 ∀(s:A4) (a:A1 A2),K.In s.heap->(a++ds).length=b.length->BindsTo s c ⟨a,[]⟩ (b.zip (a++ds))
def Binds.all{K:PySem.W.Frag}{b:IP}{a:A1 Str}(h:∀us:A1 A2,us.length=a.length->bindArgs b ⟨us,[]⟩=pure (a.zip us)):Binds K b a []:=fun s us _ c=>by
 rw[CH]at c⊢;exact .of_eq (h us c)
def n8(c:RE)(X:Cx)(E:XK):Prop:=∀(a:A1 (A3×Obj)) (σ:St) (H:Hp) (s:A4) (e:A2) (b:A4),Inv X a σ H s->c X.stack H s E e b->X.xe e b
section
variable{X:Cx}{CX:RE}{k:Nat}{f C:A3}{fd:IP}{ps:A1 Str}{sp:Sp}{dvs:A1 V}{ds:A1 A2}{E:XK}{x m:Str}{p pos apos:Pos}{e o:IB}{es:A1 IB}{ta:TE}{t:TA}
theorem Lx{a:A1 (A3×Obj)}{σ:St}{H:Hp}{s:A4}{Q:VK}{us:A1 A2}{vs:A1 V}(F:IG X.prog X.w X.K X.mg X.base CX k f fd ps sp)(d:JD k X.A)(g:Binds X.K fd ps ds)(i:IH dvs ds)(j:n8 CX X E)
  (I:Inv X a σ H s) (r:IH vs us) (h:sp (vs++dvs) H Q E):wpAny (model X.prog X.w) X.A (call (.ref f) us) (EP X a σ Q) X.xe s:=by
 have c:IH (vs++dvs) (us++ds):=r.append i;have l:(us++ds).length=ps.length:=by rw[<-c.length];exact F.len _ _ _ _ h
 refine wpAny_call (codeAny_mono (F.run X.A X.stack s H ⟨us,[]⟩ (us++ds) (vs++dvs) Q E d I.env0 (g s us I.kIn l) c h) fun r m b=>?_);cases r with
 | error e=>exact j a σ H s e m I b
 | ok n =>
  cases n with
  | ret u=>exact I.after b
  | next=>exact False.elim b
  | brk=>exact False.elim b
  | cont=>exact False.elim b
theorem Yw(F:IG X.prog X.w X.K X.mg X.base CX k f fd ps sp)(g:JD k X.A)(i:Gl X x)(j:X.mg x=some (.ref f))(l:PySem.W.keepIn X.K (.ref f)=true)(m:Binds X.K fd ps ds)(n:IH dvs ds)(o:n8 CX X E)
  (u:PA X (e::es) t) (b:(x ==("__debug__":Str))=false:=by decide) (v:starEach (e::es) X.env =(false,eval e X.env)::starEach es X.env:=by rfl) (c:(backTo pos (starEach es X.env)).any (·.1)=false:=by rfl) :
  PE X (.Call (.Name x p) (e::es) [] pos) (Yi sp dvs E t):=by
 intro a s σ H Q I h;refine DT (Jc I i j ?_ b);refine PySem.W.callWith_K (h₀:=X.base) I.ok.mod.kin l (IT (u pos a s σ H _ I h) fun y z ⟨B,C,d,r,q⟩=>⟨d.kIn,?_⟩) v c;exact Lx F g m n o d r q
theorem E1{pl:Sem Bool}(v:PE X o ta)(c:QP X.K C)(i:RO X.K C m f)(F:IG X.prog X.w X.K X.mg X.base CX k f fd ps sp)(y:JD k X.A)(z:Binds X.K fd ps ds)(B:IH dvs ds)(D:n8 CX X E)(G:PA X (e::es) t)
  (d:starEach (e::es) X.env =(false,eval e X.env)::starEach es X.env:=by rfl) (g:(backTo pos (starEach es X.env)).any (·.1)=false:=by rfl)
  (J:eval (.Call (.Attribute o m apos) (e::es) [] pos) X.env =(do
   let j <-eval o X.env
   standAt apos.atName
   let(f,first) <-holding [j] (getMethod j m pl)
   callWith pos f first (backTo pos (starEach (e::es) X.env)) (backToKw pos (keywordEach [] X.env))):=by rfl) :
  PE X (.Call (.Attribute o m apos) (e::es) [] pos) (zCk C m sp dvs E ta t):=by
 intro b s σ H Q I h;refine PySem.W.methodCall_KW (pl:=pl) (IT (v b s σ H _ I h) fun u L ⟨x,M,n,N,a,S,T,O,P,l,q⟩=>?_) J;subst O;obtain rfl:u=Value.ref a:=N;refine Ci n P c i l ?_;refine PySem.W.callWith_K (first:=[.ref a]) (h₀:=X.base) I.ok.mod.kin i.kp (IT (G pos b L σ M _ n q) fun us U ⟨vs,V,p,r,R⟩=>⟨p.kIn,?_⟩) d g;exact Lx (us:=.ref a::us) (vs:=.ref a::vs) F y z B D p (.cons rfl r) R
theorem Uh{pl:Sem Bool}(i:PE X o ta)(c:QP X.K C)(e:RO X.K C m f)(F:IG X.prog X.w X.K X.mg X.base CX k f fd ps sp)(j:JD k X.A)(n:Binds X.K fd ps ds)(p:IH dvs ds)(r:n8 CX X E)
  (t:eval (.Call (.Attribute o m apos) [] [] pos) X.env =(do
   let g <-eval o X.env
   standAt apos.atName
   let(f,first) <-holding [g] (getMethod g m pl)
   callWith pos f first (backTo pos (starEach [] X.env)) (backToKw pos (keywordEach [] X.env))):=by rfl) :
  PE X (.Call (.Attribute o m apos) [] [] pos) (zCk C m sp dvs E ta Zp):=by
 intro b s σ H Q I h;refine PySem.W.methodCall_KW (pl:=pl) (IT (i b s σ H _ I h) fun u B ⟨x,D,d,v,a,G,J,y,z,l,q⟩=>?_) t;subst y;obtain rfl:u=Value.ref a:=v;refine Ci d z c e l ?_;exact PySem.W.callWith_K0 (first:=[.ref a]) d.kIn e.kp (Lx (us:=[.ref a]) (vs:=[.ref a]) F j n p r d (.cons rfl .nil) q)
structure Mk(K:PySem.W.Frag)(C f:A3):Prop where
 makes:PySem.W.makesIn K C=true
 init:PySem.W.findIn K (.ref C) "__init__" = some (some (.ref f))
 fn:PySem.W.isFn K (.ref f)=true
 kp:PySem.W.keepIn K (.ref C)=true
theorem Tg{a:A1 (A3×Obj)}{σ:St}{H:Hp}{s:A4}{Q:VK}{us:A1 A2}{vs:A1 V}(M:Mk X.K C f)(F:IG X.prog X.w X.K X.mg X.base CX k f fd ps sp)(j:JD (k+1) X.A)(l:Binds X.K fd ps ds)(m:IH dvs ds)
  (n:n8 CX X E) (I:Inv X a σ H s) (r:IH vs us)
  (h:∀x c,H x=none->H c=none->c≠x->sp (.ref x ::(vs++dvs)) (HX (HX H c (.own x)) x (.ins C c [])) (fun v o=>v = .non/\Q (.ref x) o) E) :
  wpAny (model X.prog X.w) X.A (call (.ref C) us) (EP X a σ Q) X.xe s:=by
 have g:=h (s.heap.objs.size+1) s.heap.objs.size (I.hok.fresh (EO _)) (I.hok.fresh (Nat.le_refl _)) (AX (E_ _));have d:=Inv.made (C:=C) I;have i:IH (V.ref (s.heap.objs.size+1) ::(vs++dvs)) (Value.ref (s.heap.objs.size+1) ::(us++ds)):=.cons rfl (r.append m);have p:(Value.ref (s.heap.objs.size+1)::us++ds).length=ps.length:=by
  have e:=i.length;rw[F.len _ _ _ _ g]at e;exact e.symm
 refine wpAny_call (Vq (f:=f) I.kIn M.makes M.init (beq_iff_eq.mp M.fn) (codeAny_mono (F.run _ X.stack _ _ ⟨Value.ref (s.heap.objs.size+1)::us,[]⟩ (Value.ref (s.heap.objs.size+1) ::(us++ds)) _ _ E (j.make C us [])
  (d.env0.make C us []) (l _ (Value.ref (s.heap.objs.size+1)::us) d.kIn p) i g) fun r q b=>?_))
 cases r with
 | error e=>exact n a σ _ _ e q d b
 | ok t =>
  cases t with
  | ret u =>
   obtain⟨v,y,z,B,D,G⟩:=d.after b;subst D;exact⟨B,⟨V.ref (s.heap.objs.size+1),y,z,rfl,G⟩⟩
  | next=>exact False.elim b
  | brk=>exact False.elim b
  | cont=>exact False.elim b
theorem Sa(M:Mk X.K C f)(F:IG X.prog X.w X.K X.mg X.base CX k f fd ps sp)(g:JD (k+1) X.A)(i:Gl X x)(j:X.mg x=some (.ref C))(l:Binds X.K fd ps ds)(m:IH dvs ds)(n:n8 CX X E)
  (o:PA X (e::es) t) (b:(x ==("__debug__":Str))=false:=by decide) (u:starEach (e::es) X.env =(false,eval e X.env)::starEach es X.env:=by rfl) (c:(backTo pos (starEach es X.env)).any (·.1)=false:=by rfl) :
  PE X (.Call (.Name x p) (e::es) [] pos) (zEc C sp dvs E t):=by
 intro a s σ H Q I h;refine DT (Jc I i j ?_ b);refine PySem.W.callWith_K (h₀:=X.base) I.ok.mod.kin M.kp (IT (o pos a s σ H _ I h) fun v y ⟨z,B,d,r,q⟩=>⟨d.kIn,?_⟩) u c;exact Tg M F g l m n d r q
end
structure HY(N P:A1 Str)(sc:JB):Prop where
 kind:sc.kind = .function
 co:sc.isCoroutine=false
 gen:sc.isGenerator=false
 nd:N.Nodup
 pre:N.take P.length=P
 par:∀x∈P,sc.names.lookup x=some .local\/sc.names.lookup x=some .cell
 nofree:∀y∈sc.names,y.2≠ .free
def Ga{kindOf:Str->A5 JT}{x:Str}:∀{a:A1 (Str×A2)} {m:Str->A5 A2},(∀v,(x,v)∉a)->bindL kindOf a m x=m x
 | [],_,_=>rfl
 | (n,v)::r,m,h=>by
  unfold bindL;rw[Ga fun w b=>h w (BF _ b)];split
  .have:x≠n:=by rintro rfl;exact h v BP
   simp[this]
  .rfl
def Fb{kindOf:Str->A5 JT}{x:Str}:∀{a:A1 (Str×A2)} {m:Str->A5 A2},(∀v,(x,v)∉a)->bindC kindOf a m x=m x
 | [],_,_=>rfl
 | (n,v)::r,m,h=>by
  unfold bindC;rw[Fb fun w b=>h w (BF _ b)];split
  .rfl
  .have:x≠n:=by rintro rfl;exact h v BP
   simp[this]
def Gj{kindOf:Str->A5 JT}{x:Str}{v:A2}:∀{P:A1 Str} {vs:A1 A2} {i:Nat} {m:Str->A5 A2},P.Nodup->P[i]?=some x->vs[i]?=some v->kindOf x=some .local ->
  bindL kindOf (P.zip vs) m x=some v
 | [],_,_,_,_,h,_,_=>by simp at h
 | _::_,[],_,_,_,_,h,_=>by simp at h
 | p::P,w::vs,0,m,c,a,b,d=>by
  simp at a b;subst a;subst b;show bindL kindOf ((p,w)::P.zip vs) m p=_;unfold bindL;rw[Ga fun v e=>(CQ.mp c).1 (FJ e).1,AL d];simp
 | p::P,w::vs,i+1,m,c,a,b,d=>by
  show bindL kindOf ((p,w)::P.zip vs) m x=_;unfold bindL;exact Gj (i:=i) (CQ.mp c).2 (by simpa using a) (by simpa using b) d
def Gz{kindOf:Str->A5 JT}{x:Str}{v:A2}:∀{P:A1 Str} {vs:A1 A2} {i:Nat} {m:Str->A5 A2},P.Nodup->P[i]?=some x->vs[i]?=some v->kindOf x≠some .local ->
  bindC kindOf (P.zip vs) m x=some v
 | [],_,_,_,_,h,_,_=>by simp at h
 | _::_,[],_,_,_,_,h,_=>by simp at h
 | p::P,w::vs,0,m,c,a,b,d=>by
  simp at a b;subst a;subst b;show bindC kindOf ((p,w)::P.zip vs) m p=_;unfold bindC;rw[Fb fun v e=>(CQ.mp c).1 (FJ e).1,AJ d];simp
 | p::P,w::vs,i+1,m,c,a,b,d=>by
  show bindC kindOf ((p,w)::P.zip vs) m x=_;unfold bindC;exact Gz (i:=i) (CQ.mp c).2 (by simpa using a) (by simpa using b) d
def Aw(N:A1 Str)(vs:A1 V):St:=vs.map some++List.replicate (N.length-vs.length) none
def Va(g:RE)(P:A7)(w:HW)(K:PySem.W.Frag)(mg:Str->A5 A2)(base:H_)(N:A1 Str)(b:Str)(a:JB)(f:A3)(d:A2)(A:IC)(outer:A1 P_)(s:A4)(H:Hp)(E:XK):Cx where
 prog:=P
 w:=w
 K:=K
 mg:=mg
 base:=base
 A:=A.deeper (envOfC b a s.heap.objs.size f d)
 N:=N
 s₀:=s
 H₀:=H
 env:=envOfC b a s.heap.objs.size f d
 outer:=outer
 stack:=envOfC b a s.heap.objs.size f d::outer
 ex:=[]
 calm:=true
 fn:=fun _=>true
 pn:=[]
 xe:=fun e h=>wpAny (model P w) (A.deeper (envOfC b a s.heap.objs.size f d)) (leaving (envOfC b a s.heap.objs.size f d) e) (fun _ c=>g outer H s E e c) (fun i c=>g outer H s E i c) h
def Kw{a:JB}{n:Nat}{x:Str}(h:a.names.lookup x=some .cell):∃c,(cellsFrom n a.names []).lookup x=some c:=by
 have q:=PySem.W.cellsFrom_some a.names n [] (.inl h);exact EK.mp q
def Pu{I:RE}{P:A7}{w:HW}{K:PySem.W.Frag}{mg:Str->A5 A2}{base:H_}{N o:A1 Str}{j:Str}{d:JB}{f:A3}{D:A2}{A:IC}{g:A1 P_}{s J:A4}{H:Hp}{E:XK}{us:A1 A2}{vs:A1 V}
  (S:HY N o d) (O:A.handled=none) (m:PJ P w K mg base A g s H) (U:vs.length=o.length) (r:IH vs us)
  (x:InCallC s s.heap.objs.size (bindL (envOfC j d s.heap.objs.size f D).kindOf (o.zip us) fun _=>none) (cellsFrom (s.heap.objs.size+1) d.names []) (bindC (envOfC j d s.heap.objs.size f D).kindOf (o.zip us) fun _=>none) J) :
  Inv (Va I P w K mg base N j d f D A g s H E) [] (Aw N vs) H J:=by
 have Q:o.length<=N.length:=by have:=congrArg List.length S.pre;rw[AS]at this;omega
 obtain⟨F,X,rfl,L⟩:=x.done;have t:∀b:A3,b∉(Va I P w K mg base N j d f D A g s H E).ex:=fun b z=>absurd (show b∈([]:A1 A3)from z) (by simp);refine⟨⟨m.mod,S.kind,rfl,rfl,Nat.le_refl _,fun y z c F l=>?_,fun y hy=>?_,fun y c _ h=>?_,fun _=>O,Around.frames_deeper m.frames,.inr ⟨rfl,rfl⟩,fun b z=>absurd z (t b),m.bs,m.bsz,fun b _ _=>t b,fun b z=>absurd z (t b),m.funs,m.frf⟩,
  rfl,m.bare,Un.kept L,⟨_,x.toInCall.ns,fun i y v F l Y=>?_⟩,fun y c h=>⟨_,x.cell y c h⟩,m.hok.fresh (Nat.le_refl _),fun y c h=>?_,fun p B=>absurd (show p∈([]:A1 (A3×Obj))from B) (by simp),m.hok.kept L,?_⟩
 .exact name_of_addr x.apart (PySem.mem_of_lookup F) (PySem.mem_of_lookup l)
 .have hy:d.names.lookup y=some .cell\/d.names.lookup y=some .free:=hy;rcases hy with hy | hy
  .exact Kw hy
  .exact absurd rfl (S.nofree _ (PySem.mem_of_lookup hy))
 .exact DR (x.above y c (PySem.mem_of_lookup h))
 .have G:i<vs.length:=by
   unfold Aw at l;by_cases G:i<vs.length
   .exact G
   .rw[DB (by simpa using G)]at l;rw[List.getElem?_replicate]at l;split at l<;>cases l
  have R:vs[i]?=some v:=by
   unfold Aw at l;rw[DF (by simpa using G),AH]at l;cases e:vs[i]? with
   | none=>rw[e]at l;cases l
   | some a=>rw[e]at l;cases l;rfl
  obtain⟨u,M,T⟩:=r.get R;have B:o[i]?=some y:=by
   rw[<-S.pre,DG (by omega)];exact F
  have C:o.Nodup:=by rw[<-S.pre];exact S.nd.sublist (DY _ _)
  refine⟨u,T,?_⟩;rcases S.par y (AK B)with k | k
  .exact .inl ⟨k,Gj C B M k⟩
  .obtain⟨c,e⟩:=Kw (n:=s.heap.objs.size+1) k;refine .inr ⟨.inl k,c,e,?_⟩;have q:=x.cell y c e;rw[Gz C B M (by show d.names.lookup y≠_;rw[k];decide)]at q;exact q
 .exact m.hok.fresh (DR (x.above y c (PySem.mem_of_lookup h)))
 .unfold Aw;show _=N.length;rw[AU,AB,List.length_replicate];omega
def Zy{F:RE}{P:A7}{w:HW}{K:PySem.W.Frag}{mg:Str->A5 A2}{base:H_}{k:Nat}{f:A3}{name d:Str}{h:Arguments}{i:A1 IL}{a:JB}{X kV p Y g ct oc:A2}{Z od:A5 A3}
  {L:F1 (A5 A2)} {N G:A1 Str} {sp:Sp} (lk:K.lookup f=some ⟨oc,od,.func (PySem.W.fnOf name d h i a X kV p Y Z g ct),L⟩) (M:PySem.W.codeIn K g d=true) (S:HY N G a)
  (z:∀vs H Q E,sp vs H Q E->vs.length=G.length)
  (j:∀(A:IC) (c:A1 P_) (s:A4) (H:Hp) (vs:A1 V) (Q:VK) (E:XK),JD k (A.deeper (envOfC d a s.heap.objs.size f g))->sp vs H Q E ->
   ∃t,P7 (Va F P w K mg base N d a f g A c s H E) i t/\t { nx:=fun _ H'=>Q .non H',rt:=Q } (Aw N vs) H) :
  IG P w K mg base F (k+1) f (PySem.W.fnOf name d h i a X kV p Y Z g ct) G sp:=by
 refine⟨z,fun A c s H args us vs Q E O B hb r C=>?_⟩;have hl:=z _ _ _ _ C;have KX:K.In s.heap:=B.mod.kin.keeps fun b o e=>(B.bs b o e).1;have R:s.heap.NoLimit:=B.mod.nolimit.keeps fun b o e=>(B.bs b o e).1;have l:∀y∈G.zip us,a.names.lookup y.1=some .local\/(a.names.lookup y.1=some .cell/\((cellsFrom (s.heap.objs.size+1) a.names []).lookup y.1).isSome=true):=fun⟨n,v⟩ hy=>by
  rcases S.par n (FJ hy).1 with q | q
  .exact .inl q
  .exact .inr ⟨q,PySem.W.cellsFrom_some _ _ _ (.inl q)⟩
 refine codeAny_call_function O.depth (KX _ _ lk) rfl S.co S.gen rfl (PySem.W.codeRec_of KX M) (hb _ _ _ _ ?_);refine wpAny_newFunctionEnv_cells S.kind l fun env he s1 x=>?_;subst he;refine⟨R.keeps x.toInCall.keep,codeAny_func ?_⟩;obtain⟨t,ht,hq⟩:=j A c s H vs Q E (O.deeper _) C;have I:Inv (Va F P w K mg base N d a f g A c s H E) [] (Aw N vs) H s1:=Pu S O.hd B hl r x;refine CB (ht [] s1 (Aw N vs) H _ I hq) (fun fl T m=>?_) fun e T m=>m;have D:∀{σ':St} {H':Hp} {v:V} {u:A2},Inv (Va F P w K mg base N d a f g A c s H E) [] σ' H' T->RelV v u->Q v H'->CE c P w H s Q u T :=
  fun{σ' H' v u} J U q=>⟨v,H',J.os,J.bare,J.base,J.hok,U,q⟩
 cases fl with
 | ret u =>
  obtain⟨v,σ',H',J,U,q⟩:=m;exact D J U q
 | next =>
  obtain⟨σ',H',J,q⟩:=m;exact D (v:=V.non) (u:=Value.none) J rfl q
 | brk =>
  obtain⟨_,_,_,q⟩:=m;exact False.elim q
 | cont =>
  obtain⟨_,_,_,q⟩:=m;exact False.elim q
section
variable{X:Cx}{x:Str}{p pos:Pos}{e:IB}{es:A1 IB}{t:TA}{id T:String}{r:A1 V->Hp->VK->Prop}
def SF(r:A1 V->Hp->VK->Prop)(t:TA):TE:=fun σ H Q=>t σ H fun a b=>r a b Q
theorem Tr(d:K0 X (.builtin id) r)(f:Gl X x)(g:X.mg x=none)(i:bootBuiltins x=some (.builtin id))(j:PA X (e::es) t)(k:x≠ "__name__":=by decide)(b:(x ==("__debug__":Str))=false:=by decide)
  (l:starEach (e::es) X.env =(false,eval e X.env)::starEach es X.env:=by rfl) (c:(backTo pos (starEach es X.env)).any (·.1)=false:=by rfl):PE X (.Call (.Name x p) (e::es) [] pos) (SF r t):=by
 intro a s σ H Q I h;refine DT (W7 I f g i ?_ k b);exact PyProof.Rows.callWith_builtin1 (IT (j pos a s σ H _ I h) fun m n ⟨o,q,u,v,w⟩=>d a n σ q o m Q u v w) l c
theorem Qz(d:K0 X (.type T) r)(f:Gl X x)(g:X.mg x=none)(i:bootBuiltins x=some (.type T))(j:PA X (e::es) t)(k:x≠ "__name__":=by decide)(b:(x ==("__debug__":Str))=false:=by decide)
  (l:starEach (e::es) X.env =(false,eval e X.env)::starEach es X.env:=by rfl) (c:(backTo pos (starEach es X.env)).any (·.1)=false:=by rfl):PE X (.Call (.Name x p) (e::es) [] pos) (SF r t):=by
 intro a s σ H Q I h;refine DT (W7 I f g i ?_ k b);exact PyProof.Rows.callWith_type1 (IT (j pos a s σ H _ I h) fun m n ⟨o,q,u,v,w⟩=>d a n σ q o m Q u v w) l c
theorem Cl(c:K0 X (.type T) r)(d:Gl X x)(e:X.mg x=none)(f:bootBuiltins x=some (.type T))(g:x≠ "__name__":=by decide)(b:(x ==("__debug__":Str))=false:=by decide) :
  PE X (.Call (.Name x p) [] [] pos) (SF r Zp):=by
 intro a s σ H Q I h;refine DT (W7 I d e f ?_ g b);exact PyProof.Rows.callWith_type0 (c a s σ H [] [] Q I .nil h)
end
end L2
namespace HT
open PySem PyProof.Rows
def lexLt:A1 Int->A1 Int->Bool
 | [],[]=>false
 | [],_::_=>true
 | _::_,[]=>false
 | x::a,y::b=>if x=y then lexLt a b else decide (x<y)
def No(x y:Int)(xs a:A1 Int):lexLt (x::xs) (y::a)=if x=y then lexLt xs a else decide (x<y):=rfl
def Dr:lexLt [] []=false:=rfl
def Bw(y:Int)(a:A1 Int):lexLt [] (y::a)=true:=rfl
def Cb(x:Int)(xs:A1 Int):lexLt (x::xs) []=false:=rfl
def Ux(A:IC)(s:A4)(a:Int)(t:Tok)(c:Int)(u:Tok):∃e,SeqAt.EqAt A s (.int a t) (.int c u) e/\(e=true↔a=c) :=
 ⟨(a == c),SeqAt.EqAt.int_int a t c u,by simp⟩
def Up(A:IC)(s:A4)(a:Int)(t:Tok)(c:Int)(u:Tok)(prog:A7)(w:HW)(E:A2->A4->Prop)(Q:A2->A4->Prop)(h:Q (.bool (decide (a<c))) s) :
  wpAny (model prog w) A (richCompare .Lt (.int a t) (.int c u)) Q E s :=
 (PyProof.Rows.lt_int h:wpAny (model prog w) A (compareOp .Lt (.int a t) (.int c u)) Q E s)
section
open PySem.SeqAt
open PySem.AutoSeq1 (wpAny_loadPart')
open PySem.MeetsSeq PySem.MeetsSeq2 PySem.MeetsSeq3
def Ei(l b:A3)(items f:F1 A2)(n T:Nat)(U L:A5 A3)(V M:F1 (A5 A2))(ns G:A1 Int)(hi:IntsAre items.toList ns)(Q:IntsAre f.toList G) :
  Meets (Builtin.«tuple.__lt__» ⟨[.ref l,.ref b],[]⟩)
   (fun _ R s=>s.heap.get? l=some { cls:=.type "tuple",dict:=U,data:=.seq items n,slots:=V }/\s.heap.get? b=some { cls:=.type "tuple",dict:=L,data:=.seq f T,slots:=M } /\
    R (.ok (.ret (.bool (lexLt ns G)))) s) :=
 .of_wp fun p w A R s h=>by
  obtain⟨H,g,d,I,os⟩:=s;obtain⟨W,X,h⟩:=h;have f2:=AutoSeq1.sub_tuple_tuple;have z1:items.size=ns.length:=by rw[<-hi.length];simp
  have z2:f.size=G.length:=by rw[<-Q.length];simp
  wp_walk using wpAny_loadPart' W,wpAny_loadPart' X,wpAny_forIn_list _ (fun r b N=>b.1=none/\N =⟨H,g,d,I,os⟩/\∃(J K:A1 A2) (j k:A1 Int),r=J.zip K /\
   IntsAre J j/\IntsAre K k/\j.length+f.size=k.length+items.size/\R (.ok (.ret (.bool (lexLt j k)))) ⟨H,g,d,I,os⟩) _
  case turn =>
   rintro⟨y,x⟩ r b N ⟨B,rfl,J,K,j,k,m,C,o,i,v⟩;cases C with
   | nil=>rw[List.zip_nil_left]at m;cases m
   | cons a t E =>
    cases o with
    | nil=>rw[List.zip_nil_right]at m;cases m
    | cons c u F =>
     rw[GB]at m;injection m with O D;injection O with Y Z;subst Y Z;rw[No]at v;simp only[BJ]at i;obtain⟨e,he,z⟩:=Ux A.in1 ⟨H,g,d,I,os⟩ a t c u;refine AA (he p w _ _ ?_);cases e with
     | true =>
      rw[AL (z.mp rfl)]at v;wp_walk;exact⟨rfl,rfl,_,_,_,_,D,E,F,by omega,v⟩
     | false =>
      rw[AJ (fun q=>absurd (z.mpr q) AZ)]at v;have P:=Up A.in1 ⟨H,g,d,I,os⟩ a t c u p w;wp_walk using P;exact⟨_,rfl,by simpa using v⟩
  case fin =>
   rintro⟨b1,b2⟩ N ⟨B,rfl,J,K,j,k,m,C,o,i,v⟩;simp only at B;subst B;have S:lexLt j k=decide (items.size<f.size):=by
    cases C with
    | nil =>
     cases o with
     | nil =>
      simp only[GD]at i;rw[Dr];exact(BD (by omega)).symm
     | cons c u hw =>
      simp only[GD,BJ]at i;rw[Bw];exact(BB (by omega)).symm
    | cons a t S =>
     cases o with
     | nil =>
      simp only[GD,BJ]at i;rw[Cb];exact(BD (by omega)).symm
     | cons c u hw =>
      rw[GB]at m;cases m
   rw[S]at v;wp_walk;exact⟨_,rfl,by simpa [Builtin.Tuple.tupleCompareSizes] using v⟩
  case h =>
   exact⟨rfl,rfl,items.toList,f.toList,ns,G,rfl,hi,Q,by omega,h⟩
end
section
variable{prog:A7}{w:HW}{A:IC}{E:A2->A4->Prop}{s:A4}
theorem QB{l b:A3}{items a:F1 A2}{ns c:A1 Int}{Q:A2->A4->Prop}(q:IsTup s.heap l items)(r:IsTup s.heap b a)(hi:IntsAre items.toList ns)(t:IntsAre a.toList c)
  (u:A.units<cLine) (h:Q (.bool (lexLt ns c)) s):wpAny (model prog w) A (compareOp .Lt (.ref l) (.ref b)) Q E s:=by
 obtain⟨⟨v,y,j,z⟩,k,m,n,o⟩:=id q;obtain⟨⟨p,g,data2,i⟩,d,e,B,f⟩:=id r;simp only at m o e f;subst m o e f;exact richCompare_meets_room (op:=.Lt) ⟨_,k,rfl⟩ ⟨_,d,rfl⟩ PySem.F.slot_tuple_lt PySem.F.entry_tuple_lt (PySem.F.args_tuple_lt_2 _ _) (Ei l b items a n B y g z i ns c hi t)
  ⟨k,d,show Value.bool (lexLt ns c)≠Value.notImplemented/\Q (.bool (lexLt ns c)) s from⟨(fun x=>nomatch x),h⟩⟩ u
theorem RL{t b:A3}{vs a:A1 A2}{Q:A2->A4->Prop}(u:IsTup s.heap t vs.toArray)(v:IsTup s.heap b a.toArray)(k:vs≠[])
  (h1:a = []->Q (.ref t) s) (h2:a≠[]->Q (.ref s.heap.objs.size) { s with heap:=s.heap.push { cls:=.type "tuple",data:=.seq (vs++a).toArray } })
  (hsz:vs.length+a.length<=sizeLine):wpAny (model prog w) A (binaryOp .Add (.ref t) (.ref b)) Q E s:=by
 obtain⟨⟨cls,l,data,m⟩,i,o,n,p⟩:=id u;obtain⟨⟨q,d,data2,f⟩,c,g,r,h⟩:=id v;simp only at o p g h;subst o p g h;have e:vs.toArray++a.toArray =(vs++a).toArray:=by simp
 by_cases j:a = []
 .exact concat_meets ⟨_,i,rfl⟩ ⟨_,c,rfl⟩ noFill_tuple_add seq_tuple_add PySem.F.slot_tuple_add PySem.F.entry_tuple_add (PySem.F.args_tuple_add_2 _ _)
   (tuple_addW1 t b vs.toArray a.toArray n r l d m f (by simpa using k) (by simp[j])) ⟨i,c,h1 j⟩
 .refine concat_meets ⟨_,i,rfl⟩ ⟨_,c,rfl⟩ noFill_tuple_add seq_tuple_add PySem.F.slot_tuple_add PySem.F.entry_tuple_add (PySem.F.args_tuple_add_2 _ _)
   (tuple_addW2 t b vs.toArray a.toArray n r l d m f (by simpa using k) (by simpa using j) (by rw[AM,AM];exact hsz)) ⟨i,c,?_⟩
  rw[e];exact h2 j
def J_(n d:Nat):A5 Int->Nat
 | none=>d
 | some v=>if v<0 then(v +(n:Int)).toNat else min v.toNat n
theorem QT(n d:Nat):J_ n d none=d:=rfl
theorem RF(n d k:Nat):J_ n d (some (k:Int))=min k n:=by
 show(if(k:Int)<0 then((k:Int) +(n:Int)).toNat else min (k:Int).toNat n)=min k n;rw[AJ (by omega),CS]
theorem zBm(n d:Nat)(b:d<=n)(o:A5 Int):J_ n d o<=n:=by
 cases o with
 | none=>exact b
 | some v =>
  show(if v<0 then(v +(n:Int)).toNat else min v.toNat n)<=n;by_cases a:v<0
  .rw[AL a];omega
  .rw[AJ a];exact Nat.min_le_right _ _
theorem Se(v:Int)(n d:Nat):(if v<0 then max (v +(n:Int)) 0 else min v (n:Int)) =((J_ n d (some v):Nat):Int):=by
 show(if v<0 then max (v +(n:Int)) 0 else min v (n:Int)) =(((if v<0 then(v +(n:Int)).toNat else min v.toNat n):Nat):Int);by_cases a:v<0
 .simp only[AL a];omega
 .simp only[AJ a];omega
theorem Nf(lo hi:A5 Int)(n:Nat):Builtin.Slice.sliceAdjust lo hi 1 (n:Int) =(((J_ n 0 lo:Nat):Int),((J_ n n hi:Nat):Int)):=by
 have a:¬((1:Int)<0):=by omega
 unfold Builtin.Slice.sliceAdjust;simp only[a,CJ];refine Prod.ext ?_ ?_
 .cases lo with
  | none=>rfl
  | some v=>exact Se v n 0
 .cases hi with
  | none=>rfl
  | some v=>exact Se v n n
theorem Mp(i j:Nat):Builtin.Slice.slicePlaces (i:Int) (j:Int) 1=j-i:=by
 unfold Builtin.Slice.slicePlaces;have a:(1:Int)>0:=by omega
 simp only[a,ES,Int.ediv_one];split<;>omega
theorem Cq{v:A2}{o:A5 Int}{Q:A5 Int->A4->Prop}(p:IsPart v o)(h:Q o s):wpAny (model prog w) A (Builtin.Slice.slicePartIndex v) Q E s:=by
 cases p with
 | none=>exact slicePart_none h
 | int i t=>exact slicePart_int h
theorem u9{e:A3}{c d:A2}{lo hi:A5 Int}{n:Nat}{Q:Int×Int×Nat->A4->Prop}(f:s.heap.IsSliceOf e c d .none)(pl:IsPart c lo)(g:IsPart d hi)
  (h:Q (((J_ n 0 lo:Nat):Int),1,J_ n n hi-J_ n 0 lo) s):wpAny (model prog w) A (Builtin.Slice.sliceApplied (.ref e) (pure (n:Int))) Q E s:=by
 obtain⟨os,a,i,b⟩:=id f;unfold Builtin.Slice.sliceApplied Builtin.Slice.sliceFields;refine AA (AA (DA a b (x:=c) rfl (AA (DA a b (x:=d) rfl (AA (DA a b (x:=.none) rfl (AG ?_)))))));refine AA (slicePart_none ?_);show wpAny _ _ (if((1:Int) == 0)=true then _ else _) _ _ s;rw[AJ (by decide)];refine AA (Cq pl (AA (Cq g (AA (AG ?_)))));show wpAny _ _ (match Builtin.Slice.sliceAdjust lo hi 1 (n:Int)with | (lo,hi)=>pure (lo,(1:Int),Builtin.Slice.slicePlaces lo hi 1)) _ _ s;rw[Nf lo hi n];show wpAny _ _ (pure (((J_ n 0 lo:Nat):Int),(1:Int),Builtin.Slice.slicePlaces ((J_ n 0 lo:Nat):Int) ((J_ n n hi:Nat):Int) 1)) _ _ s;rw[Mp];exact AG h
theorem Ud(xs:F1 A2)(i k:Nat):((List.range k).filterMap fun(m:Nat)=>xs[((i:Int) +(m:Int)*1).toNat]?).toArray =((xs.toList.drop i).take k).toArray:=by
 have e:(fun(m:Nat)=>xs[((i:Int) +(m:Int)*1).toNat]?)=fun m=>xs[i+m]?:=by
  funext m;have:((i:Int) +(m:Int)*1).toNat=i+m:=by omega
  rw[this]
 rw[e];have:=pick_run xs i k;rw[List.filterMap_map]at this;have a:((fun x=>xs[x]?)∘fun x=>i+x)=fun m=>xs[i+m]?:=rfl;rw[a]at this;rw[this]
theorem NJ{t c:A3}{items:F1 A2}{i j:A2}{lo hi:A5 Int}{Q:A2->A4->Prop}(b:IsTup s.heap t items)(k:s.heap.IsSliceOf c i j .none)(pl:IsPart i lo)(l:IsPart j hi)
  (hw:¬(J_ items.size 0 lo=0/\J_ items.size items.size hi=items.size))
  (h:Q (.ref s.heap.objs.size) { s with heap:=s.heap.push { cls:=.type "tuple",data:=.seq ((items.toList.drop (J_ items.size 0 lo)).take (J_ items.size items.size hi-J_ items.size 0 lo)).toArray } })
  (hsz:items.size<=sizeLine):wpAny (model prog w) A (getItem (.ref t) (.ref c)) Q E s:=by
 have a:sizeOk (.seq ((items.toList.drop (J_ items.size 0 lo)).take (J_ items.size items.size hi-J_ items.size 0 lo)).toArray):=by
  show((items.toList.drop (J_ items.size 0 lo)).take (J_ items.size items.size hi-J_ items.size 0 lo)).toArray.size<=sizeLine;rw[AM,AS,CY,BA];omega
 have o:J_ items.size items.size hi<=items.size:=zBm _ _ (Nat.le_refl _) hi;obtain⟨os,d,e,n⟩:=id k;have f:s.TypeIs (.ref c) "slice":=⟨os,d,e⟩;unfold getItem
 try with_reducible refine BU ?_
 first | refine AA (AG ?_) | skip
 refine AA (wpAny_sequenceKey b.typeIs (by decide) ?_);refine AA (DX (name:=Str.ofString "__getitem__") b.typeIs PyProof.Rows.slot_tuple_getitem
  (DW PyProof.Rows.slot_tuple_getitem b.typeIs entry_tuple_getitem ?_ (args_tuple_getitem _ _)))
 show wpAny _ _ (Builtin.Tuple.tupleItemsOf (.ref t) >>= _) _ _ s;refine AA (tupleItemsOf_ b ?_);refine AA (wpAny_typeOf f ?_);rw[AL (by decide)];refine AA (u9 k pl l ?_);have g:¬((((J_ items.size 0 lo:Nat):Int) == 0 &&(1:Int) == 1 &&(J_ items.size items.size hi-J_ items.size 0 lo) == items.size)=true):=by
  intro q;rw[BH,BH]at q;have p:((J_ items.size 0 lo:Nat):Int)=0:=eq_of_beq q.1.1;have r:J_ items.size items.size hi-J_ items.size 0 lo=items.size:=eq_of_beq q.2;exact hw ⟨by omega,by omega⟩
 show wpAny _ _ (if(((J_ items.size 0 lo:Nat):Int) == 0 &&(1:Int) == 1 &&(J_ items.size items.size hi-J_ items.size 0 lo) == items.size)=true then _ else _) _ _ s;rw[AJ g,Ud]
 first
  | exact AA (m:=Builtin.Tuple.tupleExact _) (ET (AG ⟨_,rfl,AG h⟩) a)
  | exact AA (m:=Builtin.Tuple.tupleExact _) (ET (AA (AG (AG ⟨_,rfl,AG h⟩))) a)
  | exact AA (AA (m:=Builtin.Tuple.tupleExact _) (ET (AG (AG ⟨_,rfl,AG h⟩)) a))
  | exact AA (AA (m:=Builtin.Tuple.tupleExact _) (ET (AG ⟨_,rfl,AG h⟩) a))
end
end HT
namespace L2
open PySem PySem.Spec PyProof.Rows
abbrev TO:=St->Hp->(A5 Int->Hp->Prop)->Prop
def PO(X:Cx)(e:A5 IB)(t:TO):Prop :=
 ∀(a:A1 (A3×Obj)) (s:A4) (σ:St) (H:Hp) (Q:A5 Int->Hp->Prop),Inv X a σ H s->t σ H Q ->
  wpAny (model X.prog X.w) X.A (evalPart e X.env) (fun u c=>∃o b,Inv X a σ b c/\IsPart u o/\Q o b) X.xe s
def Xg:TO:=fun _ H Q=>Q none H
def zEn(t:TE):TO:=fun σ H Q=>t σ H fun x a=>∃i,x = .int i/\Q (some i) a
def l7{ns:A1 Int}:∀{us:A1 A2},IH (ns.map V.int) us->IntsAre us ns:=by
 induction ns with
 | nil=>intro us r;rw[GP]at r;cases r;exact .nil
 | cons n ns a =>
  intro us r;rw[A_]at r;cases r with
  | cons b c =>
   obtain⟨t,e⟩:=b;subst e;exact .cons n t (a c)
section
variable{X:Cx}{e:IB}{te:TE}{lo hi:A5 IB}{tl th:TO}{pos p2:Pos}
theorem R9:PO X none Xg:=by
 intro a s σ H Q I h;rw[evalPart_none];exact AG ⟨none,H,I,.none,h⟩
theorem P9(h:PE X e te):PO X (some e) (zEn te):=by
 intro a s σ H Q I b;rw[evalPart_some];refine IT (h a s σ H _ I b) fun u j ⟨x,c,d,f,g⟩=>?_;obtain⟨i,rfl,q⟩:=g;obtain⟨t,rfl⟩:=f;exact⟨some i,c,d,.int i t,q⟩
def TC(X:Cx)(r:V->A5 Int->A5 Int->Hp->VK->Prop):Prop :=
 ∀(a:A1 (A3×Obj)) (s:A4) (σ:St) (H:Hp) (x:V) (v b c:A2) (lo hi:A5 Int) (d:A3) (Q:VK),Inv X a σ H s->RelV x v->s.heap.IsSliceOf d b c .none->IsPart b lo->IsPart c hi->r x lo hi H Q ->
  ∃T id,typeLookup (.type T) "__getitem__" = pure (some (.builtin id))/\s.TypeIs v T/\wpAny (model X.prog X.w) X.A (getItem v (.ref d)) (EP X a σ Q) X.xe s
def tSl(r:V->A5 Int->A5 Int->Hp->VK->Prop)(te:TE)(tl th:TO):TE:=fun σ H Q=>te σ H fun x a=>tl σ a fun l b=>th σ b fun u c=>r x l u c Q
theorem R1{r:V->A5 Int->A5 Int->Hp->VK->Prop}(f:TC X r)(g:PE X e te)(i:PO X lo tl)(j:PO X hi th):PE X (.Subscript e (.Slice lo hi none p2) pos) (tSl r te tl th):=by
 intro a s σ H Q I h;refine Subscript_ (IT (g a s σ H _ I h) fun v k ⟨x,m,n,o,p⟩=>?_);refine wpAny_Slice (IT (i a k σ m _ n p) fun c t ⟨l,y,z,B,C⟩=>IT (j a t σ y _ z C) fun vu s3 ⟨u,d,D,E,F⟩=>?_);rw[evalPart_none];refine AG ?_;have G:Inv X a σ d { s3 with heap:=s3.heap.push { cls:=.type "slice",data:=.fields #[c,vu,.none] } }:=D.kept (t':=s3.toks) fun b M q=>AD _ q;obtain⟨T,id,J,K,L⟩:=f a { s3 with heap:=s3.heap.push { cls:=.type "slice",data:=.fields #[c,vu,.none] } } σ d x v c vu l u s3.heap.objs.size Q G o (Heap.IsSliceOf.new ..) B E F;show wpAny (model X.prog X.w) X.A (subscriptTail e (.Slice lo hi none p2) v (.ref s3.heap.objs.size)) (EP X a σ Q) X.xe { s3 with heap:=s3.heap.push { cls:=.type "slice",data:=.fields #[c,vu,.none] } };exact tail_any (ops:=[.ref s3.heap.objs.size,v]) K J L (by with_unfolding_all rfl)
def i6(xs:A1 V)(lo hi:A5 Int):A1 V:=(xs.drop (HT.J_ xs.length 0 lo)).take (HT.J_ xs.length xs.length hi-HT.J_ xs.length 0 lo)
theorem Ba(xs:A1 V)(lo hi:A5 Int):(i6 xs lo hi).length<=xs.length:=by
 unfold i6;rw[AS,CY];omega
def zFc(K:PySem.W.Frag):V->A5 Int->A5 Int->Hp->VK->Prop:=fun x lo hi H Q=>∃a b,x = .ref a/\IZ K H a b /\
 ¬(HT.J_ b.length 0 lo=0/\HT.J_ b.length b.length hi=b.length)/\∀p,H p=none->Q (.ref p) (HX H p (.tup (i6 b lo hi)))
theorem zCd:TC X (zFc X.K):=by
 intro f s σ H x v t u lo hi w Q I j k l m h;obtain⟨a,d,rfl,n,p,q⟩:=h;cases j;obtain⟨e,r,g,i⟩:=I.tuple n;have c:e.toArray.size=d.length:=by rw[AM];exact r.length.symm
 refine⟨"tuple",_,PyProof.Rows.slot_tuple_getitem.lookup,g.typeIs,?_⟩;refine HT.NJ g k l m (by rw[c];exact p) ?_ (by rw[c];exact i);rw[c];refine⟨.ref s.heap.objs.size,_,I.laid (t':=s.toks) (o:=.tup (i6 d lo hi)) (fun b y q=>AD _ q) (Nat.le_refl _) ?_,rfl,q _ (I.hok.fresh (Nat.le_refl _))⟩;exact⟨Nat.le_trans (Ba d lo hi) i,_,(r.drop (HT.J_ d.length 0 lo)).take (HT.J_ d.length d.length hi-HT.J_ d.length 0 lo),IsTup.new _ _⟩
def zGh(K:PySem.W.Frag):R2:=fun x y H Q=>∃a b c d,x = .ref a/\y = .ref b/\IZ K H a (c.map V.int)/\IZ K H b (d.map V.int)/\Q (.bl (HT.lexLt c d)) H
theorem zCi(i:X.A.units<cLine):KU X (compareOp .Lt) (zGh X.K):=by
 intro e s σ H x y v u Q I j k h;obtain⟨a,b,f,g,rfl,rfl,l,m,q⟩:=h;cases j;cases k;obtain⟨d,n,o,_⟩:=I.tuple l;obtain⟨c,p,p2,_⟩:=I.tuple m;have r:IntsAre d.toArray.toList f:=l7 n;have t:IntsAre c.toArray.toList g:=l7 p;exact HT.QB o p2 r t i ⟨.bl (HT.lexLt f g),H,I,rfl,q⟩
def zDw(K:PySem.W.Frag):R2:=fun x y H Q=>∃a b d c,x = .ref a/\y = .ref b/\IZ K H a d/\IZ K H b c/\d≠[]/\d.length+c.length<=sizeLine /\
 (c = []->Q (.ref a) H)/\(c≠[]->∀p,H p=none->Q (.ref p) (HX H p (.tup (d++c))))
theorem IH.nil_iff{xs:A1 V}{us:A1 A2}(r:IH xs us):us = []↔xs = []:=by
 cases r with
 | nil=>simp
 | cons _ _=>simp
theorem Xb:KU X (binaryOp .Add) (zDw X.K):=by
 intro e s σ H x y v u Q I i j h;obtain⟨a,b,k,l,rfl,rfl,m,n,p,f,r,t⟩:=h;cases i;cases j;obtain⟨A,d,B,_⟩:=I.tuple m;obtain⟨g,c,p2,_⟩:=I.tuple n;refine HT.RL B p2 (fun z=>p (d.nil_iff.mp z)) (fun z=>⟨.ref a,H,I,rfl,r (c.nil_iff.mp z)⟩) (fun z=>?_) (by rw[<-d.length,<-c.length];exact f);refine⟨.ref s.heap.objs.size,_,I.laid (t':=s.toks) (o:=.tup (k++l)) (fun b C q=>AD _ q) (Nat.le_refl _) ?_,rfl,t (fun w=>z (c.nil_iff.mpr w)) _ (I.hok.fresh (Nat.le_refl _))⟩;exact⟨by rw[AU];exact f,_,d.append c,IsTup.new _ _⟩
end
def QW(n:Nat)(i:Int):A5 Nat:=if 0<=i then(if i<n then some i.toNat else none)else if -(n:Int)<=i then some (i+n).toNat else none
def PL{α:Type}(xs:A1 α)(i:Int):A5 α:=(QW xs.length i).bind fun j=>xs[j]?
def Ov{n:Nat}{i:Int}{j:Nat}(h:QW n i=some j):seqIndex? i n=some j/\j<n/\-(n:Int)<=i/\i<n:=by
 unfold QW at h;by_cases b:0<=i
 .rw[AL b]at h;by_cases a:i<n
  .rw[AL a]at h;have e:i.toNat=j:=BE h;exact⟨by rw[seqIndex_of b a,e],by omega,by omega,a⟩
  .rw[AJ a]at h;cases h
 .rw[AJ b]at h;by_cases a:-(n:Int)<=i
  .rw[AL a]at h;have e:(i+n).toNat=j:=BE h;exact⟨by rw[seqIndex_neg (by omega) a,e],by omega,a,by omega⟩
  .rw[AJ a]at h;cases h
def Qp{α:Type}{xs:A1 α}{i:Int}{v:α}(h:PL xs i=some v):∃j,seqIndex? i xs.length=some j/\xs[j]?=some v/\j<xs.length/\-(xs.length:Int)<=i/\i<xs.length:=by
 unfold PL at h;cases e:QW xs.length i with
 | none=>rw[e]at h;cases h
 | some j =>
  rw[e]at h;obtain⟨a,b,c,d⟩:=Ov e;exact⟨j,a,h,b,c,d⟩
def E7{α:Type}{xs:A1 α}{j:Nat}{v:α}(h:xs[j]?=some v):PL xs (j:Int)=some v:=by
 have a:j<xs.length:=(AE.mp h).1;have e:QW xs.length (j:Int)=some j:=by
  unfold QW;rw[AL (by omega),AL (by omega)];simp
 unfold PL;rw[e];exact h
def Uc{α:Type}(xs:A1 α)(v:α):PL (xs ++ [v]) (-1)=some v:=by
 have a:(xs ++ [v]).length=xs.length+1:=by simp
 have e:QW (xs ++ [v]).length (-1)=some xs.length:=by
  unfold QW;rw[a,AJ (by decide),AL (by omega)];congr 1;omega
 unfold PL;rw[e];show(xs ++ [v])[xs.length]?=some v;simp
def Ye(b:IB):Prop:=∀o i,subscripted b false o i=operate [o,i] (getItem o i)
def TJ(X:Cx)(r:R2):Prop :=
 ∀(c a:IB) (b:A1 (A3×Obj)) (s:A4) (σ:St) (H:Hp) (x y:V) (v u:A2) (Q:VK),Inv X b σ H s->RelV x v->RelV y u->r x y H Q ->
  subscripted a false v u=operate [v,u] (getItem v u)->wpAny (model X.prog X.w) X.A (subscriptTail c a v u) (EP X b σ Q) X.xe s
def MtR(X:Cx)(id:String)(r:V->A1 V->Hp->VK->Prop):Prop :=
 ∀(a:A1 (A3×Obj)) (s:A4) (σ:St) (H:Hp) (x:V) (b:A1 V) (v:A2) (c:A1 A2) (Q:VK),Inv X a σ H s->RelV x v->IH b c->r x b H Q ->
  wpAny (model X.prog X.w) X.A (call (.builtin id) (v::c)) (EP X a σ Q) X.xe s
section
variable{X:Cx}{a b:IB}{ta tb:TE}{pos:Pos}
theorem D4{r:R2}(d:TJ X r)(e:PE X a ta)(f:PE X b tb)(g:Ye b):PE X (.Subscript a b pos) (tOp r ta tb):=by
 intro c s σ H Q I h;exact Subscript_ (zDf e f I h fun v u i x y j k l m q=>d a b c i σ j x y v u Q k l m q (g _ _))
def zFk(K:PySem.W.Frag):R2:=fun x y H Q=>∃p a i v,x = .ref p/\y = .int i/\IA K H p a/\PL a i=some v/\Q v H
def zFl(K:PySem.W.Frag):R2:=fun x y H Q=>∃p a i v,x = .ref p/\y = .int i/\IZ K H p a/\PL a i=some v/\Q v H
theorem Xl:TJ X (zFk X.K):=by
 intro d e a s σ H x y v u Q I A B h m;obtain⟨p,M,i,z,rfl,rfl,C,D,q⟩:=h;cases A;obtain⟨t,rfl⟩:=B;obtain⟨f,r,g,N⟩:=I.list C;obtain⟨j,c,E,O,F,G⟩:=Qp D;obtain⟨w,n,k⟩:=r.get E;have J:=r.length;have P:=Cy;have b:EP X a σ Q w s:=⟨z,H,I,k,q⟩;by_cases o:0<=i
 .have l:i.toNat=j:=by
   rw[seqIndex_of o G]at c;exact BE c
  exact item_listR g.isList o (by omega) (by rw[l];simpa using n) b m
 .have l:(i +(f.toArray.size:Int)).toNat=j:=by
   rw[seqIndex_neg (by omega) F]at c;rw[AM,<-J];exact BE c
  exact subscriptTail_builtinR (x:=w) g.isList.typeIs slot_list_getitem.lookup
   (wpAny_getItem_list_neg (Q:=fun r L=>r=w/\EP X a σ Q r L) g.isList (by omega) (by rw[AM]<;>omega) (by omega) (by rw[l];simpa using n) ⟨rfl,b⟩) m
theorem zBj:TJ X (zFl X.K):=by
 intro b c a s σ H x y v u Q I g k h l;obtain⟨p,F,i,z,rfl,rfl,m,n,q⟩:=h;cases g;obtain⟨t,rfl⟩:=k;obtain⟨o,r,f,G⟩:=I.tuple m;obtain⟨j,A,B,J,L,M⟩:=Qp n;obtain⟨w,C,d⟩:=r.get B;have D:=r.length;have N:=Cy;have e:EP X a σ Q w s:=⟨z,H,I,d,q⟩;exact subscriptTail_builtinR (x:=w) f.typeIs slot_tuple_getitem.lookup
  (getItem_tuple (j:=j) (Q:=fun r E=>r=w/\EP X a σ Q r E) f (by omega) (by omega) (by rw[AM,<-D];exact A) (by simpa using C) ⟨rfl,e⟩) l
theorem Ml(its:A1 A2)(n j:Nat)(u:A2):Obj.mapSeq (·.setIfInBounds j u) { cls:=.type "list",data:=.seq its.toArray n } ={ cls:=.type "list",data:=.seq (its.set j u).toArray n }:=by
 simp[Obj.mapSeq]
theorem Inv.lst{a:A1 (A3×Obj)}{σ:St}{H:Hp}{s:A4}{p:A3}{xs:A1 V}(I:Inv X a σ H s)(h:H p=some (.lst xs)) :
  ∃(its:A1 A2) (n:Nat),IH xs its/\s.heap.get? p=some { cls:=.type "list",data:=.seq its.toArray n }/\xs.length<=sizeLine:=by
 obtain⟨z,its,n,r,e⟩:=I.hok p _ h;exact⟨its,n,r,e,z⟩
theorem Inv.lstUpd{a:A1 (A3×Obj)}{σ:St}{H:Hp}{s:A4}{p:A3}{xs c:A1 V}{its its':A1 A2}{n d:Nat}{f:Obj->Obj}(I:Inv X a σ H s)(h:H p=some (.lst xs))
  (i:s.heap.get? p=some { cls:=.type "list",data:=.seq its.toArray n }) (g:f { cls:=.type "list",data:=.seq its.toArray n } ={ cls:=.type "list",data:=.seq its'.toArray d }) (r:IH c its') (hz:c.length<=sizeLine) (t:Nat) :
  Inv X a σ (HX H p (.lst c)) { s with heap:=s.heap.update p f,toks:=t }:=by
 have e:(s.heap.update p f).get? p=some { cls:=.type "list",data:=.seq its'.toArray d }:=by
  rw[DN f i (by rw[g]<;>rfl),g]
 refine I.write (x:=p) (e:=p) (by rw[h];trivial) (.inl rfl) (fun b u j q=>(CK _ _ (Ne.symm j)).trans q) ⟨_,e⟩ ?_;exact⟨hz,its',d,r,e⟩
def zDk:V->V->V->Hp->(Hp->Prop)->Prop:=fun o i v H Q=>∃p a k j,o = .ref p/\i = .int k/\H p=some (.lst a)/\QW a.length k=some j/\Q (HX H p (.lst (a.set j v)))
theorem w5:zFb X zDk:=by
 intro a s σ H o i v E F u Q I y z A h;obtain⟨p,B,k,j,rfl,rfl,g,C,q⟩:=h;cases y;obtain⟨t,rfl⟩:=z;obtain⟨b,n,r,d,D⟩:=I.lst g;obtain⟨c,G,l,m⟩:=Ov C;have e:=r.length;have J:=Cy;have w:Inv X a σ (HX H p (.lst (B.set j v))) { s with heap:=s.heap.update p (Obj.mapSeq (·.setIfInBounds j u)) } :=
  I.lstUpd g d (Ml b n j u) (r.set A j) (by rw[List.length_set];exact D) s.toks
 by_cases x:0<=k
 .have f:k.toNat=j:=by
   rw[seqIndex_of x m]at c;exact BE c
  exact PySem.W.ki_setAt d x (by omega) (by rw[AM,<-e];exact m) (by rw[f];exact⟨_,w,q⟩)
 .have f:(k +(b.toArray.size:Int)).toNat=j:=by
   rw[seqIndex_neg (by omega) l]at c;rw[AM,<-e];exact BE c
  exact PySem.W.ki_setBack d (by omega) (by rw[AM,<-e];exact l) (by omega) (by rw[f];exact⟨_,w,q⟩)
theorem Gp(lo hi:A5 Int)(n:Nat):(sliceBounds lo hi none n).1 =((HT.J_ n 0 lo:Nat):Int)/\(sliceBounds lo hi none n).2.1 =((HT.J_ n n hi:Nat):Int)/\(sliceBounds lo hi none n).2.2=1:=by
 refine⟨?_,?_,rfl⟩
 .cases lo with
  | none=>simp[sliceBounds,HT.J_]
  | some i =>
   simp only[sliceBounds,HT.J_,Option.getD_none,show(1:Int)>0 by decide,ES];by_cases h:i<0
   .simp only[h,ES]<;>omega
   .simp only[h,CJ]<;>omega
 .cases hi with
  | none=>simp[sliceBounds,HT.J_]
  | some i =>
   simp only[sliceBounds,HT.J_,Option.getD_none,show(1:Int)>0 by decide,ES];by_cases h:i<0
   .simp only[h,ES]<;>omega
   .simp only[h,CJ]<;>omega
theorem Eu(its:A1 A2)(lo hi:A5 Int):slicePick its.toArray lo hi none =((its.drop (HT.J_ its.length 0 lo)).take (HT.J_ its.length its.length hi-HT.J_ its.length 0 lo)).toArray:=by
 obtain⟨a,b,c⟩:=Gp lo hi its.toArray.size;unfold slicePick;rw[a,b,c];simp only[sliceRange_one,pick_run,AM]<;>rfl
def zFj(K:PySem.W.Frag):V->A5 Int->A5 Int->Hp->VK->Prop:=fun x lo c H Q=>∃a b,x = .ref a/\IA K H a b/\∀p,H p=none->Q (.ref p) (HX H p (.lst (i6 b lo c)))
theorem Ym:TC X (zFj X.K):=by
 intro f s σ H x v t u lo e w Q I i j k l h;obtain⟨a,c,rfl,m,q⟩:=h;cases i;obtain⟨n,r,g,p⟩:=I.list m;have d:=r.length;refine⟨"list",_,slot_list_getitem.lookup,g.isList.typeIs,?_⟩;refine wpAny_getItem_list_slice g.isList j k l .none (by simp) ?_ (by rw[AM]<;>omega);rw[Eu,<-d];refine⟨.ref s.heap.objs.size,_,I.laid (t':=s.toks) (o:=.lst (i6 c lo e)) (fun b y q=>AD _ q) (Nat.le_refl _) ?_,rfl,q _ (I.hok.fresh (Nat.le_refl _))⟩;exact⟨Nat.le_trans (Ba c lo e) p,_,0,(r.drop (HT.J_ c.length 0 lo)).take (HT.J_ c.length c.length e-HT.J_ c.length 0 lo),AQ _ rfl⟩
def Eo:V->Bool
 | .non=>true
 | .bl _=>true
 | .int _=>true
 | .str _=>true
 | _=>false
def RR:V->V->Bool
 | .non,.non=>true
 | .bl a,.bl b=>a == b
 | .bl a,.int b=>(if a then 1 else 0) == b
 | .int a,.bl b=>a ==(if b then 1 else 0)
 | .int a,.int b=>a == b
 | .str a,.str b=>a == b
 | _,_=>false
theorem zAc{A:IC}{s:A4}{y x:V}{u v:A2}(e:RelV y u)(c:RelV x v)(g:Eo y=true)(f:Eo x=true):SeqAt.EqAt A s u v (RR y x):=by
 cases y with
 | non =>
  cases e;cases x with
  | non=>cases c;exact SeqAt.EqAt.same _
  | bl b=>cases c;exact SeqAt.EqAt.none_bool b
  | int b=>obtain⟨t,rfl⟩:=c;exact SeqAt.EqAt.none_int b t
  | str b=>obtain⟨t,rfl⟩:=c;exact SeqAt.EqAt.none_str b t
  | _=>exact absurd (show false=true from f) AZ
 | bl a =>
  cases e;cases x with
  | non=>cases c;exact SeqAt.EqAt.bool_none a
  | bl b=>cases c;exact SeqAt.EqAt.bool_bool a b
  | int b=>obtain⟨t,rfl⟩:=c;exact SeqAt.EqAt.bool_int a b t
  | str b=>obtain⟨t,rfl⟩:=c;exact SeqAt.EqAt.bool_str a b t
  | _=>exact absurd (show false=true from f) AZ
 | int a =>
  obtain⟨d,rfl⟩:=e;cases x with
  | non=>cases c;exact SeqAt.EqAt.int_none a d
  | bl b=>cases c;exact SeqAt.EqAt.int_bool a d b
  | int b=>obtain⟨t,rfl⟩:=c;exact SeqAt.EqAt.int_int a d b t
  | str b=>obtain⟨t,rfl⟩:=c;exact SeqAt.EqAt.int_str a d b t
  | _=>exact absurd (show false=true from f) AZ
 | str a =>
  obtain⟨d,rfl⟩:=e;cases x with
  | non=>cases c;exact SeqAt.EqAt.str_none a d
  | bl b=>cases c;exact SeqAt.EqAt.str_bool a d b
  | int b=>obtain⟨t,rfl⟩:=c;exact SeqAt.EqAt.str_int a d b t
  | str b=>obtain⟨t,rfl⟩:=c;exact SeqAt.EqAt.str_str a d b t
  | _=>exact absurd (show false=true from f) AZ
 | _=>exact absurd (show false=true from g) AZ
def QD(x:V)(u:A2):Bool:=match u with
 | .none=>RR .non x
 | .bool b=>RR (.bl b) x
 | .int i _=>RR (.int i) x
 | .str z _=>RR (.str z) x
 | _=>false
theorem Wg{x y:V}{u:A2}(r:RelV y u)(f:Eo y=true):QD x u=RR y x:=by
 cases y with
 | non=>cases r;rfl
 | bl b=>cases r;rfl
 | int i=>obtain⟨t,rfl⟩:=r;rfl
 | str z=>obtain⟨t,rfl⟩:=r;rfl
 | _=>exact absurd (show false=true from f) AZ
theorem Ax{x:V}:∀{xs:A1 V} {us:A1 A2},IH xs us->xs.all Eo=true->us.any (QD x)=xs.any fun y=>RR y x
 | _,_,.nil,_=>rfl
 | y::xs,u::us,.cons r t,f=>by
  rw[List.all_cons,BH]at f;rw[GH,GH,Wg r f.1,Ax t f.2]
theorem b9{A:IC}{s:A4}{x:V}{v:A2}(a:RelV x v)(b:Eo x=true):∀{xs:A1 V} {us:A1 A2},IH xs us->xs.all Eo=true->∀u∈us,SeqAt.EqAt A s u v (QD x u)
 | _,_,.nil,_=>fun u hu=>by cases hu
 | y::xs,u::us,.cons r t,f=>fun c hu=>by
  rw[List.all_cons,BH]at f;rcases AR.mp hu with rfl | hu
  .rw[Wg r f.1];exact zAc r a f.1 b
  .exact b9 a b t f.2 c hu
def inV(x:V)(xs:A1 V):Bool:=xs.any fun y=>RR y x
def SH(K:PySem.W.Frag)(neg:Bool):R2:=fun x y H Q=>∃p a,y = .ref p/\(IA K H p a\/IZ K H p a)/\Eo x=true/\a.all Eo=true/\Q (.bl (if neg then !inV x a else inV x a)) H
theorem Qs:KU X (compareOp .In) (SH X.K false):=by
 intro e s σ H x y v u Q I f i h;obtain⟨p,k,rfl,hq,g,b,q⟩:=h;cases i;rcases hq with hq | hq
 .obtain⟨a,r,c,j⟩:=I.list hq;refine SeqAt.in_listAt (QD x) c.isList (fun w d=>b9 f g r b w (by simpa using d)) ⟨.bl _,H,I,rfl,?_⟩;rw[show a.toArray.any (QD x)=a.any (QD x) by simp,Ax r b];exact q
 .obtain⟨a,r,c,j⟩:=I.tuple hq;refine SeqAt.in_tupleAt (QD x) c (fun w d=>b9 f g r b w (by simpa using d)) ⟨.bl _,H,I,rfl,?_⟩;rw[show a.toArray.any (QD x)=a.any (QD x) by simp,Ax r b];exact q
theorem Fr:KU X (compareOp .NotIn) (SH X.K true):=by
 intro e s σ H x y v u Q I f i h;obtain⟨p,k,rfl,hq,g,b,q⟩:=h;cases i;rcases hq with hq | hq
 .obtain⟨a,r,c,j⟩:=I.list hq;refine SeqAt.notIn_listAt (QD x) c.isList (fun w d=>b9 f g r b w (by simpa using d)) ⟨.bl _,H,I,rfl,?_⟩;rw[show a.toArray.any (QD x)=a.any (QD x) by simp,Ax r b];exact q
 .obtain⟨a,r,c,j⟩:=I.tuple hq;refine SeqAt.notIn_tupleAt (QD x) c (fun w d=>b9 f g r b w (by simpa using d)) ⟨.bl _,H,I,rfl,?_⟩;rw[show a.toArray.any (QD x)=a.any (QD x) by simp,Ax r b];exact q
theorem Gf:K0 X (.builtin "len") (fun xs H Q=>∃p b,xs = [.ref p]/\(IA X.K H p b\/IZ X.K H p b)/\Q (.int b.length) H):=by
 intro f s σ H xs j Q I r h;obtain⟨p,b,rfl,hq,q⟩:=h;obtain⟨u,rfl,g⟩:=U8 r;cases g;have k:=Cy;rcases hq with hq | hq
 .obtain⟨c,d,e,i⟩:=I.list hq;have a:=d.length;exact Calls.call_len_list e.isList (by simp only[AM]<;>omega) ⟨.int b.length,H,I.tok _,⟨s.toks+1,by rw[AM,a]⟩,q⟩
 .obtain⟨c,d,e,i⟩:=I.tuple hq;have a:=d.length;exact len_tuple e (by simp only[AM]<;>omega) ⟨.int b.length,H,I.tok _,⟨s.toks+1,by rw[AM,a]⟩,q⟩
theorem Fl:K0 X (.builtin "len") (fun xs H Q=>∃z,xs = [.str z]/\z.length<=sizeLine/\Q (.int z.length) H):=by
 intro a s σ H xs b Q I r h;obtain⟨z,rfl,c,q⟩:=h;obtain⟨u,rfl,t,rfl⟩:=U8 r;have d:=Cy;exact len_str (by omega) ⟨.int z.length,H,I.tok _,⟨_,rfl⟩,q⟩
theorem Gd:K0 X (.type "list") (fun xs H Q=>∃p d,xs = [.ref p]/\(IA X.K H p d\/IZ X.K H p d)/\∀l,H l=none->Q (.ref l) (HX H l (.lst d))):=by
 intro i s σ H xs C Q I r h;obtain⟨p,d,rfl,hq,q⟩:=h;obtain⟨u,rfl,B⟩:=U8 r;cases B;have j:∀(a:A1 A2),IH d a->d.length<=sizeLine->∀(c:H_) (f:Nat),(∀b A,s.heap.get? b=some A->c.get? b=some A) ->
   c.get? s.heap.objs.size=some { cls:=.type "list",dict:=none,data:=.seq a.toArray f,slots:=#[] }->EP X i σ Q (.ref s.heap.objs.size) { s with heap:=c }:=fun a g k c f m e =>
  ⟨.ref s.heap.objs.size,_,I.laid (t':=s.toks) m (Nat.le_refl _) (show IK X.prog X.w _ c _ (.lst d)from⟨k,a,f,g,e⟩),rfl,q _ (I.hok.fresh (Nat.le_refl _))⟩
 rcases hq with hq | hq
 .obtain⟨a,g,v,k⟩:=I.list hq;have t:=g.length;obtain⟨o,x,y,n,z⟩:=v.isList;exact call_list_seq p (.inl rfl) x y z (fun c f m e=>j a g k c f m e) (by simp only[AM]<;>omega)
 .obtain⟨a,g,v,k⟩:=I.tuple hq;have t:=g.length;obtain⟨o,x,y,n,z⟩:=v;exact call_list_seq p (.inr rfl) x y z (fun c f m e=>j a g k c f m e) (by simp only[AM]<;>omega)
theorem En:K0 X (.type "tuple") (fun xs H Q=>∃p d,xs = [.ref p]/\((IA X.K H p d/\∀l,H l=none->Q (.ref l) (HX H l (.tup d)))\/(IZ X.K H p d/\Q (.ref p) H))):=by
 intro a s σ H xs y Q I r h;obtain⟨p,d,rfl,h⟩:=h;obtain⟨u,rfl,t⟩:=U8 r;cases t;rcases h with⟨g,q⟩ | ⟨g,q⟩
 .obtain⟨c,i,j,k⟩:=I.list g;have m:=i.length;refine call_tuple_list j.isList (fun f v=>?_) (by simp only[AM]<;>omega);have n:Inv X a σ H { s with heap:=f }:=I.kept (t':=s.toks) v;have x:Inv X a σ (HX H f.objs.size (.tup d)) { s with heap:=f.push { cls:=.type "tuple",data:=.seq c.toArray } } :=
   n.laid (t':=s.toks) (fun b o e=>AD _ e) (Nat.le_refl _) (show IK X.prog X.w _ _ _ (.tup d)from⟨k,c,i,IsTup.new _ _⟩)
  exact⟨.ref f.objs.size,_,x,rfl,q _ (n.hok.fresh (Nat.le_refl _))⟩
 .obtain⟨c,i,j,k⟩:=I.tuple g;exact call_tuple_same j ⟨.ref p,H,I,rfl,q⟩
def tyV(K:PySem.W.Frag)(T:String)(x:V)(H:Hp):Prop:=match x with
 | .str _=>T = "str"
 | .int _=>T = "int"
 | .ref p=>(T = "list"/\∃b,IA K H p b)\/(T = "tuple"/\∃o,K.lookup p=some o/\o.cls = .type "tuple"/\o.dict=none) \/
   (T = "dict"/\((∃a,H p=some (.dK a))\/∃a,H p=some (.dT a)))\/(T = "set"/\∃S n,H p=some (.set S n))
 | _=>False
theorem zBb{f:A1 (A3×Obj)}{σ:St}{H:Hp}{s:A4}{T:String}{x:V}{v:A2}(I:Inv X f σ H s)(r:RelV x v)(ty:tyV X.K T x H) :
  s.TypeIs v T/\∀a,v = .ref a->∃k,s.heap.get? a=some k/\k.dict=none:=by
 cases x with
 | str z =>
  obtain⟨t,rfl⟩:=r;cases(show T = "str" from ty);exact⟨typeIs_str s z t,fun _ e=>nomatch e⟩
 | int i =>
  obtain⟨t,rfl⟩:=r;cases(show T = "int" from ty);exact⟨typeIs_int s i t,fun _ e=>nomatch e⟩
 | ref p =>
  cases r;rcases ty with⟨rfl,w,m⟩ | ⟨rfl,o,b,q,g⟩ | ⟨rfl,b⟩ | ⟨rfl,S,n,b⟩
  .obtain⟨u,_,l,_⟩:=I.list m;refine⟨l.isList.typeIs,fun a e=>?_⟩;cases e;obtain⟨o,n,e,c,g,_⟩:=l;exact⟨o,e,g⟩
  .refine⟨⟨o,I.kIn p o b,q⟩,fun a e=>?_⟩;cases e;exact⟨o,I.kIn _ o b,g⟩
  .have z:∃o,s.heap.get? p=some o/\o.ExactDict:=by
    rcases b with⟨h,b⟩ | ⟨h,b⟩
    .obtain⟨_,_,_,_,o,_,_,e,d,_⟩:=I.hok p _ b;exact⟨o,e,d⟩
    .obtain⟨_,_,_,_,o,_,_,e,d,_⟩:=I.hok p _ b;exact⟨o,e,d⟩
   obtain⟨o,e,d⟩:=z;refine⟨⟨o,e,d.1⟩,fun a j=>?_⟩;cases j;exact⟨o,e,d.2.1⟩
  .obtain⟨o,_,_,_,e,d,_⟩:=I.hok p _ b;refine⟨⟨o,e,d.1⟩,fun a j=>?_⟩;cases j;exact⟨o,e,d.2.1⟩
 | _=>exact False.elim ty
def tBM(K:PySem.W.Frag)(T:String)(r:V->A1 V->Hp->VK->Prop)(b:TE)(t:TA):TE:=fun σ H Q=>b σ H fun x a=>tyV K T x a/\t σ a fun c d=>r x c d Q
variable{o e:IB}{es:A1 IB}{to:TE}{t:TA}{name:Str}{apos cpos:Pos}{T id:String}{r:V->A1 V->Hp->VK->Prop}
theorem zDm(m:PlainAttrs T)(f:Slot T name id)(i:typeOf (.builtin id)=pure (.type "method_descriptor"))(n:MtR X id r)(p:PE X o to)(q:PA X (e::es) t)
  (c:attributeBase o name X.env (eval o X.env)=eval o X.env:=by rfl)
  (g:((backTo cpos (starEach (e::es) X.env)).all (fun x=>!x.1) &&(backToKw cpos (keywordEach [] X.env)).all (fun x=>x.1.isSome)
   && decide ((e::es).length +([]:A1 Keyword).length +(if([]:A1 Keyword).isEmpty then 0 else 1)<30))=true:=by rfl)
  (d:(apos.endLine == cpos.line)=true:=by rfl) (u:starEach (e::es) X.env =(false,eval e X.env)::starEach es X.env:=by rfl) (b:(backTo cpos (starEach es X.env)).any (·.1)=false:=by rfl) :
  PE X (.Call (.Attribute o name apos) (e::es) [] cpos) (tBM X.K T r to t):=by
 intro a s σ H Q I h;refine wpAny_Call_method_late c g d rfl (IT (p a s σ H _ I h) fun v w ⟨x,y,j,k,ty,z⟩=>?_);obtain⟨A,B⟩:=zBb j k ty;refine⟨T,id,m,f,i,A,B,?_⟩;have l:=q cpos a w σ y _ j z;rw[u]at l⊢;refine Calls.callWith_builtin (by show(false||(backTo cpos (starEach es X.env)).any (·.1))=false;rw[b]<;>rfl) (Calls.evalArgs_plain ?_);exact IT l fun C D ⟨E,F,G,J,L⟩=>n a D σ F x E v C Q G k J L
end
def QL(X:Cx)(id:String)(r:V->A1 V->Hp->VK->Prop):Prop :=
 ∀(a:A1 (A3×Obj)) (s:A4) (σ:St) (H:Hp) (x:V) (b:A1 V) (v:A2) (c:A1 A2) (Q:VK),Inv X a σ H s->RelV x v->IH b c->r x b H Q ->
  wpAny (model X.prog X.w) X.A (call (.builtin id) (v::c)) (EP X a σ Q) X.xe s
def IH.one:∀{x:V} {us:A1 A2},IH [x] us->∃u,us = [u]/\RelV x u
 | _,_,.cons r .nil=>⟨_,rfl,r⟩
def IH.two:∀{x y:V} {us:A1 A2},IH [x,y] us->∃u v,us = [u,v]/\RelV x u/\RelV y v
 | _,_,_,.cons r (.cons q .nil)=>⟨_,_,rfl,r,q⟩
def IH.eraseIdx:∀{xs:A1 V} {us:A1 A2} (i:Nat),IH xs us->IH (xs.eraseIdx i) (us.eraseIdx i)
 | _,_,_,.nil=>.nil
 | _,_,0,.cons _ t=>t
 | _,_,i+1,.cons r t=>.cons r (IH.eraseIdx i t)
def IH.rep{xs:A1 V}{us:A1 A2}(h:IH xs us):∀k:Nat,IH (List.replicate k xs).flatten (List.replicate k us).flatten
 | 0=>.nil
 | k+1=>by
  rw[EC,EC,GK,GK];exact IH.append h (IH.rep h k)
def Hs{α:Type}:∀(l:A1 α) (i:Nat),(l.eraseIdx i).length<=l.length
 | [],_=>Nat.le_refl _
 | _::_,0=>EO _
 | _::r,i+1=>Nat.succ_le_succ (Hs r i)
def Gv(its:A1 A2):∀(k:Nat) (a:A1 A2),
  List.foldl (fun b c=>b++c) a.toArray (List.replicate k its.toArray) =(a ++(List.replicate k its).flatten).toArray
 | 0,a=>by simp
 | k+1,a=>by
  have e:a.toArray++its.toArray =(a++its).toArray:=by simp
  have d:(a++its) ++(List.replicate k its).flatten=a ++(List.replicate (k+1) its).flatten:=by
   rw[EC,GK,BI]
  rw[<-d,<-Gv its k (a++its),<-e,EC,List.foldl_cons]
section
variable{X:Cx}{pins:A1 (A3×Obj)}{σ:St}{H:Hp}{s:A4}{l b:A3}{xs ys zs:A1 V}
theorem Inv.lset{its its':A1 A2}{n:Nat}{f:F1 A2->F1 A2}{t':Nat}(I:Inv X pins σ H s)(a:H l=some (.lst xs))
  (e:s.heap.get? l=some { cls:=.type "list",data:=.seq its.toArray n }) (b:f its.toArray=its'.toArray) (c:IH ys its') (hz:ys.length<=sizeLine) :
  Inv X pins σ (HX H l (.lst ys)) { s with heap:=s.heap.update l (Obj.mapSeq f),toks:=t' }:=by
 have q:=PySem.IsL.update e f;rw[b]at q;refine I.write (x:=l) (e:=l) (by rw[a];exact trivial) (.inl rfl) (fun h u d g=>(CK s.heap (Obj.mapSeq f) (Ne.symm d)).trans g) ⟨_,q⟩ ?_;exact⟨hz,its',_,c,q⟩
theorem Inv.lnew{its:A1 A2}{t':Nat}(I:Inv X pins σ H s)(a:IH ys its)(hz:ys.length<=sizeLine) :
  Inv X pins σ (HX H s.heap.objs.size (.lst ys)) { s with heap:=s.heap.push { cls:=.type "list",data:=.seq its.toArray },toks:=t' } :=
 I.laid (fun _ _ q=>AD _ q) (Nat.le_refl _) ⟨hz,its,0,a,AQ _ rfl⟩
theorem Inv.fresh(I:Inv X pins σ H s):H s.heap.objs.size=none:=I.hok.fresh (Nat.le_refl _)
theorem Inv.lstM(I:Inv X pins σ H s)(a:H l=some (.lst xs)):xs.length<=sizeLine/\∃(its:A1 A2) (n:Nat),IH xs its/\xs.length=its.length/\s.heap.get? l=some { cls:=.type "list",data:=.seq its.toArray n }:=by
 obtain⟨z,its,n,r,e⟩:=I.hok l _ a;exact⟨z,its,n,r,r.length,e⟩
theorem Ve{n:Nat}(h:n<=sizeLine):Builtin.List.listTooLong n=false:=by
 unfold Builtin.List.listTooLong;exact BD (by omega)
end
section
variable{X:Cx}
def Xy:V->A1 V->Hp->VK->Prop:=fun x b H Q=>∃l a y,x = .ref l/\b = [y]/\H l=some (.lst a)/\a.length<sizeLine/\Q .non (HX H l (.lst (a ++ [y])))
theorem M6:QL X "list.append" Xy:=by
 intro b s σ H x i v j Q I d f h;obtain⟨l,k,y,rfl,rfl,c,m,q⟩:=h;cases d;obtain⟨u,rfl,g⟩:=f.one;obtain⟨z,a,n,r,o,e⟩:=I.lstM c;refine call_meets F.slot_list_append ⟨_,e,rfl⟩ F.entry_list_append (F.args_list_append_2 _ _) (PySem.list_append l a.toArray n u (by rw[AM];omega)) ⟨e,?_⟩;refine⟨.non,_,I.lset (its':=a ++ [u]) c e (by simp) (r.append (.cons g .nil)) ?_,rfl,q⟩;rw[AU,List.length_singleton];omega
def zAw:V->A1 V->Hp->VK->Prop:=fun x b H Q=>∃l a i k y,x = .ref l/\b = [.int i]/\H l=some (.lst a)/\-(2^63)<=i/\i<2^63/\seqIndex? i a.length=some k/\a[k]?=some y/\Q y (HX H l (.lst (a.eraseIdx k)))
theorem Kv:QL X "list.pop" zAw:=by
 intro c s σ H x E v G Q I f g h;obtain⟨l,j,i,k,y,rfl,rfl,d,m,o,p,A,q⟩:=h;cases f;obtain⟨u,rfl,B⟩:=g.one;obtain⟨t,rfl⟩:=B;obtain⟨z,a,n,r,C,e⟩:=I.lstM d;obtain⟨w,D,b⟩:=r.get A;refine call_meets F.slot_list_pop ⟨_,e,rfl⟩ F.entry_list_pop (F.args_list_pop_2 _ _)
  (MeetsSeq.list_pop_at l a.toArray n i t k w (fitsIndex_both m o) (by rw[AM,<-C];exact p) (by rw[<-BS];exact D) (by rw[AM];omega)) ⟨e,?_⟩
 refine⟨y,_,I.lset (its':=a.eraseIdx k) d e ?_ (r.eraseIdx k) ?_,b,q⟩
 .show a.toArray.eraseIdxIfInBounds k =(a.eraseIdx k).toArray;rw[List.eraseIdxIfInBounds_toArray]
 .have:=Hs j k;omega
def zGa:R2:=fun x y H Q=>∃l b a c,x = .ref l/\y = .ref b/\H l=some (.lst a)/\H b=some (.lst c)/\a.length+c.length<=sizeLine/\∀p,H p=none->Q (.ref p) (HX H p (.lst (a++c)))
theorem Gm:KU X (binaryOp .Add) zGa:=by
 intro d s σ H x y v u Q I f g h;obtain⟨l,b,t,w,rfl,rfl,i,j,A,q⟩:=h;cases f;cases g;obtain⟨z,c,n,r,B,e⟩:=I.lstM i;obtain⟨C,a,D,k,m,o⟩:=I.lstM j;refine PySem.P.add_list e o ?_ (by rw[AM,AM];omega);have p:c.toArray++a.toArray =(c++a).toArray:=by simp
 rw[p];exact⟨.ref _,_,I.lnew (t':=s.toks) (r.append k) (by rw[AU];omega),rfl,q _ I.fresh⟩
def zFo:R2:=fun x y H Q=>∃l k a,x = .ref l/\y = .int k/\H l=some (.lst a)/\-(2^63)<=k/\k<2^63/\a.length*k.toNat<=sizeLine /\
 ∀p,H p=none->Q (.ref p) (HX H p (.lst (List.replicate k.toNat a).flatten))
theorem Zf{α:Type}(xs:A1 α)(k:Nat):(List.replicate k xs).flatten.length=k*xs.length:=by
 induction k with
 | zero=>simp
 | succ k a=>rw[EC,GK,AU,a,Nat.succ_mul,Nat.add_comm]
theorem Wf:KU X (binaryOp .Mult) zFo:=by
 intro p s σ H x y v u Q I A B h;obtain⟨l,k,L,rfl,rfl,C,D,E,w,q⟩:=h;cases A;obtain⟨t,rfl⟩:=B;obtain⟨z,b,n,r,G,e⟩:=I.lstM C;have d:b.toArray.size*k.toNat<=sizeLine:=by rw[AM,<-G];exact w
 have f:¬b.toArray.size*k.toNat >(2^63-1) / 8:=by
  have:(sizeLine:Nat)<=(2^63-1) / 8:=by decide
  omega
 have g:¬(!Builtin.List.listFitsIndex k)=true:=by
  rw[fitsIndex_both D E];exact AZ
 have c:¬Builtin.List.listTooLong (b.toArray.size*k.toNat)=true:=by
  rw[Ve d];exact AZ
 have i:List.foldl (fun j o=>j++o) #[] (List.replicate (if b.toArray.isEmpty=true then 0 else k.toNat) b.toArray) =(List.replicate k.toNat b).flatten.toArray:=by
  have J:∀m:Nat,List.foldl (fun j o=>j++o) #[] (List.replicate m b.toArray) =(List.replicate m b).flatten.toArray:=fun m=>by
   have:=Gv b m [];rw[List.nil_append]at this;exact this
  rw[J];cases b with
  | nil=>simp
  | cons a M=>rw[AJ (by simp)]
 refine wpAny_binaryOp_repeat_ref (T := "list") (U := "int") (by decide) ⟨_,e,rfl⟩ (fun K=>typeIs_int K k t) noFill_list_mul F.fills_int_mul F.slot_int_rmul repeat_list F.slot_int_index.lookup
  (call_meets F.slot_int_rmul (typeIs_int s k t) F.entry_int_rmul (F.args_int_rmul_2 _ _) (int___rmul___int_list k t l b.toArray n)
   ⟨e,rfl,⟨_,e,rfl⟩,call_meets F.slot_list_mul ⟨_,e,rfl⟩ F.entry_list_mul (F.args_list_mul_2 _ _) (AutoListH.list___mul___list_int_3 l b.toArray n k t g f c) ⟨e,?_⟩⟩)
 rw[i];exact⟨.ref _,_,I.lnew (t':=s.toks) (r.rep k.toNat) (by rw[Zf,Nat.mul_comm];exact w),rfl,q _ I.fresh⟩
end
section
variable{κ:Type}[DecidableEq κ]
def S6(a:A1 (κ×V))(k:κ):A5 V:=(a.find? fun b=>decide (b.1=k)).map (·.2)
def p9(a:A1 (κ×V))(k:κ)(v:V):A1 (κ×V) :=
 if(a.any fun b=>decide (b.1=k))=true then a.map (fun b=>if b.1=k then(b.1,v)else b)else a ++ [(k,v)]
theorem O3{p:κ×V}{r:A1 (κ×V)}{k:κ}(e:p.1=k):S6 (p::r) k=some p.2:=by simp[S6,EV,e]
theorem O7{p:κ×V}{r:A1 (κ×V)}{k:κ}(e:¬p.1=k):S6 (p::r) k=S6 r k:=by simp[S6,EV,e]
theorem X8(k:κ):∀a:A1 (κ×V),(a.any fun b=>decide (b.1=k)) =(S6 a k).isSome
 | []=>rfl
 | p::r=>by
  rw[GH];by_cases e:p.1=k
  .simp only[O3 e,BB e,Bool.true_or,Option.isSome_some]
  .rw[O7 e,BD e,Bool.false_or];exact X8 k r
theorem Km(k j:κ)(y:V):∀a:A1 (κ×V),S6 (a.map fun b=>if b.1=k then(b.1,y)else b) j =(S6 a j).map fun x=>if j=k then y else x
 | []=>rfl
 | p::r=>by
  have c:=Km k j y r;rw[A_];by_cases h:p.1=k
  .rw[AL h];by_cases e:p.1=j
   .rw[O3 (p:=(p.1,y)) e,O3 e,HA,AL (e.symm.trans h)]
   .rw[O7 (p:=(p.1,y)) e,O7 e,c]
  .rw[AJ h];by_cases e:p.1=j
   .rw[O3 (p:=p) e,O3 e,HA,AJ (fun z=>h (e.trans z))]
   .rw[O7 (p:=p) e,O7 e,c]
theorem Gr(k j:κ)(y:V):∀a:A1 (κ×V),S6 a k=none->S6 (a ++ [(k,y)]) j=if j=k then some y else S6 a j
 | [],_=>by
  by_cases e:k=j
  .rw[AL e.symm];exact O3 (p:=(k,y)) e
  .rw[AJ (fun z=>e z.symm)];exact O7 (p:=(k,y)) e
 | p::r,b=>by
  rw[List.cons_append];have c:¬p.1=k:=fun z=>by rw[O3 z]at b;cases b
  rw[O7 c]at b;have d:=Gr k j y r b;by_cases e:p.1=j
  .rw[O3 e,O3 e,AJ (fun z=>c (e.trans z))]
  .rw[O7 e,O7 e,d]
theorem y8(b:A1 (κ×V))(k j:κ)(y:V):S6 (p9 b k y) j=if j=k then some y else S6 b j:=by
 unfold p9;by_cases a:(b.any fun c=>decide (c.1=k))=true
 .rw[AL a,Km];rw[X8]at a;by_cases e:j=k
  .obtain⟨x,d⟩:=EK.mp a;rw[AL e,e,d,HA,AL rfl]
  .rw[AJ e];cases S6 b j with
   | none=>rfl
   | some x=>rw[HA,AJ e]
 .rw[AJ a];refine Gr k j y b ?_;rw[X8]at a;cases q:S6 b k with
  | none=>rfl
  | some x=>rw[q]at a;exact(a rfl).elim
theorem Q6(a:A1 (κ×V))(k:κ)(v:V):(p9 a k v).length<=a.length+1:=by
 unfold p9;split
 .rw[AB];omega
 .rw[AU,BJ,GD];omega
theorem Ul{a:A1 (κ×V)}{k:κ}(v:V)(h:S6 a k=none):p9 a k v=a ++ [(k,v)]:=by
 unfold p9;rw[X8,h];exact AJ (by decide)
theorem MP.isSome_eq{o:A5 V}{u:A5 A2}(r:MP o u):o.isSome=u.isSome:=by
 cases o with
 | none=>cases u with
  | none=>rfl
  | some _=>exact(show False from r).elim
 | some _=>cases u with
  | none=>exact(show False from r).elim
  | some _=>rfl
theorem KV.val{a:A1 (κ×V)}{vs:A1 (κ×A2)}(r:KV a vs)(k:κ):MP (S6 a k) (valueAt vs k):=by
 unfold KV at r
 induction r with
 | nil=>exact True.intro
 | @cons p q j c h t g =>
  obtain⟨f,i⟩:=h;by_cases e:p.1=k
  .have d:q.1=k:=f.symm.trans e;have b:valueAt (q::c) k=some q.2:=by simp[valueAt,EV,d]
   rw[O3 e,b];exact i
  .have d:¬q.1=k:=fun z=>e (f.trans z);have b:valueAt (q::c) k=valueAt c k:=by simp[valueAt,EV,d]
   rw[O7 e,b];exact g
theorem KV.any{a:A1 (κ×V)}{vs:A1 (κ×A2)}(r:KV a vs)(k:κ):(a.any fun b=>decide (b.1=k))=vs.any fun b=>decide (b.1=k):=by
 unfold KV at r
 induction r with
 | nil=>rfl
 | cons h t c=>rw[GH,GH,c,h.1]
theorem KV.repl{b:A1 (κ×V)}{vs:A1 (κ×A2)}(r:KV b vs)(k:κ){y:V}{u:A2}(d:RelV y u) :
  KV (b.map fun a=>if a.1=k then(a.1,y)else a) (vs.map fun a=>if a.1=k then(a.1,u)else a):=by
 unfold KV at r⊢
 induction r with
 | nil=>exact .nil
 | @cons p q i j h t f =>
  rw[A_,A_];refine .cons ?_ f;obtain⟨c,g⟩:=h;by_cases e:p.1=k
  .rw[AL e,AL (c.symm.trans e)];exact⟨c,d⟩
  .rw[AJ e,AJ (fun z=>e (c.trans z))];exact⟨c,g⟩
theorem KV.put{a:A1 (κ×V)}{vs:A1 (κ×A2)}(r:KV a vs)(k:κ){y:V}{u:A2}(b:RelV y u):KV (p9 a k y) (stored vs k u):=by
 unfold p9 stored;rw[r.any k];by_cases e:(vs.any fun c=>decide (c.1=k))=true
 .rw[AL e,AL e];exact r.repl k b
 .rw[AJ e,AJ e];exact Paired.snoc r ⟨rfl,b⟩
theorem KV.length{a:A1 (κ×V)}{vs:A1 (κ×A2)}(r:KV a vs):a.length=vs.length:=Paired.length r
end
def Fa{P:A7}{w:HW}{k:IR}{u:A2}(r:RelV (kV k) u):(C7 P w).is k u=true:=by
 cases k with
 | inl i=>obtain⟨t,e⟩:=(show ∃t,u=Value.int i t from r);subst e;exact Io P w i t
 | inr x=>obtain⟨t,e⟩:=(show ∃t,u=Value.str x t from r);subst e;exact Ji P w x t
def Hj{P:A7}{w:HW}:∀{ks:A1 IR} {us:A1 A2},IH (ks.map kV) us->ItemsAre (C7 P w) ks us
 | [],_,r=>by rw[GP]at r;cases r;exact .nil
 | k::ks,_,r=>by
  rw[A_]at r;cases r with
  | cons h t=>exact .cons (Fa h) (Hj t)
abbrev KT(H:Hp):A1 (A1 IR×V)->A1 (A1 IR×A3×A2)->Prop:=Paired fun p q=>p.1=q.1/\H q.2.1=some (.tup (p.1.map kV))/\RelV p.2 q.2.2
def KT.val{H:Hp}{a:A1 (A1 IR×V)}{xs:A1 (A1 IR×A3×A2)}(r:KT H a xs)(k:A1 IR):MP (S6 a k) ((atKey xs k).map (·.2)):=by
 induction r with
 | nil=>exact True.intro
 | @cons p q j c h t g =>
  obtain⟨f,_,i⟩:=h;by_cases e:p.1=k
  .have d:q.1=k:=f.symm.trans e;have b:atKey (q::c) k=some q.2:=by simp[atKey,EV,d]
   rw[O3 e,b];exact i
  .have d:¬q.1=k:=fun z=>e (f.trans z);have b:atKey (q::c) k=atKey c k:=by simp[atKey,EV,d]
   rw[O7 e,b];exact g
def KT.repl{H:Hp}{a:A1 (A1 IR×V)}{xs:A1 (A1 IR×A3×A2)}(r:KT H a xs)(k:A1 IR){y:V}{u:A2}(f:RelV y u) :
  KT H (a.map fun c=>if c.1=k then(c.1,y)else c) (xs.map (putAt k u)):=by
 induction r with
 | nil=>exact .nil
 | @cons p q j l h t g =>
  rw[A_,A_];refine .cons ?_ g;obtain⟨b,d,i⟩:=h;unfold putAt;by_cases e:p.1=k
  .rw[AL e,AL (b.symm.trans e)];exact⟨b,d,f⟩
  .rw[AJ e,AJ (fun z=>e (b.trans z))];exact⟨b,d,i⟩
def KT.put{H:Hp}{a:A1 (A1 IR×V)}{xs:A1 (A1 IR×A3×A2)}(r:KT H a xs)(k:A1 IR){b:A3}{y:V}{u:A2}(d:H b=some (.tup (k.map kV)))(c:RelV y u) :
  KT H (p9 a k y) (storedH xs k b u):=by
 have e:(a.any fun f=>decide (f.1=k)) =(atKey xs k).isSome:=by
  rw[X8,(r.val k).isSome_eq,Option.isSome_map]
 unfold p9 storedH;rw[e];by_cases q:(atKey xs k).isSome=true
 .rw[AL q,AL q];exact r.repl k c
 .rw[AJ q,AJ q];exact Paired.snoc r ⟨rfl,d,c⟩
def KT.keeps{H H':Hp}{a:A1 (A1 IR×V)}{xs:A1 (A1 IR×A3×A2)}(r:KT H a xs)(d:∀b c,H b=some (.tup c)->H' b=some (.tup c)):KT H' a xs :=
 Paired.mapP r fun _ _ z=>⟨z.1,d _ _ z.2.1,z.2.2⟩
section
variable{P:A7}{w:HW}{H:Hp}{h:H_}{a:A3}
theorem zCv{u:HO}(b:MC P w H h)(e:Rd H a u):IK P w H h a u:=e.ok b
theorem Pw{b:A1 (IR×V)}(c:MC P w H h)(e:Rd H a (.dK b)):b.length<=sizeLine/\(a == sysModules)=false/\∃vs,KV b vs/\h.DictOf (C7 P w) a vs :=
 show IK P w H h a (.dK b)from zCv c e
theorem Tm{b:A1 (IR×V)}(c:MC P w H h)(e:H a=some (.dK b)):b.length<=sizeLine/\(a == sysModules)=false/\∃vs,KV b vs/\h.DictOf (C7 P w) a vs:=Pw c (.inl e)
theorem o9{ks:A1 IR}(c:MC P w H h)(e:H a=some (.tup (ks.map kV))):(tupleKind (C7 P w)).is h ks a:=by
 obtain⟨_,b,r,o,d,f,n,g⟩:=(show IK P w H h a (.tup (ks.map kV))from c a _ e);exact⟨o,b.toArray,n,d,f,g,by simpa using Hj r⟩
theorem Oy{b:A1 (A1 IR×V)}(d:MC P w H h)(e:Rd H a (.dT b)):b.length<=sizeLine/\(a == sysModules)=false /\
  ∃xs,KT H b xs/\h.DictOfH (tupleKind (C7 P w)) a xs:=by
 obtain⟨z,y,xs,r,o,g,i,j,k,n,s,u⟩:=(show IK P w H h a (.dT b)from zCv d e);refine⟨z,y,xs,r,o,g,i,j,k,n,s,fun x hx=>?_,u⟩;have c:∀{l:A1 (A1 IR×V)} {m:A1 (A1 IR×A3×A2)},KT H l m->∀x∈m,(tupleKind (C7 P w)).is h x.1 x.2.1:=by
  intro l m q
  induction q with
  | nil=>intro x hx;exact nomatch hx
  | @cons p q A B f t v =>
   intro x hx;rcases AR.mp hx with e | hx
   .subst e;exact o9 d (by rw[<-f.1];exact f.2.1)
   .exact v x hx
 exact c r x hx
theorem zDi{b:A1 (A1 IR×V)}(c:MC P w H h)(e:H a=some (.dT b)):b.length<=sizeLine/\(a == sysModules)=false /\
  ∃xs,KT H b xs/\h.DictOfH (tupleKind (C7 P w)) a xs:=Oy c (.inl e)
end
def NU(H:Hp)(a:A3)(y:V)(r:A5 V):Prop :=
 (∃c k,Rd H a (.dK c)/\y=kV k/\r=S6 c k)\/∃c k b,Rd H a (.dT c)/\y = .ref b/\H b=some (.tup (k.map kV))/\r=S6 c k
def zCy(H:Hp)(a:A3)(y v:V)(H':Hp):Prop :=
 (∃c k,H a=some (.dK c)/\y=kV k/\c.length<sizeLine/\H'=HX H a (.dK (p9 c k v))) \/
 ∃c k b,H a=some (.dT c)/\y = .ref b/\H b=some (.tup (k.map kV))/\c.length<sizeLine/\H'=HX H a (.dT (p9 c k v))
def NU.k{H:Hp}{a:A3}{b:A1 (IR×V)}{k:IR}(e:H a=some (.dK b)):NU H a (kV k) (S6 b k):=.inl ⟨b,k,.inl e,rfl,rfl⟩
section
variable{X:Cx}{pins:A1 (A3×Obj)}{σ:St}{H:Hp}{s:A4}{a:A3}{y v:V}{u r:A2}{o:A5 V}{A:IC}{E:A2->A4->Prop}
theorem Inv.big(I:Inv X pins σ H s):sysModules<s.heap.objs.size:=by
 have h:mainGlobals<s.heap.objs.size:=(I.mod.glob.keeps I.bk).lt;exact Nat.lt_trans (by decide) h
theorem Ta{Q:A2->A4->Prop}(x:A.units+1<cLine)(I:Inv X pins σ H s)(g:NU H a y (some v))(r:RelV y u)(h:∀f t,Inv X pins σ H t->RelV v f->Q f t) :
  wpAny (model X.prog X.w) A (getItem (.ref a) u) Q E s:=by
 rcases g with⟨i,k,e,j,l⟩ | ⟨i,k,b,e,j,B,l⟩
 .subst j;obtain⟨z,C,D,c,m⟩:=Pw I.hok e;obtain⟨f,n,d⟩:=MP.some_of (v:=v) (o:=valueAt D k) (by rw[l];exact c.val k);exact wpAny_getItem_of (Fa r) m.mapOf n (h f _ (I.tok _) d)
 .subst j;cases(show u=Value.ref b from r);obtain⟨z,C,F,c,m⟩:=Oy I.hok e;obtain⟨f,n,d⟩:=MP.some_of (v:=v) (o:=(atKey F k).map (·.2)) (by rw[l];exact c.val k);obtain⟨p,G,q⟩:=BC.mp n;refine wpAny_getItem_heap (tupleKind_room_in1 x) (o9 I.hok B) m G ?_;rw[q];exact h f _ (I.tok _) d
theorem Yy{Q:A2->A4->Prop}(p:A.units+1<cLine)(I:Inv X pins σ H s)(g:NU H a y o)(m:RelV y u)(h:∀n,Inv X pins σ H n->Q (.bool (!o.isSome)) n) :
  wpAny (model X.prog X.w) A (compareOp .NotIn u (.ref a)) Q E s:=by
 rcases g with⟨d,k,e,f,l⟩ | ⟨d,k,b,e,f,r,l⟩
 .subst f;obtain⟨z,i,t,c,j⟩:=Pw I.hok e;refine wpAny_notIn_of (Fa m) i j.mapOf ?_;rw[<-(c.val k).isSome_eq,<-l];exact h _ (I.tok _)
 .subst f;cases(show u=Value.ref b from m);obtain⟨z,i,v,c,j⟩:=Oy I.hok e;refine wpAny_notIn_heap (tupleKind_room_in1 p) (o9 I.hok r) i j ?_;have q:=(c.val k).isSome_eq;rw[Option.isSome_map]at q;rw[<-q,<-l];exact h _ (I.tok _)
theorem Dn{h':H_}{t':Nat}{c:HO}(I:Inv X pins σ H s)(f:TH (H a))(g:Heap.SameBut a s.heap h')(h:∃q,h'.get? a=some q)(d:IK X.prog X.w (HX H a c) h' a c) :
  Inv X pins σ (HX H a c) { s with heap:=h',toks:=t' } :=
 I.write (x:=a) (e:=a) f (.inl rfl) (fun b q i z=>(g.2 b i).trans z) h d
theorem Py{P:A7}{w:HW}{H':Hp}{h':H_}{b:A1 (IR×V)}{vs:A1 (IR×A2)}(z:b.length<=sizeLine)(d:(a == sysModules)=false)(c:KV b vs)(e:h'.DictOf (C7 P w) a vs) :
  IK P w H' h' a (.dK b):=⟨z,d,vs,c,e⟩
theorem Rh{H':Hp}{Q:Unit->A4->Prop}(L:A.units+1<cLine)(I:Inv X pins σ H s)(g:zCy H a y v H')(C:RelV y u)(D:RelV v r)(h:∀F,Inv X pins σ H' F->Q () F) :
  wpAny (model X.prog X.w) A (setItem (.ref a) u r) Q E s:=by
 rcases g with⟨d,k,e,m,l,n⟩ | ⟨d,k,b,e,m,G,l,n⟩
 .subst m n;obtain⟨z,o,M,f,p⟩:=Tm I.hok e;have t:M.length<=sizeLine:=by rw[<-f.length];exact z
  have x:(p9 d k v).length<=sizeLine:=by have:=Q6 d k v;omega
  refine wpAny_setItem_pairs (hsz:=t) (Fa C) p fun J i B=>h _ ?_;have N:∃q,J.get? a=some q:=let⟨q,_,_,j,_⟩:=i;⟨q,j⟩;exact Dn I (by rw[e];exact True.intro) B N (Py x o (f.put k D) i)
 .subst m n;cases(show u=Value.ref b from C);obtain⟨z,o,O,f,p⟩:=zDi I.hok e;have t:O.length<=sizeLine:=by rw[<-Paired.length f];exact z
  have x:(p9 d k v).length<=sizeLine:=by have:=Q6 d k v;omega
  refine wpAny_setItem_heap (hsz:=t) (tupleKind_room_in1 L) (o9 I.hok G) p fun J i B=>h _ ?_;obtain⟨q,P,R,j,S,T,U,_,V⟩:=i;refine Dn I (by rw[e];exact True.intro) B ⟨q,j⟩ ⟨x,o,_,(f.put k G D).keeps fun c W K=>?_,q,P,R,j,S,T,U,V⟩;rw[B6 (P2 K e (fun z=>nomatch z))];exact K
end
def zFm(i:IB):Prop:=∀a b,subscripted i false a b=operate [a,b] (getItem a b)
def Ys{prog:A7}{w:HW}{A:IC}{E:A2->A4->Prop}{s:A4}{c:P_}{b a:IB}{pos:Pos}{T id:String}{Q:A2->A4->Prop}
  (f:typeLookup (.type T) "__getitem__" = pure (some (.builtin id))) (g:zFm a)
  (h:wpAny (model prog w) A (eval b c) (fun o s₁=>wpAny (model prog w) A (eval a c) (fun i s₂=>s₂.TypeIs o T/\wpAny (model prog w) A (getItem o i) Q E s₂) E s₁) E s) :
  wpAny (model prog w) A (eval (.Subscript b a pos) c) Q E s:=by
 refine Subscript_ (CB h (fun o s₁ h₁=>CB h₁ (fun i s₂ h₂=>?_) fun _ _ x=>x) fun _ _ x=>x);obtain⟨e,h₂⟩:=h₂;unfold subscriptTail;refine AA ?_;rw[getitemInPython_of_ne e.not_modules];refine AA (HB e f ?_);have d:wpAny (model prog w) A (subscripted a false o i) (fun r s₃=>wpAny (model prog w) A (letTemporaryGo b o r >>= fun _=>pure r) Q E s₃) E s₂:=by
  rw[g o i];exact wpAny_operating (CB h₂ (fun r s₃ h₃=>AA (wpAny_letTemporaryGo (AG h₃))) fun _ _ x=>x)
 first
  | exact AG (AA d)
  | exact AA (AG (AA d))
  | exact AA d
def Ju{X:Cx}{c:A1 (A3×Obj)}{σ:St}{H:Hp}{s:A4}{a:A3}{y:V}{o:A5 V}(I:Inv X c σ H s)(g:NU H a y o):s.TypeIs (.ref a) "dict":=by
 rcases g with⟨d,k,e,_,_⟩ | ⟨d,k,b,e,_,_,_⟩
 .obtain⟨_,_,h,_,f⟩:=Pw I.hok e;exact f.typeIs
 .obtain⟨_,_,i,_,f⟩:=Oy I.hok e;exact f.typeIs
def Um(c ty:TE):TE:=fun σ H Q=>c σ H fun x d=>ty σ d fun y b=>∃a v,x = .ref a/\NU b a y (some v)/\Q v b
def Yv(ty c:TE):TE:=fun σ H Q=>ty σ H fun y d=>c σ d fun x b=>∃a o,x = .ref a/\NU b a y o/\Q (.bl (!o.isSome)) b
def zEr(c ty d:TE):TS:=fun D σ H=>d σ H fun v e=>c σ e fun x f=>ty σ f fun y g=>∃a b,x = .ref a/\zCy g a y v b/\D.nx σ b
section
variable{X:Cx}{o i e value:IB}{pos pos' tpos:Pos}{td ty tv:TE}
theorem K7(e:X.A.units+1<cLine)(f:PE X o td)(hi:PE X i ty)(j:zFm i):PE X (.Subscript o i pos) (Um td ty):=by
 intro b s σ H Q I h;refine Ys PySem.F.slot_dict_getitem.lookup j (IT (f b s σ H _ I h) fun u k ⟨x,l,m,n,p⟩=>IT (hi b k σ l _ m p) fun B C ⟨y,q,d,r,a,v,t,g,w⟩=>?_);subst t;obtain rfl:u=Value.ref a:=n;exact⟨Ju d g,Ta e d g r fun D E z c=>⟨v,q,z,c,w⟩⟩
theorem Rc(c:X.A.units+1<cLine)(hi:PE X i ty)(d:PE X o td):PC X .NotIn i o (Yv ty td):=by
 intro b s σ H Q I h;refine IT (hi b s σ H _ I h) fun w e ⟨y,f,j,k,l⟩=>IT (d b e σ f _ j l) fun u z ⟨x,m,n,p,a,q,r,g,t⟩=>?_;subst r;obtain rfl:u=Value.ref a:=p;exact Yy c n g k fun B v=>⟨.bl (!q.isSome),m,v,rfl,t⟩
theorem Qe(c:X.A.units+1<cLine)(d:PE X o td)(hi:PE X i ty)(e:PE X value tv)(f:swapsWith value (some (.Subscript o i pos')) pos.line X.env=pure false) :
  PS X (.Assign [.Subscript o i pos'] value pos) (zEr td ty tv):=by
 intro b s σ H D I h;refine wpAny_Assign_Subscript (IT (e b s σ H _ I h) fun r j ⟨v,k,l,m,n⟩=>IT (d b j σ k _ l n) fun u p ⟨x,q,t,w,z⟩=>IT (hi b p σ q _ t z) fun K L ⟨y,M,B,C,a,E,F,g,G⟩=>?_) f;subst F;obtain rfl:u=Value.ref a:=w;exact Rh c B g C m fun N J=>⟨σ,E,J,G⟩
end
def Dp{P:A7}{w:HW}{H:Hp}(h:H_)(a:sysModules<h.objs.size):IK P w H (h.push { cls:=.type "dict",data:=.dict #[] }) h.objs.size (.dK []) :=
 ⟨CI _,beq_eq_false_iff_ne.mpr (Ne.symm (AX a)),[],.nil,Heap.DictOf.new h⟩
def Zt:TE:=fun _ H Q=>∀p,H p=none->Q (.ref p) (HX H p (.dK []))
section
variable{X:Cx}{pos:Pos}
theorem Tw:PE X (.Dict [] [] pos) Zt:=fun b s σ H Q I h =>
 wpAny_Dict_empty ⟨.ref s.heap.objs.size,_,I.laid (a:=s.heap.objs.size) (o:=.dK []) (t':=s.toks) (fun _ _ q=>AD _ q) (Nat.le_refl _) (Dp s.heap I.big),rfl,h _ (I.hok.fresh (Nat.le_refl _))⟩
end
def Pj:A1 (TE×TE)->St->Hp->(A1 (V×V)->Hp->Prop)->Prop
 | [],_,H,Q=>Q [] H
 | (a,b)::r,σ,H,Q=>a σ H fun x c=>b σ c fun y d=>Pj r σ d fun e f=>Q ((x,y)::e) f
abbrev VV:A1 (V×V)->A1 (A2×A2)->Prop:=Paired fun p q=>RelV p.1 q.1/\RelV p.2 q.2
def PPs(X:Cx)(pos:Pos)(c:A1 (A5 IB))(a:A1 IB)(d:A1 (TE×TE)):Prop :=
 ∀(b:A1 (A3×Obj)) (s:A4) (σ:St) (H:Hp) (Q:A1 (V×V)->Hp->Prop),Inv X b σ H s->Pj d σ H Q ->
  wpAny (model X.prog X.w) X.A (evalPairs (pairTrees c a X.env pos)) (fun g h=>∃e f,Inv X b σ f h/\VV e g/\Q e f) X.xe s
def Xn{X:Cx}{pos:Pos}:PPs X pos [] [] []:=fun a s σ H Q I h=>pairTrees_nil_walk ⟨[],H,I,.nil,h⟩
def y9{X:Cx}{pos:Pos}{k v:IB}{ks:A1 (A5 IB)}{vs:A1 IB}{d e:TE}{b:A1 (TE×TE)}(f:PE X k d)(g:PE X v e)(i:PPs X pos ks vs b) :
  PPs X pos (some k::ks) (v::vs) ((d,e)::b):=fun a s σ H Q I h =>
 pairTrees_cons_walk (IT (f a s σ H _ I h) fun u j ⟨x,l,m,n,o⟩=>IT (g a j σ l _ m o) fun D p ⟨y,q,r,t,w⟩ =>
  IT (i a p σ q _ r w) fun E F ⟨z,A,B,c,C⟩=>⟨(x,y)::z,A,B,.cons ⟨n,t⟩ c,C⟩)
def T0(a more:A1 (IR×V)):A1 (IR×V):=more.foldl (fun b c=>p9 b c.1 c.2) a
def KV.merge:∀{more:A1 (IR×V)} {b:A1 (IR×A2)} {a:A1 (IR×V)} {vs:A1 (IR×A2)},KV more b->KV a vs->KV (T0 a more) (merged vs b):=by
 intro more b a vs r;unfold KV at r
 induction r generalizing a vs with
 | nil=>intro q;exact q
 | @cons p q f g h t c =>
  intro d;have e:KV (p9 a p.1 p.2) (stored vs q.1 q.2):=by
   have:=d.put p.1 h.2;rw[<-h.1];exact this
  exact c e
def Y6:∀(more a:A1 (IR×V)),(T0 a more).length<=a.length+more.length
 | [],a=>by show a.length<=a.length+0;omega
 | p::r,a=>by
  have b:=Y6 r (p9 a p.1 p.2);have c:=Q6 a p.1 p.2;show(T0 (p9 a p.1 p.2) r).length<=_;rw[BJ];omega
def Cu{P:A7}{w:HW}:∀{d:A1 (IR×V)} {f:A1 (A2×A2)},VV (d.map fun g=>(kV g.1,g.2)) f->∃e,Carries (C7 P w) f e/\KV d e
 | [],_,r=>by rw[GP]at r;cases r;exact⟨[],True.intro,.nil⟩
 | p::d,_,r=>by
  rw[A_]at r;cases r with
  | @cons a b j k h t =>
   obtain⟨e,c,q⟩:=Cu (P:=P) (w:=w) t;obtain⟨l,i⟩:=b;exact⟨(p.1,i)::e,⟨Fa h.1,rfl,c⟩,.cons ⟨rfl,h.2⟩ q⟩
def zDs(b:A1 (TE×TE)):TE:=fun σ H Q=>∀p,H p=none->Pj b σ (HX H p (.dK [])) fun e c=>c p=some (.dK [])/\∃a:A1 (IR×V),e=a.map (fun d=>(kV d.1,d.2))/\a.length<=15/\Q (.ref p) (HX c p (.dK (T0 [] a)))
def Yr{X:Cx}{pos:Pos}{b:A1 (A5 IB)}{d:A1 IB}{f:A1 (TE×TE)}(h:PPs X pos b d f)(g:b.all (·.isSome)=true)(p:b.length=d.length)(r:b≠[])
  (l:b.length<=15):PE X (.Dict b d pos) (zDs f):=by
 intro i s σ H Q I q;have t:=I.hok.fresh (Nat.le_refl s.heap.objs.size);have u:=I.laid (a:=s.heap.objs.size) (o:=.dK []) (h':=s.heap.push { cls:=.type "dict",data:=.dict #[] }) (t':=s.toks) (fun _ _ q=>AD _ q) (Nat.le_refl _) (Dp s.heap I.big);refine wpAny_Dict_walk (knd:=C7 X.prog X.w) g p r l (IT (h i _ σ _ _ u (q _ t)) fun M N ⟨O,R,n,m,e,j,v,lk,x⟩=>?_);subst v;obtain⟨y,c,A⟩:=Cu (P:=X.prog) (w:=X.w) m;obtain⟨z,B,C,D,E⟩:=Tm n.hok e;cases D;refine⟨y,c,E,fun h' k F=>⟨.ref s.heap.objs.size,_,?_,rfl,x⟩⟩;have G:(T0 [] j).length<=sizeLine:=by
  have J:=Y6 j [];rw[GD]at J;rw[sizeLine_eq];omega
 have K:∃q,h'.get? s.heap.objs.size=some q:=let⟨q,_,_,L,_⟩:=k;⟨q,L⟩;exact Dn n (by rw[e];exact True.intro) F K (Py G B (A.merge .nil) k)
def IsD(H:Hp)(a:A3):Prop:=(∃b,Rd H a (.dK b))\/∃b,Rd H a (.dT b)
def zAn{X:Cx}{f:A1 (A3×Obj)}{σ:St}{H:Hp}{s:A4}{a:A3}(I:Inv X f σ H s)(d:IsD H a) :
  s.TypeIs (.ref a) "dict"/\(∀b,Value.ref a = .ref b->∃c,s.heap.get? b=some c/\c.dict=none)/\(a == sysModules)=false:=by
 rcases d with⟨h,e⟩ | ⟨h,e⟩
 .obtain⟨_,i,l,_,g⟩:=Pw I.hok e;refine⟨g.typeIs,fun b q=>?_,i⟩;cases q;obtain⟨c,_,_,j,k,_⟩:=g;exact⟨c,j,k.2.1⟩
 .obtain⟨_,i,m,_,g⟩:=Oy I.hok e;refine⟨g.typeIs,fun b q=>?_,i⟩;cases q;obtain⟨c,_,_,j,k,_⟩:=g;exact⟨c,j,k.2.1⟩
end L2
namespace Att
open PySem PySem.W PySem.Calls PyProof.Rows
def Aj{P:Params}{h:H_}:∀(ns:A1 Int) (vs:A1 A2),WellAll P h vs (ns.map WData.int)->IntsAre vs ns:=by
 intro ns
 induction ns with
 | nil =>
  intro vs w;rw[GP]at w;cases w;exact .nil
 | cons n ns c =>
  intro vs w;rw[A_]at w;cases w with
  | cons a b =>
   cases a;exact .cons _ _ (c _ b)
def Pm{l:OpenLaw}{n:Nat}(o:l.most=some n){P:Params}{h:H_}{args:A1 WData}{b:A1 A2}
  (c:l.row.toRowW.claim.pre args=true) (j:WellAll P h b args) :
  ∃a vs ns,b = [Value.ref a]/\args = [WData.list (ns.map WData.int)]/\h.get? a=some { cls:=.type "list",data:=.seq vs.toArray }/\IntsAre vs ns/\ns.length<=n:=by
 have k:WShape.hasAll [] args [.list .int]=true:=(pre_splitW c).1;have m:l.pre.holds [] { args:=args }=true:=(pre_splitW c).2;obtain⟨d,r,rfl,p,s⟩:=hasAllW_cons k;obtain rfl:=hasAllW_nil s;obtain⟨y,rfl,t⟩:=hasW_list p;obtain⟨ns,rfl⟩:=items_int t;have e:ns.length<=n:=by
  unfold OpenLaw.pre at m;have g:(WTm.not (.lt (.lit (.int (n:Int))) (.len (.arg 0)))).holds [] { args:=[.list (ns.map .int)] }=true:=by
   have g:=(holds_andW m).1;rw[o]at g;exact g
  have i:=condW_of g (w_not (w_lt w_lit (w_len_list (w_arg rfl))));rw[AB]at i;refine Nat.le_of_not_lt fun q=>?_;have u:(n:Int) <((ns.length:Nat):Int):=by omega
  first
   | (rw[BB u]at i;exact absurd i (by decide))
   | (simp at i;omega)
 cases j with
 | cons v w =>
  cases w;cases v with
  | list x f=>exact⟨_,_,ns,rfl,rfl,x,Aj ns _ f,e⟩
def Pr(l:OpenLaw)(args:A1 WData):l.row.toRowW.claim.post args (.bool true) args=true :=
 postW_of (r:=l.row.toRowW) (X:=(true == true))
  (show WShape.has [] (.bool true) .bool=true by first | rfl | decide | simp[WShape.has,WShape.arms,WShape.armsAll])
  (show(WTm.eq .res (.lit (.bool true))).value [] { args:=args,res:=some (.bool true),after:=args }=some (.bool (true == true))from w_eq_bool (w_res rfl) w_lit) rfl
def PQ{l:OpenLaw}{n:Nat}{q:A7}{b:A1 Str}{z:(Str->A5 A2)->H_->Prop}{A:HW->H_->Prop}{d:DefRec}
  (E:l.most=some n) (p:d.params.defaults = [])
  (call:∀(w:HW) (s₀ s₁:A4) (mg t:Str->A5 A2) (g:A3) (o:Obj) (u k c:A2) (a:A3) (vs:A1 A2) (ns:A1 Int),
   Ground q b [] z w s₀ mg t s₁.heap->A w s₁.heap ->
   s₁.heap.get? g=some o->o.data = .func (docDef d.name d.params d.body d.scope u k c)->s₁.heap.CodeRec k d.name->mg d.name=some (.ref g) ->
   s₁.heap.get? a=some { cls:=.type "list",data:=.seq vs.toArray }->IntsAre vs ns->ns.length<=n->s₁.gens = #[] ->
   codeAny (model l.prog w) callerA (.call (.ref g) ⟨[.ref a],[]⟩) (fun r m=>r = .ok (.ret (.bool true))/\OldK s₁.heap m.heap/\m.os=s₁.os/\AllBare m.gens) s₁) :
  WalkO q b z A l.row.toRowW d [] (fun f vs=>PySem.call f vs):=by
 intro w s₀ s₁ mg t G Y g o u k c F kV H I v B x J args C R h D K y L;obtain rfl:F = .none:=Dflts.none B p;obtain rfl:kV = .none:=Dflts.noKw B;obtain⟨a,vs,ns,rfl,rfl,i,e,j⟩:=Pm E h y;refine enter_call (codeAny_mono (call w s₀ s₁ mg t g o u k c a vs ns G Y H (fd_plain I) v x i e j J) fun r m M=>?_);obtain⟨rfl,N,O,P⟩:=M;exact⟨.inl ⟨.bool true,.bool true,[],rfl,fun _=>rfl,.bool true,Pr l _,fun _=>⟨List.Pairwise.nil,fun _ Q=>(nomatch Q)⟩⟩,N,O,P⟩
end Att
namespace L2
open PySem PySem.Spec PyProof.Rows
def Fy:∀{vs:A1 A2} {ns:A1 Int},IntsAre vs ns->IH (ns.map V.int) vs
 | _,_,.nil=>.nil
 | _,_,.cons n t h=>.cons ⟨t,rfl⟩ (Fy h)
def N8(s:IL)(j:Nat):IL:=match s with
 | .ClassDef _ _ _ a _ _ _ _ _ _ _=>a.getD j (.Pass ⟨0,0,0,0⟩)
 | _=>.Pass ⟨0,0,0,0⟩
def R4(s:IL):Arguments:=match s with
 | .FunctionDef _ a _ _ _ _ _ _ _ _=>a
 | _=>{ posonlyargs:=[],args:=[],vararg:=none,kwonlyargs:=[],kw_defaults:=[],kwarg:=none,defaults:=[] }
def O0(s:IL):A1 IL:=match s with
 | .FunctionDef _ _ b _ _ _ _ _ _ _=>b
 | _=>[]
def B7(s:IL):JB:=match s with
 | .FunctionDef _ _ _ _ _ _ a _ _ _=>a
 | _=>{ kind:=.function,names:=[],isGenerator:=false,isCoroutine:=false }
abbrev IW:RE:=fun _ _ _ _ _ _=>False
abbrev E0:XK:=fun _ _ _=>False
def M0{X:Cx}:n8 IW X E0:=fun _ _ _ _ _ _ _ h=>h.elim
structure PM(K:PySem.W.Frag)(x qual:Str)(st:IL)(f:A3)(fd:IP):Prop where
 ex:∃(oc:A2) (od:A5 A3) (kV doc pm:A2) (an:A5 A3) (cdv ct:A2) (osl:F1 (A5 A2)),
  fd=PySem.W.fnOf x qual (R4 st) (O0 st) (B7 st) .none kV doc pm an cdv ct/\K.lookup f=some ⟨oc,od,.func fd,osl⟩/\PySem.W.codeIn K cdv qual=true
 kp:PySem.W.keepIn K (.ref f)=true
section
variable{P:A7}{w:HW}{K:PySem.W.Frag}{mg:Str->A5 A2}{base:H_}
theorem PM.ok{x b:Str}{st:IL}{f:A3}{l:IP}{N e:A1 Str}{k:Nat}{sp:Sp}(F:PM K x b st f l)(S:HY N e (B7 st))(g:∀vs H Q E,sp vs H Q E->vs.length=e.length)
  (d:∀(c:A2) (A:IC) (a:A1 P_) (s:A4) (H:Hp) (vs:A1 V) (Q:VK) (E:XK),JD k (A.deeper (envOfC b (B7 st) s.heap.objs.size f c))->sp vs H Q E ->
   ∃t,P7 (Va IW P w K mg base N b (B7 st) f c A a s H E).nox (O0 st) t/\t { nx:=fun _ H'=>Q .non H',rt:=Q } (Aw N vs) H):IG P w K mg base IW (k+1) f l e sp:=by
 obtain⟨p,r,kV,m,u,v,c,y,n,rfl,lk,i⟩:=F.ex;refine Zy lk i S g fun A a s H vs Q E o j=>?_;obtain⟨t,h,q⟩:=d c A a s H vs Q E o j;exact⟨t,h.nox,q⟩
theorem PM.binds{x a:Str}{st:IL}{f:A3}{i:IP}{d:A1 Str}(F:PM K x a st f i)
  (h:∀(kV b e:A2) (g:A5 A3) (c ct:A2) (us:A1 A2),us.length=d.length->bindArgs (PySem.W.fnOf x a (R4 st) (O0 st) (B7 st) .none kV b e g c ct) ⟨us,[]⟩=pure (d.zip us)):Binds K i d []:=by
 obtain⟨l,m,kV,b,e,g,c,ct,j,rfl,lk,k⟩:=F.ex;exact .all (h kV b e g c ct)
theorem LT{x a:Str}{st:IL}{f:A3}{i:A2}{j g:A5 A3}{e:F1 (A5 A2)}{kV d h b ct:A2}(l:K.lookup f=some ⟨i,j,.func (PySem.W.fnOf x a (R4 st) (O0 st) (B7 st) .none kV d h g b ct),e⟩)
  (c:PySem.W.codeIn K b a=true) (k:PySem.W.keepIn K (.ref f)=true):PM K x a st f (PySem.W.fnOf x a (R4 st) (O0 st) (B7 st) .none kV d h g b ct):=⟨⟨i,j,kV,d,h,g,b,ct,e,rfl,l,c⟩,k⟩
end
def X5{A:IC}{k:Nat}(a:JD k A):A.units+1<cLine:=Nat.lt_of_le_of_lt (FU (by decide:1<=64) _) a.units
section
variable{X:Cx}
theorem pv(i:Nat){x:Str}{pos:Pos}(b:X.N[i]?=some x:=by rfl)(c:S_ X.env.scope x:=by first | exact Or.inl rfl | exact Or.inr (Or.inl rfl) | exact Or.inr (Or.inr rfl))(d:(x ==("__debug__":Str))=false:=by decide)
  (a:(x ==("__classdict__":Str))=false:=by decide):PE X (.Name x pos) (Vd i):=Wo b c d a
end
def X1{A B:Prop}(h:B):if false=true then A else B:=by
 rw[AJ AZ];exact h
def Te{A B:Prop}(h:A):if true=true then A else B:=by
 rw[AL rfl];exact h
def T7{c A B:Prop}[Decidable c](h1:c->A)(h2:¬c->B):if c then A else B:=by
 by_cases h:c
 .rw[AL h];exact h1 h
 .rw[AJ h];exact h2 h
def F8(H H':Hp):Prop:=∀b o,H b=some o->H' b=some o
def F8.refl(H:Hp):F8 H H:=fun _ _ h=>h
def F8.trans{H d e:Hp}(a:F8 H d)(b:F8 d e):F8 H e:=fun c o h=>b c o (a c o h)
def F8.free{H H':Hp}(e:F8 H H'){l:A3}(h:H' l=Option.none):H l=Option.none:=by
 cases q:H l with
 | none=>rfl
 | some o =>
  rw[e l o q]at h;cases h
def MN(X:Cx)(a:JB)(cl:A1 (Str×A3))(N':A1 Str)(b:A1 (A3×Obj))(ex:A1 A3)(c:A4)(d:Hp):Cx where
 prog:=X.prog
 w:=X.w
 K:=X.K
 mg:=X.mg
 base:=X.base
 A:=X.A
 N:=N'
 s₀:=c
 H₀:=d
 env:=compEnvC a cl c.heap.objs.size X.env
 outer:=X.stack
 stack:=X.stack
 ex:=ex
 fn:=fun _=>false
 calm:=X.calm
 pn:=X.pn++b
 xe:=fun _ _=>False
def OI(X:Cx)(a:JB)(cl:A1 (Str×A3)):A1 Str->A1 (A5 Nat)->Prop
 | [],[]=>True
 | _::N,none::c=>OI X a cl N c
 | x::N,some j::c=>(X.N[j]?=some x/\X.env.scope.names.lookup x=some .cell/\(relabel a X.env).names.lookup x=some .cell/\cl.lookup x=X.env.cells.lookup x)/\OI X a cl N c
 | _,_=>False
def QN(X:Cx):A1 (Str×A3)->Prop
 | []=>True
 | p::r=>X.env.cells.lookup p.1=some p.2/\QN X r
structure NA(X:Cx)(scope:JB)(cl:A1 (Str×A3))(N':A1 Str)(cap:A1 (A5 Nat)):Prop where
 kind:scope.kind = .function
 nocell:∀y∈scope.names,y.2≠ .cell
 loc:∀y∈scope.names,y.2 = .local->scope.names.lookup y.1=some .local
 clos:closureFor scope X.env=pure cl
 cin:QN X cl
 has:((relabel scope X.env).names.all fun y=>!(y.2 == .cell||y.2 == .free)||(cl.lookup y.1).isSome)=true
 caps:OI X scope cl N' cap
def Wl(cap:A1 (A5 Nat))(σ:St):St:=cap.map fun o=>o.bind fun j=>(σ[j]?).join
def QN.get{X:Cx}:∀{cl:A1 (Str×A3)} {x:Str} {c:A3},QN X cl->cl.lookup x=some c->X.env.cells.lookup x=some c
 | [],_,_,_,h=>by simp at h
 | (y,d)::r,x,c,⟨a,b⟩,h=>by
  rw[HP]at h;cases e:x == y with
  | true =>
   rw[e]at h;cases h;rw[beq_iff_eq.mp e];exact a
  | false =>
   rw[e]at h;exact QN.get b h
def OI.len{X:Cx}{a:JB}{cl:A1 (Str×A3)}:∀{N:A1 Str} {cap:A1 (A5 Nat)},OI X a cl N cap->cap.length=N.length
 | [],[],_=>rfl
 | _::N,none::c,h=>by rw[BJ,BJ,OI.len (N:=N) (cap:=c) h]
 | _::N,some j::c,h=>by rw[BJ,BJ,OI.len h.2]
 | [],_::_,h=>h.elim
 | _::_,[],h=>h.elim
def OI.get{X:Cx}{a:JB}{cl:A1 (Str×A3)}{j:Nat}{x:Str}:∀{N:A1 Str} {cap:A1 (A5 Nat)} {i:Nat},OI X a cl N cap->N[i]?=some x->cap[i]?=some (some j) ->
  X.N[j]?=some x/\X.env.scope.names.lookup x=some .cell/\(relabel a X.env).names.lookup x=some .cell/\cl.lookup x=X.env.cells.lookup x
 | [],_,_,_,h,_=>by simp at h
 | _::_,[],_,_,_,h=>by simp at h
 | y::N,none::c,0,_,_,h=>by simp at h
 | y::N,none::c,i+1,h,b,d=>OI.get (N:=N) (cap:=c) (i:=i) h (by simpa using b) (by simpa using d)
 | y::N,some k::c,0,h,b,d=>by
  simp at b d;subst b;subst d;exact h.1
 | y::N,some k::c,i+1,h,b,d=>OI.get (N:=N) (cap:=c) (i:=i) h.2 (by simpa using b) (by simpa using d)
section
variable{X:Cx}{scope:JB}{cl:A1 (Str×A3)}{N':A1 Str}{cap:A1 (A5 Nat)}{pins:A1 (A3×Obj)}{σ:St}{H3:Hp}{s3:A4}{ex:A1 A3}
theorem Ck{p:JT->Bool}:∀{names:A1 (Str×JT)} {q:Str->JT->Bool} {x:Str} {k:JT},(names.all fun y=>q y.1 y.2)=true->names.lookup x=some k->q x k=true
 | [],_,_,_,_,h=>by simp at h
 | (y,d)::r,q,x,k,a,h=>by
  rw[List.all_cons,BH]at a;rw[HP]at h;cases e:x == y with
  | true =>
   rw[e]at h;cases h;rw[beq_iff_eq.mp e];exact a.1
  | false =>
   rw[e]at h;exact Ck (p:=p) (names:=r) (q:=q) a.2 h
theorem Inv.block(I:Inv X pins σ H3 s3)(S:NA X scope cl N' cap)(hc:X.calm=true)(t:∀b∈ex,Es X pins H3 b/\∃o,s3.heap.get? b=some o){h1:H_}{T:Nat}
  (G:h1.Ns s3.heap.objs.size (fun _=>none)) (B:∀b o,s3.heap.get? b=some o->h1.get? b=some o) :
  Inv (MN X scope cl N' pins ex s3 H3) [] (Wl cap σ) H3 { s3 with heap:=h1,toks:=T }:=by
 have C:∀b o,s3.heap.get? b=some o->b≠s3.heap.objs.size:=fun b o e=>AX (AI e);have w:∀x c,cl.lookup x=some c->∃v,s3.heap.IsCell c v:=fun x c e=>I.cell x c (S.cin.get e);have A:H3 s3.heap.objs.size=none:=I.hok.fresh (Nat.le_refl _);refine⟨⟨I.ok.mod,?_,I.ok.glob,I.ok.blt,Nat.le_refl _,fun x y c H g=>I.ok.inj x y c (S.cin.get H) (S.cin.get g),fun x U=>?_,fun x c h _=>absurd h AZ,I.ok.hd,I.ok.frames,.inl rfl,fun b D=>?_,I.bs,Nat.le_trans I.ok.bsz I.sz,fun b o e D=>?_,fun b D=>?_,I.stack,I.stkFree⟩,
  rfl,I.bare,Un.kept B,⟨_,G,fun i x v H g e3=>?_⟩,fun x c e=>?_,A,fun x c e=>I.freeC x c (S.cin.get e),fun p V=>?_,I.hok.kept B,?_⟩
 .exact S.kind
 .have q:∀k,(relabel scope X.env).names.lookup x=some k->(!(k == .cell||k == .free)||(cl.lookup x).isSome)=true:=fun k e=>Ck (p:=fun _=>true) (q:=fun a k=>!(k == .cell||k == .free)||(cl.lookup a).isSome) S.has e;have J:(relabel scope X.env).names.lookup x=some .cell\/(relabel scope X.env).names.lookup x=some .free:=U;have:(cl.lookup x).isSome=true:=by
   rcases J with e | e
   .exact q _ e
   .exact q _ e
  exact EK.mp this
 .obtain⟨⟨_,_,_,_,W,_⟩,o,e⟩:=t b D;exact⟨C b o e,fun x c E=>W x c (S.cin.get E)⟩
 .obtain⟨⟨f0,P,Q,f3,_⟩,_⟩:=t b D;rcases f3 with f3 | f3
  .exact I.ok.noex b o e f3
  .have:=(I.ok.bs b o e).1;exact absurd (BG (AI this) f3) (DP _)
 .intro K;obtain⟨⟨_,P,Q,_⟩,_⟩:=t b D;rcases AR.mp (I.stkSub b K)with z | z
  .exact P z
  .exact Q z
 .unfold Wl at g;rw[AH]at g;cases E:cap[i]? with
  | none=>rw[E]at g;cases g
  | some o =>
   rw[E]at g;cases o with
   | none=>cases g
   | some j =>
    have f:(σ[j]?).join=some v:=BE g;obtain⟨Y,R,Z,c4⟩:=S.caps.get H E;have F:σ[j]?=some (some v):=by
     cases F:σ[j]? with
     | none=>rw[F]at f;cases f
     | some z=>rw[F]at f;cases z with
      | none=>cases f
      | some z=>cases f;rfl
    obtain⟨m,hn,hl⟩:=I.loc;obtain⟨u,r,l⟩:=hl j x v Y F (.inr (.inl R));refine⟨u,r,?_⟩;rcases l with⟨k,_⟩ | ⟨_,c,L,s⟩
    .have:X.env.scope.names.lookup x=some .local:=k;rw[R]at this;cases this
    .exact .inr ⟨.inl Z,c,c4.trans L,let⟨o,M,N⟩:=s;⟨o,B _ _ M,N⟩⟩
 .obtain⟨v,o,M,N⟩:=w x c e;exact⟨v,o,B _ _ M,N⟩
 .have O:p∈X.pn++pins:=by simpa [MN] using V
  obtain⟨e,n,ne,nf,d⟩:=I.pin p O;refine⟨B _ _ e,n,C _ _ e,fun K=>?_,d⟩;rcases AR.mp (I.stkSub p.1 K)with z | z
  .exact ne z
  .exact nf z
 .unfold Wl;rw[AB];exact S.caps.len
theorem Inv.unblock{σ':St}{H':Hp}{s':A4}{h':H_}(I:Inv X pins σ H3 s3)(g:∀b∈ex,Es X pins H3 b)(J:Inv (MN X scope cl N' pins ex s3 H3) [] σ' H' s')(f:Heap.SameBut s3.heap.objs.size s'.heap h') :
  Inv X pins σ H' { s' with heap:=h' }:=by
 have d:H' s3.heap.objs.size=none:=J.free;refine I.call' (ch:=ex) J.os ⟨fun b o e n h a=>?_,fun b o e n h a=>?_,fun b o e n a=>?_,fun b o e a=>?_,J.base.tups,J.base.frzs,J.base.tbls⟩ (fun b j e=>?_) J.bare fun b i=>?_
 .exact(f.2 b (AX (AI e))).trans (J.base.keep b o e n h a)
 .obtain⟨k,q⟩:=J.base.slot b o e n h a;exact⟨k,(f.2 b (AX (AI e))).trans q⟩
 .exact J.base.free b o e n a
 .obtain⟨l,q⟩:=J.base.there b o e a;exact⟨l,(f.2 b (AX (AI e))).trans q⟩
 .refine(J.hok b j e).stay (fun c u m q=>(f.2 c ?_).trans q) (fun _ q=>q) fun _ _ q=>q;rintro rfl;rcases m with z | z
  .rw[<-z,d]at e;cases e
  .rw[d]at z;cases z
 .obtain⟨_,p,_,r,s,t⟩:=g b i;exact⟨r,p,s,t⟩
end
def Lg(e:IB)(d:Nat)(iter tg:IB)(ifs:A1 IB)(b:Sem Fin->Sem Fin)(g f:A2)(a:P_):Sem Fin:=do
 standAt iter.pos
 match <-pyNext g with
 | none=>pure (.done .next)
 | some v =>
  letOwnedTupleGo tg g v
  assign tg a v
  let mut h:=true
  for c in ifs do
   if h then h <-isTrue c a (eval c a)
  if h then b (again (.compLoop e d g f a))else again (.compLoop e d g f a)
def emL(a:IB)(b:A2)(c:P_)(k:Sem Fin):Sem Fin:=(do let _ <-call (.builtin "list.append") [b,<-eval a c]:Sem Unit) >>= fun _=>k
def emD(a b:IB)(D:A3)(c:P_)(k:Sem Fin):Sem Fin:=(do
   let d <-eval a c
   let e <-holding [d] (eval b c)
   standAt { a.pos with endLine:=b.pos.endLine,endCol:=b.pos.endCol }
   holding [d,e] (dictSet D d e):Sem Unit) >>= fun _=>k
def Dc(b tg iter:IB)(ifs:A1 IB)(a:JB)(pos:Pos)(e c:A2)(d:P_) :
  compTurn (.ListComp b [⟨tg,iter,ifs,0⟩] a pos) 0 e c d=Lg (.ListComp b [⟨tg,iter,ifs,0⟩] a pos) 0 iter tg ifs (emL b c d) e c d:=rfl
def Mn(k v tg iter:IB)(ifs:A1 IB)(a:JB)(pos:Pos)(c:A2)(D:A3)(b:P_) :
  compTurn (.DictComp k v [⟨tg,iter,ifs,0⟩] a pos) 0 c (.ref D) b=Lg (.DictComp k v [⟨tg,iter,ifs,0⟩] a pos) 0 iter tg ifs (emD k v D b) c (.ref D) b:=rfl
abbrev RC:=St->Hp->(St->Hp->Prop)->Prop
def PEm(X:Cx)(b:Sem Fin->Sem Fin)(t:RC):Prop :=
 ∀(a:A1 (A3×Obj)) (s:A4) (σ:St) (H:Hp) (Q:St->Hp->Prop) (k:Sem Fin) (F:Fin->A4->Prop) (E:A2->A4->Prop),Inv X a σ H s->t σ H Q ->
  (∀c σ' d,Inv X a σ' d c->Q σ' d->wpAny (model X.prog X.w) X.A k F E c)->wpAny (model X.prog X.w) X.A (b k) F E s
def SN(X:Cx)(ifs:A1 IB)(t:TT):Prop :=
 ∀(a:A1 (A3×Obj)) (s:A4) (σ:St) (H:Hp) (Q:Bool->Hp->Prop),Inv X a σ H s->t σ H Q ->
  wpAny (model X.prog X.w) X.A (forIn ifs true fun c r=>if r=true then do let b <-isTrue c X.env (eval c X.env);pure (ForInStep.yield b)else pure (ForInStep.yield r)) (TP X a σ Q) X.xe s
def Ca:TT:=fun _ H Q=>Q true H
def K1{X:Cx}:SN X [] Ca:=fun _ _ _ H _ I h=>wpAny_tests_nil ⟨H,I,h⟩
def T9{X:Cx}{c:IB}{t:TT}(h:PT X c t):SN X [c] t:=fun a s σ H Q I q=>wpAny_tests_one (h a s σ H Q I q)
def Ia(g:TG)(e:TT)(f:RC)(J:It)(σ:St)(H:Hp)(Q:St->Hp->Prop):Prop :=
 ∃W:Nat->Nat->St->Hp->Prop,(∃m,W 0 m σ H)/\∀i m σ H,W i m σ H->(J.stop i H/\Q σ H)\/(J.go i H/\∀x c,J.yld i H x c->g x σ c fun σ2 h=>e σ2 h fun b d =>
  if b=true then f σ2 d fun σ3 j=>∃a,a < m/\W (i+1) a σ3 j else ∃a,a < m/\W (i+1) a σ2 d)
section
variable{X:Cx}{e tg iter:IB}{d:Nat}{ifs:A1 IB}{emit:Sem Fin->Sem Fin}{it:A3}{acc:A2}{g:TG}{tc:TT}{em:RC}{J:It}{fp:A1 A3}{tn:Nat->H_->Prop}{R:Result->A4->Prop}
theorem Bi(G:X.A.under (.compLoop e d (.ref it) acc X.env)=X.A)(t:(model X.prog X.w).den (.compLoop e d (.ref it) acc X.env) =(compTurn e d (.ref it) acc X.env).onRaise (fun x=>do noteFrame x X.env;theTreesLotGoes x))(V:X.calm=true)(L:X.xe=fun _ _=>False)(M:compTurn e d (.ref it) acc X.env=Lg e d iter tg ifs emit (.ref it) acc X.env)(hg:PG X tg g)(ht:SN X ifs tc)(N:PEm X emit em)
  (T:MO X.prog X.w X.K tg J fp it tn) {a:A1 (A3×Obj)} {s:A4} {σ:St} {H:Hp} {Q:St->Hp->Prop} (I:Inv X a σ H s) (st:tn 0 s.heap) (Y:∀b∈fp,Es X a H b) (h:Ia g tc em J σ H Q)
  (hR:∀v σ' H',Inv X a σ' H' v->Q σ' H'->R (.ok .next) v):codeAny (model X.prog X.w) X.A (.compLoop e d (.ref it) acc X.env) R s:=by
 obtain⟨W,⟨m0,w0⟩,y⟩:=h;have c:∀{H':Hp},(∀b∈fp,H' b=none)->∀b∈fp,Es X a H' b:=fun hn b f=>⟨hn b f,(Y b f).2⟩;have Z:∀{α:Type} {m:Sem α} {P:α->A4->Prop} {E:A2->A4->Prop} {s:A4},wpAny (model X.prog X.w) X.A m P X.xe s->wpAny (model X.prog X.w) X.A m P E s:=fun q=>by
  rw[L]at q;exact CB q (fun _ _ z=>z) fun _ _ z=>z.elim
 refine codeAny_loop rfl (fun n v=>∃i σ' H',Inv X a σ' H' v/\tn i v.heap/\(∀b∈fp,H' b=none)/\W i n σ' H') (fun n s3 hI=>?_) m0 ⟨0,σ,H,I,st,fun b f=>(Y b f).1,w0⟩;obtain⟨i,σ3,D,I3,B,C,w3⟩:=hI;rw[G,t];refine wpAny_noted ?_;rw[M];unfold Lg;refine AA (GG (AA ?_));rcases y i n σ3 D w3 with⟨stop,qn⟩ | ⟨go,step⟩
 .refine CB (T.done X rfl rfl rfl V i a s3 σ3 D _ I3 (c C) B stop) (fun r s4 ⟨O,I4⟩=>?_) fun _ _ z=>z;subst O;exact AG (hR s4 σ3 D I4 qn)
 .refine CB (T.item X rfl rfl rfl V i a s3 σ3 D _ I3 (c C) B go) (fun r s4 ⟨u,O,h4⟩=>?_) fun _ _ z=>z;subst O;refine AA (CB h4 (fun _ s5 ⟨x,H5,I5,r5,y5,j,S⟩=>?_) fun _ _ z=>z);have U:=I5.pinned (c S) (T.obj _ _ j);have again:∀{σ7:St} {k:Hp} {l:A4},Inv X (a++Ez fp s5.heap) σ7 k l->(∃F,F < n/\W (i+1) F σ7 k)->∃m,m<n/\∃i σ' H',Inv X a σ' H' l/\tn i l.heap/\(∀b∈fp,H' b=none)/\W i m σ' H':=fun{σ7 k l} p n7=>by
   obtain⟨F,hm,w7⟩:=n7;refine⟨F,hm,i+1,σ7,k,p.unpinned,T.keep _ _ _ j fun b f o e=>(p.pin (b,o) (BK _ (BK _ (W1 f e)))).1,fun b f=>?_,w7⟩;obtain⟨o,e,d⟩:=T.obj _ _ j b f;exact(p.pin (b,o) (BK _ (BK _ (W1 f e)))).2.1
  refine AA (CB (Z (hg _ s5 σ3 H5 x u _ U r5 (step x H5 y5))) (fun _ s6 ⟨σ6,H6,I6,q6⟩=>?_) fun _ _ z=>z);refine AA (CB (Z (ht _ s6 σ6 H6 _ I6 q6)) (fun ok l ⟨k,p,q7⟩=>?_) fun _ _ z=>z);cases ok with
  | false=>exact AG ⟨rfl,again p q7⟩
  | true =>
   exact N _ l σ6 k _ _ _ _ p q7 fun s8 σ8 H8 I8 q8=>AG ⟨rfl,again I8 q8⟩
theorem Cf(f:X.A.under (.compStart e d (.ref it) acc X.env)=X.A)(b:(model X.prog X.w).den (.compStart e d (.ref it) acc X.env) =(compStart e d (.ref it) acc X.env).onRaise (fun x=>do noteFrame x X.env;standAt theWindowsPlace)){gs:A1 Comprehension}(g:clausesOf e=gs)(k:gs[d]?=some ⟨tg,iter,ifs,0⟩){s:A4}(T:MO X.prog X.w X.K tg J fp it tn)(st:tn 0 s.heap)
  (h:codeAny (model X.prog X.w) X.A (.compLoop e d (.ref it) acc X.env) R s):codeAny (model X.prog X.w) X.A (.compStart e d (.ref it) acc X.env) R s:=by
 refine codeAny_of_tree ?_;rw[f,b];refine wpAny_notedAt ?_;unfold compStart;rw[g,k];show wpAny _ X.A (ask >>= _) _ _ s;refine AA (wpAny_askSetting (wpAny_ite ?_));have j:=T.self X.A 0 s (fun a c=>codeAny (model X.prog X.w) X.A (.compLoop e d a acc X.env) R c) (notedBy (model X.prog X.w) X.A X.env fun x c=>R (.error x) c) st h;split
 .first
   | exact AA (AG (AG (And.intro rfl h)))
   | exact AG (And.intro rfl h)
 .first
   | exact AA (EU (AA (GG (AA (CB j (fun a c i=>AG (And.intro rfl i)) fun _ _ x=>x)))))
   | (refine AA (EU ?_);show wpAny _ _ (standAt iter.pos >>= _) _ _ s;exact AA (GG (AA (CB j (fun a c i=>AG (And.intro rfl i)) fun _ _ x=>x))))
end
section
variable{X:Cx}{tg iter:IB}{ifs:A1 IB}{g:TG}{tc:TT}{em:RC}{scope:JB}{cl:A1 (Str×A3)}{N':A1 Str}{cap:A1 (A5 Nat)}{pos:Pos}{wi:TI}
def Su(wi:TI)(o:A3->HO)(cap:A1 (A5 Nat))(b:A3->It->St->Hp->(St->Hp->Prop)->Prop):TE:=fun σ H Q=>wi σ H fun J a=>∀D,a D=none->b D J (Wl cap σ) (HX a D (o D)) fun _ c=>Q (.ref D) c
theorem Mf{e:IB}{gs:A1 Comprehension}{newAcc:Sem A2}{p2:Pos}(r:clausesOf e =⟨tg,iter,ifs,0⟩::gs)(o:A3->HO)(hs:∀x,foldedSetIterable iter X.env x=pure x)(S:NA X scope cl N' cap)(hc:X.calm=true)(hi:PI X tg iter wi)
  {lp:A3->It->St->Hp->(St->Hp->Prop)->Prop}
  (t:∀(a:A1 (A3×Obj)) (s:A4) (σ:St) (H:Hp) (Q:A2->A4->Prop) (E:A2->A4->Prop),Inv X a σ H s->(∀l,Inv X a σ (HX H s.heap.objs.size (o s.heap.objs.size)) l->(∀b f,s.heap.get? b=some f->l.heap.get? b=some f)->Q (.ref s.heap.objs.size) l)->wpAny (model X.prog X.w) X.A newAcc Q E s)
  (L:∀(a:A1 (A3×Obj)) (M:A1 A3) (s3:A4) (N:Hp) (D k:A3) (fp:A1 A3) (u:Nat->H_->Prop) (J:It) (σ:St) (s:A4) (H:Hp) (Q:St->Hp->Prop) (R:Result->A4->Prop),
   MO X.prog X.w X.K tg J fp k u->Inv (MN X scope cl N' a M s3 N) [] σ H s->u 0 s.heap->(∀b∈fp,Es (MN X scope cl N' a M s3 N) [] H b)->lp D J σ H Q ->
   (∀l σ' H',Inv (MN X scope cl N' a M s3 N) [] σ' H' l->Q σ' H'->R (.ok .next) l) ->
   codeAny (model X.prog X.w) X.A (.compLoop e 0 (.ref k) (.ref D) (compEnvC scope cl s3.heap.objs.size X.env)) R s)
  (O:∀k D g,X.A.under (.compStart e 0 (.ref k) (.ref D) g)=X.A) (B:∀k D g,(model X.prog X.w).den (.compStart e 0 (.ref k) (.ref D) g) =(compStart e 0 (.ref k) (.ref D) g).onRaise (fun x=>do noteFrame x g;standAt theWindowsPlace))
  (P:∀E Q s,wpAny (model X.prog X.w) X.A (comprehension e scope X.env p2 newAcc false (eval iter X.env)) Q E s->wpAny (model X.prog X.w) X.A (eval e X.env) Q E s) :
  PE X e (Su wi o cap lp):=by
 intro a s σ H Q I h;refine P _ _ _ (wpAny_comprehension_free (use:=none) r hs S.clos S.kind S.loc (IT (hi a s σ H _ I h) fun v s1 C=>IT C fun itv i h2=>?_));obtain⟨k,fp,u,J,q,U,I2,T,F,f2,R2⟩:=h2;subst U;refine t a i σ q _ _ I2 fun s3 V k3=>?_;have hD:q i.heap.objs.size=none:=I2.hok.fresh (Nat.le_refl _);have n:∀b∈fp,Es X a (HX q i.heap.objs.size (o i.heap.objs.size)) b/\∃f,s3.heap.get? b=some f:=fun b j=>by
  obtain⟨f,e,_⟩:=T.obj _ _ F b j;obtain⟨W,fr⟩:=f2 b j;exact⟨⟨by rw[B6 (AX (AI e))];exact W,fr⟩,f,k3 b f e⟩
 refine wpAny_newFunctionEnv S.nocell (by intro y hy;simp at hy) (fun C Y Z=>?_) S.kind;have hk:∀b f,s3.heap.get? b=some f->C.get? b=some f:=fun b f e=>(Z.2 b (AX (AI e))).trans (AD _ e);have I4:Inv (MN X scope cl N' a fp s3 (HX q i.heap.objs.size (o i.heap.objs.size))) [] (Wl cap σ) (HX q i.heap.objs.size (o i.heap.objs.size)) { s3 with heap:=C,toks:=s3.toks +([]:A1 (Str×A2)).length } :=
  V.block S hc n Y hk
 have G:u 0 C:=T.keep 0 _ _ F fun b j f e=>hk b f (k3 b f e);refine Cf (X:=MN X scope cl N' a fp s3 (HX q i.heap.objs.size (o i.heap.objs.size))) (gs:=⟨tg,iter,ifs,0⟩::gs) (e:=e) (d:=0) (tg:=tg) (iter:=iter) (ifs:=ifs) (O _ _ _) (B _ _ _) r rfl T G ?_;refine L a fp s3 _ i.heap.objs.size k fp u J (Wl cap σ) _ _ _ _ T I4 G (fun b j=>?_) (R2 _ hD) fun l σ' H' I' q'=>?_
 .obtain⟨⟨W,f1,f2',f3,f4,f5⟩,f,eo⟩:=n b j;refine⟨W,AX (AI eo),fun hf=>?_,.inl j,fun x c e=>f4 x c (S.cin.get e),fun p hp=>f5 p (by simpa [MN] using hp)⟩;rcases AR.mp (V.stkSub b hf)with z | z
  .exact f1 z
  .exact f2' z
 .obtain⟨m,hn,_⟩:=I'.loc;exact⟨m,hn,fun h' j=>⟨.ref _,H',V.unblock (fun b j=>(n b j).1) I' j,rfl,q'⟩⟩
end
section
variable{X:Cx}{tg iter elt:IB}{ifs:A1 IB}{g:TG}{tc:TT}{te:TE}{scope:JB}{cl:A1 (Str×A3)}{N':A1 Str}{cap:A1 (A5 Nat)}{pos:Pos}{wi:TI}
def Bx(D:A3)(te:TE):RC:=fun σ H Q=>te σ H fun y b=>∃a,b D=some (.lst a)/\a.length<sizeLine/\Q σ (HX b D (.lst (a ++ [y])))
theorem Kz{α:Type}{X:Cx}(a:X.xe=fun _ _=>False){m:Sem α}{P:α->A4->Prop}{E:A2->A4->Prop}{s:A4}(q:wpAny (model X.prog X.w) X.A m P X.xe s):wpAny (model X.prog X.w) X.A m P E s:=by
 rw[a]at q;exact CB q (fun _ _ z=>z) fun _ _ z=>z.elim
theorem Lb{D:A3}(b:X.xe=fun _ _=>False)(d:PE X elt te):PEm X (emL elt (.ref D) X.env) (Bx D te):=by
 intro a s σ H Q k F E I h e;unfold emL;refine AA (AA (CB (Kz b (d a s σ H _ I h)) (fun u f ⟨y,g,i,j,l,m,n,o⟩=>?_) fun _ _ z=>z));refine AA (CB (Kz b (M6 a f σ g (.ref D) [y] (.ref D) [u] (fun v c=>v = .non/\Q σ c) i rfl (.cons j .nil) ⟨D,l,y,rfl,rfl,m,n,rfl,o⟩)) (fun v p ⟨t,c,q,w,_,r⟩=>?_) fun _ _ z=>z);exact AG (e p σ c q r)
theorem U4(S:NA X scope cl N' cap)(i:X.calm=true)(hi:PI X tg iter wi)
  (j:∀(a:A1 (A3×Obj)) (c:A1 A3) (d:A4) (f:Hp),PG (MN X scope cl N' a c d f) tg g/\SN (MN X scope cl N' a c d f) ifs tc/\PE (MN X scope cl N' a c d f) elt te)
  (k:∀x,foldedSetIterable iter X.env x=pure x:=by intro _;rfl) :
  PE X (.ListComp elt [⟨tg,iter,ifs,0⟩] scope pos) (Su wi (fun _=>.lst []) cap fun D J σ H Q=>Ia g tc (Bx D te) J σ H Q):=by
 refine Mf (newAcc:=newList []) (p2:=firstIterPos [⟨tg,iter,ifs,0⟩] pos) rfl (fun _=>.lst []) k S i hi (fun a s σ H Q E I h=>?_) (fun a c d f D q r t J σ s H Q R T I st l h m=>?_) (fun _ _ _=>rfl) (fun _ _ _=>rfl) (fun E Q s h=>h)
 .refine HS ?_;exact h _ (I.lnew (t':=s.toks) (its:=[]) .nil (CI _)) fun b u e=>AD _ e
 .obtain⟨n,o,p⟩:=j a c d f;exact Bi (X:=MN X scope cl N' a c d f) rfl rfl i rfl (Dc elt tg iter ifs scope pos _ _ _) n o (Lb rfl p) T I st l h m
def Uw(D:A3)(c d:TE):RC:=fun σ H Q=>c σ H fun y e=>d σ e fun v b=>∃a k,b D=some (.dK a)/\y=kV k/\a.length<sizeLine/\Q σ (HX b D (.dK (p9 a k v)))
theorem Ua{D:A3}{a b:IB}{j m:TE}(d:X.xe=fun _ _=>False)(o:PE X a j)(p:PE X b m):PEm X (emD a b D X.env) (Uw D j m):=by
 intro c s σ H Q k F E I h t;unfold emD;refine AA (AA (CB (Kz d (o c s σ H _ I h)) (fun u w ⟨y,x,A,B,C⟩=>?_) fun _ _ z=>z));refine AA (BU (CB (Kz d (p c w σ x _ A C)) (fun r G ⟨v,W,n,J,f,kk,e,K,l,L⟩=>?_) fun _ _ z=>z));refine AA (GG (BU ?_));subst K;obtain⟨z,M,N,g,O⟩:=Tm n.hok e;have P:N.length<=sizeLine:=by rw[<-g.length];exact z
 have R:(p9 f kk v).length<=sizeLine:=by have:=Q6 f kk v;omega
 refine wpAny_dictSet_pairs (hsz:=P) (Fa B) O fun S i T=>?_;have U:∃q,S.get? D=some q:=let⟨q,_,_,V,_⟩:=i;⟨q,V⟩;exact t _ σ _ (Dn (t':=G.toks+1) n (by rw[e];exact True.intro) T U (Py R M (g.put kk J) i)) L
theorem Rq{a b:IB}{j k:TE}(S:NA X scope cl N' cap)(l:X.calm=true)(hi:PI X tg iter wi)
  (m:∀(c:A1 (A3×Obj)) (d:A1 A3) (f:A4) (i:Hp),PG (MN X scope cl N' c d f i) tg g/\SN (MN X scope cl N' c d f i) ifs tc/\PE (MN X scope cl N' c d f i) a j/\PE (MN X scope cl N' c d f i) b k)
  (n:∀x,foldedSetIterable iter X.env x=pure x:=by intro _;rfl) :
  PE X (.DictComp a b [⟨tg,iter,ifs,0⟩] scope pos) (Su wi (fun _=>.dK []) cap fun D J σ H Q=>Ia g tc (Uw D j k) J σ H Q):=by
 refine Mf (newAcc:=newDict) (p2:=firstIterPos [⟨tg,iter,ifs,0⟩] pos) rfl (fun _=>.dK []) n S l hi (fun c s σ H Q E I h=>?_) (fun c d f i D y z A J σ s H Q R T I st p h r=>?_) (fun _ _ _=>rfl) (fun _ _ _=>rfl) (fun E Q s h=>h)
 .refine ET ?_;exact h _ (I.laid (a:=s.heap.objs.size) (o:=.dK []) (t':=s.toks) (fun _ _ q=>AD _ q) (Nat.le_refl _) (Dp s.heap I.big)) fun b B e=>AD _ e
 .obtain⟨t,u,v,w⟩:=m c d f i;exact Bi (X:=MN X scope cl N' c d f i) rfl rfl l rfl (Mn a b tg iter ifs scope pos _ _ _) t u (Ua rfl v w) T I st p h r
end
instance:LawfulBEq IR where
 rfl {a}:=by cases a with
  | inl i=>show(i == i)=true;simp
  | inr x=>show(x == x)=true;simp
 eq_of_beq {a b} h:=by
  cases a with
  | inl i=>cases b with
   | inl j=>exact congrArg Sum.inl (eq_of_beq (show(i == j)=true from h))
   | inr j=>exact absurd h (by intro z;cases z)
  | inr i=>cases b with
   | inl j=>exact absurd h (by intro z;cases z)
   | inr j=>exact congrArg Sum.inr (eq_of_beq (show(i == j)=true from h))
def Oc(P:A7)(w:HW)(a:A3)(l:A1 IR):HO:=.ext fun h=>h.SetOf (C7 P w) a (fun k=>decide (k∈l)) l.length
section
variable{X:Cx}{pins:A1 (A3×Obj)}{σ:St}{H:Hp}{s:A4}{a:A3}{l:A1 IR}
theorem zBg{P:A7}{w:HW}{H:Hp}{h:H_}(z:h.SetOf (C7 P w) a (fun k=>decide (k∈l)) l.length):IK P w H h a (Oc P w a l) :=
 ⟨z,let⟨o,_,_,_,e,_⟩:=z;⟨o,e⟩,fun d f ⟨o,b,c,t,e,r⟩ k=>⟨o,b,c,t,k o e,r⟩⟩
theorem Inv.set(I:Inv X pins σ H s)(e:H a=some (Oc X.prog X.w a l)):s.heap.SetOf (C7 X.prog X.w) a (fun k=>decide (k∈l)) l.length:=by
 obtain⟨z,_⟩:=(show IK X.prog X.w H s.heap a (Oc X.prog X.w a l)from I.hok a _ e);exact z
theorem Kj{k:IR}{u:A2}(r:RelV (kV k) u):u.scannable=true:=by
 cases k with
 | inl i=>obtain⟨t,rfl⟩:=r;rfl
 | inr x=>obtain⟨t,rfl⟩:=r;rfl
def zCz(l:A1 IR)(k:IR):A1 IR:=if k∈l then l else l ++ [k]
theorem Iu{P:A7}{w:HW}{h:H_}{S b:IR->Bool}{n c:Nat}(z:h.SetOf (C7 P w) a S n)(e:∀k,b k=S k)(en:c=n):h.SetOf (C7 P w) a b c:=by
 have:b=S:=funext e;subst this;subst en;exact z
theorem Sx:K0 X (.type "set") (fun xs H Q=>xs = []/\∀p,H p=none->Q (.ref p) (HX H p (Oc X.prog X.w p []))):=by
 intro pins s σ H xs c Q I r h;obtain⟨rfl,q⟩:=h;cases r;refine call_set_0 fun a=>⟨.ref s.heap.objs.size,_,I.laid (t':=s.toks) (fun b o e=>AD _ e) (Nat.le_refl _) (zBg ?_),rfl,q _ (I.hok.fresh (Nat.le_refl _))⟩;exact(setObjOf_fresh a).setOf (AQ _ rfl) (by decide)
def zBi(P:A7)(w:HW):V->A1 V->Hp->VK->Prop:=fun x b H Q=>∃a l k,x = .ref a/\b = [kV k]/\H a=some (Oc P w a l)/\l.length+1<4096/\Q .non (HX H a (Oc P w a (zCz l k)))
theorem zAj:QL X "set.add" (zBi X.prog X.w):=by
 intro pins s σ H x r v t Q I g i h;obtain⟨a,l,k,rfl,rfl,c,j,q⟩:=h;cases g;obtain⟨u,rfl,d⟩:=i.one;refine call_set_add (Fa d) (Kj d) (I.set c) j fun y m z=>?_;refine⟨.non,_,I.write (x:=a) (e:=a) (t':=s.toks+1) (by rw[c];exact True.intro) (.inl rfl) (fun b q n e=>(m.2 b n).trans e) (let⟨o,_,_,_,e,_⟩:=z;⟨o,e⟩) (zBg (Iu z (fun p=>?_) ?_)),rfl,q⟩
 .unfold zCz;by_cases e:k∈l
  .rw[AL e];by_cases f:p=k
   .subst f;simp[e]
   .simp[f]
  .rw[AJ e];simp
 .unfold zCz;by_cases e:k∈l
  .rw[AL e];simp[e]
  .rw[AJ e];simp[e]
def zFn(P:A7)(w:HW)(neg:Bool):R2:=fun x y H Q=>∃a l k,y = .ref a/\x=kV k/\H a=some (Oc P w a l)/\Q (.bl (if neg then !decide (k∈l)else decide (k∈l))) H
theorem So:KU X (compareOp .In) (zFn X.prog X.w false):=by
 intro pins s σ H x y v u Q I b c h;obtain⟨a,l,k,rfl,rfl,d,q⟩:=h;cases c;exact wpAny_inSet_of (Fa b) (Kj b) (I.set d) ⟨.bl (decide (k∈l)),H,I.tok _,rfl,q⟩
end
def Its(x:Str):It:=⟨fun i _=>i<x.cps.size,fun i H v a=>a=H/\∃c,x.cps[i]?=some c/\v = .str ⟨#[c]⟩,fun i _=>i=x.cps.size⟩
def Ls{P:A7}{w:HW}{K:PySem.W.Frag}{tg:IB}(a:A3)(x:Str)(t:Tok)(ty:String)(p:["enumerate", "zip", "dict_itemiterator", "dict_reverseitemiterator", "odict_iterator", "itertools.zip_longest", "itertools.pairwise"].contains ty=false)
  (W:∀R:IC,R.handled=none->Walks P w R a [a] [a] x.cps.size (SignAt x) (fun i h=>h.IsStrIter a ty x t i))
  (g:∀(A:IC) (i:Nat) (s:A4) (Q:A2->A4->Prop) (E:A2->A4->Prop),s.heap.IsStrIter a ty x t i->Q (.ref a) s->wpAny (model P w) A (pyIter (.ref a)) Q E s):MO P w K tg (Its x) [a] a (fun i h=>h.IsStrIter a ty x t i) where
 mem:=by simp
 obj:=fun i h st b j=>by
  have e:b=a:=by simpa using j
  subst e;obtain⟨o,e,c,d⟩:=st;exact⟨o,e,fun v z=>by rw[d]at z;cases z⟩
 keep:=fun i h m st k=>let⟨o,e,r⟩:=st;⟨o,k a (by simp) o e,r⟩
 item:=by
  intro X q y B C i f s σ H E I n st D;subst q y B;obtain⟨F,G,S,J,L,M⟩:=n a (by simp);refine(W X.A (I.ok.hd C)).item i s _ _ D st fun v m N T l k=>?_;obtain⟨c,u,U,V⟩:=T;have Y:Inv X f σ H { s with heap:=m,toks:=N }:=I.turned (fun b o j e=>k b o (by simpa using j) e) F G J L M;obtain⟨o,e,Z,d⟩:=id l;exact⟨v,rfl,Nj (s:={ s with heap:=m,toks:=N }) e Z d p ⟨.str ⟨#[c]⟩,H,Y,⟨u,V⟩,⟨rfl,c,U,rfl⟩,l,fun b j=>(n b j).1⟩⟩
 done:=by
  intro X q y B C i f s σ H E I n st D;subst q y B;obtain⟨F,G,S,J,L,M⟩:=n a (by simp);have O:i=x.cps.size:=D;subst O;exact(W X.A (I.ok.hd C)).done s _ _ st fun m N k=>⟨rfl,I.turned (fun b o j e=>k b o (by simpa using j) e) F G J L M⟩
 self:=fun A i s Q E st h=>g A i s Q E st h
section
variable{X:Cx}{tg:IB}
def zGp(a:TE):TI:=fun σ H R=>a σ H fun x b=>∃z,x = .str z/\R (Its z) b
theorem Zz{l:IB}{k:TE}(n:PE X l k):PI X tg l (zGp k):=by
 intro a s σ H R I h;refine IT (n a s σ H _ I h) fun v s1 ⟨x,p,g,r,u⟩=>?_;obtain⟨z,e,q⟩:=u;subst e;obtain⟨t,rfl⟩:=r;have f:∀(o:Obj) (ty:String),o.cls = .type ty->o.data = .fields #[.str z t,.int (0:Nat) 0]->o.isFreed=false->MO X.prog X.w X.K tg (Its z) [s1.heap.objs.size] s1.heap.objs.size (fun i h=>h.IsStrIter s1.heap.objs.size ty z t i) ->
   PIE X a σ tg R (.ref s1.heap.objs.size) { s1 with heap:=s1.heap.push o }:=fun o ty c d y T=>by
  refine⟨s1.heap.objs.size,[s1.heap.objs.size],_,_,p,rfl,g.kept (t':=s1.toks) fun b o e=>AD _ e,T,⟨o,AQ _ y,c,d⟩,fun b B=>?_,q⟩;have e:b=s1.heap.objs.size:=by simpa using B
  subst e;exact g.fpOk (Nat.le_refl _) (g.hok.fresh (Nat.le_refl _))
 cases m:z.cps.all (· < 128)
 .exact wpAny_pyIter_wide m (f _ _ rfl rfl rfl (Ls _ z t "str_iterator" (by decide) (fun C j=>Walks.strWide j _ z t) fun A i s Q E st h=>wpAny_pyIter_striter_wide st h))
 .exact wpAny_pyIter_ascii m (f _ _ rfl rfl rfl (Ls _ z t "str_ascii_iterator" (by decide) (fun C j=>Walks.strAscii j _ z t) fun A i s Q E st h=>wpAny_pyIter_striter_ascii st h))
end
section
variable{X:Cx}
theorem Uv(E:X.calm=true):K0 X (.builtin "all") (fun xs H Q=>∃(p:A3) (bs:A1 Bool),xs = [.ref p]/\IA X.K H p (bs.map V.bl)/\Q (.bl (bs.all id)) H):=by
 intro B s σ H xs M Q I r h;obtain⟨p,bs,rfl,F,q⟩:=h;obtain⟨u,rfl,t⟩:=U8 r;cases t;obtain⟨a,w,x,N⟩:=I.list F;refine call_all_walk (FQ x.isList ?_);have y:p≠s.heap.objs.size:=by
  obtain⟨o,n,e,_⟩:=x;exact AX (AI e)
 refine⟨s.heap.objs.size,_,_,_,_,_,fun i=>bs.getD i true,rfl,Walks.list (A:=X.A.in1) (show X.A.in1.handled=none from I.ok.hd E) _ p y a.toArray,⟨⟨_,AQ _ rfl,rfl,rfl⟩,?_⟩,fun i v O P R G J=>?_,fun S T k=>?_⟩
 .obtain⟨o,n,e,c,d,L⟩:=x;exact⟨o,AD _ e,c,n,L⟩
 .have f:(bs.map V.bl)[i]?=some (V.bl (bs.getD i true))/\RelV (V.bl (bs.getD i true)) v:=by
   have g:a[i]?=some v:=by simpa using G
   have j:i<a.length:=(AE.mp g).1;have m:=w.length;rw[AB]at m;have e:(bs.map V.bl)[i]?=some (V.bl (bs.getD i true)):=by
    rw[AH,AC (by omega)];simp[AN,AC (show i<bs.length by omega)]
   obtain⟨u,C,t⟩:=w.get e;rw[g]at C;cases C;exact⟨e,t⟩
  cases f.2;exact DE J
 .have m:=w.length;rw[AB]at m;have e:(List.range a.toArray.size).all (fun i=>bs.getD i true)=bs.all id:=by
   rw[AM,<-m];rw[BV,FW,FW];constructor
   .intro z b f;obtain⟨i,j,rfl⟩:=FO.mp f;have:=z i (BX.mpr j);simpa [AN,AC j] using this
   .intro z i j;have l:=BX.mp j;have:=z bs[i] (FX l);simpa [AN,AC l] using this
  rw[e];exact⟨.bl (bs.all id),H,I.kept fun b o D=>k b o (by
   intro f;have:b=s.heap.objs.size:=by simpa using f
   exact absurd (AI D) (by rw[this];exact DP _)) (AD _ D),rfl,q⟩
theorem Cp:∀{ss:A1 Str} {us:A1 A2},IH (ss.map V.str) us->StrsAre us ss
 | [],_,.nil=>.nil
 | _::_,_,.cons ⟨t,e⟩ r=>by subst e;exact .cons _ _ (Cp r)
def RA(a b:Str):Prop:=¬b.cps.toList<a.cps.toList
theorem Ff:K0 X (.builtin "sorted") (fun xs H Q=>∃(p:A3) (ss:A1 Str),xs = [.ref p]/\IA X.K H p (ss.map V.str)/\∀(l:A3) (c:A1 Str),H l=none->c.Perm ss->c.Pairwise RA->Q (.ref l) (HX H l (.lst (c.map V.str)))):=by
 intro E s σ H xs f Q I r h;obtain⟨p,ss,rfl,L,q⟩:=h;obtain⟨u,rfl,M⟩:=U8 r;cases M;obtain⟨g,F,N,W⟩:=I.list L;have j:=Cp F;have Y:=F.length;refine TS.OJ (collect_list (vs:=g) N.isList ?_ (by omega));refine⟨rfl,by omega,strKind,oneType',fun Z _=>TS.QJ j,fun a G e O k P=>?_⟩;have i:((s.heap.push (seqObj "list" #[] 0)).update s.heap.objs.size (Obj.mapSeq (· ++ g.toArray))).objs.size=s.heap.objs.size+1:=by rw[HN,size_push']
 obtain⟨m,R⟩:=O;have n:∀v∈a.toList,∃x t,v = .str x t:=fun v w=>j.all v (m.mem_iff.mp w);have w:IH ((a.toList.map strOf).map V.str) a.toList:=by
  have:∀f:A1 A2,(∀v∈f,∃x t,v = .str x t)->IH ((f.map strOf).map V.str) f:=by
   intro f
   induction f with
   | nil=>exact fun _=>.nil
   | cons v r S =>
    intro h;obtain⟨x,t,rfl⟩:=h v (BP ..);exact .cons ⟨t,rfl⟩ (S fun u z=>h u (BF _ z))
  exact this _ n
 have d:(a.toList.map strOf).Perm ss:=by
  have:=m.map strOf
  rwa [j.strs]at this
 have A:(a.toList.map strOf).Pairwise RA:=by
  rw[CP];refine(List.Pairwise.and_mem.mp R).imp fun{u v} ⟨z,B,q⟩=>?_;obtain⟨x,t,rfl⟩:=n u z;obtain⟨y,t',rfl⟩:=n v B;have T:decide (y.cps.toList<x.cps.toList)=false:=q;exact of_decide_eq_false T
 have C:∀b o,s.heap.get? b=some o->G.get? b=some o:=fun b o J=>k b o (by
  rw[Heap.get?_update_ne _ _ _ _ (AX (AI J))];exact AD _ J)
 have U:H (s.heap.objs.size+1)=none:=I.hok.fresh (EO _);have D:G.get? (s.heap.objs.size+1)=some (seqObj "list" a e):=by rw[<-i];exact P
 refine⟨.ref (s.heap.objs.size+1),HX H (s.heap.objs.size+1) (.lst ((a.toList.map strOf).map V.str)),?_,by show Value.ref _=_;rw[<-i],q _ _ U d A⟩;refine I.laid (t':=s.toks) C (EO _) ⟨?_,a.toList,e,w,by simpa using D⟩;rw[AB,AB,m.length_eq];omega
end
def Hm{α β:Type}(f:α->β){l m:A1 β}(h:l.Perm m):∀a:A1 α,m=a.map f->∃b:A1 α,b.Perm a/\l=b.map f:=by
 induction h with
 | nil=>intro a e;exact⟨a,.refl _,e⟩
 | cons x _ o =>
  intro a e;cases a with
  | nil=>cases e
  | cons p a =>
   rw[A_]at e;obtain⟨rfl,c⟩:=GX e;obtain⟨b,d,g⟩:=o a c;exact⟨p::b,.cons _ d,by rw[A_,g]⟩
 | swap x y l =>
  intro a e
  match a,e with
  | p::q::a,e =>
   rw[A_,A_]at e;obtain⟨rfl,c⟩:=GX e;obtain⟨rfl,r⟩:=GX c;exact⟨q::p::a,.swap _ _ _,by rw[A_,A_,r]⟩
 | trans _ _ i j =>
  intro a e;obtain⟨k,d,g⟩:=j a e;obtain⟨n,s,t⟩:=i k g;exact⟨n,s.trans d,t⟩
abbrev JF:=A3×Str×Str
def zEy(q:JF):A1 Nat×A1 Nat:=(q.2.1.cps.toList,q.2.2.cps.toList)
def SZ(q r:JF):Prop:=TS.LE (zEy r) (zEy q)=false
def E6(H:Hp)(q:JF):Prop:=H q.1=some (.tup [.str q.2.1,.str q.2.2])
def Ge:∀{a:A1 JF} {us:A1 A2},IH (a.map fun q=>V.ref q.1) us->us=a.map fun q=>Value.ref q.1
 | [],_,.nil=>rfl
 | _::_,_,.cons r t=>by rw[A_,Ge t];cases r;rfl
def Fz:∀(a:A1 JF),IH (a.map fun q=>V.ref q.1) (a.map fun q=>Value.ref q.1)
 | []=>.nil
 | _::a=>.cons rfl (Fz a)
section
variable{X:Cx}
theorem Inv.pairAt{a:A1 (A3×Obj)}{σ:St}{H:Hp}{s:A4}{q:JF}(I:Inv X a σ H s)(h:E6 H q):TS.MK s.heap (.ref q.1) q.2.1 q.2.2:=by
 obtain⟨b,f,⟨o,e,c,n,d⟩,_⟩:=I.tuple (IZ.of h);obtain⟨i,j,rfl,⟨t,rfl⟩,⟨g,rfl⟩⟩:=f.two;exact⟨q.1,o,n,t,g,rfl,e,c,d⟩
theorem Fg:K0 X (.builtin "sorted") (fun xs H Q=>∃(p:A3) (j:A1 JF),xs = [.ref p]/\IA X.K H p (j.map fun q=>V.ref q.1)/\(∀q∈j,E6 H q) /\
  ∀(l:A3) (c:A1 JF),H l=none->c.Perm j->c.Pairwise SZ->Q (.ref l) (HX H l (.lst (c.map fun q=>V.ref q.1)))):=by
 intro C s σ H xs us Q I r h;obtain⟨p,j,rfl,m,y,q⟩:=h;obtain⟨u,rfl,O⟩:=U8 r;cases O;obtain⟨d,D,P,E⟩:=I.list m;have F:=Ge D;have hl:=D.length;refine TS.OJ (collect_list (vs:=d) P.isList ?_ (by omega));have f:((s.heap.push (seqObj "list" #[] 0)).update s.heap.objs.size (Obj.mapSeq (· ++ d.toArray))).objs.size=s.heap.objs.size+1:=by rw[HN,size_push']
 have n:∀b o,s.heap.get? b=some o->((s.heap.push (seqObj "list" #[] 0)).update s.heap.objs.size (Obj.mapSeq (· ++ d.toArray))).get? b=some o:=fun b o g=>by
  rw[Heap.get?_update_ne _ _ _ _ (AX (AI g))];exact AD _ g
 have i:∀q∈j,TS.MK s.heap (.ref q.1) q.2.1 q.2.2:=fun q m=>I.pairAt (y q m);refine⟨rfl,by omega,TS.pairKind s.heap,tuples' true,fun s2 R=>TS.QC (fun v G=>?_) (fun b o g=>?_),fun t S e T k U=>?_⟩
 .rw[F]at G;obtain⟨q,m,rfl⟩:=AV.mp G;exact⟨_,_,i q m⟩
 .have w:b≠((s.heap.push (seqObj "list" #[] 0)).update s.heap.objs.size (Obj.mapSeq (· ++ d.toArray))).objs.size:=by
   rw[f];exact AX (DZ (AI g))
  exact⟨w,R b o w (n b o g)⟩
 .obtain⟨J,L⟩:=T;rw[F]at J;obtain⟨c,x,M⟩:=Hm (fun q:JF=>Value.ref q.1) J j rfl;have A:c.Pairwise SZ:=by
   rw[M,CP]at L;refine(List.Pairwise.and_mem.mp L).imp fun{a b} ⟨W,Y,z⟩=>?_;have Z:=(i a (x.mem_iff.mp W)).key;have kb:=(i b (x.mem_iff.mp Y)).key;have N:TS.LE ((TS.NP s.heap (.ref b.1)).getD ([],[])) ((TS.NP s.heap (.ref a.1)).getD ([],[]))=false:=z;rw[Z,kb]at N;exact N
  have hn:H (s.heap.objs.size+1)=none:=I.hok.fresh (EO _);have B:S.get? (s.heap.objs.size+1)=some (seqObj "list" t e):=by rw[<-f];exact U
  refine⟨.ref (s.heap.objs.size+1),HX H (s.heap.objs.size+1) (.lst (c.map fun q=>V.ref q.1)),?_,by show Value.ref _=_;rw[<-f],q _ _ hn x A⟩;refine I.laid (t':=s.toks) (fun b o g=>k b o (n b o g)) (EO _) ⟨?_,t.toList,e,by rw[M];exact Fz c,by simpa using B⟩;rw[AB,x.length_eq];rw[AB]at E;exact E
end
def Inv.turnLaid{X:Cx}{d:A1 (A3×Obj)}{σ:St}{H:Hp}{s:A4}{h':H_}{t':Nat}{fp:A1 A3}{T:A3}{o:HO}(I:Inv X d σ H s)(k:∀b a,b∉fp->s.heap.get? b=some a->h'.get? b=some a)
  (i:∀b∈fp,Es X d H b) (x:∀b∈fp,∃a,s.heap.get? b=some a) (l:s.heap.objs.size<=T) (j:IK X.prog X.w (HX H T o) h' T o):Inv X d σ (HX H T o) { s with heap:=h',toks:=t' }:=by
 have h:=I.hok.fresh l;have y:∀b a,s.heap.get? b=some a->b≠T:=fun b a e=>AX (BG (AI e) l);have p:∀b u,H b=some u->b∉fp:=fun b u e f=>by rw[(i b f).1]at e;cases e
 refine I.step (g':=s.gens) (d':=s.drawn) (ch:=fp) (fun b f=>let⟨_,A,_,B,C,D⟩:=i b f;⟨B,A,C,D⟩) (fun b a _ _ g e _=>k b a g e) (fun b a _ _ g e _=>⟨a.slots,k b a g e⟩) (fun b a _ e n=>by rw[B6 (y b a e)];exact n)
  (fun b a g e=>⟨a,k b a g e⟩) (fun b t e=>by rw[B6 (B2 e h)];exact e) (fun b u t e=>by rw[B6 (B2 e h)];exact e) (fun b K e=>⟨#[],by rw[B6 (B2 e h),e];simp⟩) (fun m E=>?_) (fun b u e=>?_) I.bare
 .obtain⟨a,F,G,J,r⟩:=E;exact⟨a,F,G,k _ a (fun f=>(i _ f).2.1 rfl) J,r⟩
 .by_cases f:b=T
  .subst f;rw[A9]at e;cases e;exact j
  .rw[B6 f]at e;refine(I.hok b u e).stay (fun c v g q=>k c v ?_ q) (fun c q=>by rw[B6 (B2 q h)];exact q) fun c t q=>by rw[B6 (B2 q h)];exact q
   rcases g with z | z
   .rw[z];exact p b u e
   .exact p c _ z
def Ite(K:PySem.W.Frag)(a:A3):It :=
 ⟨fun i H=>∃b x,IA K H a b/\b[i]?=some x,fun i H v c=>∃T x,v = .ref T/\H T=none/\c=HX H T (.tup [.int i,x])/\∀b,IA K H a b->b[i]?=some x,fun i H=>∃b,IA K H a b/\b.length=i⟩
def Rl{P:A7}{w:HW}{K:PySem.W.Frag}{F:A1 IB}{kk:Nat}{tp:Pos}(a g e:A3)(N:e≠g):MO P w K (.Tuple F kk tp) (Ite K a) [e,g] e (fun i h=>(∃f,IsEnum h e g i f)/\h.IsListIter g a i) where
 mem:=by simp
 obj:=fun i h st b hb=>by
  obtain⟨⟨f,y⟩,o,G,c,d⟩:=st;rcases AR.mp hb with rfl | hb
  .exact⟨_,y,fun v z=>by cases z⟩
  .rw[AF.mp hb];exact⟨o,G,fun v z=>by rw[d]at z;cases z⟩
 keep:=fun i h h' st k=>⟨let⟨f,y⟩:=st.1;⟨f,k e (by simp) _ y⟩,st.2.at fun o x=>k g (by simp) o x⟩
 item:=by
  intro X hP hw hK B i O s σ H E I D st hg;subst hP hw hK;obtain⟨xs,x,Z,hx⟩:=hg;obtain⟨j,rv,p,hz⟩:=I.list Z;obtain⟨u,hu,ru⟩:=rv.get hx;obtain⟨f0,f1,f2,f3,f4,f5⟩:=D e (by simp);obtain⟨g0,g1,g2,g3,g4,g5⟩:=D g (by simp);have J:a≠e:=fun z=>by
   obtain⟨f,y⟩:=st.1;obtain⟨o,n,l,c,_⟩:=p;rw[z,y]at l;cases l;exact absurd c (by show ¬Value.type "enumerate" = Value.type "list";decide)
  have L:a≠g:=fun z=>by
   obtain⟨o2,G,c2,d2⟩:=st.2;obtain⟨o,n,l,c,_⟩:=p;rw[z,G]at l;cases l;rw[c2]at c;exact absurd c (by decide)
  have hi:i<j.toArray.size:=by
   rw[AM];exact(AE.mp hu).1
  have W:=WalksT.enumerate (prog:=X.prog) (w:=X.w) (A:=X.A) (I.ok.hd B) e g a N J L j.toArray;refine W.item i s _ _ hi ⟨st.1,st.2,p.isList⟩ fun T vals h' tk hv hT ht R k=>?_;obtain⟨t,x',S,rfl⟩:=hv;have:x'=u:=by
   have:j.toArray[i]?=some u:=by simpa using hu
   rw[this]at S;exact(BE S).symm
  subst this;refine⟨.ref T,rfl,W.go F kk tp i T _ _ _ R fun G U k2=>?_⟩;have hTn:H T=none:=I.hok.fresh hT;have V:T≠e:=fun z=>W.apart i T h' R (by simp[z]);have Y:T≠g:=fun z=>W.apart i T h' R (by simp[z]);have kk2:∀b o,b≠e->b≠g->s.heap.get? b=some o->G.get? b=some o:=fun b o b1 b2 M=>k2 b o (by simp[b1,b2]) (k b o (by simp[b1,b2]) M);have hT2:G.IsTuple T #[.int i t,x']:=by
   obtain⟨o,l,r⟩:=ht;exact⟨o,k2 T o (by simp[V,Y]) l,r⟩
  refine⟨.ref T,HX H T (.tup [.int i,x]),I.turnLaid (fp:=[e,g]) (fun b o hb M=>kk2 b o (fun z=>hb (by simp[z])) (fun z=>hb (by simp[z])) M) D (fun b hb=>?_) hT ⟨?_,[.int i t,x'],.cons ⟨t,rfl⟩ (.cons ru .nil),hT2⟩,rfl,⟨T,x,rfl,hTn,rfl,fun ys hy=>by rw[I.list_inj hy Z];exact hx⟩,⟨U.1,U.2.1⟩,fun b hb=>?_⟩
  .rcases AR.mp hb with rfl | hb
   .obtain⟨f,y⟩:=st.1;exact⟨_,y⟩
   .rw[AF.mp hb];obtain⟨o,y,_⟩:=st.2;exact⟨o,y⟩
  .show 2<=sizeLine;decide
  .rcases AR.mp hb with rfl | hb
   .rw[B6 (Ne.symm V)];exact f0
   .rw[AF.mp hb,B6 (Ne.symm Y)];exact g0
 done:=by
  intro X hP hw hK B i O s σ H E I D st hg;subst hP hw hK;obtain⟨xs,Z,hx⟩:=hg;obtain⟨j,rv,p,hz⟩:=I.list Z;obtain⟨f0,f1,f2,f3,f4,f5⟩:=D e (by simp);obtain⟨g0,g1,g2,g3,g4,g5⟩:=D g (by simp);have J:a≠e:=fun z=>by
   obtain⟨f,y⟩:=st.1;obtain⟨o,n,l,c,_⟩:=p;rw[z,y]at l;cases l;exact absurd c (by show ¬Value.type "enumerate" = Value.type "list";decide)
  have L:a≠g:=fun z=>by
   obtain⟨o2,G,c2,d2⟩:=st.2;obtain⟨o,n,l,c,_⟩:=p;rw[z,G]at l;cases l;rw[c2]at c;exact absurd c (by decide)
  have W:=WalksT.enumerate (prog:=X.prog) (w:=X.w) (A:=X.A) (I.ok.hd B) e g a N J L j.toArray;have hl:=rv.length;have hi:i=j.toArray.size:=by rw[AM];omega
  rw[hi]at st;refine W.done s _ _ ⟨st.1,st.2,p.isList⟩ fun h' tk k=>⟨rfl,?_⟩;have I1:=I.step (h':=h') (H':=H) (t':=tk) (g':=s.gens) (d':=s.drawn) (ch:=[e,g]) (fun b hb=>let⟨_,f1,_,f3,f4,f5⟩:=D b hb;⟨f3,f1,f4,f5⟩) (fun b C _ _ B e _=>k b C B e) (fun b C _ _ B e _=>⟨C.slots,k b C B e⟩) (fun _ _ _ _ n=>n)
   (fun b C B e=>⟨C,k b C B e⟩) (fun _ _ e=>e) (fun _ _ _ e=>e) (fun b ps e=>⟨#[],by rw[e];simp⟩) (fun m R=>?_) (fun b u M=>?_) I.bare
  .exact I1
  .obtain⟨C,es,ep,ho,r⟩:=R;exact⟨C,es,ep,k _ C (fun hb=>(D _ hb).2.1 rfl) ho,r⟩
  .have nf:∀b u,H b=some u->b∉[e,g]:=fun b u e hb=>by rw[(D b hb).1]at e;cases e
   refine(I.hok b u M).stay (fun c v B q=>k c v ?_ q) (fun _ q=>q) fun _ _ q=>q;rcases B with z | z
   .rw[z];exact nf b u M
   .exact nf c _ z
 self:=fun A i s Q E st h=>by
  obtain⟨f,he⟩:=st.1;exact wpAny_pyIter_enum he h
section
variable{X:Cx}{elts:A1 IB}{kk:Nat}{tp:Pos}
def zBx(K:PySem.W.Frag)(c:TA):TI:=fun σ H R=>c σ H fun d b=>∃a e,d = [.ref a]/\IA K b a e/\R (Ite K a) b
theorem Zm{a:IB}{g:TA}{p pos:Pos}(m:Gl X "enumerate")(n:X.mg "enumerate" = none)(o:bootBuiltins "enumerate" = some (.type "enumerate"))(r:PA X [a] g)(t:starEach [a] X.env = [(false,eval a X.env)]:=by rfl):PI X (.Tuple elts kk tp) (.Call (.Name "enumerate" p) [a] [] pos) (zBx X.K g):=by
 intro c s σ H R I h;refine Call_ (W7 I m n o (PyProof.Rows.callWith_type1 (IT (r pos c s σ H _ I h) fun F s1 ⟨G,i,d,v,w⟩=>?_) t rfl));obtain⟨l,J,e,x,q⟩:=w;subst e;obtain⟨u,rfl,y⟩:=U8 v;cases y;obtain⟨A,L,B,M⟩:=d.list x;refine call_enumerate_list B.isList fun C j f D k=>wpAny_pyIter_enum j ?_;have E:Inv X c σ i { s1 with heap:=C }:=d.kept (t':=s1.toks) k;refine⟨s1.heap.objs.size+1,[s1.heap.objs.size+1,s1.heap.objs.size],_,_,i,rfl,E,Rl l s1.heap.objs.size (s1.heap.objs.size+1) (Nat.succ_ne_self _),⟨⟨_,j⟩,f⟩,fun b hb=>?_,q⟩;rcases AR.mp hb with z | hb
 .rw[z];exact d.fpOk (EO _) (d.hok.fresh (EO _))
 .rw[AF.mp hb];exact d.fpOk (Nat.le_refl _) (d.hok.fresh (Nat.le_refl _))
end
end L2
namespace ST
open PySem
def stp(mask i:Nat):Nat:=(5*i+1) %(mask+1)
def RB(mask:Nat):Nat->Nat->Nat
 | 0,i=>i
 | t+1,i=>RB mask t (stp mask i)
def orb(mask:Nat):Nat->Nat->A1 Nat
 | 0,_=>[]
 | n+1,i=>i::orb mask n (stp mask i)
def Ja(mask a b i:Nat):RB mask (a+b) i=RB mask b (RB mask a i):=by
 induction a generalizing i with
 | zero=>rw[EY];rfl
 | succ a c=>rw[Nat.succ_add];exact c (stp mask i)
def Tc{mask j:Nat}:∀{n i:Nat},j∈orb mask n i->∃t,t<n/\RB mask t i=j
 | 0,_,h=>by simp[orb]at h
 | n+1,i,h=>by
  rcases AR.mp h with rfl | h
  .exact⟨0,by omega,rfl⟩
  .obtain⟨t,b,a⟩:=Tc h;exact⟨t+1,by omega,a⟩
def RD(mask:Nat):Prop:=mask=7\/mask=31\/mask=127\/mask=511
def QK(mask:Nat):Bool:=(List.range (mask+1)).all (fun j=>(orb mask (mask+1) 0).contains j)&&RB mask (mask+1) 0 == 0
def zEj:QK 7=true:=by decide +kernel
def zBh:QK 31=true:=by decide +kernel
def Yx:QK 127=true:=by decide +kernel
def Xf:QK 511=true:=by decide +kernel
def RD.full{mask:Nat}(h:RD mask):QK mask=true:=by
 rcases h with rfl | rfl | rfl | rfl
 .exact zEj
 .exact zBh
 .exact Yx
 .exact Xf
def cyc{mask:Nat}(h:RD mask){i j:Nat}(hi:i<=mask)(l:j<=mask):∃t,t<=mask/\RB mask t i=j:=by
 have f:=h.full;unfold ST.QK at f;rw[BH,FW]at f;obtain⟨m,d⟩:=f;have d:RB mask (mask+1) 0=0:=by simpa using d
 have c:∀k,k<=mask->∃t,t<mask+1/\RB mask t 0=k:=fun k o=>Tc (by simpa using m k (BX.mpr (by omega)));obtain⟨a,p,e⟩:=c i hi;obtain⟨b,q,g⟩:=c j l;by_cases n:a<=b
 .refine⟨b-a,by omega,?_⟩;rw[<-e,<-Ja,show a +(b-a)=b by omega,g]
 .refine⟨mask+1-a+b,by omega,?_⟩;rw[<-e,<-Ja,show a +(mask+1-a+b) =(mask+1)+b by omega,Ja,d,g]
def NQ(mask:Nat):Nat->Nat×Nat->Nat×Nat
 | 0,x=>x
 | t+1,x=>NQ mask t (SetTable.leap mask x.1 x.2)
def Yb(mask a b:Nat)(x:Nat×Nat):NQ mask (a+b) x=NQ mask b (NQ mask a x):=by
 induction a generalizing x with
 | zero=>rw[EY];rfl
 | succ a c=>rw[Nat.succ_add];exact c _
def Lp(mask:Nat):∀(t:Nat) (x:Nat×Nat),(NQ mask t x).2=x.2 / 32^t
 | 0,x=>by simp[NQ]
 | t+1,x=>by
  show(NQ mask t (SetTable.leap mask x.1 x.2)).2=_;rw[Lp mask t];show x.2 / 32 / 32^t=_;rw[Nat.div_div_eq_div_mul,Nat.pow_succ,Nat.mul_comm]
def Vu(mask:Nat):∀(t:Nat) (x:Nat×Nat),x.1<=mask->(NQ mask t x).1<=mask
 | 0,_,h=>h
 | t+1,x,_=>Vu mask t _ (Nat.lt_succ_iff.mp (Nat.mod_lt _ (Nat.succ_pos _)))
def Lq(mask:Nat):∀(t i:Nat),NQ mask t (i,0) =(RB mask t i,0)
 | 0,_=>rfl
 | t+1,i=>by
  show NQ mask t ((i*5+1+0 / 32) %(mask+1),0 / 32)=_;rw[Nat.zero_div,Nat.add_zero,Lq mask t,Nat.mul_comm];rfl
def Pn{mask:Nat}(h:RD mask){i j p:Nat}(hi:i<=mask)(a:j<=mask)(b:p<2^64):∃t,t<=mask+13/\(NQ mask t (i,p)).1=j:=by
 have c:(NQ mask 13 (i,p)).2=0:=by
  rw[Lp];exact Nat.div_eq_of_lt (BG b (by decide))
 obtain⟨t,e,d⟩:=cyc h (Vu mask 13 (i,p) hi) a;refine⟨13+t,by omega,?_⟩;rw[Yb];have:NQ mask 13 (i,p) =((NQ mask 13 (i,p)).1,0):=Prod.ext rfl c;rw[this,Lq];exact d
def NK(t:IM):Nat->SetTable.Probe->SetTable.Probe
 | 0,p=>p
 | n+1,p=>NK t n (t.advance p)
def Qh(t:IM)(a b:Nat)(p:SetTable.Probe):NK t (a+b) p=NK t b (NK t a p):=by
 induction a generalizing p with
 | zero=>rw[EY];rfl
 | succ a c=>rw[Nat.succ_add];exact c _
def Ra(t:IM):∀(m:Nat) (p:SetTable.Probe),p.more=m->∃a,NK t (m+1) p=a/\a.i =(SetTable.leap t.mask p.i p.perturb).1/\a.perturb =(SetTable.leap t.mask p.i p.perturb).2/\a.j=a.i/\a.more=SetTable.runEnd t.mask a.i-a.i/\a.dummy=p.dummy
 | 0,p,h=>by
  have b:t.advance p ={ p with j:=(SetTable.leap t.mask p.i p.perturb).1,more:=SetTable.runEnd t.mask (SetTable.leap t.mask p.i p.perturb).1-(SetTable.leap t.mask p.i p.perturb).1,i:=(SetTable.leap t.mask p.i p.perturb).1,perturb:=(SetTable.leap t.mask p.i p.perturb).2 }:=by
   unfold SetTable.advance;rw[AJ (by omega)]
  refine⟨t.advance p,rfl,?_⟩;rw[b];exact⟨rfl,rfl,rfl,rfl,rfl⟩
 | m+1,p,h=>by
  have b:t.advance p ={ p with j:=p.j+1,more:=p.more-1 }:=by unfold SetTable.advance;rw[AL (by omega)]
  obtain⟨a,d,c⟩:=Ra t m (t.advance p) (by rw[b];show p.more-1=m;omega);rw[b]at c;exact⟨a,d,c⟩
def Zv(mask i:Nat):SetTable.runEnd mask i-i<=9:=by unfold SetTable.runEnd;split<;>omega
def Pt(t:IM):∀(n:Nat) (p:SetTable.Probe),p.j=p.i->p.more=SetTable.runEnd t.mask p.i-p.i->∃k,k<=10*n/\(NK t k p).j =(NQ t.mask n (p.i,p.perturb)).1
 | 0,p,a,_=>⟨0,by omega,a⟩
 | n+1,p,a,l=>by
  obtain⟨b,e,c,d,f,g,_⟩:=Ra t p.more p rfl;obtain⟨k,m,h⟩:=Pt t n b f g;have:=Zv t.mask p.i;refine⟨p.more+1+k,by omega,?_⟩;rw[Qh,e,h,c,d];rfl
def Hd(t:IM):∀(n:Nat) (p:SetTable.Probe),(NK t n p).dummy=p.dummy
 | 0,_=>rfl
 | n+1,p=>by
  show(NK t n (t.advance p)).dummy=_;rw[Hd t n];unfold SetTable.advance;split<;>rfl
def Sh{t:IM}(a:RD t.mask)(h:Int){j:Nat}(b:j<=t.mask):∃n,n<10*SetTable.turns t.mask/\(NK t n (t.probeStart h)).j=j:=by
 have c:SetTable.bits h<2^64:=by
  unfold SetTable.bits;have g:0<=h %(2^64:Int):=GE _ (by decide);have i:h %(2^64:Int)<2^64:=FC _ (by decide);omega
 have d:SetTable.bits h %(t.mask+1)<=t.mask:=Nat.lt_succ_iff.mp (Nat.mod_lt _ (Nat.succ_pos _));obtain⟨n,l,e⟩:=Pn a d b c;obtain⟨k,m,f⟩:=Pt t n (t.probeStart h) rfl rfl;refine⟨k,by unfold SetTable.turns;omega,f.trans e⟩
def j7{t:IM}(a:t.dummies = #[])(j:Nat):t.slot j = .empty\/∃i,t.slot j = .live i/\t.place[i]?=some j:=by
 unfold SetTable.slot;dsimp only;by_cases h:(t.place[SetTable.below t.place j]? == some j)=true
 .rw[AL h];exact .inr ⟨_,rfl,by simpa using h⟩
 .rw[AJ h];have:SetTable.has t.dummies j=false:=by
   rw[a];unfold SetTable.has;simp
  rw[this];exact .inl rfl
def Nh{t:IM}(c:t.dummies = #[])(f:t.place.size<=t.mask):∃j,j<=t.mask/\t.slot j = .empty:=by
 by_cases h:∃j,j<=t.mask/\t.slot j = .empty
 .exact h
 .exfalso;have a:∀j∈List.range (t.mask+1),j∈t.place.toList:=fun j d=>by
   have b:j<=t.mask:=by have:=BX.mp d;omega
   rcases j7 c j with e | ⟨i,_,e⟩
   .exact absurd ⟨j,b,e⟩ h
   .exact AK (by rw[BS];exact e)
  have:=(GQ (n:=t.mask+1)).length_le_of_subset a;rw[CF,BA]at this;omega
def Vt{t:IM}(o:t.dummies = #[])(hashAt:Nat->Int)(h:Int)(p:SetTable.Probe)(c:p.dummy=none):∀(k m n a:Nat),m+k=n->t.slot (NK t n p).j = .empty->k<a ->
  (∃j,SetTable.probe.go t hashAt h a (NK t m p)=some (.empty j none)/\t.slot j = .empty) \/
   ∃l i,m<=l/\l<n/\t.slot (NK t l p).j = .live i/\hashAt i=h/\SetTable.probe.go t hashAt h a (NK t m p)=some (.candidate (NK t l p).j i (NK t (l+1) p))
 | k,m,n,0,_,_,q=>absurd q (EF _)
 | k,m,n,a+1,e,r,q=>by
  have d:(NK t m p).dummy=none:=(Hd t m p).trans c;have s:NK t (m+1) p=t.advance (NK t m p):=Qh t m 1 p;rcases j7 o (NK t m p).j with b | ⟨i,b,A⟩
  .refine .inl ⟨(NK t m p).j,?_,b⟩;unfold SetTable.probe.go;rw[b,d]
  .have B:k≠0:=by
    rintro rfl;have:m=n:=by omega
    subst this;rw[r]at b;cases b
   by_cases f:hashAt i=h
   .refine .inr ⟨m,i,Nat.le_refl _,by omega,b,f,?_⟩;unfold SetTable.probe.go;rw[b];dsimp only;rw[AL (by simpa using f),s]
   .have u:SetTable.probe.go t hashAt h (a+1) (NK t m p)=SetTable.probe.go t hashAt h a (NK t (m+1) p):=by
     conv=>lhs;unfold SetTable.probe.go
     rw[b];dsimp only;rw[AJ (by simpa using f),s]
    rcases Vt o hashAt h p c (k-1) (m+1) n a (by omega) r (by omega)with⟨j,v,g⟩ | ⟨l,w,v,g,x,y,z⟩
    .exact .inl ⟨j,u.trans v,g⟩
    .exact .inr ⟨l,w,by omega,g,x,y,u.trans z⟩
def Dz{α β:Type}{f g:α->A5 β}:∀{l:A1 α},(∀x∈l,f x=g x)->l.filterMap f=l.filterMap g
 | [],_=>rfl
 | a::r,h=>by
  have b:=h a (BP ..);have c:=Dz (l:=r) fun x d=>h x (BF _ d);rw[EB,EB,b,c]
def Wr{α:Type}{f g:Nat->A5 α}{j:Nat}{k:α}(d:g j=some k)(m:f j=none):∀{l:A1 Nat},l.Nodup->j∈l->(∀i,i≠j->g i=f i)->(l.filterMap g).Perm (k::l.filterMap f)
 | [],_,h,_=>by simp at h
 | i::r,o,h,a=>by
  obtain⟨p,q⟩:=CQ.mp o;by_cases e:i=j
  .subst e;have er:r.filterMap g=r.filterMap f:=Dz fun x s=>a x fun z=>p (z▸s);rw[C_ d,EL m,er]
  .have n:=Wr d m q ((AR.mp h).resolve_left fun z=>e z.symm) a;cases c:f i with
   | none=>rw[EL ((a i e).trans c),EL c];exact n
   | some b =>
    rw[C_ ((a i e).trans c),C_ c];exact(List.Perm.cons b n).trans (List.Perm.swap _ _ _)
def SL(mask:Nat)(a:F1 (A5 Nat)):A1 Nat:=(List.range (mask+1)).filterMap fun j=>a.getD j none
structure LI(mask:Nat)(ow:F1 (A5 Nat))(k:Nat):Prop where
 sz:ow.size=mask+1
 pm:(SL mask ow).Perm (List.range k)
def Om{mask:Nat}{b:F1 (A5 Nat)}{j:Nat}(c:b[j]?=some none):∀(t a i p:Nat),(NQ mask t (i,p)).1=j->t<a->∃d,SetTable.layClean.free mask b a i p=some d/\b[d]?=some none
 | t,0,_,_,_,h=>absurd h (EF _)
 | t,a+1,i,p,e,h=>by
  unfold SetTable.layClean.free;cases q:(List.range (SetTable.runEnd mask i+1-i)).find? fun k=>(b.getD (i+k) (some 0)).isNone with
  | some k =>
   refine⟨i+k,rfl,?_⟩;have:=List.find?_some q;rw[CL]at this;cases g:b[i+k]? with
   | none=>rw[g]at this;simp at this
   | some z=>rw[g]at this;simp at this;rw[this]
  | none =>
   dsimp only;cases t with
   | zero =>
    exfalso;have f:i=j:=e;subst f;have l:0∈List.range (SetTable.runEnd mask i+1-i):=BX.mpr (by unfold SetTable.runEnd;split<;>omega);have:=List.find?_eq_none.mp q 0 l;rw[CL,Nat.add_zero,c]at this;simp at this
   | succ t=>exact Om c t a _ _ e (by omega)
def LI.room{mask:Nat}{a:F1 (A5 Nat)}{k:Nat}(h:LI mask a k)(p:k<=mask):∃j,j<=mask/\a[j]?=some none:=by
 by_cases q:∃j,j<=mask/\a[j]?=some none
 .exact q
 .exfalso;have b:∀j∈List.range (mask+1),∃v,a.getD j none=some v:=fun j c=>by
   have g:j<a.size:=by rw[h.sz];exact BX.mp c
   cases e:a[j]? with
   | none=>rw[Array.getElem?_eq_none_iff]at e;omega
   | some v =>
    cases v with
    | none=>exact absurd ⟨j,by have:=BX.mp c;omega,e⟩ q
    | some v=>exact⟨v,by rw[CL,e];rfl⟩
  have i:∀l:A1 Nat,(∀j∈l,∃v,a.getD j none=some v)->(l.filterMap fun j=>a.getD j none).length=l.length:=by
   intro l
   induction l with
   | nil=>intro _;rfl
   | cons j r m =>
    intro d;obtain⟨v,n⟩:=d j (BP ..);rw[C_ (f:=fun j=>a.getD j none) n,BJ,BJ,m fun x o=>d x (BF _ o)]
  have:=h.pm.length_eq;unfold SL at this;rw[i _ b,CF,CF]at this;omega
def LI.put{mask:Nat}{a:F1 (A5 Nat)}{k j:Nat}(h:LI mask a k)(c:a[j]?=some none):LI mask (a.setIfInBounds j (some k)) (k+1):=by
 have b:j<a.size:=by
  obtain⟨d,_⟩:=GM.mp c;exact d
 refine⟨by rw[GW];exact h.sz,?_⟩;have p:=Wr (f:=fun j=>a.getD j none) (g:=fun i=>(a.setIfInBounds j (some k)).getD i none) (j:=j) (k:=k) (by rw[CL,Array.getElem?_setIfInBounds_self_of_lt b];rfl) (by rw[CL,c];rfl)
  (l:=List.range (mask+1)) GQ (BX.mpr (by rw[<-h.sz];exact b)) fun i m=>by
   rw[CL,Array.getElem?_setIfInBounds_ne (Ne.symm m),<-CL]
 have e:List.range (k+1)=List.range k ++ [k]:=EG;refine p.trans ?_;rw[e];exact(List.Perm.cons k h.pm).trans (CT (l₁:=[k]))
def Xx(h:Int):SetTable.bits h<2^64:=by
 unfold SetTable.bits;have a:0<=h %(2^64:Int):=GE _ (by decide);have b:h %(2^64:Int)<2^64:=FC _ (by decide);omega
def Ws{mask:Nat}(f:RD mask):∀(d:A1 Int) (b:F1 (A5 Nat)) (k:Nat),LI mask b k->k+d.length<=mask->∃c,(d.foldl (init:=some (b,k)) fun e h=>do
   let(a,k) <-e
   let j <-SetTable.layClean.free mask a (SetTable.turns mask) (SetTable.bits h %(mask+1)) (SetTable.bits h)
   pure (a.setIfInBounds j (some k),k+1))=some (c,k+d.length)/\LI mask c (k+d.length)
 | [],b,k,h,_=>⟨b,rfl,h⟩
 | x::r,b,k,h,l=>by
  rw[BJ]at l;obtain⟨j,m,n⟩:=h.room (by omega);obtain⟨t,v,o⟩:=Pn f (i:=SetTable.bits x %(mask+1)) (j:=j) (Nat.lt_succ_iff.mp (Nat.mod_lt _ (Nat.succ_pos _))) m (Xx x);obtain⟨g,p,q⟩:=Om n t (SetTable.turns mask) _ _ o (by unfold SetTable.turns;omega);obtain⟨c,s,u⟩:=Ws f r (b.setIfInBounds g (some k)) (k+1) (h.put q) (by omega);refine⟨c,?_,by rw[BJ,show k +(r.length+1)=k+1+r.length by omega];exact u⟩;rw[List.foldl_cons];show List.foldl _ ((SetTable.layClean.free mask b (SetTable.turns mask) (SetTable.bits x %(mask+1)) (SetTable.bits x)).bind fun j=>some (b.setIfInBounds j (some k),k+1)) r=_;rw[p];show List.foldl _ (some (b.setIfInBounds g (some k),k+1)) r=_;rw[BJ,show k +(r.length+1)=k+1+r.length by omega];exact s
def Za{mask:Nat}(h:RD mask)(finger moves:Nat)(led plain:Bool)(c:F1 Int)(l:c.size<=mask) :
  ∃place a,SetTable.laid mask finger moves led plain c=some ({ mask,place,dummies:=#[],finger,led,moves,plain },a)/\place.size=c.size/\a.toList.Perm (List.range c.size):=by
 have i:LI mask (Array.replicate (mask+1) none) 0:=by
  refine⟨Array.size_replicate,?_⟩;have:SL mask (Array.replicate (mask+1) none) = []:=by
   unfold SL;rw[List.filterMap_eq_nil_iff];intro j m;rw[CL,Array.getElem?_replicate];split<;>rfl
  rw[this];exact List.Perm.refl _
 obtain⟨b,e,d⟩:=Ws h c.toList _ 0 i (by rw[BA];omega);rw[EY,BA]at e d;have k:SetTable.layClean mask c=some b:=by
  unfold SetTable.layClean;rw[<-Array.foldl_toList,e];rfl
 have g:((List.range (mask+1)).filterMap fun j=>(b.getD j none).map (j,·)).map (·.2)=SL mask b:=by
  unfold SL;rw[List.map_filterMap];refine Dz fun j _=>?_;cases b.getD j none<;>rfl
 refine⟨(((List.range (mask+1)).filterMap fun j=>(b.getD j none).map (j,·)).map (·.1)).toArray,(((List.range (mask+1)).filterMap fun j=>(b.getD j none).map (j,·)).map (·.2)).toArray,?_,?_,?_⟩
 .unfold SetTable.laid;rw[k];rfl
 .rw[AM,AB,<-AB (f:=(·.2)),g,d.pm.length_eq,CF]
 .show(((List.range (mask+1)).filterMap fun j=>(b.getD j none).map (j,·)).map (·.2)).Perm _;rw[g];exact d.pm
def Vi{c:F1 (Int×A2)}{b:F1 Nat}(h:b.toList.Perm (List.range c.size)):(b.filterMap (c[·]?)).toList.Perm c.toList:=by
 rw[Array.toList_filterMap];refine(h.filterMap _).trans (List.Perm.of_eq ?_);refine GJ fun t=>?_;have:(List.range c.size).filterMap (fun x=>c[x]?)=c.toList:=by
  have:∀(l:A1 (Int×A2)),(List.range l.length).filterMap (fun x=>l[x]?)=l:=by
   intro l
   induction l with
   | nil=>rfl
   | cons a r d =>
    rw[BJ,List.range_succ_eq_map,C_ (by rfl:(a::r)[0]?=some a),List.filterMap_map];congr 1
  have q:=this c.toList;rw[BA]at q;simpa using q
 rw[this]
section
variable{prog:A7}{w:HW}{K:Type}[DecidableEq K]{knd:KeyKind prog w K}{A:IC}{E:A2->A4->Prop}{s:A4}
structure RU(t:IM)(n:Nat):Prop where
 dm:t.dummies = #[]
 pl:t.place.size=n
 mm:RD t.mask
 rm:n*5<t.mask*3
theorem RU.fits{t:IM}{n:Nat}(h:RU t n):t.fits n=true:=by
 have:=h.rm;have:=h.pl;unfold SetTable.fits SetTable.fill;rw[h.dm];simp;omega
theorem RU.odd{t:IM}{n:Nat}(h:RU t n):t.gaveWay=false:=by
 unfold SetTable.gaveWay;rcases h.mm with e | e | e | e<;>rw[e]<;>rfl
def SD(knd:KeyKind prog w K)(a:F1 (Int×A2))(ks:A1 (A1 K×A3)):Prop:=a.toList.Perm (ks.map fun q=>((tupleKind knd).hash q.1,Value.ref q.2))
def MY(knd:KeyKind prog w K)(h:H_)(a:A3)(ks:A1 (A1 K×A3)):Prop:=∃o b c t,h.get? a=some o/\o.ExactSet/\o.data = .set b c t/\SD knd b ks/\RU t b.size
theorem SD.get{a:F1 (Int×A2)}{ks:A1 (A1 K×A3)}(h:SD knd a ks){i:Nat}{e:Int×A2}(b:a[i]?=some e):∃k p,(k,p)∈ks/\e =((tupleKind knd).hash k,.ref p):=by
 have:e∈a.toList:=AK (by rw[BS];exact b);obtain⟨q,c,rfl⟩:=AV.mp (h.mem_iff.mp this);exact⟨q.1,q.2,c,rfl⟩
theorem Bc{β:Type}{c:β}{f:A2->β->Sem (ForInStep β)}:∀{l:A1 A2},(∀y∈l,f y c=pure (.yield c))->forIn l c f=pure c
 | [],_=>List.forIn_nil
 | a::r,h=>by
  rw[FK,h a (BP ..),pure_bind];exact Bc fun y b=>h y (BF _ b)
theorem Gs{ks:A1 K}{vs:A1 A2}(h:ItemsAre knd ks vs):∀v∈vs,∃x,knd.is x v=true:=by
 induction h with
 | nil=>intro v hv;simp at hv
 | cons a _ b =>
  intro v hv;rcases AR.mp hv with rfl | hv
  .exact⟨_,a⟩
  .exact b v hv
def Flat(knd:KeyKind prog w K):Prop:=∀v,(∃x,knd.is x v=true)->carriedByValue v=true
theorem Flat.no{v:A2}(a:Flat knd)(h:∃x,knd.is x v=true)(d:Nat):ofAClassStatement d v=pure false:=by
 have:=a v h;cases v<;>first
  | (cases d<;>rfl)
  | (exact absurd this (by intro z;cases z))
theorem Wi{k:A1 K}{p:A3}{Q:Bool->A4->Prop}(c:Flat knd)(d:(tupleKind knd).is s.heap k p)(h:Q false s):wpAny (model prog w) A (ofAClassStatement 8 (.ref p)) Q E s:=by
 obtain⟨o,a,n,b,e,f,g⟩:=d;have i:s.TypeIs (.ref p) "tuple":=⟨o,b,e⟩;unfold ofAClassStatement;refine AA (wpAny_typeOf i ?_);dsimp only;rw[AL (by rfl)];refine AA (AG ?_);simp only[EZ,AY,CJ];refine AA (DC b f ?_);dsimp only;rw[<-HD,Bc fun y j=>by rw[c.no (Gs g y j)];rfl];exact AA (AG (AG h))
theorem zAx{m:A1 K}{b:A3}{Q:Bool->A4->Prop}(g:Flat knd)(i:(tupleKind knd).is s.heap m b)(h:Q false s){l:A1 A2}(n:∀v∈l,∃k p,v = .ref p/\(tupleKind knd).is s.heap k p) :
  wpAny (model prog w) A (searchCouldBeSeen (.ref b) l) Q E s:=by
 unfold searchCouldBeSeen;refine AA (wpAny_forIn_list _ (fun a c d=>d=s/\c =(none,())/\∀v∈a,v∈l) _ ?_ ?_ l _ ⟨rfl,rfl,fun _ h=>h⟩)
 .rintro v a c d ⟨rfl,rfl,e⟩;obtain⟨k,p,rfl,j⟩:=n v (e v (BP ..));dsimp only;have o:carriedByValue (Value.ref b)=false:=rfl;rw[o,ER,Bool.or_false];split
  .exact AG ⟨rfl,rfl,fun u f=>e u (BF _ f)⟩
  .refine AA ((tupleKind knd).quiet i ?_);simp only[EZ,AY,CJ];refine AA ((tupleKind knd).quiet j ?_);simp only[EZ,AY,CJ];refine AA (Wi g i ?_);simp only[AY,CJ];refine AA (Wi g j ?_);simp only[AY,CJ];exact AG ⟨rfl,rfl,fun u f=>e u (BF _ f)⟩
 .rintro c d ⟨rfl,rfl,_⟩;exact AG h
theorem Vh(t:IM):t.sameMemory t.moves t.mask=some true:=by
 unfold SetTable.sameMemory;simp
theorem Hu{a:A3}{o:Obj}{r:F1 (Int×A2)}{ep:Nat}{t:IM}{ks:A1 (A1 K×A3)}{d:A1 K}{G:A3}{c:Bool}{Q:SetFound->A4->Prop}{n:Nat}
  (hr:(tupleKind knd).room A) (hF:Flat knd) (U:s.heap.get? a=some o) (V:o.data = .set r ep t) (W:SD knd r ks) (D:RU t r.size)
  (H:∀q∈ks,(tupleKind knd).is s.heap q.1 q.2) (X:(tupleKind knd).is s.heap d G) (M:∀q∈ks,q.1≠d) (hn:n<10*SetTable.turns t.mask)
  (he:t.slot (NK t n (t.probeStart ((tupleKind knd).hash d))).j = .empty) (h:∀j,t.slot j = .empty->Q (.free j false) s) :
  ∀(k m b:Nat) (e:A5 SetTable.Probe),e.getD (t.probeStart ((tupleKind knd).hash d))=NK t m (t.probeStart ((tupleKind knd).hash d))->m+k=n->k<b ->
   wpAny (model prog w) A (setSearchFrom a (.ref G) ((tupleKind knd).hash d) c b e) Q E s:=by
 intro k
 induction k using Nat.strongRecOn with
 | _ k ih =>
  intro m b e N O hf;cases b with
  | zero=>omega
  | succ b =>
   unfold setSearchFrom;refine AA (FR U V D.fits ?_);dsimp only;rw[D.odd];simp only[AY,CJ];rw[N];unfold SetTable.probe;rcases Vt D.dm _ ((tupleKind knd).hash d) (t.probeStart ((tupleKind knd).hash d)) rfl k m n (10*SetTable.turns t.mask) O he (by omega)with⟨j,F,Y⟩ | ⟨l,i,h1,h2,F,Y,e3⟩
   .rw[F];dsimp only;exact AG (h j Y)
   .rw[e3];dsimp only;obtain⟨u,I,P⟩:∃u,t.slot (NK t l (t.probeStart ((tupleKind knd).hash d))).j = .live u/\t.place[u]?=some (NK t l (t.probeStart ((tupleKind knd).hash d))).j:=by
     rcases j7 D.dm (NK t l (t.probeStart ((tupleKind knd).hash d))).j with z | z
     .rw[z]at F;cases F
     .exact z
    rw[F]at I;cases I;have R:i<r.size:=by
     have:=(GM.mp P).1;rw[D.pl]at this;exact this
    obtain⟨J,f⟩:∃J,r[i]?=some J:=⟨r[i],GM.mpr ⟨R,rfl⟩⟩;obtain⟨k',p',L,rfl⟩:=W.get f;have B:∀v∈(r.filter (·.1 ==(tupleKind knd).hash d)).toList.map (·.2),∃k p,v = .ref p/\(tupleKind knd).is s.heap k p:=by
     intro v hv;obtain⟨z,Z,rfl⟩:=AV.mp hv;have S:z∈r.toList:=by
      rw[Array.toList_filter]at Z;exact(BM.mp Z).1
     obtain⟨q,hq,rfl⟩:=AV.mp (W.mem_iff.mp S);exact⟨q.1,q.2,rfl,H q hq⟩
    have x:wpAny (model prog w) A (do
      let some (_,y):=r[i]? | unsupported "internal:set-entry"
      let g <-holding [y] (eqBool y (.ref G))
      let(T,_,t') <-setState a
      if c&&g then return .there none
      let some same:=t'.sameMemory t.moves t.mask | unsupported "set.changed-during-lookup:is-the-new-block-at-the-old-address"
      let C <-match(if same then t'.slot (NK t l (t.probeStart ((tupleKind knd).hash d))).j else .empty)with
       | .live u=>match T[u]? with
        | some (_,y')=>do pure (if <-isSame y' y then some u else none)
        | none=>pure none
       | _=>pure none
      match C with
      | none=>rule "set.search.anew";setSearchFrom a (.ref G) ((tupleKind knd).hash d) c b none
      | some u=>if g then return .there (some u)else setSearchFrom a (.ref G) ((tupleKind knd).hash d) c b (some (NK t (l+1) (t.probeStart ((tupleKind knd).hash d))))) Q E s:=by
     rw[f];dsimp only;refine AA (BU ((tupleKind knd).eqBool hr (H _ L) X ?_));rw[BD (M _ L)];refine AA (FR U V D.fits ?_);dsimp only;rw[Vh,HL];simp only[AY,CJ,ES];rw[F];dsimp only;rw[f];dsimp only;refine AA (wpAny_isSame_ref_self (AA (AG ?_)));simp only[ES];exact ih (n-(l+1)) (by omega) (l+1) b _ rfl (by omega) (by omega)
    cases hled:t.led with
    | true =>
     simp only[EZ,AY,CJ];exact x
    | false =>
     simp only[Bool.not_false,ES];refine AA (zAx hF X ?_ B);simp only[AY,CJ];exact x
theorem Ad{a:A3}{o:Obj}{f:F1 (Int×A2)}{ep:Nat}{t:IM}{ks:A1 (A1 K×A3)}{d:A1 K}{k:A3}{b:Bool}{Q:SetFound->A4->Prop}
  (l:(tupleKind knd).room A) (m:Flat knd) (p:s.heap.get? a=some o) (r:o.data = .set f ep t) (u:SD knd f ks) (c:RU t f.size)
  (g:∀q∈ks,(tupleKind knd).is s.heap q.1 q.2) (v:(tupleKind knd).is s.heap d k) (i:∀q∈ks,q.1≠d) (h:∀j,t.slot j = .empty->Q (.free j false) s) :
  wpAny (model prog w) A (setSearch a (.ref k) ((tupleKind knd).hash d) b) Q E s:=by
 obtain⟨j,x,y⟩:=Nh c.dm (by rw[c.pl];have:=c.rm;omega);obtain⟨n,z,e⟩:=Sh c.mm ((tupleKind knd).hash d) x;unfold setSearch;refine Hu l m p r u c g v i z (by rw[e];exact y) h n 0 100000 none rfl (by omega) ?_;have:SetTable.turns t.mask<=526:=by
  unfold SetTable.turns;rcases c.mm with e | e | e | e<;>omega
 omega
theorem MY.typeIs{a:A3}{ks:A1 (A1 K×A3)}(h:MY knd s.heap a ks):s.TypeIs (.ref a) "set":=let⟨o,_,_,_,b,c,_⟩:=h;⟨o,b,c.1⟩
theorem Qr{a:A3}{b:F1 (Int×A2)}:byScan (.ref a) b=false:=rfl
theorem Oi{a:A3}{ks:A1 (A1 K×A3)}{b:A1 K}{e:A3}{Q:A5 Nat->A4->Prop}(k:(tupleKind knd).room A)(l:Flat knd)(m:MY knd s.heap a ks)
  (c:∀q∈ks,(tupleKind knd).is s.heap q.1 q.2) (n:(tupleKind knd).is s.heap b e) (d:∀q∈ks,q.1≠b) (h:Q none s):wpAny (model prog w) A (setFind a (.ref e) ((tupleKind knd).hash b)) Q E s:=by
 obtain⟨o,r,u,t,f,_,g,p,i⟩:=m;unfold setFind setFindIn;refine AA (FR f g i.fits ?_);dsimp only;rw[Qr];simp only[AY,CJ];refine AA (Ad k l f g p i c n d fun j _=>?_);dsimp only;exact AG h
theorem RJ{neg:Bool}{a:A3}{ks:A1 (A1 K×A3)}{b:A1 K}{d:A3}{Q:A2->A4->Prop}(g:A.units+1<cLine)(j:Flat knd)(c:MY knd s.heap a ks)
  (e:∀q∈ks,(tupleKind knd).is s.heap q.1 q.2) (i:(tupleKind knd).is s.heap b d) (f:∀q∈ks,q.1≠b) (h:Q (.bool false) { s with toks:=s.toks +(tupleKind knd).draws b }) :
  wpAny (model prog w) A (compareOp .In (.ref d) (.ref a)) Q E s:=by
 show wpAny _ _ (do return .bool (<-contains (.ref a) (.ref d))) Q E s;refine AA ?_;unfold contains
 try with_reducible refine BU ?_
 refine AA (HB c.typeIs F.slot_set_contains.lookup ?_);show wpAny _ _ (if(some (Value.builtin "set.__contains__") == some Value.none)=true then _ else _) _ E s;rw[AJ (by rw[beq_builtin_none];exact AZ)];refine AA (wpAny_callSpecialUnlessNone?_slot (name:=Str.ofString "__contains__") c.typeIs F.slot_set_contains
  (DW F.slot_set_contains c.typeIs entry_set_contains ?_ (F.args_set_contains_2 _ _)))
 unfold Builtin.«frozenset.__contains__» Builtin.Frozenset.oneOther;simp only[List.isEmpty_nil,bind_assoc];unfold Builtin.Frozenset.addrOf Builtin.Frozenset.withSetAsKey setContains;refine AA (AG ?_)
 try dsimp only
 refine AA (AG ?_)
 try dsimp only
 refine AA (FY ?_);refine BU ?_;refine AA ((tupleKind knd).pyHash ?hroom i ?_)
 case hroom=>exact g
 refine AA (Oi (s:={ s with toks:=s.toks +(tupleKind knd).draws b }) ?hroom j c e i f ?_)
 case hroom=>exact g
 refine AG ?_;show wpAny _ _ (ret (Value.bool false)) _ _ _;exact AG ⟨_,rfl,DE (AG h)⟩
def RN(knd:KeyKind prog w K):Prop:=∀v,(∃x,knd.is x v=true)->v.scannable=true
theorem hbv{j:A1 K}{f:A3}{Q:Bool->A4->Prop}(k:RN knd)(l:(tupleKind knd).is s.heap j f)(h:∀b,Q b s):wpAny (model prog w) A (hashByValue 8 (.ref f)) Q E s:=by
 obtain⟨o,d,n,g,m,p,r⟩:=l;have t:s.TypeIs (.ref f) "tuple":=⟨o,g,m⟩;unfold hashByValue;refine AA (HB t F.slot_tuple_hash.lookup ?_);dsimp only;refine AA (DC g p ?_);dsimp only[Option.getD_some];rw[<-HD];refine AA (CB (wpAny_forIn_list _ (fun a c e=>e=s/\c =(none,())/\∀v∈a,v∈d.toList) (fun c e=>e=s/\(c =(none,())\/c =(some false,()))) ?_ ?_ _ _ ⟨rfl,rfl,fun _ z=>z⟩) ?_ fun _ _ q=>q)
 .rintro v a c e ⟨rfl,rfl,i⟩;rw[hashByValue_scannable _ (k v (Gs r v (i v (BP ..))))];refine AA (AG ?_);cases plainKind v with
  | true =>
   simp only[EZ,AY,CJ];exact AG ⟨rfl,rfl,fun u x=>i u (BF _ x)⟩
  | false =>
   simp only[Bool.not_false,ES];exact AG ⟨rfl,.inr rfl⟩
 .rintro c e ⟨rfl,rfl,_⟩;exact⟨rfl,.inl rfl⟩
 .rintro c e ⟨rfl,rfl | rfl⟩
  .exact AG (h _)
  .exact AG (h _)
theorem Y7{α:Type}(xs:F1 α)(p:Nat)(x:α)(a:p<=xs.size):(SetTable.insertAt xs p x).size=xs.size+1:=by
 unfold SetTable.insertAt;rw[Array.size_append,Array.size_push,GA,GA];omega
theorem Ec{α:Type}(xs:F1 α)(p:Nat)(x:α)(b:p<=xs.size):(SetTable.insertAt xs p x).toList.Perm (xs.toList ++ [x]):=by
 unfold SetTable.insertAt;rw[BO,DI,EN,EN];simp only[EJ,EM,Nat.sub_zero];have e:List.take (xs.size-p) (List.drop p xs.toList)=List.drop p xs.toList:=by
  rw[CZ];rw[CY,BA];omega
 rw[e];have a:xs.toList=xs.toList.take p++xs.toList.drop p:=(BR ..).symm
 conv=>rhs;rw[a]
 rw[BI,BI];exact DH _ CT
theorem W9(xs:F1 Nat)(j:Nat):∀(f lo hi:Nat),lo<=hi->SetTable.below.go xs j f lo hi<=hi
 | 0,lo,hi,h=>h
 | f+1,lo,hi,h=>by
  unfold SetTable.below.go;split
  .rename_i a;dsimp only;split
   .exact W9 xs j f _ _ (by omega)
   .exact Nat.le_trans (W9 xs j f _ _ (by omega)) (by omega)
  .exact h
theorem Vl(xs:F1 Nat)(j:Nat):SetTable.below xs j<=xs.size:=W9 xs j _ _ _ (CI _)
theorem zCn{t:IM}(a:t.dummies = #[])(j:Nat):t.put j =({ t with place:=SetTable.insertAt t.place (SetTable.below t.place j) j },SetTable.below t.place j):=by
 unfold SetTable.put;have:SetTable.has t.dummies j=false:=by
  rw[a];unfold SetTable.has;simp
 rw[this];rfl
theorem zGm:SetTable.sizeAbove 20=32:=by decide
theorem zGf:SetTable.sizeAbove 76=128:=by decide
theorem zEe:SetTable.sizeAbove 308=512:=by decide
theorem Tp{f:F1 (Int×A2)->A5 (IM×F1 Nat)->Sem (F1 (Int×A2)×IM)}(y:∀c g,f c g =(do
  let some (t,b):=g | unsupported "internal:set-table-without-room"
  let d:=b.filterMap (c[·]?)
  if d.size != c.size then unsupported "internal:set-table-lost-an-element"
  pure (d,t)))
  {a:A3} {o:Obj} {c:F1 (Int×A2)} {ep:Nat} {t:IM} {n m:Nat} {Q:Unit->A4->Prop} (q:s.heap.get? a=some o) (r:o.data = .set c ep t) (z:t.dummies = #[]) (j:t.fits c.size=true)
  (l:SetTable.sizeAbove n=m+1) (i:RD m) (hsz:c.size*5<m*3)
  (h:∀(d:F1 (Int×A2)) (t':IM),d.toList.Perm c.toList->RU t' d.size->Q () { s with heap:=s.heap.update a (Obj.putSet d t') }) :
  wpAny (model prog w) A (do
   let(c,_,t) <-setState a
   if SetTable.sizeAbove n>sizeLine then unsupported "set:memory"
   let(c,t) <-f c (t.relaid (c.map (·.1)) n)
   storeSet a c t) Q E s:=by
 refine AA (FR q r j ?_);dsimp only;have p:m<=511:=by rcases i with e | e | e | e<;>omega
 rw[l,AJ (by rw[sizeLine_eq];omega)];rw[y];have B:(c.map (·.1)).size<=m:=by rw[HJ];omega
 obtain⟨place,b,u,C,v⟩:=Za i t.finger (t.movedTo (SetTable.sizeAbove n-1)) t.led t.plain (c.map (·.1)) B;have D:t.relaid (c.map (·.1)) n=some ({ mask:=m,place,dummies:=#[],finger:=t.finger,led:=t.led,moves:=t.movedTo (SetTable.sizeAbove n-1),plain:=t.plain },b):=by
  unfold SetTable.relaid;rw[l];rw[l]at u;exact u
 rw[D];dsimp only;have x:(b.filterMap (c[·]?)).toList.Perm c.toList:=Vi (by rw[HJ]at v;exact v);have k:(b.filterMap (c[·]?)).size=c.size:=by rw[<-BA,x.length_eq,BA]
 rw[AJ (by rw[k];simp)];refine AA (AG ?_);dsimp only;refine wpAny_storeSet_of q r (h _ _ x ⟨rfl,?_,i,?_⟩) (by rw[k,sizeLine_eq];omega)
 .rw[k,C,HJ]
 .rw[k];exact hsz
theorem Qc{h:H_}{a:A3}{o:Obj}{d:F1 (Int×A2)}{ep:Nat}{t:IM}(e:h.get? a=some o)(c:o.data = .set d ep t)(b:F1 (Int×A2))(t':IM) :
  (h.update a (Obj.putSet b t')).get? a=some { o with data:=.set b (ep+1) t' }:=by
 have:=DN (Obj.putSet b t') e (by rw[putSet_of b t' c];rfl);rw[putSet_of b t' c]at this;exact this
theorem Nt{a:A3}{ks:A1 (A1 K×A3)}{g:A1 K}{l:A3}{Q:Bool->A4->Prop}(V:(tupleKind knd).room A)(W:Flat knd)(X:RN knd)(Y:MY knd s.heap a ks)
  (I:∀q∈ks,(tupleKind knd).is s.heap q.1 q.2) (S:(tupleKind knd).is s.heap g l) (J:∀q∈ks,q.1≠g) (hl:ks.length+1<=300)
  (h:∀h',Heap.SameBut a s.heap h'->MY knd h' a (ks ++ [(g,l)])->Q true { s with heap:=h' }) :
  wpAny (model prog w) A (setAddHashed a (.ref l) ((tupleKind knd).hash g)) Q E s:=by
 obtain⟨o,c,ep,t,y,z,B,L,i⟩:=Y;have Z:c.size=ks.length:=by
  have:=L.length_eq;rw[BA,AB]at this;exact this
 unfold setAddHashed setAddHashedIn;refine BU ?_;refine AA (FR y B i.fits ?_);dsimp only;rw[Qr];simp only[AY,CJ];refine AA (Ad V W y B L i I S J fun j hj=>?_);dsimp only;refine AA (FR y B i.fits ?_);dsimp only;rw[zCn i.dm];dsimp only;have M:=Vl t.place j;have C:SetTable.below t.place j<=c.size:=by rw[i.pl]at M;exact M
 have hrm:=i.rm;have p:=i.mm;have d:=Y7 c (SetTable.below t.place j) ((tupleKind knd).hash g,Value.ref l) C;have N:=Ec c (SetTable.below t.place j) ((tupleKind knd).hash g,Value.ref l) C;have D:∀f:F1 (Int×A2),f.toList.Perm (SetTable.insertAt c (SetTable.below t.place j) ((tupleKind knd).hash g,Value.ref l)).toList->SD knd f (ks ++ [(g,l)]):=fun f O=>by
  unfold SD;rw[AO];exact O.trans (N.trans (L.append_right _))
 have r:∀n:IM,n.dummies = #[]->n.mask=t.mask->n.place.size=c.size+1->wpAny (model prog w) A (do
   storeSet a (SetTable.insertAt c (SetTable.below t.place j) ((tupleKind knd).hash g,Value.ref l)) n
   if(!false&&n.tooFull)=true then do
    setRelay a (SetTable.grown (c.size+1))
    pure true
   else pure true) Q E s:=by
  intro n G H P;refine AA (wpAny_storeSet_of y B ?_ (by rw[d,sizeLine_eq];omega));have u:=Qc y B (SetTable.insertAt c (SetTable.below t.place j) ((tupleKind knd).hash g,Value.ref l)) n;have F:=ED s.heap a (Obj.putSet (SetTable.insertAt c (SetTable.below t.place j) ((tupleKind knd).hash g,Value.ref l)) n);have R:n.tooFull=decide ((c.size+1)*5 ≥ t.mask*3):=by
   unfold SetTable.tooFull SetTable.fill;rw[G,H,P];rfl
  rw[R,Bool.not_false,Bool.true_and];by_cases k:(c.size+1)*5 ≥ t.mask*3
  .rw[BB k,AL rfl];have v:∃m,SetTable.sizeAbove (SetTable.grown (c.size+1))=m+1/\RD m/\(c.size+1)*5<m*3:=by
    have hg:SetTable.grown (c.size+1) =(c.size+1)*4:=by
     unfold SetTable.grown;rw[AJ (by omega)]
    rw[hg];rcases p with e | e | e | e
    .have:c.size+1=5:=by omega
     rw[this];exact⟨31,zGm,.inr (.inl rfl),by decide⟩
    .have:c.size+1=19:=by omega
     rw[this];exact⟨127,zGf,.inr (.inr (.inl rfl)),by decide⟩
    .have:c.size+1=77:=by omega
     rw[this];exact⟨511,zEe,.inr (.inr (.inr rfl)),by decide⟩
    .omega
   obtain⟨m,c1,c2,c3⟩:=v;refine AA ?_;unfold setRelay;refine Tp (fun _ _=>rfl) (s:={ s with heap:=_ }) u rfl G ?_ c1 c2 (by rw[d];exact c3) fun f T O ht=>?_
   .unfold SetTable.fits SetTable.fill;rw[d,P,G,H];have U:c.size+1+0<=t.mask:=by rcases p with e | e | e | e<;>omega
    simp;omega
   .refine AG (h _ (F.trans (ED _ a _)) ?_);exact⟨_,f,_,T,Qc u rfl f T,z,rfl,D f O,ht⟩
  .rw[BD k,AJ (by decide)];refine AG (h _ F ⟨_,_,_,n,u,z,rfl,D _ (.refl _),⟨G,?_,?_,?_⟩⟩)
   .rw[P,d]
   .rw[H];exact p
   .rw[H,d];omega
 have x:(SetTable.insertAt t.place (SetTable.below t.place j) j).size=c.size+1:=by rw[Y7 _ _ _ M,i.pl]
 cases hpl:t.plain with
 | true =>
  simp only[ES];refine AA (hbv X S fun b=>?_);cases b with
  | true =>
   simp only[ES];exact r _ i.dm rfl x
  | false =>
   simp only[AY,CJ];exact r _ i.dm rfl x
 | false =>
  simp only[AY,CJ];refine AA (AG ?_);simp only[ES];exact r _ i.dm rfl x
theorem QX{a:A3}{ks:A1 (A1 K×A3)}{b:A1 K}{c:A3}{Q:A2->A4->Prop}(i:A.units+1<cLine)(l:Flat knd)(m:RN knd)(j:MY knd s.heap a ks)
  (d:∀q∈ks,(tupleKind knd).is s.heap q.1 q.2) (k:(tupleKind knd).is s.heap b c) (e:∀q∈ks,q.1≠b) (n:ks.length+1<=300)
  (h:∀h',Heap.SameBut a s.heap h'->MY knd h' a (ks ++ [(b,c)])->Q .none { s with heap:=h',toks:=s.toks +(tupleKind knd).draws b }) :
  wpAny (model prog w) A (call (.builtin "set.add") [.ref a,.ref c]) Q E s:=by
 refine DW F.slot_set_add j.typeIs F.entry_set_add ?_ (F.args_set_add_2 _ _);unfold Builtin.«set.add» Builtin.Frozenset.oneOther;simp only[List.isEmpty_nil,bind_assoc];unfold Builtin.Frozenset.addrOf setAdd;refine AA (AG ?_)
 try dsimp only
 refine AA (AG ?_)
 try dsimp only
 refine AA ?_;refine BU ?_;refine AA ((tupleKind knd).pyHash ?hroom k ?_)
 case hroom=>exact i
 refine Nt (s:={ s with toks:=s.toks +(tupleKind knd).draws b }) ?hroom l m j d k e n fun h' f g=>?_
 case hroom=>exact i
 show wpAny _ _ (ret Value.none) _ _ _;exact AG ⟨_,rfl,h h' f g⟩
end
section
variable{prog:A7}{w:HW}{A:IC}{E:A2->A4->Prop}{s:A4}
theorem LU{α:Type}:∀{l:A1 α} {i:Nat} {x:α},l[i]?=some x->(x::l.eraseIdx i).Perm l
 | [],i,x,h=>by simp at h
 | y::l,0,x,h=>by
  have:y=x:=by simpa using h
  subst this;exact .refl _
 | y::l,i+1,x,h=>by
  have a:l[i]?=some x:=by simpa using h
  exact(List.Perm.swap y x _).trans ((LU a).cons y)
structure SAt(w:HW)(h:H_)(a:A3)(o:Obj)(es:F1 (Int×A2))(ep:Nat)(t:IM):Prop where
 ho:h.get? a=some o
 ex:o.ExactSet
 hd:o.data = .set es ep t
 ft:t.fits es.size=true
 led:t.led=!(w.params.followText "set-order")
 pln:t.plain=true->es.size=0
 few:es.size<4096
variable{a it:A3}{o:Obj}{es:F1 (Int×A2)}{ep:Nat}{t:IM}
end
end ST
namespace ST
open PySem L2
def zGc:A2->Str
 | .str x _=>x
 | _=>Str.empty
section
variable{prog:A7}{w:HW}{A:IC}{E:A2->A4->Prop}{s:A4}{a:A3}
structure TB(w:HW)(es:F1 (Int×A2))(ss:A1 Str):Prop where
 el:∀e∈es.toList,∃x tk,e =(hashStr w x,Value.str x tk)
 pm:(es.toList.map fun e=>zGc e.2).Perm ss
 nd:ss.Nodup
def WS(w:HW)(h:H_)(a:A3)(ss:A1 Str):Prop:=∃o b c t,SAt w h a o b c t/\TB w b ss
end
end ST
namespace L2
open PySem PySem.Spec PyProof.Rows
def zDu(w:HW)(a:A3)(ss:A1 Str):HO:=.ext fun h=>ST.WS w h a ss
section
variable{X:Cx}{pins:A1 (A3×Obj)}{σ:St}{H:Hp}{s:A4}{a:A3}{ss:A1 Str}
theorem Inv.setw(I:Inv X pins σ H s)(e:H a=some (zDu X.w a ss)):ST.WS X.w s.heap a ss:=by
 obtain⟨z,_⟩:=(show IK X.prog X.w H s.heap a (zDu X.w a ss)from I.hok a _ e);exact z
end
def Oa(P:A7)(w:HW)(a:A3)(ks:A1 (A1 IR×A3)):HO:=.ext fun h=>ST.MY (C7 P w) h a ks
def Kx(H:Hp)(ks:A1 (A1 IR×A3)):Prop:=∀q∈ks,H q.2=some (.tup (q.1.map kV))
section
variable{X:Cx}{pins:A1 (A3×Obj)}{σ:St}{H:Hp}{s:A4}{a:A3}{ks:A1 (A1 IR×A3)}
theorem Kh(P:A7)(w:HW):ST.Flat (C7 P w):=fun v ⟨x,h⟩=>(C7 P w).byValue x v h
theorem Tl(P:A7)(w:HW):ST.RN (C7 P w):=fun v ⟨x,h⟩=>by
 rcases E8 (show Fx x v=true from h)with⟨i,t,_,rfl⟩ | ⟨y,t,_,rfl⟩<;>rfl
theorem Wu{P:A7}{w:HW}{H:Hp}{h:H_}(z:ST.MY (C7 P w) h a ks):IK P w H h a (Oa P w a ks) :=
 ⟨z,let⟨o,_,_,_,e,_⟩:=z;⟨o,e⟩,fun d f ⟨o,b,c,t,e,r⟩ k=>⟨o,b,c,t,k o e,r⟩⟩
theorem Inv.sett(I:Inv X pins σ H s)(e:H a=some (Oa X.prog X.w a ks)):ST.MY (C7 X.prog X.w) s.heap a ks:=by
 obtain⟨z,_⟩:=(show IK X.prog X.w H s.heap a (Oa X.prog X.w a ks)from I.hok a _ e);exact z
theorem Mm:K0 X (.type "set") (fun xs H Q=>xs = []/\∀p,H p=none->Q (.ref p) (HX H p (Oa X.prog X.w p []))):=by
 intro pins s σ H xs c Q I r h;obtain⟨rfl,q⟩:=h;cases r;refine call_set_0 fun a=>⟨.ref s.heap.objs.size,_,I.laid (t':=s.toks) (fun b o e=>AD _ e) (Nat.le_refl _) (Wu ?_),rfl,q _ (I.hok.fresh (Nat.le_refl _))⟩;exact⟨_,#[],0,_,AQ _ rfl,⟨rfl,rfl,rfl⟩,rfl,.refl _,⟨rfl,rfl,.inl rfl,by show 0*5<7*3;decide⟩⟩
def zFh(P:A7)(w:HW):R2:=fun x y H Q=>∃a p ks k,y = .ref a/\x = .ref p/\H a=some (Oa P w a ks)/\H p=some (.tup (k.map kV))/\Kx H ks/\(∀q∈ks,q.1≠k)/\Q (.bl false) H
theorem Nr(b:X.A.units+1<cLine):KU X (compareOp .In) (zFh X.prog X.w):=by
 intro pins s σ H x y v u Q I c d h;obtain⟨a,p,ks,k,rfl,rfl,e,f,g,i,q⟩:=h;cases d;cases c;exact ST.RJ (neg:=false) b (Kh _ _) (I.sett e) (fun z j=>o9 I.hok (g z j)) (o9 I.hok f) i ⟨.bl false,H,I.tok _,rfl,q⟩
def zBk(P:A7)(w:HW):V->A1 V->Hp->VK->Prop:=fun x b H Q=>∃a p ks k,x = .ref a/\b = [.ref p]/\H a=some (Oa P w a ks)/\H p=some (.tup (k.map kV))/\Kx H ks/\(∀q∈ks,q.1≠k)/\ks.length+1<=300/\Q .non (HX H a (Oa P w a (ks ++ [(k,p)])))
theorem Xr(d:X.A.units+1<cLine):QL X "set.add" (zBk X.prog X.w):=by
 intro pins s σ H x B v C Q I f g h;obtain⟨a,p,ks,k,rfl,rfl,c,i,j,l,m,q⟩:=h;cases f;obtain⟨u,rfl,n⟩:=g.one;cases n;refine ST.QX d (Kh _ _) (Tl _ _) (I.sett c) (fun z r=>o9 I.hok (j z r)) (o9 I.hok i) l m fun D t z=>?_;exact⟨.non,_,I.write (x:=a) (e:=a) (by rw[c];exact True.intro) (.inl rfl) (fun b q y e=>(t.2 b y).trans e) (let⟨o,_,_,_,e,_⟩:=z;⟨o,e⟩) (Wu z),rfl,q⟩
end
section
variable{X:Cx}{tg:IB}
def zEw(K:PySem.W.Frag)(d:TE):TI:=fun σ H R=>d σ H fun x b=>∃a,x = .ref a/\(((∃c,IA K b a c)/\R (SO K a) b)\/((∃c,IZ K b a c)/\R (Itt K a) b))
theorem Zu{l:IB}{n:TE}(r:PE X l n):PI X tg l (zEw X.K n):=by
 intro d s σ H R I h;refine IT (r d s σ H _ I h) fun v c ⟨x,j,f,t,k⟩=>?_;obtain⟨a,e,k⟩:=k;subst e;cases t;have g:∀b,b∈[c.heap.objs.size]->Es X d j b:=fun b u=>by
  have e:b=c.heap.objs.size:=by simpa using u
  subst e;exact f.fpOk (Nat.le_refl _) (f.hok.fresh (Nat.le_refl _))
 rcases k with⟨⟨w,m⟩,q⟩ | ⟨⟨w,m⟩,q⟩
 .obtain⟨i,y,p,z⟩:=f.list m;refine FQ p.isList ?_;exact⟨c.heap.objs.size,[c.heap.objs.size],_,_,j,rfl,f.kept (t':=c.toks) fun b o e=>AD _ e,Hn a _,⟨_,AQ _ rfl,rfl,rfl⟩,g,q⟩
 .obtain⟨i,y,p,z⟩:=f.tuple m;refine wpAny_pyIter_tuple (show c.heap.IsTuple a i.toArray from p) ?_;exact⟨c.heap.objs.size,[c.heap.objs.size],_,_,j,rfl,f.kept (t':=c.toks) fun b o e=>AD _ e,Nc a _,⟨_,AQ _ rfl,rfl,rfl⟩,g,q⟩
end
section
variable{X:Cx}
theorem Pd:K0 X (.builtin "isinstance") (fun xs H Q=>∃x n t b,xs = [x,.ty n]/\NL X.K H x t/\PySem.W.kitOne X.K t (.type n)=some b/\Q (.bl b) H):=by
 intro a s σ H xs g Q I r h;obtain⟨x,n,t,b,rfl,c,d,q⟩:=h;obtain⟨u,v,rfl,e,f⟩:=r.two;cases f;exact Pb I e c d fun i=>⟨.bl b,H,I.tok _,rfl,q⟩
end
mutual
def Rp(K:PySem.W.Frag)(H:Hp):PyData->V->Prop
 | .none,v=>v = .non
 | .bool b,v=>v = .bl b
 | .int i,v=>v = .int i
 | .str x,v=>v = .str x
 | .list d,v=>∃a c,v = .ref a/\IA K H a c/\OG K H d c
 | .tuple d,v=>∃a c,v = .ref a/\IZ K H a c/\OG K H d c
 | .dict _,_=>False
def OG(K:PySem.W.Frag)(H:Hp):A1 PyData->A1 V->Prop
 | [],a=>a = []
 | d::b,a=>∃v r,a=v::r/\Rp K H d v/\OG K H b r
end
section
variable{X:Cx}{pins:A1 (A3×Obj)}{σ:St}{H:Hp}{s:A4}
mutual
theorem Inv.reads(I:Inv X pins σ H s):∀(d:PyData) (v:V) (u:A2),Rp X.K H d v->RelV v u->∃as,Reads s.heap u d as
 | .none,v,u,h,r=>by
  cases(show v = .non by simpa [Rp] using h);cases r;exact⟨_,.none⟩
 | .bool b,v,u,h,r=>by
  cases(show v = .bl b by simpa [Rp] using h);cases r;exact⟨_,.bool b⟩
 | .int i,v,u,h,r=>by
  cases(show v = .int i by simpa [Rp] using h);obtain⟨t,rfl⟩:=r;exact⟨_,.int i t⟩
 | .str x,v,u,h,r=>by
  cases(show v = .str x by simpa [Rp] using h);obtain⟨t,rfl⟩:=r;exact⟨_,.str x t⟩
 | .list j,v,u,h,r=>by
  obtain⟨a,c,e,k,l⟩:=(show ∃a c,v=V.ref a/\IA X.K H a c/\OG X.K H j c by simpa [Rp] using h);subst e;cases r;obtain⟨f,m,⟨o,n,e,p,q,g⟩,_⟩:=I.list k;obtain⟨as,z⟩:=I.readsAll j c f l m;exact⟨_,.list e p g (by simpa using z)⟩
 | .tuple j,v,u,h,r=>by
  obtain⟨a,c,e,k,l⟩:=(show ∃a c,v=V.ref a/\IZ X.K H a c/\OG X.K H j c by simpa [Rp] using h);subst e;cases r;obtain⟨f,m,⟨o,e,p,n,g⟩,_⟩:=I.tuple k;obtain⟨as,z⟩:=I.readsAll j c f l m;exact⟨_,.tuple e p g (by simpa using z)⟩
 | .dict _,v,u,h,r=>by simp[Rp]at h
theorem Inv.readsAll(I:Inv X pins σ H s):∀(ds:A1 PyData) (vs:A1 V) (us:A1 A2),OG X.K H ds vs->IH vs us->∃as,ReadsAll s.heap us ds as
 | [],vs,us,h,r=>by
  cases(show vs = [] by simpa [OG] using h);cases r;exact⟨_,.nil⟩
 | d::ds,vs,us,h,r=>by
  obtain⟨v,a,e,b,c⟩:=(show ∃v r,vs=v::r/\Rp X.K H d v/\OG X.K H ds r by simpa [OG] using h);subst e;cases r with
  | cons f g =>
   obtain⟨as,z⟩:=I.reads d v _ b f;obtain⟨j,i⟩:=I.readsAll ds a _ c g;exact⟨_,.cons z i⟩
end
def Pl(d:PyData):Prop:=d.canLay0=true/\d.depth<=50
def zDt(K:PySem.W.Frag):R2:=fun x y H Q=>∃d e,Rp K H d x/\Rp K H e y/\Pl d/\Pl e/\Q (.bl (!PyData.eqv d e)) H
def zBw(m:X.A.units+64<cLine):KU X (compareOp .NotEq) (zDt X.K):=by
 intro a s σ H x y v u Q I f g h;obtain⟨d,e,i,j,b,c,q⟩:=h;obtain⟨n,k⟩:=I.reads d x v i f;obtain⟨o,l⟩:=I.reads e y u j g;exact PySem.SeqAt.compareNe_reads k l b.1 c.1 (by have:=b.2;have:=c.2;omega) ⟨.bl (!PyData.eqv d e),H,I,rfl,q⟩
def zDr(K:PySem.W.Frag)(neg:Bool):R2:=fun x y H Q=>∃d a,Rp K H d x/\(Rp K H (.list a) y\/Rp K H (.tuple a) y)/\Pl d/\PyData.canLayAll0 a=true/\Q (.bl (if neg then !(a.any fun z=>PyData.eqv z d)else a.any fun z=>PyData.eqv z d)) H
def Qm(n:X.A.units+64<cLine):KU X (compareOp .NotIn) (zDr X.K true):=by
 intro f s σ H x y v u Q I k g h;obtain⟨d,b,l,h2,c,i,q⟩:=h;obtain⟨o,j⟩:=I.reads d x v l k;have a:X.A.units+1+min (PyData.depthAll b) d.depth<cLine:=by have:=c.2;omega
 rcases h2 with h2 | h2
 .obtain⟨m,e⟩:=I.reads (.list b) y u h2 g;exact PySem.SeqAt.notIn_list_reads e j i c.1 a ⟨.bl _,H,I,rfl,q⟩
 .obtain⟨m,e⟩:=I.reads (.tuple b) y u h2 g;exact PySem.SeqAt.notIn_tuple_reads e j i c.1 a ⟨.bl _,H,I,rfl,q⟩
end
section
variable{X:Cx}
theorem IH.insert{xs:A1 V}{us:A1 A2}{x:V}{u:A2}(h:IH xs us)(r:RelV x u)(k:Nat):IH (xs.take k++x::xs.drop k) (us.take k++u::us.drop k):=(h.take k).append (.cons r (h.drop k))
def Yl:V->A1 V->Hp->VK->Prop:=fun x b H Q=>∃l a i k y,x = .ref l/\b = [.int i,y]/\i =((k:Nat):Int)/\H l=some (.lst a)/\k<=a.length/\a.length<sizeLine/\Q .non (HX H l (.lst (a.take k++y::a.drop k)))
theorem zDd{k:Nat}{i:Int}(e:i =(k:Int))(h:k<=sizeLine):¬(!Builtin.List.listFitsIndex i)=true:=by
 rw[sizeLine_eq]at h;have a:-(2^63:Int)<=i:=by omega
 have b:i<2^63:=by omega
 have:=fitsIndex_both a b;simpa using this
theorem Fj:QL X "list.insert" Yl:=by
 intro c s σ H x E v G Q I m o h;obtain⟨l,J,i,k,y,rfl,rfl,d,f,K,L,q⟩:=h;cases m;obtain⟨M,g,rfl,⟨t,rfl⟩,p⟩:=o.two;obtain⟨z,a,n,r,N,e⟩:=I.lstM f;have u:k<=sizeLine:=by omega
 have w:=zDd d u;have A:a.toArray.size<=sizeLine:=by rw[AM];omega
 have B:=@PySem.AutoListH.list_insert_list_int_val_1 l a.toArray n i t g w A;refine call_meets F.slot_list_insert ⟨_,e,rfl⟩ F.entry_list_insert (F.args_list_insert_3 _ _ _) B ⟨e,?_⟩;refine⟨.non,_,I.lset (its':=a.take k++g::a.drop k) f e ?_ (r.insert p k) ?_,rfl,q⟩
 .have b:min k a.length=k:=by omega
  have C:¬((k:Int)<0):=by omega
  subst d;have j:¬((k:Int)+0<0):=by omega
  have D:List.take (a.length-k) (List.drop k a)=List.drop k a:=CZ (by simp);simp[b,C,D]
 .rw[AU,BJ,AS,CY];omega
def Qk(K:PySem.W.Frag):V->A1 V->Hp->VK->Prop:=fun x b H Q=>∃(l:A3) (a:A1 Str) (y:Str) (j:Nat),x = .ref l/\b = [.str y]/\IA K H l (a.map V.str)/\a[j]?=some y/\(∀m,m<j->a[m]?≠some y)/\Q (.int (j:Nat)) H
theorem U7{ss:A1 Str}{us:A1 A2}(h:IH (ss.map V.str) us){i:Nat}(hi:i<us.length):∃x t,ss[i]?=some x/\us[i] = .str x t:=by
 have b:=h.length;rw[AB]at b;obtain⟨x,a⟩:∃x,ss[i]?=some x:=⟨ss[i]'(by omega),AC (by omega)⟩;obtain⟨u,c,t,rfl⟩:=h.get (i:=i) (x:=.str x) (by rw[AH,a];rfl);refine⟨x,t,a,?_⟩;have:=AC hi;rw[c]at this;exact(BE this).symm
theorem Sy:QL X "list.index" (Qk X.K):=by
 intro B s σ H x W v Y Q I L M h;obtain⟨l,Z,y,j,rfl,rfl,N,C,k,q⟩:=h;cases L;obtain⟨u,rfl,⟨D,rfl⟩⟩:=M.one;obtain⟨a,r,⟨o,n,e,E,O,c⟩,G⟩:=I.list N;have d:=r.length;rw[AB]at d G;have b:j<a.length:=by
  have:=(AE.mp C).1;omega
 obtain⟨P,R,J,S⟩:=o;simp only at E O c;subst E c
 let p:A2->Bool:=fun v=>match v with | .str x _=>x == y | _=>false
 have T:=PySem.SeqAt.list_indexAt l a.toArray n R S (.str y D) p j (by simpa using b) (by rw[sizeLine_eq]at G;omega) ?_ ?_
 .refine call_meets F.slot_list_index ⟨_,e,rfl⟩ F.entry_list_index (F.args_list_index_2 _ _) T ⟨e,?_,?_⟩
  .intro v U;have w:v∈a:=by simpa using U
   obtain⟨i,V,rfl⟩:=List.getElem_of_mem w;obtain⟨x,t,_,f⟩:=U7 r V;rw[f];exact PySem.SeqAt.EqAt.str_str x t y D
  .exact⟨.int (j:Nat),H,I.tok _,⟨_,rfl⟩,q⟩
 .obtain⟨x,t,g,f⟩:=U7 r b;rw[C]at g;cases g;show p (a.toArray[j]'(by simpa using b))=true;rw[show a.toArray[j]'(by simpa using b)=a[j]from by simp,f];exact beq_self_eq_true y
 .intro m hm z;have A:m<a.length:=by simpa using hm
  obtain⟨x,t,g,f⟩:=U7 r A;show p (a.toArray[m]'hm)=false;rw[show a.toArray[m]'hm=a[m]from by simp,f];show(x == y)=false;rw[beq_eq_false_iff_ne];rintro rfl;exact k m z g
def Wn:V->A1 V->Hp->VK->Prop:=fun x b H Q=>∃z y a,x = .str z/\b = [.str y]/\(decide (z.length<y.length)||decide (Builtin.Str.strKind z<Builtin.Str.strKind y))=false/\(y.length == 0)=false /\
 (Builtin.Str.occurrences z y 0 z.length (z.length+1)).isEmpty=false/\z.length<=4000/\Builtin.Str.partsBetween z (Builtin.Str.occurrences z y 0 z.length (z.length+1)) y.length=a/\a.length<=4000/\∀l,H l=none->Q (.ref l) (HX H l (.lst (a.map V.str)))
theorem Ew:∀(b:A1 Str) (a:Nat),IH (b.map V.str) (strsFrom a b)
 | [],_=>.nil
 | _::r,a=>.cons ⟨a,rfl⟩ (Ew r (a+1))
theorem Uu:QL X "str.split" Wn:=by
 intro a s σ H x k v l Q I c d h;obtain⟨z,y,m,rfl,rfl,e,f,g,n,rfl,o,q⟩:=h;obtain⟨t,rfl⟩:=c;obtain⟨u,rfl,⟨i,rfl⟩⟩:=d.one;have j:z.length<=sizeLine:=by rw[sizeLine_eq];omega
 have b:(Builtin.Str.partsBetween z (Builtin.Str.occurrences z y 0 z.length (z.length+1)) y.length).length<=sizeLine:=by rw[sizeLine_eq];omega
 refine call_meets F.slot_str_split (typeIs_str _ _ _) F.entry_str_split (F.args_str_split_2 _ _) (PySem.meets_str_split_sep z y t i e f g j b) ?_;exact⟨.ref s.heap.objs.size,_,I.lnew (Ew _ _) (by rw[AB];exact b),rfl,q _ I.fresh⟩
end
end L2
namespace L2
open PySem PySem.Spec PyProof.Rows
structure Fn(K:PySem.W.Frag)(mg:Str->A5 A2)(x:Str)(st:IL)(ps:A1 Str) where
 f:A3
 fd:IP
 F:PM K x x st f fd
 b:Binds K fd ps []
 m:mg x=some (.ref f)
structure Mt(K:PySem.W.Frag)(C:A3)(m qual:Str)(st:IL)(ps:A1 Str) where
 f:A3
 fd:IP
 F:PM K m qual st f fd
 b:Binds K fd ps []
 m:RO K C m f
section
variable{X:Cx}
theorem C9{x:Str}{st:IL}{g:A1 Str}{k:Nat}{sp:Sp}{e:IB}{a:A1 IB}{t:TA}{p pos:Pos}(D:Fn X.K X.mg x st g)(G:IG X.prog X.w X.K X.mg X.base IW k D.f D.fd g sp)(h:JD k X.A)(i:PA X (e::a) t)
  (j:Gl X x:=by rfl) (c:(x ==("__debug__":Str))=false:=by decide) (l:starEach (e::a) X.env =(false,eval e X.env)::starEach a X.env:=by rfl) (d:(backTo pos (starEach a X.env)).any (·.1)=false:=by rfl) :
  PE X (.Call (.Name x p) (e::a) [] pos) (Yi sp [] E0 t):=Yw G h j D.m D.F.kp D.b .nil M0 i c l d
def Pi(P:A7)(w:HW)(x:V)(H:Hp):Prop:=∃p,x = .ref p/\((∃l,H p=some (Oc P w p l))\/(∃l,H p=some (zDu w p l))\/∃a,H p=some (Oa P w p a))
theorem zCo{c:A1 (A3×Obj)}{σ:St}{H:Hp}{s:A4}{x:V}{v:A2}(I:Inv X c σ H s)(r:RelV x v)(ty:Pi X.prog X.w x H):s.TypeIs v "set"/\∀a,v = .ref a->∃d,s.heap.get? a=some d/\d.dict=none:=by
 obtain⟨p,rfl,h⟩:=ty;cases r;have z:∃o,s.heap.get? p=some o/\o.ExactSet:=by
  rcases h with⟨l,h⟩ | ⟨l,h⟩ | ⟨l,h⟩
  .obtain⟨o,_,_,_,e,b,_⟩:=I.set h;exact⟨o,e,b⟩
  .obtain⟨o,_,_,_,S,_⟩:=I.setw h;exact⟨o,S.ho,S.ex⟩
  .obtain⟨o,_,_,_,e,b,_⟩:=I.sett h;exact⟨o,e,b⟩
 obtain⟨o,e,b⟩:=z;refine⟨⟨o,e,b.1⟩,fun a f=>?_⟩;cases f;exact⟨o,e,b.2.1⟩
def zEt(P:A7)(w:HW)(r:V->A1 V->Hp->VK->Prop)(b:TE)(t:TA):TE:=fun σ H Q=>b σ H fun x a=>Pi P w x a/\t σ a fun c d=>r x c d Q
theorem Yn{o e:IB}{i:TE}{t:TA}{c a:Pos}{r:V->A1 V->Hp->VK->Prop}(m:QL X "set.add" r)(n:PE X o i)(p:PA X [e] t)
  (d:attributeBase o "add" X.env (eval o X.env)=eval o X.env:=by rfl)
  (g:((backTo a (starEach [e] X.env)).all (fun x=>!x.1) &&(backToKw a (keywordEach [] X.env)).all (fun x=>x.1.isSome)
   && decide ([e].length +([]:A1 Keyword).length +(if([]:A1 Keyword).isEmpty then 0 else 1)<30))=true:=by rfl)
  (f:(c.endLine == a.line)=true:=by rfl) (q:starEach [e] X.env = [(false,eval e X.env)]:=by rfl) :
  PE X (.Call (.Attribute o "add" c) [e] [] a) (zEt X.prog X.w r i t):=by
 intro b s σ H Q I h;refine wpAny_Call_method_late d g f rfl (IT (n b s σ H _ I h) fun v u ⟨x,y,j,k,ty,z⟩=>?_);obtain⟨A,B⟩:=zCo j k ty;refine⟨"set", "set.add",F.plainAttrs_set,F.slot_set_add,F.type_set_add,A,B,?_⟩;have l:=p a b u σ y _ j z;rw[q]at l⊢;refine Calls.callWith_builtin rfl (Calls.evalArgs_plain ?_);exact IT l fun C D ⟨E,G,J,K,L⟩=>m b D σ G x E v C Q J k K L
theorem zDl{x:Str}{i:Int}{pos:Pos}(h:∃t,X.mg x=some (.int i t))(a:Gl X x:=by rfl)(b:(x ==("__debug__":Str))=false:=by decide):PE X (.Name x pos) (tC (.int i)):=by
 obtain⟨t,e⟩:=h;exact Jt a e ⟨t,rfl⟩ b
theorem zDo{x y:Str}{pos:Pos}(h:∃t,X.mg x=some (.str y t))(a:Gl X x:=by rfl)(b:(x ==("__debug__":Str))=false:=by decide):PE X (.Name x pos) (tC (.str y)):=by
 obtain⟨t,e⟩:=h;exact Jt a e ⟨t,rfl⟩ b
theorem Qn{x:Str}{n:String}{pos:Pos}(a:X.mg x=none)(b:bootBuiltins x=some (.type n))(c:Gl X x:=by rfl)(d:x≠ "__name__":=by decide)(e:(x ==("__debug__":Str))=false:=by decide):PE X (.Name x pos) (tC (.ty n)) :=
 Yc c a b rfl d e
theorem G0{x:Str}{id:String}{r:A1 V->Hp->VK->Prop}{e:IB}{a:A1 IB}{t:TA}{p pos:Pos}(d:K0 X (.builtin id) r)(f:X.mg x=none)(g:bootBuiltins x=some (.builtin id))(h:PA X (e::a) t)(i:Gl X x:=by rfl)(j:x≠ "__name__":=by decide)(b:(x ==("__debug__":Str))=false:=by decide)
  (k:starEach (e::a) X.env =(false,eval e X.env)::starEach a X.env:=by rfl) (c:(backTo pos (starEach a X.env)).any (·.1)=false:=by rfl):PE X (.Call (.Name x p) (e::a) [] pos) (SF r t):=Tr d i f g h j b k c
theorem q9{x:Str}{T:String}{r:A1 V->Hp->VK->Prop}{e:IB}{a:A1 IB}{t:TA}{p pos:Pos}(d:K0 X (.type T) r)(f:X.mg x=none)(g:bootBuiltins x=some (.type T))(h:PA X (e::a) t)(i:Gl X x:=by rfl)(j:x≠ "__name__":=by decide)(b:(x ==("__debug__":Str))=false:=by decide)
  (k:starEach (e::a) X.env =(false,eval e X.env)::starEach a X.env:=by rfl) (c:(backTo pos (starEach a X.env)).any (·.1)=false:=by rfl):PE X (.Call (.Name x p) (e::a) [] pos) (SF r t):=Qz d i f g h j b k c
theorem P3{a:JB}{cl:A1 (Str×A3)}{N':A1 Str}{cap:A1 (A5 Nat)}(c:OI X a cl N' cap)(e:QN X cl)(d:closureFor a X.env=pure cl:=by rfl)(kind:a.kind = .function:=by rfl)(b:∀y∈a.names,y.2≠ .cell:=by decide +kernel)
  (f:∀y∈a.names,y.2 = .local->a.names.lookup y.1=some .local:=by decide +kernel) (g:((relabel a X.env).names.all fun y=>!(y.2 == .cell||y.2 == .free)||(cl.lookup y.1).isSome)=true:=by rfl):NA X a cl N' cap:=⟨kind,b,f,d,e,g,c⟩
theorem MX{a:JB}{cl:A1 (Str×A3)}{N':A1 Str}{b:A1 (A3×Obj)}{c:A1 A3}{d:A4}{e:Hp}{x:Str}{pos:Pos}(i:Nat)(f:N'.Nodup:=by decide +kernel)(hi:N'[i]?=some x:=by rfl)(g:Loc (MN X a cl N' b c d e).env.scope x:=by exact Or.inl rfl)
  (h:(MN X a cl N' b c d e).env.scope.names.lookup x=some .local:=by rfl):PG (MN X a cl N' b c d e) (.Name x pos) (U5 i):=D0 (X:=MN X a cl N' b c d e) f hi g (.inr h)
end
def K9:bootBuiltins "len" = some (.builtin "len"):=by decide +kernel
def Fp:bootBuiltins "enumerate" = some (.type "enumerate"):=by decide +kernel
def Wa:bootBuiltins "min" = some (.builtin "min"):=by decide +kernel
def zAq:bootBuiltins "max" = some (.builtin "max"):=by decide +kernel
def Vz:bootBuiltins "abs" = some (.builtin "abs"):=by decide +kernel
def At:bootBuiltins "sorted" = some (.builtin "sorted"):=by decide +kernel
def Rk:bootBuiltins "int" = some (.type "int"):=by decide +kernel
def Wc:bootBuiltins "str" = some (.type "str"):=by decide +kernel
def X4:bootBuiltins "list" = some (.type "list"):=by decide +kernel
def Z0:bootBuiltins "tuple" = some (.type "tuple"):=by decide +kernel
def Wj:bootBuiltins "set" = some (.type "set"):=by decide +kernel
def O1:bootBuiltins "isinstance" = some (.builtin "isinstance"):=by decide +kernel
def zCt:bootBuiltins "all" = some (.builtin "all"):=by decide +kernel
def JS(a:A3)(b H:Hp):Prop:=∀o,b a=some o->H a=some o
def Sm(D:A1 A3)(H H':Hp):Prop:=∀b o,H b=some o->b∉D->H' b=some o
def F8.at{b H:Hp}(h:F8 b H)(a:A3):JS a b H:=fun o e=>h a o e
def F8.new{H:Hp}{p:A3}{o:HO}(h:H p=none):F8 H (HX H p o):=fun b u e=>by rw[B6 (B2 e h)];exact e
def F8.upd{a H:Hp}{p:A3}{o:HO}(s:F8 a H)(h:a p=none):F8 a (HX H p o):=fun b u e=>by rw[B6 (B2 e h)];exact s b u e
def F8.sm{D:A1 A3}{H H':Hp}(h:F8 H H'):Sm D H H':=fun b o e _=>h b o e
def Sm.refl(D:A1 A3)(H:Hp):Sm D H H:=fun _ _ e _=>e
def Sm.trans{D:A1 A3}{H d e:Hp}(a:Sm D H d)(b:Sm D d e):Sm D H e:=fun c o h n=>b c o (a c o h n) n
def Sm.new{D:A1 A3}{H c:Hp}{p:A3}{o:HO}(a:Sm D H c)(h:c p=none):Sm D H (L2.HX c p o):=fun b u e n=>by
 have:=a b u e n;rw[B6 (B2 this h)];exact this
def Sm.upd{D:A1 A3}{H c:Hp}{p:A3}{o:HO}(a:Sm D H c)(h:p∈D):Sm D H (L2.HX c p o):=fun b u e n=>by
 rw[B6 (show b≠p from fun z=>n (by rw[z];exact h))];exact a b u e n
def Sm.updN{D:A1 A3}{H c:Hp}{p:A3}{o:HO}(a:Sm D H c)(h:H p=none):Sm D H (L2.HX c p o):=fun b u e n=>by rw[B6 (B2 e h)];exact a b u e n
def Sm.at{D:A1 A3}{H H':Hp}(h:Sm D H H'){a:A3}(n:a∉D):JS a H H':=fun o e=>h a o e n
def Sm.none{D:A1 A3}{H H':Hp}(h:Sm D H H'){a:A3}(n:a∉D)(e:H' a=Option.none):H a=Option.none:=by
 cases q:H a with
 | none=>rfl
 | some o=>rw[h a o q n]at e;cases e
def JS.seqL{K:PySem.W.Frag}{H H':Hp}{a:A3}{xs:A1 V}(e:JS a H H')(h:IA K H a xs):IA K H' a xs:=by
 rcases h with(h | ⟨o,h⟩) | h
 .exact .inl (.inl (e _ h))
 .exact .inl (.inr ⟨o,e _ h⟩)
 .exact .inr h
def JS.seqT{K:PySem.W.Frag}{H H':Hp}{a:A3}{xs:A1 V}(e:JS a H H')(h:IZ K H a xs):IZ K H' a xs:=by
 rcases h with(h | ⟨o,h⟩) | h
 .exact .inl (.inl (e _ h))
 .exact .inl (.inr ⟨o,e _ h⟩)
 .exact .inr h
def QE(K:PySem.W.Frag)(H:Hp)(a:A3)(xs:A1 V):Prop:=IA K H a xs\/IZ K H a xs
def JS.seq{K:PySem.W.Frag}{H H':Hp}{a:A3}{xs:A1 V}(e:JS a H H')(h:QE K H a xs):QE K H' a xs:=h.imp e.seqL e.seqT
structure LP(J:It)(xs:A1 V)(a:A3)(H0:Hp):Prop where
 go:∀H i,JS a H0 H->i<xs.length->J.go i H
 stop:∀H,JS a H0 H->J.stop xs.length H
 yld:∀H i x H',JS a H0 H->i<xs.length->J.yld i H x H'->H'=H/\xs[i]?=some x
def NR{K:PySem.W.Frag}{b:Hp}{a:A3}{xs:A1 V}(h:IA K b a xs):LP (SO K a) xs a b :=
 ⟨fun H i k c=>⟨xs,xs[i],k.seqL h,AC c⟩,fun H k=>⟨xs,k.seqL h,Nat.le_refl _⟩,fun H i x d k c ⟨e,y⟩=>⟨e,y xs (k.seqL h)⟩⟩
def asT{K:PySem.W.Frag}{b:Hp}{a:A3}{xs:A1 V}(h:IZ K b a xs):LP (Itt K a) xs a b :=
 ⟨fun H i k c=>⟨xs,xs[i],k.seqT h,AC c⟩,fun H k=>⟨xs,k.seqT h,Nat.le_refl _⟩,fun H i x d k c ⟨e,y⟩=>⟨e,y xs (k.seqT h)⟩⟩
def Vg{J:It}{n:Nat}{g:TG}{f:TS}{D:Ends}{σ:St}{H:Hp}(Pv:Nat->St->Hp->Prop)(j:Pv 0 σ H)(b:∀i σ H,i<n->Pv i σ H->J.go i H)(c:∀σ H,Pv n σ H->J.stop n H)
  (k:∀i σ H x H',i<n->Pv i σ H->J.yld i H x H'->g x σ H' fun σ2 d=>f { D with nx:=Pv (i+1),ct:=Pv (i+1),bk:=D.nx } σ2 d) (l:∀σ H,Pv n σ H->D.nx σ H) :
  ∃W:Nat->Nat->St->Hp->Prop,(∃m,W 0 m σ H)/\∀i m σ H,W i m σ H ->
   (J.stop i H/\D.nx σ H)\/(J.go i H/\∃N:St->Hp->Prop,(∀σ' H',N σ' H'->∃h,h < m/\W (i+1) h σ' H')/\∀x H',J.yld i H x H'->g x σ H' fun σ2 d=>f { D with nx:=N,ct:=N,bk:=D.nx } σ2 d):=by
 refine⟨fun i m σ H=>m=n-i/\i<=n/\Pv i σ H,⟨n,by simp,CI _,j⟩,?_⟩;rintro i m σ H ⟨rfl,q,p⟩;by_cases a:i<n
 .exact .inr ⟨b i σ H a p,Pv (i+1),fun σ' H' o=>⟨n-(i+1),by omega,rfl,a,o⟩,fun x H' y=>k i σ H x H' a p y⟩
 .have e:i=n:=by omega
  subst e;exact .inl ⟨c σ H p,l σ H p⟩
def Wt{J:It}{xs:A1 V}{a:A3}{f:Hp}(as:LP J xs a f){g:TG}{h:TS}{D:Ends}{σ:St}{H:Hp}(Pv:Nat->St->Hp->Prop)(k:Pv 0 σ H)(c:∀i σ H,i<=xs.length->Pv i σ H->JS a f H)
  (l:∀i σ H x,xs[i]?=some x->Pv i σ H->g x σ H fun σ2 d=>h { D with nx:=Pv (i+1),ct:=Pv (i+1),bk:=D.nx } σ2 d) (o:∀σ H,Pv xs.length σ H->D.nx σ H) :
  ∃W:Nat->Nat->St->Hp->Prop,(∃m,W 0 m σ H)/\∀i m σ H,W i m σ H ->
   (J.stop i H/\D.nx σ H)\/(J.go i H/\∃N:St->Hp->Prop,(∀σ' H',N σ' H'->∃j,j < m/\W (i+1) j σ' H')/\∀x H',J.yld i H x H'->g x σ H' fun σ2 d=>h { D with nx:=N,ct:=N,bk:=D.nx } σ2 d) :=
 Vg (n:=xs.length) Pv k (fun i σ H b p=>as.go H i (c i σ H (DR b) p) b) (fun σ H p=>as.stop H (c _ σ H (Nat.le_refl _) p)) (fun i σ H x H' b p y=>by
  obtain⟨rfl,e⟩:=as.yld H i x H' (c i σ H (DR b) p) b y;exact l i σ _ x e p) o
def n9{J:It}{n:Nat}{g:TG}{f:TT}{h:RC}{σ:St}{H:Hp}{Q:St->Hp->Prop}(Pv:Nat->St->Hp->Prop)(k:Pv 0 σ H)(c:∀i σ H,i<n->Pv i σ H->J.go i H)(d:∀σ H,Pv n σ H->J.stop n H)
  (l:∀i σ H x H' (N:St->Hp->Prop),i<n->Pv i σ H->J.yld i H x H'->(∀σ' H',Pv (i+1) σ' H'->N σ' H')->g x σ H' fun σ2 o=>f σ2 o fun b j=>if b=true then h σ2 j N else N σ2 j)
  (q:∀σ H,Pv n σ H->Q σ H):Ia g f h J σ H Q:=by
 refine⟨fun i m σ H=>m=n-i/\i<=n/\Pv i σ H,⟨n,by simp,CI _,k⟩,?_⟩;rintro i m σ H ⟨rfl,s,p⟩;by_cases a:i<n
 .exact .inr ⟨c i σ H a p,fun x H' y=>l i σ H x H' _ a p y fun σ3 t r=>⟨n-(i+1),by omega,rfl,a,r⟩⟩
 .have e:i=n:=by omega
  subst e;exact .inl ⟨d σ H p,q σ H p⟩
def V0{J:It}{xs:A1 V}{a:A3}{f:Hp}(as:LP J xs a f){g:TG}{h:TT}{j:RC}{σ:St}{H:Hp}{Q:St->Hp->Prop}(Pv:Nat->St->Hp->Prop)(l:Pv 0 σ H)(d:∀i σ H,i<=xs.length->Pv i σ H->JS a f H)
  (m:∀i σ H x (N:St->Hp->Prop),xs[i]?=some x->Pv i σ H->(∀σ' H',Pv (i+1) σ' H'->N σ' H')->g x σ H fun σ2 o=>h σ2 o fun b k=>if b=true then j σ2 k N else N σ2 k)
  (q:∀σ H,Pv xs.length σ H->Q σ H):Ia g h j J σ H Q :=
 n9 (n:=xs.length) Pv l (fun i σ H c p=>as.go H i (d i σ H (DR c) p) c) (fun σ H p=>as.stop H (d _ σ H (Nat.le_refl _) p)) (fun i σ H x H' N c p y r=>by
  obtain⟨rfl,e⟩:=as.yld H i x H' (d i σ H (DR c) p) c y;exact m i σ _ x N e p r) q
def Cj{a:RC}{N:St->Hp->Prop}{σ:St}{H:Hp}{i:Nat}{x:V}(h:a (σ.set i (some x)) H N):U5 i x σ H fun σ2 d=>Ca σ2 d fun b c=>if b=true then a σ2 c N else N σ2 c:=by
 show if true=true then a (σ.set i (some x)) H N else N (σ.set i (some x)) H
 rw[AL rfl];exact h
def Xz{a:RC}{N:St->Hp->Prop}{σ:St}{H:Hp}(h:a σ H N):Ca σ H fun b c=>if b=true then a σ c N else N σ c:=by
 show if true=true then a σ H N else N σ H
 rw[AL rfl];exact h
section
variable{X:Cx}(K:PySem.W.Frag)(P:A7)(w:HW){tg:IB}
theorem OE{l:IB}{a:TE}(b:PE X l a)(c:X.K=K:=by rfl):PI X tg l (zCp K a):=by subst c;exact Xk b
theorem piS{l:IB}{a:TE}(b:PE X l a)(c:X.K=K:=by rfl):PI X tg l (zEw K a):=by subst c;exact Zu b
theorem SJ{b:A1 IB}{kk:Nat}{d:Pos}{a:IB}{c:TA}{p pos:Pos}(e:X.mg "enumerate" = none)(f:PA X [a] c)(g:Gl X "enumerate":=by rfl)(h:starEach [a] X.env = [(false,eval a X.env)]:=by rfl)(i:X.K=K:=by rfl) :
  PI X (.Tuple b kk d) (.Call (.Name "enumerate" p) [a] [] pos) (zBx K c):=by subst i;exact Zm g e Fp f h
theorem Yk{a:IB}{b:TA}{p pos:Pos}(c:X.mg "range" = none)(d:PA X [a] b)(e:Gl X "range":=by rfl)(f:starEach [a] X.env = [(false,eval a X.env)]:=by rfl):PI X tg (.Call (.Name "range" p) [a] [] pos) (zCq b):=Qw e c d f
theorem QA{a:A1 IB}{k:Nat}{t:RV}{n:Nat}{pos:Pos}(h:TD X a t)(c:X.calm=true:=by rfl)(d:(assignEach a X.env).length=n:=by rfl)(b:(assignEach a X.env).findIdx? (·.1)=none:=by rfl)(e:X.K=K:=by rfl):PG X (.Tuple a k pos) (zEb K n t):=by subst e;exact zBt c h d b
theorem OT{e:IB}{a:TE}{f:Str}{pos:Pos}(b:PE X e a)(c:attributeBase e f X.env (eval e X.env)=eval e X.env:=by rfl)(d:X.K=K:=by rfl):PE X (.Attribute e f pos) (zCx K a f):=by subst d;exact zAt b c
theorem Q_{o a:IB}{c d:TE}{f:Str}{pos b:Pos}(e:PE X o c)(g:PE X a d)(h:swapsWith a (some (.Attribute o f b)) pos.line X.env=pure false:=by rfl)(i:X.K=K:=by rfl):PS X (.Assign [.Attribute o f b] a pos) (zEx K c d f):=by subst i;exact zBc e g h
theorem N9(b:X.K=K:=by rfl):K0 X (.builtin "len") (fun xs H Q=>∃p a,xs = [.ref p]/\(IA K H p a\/IZ K H p a)/\Q (.int a.length) H):=by subst b;exact Gf
theorem Ao(b:X.K=K:=by rfl):K0 X (.type "list") (fun xs H Q=>∃p a,xs = [.ref p]/\(IA K H p a\/IZ K H p a)/\∀l,H l=none->Q (.ref l) (HX H l (.lst a))):=by subst b;exact Gd
theorem Kg(b:X.K=K:=by rfl):K0 X (.type "tuple") (fun xs H Q=>∃p a,xs = [.ref p]/\((IA K H p a/\∀l,H l=none->Q (.ref l) (HX H l (.tup a)))\/(IZ K H p a/\Q (.ref p) H))):=by subst b;exact En
theorem zAl(a:X.calm=true:=by rfl)(b:X.K=K:=by rfl):K0 X (.builtin "all") (fun xs H Q=>∃(p:A3) (bs:A1 Bool),xs = [.ref p]/\IA K H p (bs.map V.bl)/\Q (.bl (bs.all id)) H):=by subst b;exact Uv a
theorem Kr(b:X.K=K:=by rfl):K0 X (.builtin "sorted") (fun xs H Q=>∃(p:A3) (ss:A1 Str),xs = [.ref p]/\IA K H p (ss.map V.str)/\∀(l:A3) (a:A1 Str),H l=none->a.Perm ss->a.Pairwise RA->Q (.ref l) (HX H l (.lst (a.map V.str)))):=by subst b;exact Ff
theorem Ur(c:X.K=K:=by rfl):K0 X (.builtin "sorted") (fun xs H Q=>∃(p:A3) (b:A1 JF),xs = [.ref p]/\IA K H p (b.map fun q=>V.ref q.1)/\(∀q∈b,E6 H q)/\∀(l:A3) (a:A1 JF),H l=none->a.Perm b->a.Pairwise SZ->Q (.ref l) (HX H l (.lst (a.map fun q=>V.ref q.1)))):=by subst c;exact Fg
theorem Ae(a:X.K=K:=by rfl):K0 X (.builtin "isinstance") (fun xs H Q=>∃x n t b,xs = [x,.ty n]/\NL K H x t/\PySem.W.kitOne K t (.type n)=some b/\Q (.bl b) H):=by subst a;exact Pd
theorem Xq(a:X.prog=P:=by rfl)(hw:X.w=w:=by rfl):K0 X (.type "set") (fun xs H Q=>xs = []/\∀p,H p=none->Q (.ref p) (HX H p (Oc P w p []))):=by subst a;subst hw;exact Sx
theorem Vm(a:X.prog=P:=by rfl)(hw:X.w=w:=by rfl):K0 X (.type "set") (fun xs H Q=>xs = []/\∀p,H p=none->Q (.ref p) (HX H p (Oa P w p []))):=by subst a;subst hw;exact Mm
theorem y7(a:X.A.units+64<cLine)(b:X.K=K:=by rfl):KU X (compareOp .NotIn) (zDr K true):=by subst b;exact Qm a
theorem Yd(a:X.A.units+64<cLine)(b:X.K=K:=by rfl):KU X (compareOp .NotEq) (zDt K):=by subst b;exact zBw a
theorem Yt(a:X.K=K:=by rfl):KU X (compareOp .In) (SH K false):=by subst a;exact Qs
theorem w4(a:X.K=K:=by rfl):KU X (compareOp .NotIn) (SH K true):=by subst a;exact Fr
theorem zDx(a:X.prog=P:=by rfl)(hw:X.w=w:=by rfl):KU X (compareOp .In) (zFn P w false):=by subst a;subst hw;exact So
theorem zEh(a:X.A.units+1<cLine)(b:X.prog=P:=by rfl)(hw:X.w=w:=by rfl):KU X (compareOp .In) (zFh P w):=by subst b;subst hw;exact Nr a
theorem Zq(a:X.prog=P:=by rfl)(hw:X.w=w:=by rfl):QL X "set.add" (zBi P w):=by subst a;subst hw;exact zAj
theorem zAv(a:X.A.units+1<cLine)(b:X.prog=P:=by rfl)(hw:X.w=w:=by rfl):QL X "set.add" (zBk P w):=by subst b;subst hw;exact Xr a
theorem Wh{o e:IB}{g:TE}{t:TA}{b a:Pos}{r:V->A1 V->Hp->VK->Prop}(h:QL X "set.add" r)(i:PE X o g)(j:PA X [e] t)
  (c:attributeBase o "add" X.env (eval o X.env)=eval o X.env:=by rfl)
  (f:((backTo a (starEach [e] X.env)).all (fun x=>!x.1) &&(backToKw a (keywordEach [] X.env)).all (fun x=>x.1.isSome)
   && decide ([e].length +([]:A1 Keyword).length +(if([]:A1 Keyword).isEmpty then 0 else 1)<30))=true:=by rfl)
  (d:(b.endLine == a.line)=true:=by rfl) (k:starEach [e] X.env = [(false,eval e X.env)]:=by rfl) (l:X.prog=P:=by rfl) (hw:X.w=w:=by rfl) :
  PE X (.Call (.Attribute o "add" b) [e] [] a) (zEt P w r g t):=by subst l;subst hw;exact Yn h i j c f d k
theorem KR(a:X.K=K:=by rfl):TJ X (zFk K):=by subst a;exact Xl
theorem PK(a:X.K=K:=by rfl):TJ X (zFl K):=by subst a;exact zBj
theorem SG(a:X.K=K:=by rfl):TC X (zFj K):=by subst a;exact Ym
theorem Q9(a:X.K=K:=by rfl):QL X "list.index" (Qk K):=by subst a;exact Sy
theorem SX{a:IB}{c:TE}(d:PE X a c)(e:∀b,isTrue a X.env b =(do let v <-b;standAt a.pos;holding [v] (truthy v)):=by intro _;rfl)(f:X.K=K:=by rfl):PT X a (fun σ H Q=>c σ H fun x H'=>∃k,zEk K x H' k/\Q k H'):=by subst f;exact Tk d e
theorem Bs{T id:String}{name:Str}{o e:IB}{d:A1 IB}{k:TE}{t:TA}{c a:Pos}{r:V->A1 V->Hp->VK->Prop}(l:PlainAttrs T)(h:Slot T name id)(j:typeOf (.builtin id)=pure (.type "method_descriptor"))(m:QL X id r)(n:PE X o k)(p:PA X (e::d) t)
  (f:attributeBase o name X.env (eval o X.env)=eval o X.env:=by rfl)
  (i:((backTo a (starEach (e::d) X.env)).all (fun x=>!x.1) &&(backToKw a (keywordEach [] X.env)).all (fun x=>x.1.isSome)
   && decide ((e::d).length +([]:A1 Keyword).length +(if([]:A1 Keyword).isEmpty then 0 else 1)<30))=true:=by rfl)
  (g:(c.endLine == a.line)=true:=by rfl) (q:starEach (e::d) X.env =(false,eval e X.env)::starEach d X.env:=by rfl) (b:(backTo a (starEach d X.env)).any (·.1)=false:=by rfl) (s:X.K=K:=by rfl) :
  PE X (.Call (.Attribute o name c) (e::d) [] a) (tBM K T r k t):=by subst s;exact zDm l h j m n p f i g q b
end
def Ug:bootBuiltins "range" = some (.type "range"):=by decide +kernel
def Gg:∀(us:A1 A2) (b:Nat),(∀j v,us[j]?=some v->∃t,v=Value.int ((b+j:Nat):Int) t)->IH ((List.range' b us.length).map fun k:Nat=>V.int (k:Int)) us
 | [],_,_=>.nil
 | u::r,b,h=>by
  obtain⟨t,rfl⟩:=h 0 u rfl;refine .cons ⟨t,rfl⟩ (Gg r (b+1) fun j v a=>?_);obtain⟨t,e⟩:=h (j+1) v a;exact⟨t,by rw[e];congr 2;omega⟩
section
variable{X:Cx}
theorem Ih:K0 X (.type "range") (fun xs H Q=>∃j:Int,xs = [.int j]/\∀l,H l=none->Q (.ref l) (HX H l (.rng 0 j))):=by
 intro a s σ H xs c Q I r h;obtain⟨j,rfl,q⟩:=h;obtain⟨u,rfl,t,rfl⟩:=U8 r;refine call_range_1 ?_;exact⟨.ref s.heap.objs.size,_,I.laid (t':=s.toks+1+1) (fun b o e=>AD _ e) (by omega) (show IK X.prog X.w _ _ _ (.rng 0 j)from⟨_,_,_,AQ _ rfl⟩),rfl,q _ (I.hok.fresh (Nat.le_refl _))⟩
theorem Nz(f:X.calm=true:=by rfl):K0 X (.type "list") (fun xs H Q=>∃(p:A3) (n:Nat),xs = [.ref p]/\H p=some (.rng 0 (n:Int))/\n<=2^20/\∀l,H l=none->Q (.ref l) (HX H l (.lst ((List.range n).map fun k:Nat=>V.int (k:Int))))):=by
 intro d s σ H xs B Q I r h;obtain⟨p,n,rfl,g,C,q⟩:=h;obtain⟨u,rfl,i⟩:=U8 r;cases i;obtain⟨t,u,v,e⟩:=I.hok _ _ g;refine call_list_range (n:=n) (I.ok.hd f) e ?_ ?_ (by omega) fun m o a x y z b=>?_
 .exact small_one (by omega) (by omega) (by omega) (by omega)
 .rw[rangeSize_one];split<;>omega
 .have A:a.toList.length=n:=by simp[b.1]
  have c:IH ((List.range n).map fun k:Nat=>V.int (k:Int)) a.toList:=by
   have:=Gg a.toList 0 fun j v c=>by
    obtain⟨t,e⟩:=b.2 j v (by simpa using c);exact⟨t,by rw[e];congr 1;omega⟩
   rw[A,<-List.range_eq_range']at this;exact this
  refine⟨.ref s.heap.objs.size,_,I.laid (t':=o) y (Nat.le_refl _) (show IK X.prog X.w _ m _ (.lst _)from⟨by rw[AB,CF,sizeLine_eq];omega,a.toList,x,c,by simpa using z⟩),rfl,q _ (I.hok.fresh (Nat.le_refl _))⟩
end
section
variable{prog:A7}{w:HW}{A:IC}{E:A2->A4->Prop}{s:A4}{it l:A3}{i:Nat}{items:F1 A2}{x:A2}{Q:A2->A4->Prop}
theorem Ay(a:s.heap.IsTupleIter it l i)(g:s.heap.IsTuple l items)(h:items[i]?=some x)
  (j:∀h',h'.IsTupleIter it l (i+1)->Heap.SameBut it s.heap h'->Q x { s with heap:=h' }):wpAny (model prog w) A (Builtin.SmallTypes.nextOf (.ref it)) Q E s:=by
 obtain⟨o,d,k,b⟩:=id a;obtain⟨m,e,_,n,f⟩:=g;refine AA (DX a.typeIs F.slot_tuple_iterator_next (DW F.slot_tuple_iterator_next a.typeIs F.entry_tuple_iterator_next ?_ (F.args_tuple_iterator_next_1 _)));refine AA (AG (AA (DA d b rfl ?_)));refine EH (c:=(Value.ref l == Value.none)=true) rfl ?_;refine AA (DA d b rfl (AA (DC e f ?_)));dsimp only;rw[show items[(i:Int).toNat]?=some x from h];refine AA (wpAny_setField d b (E_ 1) (AG ⟨x,rfl,AG (j _ ⟨_,DN _ d (Obj.isFreed_of_fields (Obj.data_mapFields b _)),(Obj.cls_mapFields o _).trans k,(Obj.data_mapFields b _).trans ?_⟩ (ED _ _ _))⟩));rfl
theorem Sz{M:Model}{α β:Type}{a b:α}{i u v:β}{f:α->β->Sem (ForInStep β)}{Q:β->A4->Prop}(h:wpAny M A (f a i) (fun r c=>r = .yield u/\wpAny M A (f b u) (fun r c=>r = .yield v/\Q v c) E c) E s):wpAny M A (forIn [a,b] i f) Q E s:=by
 rw[FK];refine AA (CB h (fun r c z=>?_) fun e c z=>z);obtain⟨rfl,z⟩:=z;show wpAny M A (forIn [b] u f) Q E c;rw[FK];refine AA (CB z (fun r c z=>?_) fun e c z=>z);obtain⟨rfl,z⟩:=z;exact AG z
theorem Kq{z TI TO:A3}{a:A2}(hz:IsZip s.heap z TI TO a):s.TypeIs (.ref z) "zip":=⟨_,hz,rfl⟩
end
section
variable{prog:A7}{w:HW}{A:IC}{E:A2->A4->Prop}{s:A4}
theorem Gi{M:Model}{T:String}{vs:A1 A2}{Q:A2->A4->Prop}(h:Q (.ref s.heap.objs.size) { s with heap:=s.heap.push { cls:=.type T,data:=.fields vs.toArray } })(a:sizeOk (.fields vs.toArray)):wpAny M A (Builtin.SmallTypes.newRecord (.type T) vs) Q E s:=ET h a
end
section
variable{X:Cx}{elts:A1 IB}{kk:Nat}{tp:Pos}
theorem Sf:bootBuiltins "zip" = some (.type "zip"):=by decide +kernel
variable(K:PySem.W.Frag)
end
section
variable{X:Cx}{tg iter elt:IB}{ifs:A1 IB}{scope:JB}{cl:A1 (Str×A3)}{N':A1 Str}{cap:A1 (A5 Nat)}{wi:TI}{pos:Pos}
theorem Rg{e:IB}{gs:A1 Comprehension}{newAcc:Sem A2}{p2:Pos}{use:A5 (A2->Sem Unit)}{Qv:A2->A4->Prop}(q:clausesOf e =⟨tg,iter,ifs,0⟩::gs)(o:A3->HO)(hs:∀x,foldedSetIterable iter X.env x=pure x)(S:NA X scope cl N' cap)(hc:X.calm=true)(hi:PI X tg iter wi)
  {lp:A3->It->St->Hp->(St->Hp->Prop)->Prop}
  (r:∀(a:A1 (A3×Obj)) (s:A4) (σ:St) (H:Hp) (Q:A2->A4->Prop) (E:A2->A4->Prop),Inv X a σ H s->(∀g,Inv X a σ (HX H s.heap.objs.size (o s.heap.objs.size)) g->(∀b f,s.heap.get? b=some f->g.heap.get? b=some f)->Q (.ref s.heap.objs.size) g)->wpAny (model X.prog X.w) X.A newAcc Q E s)
  (L:∀(a:A1 (A3×Obj)) (M:A1 A3) (s3:A4) (N:Hp) (D l:A3) (fp:A1 A3) (t:Nat->H_->Prop) (J:It) (σ:St) (s:A4) (H:Hp) (Q:St->Hp->Prop) (R:Result->A4->Prop),
   MO X.prog X.w X.K tg J fp l t->Inv (MN X scope cl N' a M s3 N) [] σ H s->t 0 s.heap->(∀b∈fp,Es (MN X scope cl N' a M s3 N) [] H b)->lp D J σ H Q ->
   (∀g σ' H',Inv (MN X scope cl N' a M s3 N) [] σ' H' g->Q σ' H'->R (.ok .next) g) ->
   codeAny (model X.prog X.w) X.A (.compLoop e 0 (.ref l) (.ref D) (compEnvC scope cl s3.heap.objs.size X.env)) R s)
  (O:∀l D i,X.A.under (.compStart e 0 (.ref l) (.ref D) i)=X.A) (u:∀l D i,(model X.prog X.w).den (.compStart e 0 (.ref l) (.ref D) i) =(compStart e 0 (.ref l) (.ref D) i).onRaise (fun x=>do noteFrame x i;standAt theWindowsPlace))
  {a:A1 (A3×Obj)} {s:A4} {σ:St} {H:Hp} {Q:V->Hp->Prop} (I:Inv X a σ H s) (h:Su wi o cap lp σ H Q)
  (B:∀(D:A3) (fp:A1 A3) (k:Hp) (s3 g:A4) (σ':St) (H':Hp),Inv X a σ k s3->(∀b∈fp,Es X a k b)->Inv (MN X scope cl N' a fp s3 k) [] σ' H' g->Q (.ref D) H'->compPost (model X.prog X.w) X.A X.xe use Qv (.ref D) s3.heap.objs.size (.ok .next) g) :
  wpAny (model X.prog X.w) X.A (comprehension e scope X.env p2 newAcc false (eval iter X.env) use) Qv X.xe s:=by
 refine wpAny_comprehension_free q hs S.clos S.kind S.loc (IT (hi a s σ H _ I h) fun v s1 C=>IT C fun itv j h2=>?_);obtain⟨l,fp,t,J,k,P,I2,T,F,f2,R2⟩:=h2;subst P;refine r a j σ k _ _ I2 fun s3 U k3=>?_;have hD:k j.heap.objs.size=none:=I2.hok.fresh (Nat.le_refl _);have n:∀b∈fp,Es X a (HX k j.heap.objs.size (o j.heap.objs.size)) b/\∃f,s3.heap.get? b=some f:=fun b m=>by
  obtain⟨f,e,_⟩:=T.obj _ _ F b m;obtain⟨W,fr⟩:=f2 b m;exact⟨⟨by rw[B6 (AX (AI e))];exact W,fr⟩,f,k3 b f e⟩
 refine wpAny_newFunctionEnv S.nocell (by intro y hy;simp at hy) (fun C Y Z=>?_) S.kind;have hk:∀b f,s3.heap.get? b=some f->C.get? b=some f:=fun b f e=>(Z.2 b (AX (AI e))).trans (AD _ e);have I4:Inv (MN X scope cl N' a fp s3 (HX k j.heap.objs.size (o j.heap.objs.size))) [] (Wl cap σ) (HX k j.heap.objs.size (o j.heap.objs.size)) { s3 with heap:=C,toks:=s3.toks +([]:A1 (Str×A2)).length } :=
  U.block S hc n Y hk
 have G:t 0 C:=T.keep 0 _ _ F fun b m f e=>hk b f (k3 b f e);refine Cf (X:=MN X scope cl N' a fp s3 (HX k j.heap.objs.size (o j.heap.objs.size))) (gs:=⟨tg,iter,ifs,0⟩::gs) (e:=e) (d:=0) (tg:=tg) (iter:=iter) (ifs:=ifs) (O _ _ _) (u _ _ _) q rfl T G ?_;refine L a fp s3 _ j.heap.objs.size l fp t J (Wl cap σ) _ _ _ _ T I4 G (fun b m=>?_) (R2 _ hD) fun g σ' H' I' q'=>?_
 .obtain⟨⟨W,f1,f2',f3,f4,f5⟩,f,eo⟩:=n b m;refine⟨W,AX (AI eo),fun hf=>?_,.inl m,fun x c e=>f4 x c (S.cin.get e),fun p hp=>f5 p (by simpa [MN] using hp)⟩;rcases AR.mp (U.stkSub b hf)with z | z
  .exact f1 z
  .exact f2' z
 .exact B _ fp _ s3 g σ' H' U (fun b m=>(n b m).1) I' q'
theorem Dy{i:Nat}{x:Str}{o j:Pos}{g:TG}{V:TT}{W:TE}(hN:X.N.Nodup)(hi:X.N[i]?=some x)(hx:Loc X.env.scope x)(S:NA X scope cl N' cap)(p:X.calm=true)(hI:PI X tg iter wi)
  (t:∀(d:A1 (A3×Obj)) (y:A1 A3) (l:A4) (A:Hp),PG (MN X scope cl N' d y l A) tg g/\SN (MN X scope cl N' d y l A) ifs V/\PE (MN X scope cl N' d y l A) elt W)
  (hs:∀x,foldedSetIterable iter X.env x=pure x:=by intro _;rfl)
  (F:swapsWith (.ListComp elt [⟨tg,iter,ifs,0⟩] scope j) (some (.Name x o)) pos.line X.env=pure true:=by rfl)
  (G:X.fn x=true\/X.env.scope.names.lookup x=some .local:=by first | exact .inl rfl | exact .inr rfl | assumption) :
  PS X (.Assign [.Name x o] (.ListComp elt [⟨tg,iter,ifs,0⟩] scope j) pos) (zDc (Su wi (fun _=>.lst []) cap fun D J σ H Q=>Ia g V (Bx D W) J σ H Q) (U5 i)):=by
 intro d s σ H D I h;rw[exec_Assign];refine AA (GG (AA (wpAny_of_eq F (wpAny_ite_true rfl (AA (AA ?_))))));refine Rg (newAcc:=newList []) (p2:=firstIterPos [⟨tg,iter,ifs,0⟩] j) rfl (fun _=>.lst []) hs S p hI (fun d s σ H Q E I h=>?_) (fun d y l A D it fp tn J σ s H Q R T I st G h hR=>?_) (fun _ _ _=>rfl) (fun _ _ _=>rfl) I h fun E fp H2 l s' σ' H' Y K L q=>?_
 .refine HS ?_;exact h _ (I.lnew (t':=s.toks) (its:=[]) .nil (CI _)) fun b f e=>AD _ e
 .obtain⟨b1,b2,b3⟩:=t d y l A;exact Bi (X:=MN X scope cl N' d y l A) rfl rfl p rfl (Dc elt tg iter ifs scope j _ _ _) b1 b2 (Lb rfl b3) T I st G h hR
 .have IX:Inv X d σ H' s':=Y.unblock K L ⟨rfl,fun _ _=>rfl⟩;have w:Es X d H' l.heap.objs.size:=Y.fpOk (Nat.le_refl _) L.free;obtain⟨m,hn,_⟩:=L.loc;show wpAny _ _ (assign (.Name x o) X.env (.ref E)) _ _ _;refine wpAny_assign_Name (Gh (v:=.ref E) IX hN hi hx rfl (fun C M ⟨a,O,ha⟩=>?_) G);have nC:l.heap.objs.size≠a:=by
   rcases ha with rfl | ha
   .exact w.2.1
   .exact(w.2.2.2.2.1 _ _ ha).symm
  refine⟨m,?_,fun h' B=>AG (AG ?_)⟩
  .obtain⟨f,P,U,e1,r⟩:=hn;exact⟨f,P,U,(O.2 _ nC).trans e1,r⟩
  refine⟨_,H',?_,q⟩;have k:∀b f,b∉[l.heap.objs.size]->C.heap.get? b=some f->h'.get? b=some f:=fun b f t e=>(B.2 b fun z=>t (AF.mpr z)).trans e;refine M.step (h':=h') (H':=H') (t':=C.toks) (g':=C.gens) (d':=C.drawn) (ch:=[l.heap.objs.size]) (fun b t=>by rw[AF.mp t];exact⟨w.2.2.2.1,w.2.1,w.2.2.2.2⟩) (fun b f _ _ p e _=>k b f p e) (fun b f _ _ p e _=>⟨f.slots,k b f p e⟩) (fun _ _ _ _ n=>n)
   (fun b f p e=>⟨f,k b f p e⟩) (fun _ _ e=>e) (fun _ _ _ e=>e) (fun b ps e=>⟨#[],by rw[e];simp⟩) (fun m hm=>?_) (fun b u Z=>?_) M.bare
  .obtain⟨f,P,U,ho,r⟩:=hm;exact⟨f,P,U,k _ f (fun t=>w.2.1 (AF.mp t).symm) ho,r⟩
  .have nf:∀b u,H' b=some u->b∉[l.heap.objs.size]:=fun b u e t=>by rw[AF.mp t,w.1]at e;cases e
   refine(M.hok b u Z).stay (fun c v p q=>k c v ?_ q) (fun _ q=>q) fun _ _ q=>q;rcases p with z | z
   .rw[z];exact nf b u Z
   .exact nf c _ z
end
section
variable{X:Cx}
theorem zDh{x:Str}{C:A3}{pos:Pos}(h:X.mg x=some (.ref C))(a:Gl X x:=by rfl)(b:(x ==("__debug__":Str))=false:=by decide):PE X (.Name x pos) (tC (.ref C)):=Jt a h rfl b
theorem Vk(E:X.calm=true):K0 X (.builtin "any") (fun xs H Q=>∃(p:A3) (bs:A1 Bool),xs = [.ref p]/\IA X.K H p (bs.map V.bl)/\Q (.bl (bs.any id)) H):=by
 intro B s σ H xs M Q I r h;obtain⟨p,bs,rfl,F,q⟩:=h;obtain⟨u,rfl,t⟩:=U8 r;cases t;obtain⟨a,w,x,N⟩:=I.list F;refine call_any_walk (FQ x.isList ?_);have y:p≠s.heap.objs.size:=by
  obtain⟨o,n,e,_⟩:=x;exact AX (AI e)
 refine⟨s.heap.objs.size,_,_,_,_,_,fun i=>bs.getD i false,rfl,Walks.list (A:=X.A.in1) (show X.A.in1.handled=none from I.ok.hd E) _ p y a.toArray,⟨⟨_,AQ _ rfl,rfl,rfl⟩,?_⟩,fun i v O P R G J=>?_,fun S T k=>?_⟩
 .obtain⟨o,n,e,c,d,L⟩:=x;exact⟨o,AD _ e,c,n,L⟩
 .have f:(bs.map V.bl)[i]?=some (V.bl (bs.getD i false))/\RelV (V.bl (bs.getD i false)) v:=by
   have g:a[i]?=some v:=by simpa using G
   have j:i<a.length:=(AE.mp g).1;have m:=w.length;rw[AB]at m;have e:(bs.map V.bl)[i]?=some (V.bl (bs.getD i false)):=by
    rw[AH,AC (by omega)];simp[AN,AC (show i<bs.length by omega)]
   obtain⟨u,C,t⟩:=w.get e;rw[g]at C;cases C;exact⟨e,t⟩
  cases f.2;exact DE J
 .have m:=w.length;rw[AB]at m;have e:(List.range a.toArray.size).any (fun i=>bs.getD i false)=bs.any id:=by
   rw[AM,<-m,BV,HQ,HQ];constructor
   .rintro⟨i,j,z⟩;have l:=BX.mp j;refine⟨bs[i],FX l,?_⟩;simpa [AN,AC l] using z
   .rintro⟨b,f,z⟩;obtain⟨i,j,rfl⟩:=FO.mp f;refine⟨i,BX.mpr j,?_⟩;simpa [AN,AC j] using z
  rw[e];exact⟨.bl (bs.any id),H,I.kept fun b o D=>k b o (by
   intro f;have:b=s.heap.objs.size:=by simpa using f
   exact absurd (AI D) (by rw[this];exact DP _)) (AD _ D),rfl,q⟩
theorem zAs:bootBuiltins "any" = some (.builtin "any"):=by decide +kernel
variable(K:PySem.W.Frag)
theorem zCg(a:X.calm=true:=by rfl)(b:X.K=K:=by rfl):K0 X (.builtin "any") (fun xs H Q=>∃(p:A3) (bs:A1 Bool),xs = [.ref p]/\IA K H p (bs.map V.bl)/\Q (.bl (bs.any id)) H):=by subst b;exact Vk a
end
def Fm:bootBuiltins "sum" = some (.builtin "sum"):=by decide +kernel
section
variable{X:Cx}
theorem Rv(f:X.calm=true):K0 X (.builtin "sum") (fun xs H Q=>∃(p:A3) (ns:A1 Int),xs = [.ref p]/\IA X.K H p (ns.map V.int)/\Q (.int ns.sum) H):=by
 intro b s σ H xs o Q I r h;obtain⟨p,ns,rfl,g,q⟩:=h;obtain⟨u,rfl,i⟩:=U8 r;cases i;obtain⟨a,j,l,t⟩:=I.list g;have c:=l7 j;obtain⟨xs,d⟩:=c.allInts.items;refine sum_intListG (xs:=xs) (I.ok.hd f) (by rw[<-d];exact l.isList) fun v w m k=>⟨.int ns.sum,H,I.kept k,⟨m,?_⟩,q⟩;have e:numsOf a=ns:=c.numsOf;have n:numsOf (intItems xs).toList=numsOf a:=by rw[<-d]
 rw[preSum_eq,CZ (by simp),<-nums_intItems,n,e]
theorem Lh(K:PySem.W.Frag)(a:X.K=K:=by rfl)(b:X.calm=true:=by rfl):K0 X (.builtin "sum") (fun xs H Q=>∃(p:A3) (ns:A1 Int),xs = [.ref p]/\IA K H p (ns.map V.int)/\Q (.int ns.sum) H):=by subst a;exact Rv b
end
def Itd(d:A3)(o:Obj)(a:A1 (IR×V)):It :=
 ⟨fun i H=>H d=some (.frz o (.dK a))/\i<a.length,fun i H x b=>b=H/\∃k v,a[i]?=some (k,v)/\x=kV k,fun i H=>H d=some (.frz o (.dK a))/\a.length<=i⟩
def KV.at{c:A1 (IR×V)}{vs:A1 (IR×A2)}(h:KV c vs):∀{i:Nat} {k:IR} {v:V},c[i]?=some (k,v)->∃u,vs[i]?=some (k,u):=by
 induction h with
 | nil=>intro i k v e;rw[List.getElem?_nil]at e;cases e
 | cons r _ d =>
  intro i k v e;cases i with
  | zero =>
   rw[List.getElem?_cons_zero]at e⊢;cases e;obtain⟨a,b⟩:=r;exact⟨_,by rw[show k=_ from a]⟩
  | succ i=>exact d e
def Zi{k:IR}{u:A2}(h:Fx k u=true):RelV (kV k) u:=by
 cases k with
 | inl i=>obtain⟨t,rfl⟩:=Value.isInt_shape h;exact⟨t,rfl⟩
 | inr x=>obtain⟨t,rfl⟩:=Value.isStrOf_shape h;exact⟨t,rfl⟩
section
variable{X:Cx}{tg:IB}
theorem Ql{P:A7}{w:HW}{K:PySem.W.Frag}{d g:A3}{o:Obj}{a:A1 (IR×V)}{C:F1 DictEntry}{ep:Nat}(t:o.data = .dict C ep):MO P w K tg (Itd d o a) [g] g (fun i h=>h.IsKeyIter g d i a.length ep) where
 mem:=by simp
 obj:=fun i h st b j=>by
  have e:b=g:=by simpa using j
  subst e;obtain⟨o,e,c,d⟩:=st;exact⟨o,e,fun v z=>by rw[d]at z;cases z⟩
 keep:=fun i h x st k=>by
  obtain⟨o,e,r⟩:=st;exact⟨o,k g (by simp) o e,r⟩
 item:=by
  intro X D F G hc i f s σ H E I y st J;subst D F G;obtain⟨L,A⟩:=J;obtain⟨M,N,f2,O,Q,R⟩:=y g (by simp);obtain⟨m,hz,hS,S,r,ob,T,U,n,Y,p,Z⟩:=(show IK X.prog X.w H s.heap d (.frz o (.dK a))from I.hok d _ L);rw[m]at n;cases n;rw[t]at p;cases p;have hx:a[i]?=some (a[i].1,a[i].2):=AC A;obtain⟨u,hu⟩:=r.at hx;have B:a.length=S.length:=r.length;rw[B]at st;refine wpAny_pyNext_dict_item (knd:=C7 X.prog X.w) st ⟨o,C,m,Y,t,Z⟩ hu fun key x q l sb=>?_;have I1:Inv X f σ H { s with heap:=x }:=I.turned (t':=s.toks) (fun b o j e=>(sb.2 b j).trans e) M N O Q R;obtain⟨oi,ei,ci,di⟩:=id l;rw[<-B]at l;exact⟨key,rfl,Nj (s:={ s with heap:=x }) ei ci di (by decide) ⟨kV a[i].1,H,I1,Zi q,⟨rfl,_,_,hx,rfl⟩,l,fun b j=>(y b j).1⟩⟩
 done:=by
  intro X D F G hc i f s σ H E I y st J;subst D F G;obtain⟨L,A⟩:=J;obtain⟨M,N,f2,O,Q,R⟩:=y g (by simp);obtain⟨m,hz,hS,S,r,ob,T,U,n,Y,p,Z⟩:=(show IK X.prog X.w H s.heap d (.frz o (.dK a))from I.hok d _ L);rw[m]at n;cases n;rw[t]at p;cases p;have B:a.length=S.length:=r.length;rw[B]at st A;exact wpAny_pyNext_dict_end (knd:=C7 X.prog X.w) (I.ok.hd hc) st ⟨o,C,m,Y,t,Z⟩ (FE A) fun x eb=>⟨rfl,I.turned (t':=s.toks) (fun b o j e=>eb b o j e) M N O Q R⟩
 self:=fun _ _ _ _ _ st h=>wpAny_pyIter_keyiter st h
end
section
variable{X:Cx}(K:PySem.W.Frag)
theorem slT(a:X.K=K:=by rfl):TC X (zFc K):=by subst a;exact zCd
end
section
variable{prog:A7}{w:HW}{A:IC}{E:A2->A4->Prop}{s:A4}
theorem Vb{t b:A3}{vs g:A1 A2}{Q:A2->A4->Prop}(o:IsTup s.heap t vs.toArray)(p:IsTup s.heap b g.toArray)(q:vs = [])(h:Q (.ref b) s):wpAny (model prog w) A (binaryOp .Add (.ref t) (.ref b)) Q E s:=by
 obtain⟨⟨r,u,i,v⟩,j,k,n,l⟩:=id o;obtain⟨⟨m,e,data2,f⟩,a,c,x,d⟩:=id p;simp only at k l c d;subst k l c d;exact concat_meets ⟨_,j,rfl⟩ ⟨_,a,rfl⟩ noFill_tuple_add seq_tuple_add PySem.F.slot_tuple_add PySem.F.entry_tuple_add (PySem.F.args_tuple_add_2 _ _)
  (tuple_addW0 t b vs.toArray g.toArray n x u e v f (by simp[q])) ⟨j,a,h⟩
end
section
variable{X:Cx}(K:PySem.W.Frag)
def zDg:R2:=fun x y H Q=>∃a b c d,x = .ref a/\y = .ref b/\IZ K H a c/\IZ K H b d/\d≠[]/\c.length+d.length<=sizeLine /\
 (c = []->Q (.ref b) H)/\(c≠[]->∀p,H p=none->Q (.ref p) (HX H p (.tup (c++d))))
theorem Yz(n:X.K=K:=by rfl):KU X (binaryOp .Add) (zDg K):=by
 subst n;intro d s σ H x y v u Q I e f h;obtain⟨a,b,g,o,i,j,k,l,p,q,r,t⟩:=h;by_cases c:g = []
 .subst i j c;cases e;cases f;obtain⟨w,A,B,_⟩:=I.tuple k;obtain⟨m,D,C,_⟩:=I.tuple l;exact Vb B C (A.nil_iff.mpr rfl) ⟨.ref b,H,I,rfl,r rfl⟩
 .exact Xb _ _ _ _ _ _ _ _ _ I e f ⟨a,b,g,o,i,j,k,l,c,q,fun z=>absurd z p,fun _=>t c⟩
end
def y0:∀{xs:A1 V} {us:A1 A2},IH xs us->∀i:Nat,(xs[i]?=none/\us[i]?=none)\/∃x u,xs[i]?=some x/\us[i]?=some u/\RelV x u
 | _,_,.nil,i=>.inl ⟨rfl,rfl⟩
 | x::xs,u::us,.cons r t,0=>.inr ⟨x,u,rfl,rfl,r⟩
 | x::xs,u::us,.cons r t,i+1=>y0 t i
section
variable{prog:A7}{w:HW}{A:IC}{E:A2->A4->Prop}{s:A4}{it l:A3}{i:Nat}{items:F1 A2}{x:A2}{Q:A2->A4->Prop}
theorem Cd{z TI TO d f m l2:A3}{r t:Nat}{xs K:F1 A2}{x y a b:A2}(D:ZipApart z TI TO d f m l2)(hz:IsZip s.heap z TI TO .none)(B:IsPair s.heap TI (.ref d) (.ref f))(C:IsPair s.heap TO a b)
  (h1:s.heap.IsListIter d m r) (h2:s.heap.IsTupleIter f l2 t) (T:s.heap.IsList m xs) (U:s.heap.IsTuple l2 K) (V:xs[r]?=some x) (W:K[t]?=some y)
  (X:∀h',IsZip h' z TI TO (rawInt s.heap.objs.size)->IsPair h' TO x y->h'.IsListIter d m (r+1)->h'.IsTupleIter f l2 (t+1)->IsPair h' s.heap.objs.size x y->h'.objs.size=s.heap.objs.size+1->(∀c o,c≠z->c≠TO->c≠d->c≠f->s.heap.get? c=some o->h'.get? c=some o)->Q (.ref s.heap.objs.size) { s with heap:=h' }) :
  wpAny (model prog w) A (Builtin.«zip.__next__» ⟨[.ref z],[]⟩) (fun fin Y=>∃v,fin = .done (.ret v)/\Q v Y) E s:=by
 obtain⟨F,gg,dd,tt,oo⟩:=s;refine AA (AG (AA (DA hz rfl rfl (AA (DA hz rfl rfl (AA (DC B rfl ?_)))))));refine EH rfl (AA (AA (DA hz rfl rfl (AG (wpAny_ite_true rfl ?_)))));refine AA (EU (AA (DA hz rfl rfl (AA (FD hz (GR 4) fun h3 Z g=>?_)))));have a3:=h1.extBut g.extBut D.i1z;have b3:=h2.extBut g.extBut D.i2z;have c3:=T.extBut g.extBut D.l1z;have d3:=U.extBut g.extBut D.l2z;have e3:=(g.2 TO D.TOz).trans C;refine AA ?_;rw[show(#[Value.ref d,Value.ref f].toList.zipIdx) = [(Value.ref d,0),(Value.ref f,1)]from rfl];refine Sz (u:=(none,())) (v:=(none,())) ?_;refine AA (wpAny_onRaise (EH rfl (AA (GC a3 c3 V fun h4 a4 h=>AG ?_))));have L:=(h.2 TO D.TOi1).trans e3;refine AA (DC L rfl (AA (wpAny_updateSeq_pair L fun h5 e5 i=>AA (HF (AG ⟨rfl,?_⟩)))));have b5:=(b3.extBut h.extBut D.i12.symm).extBut i.extBut D.TOi2.symm;have d5:=(d3.extBut h.extBut D.l2i1).extBut i.extBut D.l2TO;refine AA (wpAny_onRaise (EH rfl (AA (Ay b5 d5 W fun h6 b6 j=>AG ?_))));have M:=(j.2 TO D.TOi2).trans e5;refine AA (DC M rfl (AA (wpAny_updateSeq_pair M fun n N k=>AA (HF (AG ⟨rfl,?_⟩)))));have z7:=(k.2 z D.TOz.symm).trans ((j.2 z D.i2z.symm).trans ((i.2 z D.TOz.symm).trans ((h.2 z D.i1z.symm).trans Z)));have G:n.objs.size=F.objs.size:=k.1.trans (j.1.trans (i.1.trans (h.1.trans g.1)));have O:∀{c:A3} {o:Obj},F.get? c=some o->c≠n.objs.size:=fun e=>by rw[G];exact AX (AI e)
 refine AA (DC N rfl (AA (HI (AA (AA (FD (AD _ z7) (GR 4) fun h8 z8 H=>FD z8 (Nat.succ_lt_succ (GR 3)) fun p P I=>AG ⟨_,rfl,?_⟩))) (by show 2<=sizeLine;decide))));have q:∀{c:A3} {o:Obj},c≠z->n.get? c=some o->p.get? c=some o:=fun l e=>(I.2 _ l).trans ((H.2 _ l).trans (AD _ e));have J:p.objs.size=F.objs.size+1:=I.1.trans (H.1.trans ((DQ ..).trans (congrArg (· + 1) G)));have R:p.get? n.objs.size=some ⟨.type "tuple",none,.seq #[x,y],#[]⟩:=(I.2 _ (O hz).symm).trans ((H.2 _ (O hz).symm).trans (AQ _ rfl));rw[G]at P R⊢;refine X p P (q D.TOz N) (a4.at fun o e=>?_) (b6.at fun o e=>?_) R J fun c o l S n1 n2 e=>q l ?_
 .exact q D.i1z ((k.2 _ D.TOi1.symm).trans ((j.2 _ D.i12).trans ((i.2 _ D.TOi1.symm).trans e)))
 .exact q D.i2z ((k.2 _ D.TOi2.symm).trans e)
 .exact(k.2 _ S).trans ((j.2 _ n2).trans ((i.2 _ S).trans ((h.2 _ n1).trans ((g.2 _ l).trans e))))
theorem Ea{z TI TO a b f l2:A3}{j:Nat}{xs:F1 A2}{Q:PySem.Fin->A4->Prop}(p:A.handled=none)(D:ZipApart z TI TO a b f l2)(hz:IsZip s.heap z TI TO .none)(g:IsPair s.heap TI (.ref a) (.ref b))
  (h1:s.heap.IsListIter a f j) (r:s.heap.IsList f xs) (t:xs[j]?=none)
  (u:∀h' e,(∀c o,c≠z->c≠TO->c≠a->c≠b->s.heap.get? c=some o->h'.get? c=some o)->(∃o,h'.get? e=some o/\o.cls = .type "StopIteration")->E (.ref e) { s with heap:=h' }) :
  wpAny (model prog w) A (Builtin.«zip.__next__» ⟨[.ref z],[]⟩) Q E s:=by
 obtain⟨B,C,F,tt,G⟩:=s;refine AA (AG (AA (DA hz rfl rfl (AA (DA hz rfl rfl (AA (DC g rfl ?_)))))));refine EH rfl (AA (AA (DA hz rfl rfl (AG (wpAny_ite_true rfl ?_)))));refine AA (EU (AA (DA hz rfl rfl (AA (FD hz (GR 4) fun H k h=>?_)))));refine AA ?_;rw[show(#[Value.ref a,Value.ref b].toList.zipIdx) = [(Value.ref a,0),(Value.ref b,1)]from rfl,FK];refine AA (AA (wpAny_onRaise (EH rfl (AA (wpAny_nextOf_list_end p (h1.extBut h.extBut D.i1z) (r.extBut h.extBut D.l1z) t fun I e i d=>?_)))));refine FD (i z _ D.i1z.symm k) (GR 4) fun v J l=>u v e (fun c o m _ x _ e=>(l.2 _ m).trans (i c o x ((h.2 _ m).trans e))) ?_;obtain⟨o,d,n⟩:=d;have y:e≠z:=fun q=>by
  subst q;rw[i e _ D.i1z.symm k]at d;cases d;exact absurd (show Value.type "zip" = .type "StopIteration" from n) (by decide)
 exact⟨o,(l.2 _ y).trans d,n⟩
theorem Zd(O:A.handled=none)(z TI TO f g j l2:A3)(D:ZipApart z TI TO f g j l2)(xs v:F1 A2)(P:xs.size<=v.size) :
  WalksT prog w A z [z,TI,TO,f,g,j,l2] [z,TO,f,g] xs.size (fun i C=>∃x y,xs[i]?=some x/\v[i]?=some y/\C = #[x,y])
   (fun i h=>IsZip h z TI TO .none/\IsPair h TI (.ref f) (.ref g)/\(∃a b,IsPair h TO a b)/\h.IsListIter f j i/\h.IsTupleIter g l2 i/\h.IsList j xs/\h.IsTuple l2 v)
   (fun i T h=>IsZip h z TI TO (rawInt T)/\IsPair h TI (.ref f) (.ref g)/\(∃a b,IsPair h TO a b)/\h.IsListIter f j (i+1)/\h.IsTupleIter g l2 (i+1)/\h.IsList j xs/\h.IsTuple l2 v/\T≠z/\T≠TO/\T≠f/\T≠g) where
 sub:=by simp
 frame:=fun i h B ⟨c,l,⟨a,b,p⟩,m,r,n,t⟩ k=>⟨k z (by simp) _ c,k TI (by simp) _ l,⟨a,b,k TO (by simp) _ p⟩,m.at (k f (by simp)),r.at (k g (by simp)),n.at (k j (by simp)),t.at (k l2 (by simp))⟩
 item:=fun i s Q E K ⟨c,l,⟨a,b,p⟩,m,r,n,t⟩ G=>by
  have H:xs[i]?=some xs[i]:=FG K;have L:v[i]?=some (v[i]'(BG K P)):=FG _;refine AA (HR (DX (Kq c) F.slot_zip_next (DW F.slot_zip_next (Kq c) F.entry_zip_next (Cd D c l p m r n t H L fun B I R S U V sz k=>AG ?_) (F.args_zip_next_1 _))));refine G _ _ B s.toks ⟨_,_,H,L,rfl⟩ (Nat.le_refl _) ⟨_,V,rfl,_,rfl⟩ ⟨I,k TI _ D.TIz D.TITO D.TIi1 D.TIi2 l,⟨_,_,R⟩,S,U,n.at fun o e=>k j o D.l1z D.l1TO D.l1i1 D.l1i2 e,t.at fun o e=>k l2 o D.l2z D.l2TO D.l2i1 D.l2i2 e,?_,?_,?_,?_⟩ fun b o d e=>?_
  .exact(AX (AI c)).symm
  .exact(AX (AI p)).symm
  .obtain⟨o,e,_⟩:=m;exact(AX (AI e)).symm
  .obtain⟨o,e,_⟩:=r;exact(AX (AI e)).symm
  .simp only[AR,BN,or_false,not_or]at d;exact k b o d.1 d.2.1 d.2.2.1 d.2.2.2 e
 go:=fun M k W i T s Q E ⟨c,l,⟨a,b,p⟩,m,r,n,t,_⟩ G=>wpAny_letOwnedTupleGo_zip c fun B I u=>G B ⟨I,(u.2 _ D.TIz).trans l,⟨a,b,(u.2 _ D.TOz).trans p⟩,m.extBut u.extBut D.i1z,r.extBut u.extBut D.i2z,n.extBut u.extBut D.l1z,t.extBut u.extBut D.l2z⟩ fun b o d e=>(u.2 b fun q=>d (by rw[q];exact BP ..)).trans e
 apart:=fun i T h ⟨_,_,_,_,_,_,_,X,Y,Z,n4⟩ N=>by
  simp only[AR,BN,or_false]at N;rcases N with e | e | e | e
  .exact X e
  .exact Y e
  .exact Z e
  .exact n4 e
 done:=fun s Q E ⟨c,l,⟨a,b,p⟩,m,r,n,t⟩ G=>by
  have H:xs[xs.size]?=none:=Array.getElem?_eq_none (Nat.le_refl _);refine AA (HR (DX (Kq c) F.slot_zip_next (DW F.slot_zip_next (Kq c) F.entry_zip_next (Ea O D c l m n H fun B e k J=>?_) (F.args_zip_next_1 _))));obtain⟨o,J,hc⟩:=J;refine AA (wpAny_isInstance ⟨o,J,hc⟩ isSubtype_stop (AG (G B s.toks fun b o d e=>?_)));simp only[AR,BN,or_false,not_or]at d;exact k b o d.1 d.2.1 d.2.2.1 d.2.2.2 e
 self:=fun i s Q E ⟨c,_⟩ q=>GS c q
end
section
variable{prog:A7}{w:HW}{A:IC}{E:A2->A4->Prop}{s:A4}
theorem Pf{d l2:A3}{xs n:F1 A2}{Q:A2->A4->Prop}(y:s.heap.IsList d xs)(z:s.heap.IsTuple l2 n)
  (B:∀h',IsZip h' (s.heap.objs.size+4) (s.heap.objs.size+2) (s.heap.objs.size+3) .none->IsPair h' (s.heap.objs.size+2) (.ref s.heap.objs.size) (.ref (s.heap.objs.size+1))->IsPair h' (s.heap.objs.size+3) .none .none ->
   h'.IsListIter s.heap.objs.size d 0->h'.IsTupleIter (s.heap.objs.size+1) l2 0->(∀c o,s.heap.get? c=some o->h'.get? c=some o)->Q (.ref (s.heap.objs.size+4)) { s with heap:=h' }) :
  wpAny (model prog w) A (call (.type "zip") [.ref d,.ref l2]) Q E s:=by
 refine callType_new (S:=fun A R j=>j=s/\∀h',IsZip h' (s.heap.objs.size+4) (s.heap.objs.size+2) (s.heap.objs.size+3) .none->IsPair h' (s.heap.objs.size+2) (.ref s.heap.objs.size) (.ref (s.heap.objs.size+1))->IsPair h' (s.heap.objs.size+3) .none .none ->
   h'.IsListIter s.heap.objs.size d 0->h'.IsTupleIter (s.heap.objs.size+1) l2 0->(∀c o,s.heap.get? c=some o->h'.get? c=some o)->R (.ok (.ret (.ref (s.heap.objs.size+4)))) { s with heap:=h' }) F.called_zip rfl (F.typeCall_zip_2 _ _) (F.newCall_zip_2 _ _) (fun _=>F.args_object_init_3 _ _ _) F.entry_zip_new (.of_wp fun prog w A R j l=>?_) ⟨rfl,fun h' p C D G H k=>⟨⟨_,p,rfl⟩,B h' p C D G H k⟩⟩
 obtain⟨rfl,l⟩:=l;obtain⟨a,I,J,tt,K⟩:=j;refine AA (AA (AG (EH rfl (AA (wpAny_of_eq sub_zip (EH rfl (AG ?_)))))))
 let b:=a.push { cls:=.type "list_iterator",data:=.fields #[.ref d,.int 0 0] }
 let f:=b.push { cls:=.type "tuple_iterator",data:=.fields #[.ref l2,.int 0 0] }
 let g:=f.push { cls:=.type "tuple",data:=.seq #[.ref a.objs.size,.ref b.objs.size] }
 let i:=g.push { cls:=.type "tuple",data:=.seq #[.none,.none] }
 have r:b.objs.size=a.objs.size+1:=DQ ..;have t:f.objs.size=a.objs.size+2:=(DQ ..).trans (congrArg (· + 1) r);have x:g.objs.size=a.objs.size+3:=(DQ ..).trans (congrArg (· + 1) t);have L:i.objs.size=a.objs.size+4:=(DQ ..).trans (congrArg (· + 1) x);have m:b.IsTuple l2 n:=z.at fun o e=>AD _ e;have M:b.get? a.objs.size=some { cls:=.type "list_iterator",data:=.fields #[.ref d,.int 0 0] }:=AQ _ rfl;have N:f.get? b.objs.size=some { cls:=.type "tuple_iterator",data:=.fields #[.ref l2,.int 0 0] }:=AQ _ rfl;have O:g.get? f.objs.size=some { cls:=.type "tuple",data:=.seq #[.ref a.objs.size,.ref b.objs.size] }:=AQ _ rfl;have P:i.get? g.objs.size=some { cls:=.type "tuple",data:=.seq #[.none,.none] }:=AQ _ rfl;have u:∀{h:H_} {o:Obj} {c:A3} {q:Obj},h.get? c=some q->(h.push o).get? c=some q:=fun e=>AD _ e;refine EH rfl (AA (AA (Sz (u:=#[.ref a.objs.size]) (v:=#[.ref a.objs.size,.ref b.objs.size]) (AA (BU (FQ y (AG ⟨rfl,AA (BU (wpAny_pyIter_tuple m (AG ⟨rfl,AG ?_⟩)))⟩)))))));refine AA (HI (AA (HI (AA (Gi (AG ⟨_,rfl,?_⟩) ?_)) (by show 2<=sizeLine;decide))) (by show 2<=sizeLine;decide))
 .have T:=AQ i (o:={ cls:=.type "zip",data:=.fields #[.none,.bool false,.bool false,.ref f.objs.size,.ref g.objs.size] }) rfl;have q:=l (i.push { cls:=.type "zip",data:=.fields #[.none,.bool false,.bool false,.ref f.objs.size,.ref g.objs.size] });rw[show(Shared.mk a I J tt K).heap.objs.size=a.objs.size from rfl,<-r,<-t,<-x,<-L]at q;exact q T (u (u O)) (u P) ⟨_,u (u (u (u M))),rfl,rfl⟩ ⟨_,u (u (u N)),rfl,rfl⟩ fun c o e=>u (u (u (u (u e))))
 .show 5<=sizeLine+2;decide
end
def SS(e f:Hp->A3->A1 V->Prop)(a b:A3):It :=
  ⟨fun i H=>∃c d x y,e H a c/\f H b d/\c.length<=d.length/\c[i]?=some x/\d[i]?=some y,fun i H v g=>∃T x y,v = .ref T/\H T=none/\g=HX H T (.tup [x,y])/\(∀c,e H a c->c[i]?=some x)/\∀d,f H b d->d[i]?=some y,
   fun i H=>∃c d,e H a c/\f H b d/\c.length<=d.length/\c.length=i⟩
def Qo(c d:H_->A3->A3->Nat->Prop)(z TI TO e f a b:A3)(i:Nat)(h:H_):Prop:=IsZip h z TI TO .none/\IsPair h TI (.ref e) (.ref f)/\(∃u v,IsPair h TO u v)/\c h e a i/\d h f b i
section
variable{P:A7}{w:HW}{K:PySem.W.Frag}{elts:A1 IB}{kk:Nat}{tp:Pos}{isIt isJt:H_->A3->A3->Nat->Prop}{isq isr:H_->A3->F1 A2->Prop}{sq sr:Hp->A3->A1 V->Prop}
theorem Fc(oI:∀h c l i,isIt h c l i->∃o,h.get? c=some o/\∀v,o.data≠ .cell v)(kI:∀h h' c l i,isIt h c l i->(∀o,h.get? c=some o->h'.get? c=some o)->isIt h' c l i)(oJ:∀h c l i,isJt h c l i->∃o,h.get? c=some o/\∀v,o.data≠ .cell v)(kJ:∀h h' c l i,isJt h c l i->(∀o,h.get? c=some o->h'.get? c=some o)->isJt h' c l i)
  (gI:∀(X:Cx) d σ H s c xs,X.K=K->Inv X d σ H s->sq H c xs->∃its,IH xs its/\isq s.heap c its.toArray) (uI:∀(X:Cx) d σ H s c xs C,X.K=K->Inv X d σ H s->sq H c xs->sq H c C->xs=C) (gJ:∀(X:Cx) d σ H s c xs,X.K=K->Inv X d σ H s->sr H c xs->∃its,IH xs its/\isr s.heap c its.toArray) (uJ:∀(X:Cx) d σ H s c xs C,X.K=K->Inv X d σ H s->sr H c xs->sr H c C->xs=C)
  (z TI TO g j a b:A3) (WI:∀(A:IC),A.handled=none->∀xs C:F1 A2,xs.size<=C.size->WalksT P w A z [z,TI,TO,g,j,a,b] [z,TO,g,j] xs.size (fun i G=>∃x y,xs[i]?=some x/\C[i]?=some y/\G = #[x,y])
   (fun i h=>IsZip h z TI TO .none/\IsPair h TI (.ref g) (.ref j)/\(∃a b,IsPair h TO a b)/\isIt h g a i/\isJt h j b i/\isq h a xs/\isr h b C)
   (fun i T h=>IsZip h z TI TO (rawInt T)/\IsPair h TI (.ref g) (.ref j)/\(∃a b,IsPair h TO a b)/\isIt h g a (i+1)/\isJt h j b (i+1)/\isq h a xs/\isr h b C/\T≠z/\T≠TO/\T≠g/\T≠j)) :
  MO P w K (.Tuple elts kk tp) (SS sq sr a b) [z,TI,TO,g,j] z (Qo isIt isJt z TI TO g j a b) where
 mem:=BP ..
 obj:=fun i h st c t=>by
  obtain⟨h1,R,⟨u,v,U⟩,V,Y⟩:=st;simp only[AR,BN,or_false]at t;rcases t with rfl | rfl | rfl | rfl | rfl
  .exact⟨_,h1,fun v z=>by cases z⟩
  .exact⟨_,R,fun v z=>by cases z⟩
  .exact⟨_,U,fun v z=>by cases z⟩
  .exact oI _ _ _ _ V
  .exact oJ _ _ _ _ Y
 keep:=fun i h h' st k=>by
  obtain⟨h1,R,⟨u,v,U⟩,V,Y⟩:=st;exact⟨k z (by simp) _ h1,k TI (by simp) _ R,⟨u,v,k TO (by simp) _ U⟩,kI _ _ _ _ _ V (k g (by simp)),kJ _ _ _ _ _ Y (k j (by simp))⟩
 item:=by
  intro X hP hw L t i d s σ H E I S st hg;subst hP hw;obtain⟨xs,C,x,y,hq,hr,M,hx,hy⟩:=hg;obtain⟨its,rv,p⟩:=gI _ _ _ _ _ _ _ L I hq;obtain⟨N,F,p'⟩:=gJ _ _ _ _ _ _ _ L I hr;obtain⟨u,hu,ru⟩:=rv.get hx;obtain⟨v,hv,rv'⟩:=F.get hy;have hl:=rv.length;have O:=F.length;have W:=WI X.A (I.ok.hd t) its.toArray N.toArray (by rw[AM,AM,<-hl,<-O];exact M);have hi:i<its.toArray.size:=by rw[AM];exact(AE.mp hu).1
  obtain⟨s1,s2,s3,Z,s5⟩:=id st;refine W.item i s _ _ hi ⟨s1,s2,s3,Z,s5,p,p'⟩ fun T G h' tk hvs hT ht hm k=>?_;obtain⟨x',y',hx',hy',rfl⟩:=hvs;have ex:x'=u:=BE (hx'.symm.trans ((List.getElem?_toArray ..).trans hu));have ey:y'=v:=BE (hy'.symm.trans ((List.getElem?_toArray ..).trans hv));subst ex ey;refine⟨.ref T,rfl,W.go elts kk tp i T _ _ _ hm fun R D k2=>?_⟩;have kk2:∀b o,b∉[z,TI,TO,g,j]->s.heap.get? b=some o->R.get? b=some o:=fun c o f ec=>by
   have n4:c∉[z,TO,g,j]:=fun m=>f (by
    simp only[AR,BN,or_false]at m⊢;exact m.imp_right .inr)
   exact k2 c o n4 (k c o n4 ec)
  have hT2:R.IsTuple T #[x',y']:=ht.at fun o e=>k2 T o (W.apart i T h' hm) e;have J:∀c∈[z,TI,TO,g,j],∃B,s.heap.get? c=some B:=fun c f=>by
   obtain⟨u3,v3,U⟩:=s3;obtain⟨o4,V,_⟩:=oI _ _ _ _ Z;obtain⟨o5,Y,_⟩:=oJ _ _ _ _ s5;simp only[AR,BN,or_false]at f;rcases f with rfl | rfl | rfl | rfl | rfl
   .exact⟨_,s1⟩
   .exact⟨_,s2⟩
   .exact⟨_,U⟩
   .exact⟨_,V⟩
   .exact⟨_,Y⟩
  refine⟨.ref T,HX H T (.tup [x,y]),I.turnLaid (fp:=[z,TI,TO,g,j]) kk2 S J hT ⟨?_,[x',y'],.cons ru (.cons rv' .nil),hT2⟩,rfl,⟨T,x,y,rfl,I.hok.fresh hT,rfl,fun zs hz=>by rw[uI _ _ _ _ _ _ _ _ L I hz hq];exact hx,fun zs hz=>by rw[uJ _ _ _ _ _ _ _ _ L I hz hr];exact hy⟩,⟨D.1,D.2.1,D.2.2.1,D.2.2.2.1,D.2.2.2.2.1⟩,fun c f=>?_⟩
  .show 2<=sizeLine;decide
  .obtain⟨B,eb⟩:=J c f;rw[B6 (AX (BG (AI eb) hT))];exact(S c f).1
 done:=by
  intro X hP hw L t i d s σ H E I S st hg;subst hP hw;obtain⟨xs,C,hq,hr,M,hx⟩:=hg;obtain⟨its,rv,p⟩:=gI _ _ _ _ _ _ _ L I hq;obtain⟨N,F,p'⟩:=gJ _ _ _ _ _ _ _ L I hr;have hl:=rv.length;have O:=F.length;have W:=WI X.A (I.ok.hd t) its.toArray N.toArray (by rw[AM,AM,<-hl,<-O];exact M);have hi:i=its.toArray.size:=by rw[AM,<-hl,hx]
  obtain⟨s1,s2,s3,Z,s5⟩:=id st;rw[hi]at Z s5;refine W.done s _ _ ⟨s1,s2,s3,Z,s5,p,p'⟩ fun h' tk k=>⟨rfl,?_⟩;have nf:∀b u,H b=some u->b∉[z,TI,TO,g,j]:=fun b u e hb=>by rw[(S b hb).1]at e;cases e
  have k':∀c o,c∉[z,TI,TO,g,j]->s.heap.get? c=some o->h'.get? c=some o:=fun c o f ec=>k c o (fun m=>f (by
    simp only[AR,BN,or_false]at m⊢;exact m.imp_right .inr)) ec
  refine I.step (h':=h') (H':=H) (t':=tk) (g':=s.gens) (d':=s.drawn) (ch:=[z,TI,TO,g,j]) (fun b hb=>let⟨_,f1,_,f3,f4,f5⟩:=S b hb;⟨f3,f1,f4,f5⟩) (fun b B _ _ t e _=>k' b B t e) (fun b B _ _ t e _=>⟨B.slots,k' b B t e⟩) (fun _ _ _ _ n=>n)
   (fun b B t e=>⟨B,k' b B t e⟩) (fun _ _ e=>e) (fun _ _ _ e=>e) (fun b ps e=>⟨#[],by rw[e];simp⟩) (fun m hm=>?_) (fun b u eb=>?_) I.bare
  .obtain⟨B,es,ep,ho,r⟩:=hm;exact⟨B,es,ep,k' _ B (fun hb=>(S _ hb).2.1 rfl) ho,r⟩
  .refine(I.hok b u eb).stay (fun c v t q=>k' c v ?_ q) (fun _ q=>q) fun _ _ q=>q;rcases t with z | z
   .rw[z];exact nf b u eb
   .exact nf c _ z
 self:=fun A i s Q E st h=>GS st.1 h
theorem Nv(z TI TO n q a b:A3)(D:ZipApart z TI TO n q a b):MO P w K (.Tuple elts kk tp) (SS (IA K) (IA K) a b) [z,TI,TO,n,q] z (Qo Heap.IsListIter Heap.IsListIter z TI TO n q a b) :=
 Fc (isq:=Heap.IsList) (isr:=Heap.IsList) (fun h c l i ⟨o,e,_,d⟩=>⟨o,e,fun v z=>by rw[d]at z;cases z⟩) (fun h y c l i z k=>z.at k) (fun h c l i ⟨o,e,_,d⟩=>⟨o,e,fun v z=>by rw[d]at z;cases z⟩) (fun h y c l i z k=>z.at k)
  (fun X f σ H s c r g I j=>by subst g;obtain⟨m,t,p,_⟩:=I.list j;exact⟨m,t,p.isList⟩) (fun X f σ H s c r u g I j x=>by subst g;exact I.list_inj j x) (fun X f σ H s c r g I j=>by subst g;obtain⟨m,t,p,_⟩:=I.list j;exact⟨m,t,p.isList⟩) (fun X f σ H s c r u g I j x=>by subst g;exact I.list_inj j x)
  z TI TO n q a b fun A B r u C=>by
   have W:=WalksT.zip2 (prog:=P) (w:=w) B z TI TO n q a b D r u
   rwa [FH C]at W
theorem Rx(z TI TO n q a b:A3)(D:ZipApart z TI TO n q a b):MO P w K (.Tuple elts kk tp) (SS (IA K) (IZ K) a b) [z,TI,TO,n,q] z (Qo Heap.IsListIter Heap.IsTupleIter z TI TO n q a b) :=
 Fc (isq:=Heap.IsList) (isr:=Heap.IsTuple) (fun h c l i ⟨o,e,_,d⟩=>⟨o,e,fun v z=>by rw[d]at z;cases z⟩) (fun h y c l i z k=>z.at k) (fun h c l i ⟨o,e,_,d⟩=>⟨o,e,fun v z=>by rw[d]at z;cases z⟩) (fun h y c l i z k=>z.at k)
  (fun X f σ H s c r g I j=>by subst g;obtain⟨m,t,p,_⟩:=I.list j;exact⟨m,t,p.isList⟩) (fun X f σ H s c r u g I j x=>by subst g;exact I.list_inj j x) (fun X f σ H s c r g I j=>by subst g;obtain⟨m,t,p,_⟩:=I.tuple j;exact⟨m,t,p⟩) (fun X f σ H s c r u g I j x=>by subst g;exact I.tuple_inj j x)
  z TI TO n q a b fun A B r u C=>Zd B z TI TO n q a b D r u C
end
section
variable{X:Cx}{elts:A1 IB}{kk:Nat}{tp:Pos}
def zDq(K:PySem.W.Frag)(R:It->Hp->Prop)(a b:A3)(xs c:A1 V)(H:Hp):Prop:=IA K H a xs/\IA K H b c/\R (SS (IA K) (IA K) a b) H\/IA K H a xs/\IZ K H b c/\R (SS (IA K) (IZ K) a b) H
def zCf(K:PySem.W.Frag)(c:TA):TI:=fun σ H R=>c σ H fun d e=>∃a b f g,d = [.ref a,.ref b]/\zDq K R a b f g e
theorem Xm{a b:IB}{L:TA}{p pos:Pos}(N:Gl X "zip")(O:X.mg "zip" = none)(P:PA X [a,b] L)(Q:starEach [a,b] X.env =(false,eval a X.env)::starEach [b] X.env:=by rfl)(t:(backTo pos (starEach [b] X.env)).any (·.1)=false:=by rfl):PI X (.Tuple elts kk tp) (.Call (.Name "zip" p) [a,b] [] pos) (zCf X.K L):=by
 intro f s σ H R I h;refine Call_ (W7 I N O Sf (PyProof.Rows.callWith_type1 (IT (P pos f s σ H _ I h) fun us d ⟨vs,w,g,S,T⟩=>?_) Q t));obtain⟨l,m,xs,ys,e,q⟩:=T;subst e;obtain⟨u,v,rfl,U,V⟩:=S.two;cases U;cases V;have i:∀c∈[d.heap.objs.size+4,d.heap.objs.size+2,d.heap.objs.size+3,d.heap.objs.size,d.heap.objs.size+1],Es X f w c:=fun c M=>by
  have j:d.heap.objs.size<=c:=by
   simp only[AR,BN,or_false]at M;rcases M with rfl | rfl | rfl | rfl | rfl
   .exact DK ..
   .exact DK ..
   .exact DK ..
   .exact Nat.le_refl _
   .exact DK ..
  exact g.fpOk j (g.hok.fresh j)
 rcases q with⟨x,y,q⟩ | ⟨x,y,q⟩
 .obtain⟨z,W,n,Y⟩:=g.list x;obtain⟨A,Z,o,B⟩:=g.list y;have C:l<d.heap.objs.size:=by obtain⟨_,e,_⟩:=n.isList;exact AI e
  have D:m<d.heap.objs.size:=by obtain⟨_,e,_⟩:=o.isList;exact AI e
  refine call_zip_2 n.isList o.isList fun h' r E F G J hsz k=>GS r ?_;exact⟨d.heap.objs.size+4,_,_,_,w,rfl,g.kept (t':=d.toks) k,Nv _ _ _ _ _ l m (zipApart_new C D),⟨r,E,⟨_,_,F⟩,G,J⟩,i,q⟩
 .obtain⟨z,W,n,Y⟩:=g.list x;obtain⟨A,Z,o,B⟩:=g.tuple y;have C:l<d.heap.objs.size:=by obtain⟨_,e,_⟩:=n.isList;exact AI e
  have D:m<d.heap.objs.size:=by obtain⟨_,e,_⟩:=id o;exact AI e
  refine Pf n.isList o fun h' r E F G J k=>GS r ?_;exact⟨d.heap.objs.size+4,_,_,_,w,rfl,g.kept (t':=d.toks) k,Rx _ _ _ _ _ l m (zipApart_new C D),⟨r,E,⟨_,_,F⟩,G,J⟩,i,q⟩
variable(K:PySem.W.Frag)
theorem zFp{a b:IB}{d:TA}{p pos:Pos}(e:X.mg "zip" = none)(f:PA X [a,b] d)(g:Gl X "zip":=by rfl)(h:starEach [a,b] X.env =(false,eval a X.env)::starEach [b] X.env:=by rfl)(c:(backTo pos (starEach [b] X.env)).any (·.1)=false:=by rfl)(i:X.K=K:=by rfl):PI X (.Tuple elts kk tp) (.Call (.Name "zip" p) [a,b] [] pos) (zCf K d):=by subst i;exact Xm g e f h c
end
def zAu(i:Nat)(f:A3)(sp:Sp)(E:XK)(t:TA):TE:=fun σ H Q=>σ[i]?=some (some (.ref f))/\Yi sp [] E t σ H Q
section
variable{X:Cx}{CX:RE}{k:Nat}{f:A3}{fd:IP}{ps:A1 Str}{sp:Sp}{x:Str}{e:IB}{es:A1 IB}{t:TA}{p pos:Pos}{E:XK}{ds:A1 A2}
theorem Uo{i:Nat}(F:IG X.prog X.w X.K X.mg X.base CX k f fd ps sp)(l:JD k X.A)(m:PySem.W.keepIn X.K (.ref f)=true)(n:Binds X.K fd ps [])(o:n8 CX X E)
  (y:PA X (e::es) t) (z:X.N[i]?=some x:=by rfl) (B:S_ X.env.scope x:=by first | exact Or.inl rfl | exact Or.inr (Or.inl rfl) | exact Or.inr (Or.inr rfl)) (b:(x ==("__debug__":Str))=false:=by decide) (c:(x ==("__classdict__":Str))=false:=by decide)
  (C:starEach (e::es) X.env =(false,eval e X.env)::starEach es X.env:=by rfl) (d:(backTo pos (starEach es X.env)).any (·.1)=false:=by rfl) :
  PE X (.Call (.Name x p) (e::es) [] pos) (zAu i f sp E t):=by
 intro a s σ H Q I h;obtain⟨D,h⟩:=h;refine DT (IT (Wo (i:=i) (pos:=p) z B b c a s σ H (fun v G=>v = .ref f/\G=H) I ⟨_,D,rfl,rfl⟩) fun u J ⟨v,L,g,M,O,P⟩=>?_);subst O P;cases M;refine PySem.W.callWith_K (h₀:=X.base) g.ok.mod.kin m (IT (y pos a J σ L _ g h) fun R S ⟨T,U,j,r,q⟩=>⟨j.kIn,?_⟩) C d;exact Lx F l n .nil o j r q
end
def La(v d:A3):HO:=.ext fun h=>h.IsValuesView v d
def Itv(d:A3)(o:Obj)(a:A1 (IR×V)):It :=
 ⟨fun i H=>H d=some (.frz o (.dK a))/\i<a.length,fun i H x b=>b=H/\∃k,a[i]?=some (k,x),fun i H=>H d=some (.frz o (.dK a))/\a.length<=i⟩
def KV.atV{c:A1 (IR×V)}{vs:A1 (IR×A2)}(h:KV c vs):∀{i:Nat} {k:IR} {v:V},c[i]?=some (k,v)->∃u,vs[i]?=some (k,u)/\RelV v u:=by
 induction h with
 | nil=>intro i k v e;rw[List.getElem?_nil]at e;cases e
 | cons r _ d =>
  intro i k v e;cases i with
  | zero =>
   rw[List.getElem?_cons_zero]at e⊢;cases e;obtain⟨a,b⟩:=r;exact⟨_,by rw[show k=_ from a],b⟩
  | succ i=>exact d e
section
variable{X:Cx}{tg:IB}
def zEq(d:TE):TE:=fun σ H Q=>d σ H fun x b=>∃a c,x = .ref a/\b a=some (.dK c)/\∀v,b v=none->Q (.ref v) (HX b v (La v a))
theorem On{o:IB}{c d:Pos}{m:TE}(t:PE X o m)(f:attributeBase o "values" X.env (eval o X.env)=eval o X.env:=by rfl)(g:(c.endLine == d.line)=true:=by rfl):PE X (.Call (.Attribute o "values" c) [] [] d) (zEq m):=by
 intro i s σ H Q I h;refine wpAny_Call_method0_late f g (IT (t i s σ H _ I h) fun v n ⟨x,u,j,y,a,l,A,p,B⟩=>?_);subst A;obtain rfl:v=Value.ref a:=y;obtain⟨z,C,D,E,q⟩:=Tm j.hok p;obtain⟨G,J,_⟩:=zAn j (.inl ⟨l,.inl p⟩);refine⟨"dict", "dict.values",PySem.F.plainAttrs_dict,PySem.F.slot_dict_values,PySem.F.type_dict_values,G,J,Calls.callWith_builtin rfl (PySem.evalArgs_none ?_)⟩;refine call_meetsIn PySem.F.slot_dict_values q.typeIs PySem.F.entry_dict_values (PySem.F.args_dict_values_1 _) (meets_dict_values (C7 X.prog X.w) a C) ⟨⟨D,q⟩,?_⟩;exact⟨.ref n.heap.objs.size,HX u _ (La _ a),j.laid (t':=n.toks) (fun b o K=>AD _ K) (Nat.le_refl _) ⟨⟨_,AQ _ rfl,rfl,rfl⟩,⟨_,AQ _ rfl⟩,fun L M ⟨o,e,r⟩ k=>⟨o,k o e,r⟩⟩,rfl,B _ j.fresh⟩
theorem Sv{P:A7}{w:HW}{K:PySem.W.Frag}{d g:A3}{o:Obj}{a:A1 (IR×V)}{B:F1 DictEntry}{ep:Nat}(q:o.data = .dict B ep):MO P w K tg (Itv d o a) [g] g (fun i h=>h.IsValIter g d i a.length ep) where
 mem:=by simp
 obj:=fun i h st b j=>by
  have e:b=g:=by simpa using j
  subst e;obtain⟨o,e,c,d⟩:=st;exact⟨o,e,fun v z=>by rw[d]at z;cases z⟩
 keep:=fun i h t st k=>by
  obtain⟨o,e,r⟩:=st;exact⟨o,k g (by simp) o e,r⟩
 item:=by
  intro X C D F Z i f s σ H E I x st G;subst C D F;obtain⟨J,y⟩:=G;obtain⟨L,M,f2,N,O,Q⟩:=x g (by simp);obtain⟨m,hz,hS,R,r,ob,S,T,n,U,p,Y⟩:=(show IK X.prog X.w H s.heap d (.frz o (.dK a))from I.hok d _ J);rw[m]at n;cases n;rw[q]at p;cases p;have hx:a[i]?=some (a[i].1,a[i].2):=AC y;obtain⟨u,hu,ru⟩:=r.atV hx;have A:a.length=R.length:=r.length;rw[A]at st;refine wpAny_pyNext_values_item (knd:=C7 X.prog X.w) st ⟨o,B,m,U,q,Y⟩ hu fun t l sb=>?_;have I1:Inv X f σ H { s with heap:=t }:=I.turned (t':=s.toks) (fun b o j e=>(sb.2 b j).trans e) L M N O Q;obtain⟨oi,ei,ci,di⟩:=id l;rw[<-A]at l;exact⟨u,rfl,Nj (s:={ s with heap:=t }) ei ci di (by decide) ⟨a[i].2,H,I1,ru,⟨rfl,_,hx⟩,l,fun b j=>(x b j).1⟩⟩
 done:=by
  intro X C D F Z i f s σ H E I x st G;subst C D F;obtain⟨J,y⟩:=G;obtain⟨L,M,f2,N,O,Q⟩:=x g (by simp);obtain⟨m,hz,hS,R,r,ob,S,T,n,U,p,Y⟩:=(show IK X.prog X.w H s.heap d (.frz o (.dK a))from I.hok d _ J);rw[m]at n;cases n;rw[q]at p;cases p;have A:a.length=R.length:=r.length;rw[A]at st y;exact wpAny_pyNext_values_end (knd:=C7 X.prog X.w) (I.ok.hd Z) st ⟨o,B,m,U,q,Y⟩ (FE y) fun t eb=>⟨rfl,I.turned (t':=s.toks) (fun b o j e=>eb b o j e) L M N O Q⟩
 self:=fun _ _ _ _ _ st h=>wpAny_pyIter_valiter st h
def zGj(c:TE):TI:=fun σ H R=>c σ H fun x b=>∃v d a,x = .ref v/\b v=some (La v d)/\b d=some (.dK a)/\∀o,R (Itv d o a) (HX b d (.frz o (.dK a)))
theorem zAm{l:IB}{t:TE}(j:PE X l t):PI X tg l (zGj t):=by
 intro c s σ H R I h;refine IT (j c s σ H _ I h) fun v s1 ⟨x,g,k,D,E⟩=>?_;obtain⟨m,d,a,e,F,y,q⟩:=E;subst e;cases D;obtain⟨f,_⟩:=(show IK X.prog X.w g s1.heap m (La m d)from k.hok m _ F);obtain⟨G,J,z,r,o,A,ep,i,B,n,C⟩:=(show IK X.prog X.w g s1.heap d (.dK a)from k.hok d _ y);have p:Inv X c σ (HX g d (.frz o (.dK a))) { s1 with heap:=s1.heap,toks:=s1.toks }:=k.write (t':=s1.toks) (by rw[y];trivial) (.inl rfl) (fun b u _ e=>e) ⟨_,i⟩ ⟨i,G,J,z,r,o,A,ep,i,B,n,C⟩;have j:a.length=z.length:=r.length;refine wpAny_pyIter_values (knd:=C7 X.prog X.w) (ep:=ep) f ⟨o,A,i,B,n,C⟩ ?_;refine⟨s1.heap.objs.size,[s1.heap.objs.size],_,_,HX g d (.frz o (.dK a)),rfl,p.kept (t':=s1.toks) fun b o e=>AD _ e,Sv n,?_,fun b K=>?_,q o⟩
 .rw[j];exact⟨_,AQ _ rfl,rfl,rfl⟩
 have e:b=s1.heap.objs.size:=by simpa using K
 subst e;exact p.fpOk (Nat.le_refl _) (p.hok.fresh (Nat.le_refl _))
theorem Bb(ns:A1 Int):∀{n:Nat},n<=ns.length->preSum (fun i=>ns.getD i 0) n =(ns.take n).sum
 | 0,_=>rfl
 | n+1,h=>by
  have e:ns[n]?=some ns[n]:=AC (by omega);show preSum (fun i=>ns.getD i 0) n+ns.getD n 0=_;rw[Bb ns (by omega),List.take_succ,List.sum_append,AN,e];simp
def zDv:A1 V->Hp->VK->Prop:=fun c H Q=>∃(v d:A3) (a:A1 (IR×V)) (b:A1 Int),c = [.ref v]/\H v=some (La v d)/\H d=some (.dK a)/\(a.map fun q=>q.2)=b.map V.int/\Q (.int b.sum) H
theorem Xe(F:X.calm=true:=by rfl):K0 X (.builtin "sum") zDv:=by
 intro p s σ H N O Q I r h;obtain⟨v,d,a,c,rfl,G,J,x,q⟩:=h;obtain⟨u,rfl,j⟩:=U8 r;cases j;obtain⟨f,_⟩:=(show IK X.prog X.w H s.heap v (La v d)from I.hok v _ G);obtain⟨P,R,g,r,o,y,ep,m,z,A,B⟩:=(show IK X.prog X.w H s.heap d (.dK a)from I.hok d _ J);have S:a.length=g.length:=r.length;have K:a.length=c.length:=by have:=congrArg List.length x;rw[AB,AB]at this;exact this
 refine call_sum_walkG (wpAny_pyIter_values (knd:=C7 X.prog X.w) (ep:=ep) f ⟨o,y,m,z,A,B⟩ ?_);have n:d≠s.heap.objs.size:=AX (AI m);refine⟨s.heap.objs.size,_,_,g.length,_,_,fun i=>c.getD i 0,rfl,Walks.dictValues (knd:=C7 X.prog X.w) (by simp only[Around.in1_handled];exact I.ok.hd F) s.heap.objs.size d n g ep,⟨⟨_,AQ _ rfl,rfl,rfl⟩,o,y,AD _ m,z,A,B⟩,fun b hb=>?_,fun i u ⟨k,C⟩=>?_,fun T L t' M=>⟨.int c.sum,H,I.kept (t':=L) fun b o e=>M b o (by simpa using AX (AI e)) (AD _ e),⟨t',?_⟩,q⟩⟩
 .rw[DQ];rcases AR.mp hb with rfl | hb
  .exact E_ _
  .rw[AF.mp hb];exact DZ (AI m)
 .have U:i<g.length:=(AE.mp C).1;have D:a[i]?=some (a[i].1,a[i].2):=AC (by omega);obtain⟨W,E,j⟩:=r.atV D;rw[C]at E;cases E;have e:=congrArg (fun l=>l[i]?) x;rw[AH,AH,D,AC (by omega:i<c.length)]at e;have e:a[i].2=V.int c[i]:=BE e;rw[e]at j;obtain⟨t,rfl⟩:=j;exact⟨t,by show Value.int c[i] t=Value.int (c.getD i 0) t;rw[AN,AC (by omega:i<c.length)];rfl⟩
 .have:preSum (fun i=>c.getD i 0) g.length=c.sum:=by
   rw[Bb _ (by omega),CZ (by omega)]
  rw[this]
end
section
variable{X:Cx}
theorem zEm:PIp X .BitOr (ipI fun i j=>Builtin.bitOr i j):=by
 intro a s σ H x y v u Q I b c h;obtain⟨i,j,d,e,q⟩:=h;subst d;subst e;obtain⟨t,rfl⟩:=b;obtain⟨f,rfl⟩:=c;exact ior_int ⟨.int _,H,I.tok _,⟨_,rfl⟩,q⟩
end
section
variable{X:Cx}{tg:IB}
def zDy(c:TE):TI:=fun σ H R=>c σ H fun x b=>∃d a,x = .ref d/\Rd b d (.dK a)/\∀o,R (Itd d o a) (HX b d (.frz o (.dK a)))
theorem Vo{H:Hp}{d:A3}{o:HO}(h:H d=some o):HX H d o=H:=funext fun b=>by
 by_cases e:b=d
 .subst e;rw[A9,h]
 .rw[B6 e]
theorem Xj{l:IB}{D:TE}(B:PE X l D):PI X tg l (zDy D):=by
 intro i s σ H R I h;refine IT (B i s σ H _ I h) fun v s1 ⟨x,z,A,E,F⟩=>?_;obtain⟨d,a,e,j,q⟩:=F;subst e;cases E;obtain⟨o,C,t,m,c,r,f,ep,g,n,k,p⟩:∃o,Inv X i σ (HX z d (.frz o (.dK a))) { s1 with heap:=s1.heap,toks:=s1.toks }/\a.length<=sizeLine/\(d == sysModules)=false/\∃c,KV a c/\∃f ep,s1.heap.get? d=some o/\o.ExactDict/\o.data = .dict f ep/\(PySem.KeysOf (C7 X.prog X.w) f/\Pairs (C7 X.prog X.w) f.toList c/\(c.map (·.1)).Nodup):=by
  rcases j with j | ⟨o,j⟩
  .obtain⟨t,m,c,r,o,f,ep,g,n,k,p⟩:=(show IK X.prog X.w z s1.heap d (.dK a)from A.hok d _ j);exact⟨o,A.write (t':=s1.toks) (by rw[j];trivial) (.inl rfl) (fun b u _ e=>e) ⟨_,g⟩ ⟨g,t,m,c,r,o,f,ep,g,n,k,p⟩,t,m,c,r,f,ep,g,n,k,p⟩
  .obtain⟨g,t,m,c,r,J,f,ep,y,n,k,p⟩:=(show IK X.prog X.w z s1.heap d (.frz o (.dK a))from A.hok d _ j);rw[g]at y;cases y;exact⟨o,by rw[Vo j];exact A,t,m,c,r,f,ep,g,n,k,p⟩
 have B:a.length=c.length:=r.length;refine wpAny_pyIter_dict (knd:=C7 X.prog X.w) (ep:=ep) m ⟨o,f,g,n,k,p⟩ ?_;refine⟨s1.heap.objs.size,[s1.heap.objs.size],_,_,HX z d (.frz o (.dK a)),rfl,C.kept (t':=s1.toks) fun b o e=>AD _ e,Ql k,?_,fun b G=>?_,q o⟩
 .rw[B];exact⟨_,AQ _ rfl,rfl,rfl⟩
 have e:b=s1.heap.objs.size:=by simpa using G
 subst e;exact C.fpOk (Nat.le_refl _) (C.hok.fresh (Nat.le_refl _))
end
def l8{a b:A3}{n:Nat}(h1:a<n)(h2:n<=b):b≠a:=fun z=>by subst z;exact absurd h2 (Nat.not_le_of_lt h1)
section
variable{fs ex:A1 A3}{H:Hp}{h h':H_}{a:A3}
theorem MC.table{P:A7}{w:HW}{f g:F1 A2}(i:MC P w H h)(j:H a=some (.tbl f))(k:∀b u,b≠a->h.get? b=some u->h'.get? b=some u)(l:h'.get? a=some { cls:=.none,data:=.fields g }):MC P w (HX H a (.tbl g)) h':=fun b u q=>by
 by_cases d:b=a
 .subst d;rw[A9]at q;cases q;exact l
 .rw[B6 d]at q;have n:∀c o,H c=some o->o≠ .tbl f->c≠a:=fun c o e m z=>by rw[z,j]at e;cases e;exact m rfl
  refine(i b u q).stay (fun c v hc r=>k c v ?_ r) (fun c r=>by rw[B6 (n c _ r (by intro z;cases z))];exact r) fun c p r=>by rw[B6 (n c _ r (by intro z;cases z))];exact r
  rcases hc with rfl | hc
  .exact d
  .exact n c _ hc (by intro z;cases z)
end
section
variable{P:A7}{w:HW}{fs ex:A1 A3}{H H':Hp}{h h':H_}{a:A3}{o:HO}
theorem Un.more{p:A3}{g more:F1 A2}(c:H p=some (.tbl g))(d:H' p=some (.tbl (g++more)))(a:∀b o,H b=some o->b≠p->H' b=some o)(f:∀b,b<h.objs.size->H b=none->H' b=none)
  (k:∀b u,b≠p->h.get? b=some u->h'.get? b=some u) (j:∃u,h'.get? p=some u):Un fs ex H H' h h':=by
 have i:∀b,H b=none->b≠p:=fun b n e=>by rw[e,c]at n;cases n
 refine⟨fun b u q n _ _=>k b u (i b n) q,fun b u q n _ _=>⟨u.slots,k b u (i b n) q⟩,fun b u q n _=>f b (AI q) n,fun b u q _=>?_,fun b l q=>a b _ q fun e=>?_,fun b o u q=>a b _ q fun e=>?_,fun b m q=>?_⟩
 .by_cases e:b=p
  .subst e;exact j
  .exact⟨u,k b u e q⟩
 .rw[e,c]at q;cases q
 .rw[e,c]at q;cases q
 .by_cases e:b=p
  .subst e;rw[c]at q;cases q;exact⟨more,d⟩
  .exact⟨#[],by rw[a b _ q e];simp⟩
theorem MC.track(x:MC P w H h)(f:H a=none)(d:IK P w (HX H a o) h a o):MC P w (HX H a o) h:=fun b u e=>by
 by_cases g:b=a
 .subst g;rw[A9]at e;cases e;exact d
 .rw[B6 g]at e;exact(x b u e).stay (fun c v _ q=>q) (fun c q=>by rw[B6 (B2 q f)];exact q) fun c i q=>by rw[B6 (B2 q f)];exact q
end
def LC(c:A3)(q:Str):HO:=.ext fun h=>h.CodeRec (.ref c) q
def NS(f c:A3)(q:Str)(a:Arguments)(b:IB)(d:JB)(cl:A1 (Str×A3)):HO:=.ext fun h=>∃e g,h.get? f=some (PySem.W.kla_obj "<lambda>" q a b d cl e c g)
def LC.ok{P:A7}{w:HW}{H:Hp}{h:H_}{c:A3}{q:Str}(r:h.CodeRec (.ref c) q):IK P w H h c (LC c q):=by
 have g:=r;obtain⟨i,o,b,t,e,a,d,f⟩:=r;cases e;refine⟨g,⟨o,a⟩,fun l m j k=>?_⟩;obtain⟨i,o,b,t,e,a,d,f⟩:=j;cases e;exact⟨c,o,b,t,rfl,k o a,d,f⟩
def NS.ok{P:A7}{w:HW}{H:Hp}{h:H_}{f c:A3}{q:Str}{d:Arguments}{b:IB}{g:JB}{cl:A1 (Str×A3)}{a ct:A2}(r:h.get? f=some (PySem.W.kla_obj "<lambda>" q d b g cl a c ct)):IK P w H h f (NS f c q d b g cl) :=
 ⟨⟨a,ct,r⟩,⟨_,r⟩,fun i j ⟨a,ct,e⟩ k=>⟨a,ct,k _ e⟩⟩
def O8(cells:A1 (Str×A3)):A1 (Str×JT)->A1 (Str×A3)->A1 (Str×A3)
 | [],a=>a
 | (n,k)::r,a=>O8 cells r (if(k == NameKind.free)=true then(n,(cells.lookup n).getD 0)::a else a)
def Z9{b:JB}{a:P_}(h:∀x∈b.names,x.2 = .free->(a.cells.lookup x.1).isSome=true):closureFor b a=pure (O8 a.cells b.names []):=by
 have g:∀(l:A1 (Str×JT)) (f:A1 (Str×A3)),(∀x∈l,x.2 = .free->(a.cells.lookup x.1).isSome=true) ->
   (forIn (m:=Sem) l f fun x i=>match x with
    | (name,j)=>if(j == NameKind.free)=true then do
      let d <-cellOf a name
      pure (ForInStep.yield ((name,d)::i))
     else pure (ForInStep.yield i))=pure (O8 a.cells l f):=by
  intro l
  induction l with
  | nil=>intro f _;rfl
  | cons x r s =>
   obtain⟨n,k⟩:=x;intro f o;rw[FK];by_cases e:(k == NameKind.free)=true
   .have u:k = .free:=eq_of_beq e;obtain⟨c,t⟩:=EK.mp (o (n,k) (BP ..) u);have p:cellOf a n=pure c:=by
     unfold cellOf;rw[show List.lookup n a.cells=some c from t]
    simp only[e,ES,p,pure_bind];rw[s _ fun y q=>o y (BF _ q)];show _=pure (O8 a.cells r (if(k == NameKind.free)=true then(n,(a.cells.lookup n).getD 0)::f else f));rw[AL e,show List.lookup n a.cells=some c from t];rfl
   .simp only[e,AY,CJ,pure_bind];rw[s _ fun y q=>o y (BF _ q)];show _=pure (O8 a.cells r (if(k == NameKind.free)=true then(n,(a.cells.lookup n).getD 0)::f else f));rw[AJ e]
 unfold closureFor;simp only[g b.names [] h,pure_bind]
def Ak{pos q:Pos}{c:A2}:∀(l:A1 A2),TriplesOk l->¬(pos.line=q.line/\pos.col=q.col)->codeAmong q (l ++ [rawInt pos.line,rawInt pos.col,c])=codeAmong q l
 | [],_,n=>by
  show(if((pos.line:Int) ==(q.line:Int) &&(pos.col:Int) ==(q.col:Int))=true then some c else none)=none;rw[AJ];intro z;rw[BH,beq_iff_eq,beq_iff_eq]at z;exact n ⟨by omega,by omega⟩
 | .int a _ :: .int b _::x::r,h,n=>by
  show(if(a ==(q.line:Int)&&b ==(q.col:Int))=true then some x else codeAmong q (r ++ [rawInt pos.line,rawInt pos.col,c]))=if(a ==(q.line:Int)&&b ==(q.col:Int))=true then some x else codeAmong q r
  rw[Ak r h n]
def J7(H:Hp)(P:A3)(ls:A1 (Pos×Str)):Prop:=∃a,H P=some (.tbl a)/\TriplesOk a.toList/\∀l∈ls,codeAmong l.1 a.toList=none\/∃c,codeAmong l.1 a.toList=some (.ref c)/\H c=some (LC c l.2)
structure TabAt(K:PySem.W.Frag)(mg:Str->A5 A2)(c P:A3):Prop where
 hd:∀h:H_,K.In h->PySem.W.CodeHd h c P
 ne:mainGlobals≠P
def zFr(P:A3)(ls:A1 (Pos×Str))(cl:A1 (Str×A3))(q:Str)(e:Arguments)(b:IB)(g:JB):TE:=fun _ H Q=>J7 H P ls/\∀f c d,H f=none->J7 d P ls->d c=some (LC c q)->d f=some (NS f c q e b g cl)->f≠P->(∀a o,H a=some o->a≠P->d a=some o)->Q (.ref f) d
section
variable{X:Cx}
theorem zCh{args:Arguments}{f:IB}{a:JB}{pos:Pos}{c P:A3}{ls:A1 (Pos×Str)}(T:TabAt X.K X.mg c P)(U:X.base.BuiltinsAt X.mg P)(V:X.env.code = .ref c)(hd1:args.defaults = [])(hd2:args.kw_defaults = [])
  (r:∀x∈a.names,x.2 = .free->X.env.scope.names.lookup x.1=some .cell) (hl:(pos,X.env.qual ++ "<lambda>")∈ls) (hu:∀l∈ls,∀l'∈ls,l.1.line=l'.1.line->l.1.col=l'.1.col->l=l') :
  PE X (.Lambda args f a pos) (zFr P ls (O8 X.env.cells a.names []) (X.env.qual ++ "<lambda>") args f a):=by
 intro pins s σ H Q I h;obtain⟨⟨A,C,D,B⟩,q⟩:=h;have E:defaultsOf args X.env =([],[]):=by
  cases args;cases hd1;cases hd2;rfl
 rw[arm_eval_Lambda,E];refine AA (AG (AA (BU (AG ?_))));have v:s.heap.get? P=some (PySem.W.tabObj A):=I.hok P _ C;have r:∀x∈a.names,x.2 = .free->(X.env.cells.lookup x.1).isSome=true:=fun x hx e=>by
  obtain⟨c,V⟩:=I.ok.has x.1 (.inl (r x hx e));rw[V];rfl
 have F:s.heap.Ns mainGlobals X.mg:=I.mod.glob.keeps I.bk;have U:s.heap.BuiltinsAt X.mg P:=let⟨bm,o,h1,Y,h3,h4,h5,h6⟩:=U;⟨bm,o,h1,Y,h3,h4,I.bk _ _ h5,h6⟩;rcases B _ hl with e | ⟨d,e,hc'⟩
 .refine PySem.W.kla_makeFunction (Z9 r) I.ok.glob F V (T.hd _ I.kIn) v D e T.ne U fun d m g tk xb le Z cr eP=>?_;have w:P<s.heap.objs.size:=AI v;have G:d≠P:=l8 w le;have p:g.objs.size≠P:=l8 w (Nat.le_trans le (DR Z));have J:g.objs.size≠d:=l8 Z (Nat.le_refl _);have L:H d=none:=I.hok.fresh le;have j:H g.objs.size=none:=I.hok.fresh (Nat.le_trans le (DR Z));have eO:(g.push (PySem.W.kla_obj "<lambda>" (X.env.qual ++ "<lambda>") args f a (O8 X.env.cells a.names []) ((X.mg "__name__").getD .none) d m)).get? g.objs.size=some (PySem.W.kla_obj "<lambda>" (X.env.qual ++ "<lambda>") args f a (O8 X.env.cells a.names []) ((X.mg "__name__").getD .none) d m):=AQ _ rfl;have kk:∀b u,g.get? b=some u->(g.push (PySem.W.kla_obj "<lambda>" (X.env.qual ++ "<lambda>") args f a (O8 X.env.cells a.names []) ((X.mg "__name__").getD .none) d m)).get? b=some u:=fun b u e=>AD _ e;generalize g.push (PySem.W.kla_obj "<lambda>" (X.env.qual ++ "<lambda>") args f a (O8 X.env.cells a.names []) ((X.mg "__name__").getD .none) d m)=Y at eO kk⊢;have k:∀b u,b≠P->s.heap.get? b=some u->Y.get? b=some u:=fun b u n e=>kk b u (xb b u n e);have cr2:Y.CodeRec (.ref d) (X.env.qual ++ "<lambda>"):=by
   obtain⟨c1,o,vs,t,e1,ho,hd,hv⟩:=cr;exact⟨c1,o,vs,t,e1,kk _ _ ho,hd,hv⟩
  have M:=kk _ _ eP;have u1:HX H P (.tbl (A ++ #[rawInt pos.line,rawInt pos.col,.ref d])) d=none:=by rw[B6 G];exact L
  have u2:HX (HX H P (.tbl (A ++ #[rawInt pos.line,rawInt pos.col,.ref d]))) d (LC d (X.env.qual ++ "<lambda>")) g.objs.size=none:=by rw[B6 J,B6 p];exact j
  have N:=((I.hok.table C k M).track u1 (LC.ok cr2)).track u2 (NS.ok eO);have O:HX (HX (HX H P (.tbl (A ++ #[rawInt pos.line,rawInt pos.col,.ref d]))) d (LC d (X.env.qual ++ "<lambda>"))) g.objs.size (NS g.objs.size d (X.env.qual ++ "<lambda>") args f a (O8 X.env.cells a.names [])) P=some (.tbl (A ++ #[rawInt pos.line,rawInt pos.col,.ref d])):=by rw[B6 p.symm,B6 G.symm,A9]
  have R:HX (HX (HX H P (.tbl (A ++ #[rawInt pos.line,rawInt pos.col,.ref d]))) d (LC d (X.env.qual ++ "<lambda>"))) g.objs.size (NS g.objs.size d (X.env.qual ++ "<lambda>") args f a (O8 X.env.cells a.names [])) d=some (LC d (X.env.qual ++ "<lambda>")):=by rw[B6 J.symm,A9]
  have i:∀b o,H b=some o->b≠P->HX (HX (HX H P (.tbl (A ++ #[rawInt pos.line,rawInt pos.col,.ref d]))) d (LC d (X.env.qual ++ "<lambda>"))) g.objs.size (NS g.objs.size d (X.env.qual ++ "<lambda>") args f a (O8 X.env.cells a.names [])) b=some o:=fun b o e n=>by
   rw[B6 (B2 e j),B6 (B2 e L),B6 n];exact e
  refine⟨.ref g.objs.size,_,I.un (Un.more C O i (fun b lb n=>?_) k ⟨_,M⟩) N,rfl,q _ d _ j ⟨_,O,?_,fun l ml=>?_⟩ R A9 p i⟩
  .rw[B6 (l8 lb (Nat.le_trans le (DR Z))).symm,B6 (l8 lb le).symm,B6 (by intro z;rw[z,C]at n;cases n)];exact n
  .rw[BO];exact TriplesOk_snoc _ _ _ _ D
  .rw[BO];by_cases el:l =(pos,X.env.qual ++ "<lambda>")
   .subst el;exact .inr ⟨d,codeAmong_snoc _ D e,R⟩
   .have ne:¬(pos.line=l.1.line/\pos.col=l.1.col):=fun z=>el (hu l ml _ hl z.1.symm z.2.symm);rw[show(#[rawInt pos.line,rawInt pos.col,Value.ref d]:F1 A2).toList = [rawInt pos.line,rawInt pos.col,Value.ref d]from rfl,Ak _ D ne];rcases B l ml with z | ⟨cc,z,S⟩
    .exact .inl z
    .exact .inr ⟨cc,z,i _ _ S fun y=>by rw[y,C]at S;cases S⟩
 .refine PySem.W.kla_makeFunctionHit (Z9 r) I.ok.glob F V (T.hd _ I.kIn) v D e U fun m g tk k le=>?_;have w:P<s.heap.objs.size:=AI v;have p:g.objs.size≠P:=l8 w le;have j:H g.objs.size=none:=I.hok.fresh le;have i:∀b o,H b=some o->HX H g.objs.size (NS g.objs.size d (X.env.qual ++ "<lambda>") args f a (O8 X.env.cells a.names [])) b=some o:=fun b o e=>by rw[B6 (B2 e j)];exact e
  refine⟨.ref g.objs.size,_,I.laid (t':=tk) (fun b u e=>AD _ (k b u e)) le (NS.ok (AQ _ rfl)),rfl,q _ d _ j ⟨A,i _ _ C,D,fun l ml=>?_⟩ (i _ _ hc') A9 p fun b o e _=>i b o e⟩;rcases B l ml with z | ⟨cc,z,S⟩
  .exact .inl z
  .exact .inr ⟨cc,z,i _ _ S⟩
structure NN(X:Cx)(base':H_)(σ:St):Prop where
 val:∀(i:Nat) (x:Str) (v:V) (c:A3),X.N[i]?=some x->σ[i]?=some (some v)->X.env.scope.names.lookup x=some .cell->X.env.cells.lookup x=some c->∃u,RelV v u/\base'.IsCell c (some u)
 inj:∀x y c,X.env.cells.lookup x=some c->X.env.cells.lookup y=some c->x=y
 has:∀x,X.env.scope.names.lookup x=some .cell->∃c,X.env.cells.lookup x=some c
def An(X:Cx)(h:H_):H_:=Tf h fun b=>open Classical in if(X.base.get? b).isSome=true\/∃x,X.fn x=true/\X.env.cells.lookup x=some b then none else some (.own 0)
theorem Fw{h:H_}{b:A3}{o:Obj}(e:h.get? b=some o)(p:(X.base.get? b).isSome=true\/∃x,X.fn x=true/\X.env.cells.lookup x=some b):(An X h).get? b=some o:=y3 e (by rw[AL p])
theorem Md{h:H_}{b:A3}{o:Obj}(e:(An X h).get? b=some o):h.get? b=some o/\((X.base.get? b).isSome=true\/∃x,X.fn x=true/\X.env.cells.lookup x=some b):=by
 obtain⟨c,a⟩:=Ow e;refine⟨c,Classical.byContradiction fun z=>?_⟩;rw[AJ z]at a;cases a
variable{pins:A1 (A3×Obj)}{σ:St}{H:Hp}{s:A4}
theorem Inv.wbs(I:Inv X pins σ H s){b:A3}{o:Obj}(e:X.base.get? b=some o):(An X s.heap).get? b=some o:=Fw (I.bk b o e) (.inl (by rw[e];rfl))
theorem Inv.wmod(I:Inv X pins σ H s):Mod X.K X.mg (An X s.heap):=by
 obtain⟨c,a,⟨g,h,d⟩,f⟩:=I.ok.mod;exact⟨c.keeps fun b o e=>I.wbs e,a.keeps fun b o e=>I.wbs e,⟨g,h.keeps fun b o e=>I.wbs e,d⟩,f.keeps fun b o e=>I.wbs e⟩
theorem Inv.cell_nofs(I:Inv X pins σ H s){x:Str}{c:A3}(a:X.fn x=true)(e:X.env.cells.lookup x=some c):c∉PP X.stack:=fun z=>by
 rcases AR.mp (I.stkSub c z)with y | y
 .exact I.cne x c e y
 .obtain⟨_,o,b,_⟩:=I.ok.funs.mem y;exact absurd (AI b) (Nat.not_lt_of_le (I.ok.cab x c a e))
theorem Inv.wfuns(I:Inv X pins σ H s):s.heap.FunFrames (An X s.heap) X.stack:=by
 have a:∀l:A1 P_,(∀b∈PP l,b∈PP X.stack)->s.heap.FunFrames X.base l->s.heap.FunFrames (An X s.heap) l:=by
  intro l
  induction l with
  | nil=>intro _ _;trivial
  | cons e r f =>
   intro d g;obtain⟨i,⟨L,o,c,j,k,m⟩,n⟩:=g;have p:L∈PP X.stack:=d L (by unfold PP;rw[EB,c];exact BP);refine⟨i,⟨L,o,c,?_,k,m⟩,f (fun b t=>d b (by unfold PP;rw[EB,c];exact BF _ t)) n⟩;cases q:(An X s.heap).get? L with
   | none=>rfl
   | some u =>
    rcases(Md q).2 with z | ⟨x,z,y⟩
    .rw[j]at z;cases z
    .exact absurd p (I.cell_nofs z y)
 exact a X.stack (fun _ h=>h) I.stack
theorem Inv.wenv(I:Inv X pins σ H s):PJ X.prog X.w X.K X.mg (An X s.heap) X.A X.stack s H:=by
 refine⟨I.ok.frames,I.wmod,fun b o e=>?_,Nat.le_of_eq (Hl _ _),I.wfuns,I.stkFree,I.hok,I.bare⟩;obtain⟨a,c⟩:=Md e;refine⟨a,?_⟩;rcases c with z | ⟨x,_,y⟩
 .obtain⟨u,d⟩:=EK.mp z;exact(I.bs b u d).2
 .exact I.freeC x b y
theorem Inv.wcells(I:Inv X pins σ H s)(e:∀x,X.fn x=true):NN X (An X s.heap) σ:=by
 refine⟨fun i x v c f g a b=>?_,I.ok.inj,fun x h=>I.ok.has x (.inl h)⟩;obtain⟨m,_,h⟩:=I.loc;obtain⟨u,r,l⟩:=h i x v f g (.inr (.inl a));refine⟨u,r,?_⟩;rcases l with⟨z,_⟩ | ⟨_,n,d,o,j,k⟩
 .rw[show X.env.kindOf x=some .cell from a]at z;cases z
 .rw[b]at d;cases d;exact⟨o,Fw j (.inr ⟨x,e x,b⟩),k⟩
end
structure NM(N ps fr:A1 Str)(sc:JB):Prop where
 kind:sc.kind = .function
 co:sc.isCoroutine=false
 gen:sc.isGenerator=false
 eq:N=ps++fr
 nd:N.Nodup
 par:∀x∈ps,sc.names.lookup x=some .local
 fre:∀x∈fr,sc.names.lookup x=some .free
 nocell:∀y∈sc.names,y.2≠ .cell
 has:∀y∈sc.names,y.2 = .free->y.1∈fr
def Nl(P:A7)(w:HW)(K:PySem.W.Frag)(mg:Str->A5 A2)(base:H_)(N:A1 Str)(b:Str)(a:JB)(f:A3)(c:A2)(cl:A1 (Str×A3))(A:IC)(outer:A1 P_)(s:A4)(H:Hp):Cx where
 prog:=P
 w:=w
 K:=K
 mg:=mg
 base:=base
 A:=A.deeper (PySem.W.envX b a s.heap.objs.size f c cl)
 N:=N
 s₀:=s
 H₀:=H
 env:=PySem.W.envX b a s.heap.objs.size f c cl
 outer:=outer
 stack:=PySem.W.envX b a s.heap.objs.size f c cl::outer
 ex:=[]
 calm:=true
 fn:=fun _=>false
 pn:=[]
 xe:=fun _ _=>False
def Cw{us:A1 A2}:∀{a:A1 Str} {us:A1 A2} {i:Nat} {x:Str} {u:A2},a.Nodup->a[i]?=some x->us[i]?=some u->(a.zip us).reverse.lookup x=some u
 | [],_,_,_,_,_,h,_=>by simp at h
 | _::_,[],_,_,_,_,_,h=>by simp at h
 | p::a,w::us,0,x,u,d,b,c=>by
  simp at b c;subst b c;rw[GB,List.reverse_cons,List.lookup_append];have:(a.zip us).reverse.lookup p=none:=by
   rw[List.lookup_eq_none_iff];intro q f;have:=(FJ (List.mem_reverse.mp f)).1;simp;intro e;exact(CQ.mp d).1 (e▸this)
  rw[this];simp
 | p::a,w::us,i+1,x,u,d,b,c=>by
  rw[GB,List.reverse_cons,List.lookup_append,Cw (us:=us) (CQ.mp d).2 (by simpa using b) (by simpa using c)];rfl
section
variable{P:A7}{w:HW}{K:PySem.W.Frag}{mg:Str->A5 A2}{base:H_}{N ps fr:A1 Str}{qual:Str}{scope:JB}{f c:A3}{cl:A1 (Str×A3)}{A:IC}{outer:A1 P_}{s:A4}{H:Hp}
structure PZ(base:H_)(cl:A1 (Str×A3))(fr:A1 Str)(gs:A1 V):Prop where
 len:gs.length=fr.length
 val:∀(i:Nat) (x:Str) (v:V),fr[i]?=some x->gs[i]?=some v->∃c u,cl.lookup x=some c/\RelV v u/\base.IsCell c (some u)
 only:∀x c,cl.lookup x=some c->x∈fr
 inj:∀x y c,cl.lookup x=some c->cl.lookup y=some c->x=y
theorem Xo{us:A1 A2}{vs gs:A1 V}{h':H_}{J:Nat}(S:NM N ps fr scope)(C:PZ base cl fr gs)(g:A.handled=none)(a:PJ P w K mg base A outer s H)(G:vs.length=ps.length)(r:IH vs us)
  (ns:h'.Ns s.heap.objs.size fun x=>(ps.zip us).reverse.lookup x) (k:∀b o,s.heap.get? b=some o->h'.get? b=some o) :
  Inv (Nl P w K mg base N qual scope f (.ref c) cl A outer s H) [] (vs.map some++gs.map some) H { s with heap:=h',toks:=J }:=by
 have j:∀x d,cl.lookup x=some d->∃u o,base.get? d=some o/\o.data = .cell (some u):=fun x d e=>by
  obtain⟨i,q⟩:=CU.mp (C.only x d e);have t:i<gs.length:=by rw[C.len];exact(AE.mp q).1
  obtain⟨I,u,B,_,o,m,g⟩:=C.val i x gs[i] q (AC t);rw[e]at B;cases B;exact⟨u,o,m,g⟩
 have n:∀b:A3,b∉(Nl P w K mg base N qual scope f (.ref c) cl A outer s H).ex:=fun b z=>absurd (show b∈([]:A1 A3)from z) (by simp);refine⟨⟨a.mod,S.kind,rfl,rfl,Nat.le_refl _,C.inj,fun y hy=>?_,fun y d z _=>?_,fun _=>g,Around.frames_deeper a.frames,.inr ⟨rfl,rfl⟩,fun b z=>absurd z (n b),a.bs,a.bsz,fun b _ _=>n b,fun b z=>absurd z (n b),a.funs,a.frf⟩,
  rfl,a.bare,Un.kept k,⟨_,ns,fun i y v l D T=>?_⟩,fun y d h=>?_,a.hok.fresh (Nat.le_refl _),fun y d h=>?_,fun p L=>absurd (show p∈([]:A1 (A3×Obj))from L) (by simp),a.hok.kept k,?_⟩
 .have hy:scope.names.lookup y=some .cell\/scope.names.lookup y=some .free:=hy;rcases hy with hy | hy
  .exact absurd rfl (S.nocell _ (PySem.mem_of_lookup hy))
  .obtain⟨i,q⟩:=CU.mp (S.has _ (PySem.mem_of_lookup hy) rfl);have t:i<gs.length:=by rw[C.len];exact(AE.mp q).1
   obtain⟨I,_,B,_⟩:=C.val i y gs[i] q (AC t);exact⟨I,B⟩
 .cases(show false=true from z)
 .have l:(ps++fr)[i]?=some y:=by rw[<-S.eq];exact l
  have M:(ps++fr).Nodup:=by rw[<-S.eq];exact S.nd
  by_cases t:i<vs.length
  .rw[DF (by rw[AB];exact t),AH]at D;rw[DF (by omega)]at l;obtain⟨O,E,e⟩:=BC.mp D;cases e;obtain⟨u,Q,F⟩:=r.get E;exact⟨u,F,.inl ⟨S.par y (AK l),Cw (us:=us) (D_.mp M).1 l Q⟩⟩
  .rw[DB (by rw[AB];omega),AH,AB]at D;rw[DB (by omega)]at l;obtain⟨O,E,e⟩:=BC.mp D;cases e;rw[G]at E;obtain⟨d,u,R,F,o,m,g⟩:=C.val _ y v l E;exact⟨u,F,.inr ⟨.inr (S.fre y (AK l)),d,R,o,k _ _ (a.bs _ _ m).1,g⟩⟩
 .obtain⟨u,o,m,g⟩:=j y d h;exact⟨_,o,k _ _ (a.bs _ _ m).1,g⟩
 .obtain⟨u,o,m,g⟩:=j y d h;exact(a.bs _ _ m).2
 .show _=N.length;rw[S.eq,AU,AB,AB,AU,G,C.len]
theorem zAe{args:Arguments}{a:IB}{k:Nat}{gs:A1 V}{sp:Sp}{L ct:A2}(S:NM N ps fr scope)(C:PZ base cl fr gs)(i:∀vs H Q E,sp vs H Q E->vs.length=ps.length)
  (l:∀vs H Q E,sp vs H Q E->H f=some (NS f c qual args a scope cl)/\H c=some (LC c qual))
  (d:∀(A:IC) (outer:A1 P_) (s:A4) (H:Hp) (vs:A1 V) (Q:VK) (E:XK),JD k (A.deeper (PySem.W.envX qual scope s.heap.objs.size f (.ref c) cl))->sp vs H Q E ->
   ∃t,PE (Nl P w K mg base N qual scope f (.ref c) cl A outer s H) a t/\t (vs.map some++gs.map some) H Q) :
  IG P w K mg base IW (k+1) f (PySem.W.kla_fn "<lambda>" qual args a scope cl L (.ref c) ct) ps sp:=by
 refine⟨i,fun A outer s H g m vs Q E p j M r h=>?_⟩;have O:=i _ _ _ _ h;obtain⟨R,T⟩:=l _ _ _ _ h;obtain⟨⟨q,x,U⟩,_⟩:=(show IK P w H s.heap f (NS f c qual args a scope cl)from j.hok f _ R);obtain⟨X,_⟩:=(show IK P w H s.heap c (LC c qual)from j.hok c _ T);have z:s.heap.NoLimit:=j.mod.nolimit.keeps fun b o e=>(j.bs b o e).1;have Y:∀y∈ps.zip m,scope.names.lookup y.1=some .local:=fun⟨n,v⟩ Z=>S.par n (FJ Z).1;have B:BindsTo s (PySem.W.kla_fn "<lambda>" qual args a scope cl q (.ref c) x) g (ps.zip m):=M;refine PySem.W.kla_callFunE p.depth U rfl S.co S.gen rfl X (B _ _ _ _ ?_);refine wpAny_newFunctionEnv S.nocell Y (fun F ns sb=>?_) S.kind;have G:∀b o,s.heap.get? b=some o->F.get? b=some o:=fun b o e=>by
  rw[sb.2 b (AX (AI e))];exact AD _ e
 refine⟨z.keeps G,PySem.W.kla_codeExpr ?_⟩;obtain⟨t,ht,hq⟩:=d A outer s H vs Q E (p.deeper _) h;have I:Inv (Nl P w K mg base N qual scope f (.ref c) cl A outer s H) [] (vs.map some++gs.map some) H { s with heap:=F,toks:=s.toks +(ps.zip m).length }:=Xo S C p.hd j O r ns G;refine CB (ht [] _ _ H Q I hq) (fun u s' D=>?_) fun e s' D=>D.elim;obtain⟨v,H',J,rv,qv⟩:=D;exact⟨v,H',J.os,J.bare,J.base,J.hok,rv,qv⟩
theorem Kb{cells:A1 (Str×A3)}:∀{names:A1 (Str×JT)} {cs:A1 (Str×A3)} {x:Str} {c:A3},(O8 cells names cs).lookup x=some c->((x,NameKind.free)∈names/\c =(cells.lookup x).getD 0)\/cs.lookup x=some c
 | [],_,_,_,h=>.inr h
 | (n,k)::r,cs,x,c,h=>by
  rcases Kb (names:=r) h with⟨z,e⟩ | z
  .exact .inl ⟨BF _ z,e⟩
  .by_cases f:(k == NameKind.free)=true
   .rw[AL f]at z;by_cases e:x=n
    .subst e;rw[List.lookup_cons_self]at z;cases z;exact .inl ⟨by rw[eq_of_beq f];exact BP ..,rfl⟩
    .rw[HP,show(x == n)=false from by simpa using e]at z;exact .inr z
   .rw[AJ f]at z;exact .inr z
theorem Ku{cells:A1 (Str×A3)}{x:Str}:∀{names:A1 (Str×JT)} {cs:A1 (Str×A3)},(x,NameKind.free)∈names\/(∃c,cs.lookup x=some c)->∃c,(O8 cells names cs).lookup x=some c
 | [],_,h=>h.resolve_left (by simp)
 | (n,k)::r,cs,h=>by
  refine Ku (names:=r) ?_;by_cases e:x=n
  .by_cases f:(k == NameKind.free)=true
   .subst e;exact .inr ⟨_,by rw[AL f,List.lookup_cons_self]⟩
   .rw[AJ f];rcases h with z | z
    .rcases AR.mp z with y | y
     .cases y;exact absurd rfl f
     .exact .inl y
    .exact .inr z
  .rcases h with z | ⟨c,z⟩
   .rcases AR.mp z with y | y
    .cases y;exact absurd rfl e
    .exact .inl y
   .refine .inr ⟨c,?_⟩;by_cases f:(k == NameKind.free)=true
    .rw[AL f,HP,show(x == n)=false from by simpa using e];exact z
    .rw[AJ f];exact z
theorem NN.clos{X:Cx}{a:H_}{σ:St}{fr:A1 Str}{gs:A1 V}{names:A1 (Str×JT)}(h:NN X a σ)(n:∀y∈names,y.2=NameKind.free->y.1∈fr)(o:∀x∈fr,(x,NameKind.free)∈names)(g:∀x∈fr,X.env.scope.names.lookup x=some .cell)(f:gs.length=fr.length)
  (p:∀(i:Nat) (x:Str) (v:V),fr[i]?=some x->gs[i]?=some v->∃j:Nat,X.N[j]?=some x/\σ[j]?=some (some v)):PZ a (O8 X.env.cells names []) fr gs:=by
 have b:∀{x c},(O8 X.env.cells names []).lookup x=some c->x∈fr/\X.env.cells.lookup x=some c:=fun{x c} e=>by
  rcases Kb e with⟨z,y⟩ | z
  .have m:=n _ z rfl;obtain⟨d,k⟩:=h.has x (g x m);rw[k]at y;rw[k,y];exact⟨m,rfl⟩
  .cases z
 refine⟨f,fun i x v l q=>?_,fun x c e=>(b e).1,fun x y c s t=>h.inj x y c (b s).2 (b t).2⟩;have m:=AK l;obtain⟨c,e⟩:=Ku (cells:=X.env.cells) (cs:=[]) (.inl (o x m));obtain⟨j,w,A⟩:=p i x v l q;obtain⟨u,r,B⟩:=h.val j x v c w A (g x m) (b e).2;exact⟨c,u,e,r,B⟩
end
def PM.okC{P:A7}{w:HW}{K:PySem.W.Frag}{mg:Str->A5 A2}{base:H_}{x b:Str}{st:IL}{f:A3}{e:IP}{N g:A1 Str}{k:Nat}{sp:Sp}(F:PM K x b st f e)(S:HY N g (B7 st))(i:∀vs H Q E,sp vs H Q E->vs.length=g.length)
  (d:∀(c:A2) (A:IC) (a:A1 P_) (s:A4) (H:Hp) (vs:A1 V) (Q:VK) (E:XK),e.code=c->JD k (A.deeper (envOfC b (B7 st) s.heap.objs.size f c))->sp vs H Q E ->
   ∃t,P7 (Va IW P w K mg base N b (B7 st) f c A a s H E).nox (O0 st) t/\t { nx:=fun _ H'=>Q .non H',rt:=Q } (Aw N vs) H):IG P w K mg base IW (k+1) f e g sp:=by
 obtain⟨p,r,kV,m,u,v,c,y,n,rfl,lk,j⟩:=F.ex;refine Zy lk j S i fun A a s H vs Q E o l=>?_;obtain⟨t,h,q⟩:=d c A a s H vs Q E rfl o l;exact⟨t,h.nox,q⟩
def Qf{P:A7}{w:HW}{K:PySem.W.Frag}{mg N:Str->A5 A2}{k:Nat}{fa a:A3}{fd:IP}{x:Str}{sp:Sp}{s₁:A4}{vs:A1 A2}{ns:A1 Int}{ts:A1 A3}
  (f:∀p∈ts,s₁.heap.get? p=some (PySem.W.tabObj #[])) (O:∀p∈ts,isCodeTable s₁.heap p) (Q:∀p∈ts,s₁.heap.BuiltinsAt mg p) (t:∀p∈ts,K.lookup p=none)
  (KX:K.In s₁.heap) (y:s₁.heap.Ns mainGlobals mg) (R:s₁.heap.Ns builtinsNs N) (S:∀x:Str,x≠ "__name__"->N x=bootBuiltins x) (A:s₁.heap.NoLimit) (hg:s₁.gens = #[])
  (l:s₁.heap.get? a=some { cls:=.type "list",data:=.seq vs.toArray }) (hi:IntsAre vs ns) (hl:ns.length<=sizeLine) (hr:JD k callerA)
  (F:∀base:H_,K.In base->base.Ns mainGlobals mg->(∀p∈ts,base.BuiltinsAt mg p)->IG P w K mg base IW k fa fd [x] sp) (j:∀(s:A4) (u:A2),BindsTo s fd ⟨[u],[]⟩ [(x,u)])
  (T:∀H:Hp,(∀p∈ts,H p=some (.tbl #[]))->IA K H a (ns.map V.int)->sp [.ref a] H (fun v _=>v = .bl true) fun _ _ _=>False) :
  codeAny (model P w) callerA (.call (.ref fa) ⟨[.ref a],[]⟩) (fun r B=>r = .ok (.ret (.bool true))/\OldK s₁.heap B.heap/\B.os=s₁.os/\AllBare B.gens) s₁:=by
 have rv:=Fy hi;have U:a∉ts:=fun z=>by
  have:=f a z;rw[l]at this;cases this
 obtain⟨H,hT,hS,X,ok,hK⟩:∃H:Hp,(∀p∈ts,H p=some (.tbl #[]))/\IA K H a (ns.map V.int)/\(∀b o,H b=some o->(b∈ts/\o = .tbl #[])\/(b=a/\∃Y xs,o = .frz Y (.lst xs)))/\MC P w H s₁.heap/\∀b,H b≠none->K.lookup b=none:=by
  cases Z:K.lookup a with
  | some o =>
   have e:=KX a o Z;rw[l]at e;cases e;refine⟨fun b=>if b∈ts then some (.tbl #[])else none,fun p n=>AL n,.inr ⟨_,vs.toArray,_,Z,rfl,rfl,rfl,by rw[AM,hi.length];exact hl,by simpa using rv⟩,fun b o e=>?_,fun b o e=>?_,fun b e=>?_⟩
   .dsimp only at e;by_cases c:b∈ts
    .rw[AL c]at e;cases e;exact .inl ⟨c,rfl⟩
    .rw[AJ c]at e;cases e
   .dsimp only at e;by_cases c:b∈ts
    .rw[AL c]at e;cases e;exact f b c
    .rw[AJ c]at e;cases e
   .by_cases c:b∈ts
    .exact t b c
    .exact absurd (AJ c) e
  | none =>
   refine⟨fun b=>if b=a then some (.frz { cls:=.type "list",data:=.seq vs.toArray } (.lst (ns.map V.int)))else if b∈ts then some (.tbl #[])else none,fun p n=>?_,.inl (.inr ⟨{ cls:=.type "list",data:=.seq vs.toArray },AL rfl⟩),fun b o e=>?_,fun b o e=>?_,fun b e=>?_⟩
   .show(if p=a then _ else if p∈ts then _ else _)=_;have np:p≠a:=fun z=>U (z▸n);rw[AJ np,AL n]
   .dsimp only at e;by_cases d:b=a
    .rw[AL d]at e;cases e;exact .inr ⟨d,_,_,rfl⟩
    .rw[AJ d]at e;by_cases c:b∈ts
     .rw[AL c]at e;cases e;exact .inl ⟨c,rfl⟩
     .rw[AJ c]at e;cases e
   .dsimp only at e;by_cases d:b=a
    .rw[AL d]at e;cases e;subst d;exact⟨l,by rw[AB];exact hl,vs,_,rv,l⟩
    .rw[AJ d]at e;by_cases c:b∈ts
     .rw[AL c]at e;cases e;exact f b c
     .rw[AJ c]at e;cases e
   .by_cases d:b=a
    .rw[d];exact Z
    .by_cases c:b∈ts
     .exact t b c
     .exact absurd ((AJ d).trans (AJ c)) e
 have nod:∀{b:A3} {o:Obj} {I:F1 DictEntry} {J:Nat},s₁.heap.get? b=some o->o.data = .dict I J->H b=none:=fun{b o I J} e d=>by
  cases q:H b with
  | none=>rfl
  | some u =>
   rcases X b u q with⟨z,_⟩ | ⟨z,_⟩
   .rw[f b z]at e;cases e;cases d
   .rw[z,l]at e;cases e;cases d
 have g:∀{b:A3} {m:Str->A5 A2},s₁.heap.Ns b m->(Tf s₁.heap H).Ns b m:=fun{b m} ⟨o,I,J,e,d,r⟩=>⟨o,I,J,y3 e (nod e d),d,r⟩;have hBb:∀p∈ts,(Tf s₁.heap H).BuiltinsAt mg p:=fun p n=>by
  obtain⟨L,o,h1,h2,h3,h4,C,h6,h7,h8⟩:=Q p n;refine⟨L,o,h1,h2,h3,h4,y3 C ?_,h6,h7,h8⟩;cases q:H L with
  | none=>rfl
  | some u =>
   rcases X L u q with⟨z,_⟩ | ⟨z,_⟩
   .rw[f L z]at C;cases C;cases h8
   .rw[z,l]at C;cases C;cases h8
 have D:K.In (Tf s₁.heap H):=fun b o e=>y3 (KX b o e) (by
  cases q:H b with
  | none=>rfl
  | some u=>rw[hK b (by rw[q];simp)]at e;cases e)
 have hM:Mod K mg (Tf s₁.heap H):=⟨D,g y,⟨N,g R,S⟩,let⟨mc,h1,h2⟩:=A;⟨mc,g h1,h2⟩⟩;have e0:PJ P w K mg (Tf s₁.heap H) callerA [] s₁ H:=⟨rfl,hM,fun b o e=>Ow e,Nat.le_of_eq (Hl _ _),trivial,fun b R=>absurd (show b∈([]:A1 A3)from R) (by simp),ok,.of_eq hg⟩;refine codeAny_mono ((F _ D (g y) hBb).run callerA [] s₁ H ⟨[.ref a],[]⟩ [.ref a] [.ref a] _ _ hr e0 (j s₁ (.ref a)) (.cons rfl .nil) (T H hT hS)) fun r B h=>?_;cases r with
 | error e=>exact h.elim
 | ok fl =>
  cases fl with
  | next=>exact False.elim h
  | brk=>exact False.elim h
  | cont=>exact False.elim h
  | ret u =>
   obtain⟨v,H',os,E,M,G,r',q⟩:=h;have q':v = .bl true:=q;subst q';obtain rfl:u=Value.bool true:=r';refine⟨rfl,⟨fun b o e=>?_,fun b o e=>M.there b o e (by simp)⟩,os,E⟩;cases q:H b with
   | none=>exact .inl (M.keep b o e q (fun z=>absurd (show b∈([]:A1 A3)from z) (by simp)) (by simp))
   | some u =>
    rcases X b u q with⟨z,rfl⟩ | ⟨_,Y,xs,rfl⟩
    .obtain⟨i,em⟩:=M.tbls b _ q;have e2:B.heap.get? b=some { cls:=.none,data:=.fields (#[]++i) }:=G b _ em;rw[f b z]at e;cases e;exact .inr (.inl ⟨O b z,rfl,#[],i,rfl,e2⟩)
    .obtain⟨e1,_⟩:=ok b _ q;obtain⟨e2,_⟩:=G b _ (M.frzs b Y _ q);rw[e]at e1;cases e1;exact .inl e2
def QQ{l:PySem.W.OpenLaw}{n k:Nat}{q:A7}{e:A1 Str}{O:(Str->A5 A2)->H_->Prop}{t:HW->H_->Prop}{d:DefRec}{K:Params->PySem.W.Frag}{sp:HW->Sp}{x:Str}{ts:A1 A3}
  (P:l.most=some n) (y:n<=sizeLine) (A:d.params.defaults = []) (Q:JD k callerA) (R:∀(w:HW) (h:H_),t w h->(K w.params).In h) (j:∀(w:HW) (h:H_),t w h->∀p∈ts,h.get? p=some (PySem.W.tabObj #[]))
  (F:∀(w:HW) (mg:Str->A5 A2) (r:A3) (h:H_),(K w.params).In h->h.Ns mainGlobals mg->mg d.name=some (.ref r) ->
   (∀p∈ts,isCodeTable h p)/\(∀p∈ts,(K w.params).lookup p=none)/\∃B:IP,(∀(s:A4) (u:A2),BindsTo s B ⟨[u],[]⟩ [(x,u)]) /\
    ∀base:H_,(K w.params).In base->base.Ns mainGlobals mg->(∀p∈ts,base.BuiltinsAt mg p)->IG l.prog w (K w.params) mg base IW k r B [x] (sp w))
  (C:∀(w:HW) (H:Hp) (a:A3) (ns:A1 Int),ns.length<=n->(∀p∈ts,H p=some (.tbl #[]))->IA (K w.params) H a (ns.map V.int)->sp w [.ref a] H (fun v _=>v = .bl true) fun _ _ _=>False) :
  PySem.W.WalkO q e O t l.row.toRowW d [] (fun f vs=>PySem.call f vs):=by
 refine Att.PQ P A fun w s₀ s₁ mg mb r o pm cd S a vs ns G Y ho hd U D m i c X=>?_;have L:=R w _ Y;obtain⟨Z,h2,B,hb,hF⟩:=F w mg r _ L G.T.g D;have E:∀p∈ts,s₁.heap.BuiltinsAt mg p:=fun p hp=>by
  obtain⟨bm,o,b1,b2,I,b4,b5,J⟩:=G.T.bmain;refine⟨bm,o,b1,b2,fun z=>?_,fun z=>?_,I,b4,b5,J⟩
  .obtain⟨o',es,ep,M,N,_⟩:=G.T.g;rw[<-z,I]at M;cases M;rw[J]at N;cases N
  .have:=j w _ Y p hp;rw[<-z,I]at this;cases this;cases J
 exact Qf (j w _ Y) Z E h2 L G.T.g G.T.b G.T.builtins G.T.nolimit X m i (Nat.le_trans c y) Q hF hb fun H hO hS=>C w H a ns c hO hS
section
variable{prog:A7}{w:HW}{A:IC}{s:A4}{I:A3}{fp wr:A1 A3}{n:Nat}{P:Nat->A2->Prop}{St:Nat->H_->Prop}{R:Result->A4->Prop}
theorem He{id:String}{b:Builtin}{args:A1 A2}{d:A1 (Str×A2)}{Q E:A2->A4->Prop}(k:builtinKind id=none)(l:plainId id=true)(m:entryFor table id=some b)(n:argsOk id ⟨args,d⟩)
  (i:wpAny (model prog w) A.in1 (b ⟨args,d⟩) (fun fin a=>match fin with
   | .done f=>(match(Except.ok f:Result)with | .ok (.ret v)=>Q v a | .ok _=>False | .error e=>E e a)
   | .again j=>j.quiet=true/\codeAny (model prog w) A j (fun r a=>match r with | .ok (.ret v)=>Q v a | .ok _=>False | .error e=>E e a) a) E s) :
  wpAny (model prog w) A (call (.builtin id) args d) Q E s:=by
 refine wpAny_call (codeAny_call_builtin l m ?_);simp only[checkBuiltinCall,k];cases c:Manifest.signature? id with
 | none=>exact AG i
 | some g =>
  have h:Bind.checkArgs id g ⟨args,d⟩=pure ():=by simpa only[argsOk,c] using n
  simp only[h];exact AG i
end
def Cx.i1(X:Cx):Cx:={ X with A:=X.A.in1,xe:=fun _ _=>False }
section
variable{X:Cx}{pins:A1 (A3×Obj)}{σ:St}{H:Hp}{s:A4}
theorem Cx.Ok.i1(a:X.Ok):X.i1.Ok :=
 ⟨a.mod,a.kind,a.glob,a.blt,a.above,a.inj,a.has,a.cab,a.hd,a.frames,a.stk,a.exf,a.bs,a.bsz,a.noex,a.exfs,a.funs,a.frf⟩
theorem Cx.Ok.o1(a:X.i1.Ok):X.Ok :=
 ⟨a.mod,a.kind,a.glob,a.blt,a.above,a.inj,a.has,a.cab,a.hd,a.frames,a.stk,a.exf,a.bs,a.bsz,a.noex,a.exfs,a.funs,a.frf⟩
theorem Inv.i1(I:Inv X pins σ H s):Inv X.i1 pins σ H s:=⟨I.ok.i1,I.os,I.bare,I.base,I.loc,I.cell,I.free,I.freeC,I.pin,I.hok,I.len⟩
theorem Inv.o1(I:Inv X.i1 pins σ H s):Inv X pins σ H s:=⟨I.ok.o1,I.os,I.bare,I.base,I.loc,I.cell,I.free,I.freeC,I.pin,I.hok,I.len⟩
def OH(X:Cx)(pins:A1 (A3×Obj))(b:A3):Prop:=(b∈X.ex\/X.s₀.heap.objs.size<=b)/\(∀x c,X.env.cells.lookup x=some c->c≠b)/\∀p∈X.pn++pins,p.1≠b
theorem OH.turned{t':Nat}{a:A3}{h':H_}(o:OH X pins a)(I:Inv X pins σ H s)(c:H a=none)(d:a≠X.env.locals)(k:∀b o,b≠a->s.heap.get? b=some o->h'.get? b=some o):Inv X pins σ H { s with heap:=h',toks:=t' } :=
 I.turned k c d o.1 o.2.1 o.2.2
end
def Ht(a:Nat->A1 Int):Nat->Nat
 | 0=>0
 | n+1=>if HT.lexLt (a (n+1)) (a (Ht a n))=true then n+1 else Ht a n
def Pq(a:Nat->A1 Int):∀n,Ht a n<=n
 | 0=>Nat.le_refl _
 | n+1=>by
  unfold Ht;split
  .exact Nat.le_refl _
  .exact Nat.le_succ_of_le (Pq a n)
section
variable{X:Cx}{pins:A1 (A3×Obj)}{σ:St}{l I S f:A3}{cs:A1 A3}{xs:A1 V}{kf:Nat->A1 Int}{G:Hp->Prop}{R:Result->A4->Prop}
def zEd(X:Cx)(cs:A1 A3)(σ:St)(f:A3)(xs:A1 V)(kf:Nat->A1 Int)(G:Hp->Prop):Prop:=∀(j:Nat) (x:V) (u:A2) (pins:A1 (A3×Obj)) (s:A4) (H:Hp),xs[j]?=some x->RelV x u->Inv X pins σ H s->G H ->
 wpAny (model X.prog X.w) X.A (call (.ref f) [u]) (EP X pins σ fun v b=>∃a,v = .ref a/\a∉cs/\Sm cs H b/\G b/\IZ X.K b a ((kf j).map V.int)) X.xe s
theorem y4{X:Cx}{pins:A1 (A3×Obj)}{σ:St}{H:Hp}{s:A4}{S I:A3}{a oI:Obj}(J:Inv X ((S,a) ::(I,oI)::pins) σ H s) :
  (s.heap.get? S=some a/\H S=none/\S≠X.env.locals/\S∉X.fs/\∀v,a.data≠ .cell v)/\(s.heap.get? I=some oI/\H I=none/\I≠X.env.locals/\I∉X.fs/\∀v,oI.data≠ .cell v)/\Inv X pins σ H s :=
 ⟨J.pin (S,a) (BK _ (.head _)),J.pin (I,oI) (BK _ (.tail _ (.head _))),J.pins_of fun p b=>J.pin p (BK _ (.tail _ (.tail _ b)))⟩
theorem Uj{X:Cx}{pins:A1 (A3×Obj)}{σ:St}{H:Hp}{s:A4}{S I:A3}{a oI:Obj}(J:Inv X pins σ H s)(b:s.heap.get? S=some a/\H S=none/\S≠X.env.locals/\S∉X.fs/\∀v,a.data≠ .cell v)
  (c:s.heap.get? I=some oI/\H I=none/\I≠X.env.locals/\I∉X.fs/\∀v,oI.data≠ .cell v):Inv X ((S,a) ::(I,oI)::pins) σ H s:=J.pins_of fun p hp=>by
 rcases AR.mp hp with rfl | hp
 .exact b
 rcases AR.mp hp with rfl | hp
 .exact c
 exact J.pin p (BK _ hp)
theorem Qg(hc:X.calm=true)(hu:X.A.units+1<cLine)(turn:zEd X.i1 cs σ f xs kf G)(hG:∀H,G H->IA X.K H l xs)(oI:OH X pins I)(oS:OH X pins S)(y:S≠I)(U:l≠I) :
  ∀(r j:Nat) (s:A4) (H:Hp) (P:A2) (b:A3) (c:Nat) (ob:Obj),xs.length-(j+1)=r->j+1<=xs.length->Inv X.i1 ((S,seqObj "list" #[P,.ref b] c) ::(I,ob)::pins) σ H s->s.heap.IsListIter I l (j+1) ->
   RelV (xs.getD (Ht kf j) .non) P->b∉cs->IZ X.K H b ((kf (Ht kf j)).map V.int)->G H ->
   (∀u Q H',Inv X pins σ H' Q->RelV (xs.getD (Ht kf (xs.length-1)) .non) u->Sm cs H H'->G H'->R (.ok (.ret u)) Q) ->
   codeAny (model X.prog X.w) X.A (.builtin "min.loop" ⟨[.ref I,.ref f,.ref S],[]⟩) R s:=by
 have n:(toString "min" ++ toString ".loop":String) = "min.loop":=by decide
 intro r
 induction r with
 | zero =>
  intro j s H P b c ob hr hj J L rb nb x g hR;have ej:j=xs.length-1:=by omega
  obtain⟨D,E,Y⟩:=y4 J;obtain⟨m,rv,pl,hz⟩:=J.list (hG H g);have p:m.toArray.size=xs.length:=by rw[AM];exact rv.length.symm
  have W:=Walks.list (prog:=X.prog) (w:=X.w) (A:=X.A.in1) (show X.A.in1.handled=none from Y.o1.ok.hd hc) I l U m.toArray;refine HC PySem.F.entry_min_loop ?_;rw[Around.under_plainId PySem.F.plain_min_loop _];show wpAny _ X.A.in1 (seqItems? (.ref S) >>= _) _ _ _;refine AA (DC D.1 rfl ?_);show wpAny _ X.A.in1 (tryCatch (pyNext (.ref I)) _ >>= _) _ _ _;refine AA (FY (W.done _ _ _ ⟨by rw[p,show xs.length=j+1 by omega];exact L,pl.isList⟩ fun h' M q=>?_));have J1:Inv X.i1 pins σ H { s with heap:=h',toks:=M }:=OH.turned (X:=X.i1) oI Y E.2.1 E.2.2.1 fun b o x e=>q b o (by simpa using x) e;have hS':=q S _ (by simpa using y) D.1;show wpAny _ X.A.in1 (updateSeq S (fun _=>#[]) >>= _) _ _ _;refine AA ?_;refine FM hS' rfl (AA (HF (AG ?_)));refine hR P _ H (OH.turned (X:=X.i1) oS J1 D.2.1 D.2.2.1 fun b o x e=>(CK _ _ (Ne.symm x)).trans e).o1 (by rw[<-ej];exact rb) (Sm.refl _ _) g
 | succ r ih =>
  intro j s H P b c ob hr hj J L rb nb x g hR;have B:j+1<xs.length:=by omega
  obtain⟨D,E,Y⟩:=y4 J;obtain⟨m,rv,pl,hz⟩:=J.list (hG H g);have p:m.toArray.size=xs.length:=by rw[AM];exact rv.length.symm
  have W:=Walks.list (prog:=X.prog) (w:=X.w) (A:=X.A.in1) (show X.A.in1.handled=none from Y.o1.ok.hd hc) I l U m.toArray;refine HC PySem.F.entry_min_loop ?_;rw[Around.under_plainId PySem.F.plain_min_loop _];show wpAny _ X.A.in1 (seqItems? (.ref S) >>= _) _ _ _;refine AA (DC D.1 rfl ?_);show wpAny _ X.A.in1 (tryCatch (pyNext (.ref I)) _ >>= _) _ _ _;refine AA (FY (W.item (j+1) _ _ _ (by rw[p];exact B) ⟨L,pl.isList⟩ fun v h' M hP Z q=>?_));have hv:m[j+1]?=some v:=by simpa using hP
  have ex:xs[j+1]?=some xs[j+1]:=AC B;obtain⟨v',hv',rx⟩:=rv.get ex;rw[hv]at hv';cases hv';obtain⟨t,hob',hoc,N⟩:=id Z.1;have J1:Inv X.i1 pins σ H { s with heap:=h',toks:=M }:=OH.turned (X:=X.i1) oI Y E.2.1 E.2.2.1 fun b o x e=>q b o (by simpa using x) e;have J2:=Uj J1 (S:=S) (I:=I) (oI:=t) ⟨q S _ (by simpa using y) D.1,D.2⟩ ⟨hob',E.2.1,E.2.2.1,E.2.2.2.1,fun v z=>by rw[N]at z;cases z⟩;show wpAny _ X.A.in1 (tryCatch (holding [v] (call (.ref f) [v])) _ >>= _) _ _ _;refine AA (FY (BU (CB (turn (j+1) _ v _ _ _ ex rx J2 g) (fun u2 s2 he=>?_) fun _ _ hF=>False.elim hF)));obtain⟨v2,H2,J3,r2,a,rfl,na,sm,g2,ha⟩:=he;cases r2;have hb2:IZ X.K H2 b ((kf (Ht kf j)).map V.int):=x.imp (fun h=>h.imp (fun e=>sm _ _ e nb) fun⟨o,e⟩=>⟨o,sm _ _ e nb⟩) id;show wpAny _ X.A.in1 (tryCatch (holding [v,.ref a] (richCompare .Lt (.ref a) (.ref b) >>= _)) _ >>= _) _ _ _;refine AA (FY (BU (AA (CB (zCi (X:=X.i1) hu _ s2 σ H2 (.ref a) (.ref b) (.ref a) (.ref b) (fun v H'=>v = .bl (HT.lexLt (kf (j+1)) (kf (Ht kf j)))/\H'=H2) J3 rfl rfl ⟨a,b,_,_,rfl,rfl,ha,hb2,rfl,rfl⟩) (fun u3 s3 he=>?_) fun _ _ hF=>False.elim hF))));obtain⟨v3,H3,J4,r3,rfl,rfl⟩:=he;cases r3;refine AA (BU (DE ?_));refine AA (HF (AG ?_));obtain⟨d,C,J5⟩:=y4 J4;have T:Ht kf (j+1)=if HT.lexLt (kf (j+1)) (kf (Ht kf j))=true then j+1 else Ht kf j:=rfl
  cases hb':HT.lexLt (kf (j+1)) (kf (Ht kf j))with
  | true =>
   rw[hb',AL rfl]at T;simp only[ES];refine AA ?_;refine FM d.1 rfl (AA (HF ?_));rw[n];have k:∀b o,b≠S->s3.heap.get? b=some o->(s3.heap.update S (Obj.mapSeq fun _=>#[v,.ref a])).get? b=some o:=fun b o x e=>(CK _ _ (Ne.symm x)).trans e;have J6:=OH.turned (X:=X.i1) (t':=s3.toks) oS J5 d.2.1 d.2.2.1 k;obtain⟨c2,hc2⟩:∃c2,(s3.heap.update S (Obj.mapSeq fun _=>#[v,.ref a])).get? S=some (seqObj "list" #[v,.ref a] c2):=⟨_,get?_update_seq d.1 fun _=>#[v,.ref a]⟩;refine AG ⟨plainId_quiet PySem.F.plain_min_loop _,ih (j+1) _ H3 v a c2 t (by omega) B (Uj J6 ⟨hc2,d.2.1,d.2.2.1,d.2.2.2.1,fun v z=>by cases z⟩ ⟨k _ _ (Ne.symm y) C.1,C.2⟩) ⟨t,k _ _ (Ne.symm y) C.1,hoc,N⟩ ?_ na ?_ g2 fun u Q H' i r' O g'=>hR u Q H' i r' (sm.trans O) g'⟩
   .rw[T,AN,ex];exact rx
   .rw[T];exact ha
  | false =>
   rw[hb',AJ (by simp)]at T;simp only[AY,CJ];refine AA (HF ?_);rw[n];refine AG ⟨plainId_quiet PySem.F.plain_min_loop _,ih (j+1) _ H3 P b c t (by omega) B J4 ⟨t,C.1,hoc,N⟩ ?_ nb ?_ g2 fun u Q H' i r' O g'=>hR u Q H' i r' (sm.trans O) g'⟩
   .rw[T];exact rb
   .rw[T];exact hb2
theorem Qx(a v:A2):argsOk "min" ⟨[a],[("key",v)]⟩:=by unfold argsOk;kernel_rfl
theorem Sc{H:Hp}{s:A4}{Q:VK}(hc:X.calm=true)(hu:X.A.units+1<cLine)(turn:zEd X.i1 cs σ f xs kf G)(hG:∀H,G H->IA X.K H l xs)(J:Inv X pins σ H s)(g:G H)(hx:xs≠[])
  (h:∀H',Sm cs H H'->G H'->Q (xs.getD (Ht kf (xs.length-1)) .non) H'):wpAny (model X.prog X.w) X.A (call (.builtin "min") [.ref l] [("key",.ref f)]) (EP X pins σ Q) X.xe s:=by
 have j:(toString "min" ++ toString ".loop":String) = "min.loop":=by decide
 obtain⟨n,rv,pl,hz⟩:=J.list (hG H g);have t:=pl.isList;obtain⟨ol,U,_⟩:=id t;have V:l<s.heap.objs.size:=AI U;have E:n.toArray.size=xs.length:=by rw[AM];exact rv.length.symm
 have m:0<xs.length:=List.length_pos_iff.mpr hx;refine He PySem.F.kind_min PySem.F.plain_min PySem.F.entry_min (Qx _ _) ?_;show wpAny _ X.A.in1 (Builtin.Builtins.bindParams "min" ["key", "default"] 0 ⟨[],[("key",.ref f)]⟩ >>= _) _ _ s;refine AA (wpAny_of_eq (show Builtin.Builtins.bindParams "min" ["key", "default"] 0 ⟨[],[("key",.ref f)]⟩=pure [some (.ref f),none]from rfl) ?_);refine AA (AG ?_);refine AA (FQ t ?_);refine AA (HS ?_ (CI _));rw[j];have hS:(s.heap.push { cls:=.type "list_iterator",data:=.fields #[.ref l,.int 0 0] }).objs.size=s.heap.objs.size+1:=DQ ..;have d:(s.heap.push { cls:=.type "list_iterator",data:=.fields #[.ref l,.int 0 0] }).objs.size≠s.heap.objs.size:=by omega
 have x:l≠s.heap.objs.size:=AX V;have y:s.heap.objs.size<=(s.heap.push { cls:=.type "list_iterator",data:=.fields #[.ref l,.int 0 0] }).objs.size:=by omega
 have hle0:s.heap.objs.size<=s.heap.objs.size:=Nat.le_refl _;generalize Y:(s.heap.push { cls:=.type "list_iterator",data:=.fields #[.ref l,.int 0 0] }).objs.size=S at d y⊢;obtain⟨I,Z⟩:∃I,s.heap.objs.size=I:=⟨_,rfl⟩;rw[Z]at d x;have p:s.heap.objs.size<=I:=by omega
 rw[show(Value.ref s.heap.objs.size)=Value.ref I by rw[Z]];refine AG ⟨plainId_quiet PySem.F.plain_min_loop _,?_⟩;have kk:∀b o,s.heap.get? b=some o->((s.heap.push { cls:=.type "list_iterator",data:=.fields #[.ref l,.int 0 0] }).push (seqObj "list" #[] 0)).get? b=some o:=fun b o e=>AD _ (AD _ e);have gI:((s.heap.push { cls:=.type "list_iterator",data:=.fields #[.ref l,.int 0 0] }).push (seqObj "list" #[] 0)).get? I=some { cls:=.type "list_iterator",data:=.fields #[.ref l,.int 0 0] } :=
  Z▸AD _ (AQ _ rfl)
 have gS:((s.heap.push { cls:=.type "list_iterator",data:=.fields #[.ref l,.int 0 0] }).push (seqObj "list" #[] 0)).get? S=some (seqObj "list" #[] 0):=Y▸AQ _ rfl;have q:=J.fpOk (H':=H) (b:=I) p (J.hok.fresh p);have D:=J.fpOk (H':=H) (b:=S) y (J.hok.fresh y);have oI:OH X pins I:=⟨q.2.2.2.1,q.2.2.2.2.1,q.2.2.2.2.2⟩;have oS:OH X pins S:=⟨D.2.2.2.1,D.2.2.2.2.1,D.2.2.2.2.2⟩;have W:=Walks.list (prog:=X.prog) (w:=X.w) (A:=X.A.in1) (show X.A.in1.handled=none from J.ok.hd hc) I l x n.toArray;have J0:=(J.kept (t':=s.toks) kk).i1;have L:((s.heap.push { cls:=.type "list_iterator",data:=.fields #[.ref l,.int 0 0] }).push (seqObj "list" #[] 0)).IsList l n.toArray:=by
  obtain⟨o,e,r⟩:=t;exact⟨o,kk _ _ e,r⟩
 refine HC PySem.F.entry_min_loop ?_;rw[Around.under_plainId PySem.F.plain_min_loop _];show wpAny _ X.A.in1 (seqItems? (.ref S) >>= _) _ _ _;refine AA (DC gS rfl ?_);show wpAny _ X.A.in1 (tryCatch (pyNext (.ref I)) _ >>= _) _ _ _;refine AA (FY (W.item 0 _ _ _ (by rw[E];exact m) ⟨⟨_,gI,rfl,rfl⟩,L⟩ fun v h' tk' hP M N=>?_));have hv:n[0]?=some v:=by simpa using hP
 have ex:xs[0]?=some xs[0]:=AC m;obtain⟨v',O,rx⟩:=rv.get ex;rw[hv]at O;cases O;obtain⟨B,P,hoc,R⟩:=id M.1;have J1:=OH.turned (X:=X.i1) (h':=h') (t':=tk') oI J0 q.1 q.2.1 fun b o hb e=>N b o (by simpa using hb) e;have J2:=Uj J1 (S:=S) (I:=I) (oI:=B) ⟨N S _ (by simpa using d) gS,D.1,D.2.1,D.2.2.1,fun v z=>by cases z⟩ ⟨P,q.1,q.2.1,q.2.2.1,fun v z=>by rw[R]at z;cases z⟩;show wpAny _ X.A.in1 (tryCatch (holding [v] (call (.ref f) [v])) _ >>= _) _ _ _;refine AA (FY (BU (CB (turn 0 _ v _ _ _ ex rx J2 g) (fun u2 T he=>?_) fun _ _ hF=>False.elim hF)));obtain⟨v2,H2,J3,r2,a,rfl,na,sm,g2,ha⟩:=he;cases r2;obtain⟨c,C,J5⟩:=y4 J3;show wpAny _ X.A.in1 (updateSeq S (fun _=>#[v,.ref a]) >>= _) _ _ _;refine AA ?_;refine FM c.1 rfl ?_;rw[j];have k:∀b o,b≠S->T.heap.get? b=some o->(T.heap.update S (Obj.mapSeq fun _=>#[v,.ref a])).get? b=some o:=fun b o hb e=>(CK _ _ (Ne.symm hb)).trans e;have J6:=OH.turned (X:=X.i1) (t':=T.toks) oS J5 c.2.1 c.2.2.1 k;obtain⟨c2,hc2⟩:∃c2,(T.heap.update S (Obj.mapSeq fun _=>#[v,.ref a])).get? S=some (seqObj "list" #[v,.ref a] c2):=⟨_,get?_update_seq c.1 fun _=>#[v,.ref a]⟩;refine AG ⟨plainId_quiet PySem.F.plain_min_loop _,Qg hc hu turn hG oI oS d x _ 0 _ H2 v a c2 B rfl m (Uj J6 ⟨hc2,c.2.1,c.2.2.1,c.2.2.2.1,fun v z=>by cases z⟩ ⟨k _ _ (Ne.symm d) C.1,C.2⟩) ⟨B,k _ _ (Ne.symm d) C.1,hoc,R⟩ ?_ na ha g2 fun u s' H' i r' sm' g'=>⟨_,H',i,r',h H' (sm.trans sm') g'⟩⟩;show RelV (xs.getD 0 .non) v;rw[AN,ex];exact rx
end
def SC(X:Cx)(k:Nat)(cs:A1 A3)(σ:St)(f:A3)(xs:A1 V)(h:Nat->A1 Int)(G:Hp->Prop):Prop:=∀b:H_,NN X b σ->X.K.In b->∃(d:IP) (e:A1 Str) (g:Sp),IG X.prog X.w X.K X.mg b IW k f d e g/\Binds X.K d e [] /\
 ∀(j:Nat) (x:V) (H:Hp),xs[j]?=some x->G H->g [x] H (fun v c=>∃a,v = .ref a/\a∉cs/\Sm cs H c/\G c/\IZ X.K c a ((h j).map V.int)) E0
def zDe(X:Cx)(k:Nat)(h:TA)(i:TE):TE:=fun σ H Q=>h σ H fun j m=>i σ m fun d c=>∃(l f:A3) (e:A1 A3) (a:A1 V) (g:Nat->A1 Int) (G:Hp->Prop),j = [.ref l]/\d = .ref f/\a≠[]/\G c/\(∀H,G H->IA X.K H l a)/\SC X k e σ f a g G /\
 ∀b,Sm e c b->G b->Q (a.getD (Ht g (a.length-1)) .non) b
section
variable{X:Cx}{k:Nat}{e ed:IB}{ta:TA}{td:TE}{p kp pos:Pos}
theorem SC.keyR{cs:A1 A3}{σ:St}{f:A3}{xs:A1 V}{l:Nat->A1 Int}{G:Hp->Prop}(h:SC X k cs σ f xs l G)(n:∀x,X.fn x=true)(d:JD (k+1) X.A):zEd X.i1 cs σ f xs l G:=by
 intro j x u m s H o p I g;have cs:NN X.i1 (An X.i1 s.heap) σ:=I.wcells n;obtain⟨y,q,z,F,c,t⟩:=h (An X.i1 s.heap) ⟨cs.val,cs.inj,cs.has⟩ I.wmod.kin;have a:=t j x H o g;have r:IH [x] [u]:=.cons p .nil;have v:[u].length=q.length:=by rw[<-r.length];exact F.len _ _ _ _ a
 have c:=c s [u] I.kIn (by rw[CH];exact v);rw[CH]at c;have i:JD k X.A.in1:=⟨d.hd,by have:=d.dp;show X.A.depth+3*k+5<_;omega,by have:=d.un;show X.A.units+1+16*k+200<_;omega⟩;refine wpAny_call (codeAny_mono (F.run X.A.in1 X.stack s H ⟨[u],[]⟩ [u] [x] _ E0 i I.wenv c r a) fun r B b=>?_);cases r with
 | error e=>exact b.elim
 | ok w =>
  cases w with
  | ret u=>exact I.after b
  | next=>exact False.elim b
  | brk=>exact False.elim b
  | cont=>exact False.elim b
theorem Zk(d:∀x,X.fn x=true)(b:JD (k+1) X.A)(i:X.mg "min" = none)(j:PA X [e] ta)(m:PE X ed td)(n:X.calm=true:=by rfl)(o:Gl X "min":=by rfl)
  (c:starEach [e] X.env = [(false,eval e X.env)]:=by rfl):PE X (.Call (.Name "min" p) [e] [⟨some "key",ed,kp⟩] pos) (zDe X k ta td):=by
 intro a s σ H Q I h;refine DT (W7 I o i Wa ?_ (by decide) (by decide));refine callWith_kw (IT (j pos a s σ H _ I h) fun L q ⟨M,r,t,v,w⟩=>kws_cons (IT (m a q σ r _ t w) fun N O ⟨P,R,y,z,l,f,S,T,U,G,B,C,D,g,E,F,J⟩=>kws_nil ?_)) (by rw[c];rfl) (by rw[c];rfl);subst B C;obtain⟨u,rfl,K⟩:=U8 v;cases K;cases z;have:=b.un;exact Sc n (by omega) (F.keyR d b) E y g D J
end
section
variable{P:A7}{w:HW}{K:PySem.W.Frag}{mg:Str->A5 A2}{base:H_}
theorem PM.o1{x a:Str}{st:IL}{f:A3}{i:IP}{N e:A1 Str}{k:Nat}{sp:Sp}(F:PM K x a st f i)(S:HY N e (B7 st))
  (b:∀(d:A2) (A:IC) (c:A1 P_) (s:A4) (H:Hp) (vs:A1 V) (Q:VK) (E:XK),JD k (A.deeper (envOfC a (B7 st) s.heap.objs.size f d))->sp vs H Q E ->
   ∃t,P7 (Va IW P w K mg base N a (B7 st) f d A c s H E).nox (O0 st) t/\t { nx:=fun _ H'=>Q .non H',rt:=Q } (Aw N vs) H) (g:∀vs H Q E,sp vs H Q E->vs.length=e.length:=by intro _ _ _ _ h;repeat first | (obtain⟨h,_⟩:=h;subst h;rfl) | (obtain⟨_,h⟩:=h)):IG P w K mg base IW (k+1) f i e sp:=F.ok S g b
end
def PM.oC{P:A7}{w:HW}{K:PySem.W.Frag}{mg:Str->A5 A2}{base:H_}{x a:Str}{st:IL}{f:A3}{e:IP}{N g:A1 Str}{k:Nat}{sp:Sp}(F:PM K x a st f e)(S:HY N g (B7 st))
  (b:∀(c:A2) (A:IC) (d:A1 P_) (s:A4) (H:Hp) (vs:A1 V) (Q:VK) (E:XK),e.code=c->JD k (A.deeper (envOfC a (B7 st) s.heap.objs.size f c))->sp vs H Q E ->
   ∃t,P7 (Va IW P w K mg base N a (B7 st) f c A d s H E).nox (O0 st) t/\t { nx:=fun _ H'=>Q .non H',rt:=Q } (Aw N vs) H) (i:∀vs H Q E,sp vs H Q E->vs.length=g.length:=by intro _ _ _ _ h;repeat first | (obtain⟨h,_⟩:=h;subst h;rfl) | (obtain⟨_,h⟩:=h)):IG P w K mg base IW (k+1) f e g sp:=F.okC S i b
end L2
namespace TS
open PySem
section
variable{prog:A7}{w:HW}{A:IC}{E:A2->A4->Prop}{s:A4}
theorem Je{a:A3}{Q:A5 Obj->A4->Prop}(h:Q (s.heap.get? a) s):wpAny (model prog w) A (loadIfAlive a) Q E s:=fun Γ p _=>(Sem.wp_loadIfAlive (M:=model prog w) (Γ:=Γ) (a:=a) ..).mpr h
abbrev NT(h:H_)(z TI TO:A3)(a:A2)(b:Bool):Prop :=
 h.get? z=some { cls:=.type "zip",dict:=none,data:=.fields #[a,.bool b,.bool false,.ref TI,.ref TO],slots:=#[] }
theorem Kd{z TI TO T:A3}{b:Bool}{o:Obj}{Q:Bool->A4->Prop}(hz:NT s.heap z TI TO (rawInt T) b)(c:s.heap.get? T=some o)
  (a:∀h',NT h' z TI TO (rawInt T) true->Heap.SameBut z s.heap h'->Q false { s with heap:=h' }):wpAny (model prog w) A (Builtin.SmallTypes.ownedTupleIsFree (.ref z)) Q E s:=by
 unfold Builtin.SmallTypes.ownedTupleIsFree;refine AA (DA hz rfl (x:=rawInt T) rfl ?_);show wpAny _ _ (loadIfAlive T >>= _) _ _ _;refine AA (Je ?_);rw[c];show wpAny _ _ (field (.ref z) 1 >>= _) _ _ _;refine AA (DA hz rfl (x:=.bool b) rfl ?_);cases b with
 | true=>exact AG (a s.heap hz ⟨rfl,fun _ _=>rfl⟩)
 | false =>
  show wpAny _ _ (setField (.ref z) 1 (.bool true) >>= _) _ _ _;refine AA (FD hz (by simp) fun h₁ hz₁ d₁=>?_);exact AG (a h₁ hz₁ d₁)
theorem Sl{z TI TO d f i l2 T:A3}{b:Bool}{o:Obj}{j k:Nat}{xs p:F1 A2}{x y:A2}{Q:A2->A4->Prop}(D:ZipApart z TI TO d f i l2)
  (hz:NT s.heap z TI TO (rawInt T) b) (r:s.heap.get? T=some o) (l:IsPair s.heap TI (.ref d) (.ref f))
  (h1:s.heap.IsListIter d i j) (h2:s.heap.IsListIter f l2 k) (m:s.heap.IsList i xs) (n:s.heap.IsList l2 p) (t:xs[j]?=some x) (u:p[k]?=some y)
  (B:∀h',NT h' z TI TO (rawInt T) true->h'.IsListIter d i (j+1)->h'.IsListIter f l2 (k+1)->IsPair h' s.heap.objs.size x y->h'.objs.size=s.heap.objs.size+1 ->
   (∀c o,c≠z->c≠d->c≠f->s.heap.get? c=some o->h'.get? c=some o)->Q (.ref s.heap.objs.size) { s with heap:=h' }) :
  wpAny (model prog w) A (Builtin.«zip.__next__» ⟨[.ref z],[]⟩) (fun fin C=>∃v,fin = .done (.ret v)/\Q v C) E s:=by
 show wpAny _ _ (field (.ref z) 2 >>= _) _ _ _;refine AA (DA hz rfl (x:=.bool false) rfl ?_);show wpAny _ _ (field (.ref z) 3 >>= _) _ _ _;refine AA (DA hz rfl (x:=.ref TI) rfl ?_);refine AA (DC l rfl ?_);show wpAny _ _ (Builtin.SmallTypes.ownedTupleIsFree (.ref z) >>= _) _ _ _;refine AA (Kd hz r fun h₁ hz₁ a₁=>?_);show wpAny _ _ (forIn (#[Value.ref d,.ref f]) _ _ >>= _) _ _ _;refine AA ?_;simp only[<-HD,FK,List.forIn_nil];refine AA (AA (BU ?_));show wpAny _ _ (Builtin.SmallTypes.nextOf (.ref d) >>= _) _ _ _;refine AA (GC (h1.extBut a₁.extBut D.i1z) (m.extBut a₁.extBut D.l1z) t fun h₂ h1₂ a₂=>AG (AG ?_));refine AA (AA (BU ?_));show wpAny _ _ (Builtin.SmallTypes.nextOf (.ref f) >>= _) _ _ _;refine AA (GC ((h2.extBut a₁.extBut D.i2z).extBut a₂.extBut D.i12.symm) ((n.extBut a₁.extBut D.l2z).extBut a₂.extBut D.l2i1) u fun h₃ h2₃ a₃=>AG (AG (AG ?_)));show wpAny _ _ (newTuple [x,y] >>= _) _ _ _;refine AA (HI ?_);have g:h₃.objs.size=s.heap.objs.size:=by rw[a₃.1,a₂.1,a₁.1]
 refine AG ⟨_,rfl,?_⟩;show Q (.ref h₃.objs.size) _;have F:∀c o,c≠z->c≠d->c≠f->s.heap.get? c=some o->(h₃.push { cls:=.type "tuple",data:=.seq #[x,y] }).get? c=some o:=fun c o G H I e=>AD _ (a₃.extBut _ _ I (a₂.extBut _ _ H (a₁.extBut _ _ G e)));have q:=B (h₃.push { cls:=.type "tuple",data:=.seq #[x,y] }) (AD _ (a₃.extBut _ _ D.i2z.symm (a₂.extBut _ _ D.i1z.symm hz₁)))
  (((h1₂.extBut a₃.extBut D.i12)).at fun o e=>AD _ e) (h2₃.at fun o e=>AD _ e) (by rw[<-g];exact AQ _ rfl) (by rw[DQ,g]) F
 rw[g];exact q
theorem Dw{z TI TO d f j l2 T:A3}{b:Bool}{o:Obj}{k l:Nat}{xs m:F1 A2}{Q:PySem.Fin->A4->Prop}(v:A.handled=none)(D:ZipApart z TI TO d f j l2)
  (hz:NT s.heap z TI TO (rawInt T) b) (B:s.heap.get? T=some o) (n:IsPair s.heap TI (.ref d) (.ref f))
  (h1:s.heap.IsListIter d j k) (h2:s.heap.IsListIter f l2 l) (g:s.heap.IsList j xs) (p:s.heap.IsList l2 m) (i:xs[k]?=none\/m[l]?=none)
  (y:∀h' e,(∀c o,c≠z->c≠d->c≠f->s.heap.get? c=some o->h'.get? c=some o)->(∃o,h'.get? e=some o/\o.cls = .type "StopIteration")->E (.ref e) { s with heap:=h' }) :
  wpAny (model prog w) A (Builtin.«zip.__next__» ⟨[.ref z],[]⟩) Q E s:=by
 show wpAny _ _ (field (.ref z) 2 >>= _) _ _ _;refine AA (DA hz rfl (x:=.bool false) rfl ?_);show wpAny _ _ (field (.ref z) 3 >>= _) _ _ _;refine AA (DA hz rfl (x:=.ref TI) rfl ?_);refine AA (DC n rfl ?_);show wpAny _ _ (Builtin.SmallTypes.ownedTupleIsFree (.ref z) >>= _) _ _ _;refine AA (Kd hz B fun h₁ hz₁ a₁=>?_);show wpAny _ _ (forIn (#[Value.ref d,.ref f]) _ _ >>= _) _ _ _;refine AA ?_;simp only[<-HD,FK,List.forIn_nil];refine AA (AA (BU ?_));show wpAny _ _ (Builtin.SmallTypes.nextOf (.ref d) >>= _) _ _ _;cases q:xs[k]? with
 | none =>
  exact AA (wpAny_nextOf_list_end v (h1.extBut a₁.extBut D.i1z) (g.extBut a₁.extBut D.l1z) q fun h₂ e a₂ r=>y h₂ e (fun c o t u _ x=>a₂ _ _ u (a₁.extBut _ _ t x)) r)
 | some x =>
  have C:m[l]?=none:=by rcases i with h | h;rw[q]at h;cases h;exact h
  refine AA (GC (h1.extBut a₁.extBut D.i1z) (g.extBut a₁.extBut D.l1z) q fun h₂ h1₂ a₂=>AG (AG ?_));refine AA (AA (BU ?_));show wpAny _ _ (Builtin.SmallTypes.nextOf (.ref f) >>= _) _ _ _;exact AA (wpAny_nextOf_list_end v ((h2.extBut a₁.extBut D.i2z).extBut a₂.extBut D.i12.symm) ((p.extBut a₁.extBut D.l2z).extBut a₂.extBut D.l2i1) C fun h₃ e a₃ r=>y h₃ e (fun c o t u F x=>a₃ _ _ F (a₂.extBut _ _ u (a₁.extBut _ _ t x))) r)
structure RT(z TI TO i1 i2 l1 l2:A3)(xs ys:F1 A2)(i:Nat)(h:H_):Prop where
 own:(IsZip h z TI TO .none/\∃a b,IsPair h TO a b)\/∃(T:A3) (b:Bool) (o:Obj),NT h z TI TO (rawInt T) b/\h.get? T=some o/\T≠z
 ti:IsPair h TI (.ref i1) (.ref i2)
 a1:h.IsListIter i1 l1 i
 a2:h.IsListIter i2 l2 i
 h1:h.IsList l1 xs
 h2:h.IsList l2 ys
theorem RT.at{z TI TO d f g l2 S:A3}{xs l:F1 A2}{i:Nat}{h h':H_}(x:RT z TI TO d f g l2 xs l i h)(k:∀b o,b≠S->h.get? b=some o->h'.get? b=some o)(q:∃o,h'.get? S=some o)(n:S≠z/\S≠TI/\S≠TO/\S≠d/\S≠f/\S≠g/\S≠l2):RT z TI TO d f g l2 xs l i h':=by
 obtain⟨j,r,s,t,u,v,w⟩:=n;refine⟨?_,k _ _ r.symm x.ti,x.a1.at fun o e=>k _ o t.symm e,x.a2.at fun o e=>k _ o u.symm e,x.h1.at fun o e=>k _ o v.symm e,x.h2.at fun o e=>k _ o w.symm e⟩;rcases x.own with⟨e,a,b,p⟩ | ⟨T,b,o,e,y,m⟩
 .exact .inl ⟨k _ _ j.symm e,a,b,k _ _ s.symm p⟩
 .by_cases c:T=S
  .obtain⟨A,B⟩:=q;exact .inr ⟨T,b,A,k _ _ j.symm e,by rw[c];exact B,m⟩
  .exact .inr ⟨T,b,o,k _ _ j.symm e,k _ _ c y,m⟩
theorem zEs{z TI TO d f j l2:A3}{xs l:F1 A2}{i:Nat}{x y:A2}{Q:A5 A2->A4->Prop}(D:ZipApart z TI TO d f j l2)(st:RT z TI TO d f j l2 xs l i s.heap)(K:xs[i]?=some x)(L:l[i]?=some y)
  (M:∀h',RT z TI TO d f j l2 xs l (i+1) h'->IsPair h' s.heap.objs.size x y->h'.objs.size=s.heap.objs.size+1->(∀c o,c≠z->c≠TO->c≠d->c≠f->s.heap.get? c=some o->h'.get? c=some o)->Q (some (.ref s.heap.objs.size)) { s with heap:=h' }) :
  wpAny (model prog w) A (pyNext (.ref z)) Q E s:=by
 have N:∀{h':H_},(∀c o,c≠z->c≠TO->c≠d->c≠f->s.heap.get? c=some o->h'.get? c=some o)->h'.IsList j xs/\h'.IsList l2 l/\IsPair h' TI (.ref d) (.ref f):=fun k =>
  ⟨st.h1.at fun o e=>k _ o D.l1z D.l1TO D.l1i1 D.l1i2 e,st.h2.at fun o e=>k _ o D.l2z D.l2TO D.l2i1 D.l2i2 e,k _ _ D.TIz D.TITO D.TIi1 D.TIi2 st.ti⟩
 rcases st.own with⟨e,a,b,p⟩ | ⟨T,b,o,e,v,m⟩
 .have O:=(AX (AI e)).symm;refine wpAny_pyNext_zip_item D e st.ti p st.a1 st.a2 st.h1 st.h2 K L fun h' g S n q r B k=>?_;obtain⟨C,G,H⟩:=N k;exact M h' ⟨.inr ⟨_,false,_,g,r,O⟩,H,n,q,C,G⟩ r B k
 .have h:s.TypeIs (.ref z) "zip":=⟨_,e,rfl⟩;have O:=(AX (AI e)).symm;have U:=AI v;unfold pyNext;refine AA (HR (DX (name:=Str.ofString "__next__") h F.slot_zip_next (DW F.slot_zip_next h F.entry_zip_next
   (Sl D e v st.ti st.a1 st.a2 st.h1 st.h2 K L fun h' g n q r B k=>AG ?_) (F.args_zip_next_1 _))))
  have P:∀c o,c≠z->c≠TO->c≠d->c≠f->s.heap.get? c=some o->h'.get? c=some o:=fun c o R _ t u x=>k c o R t u x;obtain⟨C,G,H⟩:=N P;refine M h' ⟨.inr ?_,H,n,q,C,G⟩ r B P;by_cases t:T=d
  .obtain⟨I,J,_⟩:=n;exact⟨T,true,I,g,by rw[t];exact J,m⟩
  by_cases u:T=f
  .obtain⟨I,J,_⟩:=q;exact⟨T,true,I,g,by rw[u];exact J,m⟩
  exact⟨T,true,o,g,k _ _ m t u v,m⟩
theorem zGb{z TI TO g h j l2:A3}{xs l:F1 A2}{i:Nat}{Q:A5 A2->A4->Prop}(m:A.handled=none)(D:ZipApart z TI TO g h j l2)(st:RT z TI TO g h j l2 xs l i s.heap)(d:xs[i]?=none\/l[i]?=none)
  (n:∀h',(∀c o,c≠z->c≠TO->c≠g->c≠h->s.heap.get? c=some o->h'.get? c=some o)->Q none { s with heap:=h' }) :
  wpAny (model prog w) A (pyNext (.ref z)) Q E s:=by
 rcases st.own with⟨e,a,b,p⟩ | ⟨T,b,o,e,q,G⟩
 .exact wpAny_pyNext_zip_end m D e st.ti p st.a1 st.a2 st.h1 st.h2 d n
 .have f:s.TypeIs (.ref z) "zip":=⟨_,e,rfl⟩;unfold pyNext;refine AA (HR (DX (name:=Str.ofString "__next__") f F.slot_zip_next (DW F.slot_zip_next f F.entry_zip_next
   (Dw m D e q st.ti st.a1 st.a2 st.h1 st.h2 d fun h' H k r=>?_) (F.args_zip_next_1 _))))
  obtain⟨t,u,v⟩:=r;refine AA (wpAny_isInstance (T := "StopIteration") (b:=true) ⟨t,u,v⟩ isSubtype_stop ?_);exact AG (n _ fun c o y _ B C x=>k c o y B C x)
structure PSt(base:Nat)(xs ys:F1 A2)(acc:F1 A2)(i:Nat)(h:H_)(ps:A1 (A3×A2×A2)):Prop where
 len:ps.length=i
 acc:acc.toList=ps.map fun p=>Value.ref p.1
 get:∀(j:Nat) (p:A3×A2×A2),ps[j]?=some p->xs[j]?=some p.2.1/\ys[j]?=some p.2.2
 at_:∀p∈ps,base<=p.1/\IsPair h p.1 p.2.1 p.2.2
 nd:(ps.map fun p=>p.1).Nodup
theorem zEp{R:Result->A4->Prop}{z TI TO C E T l2 S:A3}{xs q:F1 A2}{base:Nat}(hh:A.handled=none)(D:ZipApart z TI TO C E T l2)(n:S≠z/\S≠TI/\S≠TO/\S≠C/\S≠E/\S≠T/\S≠l2)(lt:S<base/\z<base/\TO<base/\C<base/\E<base){m:Nat}(m1:m<=xs.size)(m2:m<=q.size)(me:xs[m]?=none\/q[m]?=none)(hn:m<=sizeLine)(res:A2) :
  ∀(k i:Nat) (s:A4) (d:F1 A2) (c:Nat) (G:A1 (A3×A2×A2)),m-i=k->i<=m->RT z TI TO C E T l2 xs q i s.heap->s.heap.get? S=some { cls:=.type "list",dict:=none,data:=.seq d c,slots:=#[] }->base<=s.heap.objs.size->PSt base xs q d i s.heap G ->
  (∀h' U g V t,(∀b o,b<base->b≠S->b≠z->b≠TO->b≠C->b≠E->s.heap.get? b=some o->h'.get? b=some o)->h'.get? S=some { cls:=.type "list",dict:=none,data:=.seq g V,slots:=#[] }->PSt base xs q g m h' t->R (.ok (.ret res)) { s with heap:=h',toks:=U }) ->
  codeAny (model prog w) A (.builtin "list.extend.loop" ⟨[.ref S,.ref z,res],[]⟩) R s:=by
 obtain⟨n1,n2,n3,n4,n5,n6,n7⟩:=id n;obtain⟨t1,t2,t3,t4,t5⟩:=lt;have l:∀{a b:Nat},base<=a->b<base->a≠b:=fun{a b} u P=>(AX (BG P u)).symm;intro k
 induction k with
 | zero =>
  intro i s d c G hk hi v W H f X;have Y:i=m:=by omega
  subst Y;refine HC F.entry_extend_loop ?_;rw[Around.under_plainId F.plain_extend_loop _];show wpAny _ A.in1 (pyNext (.ref z) >>= _) _ _ s;refine AA (zGb hh D v me fun h' k=>?_);refine AG (X h' s.toks d c G (fun b o _ _ I J K L e=>k b o I J K L e) (k _ _ n1 n3 n4 n5 W) ⟨f.len,f.acc,f.get,fun p hp=>?_,f.nd⟩);obtain⟨h,Z⟩:=f.at_ p hp;exact⟨h,k _ _ (l h t2) (l h t3) (l h t4) (l h t5) Z⟩
 | succ k ih =>
  intro i s d c G hk hi v W H f X;have hlt:i<m:=by omega
  have hx:xs[i]?=some (xs[i]'(by omega)):=FG _;have hy:q[i]?=some (q[i]'(by omega)):=FG _;generalize (xs[i]'(by omega))=x at hx;generalize (q[i]'(by omega))=y at hy;refine HC F.entry_extend_loop ?_;rw[Around.under_plainId F.plain_extend_loop _];show wpAny _ A.in1 (pyNext (.ref z) >>= _) _ _ s;refine AA (zEs D v hx hy fun u st1 pr hsz k1=>?_);have M:=k1 _ _ n1 n3 n4 n5 W;show wpAny _ A.in1 (updateSeq S (·.push (.ref s.heap.objs.size)) >>= _) _ _ _;refine AA ?_;have N:d.size=i:=by have:=congrArg List.length f.acc;rw[AB,f.len,BA]at this;exact this
  refine FM M rfl (AG ⟨plainId_quiet F.plain_extend_loop _,?_⟩) (by rw[N];omega) (by show(d.push (Value.ref s.heap.objs.size)).size<=sizeLine+1;rw[Array.size_push,N];omega);have B:=DN (Obj.mapSeq (·.push (.ref s.heap.objs.size))) M rfl;have Q:∀b o,b≠S->u.get? b=some o->(u.update S (Obj.mapSeq (·.push (.ref s.heap.objs.size)))).get? b=some o:=fun b o H e=>(CK _ _ (Ne.symm H)).trans e;have r:(u.update S (Obj.mapSeq (·.push (.ref s.heap.objs.size)))).objs.size=u.objs.size:=(ED ..).1;generalize u.update S (Obj.mapSeq (·.push (.ref s.heap.objs.size)))=P at B Q r⊢;have O:∀b o,b≠S->b≠z->b≠TO->b≠C->b≠E->s.heap.get? b=some o->P.get? b=some o:=fun b o b0 I J K L e=>Q b o b0 (k1 b o I J K L e);refine ih (i+1) _ (d.push (.ref s.heap.objs.size)) _ (G ++ [(s.heap.objs.size,x,y)]) (by omega) hlt (st1.at Q ⟨_,B⟩ n) B (by show base<=P.objs.size;rw[r,hsz];exact Nat.le_succ_of_le H) ⟨by rw[AU,f.len];rfl,by rw[DI,f.acc,AO];rfl,fun j p e=>?_,fun p hp=>?_,?_⟩ fun h' U g V t kk hS' hP'=>?_
  .rcases Nat.lt_or_ge j G.length with c | c
   .rw[DF c]at e;exact f.get j p e
   .rw[DB c]at e;have:j=i:=by have:=(AE.mp e).1;rw[f.len]at this c;simp at this;omega
    subst this;rw[f.len,Nat.sub_self]at e;cases e;exact⟨hx,hy⟩
  .rcases AW.mp hp with hp | hp
   .obtain⟨h,Z⟩:=f.at_ p hp;exact⟨h,O _ _ (l h t1) (l h t2) (l h t3) (l h t4) (l h t5) Z⟩
   .rw[AF.mp hp];exact⟨H,Q _ _ (l H t1) pr⟩
  .rw[AO,D_];refine⟨f.nd,CQ.mpr ⟨BN,GN⟩,fun a ha b hb'=>?_⟩;obtain⟨p,hp,rfl⟩:=AV.mp ha;have:=AI (f.at_ p hp).2;rw[AF.mp hb'];exact AX this
  .exact X h' U g V t (fun b o b0 I J K L b5 e=>kk b o b0 I J K L b5 (O b o I J K L b5 e)) hS' hP'
theorem Nw:typeLookup (.type "zip") "__len__" = pure none:=by rw[typeLookup_type,builtinLookup_eq_fast];kernel_rfl
theorem Jx:typeLookup (.type "zip") "__length_hint__" = pure none:=by rw[typeLookup_type,builtinLookup_eq_fast];kernel_rfl
theorem Vp{z:A3}{Q:Bool->A4->Prop}(a:s.TypeIs (.ref z) "zip")(h:Q true s):wpAny (model prog w) A (Builtin.List.listLengthHint (.ref z)) Q E s:=by
 unfold Builtin.List.listLengthHint;refine AA (HB a Nw ?_);show wpAny _ A (specialOf (Value.ref z) (Str.ofString "__length_hint__") >>= _) _ _ _;refine AA (HB a Jx ?_);exact AG h
theorem OV{Q:A2->A4->Prop}{z TI TO u v B l2:A3}{xs C:F1 A2}(hh:A.handled=none)(D:ZipApart z TI TO u v B l2)(hz:IsZip s.heap z TI TO .none)(G:IsPair s.heap TO .none .none)(H:IsPair s.heap TI (.ref u) (.ref v))(Y:s.heap.IsListIter u B 0)(Z:s.heap.IsListIter v l2 0)(h1:s.heap.IsList B xs)(h2:s.heap.IsList l2 C){m:Nat}(m1:m<=xs.size)(m2:m<=C.size)(me:xs[m]?=none\/C[m]?=none)(hn:m<=sizeLine)
  (hQ:∀h' x a P i,(∀b o,b≠z->b≠TO->b≠u->b≠v->s.heap.get? b=some o->h'.get? b=some o) ->
   h'.get? s.heap.objs.size=some { cls:=.type "list",dict:=none,data:=.seq a P,slots:=#[] }->PSt (s.heap.objs.size+1) xs C a m h' i->Q (.ref s.heap.objs.size) { s with heap:=h',toks:=x }) :
  wpAny (model prog w) A (call (.type "list") [.ref z]) Q E s:=by
 have I:=AI hz;have k:=AI G;have J:=AI H;have l:u<s.heap.objs.size:=by obtain⟨_,e,_⟩:=Y;exact AI e
 have n:v<s.heap.objs.size:=by obtain⟨_,e,_⟩:=Z;exact AI e
 have K:B<s.heap.objs.size:=by obtain⟨_,e,_⟩:=h1;exact AI e
 have L:l2<s.heap.objs.size:=by obtain⟨_,e,_⟩:=h2;exact AI e
 have d:∀{b:Nat},b<s.heap.objs.size->s.heap.objs.size≠b:=fun h=>(AX h).symm;refine callType_codes (Q₁:=fun M s₁=>M = .ref s.heap.objs.size/\s₁ ={ s with heap:=s.heap.push { cls:=.type "list",data:=.seq #[] } }) F.called_list (F.typeCall_list_1 _) F.entry_list_init
  (code_list_new _ ⟨rfl,rfl⟩) fun M s₁ h₁=>?_
 obtain⟨rfl,rfl⟩:=h₁;have f:(s.heap.push { cls:=.type "list",data:=.seq #[] }).get? s.heap.objs.size=some { cls:=.type "list",data:=.seq #[] }:=AQ _ rfl;refine⟨⟨_,f,rfl⟩,F.args_list_init_2 _ _,?_⟩;have k1:∀b o,s.heap.get? b=some o->(s.heap.push { cls:=.type "list",data:=.seq #[] }).get? b=some o:=fun b o e=>AD _ e;have R:(s.heap.push { cls:=.type "list",data:=.seq #[] }).objs.size=s.heap.objs.size+1:=DQ ..;show wpAny _ _ (do let S <-Builtin.List.listItems (.ref s.heap.objs.size);Builtin.List.listUpdate (.ref s.heap.objs.size) (fun _=>#[]);letGo S.toList.reverse;Builtin.List.listExtendWith (.ref s.heap.objs.size) (.ref z) .none) _ _ _;refine AA ?_;unfold Builtin.List.listItems;refine AA (DC f rfl (AG ?_));show wpAny _ _ (updateSeq s.heap.objs.size (fun _=>#[]) >>= fun _=>letGo (#[]:F1 A2).toList.reverse >>= fun _=>Builtin.List.listExtendWith (.ref s.heap.objs.size) (.ref z) .none) _ _ _;refine AA (FM f rfl ?_);have f₂:=DN (Obj.mapSeq (fun _=>(#[]:F1 A2))) f rfl;have O:∀b o,b≠s.heap.objs.size->s.heap.get? b=some o->((s.heap.push { cls:=.type "list",data:=.seq #[] }).update s.heap.objs.size (Obj.mapSeq (fun _=>(#[]:F1 A2)))).get? b=some o :=
  fun b o q e=>(CK _ _ (Ne.symm q)).trans (k1 b o e)
 have N:((s.heap.push { cls:=.type "list",data:=.seq #[] }).update s.heap.objs.size (Obj.mapSeq (fun _=>(#[]:F1 A2)))).objs.size=s.heap.objs.size+1:=(ED ..).1.trans R;refine AA (HF ?_);generalize (s.heap.push { cls:=.type "list",data:=.seq #[] }).update s.heap.objs.size (Obj.mapSeq (fun _=>(#[]:F1 A2)))=y at f₂ O N⊢;have zp:IsZip y z TI TO .none:=O _ _ (d I).symm hz;have hT:∀{x:Nat},Shared.TypeIs { s with heap:=y,toks:=x } (.ref z) "zip":=fun{x}=>⟨_,zp,rfl⟩;unfold Builtin.List.listExtendWith;refine AA (wpAny_typeOf (T := "zip") hT ?_);have e1:Builtin.List.listSameRef (.ref s.heap.objs.size) (.ref z)=false:=by simp[Builtin.List.listSameRef,d I]
 have e2:(Value.type "zip" == Value.type "list")=false:=by decide
 have e3:(Value.type "zip" == Value.type "tuple")=false:=by decide
 simp only[e1,e2,e3,Bool.or_false,AY,CJ];refine AA (GS zp ?_);refine AA (BU (Vp hT ?_));have U:∀{h':H_},(∀b o,b≠s.heap.objs.size->y.get? b=some o->h'.get? b=some o)->RT z TI TO u v B l2 xs C 0 h':=fun{h'} kk=>by
  have t:∀b o,b<s.heap.objs.size->s.heap.get? b=some o->h'.get? b=some o:=fun b o q e=>kk b o (d q).symm (O b o (d q).symm e);exact⟨.inl ⟨t _ _ I hz,_,_,t _ _ k G⟩,t _ _ J H,Y.at fun o e=>t _ o l e,Z.at fun o e=>t _ o n e,h1.at fun o e=>t _ o K e,h2.at fun o e=>t _ o L e⟩
 have g:∀{b:Nat},b<s.heap.objs.size->b<s.heap.objs.size+1:=fun h=>DZ h;have V:∀(h:H_) (c₁:Nat),(∀b o,b≠s.heap.objs.size->y.get? b=some o->h.get? b=some o)->h.objs.size=s.heap.objs.size+1->h.get? s.heap.objs.size=some { cls:=.type "list",data:=.seq #[] c₁ } ->
   codeAny (model prog w) A.in1 (.builtin "list.extend.loop" ⟨[.ref s.heap.objs.size,.ref z,.none],[]⟩) (wants (fun r s₂=>r=Value.none/\Q (.ref s.heap.objs.size) s₂) E) { s with heap:=h }:=by
  intro h c₁ kk sz hc;refine zEp (A:=A.in1) hh D ⟨d I,d J,d k,d l,d n,d K,d L⟩ ⟨E_ _,g I,g k,g l,g n⟩ m1 m2 me hn .none _ 0 _ #[] c₁ [] rfl (CI _) (U kk) hc (Nat.le_of_eq sz.symm) ⟨rfl,rfl,fun j p e=>by simp at e,fun p y=>absurd y BN,GN⟩ fun h' x a P i k4 W hP=>⟨rfl,?_⟩;exact hQ h' x a P i (fun b o b1 b2 b3 b4 e=>k4 b o (g (AI e)) (d (AI e)).symm b1 b2 b3 b4 (kk b o (d (AI e)).symm (O b o (d (AI e)).symm e))) W hP
 refine wpAny_ite_split (fun _=>?_) (fun X=>absurd rfl X);refine AA (EU ?_);refine AA ?_;show wpAny _ _ (updateSeq s.heap.objs.size (·.push .none) >>= fun _=>updateSeq s.heap.objs.size (·.pop)) _ _ _;refine AA (FM f₂ rfl ?_);have f₃:=DN (Obj.mapSeq (·.push Value.none)) f₂ rfl;refine FM (hz:=by seq_fits) f₃ rfl ?_;have f₄:=DN (Obj.mapSeq (·.pop)) f₃ rfl;refine AG ⟨plainId_quiet F.plain_extend_loop _,V _ _ (fun b o q e=>?_) ?_ f₄⟩
 .exact(CK _ _ (Ne.symm q)).trans ((CK _ _ (Ne.symm q)).trans e)
 .rw[(ED ..).1,(ED ..).1];exact N
end
end TS
namespace L2
open PySem PySem.Spec PyProof.Rows
section
variable{X:Cx}{H:Hp}
def Zo(H:Hp):A1 (A3×V×V)->Hp
 | []=>H
 | q::l=>HX (Zo H l) q.1 (.tup [q.2.1,q.2.2])
theorem Dg{b:A3}:∀{a:A1 (A3×V×V)},b∉a.map (fun p=>p.1)->Zo H a b=H b
 | [],_=>rfl
 | q::l,h=>by
  rw[A_,AR,not_or]at h;show HX (Zo H l) q.1 _ b=_;rw[B6 h.1,Dg h.2]
theorem Im:∀{a:A1 (A3×V×V)},(a.map fun p=>p.1).Nodup->∀p∈a,Zo H a p.1=some (.tup [p.2.1,p.2.2])
 | [],_,p,h=>absurd h BN
 | q::l,b,p,h=>by
  rw[A_,CQ]at b;show HX (Zo H l) q.1 _ p.1=_;rcases AR.mp h with rfl | h
  .exact A9
  .rw[B6 fun e=>b.1 (by rw[<-e];exact AV.mpr ⟨p,h,rfl⟩)];exact Im b.2 p h
theorem Inv.more{a:A1 (A3×Obj)}{σ:St}{H':Hp}{s:A4}{h':H_}{t':Nat}(I:Inv X a σ H s)(k:∀b u,s.heap.get? b=some u->h'.get? b=some u)(d:∀b,b<s.heap.objs.size->H' b=H b)(g:∀b o,s.heap.objs.size<=b->H' b=some o->IK X.prog X.w H' h' b o):Inv X a σ H' { s with heap:=h',toks:=t' }:=by
 have f:∀b o,H b=some o->H' b=some o:=fun b o e=>(d b (I.hok.lt e)).trans e;refine I.un ⟨fun b o q _ _ _=>k b o q,fun b o q _ _ _=>⟨o.slots,k b o q⟩,fun b o q n _=>(d b (AI q)).trans n,fun b o q _=>⟨o,k b o q⟩,fun b h q=>f _ _ q,fun b o u q=>f _ _ q,fun b i q=>⟨#[],by rw[f _ _ q];simp⟩⟩ fun b o e=>?_;by_cases c:b<s.heap.objs.size
 .rw[d b c]at e;exact(I.hok b o e).stay (fun b u _ q=>k b u q) (fun b q=>f _ _ q) fun b h q=>f _ _ q
 .exact g b o (Nat.le_of_not_lt c) e
def zAy(K:PySem.W.Frag)(h:TA):TE:=fun σ H Q=>h σ H fun i c=>∃a b f g,i = [.ref a,.ref b]/\IA K c a f/\IA K c b g /\
 ∀(e:A1 (A3×V×V)) l d,F8 c d->c l=none->d l=some (.lst (e.map fun p=>.ref p.1))->(e.map fun p=>p.2)=f.zip g->(∀p∈e,c p.1=none/\d p.1=some (.tup [p.2.1,p.2.2]))->Q (.ref l) d
theorem Yf{a b:IB}{ta:TA}{p g pos d:Pos}(G:X.mg "list" = none)(Y:X.mg "zip" = none)(ha:PA X [a,b] ta)(hc:X.calm=true:=by rfl)(hg:Gl X "list":=by rfl)(Z:Gl X "zip":=by rfl)
  (hs:starEach [a,b] X.env =(false,eval a X.env)::starEach [b] X.env:=by rfl) (hpl:(backTo d (starEach [b] X.env)).any (·.1)=false:=by rfl) (M:starEach [Expr.Call (.Name "zip" g) [a,b] [] d] X.env =(false,eval (.Call (.Name "zip" g) [a,b] [] d) X.env)::starEach [] X.env:=by rfl):PE X (.Call (.Name "list" p) [.Call (.Name "zip" g) [a,b] [] d] [] pos) (zAy X.K ta):=by
 intro N s σ H Q I h;refine DT (W7 I hg G X4 ?_ (by decide) (by decide));refine callWith_type1 ?_ M rfl;rw[M];refine Calls.spliced_cons ?_;refine Call_ (W7 I Z Y Sf (PyProof.Rows.callWith_type1 (IT (ha d N s σ H _ I h) fun us s1 ⟨vs,U,F,r1,l,m,xs,ys,e,hq,hr,q⟩=>?_) hs hpl));subst e;obtain⟨u,v,rfl,ru,rv⟩:=r1.two;cases ru;cases rv;obtain⟨n,rx,pl,hz⟩:=F.list hq;obtain⟨t,ry,pm,hz'⟩:=F.list hr;have a1:l<s1.heap.objs.size:=by obtain⟨_,e,_⟩:=pl.isList;exact AI e
 have a2:m<s1.heap.objs.size:=by obtain⟨_,e,_⟩:=pm.isList;exact AI e
 refine call_zip_2 pl.isList pm.isList fun C g1 g2 g3 g4 g5 D k=>Calls.spliced_nil ?_;have lx:=rx.length;have ly:=ry.length;have me:(n.toArray)[min n.length t.length]?=none\/(t.toArray)[min n.length t.length]?=none:=by
  rcases Nat.le_total n.length t.length with h | h
  .exact .inl (by rw[FH h];simp)
  .exact .inr (by rw[Nat.min_eq_right h];simp)
 refine TS.OV (s:={ s1 with heap:=C }) (m:=min n.length t.length) (F.ok.hd hc) (zipApart_new a1 a2) g1 g3 g2 g4 g5 (pl.isList.at fun o e=>k _ o e) (pm.isList.at fun o e=>k _ o e) (by simp;exact Nat.min_le_left ..) (by simp;exact Nat.min_le_right ..) me (by have:=Nat.min_le_left n.length t.length;omega) fun h2 tk O c y k2 hS L=>?_;have kk:∀b o,s1.heap.get? b=some o->h2.get? b=some o:=fun b o e=>by
  have lt:=AI e;have W:∀j:Nat,b≠s1.heap.objs.size+j:=fun j=>AX (BG lt (DK _ _));exact k2 b o (W 4) (W 3) (W 0) (W 1) (k b o e)
 have D:C.objs.size=s1.heap.objs.size+5:=D;have hb:∀p∈y,s1.heap.objs.size<=p.1/\p.1≠C.objs.size:=fun p i=>by
  have:=(L.at_ p i).1;have this:C.objs.size+1<=p.1:=this;exact⟨Nat.le_trans (by rw[D];exact DK _ 6) this,(AX this).symm⟩
 have NQ:=L.len;have lz:(xs.zip ys).length=y.length:=by rw[NQ,List.length_zip,lx,ly]
 generalize J:(y.map fun p=>p.1).zip (xs.zip ys)=w;have P:(w.map fun p=>p.1)=y.map fun p=>p.1:=by rw[<-J];exact List.map_fst_zip (by rw[AB,lz];exact Nat.le_refl _)
 have f2:(w.map fun p=>p.2)=xs.zip ys:=by rw[<-J];exact List.map_snd_zip (by rw[AB,lz];exact Nat.le_refl _)
 have nd:(w.map fun p=>p.1).Nodup:=by rw[P];exact L.nd
 have bp:∀p∈w,∃g∈y,g.1=p.1/\RelV p.2.1 g.2.1/\RelV p.2.2 g.2.2:=fun p i=>by
  obtain⟨j,hj⟩:=CU.mp i;rw[<-J,GU,AH]at hj;obtain⟨j1,E⟩:=hj;obtain⟨g,A,e'⟩:=BC.mp j1;obtain⟨q1,q2⟩:=L.get j g A;rw[show p.2 =(p.2.1,p.2.2)from rfl,GU]at E;rw[List.getElem?_toArray]at q1 q2;refine⟨g,AK A,e',?_,?_⟩
  .rcases y0 rx j with⟨z,_⟩ | ⟨x,u,z1,z2,r⟩
   .rw[z]at E;cases E.1
   .rw[z1]at E;rw[z2]at q1;cases E.1;cases q1;exact r
  .rcases y0 ry j with⟨z,_⟩ | ⟨x,u,z1,z2,r⟩
   .rw[z]at E;cases E.2
   .rw[z1]at E;rw[z2]at q2;cases E.2;cases q2;exact r
 have R:s1.heap.objs.size<=C.objs.size:=by rw[D];exact DK ..
 have Sn:C.objs.size∉w.map fun p=>p.1:=fun G=>by
  rw[P]at G;obtain⟨p,i,e⟩:=AV.mp G;exact(hb p i).2 e
 have S:∀b,b<s1.heap.objs.size->b∉w.map fun p=>p.1:=fun b B G=>by
  rw[P]at G;obtain⟨p,i,e⟩:=AV.mp G;have:=(hb p i).1;rw[e]at this;exact absurd B (Nat.not_lt.mpr this)
 have fr:∀p∈w,U p.1=none:=fun p i=>by
  obtain⟨g,A,e,_⟩:=bp p i;exact F.hok.fresh (by rw[<-e];exact(hb g A).1)
 have hv:IH (w.map fun p=>V.ref p.1) O.toList:=by
  rw[L.acc,show(w.map fun p=>V.ref p.1) =(w.map fun p=>p.1).map V.ref by rw[CG];rfl,P,CG];generalize y=l
  induction l with
  | nil=>exact .nil
  | cons p l ih=>exact .cons rfl ih
 have hl:U C.objs.size=none:=F.hok.fresh R;have T:∀b,b<s1.heap.objs.size->HX (Zo U w) C.objs.size (.lst (w.map fun p=>V.ref p.1)) b=U b:=fun b B=>by
  rw[B6 (AX (BG B R)),Dg (S b B)]
 refine⟨.ref C.objs.size,_,F.more (t':=tk) kk T fun b o B e=>?_,rfl,q w _ _ (fun b o e=>(T b (F.hok.lt e)).trans e) hl A9 f2 fun p i=>⟨fr p i,?_⟩⟩
 .by_cases c1:b=C.objs.size
  .subst c1;rw[A9]at e;cases e;exact⟨by rw[AB,<-AB (f:=fun p:A3×V×V=>p.1),P,AB,NQ];have:=Nat.min_le_left n.length t.length;omega,O.toList,c,hv,by simpa using hS⟩
  rw[B6 c1]at e;by_cases c2:b∈w.map fun p=>p.1
  .obtain⟨p,i,rfl⟩:=AV.mp c2;rw[Im nd p i]at e;cases e;obtain⟨g,A,e',r1,r2⟩:=bp p i;have ip:=(L.at_ g A).2;rw[e']at ip;exact⟨by show 2<=sizeLine;decide,[g.2.1,g.2.2],.cons r1 (.cons r2 .nil),⟨_,ip,rfl,_,rfl⟩⟩
  .rw[Dg c2,F.hok.fresh B]at e;cases e
 .rw[B6 fun e=>Sn (by rw[<-e];exact AV.mpr ⟨p,i,rfl⟩)];exact Im nd p i
theorem Wd{a b:IB}{i:TA}{p d pos c:Pos}(K:PySem.W.Frag)(j:X.mg "list" = none)(e:X.mg "zip" = none)(k:PA X [a,b] i)(l:X.calm=true:=by rfl)(m:Gl X "list":=by rfl)(f:Gl X "zip":=by rfl)
  (n:starEach [a,b] X.env =(false,eval a X.env)::starEach [b] X.env:=by rfl) (g:(backTo c (starEach [b] X.env)).any (·.1)=false:=by rfl) (h:starEach [Expr.Call (.Name "zip" d) [a,b] [] c] X.env =(false,eval (.Call (.Name "zip" d) [a,b] [] c) X.env)::starEach [] X.env:=by rfl) (o:X.K=K:=by rfl):PE X (.Call (.Name "list" p) [.Call (.Name "zip" d) [a,b] [] c] [] pos) (zAy K i):=by subst o;exact Yf j e k l m f n g h
end
def S5{α:Type}(a:A1 Nat)(xs:A1 α):A1 α:=a.filterMap fun k=>xs[k]?
def i5(n:Nat)(lo hi st:A5 Int):A1 Nat:=sliceRange (sliceBounds lo hi st n).1 (sliceBounds lo hi st n).2.1 (sliceBounds lo hi st n).2.2
def Di{α:Type}{xs:A1 α}:∀{a:A1 Nat},(∀r∈a,r<xs.length)->∀j:Nat,(S5 a xs)[j]?=a[j]?.bind fun k=>xs[k]?
 | [],_,j=>rfl
 | r::a,h,j=>by
  have e:=AC (h r (.head _));unfold S5;rw[C_ e];cases j with
  | zero=>exact e.symm
  | succ j=>exact Di (fun r b=>h r (.tail _ b)) j
def j9{xs:A1 V}{us:A1 A2}(r:IH xs us):∀l:A1 Nat,IH (S5 l xs) (S5 l us)
 | []=>.nil
 | k::l=>by
  unfold S5;rcases y0 r k with⟨a,b⟩ | ⟨x,u,a,b,c⟩
  .rw[EL a,EL b];exact j9 r l
  .rw[C_ a,C_ b];exact .cons c (j9 r l)
def zGi(K:PySem.W.Frag)(e:TE)(f g ts:TO):TE:=fun σ H Q=>e σ H fun x h=>f σ h fun l i=>g σ i fun u j=>ts σ j fun c d=>c≠some 0/\∃a b,x = .ref a/\IA K d a b/\(S5 (i5 b.length l u c) b).length<=sizeLine/\∀p,d p=none->Q (.ref p) (HX d p (.lst (S5 (i5 b.length l u c) b)))
def Hh{X:Cx}(K:PySem.W.Frag){e:IB}{p:TE}{lo hi:A5 IB}{st:IB}{t y ts:TO}{pos p2:Pos}(B:PE X e p)(C:PO X lo t)(D:PO X hi y)(i:PO X (some st) ts)(E:X.K=K:=by rfl):PE X (.Subscript e (.Slice lo hi (some st) p2) pos) (zGi K p t y ts):=by
 subst E;intro d s σ H Q I h;refine Subscript_ (IT (B d s σ H _ I h) fun v F ⟨x,G,J,L,M⟩=>?_);refine wpAny_Slice (IT (C d F σ G _ J M) fun j N ⟨l,O,P,R,S⟩=>?_);refine IT (D d N σ O _ P S) fun vu T ⟨u,U,V,Y,Z⟩=>IT (i d T σ U _ V Z) fun k s4 ⟨c,H4,I4,ps,hc,a,m,ex,hx,hn,q⟩=>?_;subst ex;cases L;have n:Inv X d σ H4 { s4 with heap:=s4.heap.push { cls:=.type "slice",data:=.fields #[j,vu,k] } }:=I4.kept (t':=s4.toks) fun b ob q=>AD _ q;obtain⟨f,r,z,hz⟩:=n.list hx;have g:=r.length;have hg:wpAny (model X.prog X.w) X.A (getItem (.ref a) (.ref s4.heap.objs.size)) (EP X d σ Q) X.xe { s4 with heap:=s4.heap.push { cls:=.type "slice",data:=.fields #[j,vu,k] } }:=by
  refine wpAny_getItem_list_slice z.isList (Heap.IsSliceOf.new ..) R Y ps hc ?_ (by rw[AM]<;>omega);have es:slicePick f.toArray l u c =(S5 (i5 m.length l u c) f).toArray:=by
   unfold slicePick S5 i5;rw[AM,<-g];congr 1;simp
  rw[es];refine⟨.ref _,_,n.laid (t':=s4.toks) (o:=.lst (S5 (i5 m.length l u c) m)) (fun b ob q=>AD _ q) (Nat.le_refl _) ?_,rfl,q _ (n.hok.fresh (Nat.le_refl _))⟩;exact⟨hn,_,0,j9 r _,AQ _ rfl⟩
 show wpAny (model X.prog X.w) X.A (subscriptTail e (.Slice lo hi (some st) p2) (.ref a) (.ref s4.heap.objs.size)) (EP X d σ Q) X.xe { s4 with heap:=s4.heap.push { cls:=.type "slice",data:=.fields #[j,vu,k] } };exact tail_any (ops:=[.ref a,.ref s4.heap.objs.size]) z.isList.typeIs slot_list_getitem.lookup hg (by with_unfolding_all rfl)
end L2
namespace Sw
open PySem L2
def KD(i:Nat):IL:=PySem.Challenge.pw_strikeweave_k31_trees_of_none.main.body.getD i (.Pass ⟨0,0,0,0⟩)
abbrev PN:IL:=KD 8
abbrev OD:IL:=KD 9
abbrev LV:IL:=KD 11
abbrev LW:IL:=KD 12
abbrev OX:IL:=KD 13
abbrev OQ:IL:=KD 14
abbrev KZ:IL:=KD 15
abbrev KN:IL:=KD 16
abbrev NB:IL:=KD 17
abbrev NF:IL:=KD 18
abbrev NE:IL:=KD 19
abbrev O_:IL:=KD 24
abbrev MV:IL:=KD 25
abbrev LZ:IL:=KD 26
abbrev OC:IL:=KD 27
abbrev OY:IL:=KD 29
abbrev OO:IL:=KD 30
abbrev ON:IL:=KD 31
abbrev NZ:IL:=KD 32
abbrev OM:IL:=KD 33
abbrev MS:IL:=KD 34
abbrev N_:IL:=KD 35
abbrev MT:IL:=KD 36
abbrev ND:IL:=KD 37
abbrev OZ:IL:=KD 38
abbrev OP:IL:=KD 39
abbrev MD:IL:=KD 40
abbrev NC:IL:=KD 41
abbrev KO:IL:=KD 42
abbrev OA:IL:=KD 43
abbrev LY:IL:=KD 44
abbrev OL:IL:=KD 45
abbrev LK:IL:=KD 46
abbrev LJ:IL:=KD 47
abbrev MU:IL:=KD 48
abbrev K_:IL:=KD 49
abbrev LH:IL:=KD 50
abbrev LX:IL:=KD 51
abbrev OB:IL:=KD 52
abbrev LN:IL:=N8 (KD 7) 0
abbrev MA:IL:=N8 (KD 7) 1
abbrev LL:IL:=N8 (KD 7) 2
abbrev KQ:IL:=N8 (KD 7) 3
abbrev MI:IL:=N8 (KD 7) 4
abbrev LA:IL:=N8 (KD 7) 5
abbrev KL:IL:=N8 (KD 7) 6
abbrev KJ:IL:=N8 (KD 7) 7
abbrev PD:IL:=N8 (KD 7) 8
abbrev MF:IL:=N8 (KD 23) 0
abbrev L_:IL:=N8 (KD 23) 1
abbrev NH:IL:=N8 (KD 23) 2
abbrev ME:IL:=N8 (KD 23) 3
abbrev NG:IL:=N8 (KD 23) 4
abbrev Le:IL:=N8 (KD 23) 5
def Gk:Str:=("best_split":Str) ++ ".<locals>." ++ "<lambda>"
def C0:A1 (Pos×Str):=[(⟨94,27,94,74⟩,Gk)]
set_option genInjectivity false in
structure Tx(K:PySem.W.Frag)(mg:Str->A5 A2) where
 be:Fn K mg "joined" PN ["sets"]
 a3:Fn K mg "first_bit" OD ["some"]
 au:Fn K mg "standing_with" LV ["web", "some"]
 al:Fn K mg "standing_from" LW ["marks", "held"]
 aA:Fn K mg "tree_at" OX ["marks", "splits_at", "sets", "held", "known"]
 aB:Fn K mg "clash_at" OQ ["marks", "held"]
 aj:Fn K mg "standing_splits" KZ ["marks", "sets", "held"]
 av:Fn K mg "best_split" KN ["marks", "held", "splits"]
 bL:A3
 aa:A3
 bg:TabAt K mg bL aa
 bx:av.fd.code = .ref bL
 a0:Fn K mg "split_cost" NB ["marks", "held", "added"]
 aD:Fn K mg "answers_at" NF ["marks", "held"]
 aK:Fn K mg "beyonds_at" NE ["marks", "sets", "held"]
 bf:Fn K mg "is_name" O_ ["thing"]
 aY:Fn K mg "check_names" MV ["names"]
 aS:Fn K mg "check_strikes" LZ ["names", "strikes"]
 a4:Fn K mg "is_strike" OC ["names", "thing"]
 a8:Fn K mg "_law_mix" OY ["_law_cell", "_law_k"]
 ba:Fn K mg "_law_left" OO ["_law_script", "_law_k"]
 ak:Fn K mg "_law_pick" ON ["_law_left_here", "_law_many"]
 a5:Fn K mg "_law_names" NZ ["_law_left_here", "_law_many"]
 bb:Fn K mg "_law_size" OM ["_law_left_here"]
 aZ:Fn K mg "_law_strikes" MS ["_law_left_here", "_law_names_here"]
 a6:Fn K mg "_law_masks" N_ ["_law_names_here", "_law_strikes_here"]
 ao:Fn K mg "_law_mask_of" MT ["_law_view", "_law_some_here"]
 az:Fn K mg "_law_set_of" ND ["_law_view", "_law_mask"]
 aP:Fn K mg "_law_hit" OZ ["_law_view", "_law_mask"]
 aW:Fn K mg "_law_kept" OP ["_law_view", "_law_mask"]
 aL:Fn K mg "_law_is_quiet" MD ["_law_view", "_law_mask"]
 a1:Fn K mg "_law_stands" NC ["_law_view", "_law_mask"]
 aI:Fn K mg "_law_all_standing" KO ["_law_view"]
 a7:Fn K mg "_law_least" OA ["_law_view"]
 aT:Fn K mg "_law_web_drawn" LY ["_law_left_here", "_law_most"]
 bc:Fn K mg "_law_some" OL ["_law_left_here", "_law_names_here"]
 an:Fn K mg "_law_is_name_of" LK ["_law_view", "_law_thing"]
 ar:Fn K mg "_law_strikes_it" LJ ["_law_view", "_law_one", "_law_other"]
 ay:Fn K mg "_law_is_held" MU ["_law_view", "_law_held", "_law_thing"]
 am:Fn K mg "_law_twigs_right" K_ ["_law_view", "_law_sets", "_law_words", "_law_held", "_law_more", "_law_twigs"]
 ai:Fn K mg "_law_tree_right" LH ["_law_view", "_law_sets", "_law_words", "_law_held", "_law_tree"]
 aU:Fn K mg "_law_wide_some" LX ["_law_left_here", "_law_view"]
 ab:A3
 ad:QP K ab
 bE:mg "Marks" = some (.ref ab)
 aM:JJ K ab "names"
 bl:JJ K ab "full"
 a2:JJ K ab "bit_of"
 aC:JJ K ab "strikers_of"
 bd:JJ K ab "struck_of"
 bi:JJ K ab "loops"
 bn:A3
 bm:IP
 bo:PM K "__init__" "Marks.__init__" LN bn bm
 bp:Binds K bm ["self", "web"] []
 bF:Mk K ab bn
 ac:Mt K ab "bits_in" "Marks.bits_in" MA ["self", "some"]
 ap:Mt K ab "names_in" "Marks.names_in" LL ["self", "some"]
 af:Mt K ab "first_name" "Marks.first_name" KQ ["self", "some"]
 aG:Mt K ab "set_of" "Marks.set_of" MI ["self", "some"]
 ag:Mt K ab "struck_by" "Marks.struck_by" LA ["self", "some"]
 ae:Mt K ab "strikers_at" "Marks.strikers_at" KL ["self", "some"]
 aw:Mt K ab "unstruck_by" "Marks.unstruck_by" KJ ["self", "some"]
 bM:Mt K ab "kept" "Marks.kept" PD ["self", "some"]
 ah:A3
 ax:QP K ah
 bG:mg "Web" = some (.ref ah)
 aV:JJ K ah "names"
 bj:JJ K ah "strikes"
 aJ:JJ K ah "strikers_by_name"
 aO:JJ K ah "struck_by_name"
 bt:A3
 bs:IP
 bu:PM K "__init__" "Web.__init__" MF bt bs
 bv:Binds K bs ["self", "names", "strikes"] []
 bH:Mk K ah bt
 aE:Mt K ah "all_names" "Web.all_names" L_ ["self"]
 bN:Mt K ah "all_strikes" "Web.all_strikes" NH ["self"]
 aH:Mt K ah "strikers" "Web.strikers" ME ["self", "name"]
 aR:Mt K ah "struck" "Web.struck" NG ["self", "name"]
 as:Mt K ah "check_has" "Web.check_has" Le ["self", "name"]
 bD:∃t,mg "LETTERS" = some (.str "abcdefghijklmnopqrstuvwxyz" t)
 bw:∃t,mg "LONGEST_NAME" = some (.int 8 t)
 aq:mg "len" = none
 aQ:mg "range" = none
 aF:mg "enumerate" = none
 bq:mg "zip" = none
 bz:mg "min" = none
 bI:mg "max" = none
 bh:mg "sum" = none
 bA:mg "abs" = none
 bk:mg "sorted" = none
 br:mg "int" = none
 bB:mg "str" = none
 aX:mg "list" = none
 a9:mg "tuple" = none
 bC:mg "set" = none
 aN:mg "isinstance" = none
 bJ:mg "all" = none
 bK:mg "any" = none
 bO:mg "ValueError" = none
end Sw
namespace L2
open PySem
def KI{N b:A1 Str}{a:JB}(h1:a.kind = .function:=by rfl)(h2:a.isCoroutine=false:=by rfl)(c:a.isGenerator=false:=by rfl)(d:N.Nodup:=by decide +kernel)(e:N.take b.length=b:=by rfl)(f:∀x∈b,a.names.lookup x=some .local\/a.names.lookup x=some .cell:=by decide +kernel)(g:∀y∈a.names,y.2≠ .free:=by decide +kernel):HY N b a:=⟨h1,h2,c,d,e,f,g⟩
def Rm{j k:Nat}{A:IC}(h:JD k A)(e:j<=k:=by decide):JD j A:=h.mono e
def S4{J:It}{xs:A1 V}{a:A3}{d:Hp}(as:LP J xs a d){g:TG}{e:TS}{D:Ends}{σ:St}{H:Hp}(Pv:Nat->St->Hp->Prop)(h:Pv 0 σ H)(j:∀i σ H,i<=xs.length->Pv i σ H->JS a d H)
  (k:∀i σ H x,xs[i]?=some x->Pv i σ H->∀b:Ends,(∀σ' H',Pv (i+1) σ' H'->b.nx σ' H')->b.rt=D.rt->g x σ H fun σ2 c=>e b σ2 c) (l:∀σ H,Pv xs.length σ H->D.nx σ H) :
  ∃W:Nat->Nat->St->Hp->Prop,(∃m,W 0 m σ H)/\∀i m σ H,W i m σ H ->
   (J.stop i H/\D.nx σ H)\/(J.go i H/\∃N:St->Hp->Prop,(∀σ' H',N σ' H'->∃f,f < m/\W (i+1) f σ' H')/\∀x H',J.yld i H x H'->g x σ H' fun σ2 c=>e { D with nx:=N,ct:=N,bk:=D.nx } σ2 c) :=
 Wt as Pv h j (fun i σ H x n o=>k i σ H x n o _ (fun _ _ z=>z) rfl) l
def Q2{lo:Int}{n:Nat}{g:TG}{c:TS}{D:Ends}{σ:St}{H:Hp}(Pv:Nat->St->Hp->Prop)(e:Pv 0 σ H)
  (f:∀i σ H,i<n->Pv i σ H->∀a:Ends,(∀σ' H',Pv (i+1) σ' H'->a.nx σ' H')->a.rt=D.rt->g (.int (lo+i)) σ H fun σ2 b=>c a σ2 b) (h:∀σ H,Pv n σ H->D.nx σ H) :
  ∃W:Nat->Nat->St->Hp->Prop,(∃m,W 0 m σ H)/\∀i m σ H,W i m σ H ->
   ((RQ lo n).stop i H/\D.nx σ H)\/((RQ lo n).go i H/\∃N:St->Hp->Prop,(∀σ' H',N σ' H'->∃d,d < m/\W (i+1) d σ' H')/\∀x H',(RQ lo n).yld i H x H'->g x σ H' fun σ2 b=>c { D with nx:=N,ct:=N,bk:=D.nx } σ2 b) :=
 Td Pv e (fun i σ H j k=>f i σ H j k _ (fun _ _ z=>z) rfl) h
def A6{α:Type}{A C:α->Prop}{a:α}(e:A a)(h:C a):∃v,A v/\C v:=⟨a,e,h⟩
def X0{α0 α1 α2:Type}{d e f g h i:α0->α1->α2->Prop}{a:α0}{b:α1}{c:α2}(j:d a b c)(h1:e a b c)(h2:f a b c)(k:g a b c)(l:h a b c)(m:i a b c):∃a b c,d a b c/\e a b c/\f a b c/\g a b c/\h a b c/\i a b c:=⟨a,b,c,j,h1,h2,k,l,m⟩
def Zg{α0 α1 α2 α3 α4 α5 α6:Type}{h i j k:α0->α1->α2->α3->α4->α5->α6->Prop}{a:α0}{b:α1}{c:α2}{d:α3}{e:α4}{f:α5}{g:α6}(l:h a b c d e f g)(h1:i a b c d e f g)(h2:j a b c d e f g)(m:k a b c d e f g):∃a b c d e f g,h a b c d e f g/\i a b c d e f g/\j a b c d e f g/\k a b c d e f g:=⟨a,b,c,d,e,f,g,l,h1,h2,m⟩
def zEl{α0 α1 α2 α3 α4 α5:Type}{g h i j k l m n:α0->α1->α2->α3->α4->α5->Prop}{a:α0}{b:α1}{c:α2}{d:α3}{e:α4}{f:α5}(o:g a b c d e f)(h1:h a b c d e f)(h2:i a b c d e f)(p:j a b c d e f)(q:k a b c d e f)(r:l a b c d e f)(s:m a b c d e f)(t:n a b c d e f):∃a b c d e f,g a b c d e f/\h a b c d e f/\i a b c d e f/\j a b c d e f/\k a b c d e f/\l a b c d e f/\m a b c d e f/\n a b c d e f:=⟨a,b,c,d,e,f,o,h1,h2,p,q,r,s,t⟩
def zEi{α0 α1 α2 α3:Type}{e f g h i j k:α0->α1->α2->α3->Prop}{a:α0}{b:α1}{c:α2}{d:α3}(l:e a b c d)(h1:f a b c d)(h2:g a b c d)(m:h a b c d)(n:i a b c d)(o:j a b c d)(p:k a b c d):∃a b c d,e a b c d/\f a b c d/\g a b c d/\h a b c d/\i a b c d/\j a b c d/\k a b c d:=⟨a,b,c,d,l,h1,h2,m,n,o,p⟩
def B9{α0 α1:Type}{c d e:α0->α1->Prop}{a:α0}{b:α1}(f:c a b)(h1:d a b)(h2:e a b):∃a b,c a b/\d a b/\e a b:=⟨a,b,f,h1,h2⟩
def B8{t u:TS}{D:Ends}{σ:St}{H:Hp}(h:∀N:St->Hp->Prop,(∀σ' H',u D σ' H'->N σ' H')->t { D with nx:=N } σ H):SR t u D σ H:=h _ fun _ _ z=>z
def Vj{i:Nat}{v:V}{t u:TS}{D:Ends}{σ:St}{H:Hp}(h:∀N:St->Hp->Prop,(∀σ' H',u D σ' H'->N σ' H')->t { D with nx:=N } (σ.set i (some v)) H):U5 i v σ H (fun σ2 a=>SR t u D σ2 a):=h _ fun _ _ z=>z
end L2
namespace Sw
open PySem L2
section
variable{P:A7}{w:HW}{K:PySem.W.Frag}{mg:Str->A5 A2}{base:H_}
def Zb(c:Nat):Bool:=decide (97<=c)&&decide (c<=122)
def R8(x:Str):Bool:=decide (1<=x.length)&&decide (x.length<=8)&&x.cps.toList.all Zb
theorem Jd:("abcdefghijklmnopqrstuvwxyz":Str).cps.toList=List.range' 97 26:=by decide +kernel
theorem Zl(c:Nat):decide (c∈("abcdefghijklmnopqrstuvwxyz":Str).cps.toList)=Zb c:=by
 rw[Jd];unfold Zb;by_cases a:97<=c
 .by_cases b:c<=122
  .rw[BB (List.mem_range'_1.mpr (by omega)),BB a,BB b];rfl
  .rw[BD (fun z=>by have:=List.mem_range'_1.mp z;omega),BD b,HL]
 .rw[BD (fun z=>by have:=List.mem_range'_1.mp z;omega),BD a,ER]
theorem Np:HY ["thing"] ["thing"] (B7 O_):=KI
def Ng:Sp:=fun b H Q _=>∃x,b = [.str x]/\x.length<=1000/\∀a,F8 H a->Q (.bl (R8 x)) a
theorem Mr(T:Tx K mg):IG P w K mg base IW 1 T.bf.f T.bf.fd ["thing"] Ng:=by
 refine T.bf.F.o1 Np fun r A b s H B Q E C h=>?_
 .obtain⟨x,rfl,G,k⟩:=h;refine⟨_,(B3 (I0 (PW.pt (Am (Q5 (Q4 (G0 (Ae K) T.aN O1 (A8 (pv 0) (A8 (Qn T.bB Wc) B1))))) (Y5 (Q5 (Tn zAb zAb B4 (G0 Fl T.aq K9 (A8 (pv 0) B1)) (zDl T.bw)))))) (B5 (C1 Y9)) C5)
   (B5 (C1 (G0 (zAl K) T.bJ zCt (A8 (U4 (N':=["letter"]) (cap:=[none]) (cl:=[]) (P3 trivial trivial) rfl (Zz (pv 0)) (fun _ _ _ _=>by exact⟨(MX 0),K1,(P1 Qt (pv 0) (zDo T.bD) rfl)⟩)) B1))))),?_⟩
  have d:x.length<=sizeLine:=by rw[sizeLine_eq];omega
  have m:x.cps.size=x.length:=rfl;refine A6 rfl ⟨.str x, "str",_,true,rfl,.str x,rfl,A6 rfl ?_⟩;refine X1 ?_;refine A6 rfl ⟨x,rfl,d,B9 rfl rfl (A6 rfl ?_)⟩;refine T7 (fun a=>?_) (fun a=>?_)
  .have a:(1:Int)<=(x.length:Int):=BZ a;refine B9 rfl rfl (A6 rfl ?_);by_cases o:(x.length:Int)<=8
   .rw[BB o];refine X1 ?_;refine A6 rfl ⟨x,rfl,fun D p=>?_⟩;refine n9 (n:=x.cps.size) (fun i σ g=>(∃v,σ = [v])/\F8 H g/\g D=some (.lst ((x.cps.toList.take i).map fun c=>V.bl (Zb c)))) ⟨⟨_,rfl⟩,F8.new p,A9⟩ (fun i _ _ q _=>q) (fun _ _ _=>rfl) ?_ ?_
    .rintro i σ t v g N q ⟨⟨I,rfl⟩,j,l⟩ ⟨rfl,c,u,rfl⟩ y;refine Cj ?_;refine A6 rfl (B9 rfl rfl ⟨_,l,?_,?_⟩)
     .rw[AB,AS,sizeLine_eq];omega
     .rw[PySem.StrLaws.found_one,Zl];refine y _ _ ⟨⟨_,rfl⟩,j.upd p,?_⟩;rw[A9];have:x.cps.toList[i]?=some c:=by rw[BS];exact u
      rw[List.take_add_one,this,AO];rfl
    .rintro σ t ⟨_,j,l⟩;refine⟨D,x.cps.toList.map Zb,rfl,IA.of ?_,?_⟩
     .rw[l,<-BA,B_,CG];rfl
     .have e:(x.cps.toList.map Zb).all id=R8 x:=by
       unfold R8;rw[BB (show 1<=x.length by omega),BB (show x.length<=8 by omega),List.all_map];rfl
      rw[e];exact k _ j
   .rw[BD o];refine Te ?_;have e:R8 x=false:=by
     unfold R8;rw[BD (show ¬x.length<=8 by omega),HL,ER]
    have:=k H (F8.refl H);rw[e]at this;exact this
  .have a:¬(1:Int)<=(x.length:Int):=fun z=>a (BB z);refine A6 rfl ?_;refine Te ?_;have e:R8 x=false:=by
    unfold R8;rw[BD (show ¬1<=x.length by omega),ER,ER]
   have:=k H (F8.refl H);rw[e]at this;exact this
theorem IQ{α:Type}{l:A1 α}{i:Nat}{x:α}(h:l[i]?=some x):l.take (i+1)=l.take i ++ [x]:=by
 rw[List.take_add_one,h];rfl
theorem Cm{α:Type}{l:A1 α}{i:Nat}{x:α}(a:l.Nodup)(h:l[i]?=some x):x∉l.take i:=by
 intro b;obtain⟨j,c,e⟩:=List.getElem_of_mem b;have d:j<i:=by rw[AS]at c;omega
 rw[List.getElem_take]at e;obtain⟨g,f⟩:=AE.mp h;have:=(List.getElem_inj a).mp (e.trans f.symm);omega
theorem JW:HY ["names", "seen", "place", "name"] ["names"] (B7 MV):=KI
def JY(ss:A1 Str):Prop:=(∀x∈ss,R8 x=true)/\ss.Nodup/\ss.length<=100
def Ce(K:PySem.W.Frag):Sp:=fun c H Q _=>∃(p:A3) (a:A1 Str),c = [.ref p]/\IA K H p (a.map V.str)/\JY a/\∀b,F8 H b->Q .non b
theorem Po{x:Str}(h:R8 x=true):1<=x.length/\x.length<=8:=by
 unfold R8 at h;rw[BH,BH]at h;exact⟨BZ h.1.1,BZ h.1.2⟩
theorem Bu(T:Tx K mg):IG P w K mg base IW 2 T.aY.f T.aY.fd ["names"] (Ce K):=by
 refine T.aY.F.o1 JW fun U A C s H Z Q E J h=>?_
 .obtain⟨a,b,rfl,r,⟨V,W,hL⟩,k⟩:=h;have hu:=X5 J;refine⟨_,(B3 (C6 (i:=1) JW.nd rfl (.inl rfl) (Cl (Xq P w) (by rfl) T.bC Wj))
   (B5 (O4 PassesOwn.never rfl (SJ K T.aF (A8 (pv 0) B1)) (QA K (n:=2) (C8 (D0 (i:=2) JW.nd rfl (.inl rfl)) (C8 (D0 (i:=3) JW.nd rfl (.inl rfl)) M9)))
   (B3 (I0 (PW.pt (Am (Q5 (Q4 (C9 T.bf (Mr T) (Rm J) (A8 (pv 3) B1)))) (Y5 (C2 (zDx P w) (pv 3) (pv 1) rfl)))) (B5 Eg) C5)
   (B5 (J9 (Wh P w (Zq P w) (pv 1) (A8 (pv 3) B1)))))))),?_⟩
  refine⟨rfl,fun p L=>?_⟩;have M:F8 H (HX H p (Oc P w p [])):=F8.new L;refine A6 rfl ⟨a,A6 rfl ⟨(M.at a).seqL r,Vg (n:=b.length) (fun i σ g=>∃l m,σ = [some (.ref a),some (.ref p),l,m]/\F8 H g/\g p=some (Oc P w p ((b.take i).map Sum.inr))) ⟨_,_,rfl,M,A9⟩ ?_ ?_ ?_ ?_⟩⟩
  .rintro i σ g u ⟨l,m,rfl,c,o⟩;exact⟨_,_,(c.at a).seqL r,by rw[AH,AC u];rfl⟩
  .rintro σ g ⟨l,m,rfl,c,o⟩;exact⟨_,(c.at a).seqL r,by rw[AB]⟩
  .rintro i σ g v H' u ⟨l,m,rfl,c,o⟩ ⟨t,x,rfl,N,rfl,B⟩;have B:=B _ ((c.at a).seqL r);have j:b[i]?=some b[i]:=AC u;rw[AH,j]at B;cases B;have X:b[i]∈b:=FX u;have q:=V _ X;have O:=Po q;have D:p≠t:=B2 o N;refine⟨t,A6 rfl ⟨IZ.of A9,rfl,_,A6 rfl (B9 rfl rfl ?_)⟩⟩;refine A6 rfl ⟨b[i],rfl,by omega,fun R S=>⟨_,rfl,?_⟩⟩;rw[q];refine X1 ?_;have G:F8 H R:=(c.trans (F8.new N)).trans S;have I:R p=some (Oc P w p ((b.take i).map Sum.inr)):=S _ _ (by rw[B6 D];exact o);have d:¬(Sum.inr b[i]:IR)∈(b.take i).map Sum.inr:=fun z=>by
    obtain⟨y,Y,e⟩:=AV.mp z;cases e;exact Cm W j Y
   refine A6 rfl (A6 rfl ⟨p,_,Sum.inr b[i],rfl,rfl,I,A6 rfl ?_⟩);rw[AJ (by decide),BD d];refine X1 ?_;refine A6 rfl ⟨⟨p,rfl,.inl ⟨_,I⟩⟩,A6 rfl ⟨p,_,Sum.inr b[i],rfl,rfl,I,?_,?_⟩⟩
   .rw[AB,AS];omega
   .refine⟨_,A6 rfl ⟨G.upd L,?_⟩⟩;rw[A9];unfold zCz;rw[AJ d,IQ j,AO];rfl
  .rintro σ g ⟨l,m,rfl,c,o⟩;exact k g c
end
def Ho(ss:A1 Str):(ss.map V.str).all Eo=true:=by
 rw[FW];intro v a;obtain⟨x,_,rfl⟩:=AV.mp a;rfl
def Ru(x:Str)(ss:A1 Str):inV (.str x) (ss.map V.str)=decide (x∈ss):=by
 unfold inV;rw[List.any_map]
 induction ss with
 | nil=>rfl
 | cons y r a =>
  rw[GH,a];show((y == x)||decide (x∈r))=decide (x∈y::r);by_cases e:x=y
  .subst e;simp
  .have:(y == x)=false:=by simpa using fun z=>e z.symm
   rw[this,Bool.false_or];by_cases h:x∈r
   .rw[BB h,BB (BF _ h)]
   .rw[BD h,BD (fun z=>(AR.mp z).elim e h)]
def Jq{K:PySem.W.Frag}{H:Hp}{p:A3}{x:Str}{ss:A1 Str}{Q:VK}(h:QE K H p (ss.map V.str))(q:Q (.bl (decide (x∈ss))) H):SH K false (.str x) (.ref p) H Q :=
 ⟨p,_,rfl,h,rfl,Ho ss,by rw[AJ (by decide),Ru];exact q⟩
def V9{K:PySem.W.Frag}{H:Hp}{p:A3}{x:Str}{ss:A1 Str}{Q:VK}(h:QE K H p (ss.map V.str))(q:Q (.bl (!decide (x∈ss))) H):SH K true (.str x) (.ref p) H Q :=
 ⟨p,_,rfl,h,rfl,Ho ss,by rw[AL rfl,Ru];exact q⟩
section
variable{P:A7}{w:HW}{K:PySem.W.Frag}{mg:Str->A5 A2}{base:H_}
theorem Gy:HY ["names", "thing"] ["names", "thing"] (B7 OC):=KI
def Hq(K:PySem.W.Frag):Sp:=fun b H Q _=>∃(p:A3) (a:A1 Str) (t:A3) (x y:Str),b = [.ref p,.ref t]/\IA K H p (a.map V.str)/\H t=some (.tup [.str x,.str y])/\x∈a/\y∈a/\Q (.bl true) H
theorem Hk(T:Tx K mg):IG P w K mg base IW 1 T.a4.f T.a4.fd ["names", "thing"] (Hq K):=by
 refine T.a4.F.o1 Gy fun e A c s H j Q E l h=>?_
 .obtain⟨p,m,t,x,y,rfl,d,b,g,i,k⟩:=h;refine⟨_,(B3 (I0 (PW.pt (Am (Q5 (Q4 (G0 (Ae K) T.aN O1 (A8 (pv 1) (A8 (Qn T.a9 Z0) B1))))) (Y5 (C2 Gw (G0 (N9 K) T.aq K9 (A8 (pv 1) B1)) B4 (D6 _))))) (B5 (C1 Y9)) C5)
   (B5 (C1 (Ap (P1 (Yt K) (D4 (PK K) (pv 1) B4 (fun _ _=>rfl)) (pv 0) rfl) (Db (P1 (Yt K) (D4 (PK K) (pv 1) B4 (fun _ _=>rfl)) (pv 0) rfl)))))),?_⟩
  refine A6 rfl ⟨_, "tuple",_,true,rfl,.tup b,rfl,A6 rfl ?_⟩;refine X1 ?_;refine A6 rfl (B9 (a:=t) rfl (.inr (IZ.of b)) ⟨rfl,A6 rfl ?_⟩);refine X1 ?_;refine A6 rfl ⟨t,_,B9 rfl rfl ⟨IZ.of b,rfl,A6 rfl (Jq (.inl d) ⟨_,rfl,?_⟩)⟩⟩;rw[BB g];refine Te ?_;refine A6 rfl ⟨t,_,B9 rfl rfl ⟨IZ.of b,rfl,A6 rfl (Jq (.inl d) ?_)⟩⟩;rw[BB i];exact k
structure MZ(ss:A1 Str)(ps:A1 JF):Prop where
 nm:∀q∈ps,q.2.1∈ss/\q.2.2∈ss
 nd:(ps.map fun q=>q.2).Nodup
 len:ps.length<=200
def K3(a:A1 JF):A1 V:=a.map fun q=>V.ref q.1
def Jb(a:A1 JF):A1 (A1 IR×A3):=a.map fun q=>([.inr q.2.1,.inr q.2.2],q.1)
theorem Uf{H:Hp}{a:A1 JF}(h:∀q∈a,E6 H q):Kx H (Jb a):=fun k b=>by
 obtain⟨q,c,rfl⟩:=AV.mp b;exact h q c
theorem P0{H H':Hp}{a:A1 JF}(s:F8 H H')(h:∀q∈a,E6 H q):∀q∈a,E6 H' q:=fun q b=>s _ _ (h q b)
theorem JO:HY ["names", "strikes", "seen", "place", "strike"] ["names", "strikes"] (B7 LZ):=KI
def u6(K:PySem.W.Frag):Sp:=fun e H Q _=>∃(p:A3) (c:A1 Str) (a:A3) (b:A1 JF),e = [.ref p,.ref a]/\IA K H p (c.map V.str)/\IA K H a (K3 b)/\(∀q∈b,E6 H q)/\MZ c b/\∀d,F8 H d->Q .non d
theorem t8(T:Tx K mg):IG P w K mg base IW 2 T.aS.f T.aS.fd ["names", "strikes"] (u6 K):=by
 refine T.aS.F.o1 JO fun X A D s H vs Q E N h=>?_
 .obtain⟨n,Y,a,b,rfl,Z,y,O,⟨hN,hD,hL⟩,k⟩:=h;have R:=X5 N;refine⟨_,(B3 (C6 (i:=2) JO.nd rfl (.inl rfl) (Cl (Vm P w) (by rfl) T.bC Wj))
   (B5 (O4 PassesOwn.never rfl (SJ K T.aF (A8 (pv 1) B1)) (QA K (n:=2) (C8 (D0 (i:=3) JO.nd rfl (.inl rfl)) (C8 (D0 (i:=4) JO.nd rfl (.inl rfl)) M9)))
   (B3 (I0 (PW.pt (Am (Q5 (Q4 (C9 T.a4 (Hk T) (Rm N) (A8 (pv 0) (A8 (pv 4) B1))))) (Y5 (C2 (zEh P w R) (pv 4) (pv 2) rfl)))) (B5 Eg) C5)
   (B5 (J9 (Wh P w (zAv P w R) (pv 2) (A8 (pv 4) B1)))))))),?_⟩
  refine⟨rfl,fun p S=>?_⟩;have U:F8 H (HX H p (Oa P w p [])):=F8.new S;refine A6 rfl ⟨a,A6 rfl ⟨(U.at a).seqL y,Vg (n:=b.length) (fun i σ c=>∃l v4,σ = [some (.ref n),some (.ref a),some (.ref p),l,v4]/\F8 H c/\c p=some (Oa P w p (Jb (b.take i)))) ⟨_,_,rfl,U,A9⟩ ?_ ?_ ?_ ?_⟩⟩
  .rintro i σ c B ⟨G,l,rfl,d,m⟩;exact⟨_,_,(d.at a).seqL y,by unfold K3;rw[AH,AC B];rfl⟩
  .rintro σ c ⟨G,l,rfl,d,m⟩;exact⟨_,(d.at a).seqL y,by unfold K3;rw[AB]⟩
  .rintro i σ c v H' B ⟨G,l,rfl,d,m⟩ ⟨t,x,rfl,V,rfl,o⟩;have o:=o _ ((d.at a).seqL y);have g:b[i]?=some b[i]:=AC B;unfold K3 at o;rw[AH,g]at o;cases o;have W:b[i]∈b:=FX B;obtain⟨I,J⟩:=hN _ W;have L:p≠t:=B2 m V;have C:F8 H (HX c t (.tup [.int i,.ref b[i].1])):=d.trans (F8.new V);have j:=C _ _ (O _ W);refine⟨t,A6 rfl ⟨IZ.of A9,rfl,_,A6 rfl (B9 rfl rfl ?_)⟩⟩;refine A6 rfl (A6 rfl ⟨n,Y,b[i].1,b[i].2.1,b[i].2.2,rfl,(C.at n).seqL Z,j,I,J,A6 rfl ?_⟩);refine X1 ?_;have M:(HX c t (.tup [.int i,.ref b[i].1])) p=some (Oa P w p (Jb (b.take i))):=by rw[B6 L];exact m
   have r:Kx (HX c t (.tup [.int i,.ref b[i].1])) (Jb (b.take i)):=Uf (P0 C fun q j=>O q (CD j));have u:∀q∈Jb (b.take i),q.1≠[.inr b[i].2.1,.inr b[i].2.2]:=fun q j e=>by
    obtain⟨z,hz,rfl⟩:=AV.mp j;have e':z.2=b[i].2:=by
     obtain⟨z1,z2,z3⟩:=z;simp only[List.cons.injEq,Sum.inr.injEq,and_true]at e;exact Prod.ext e.1 e.2
    have h1:(b.map fun q=>q.2)[i]?=some b[i].2:=by rw[AH,g];rfl
    refine Cm hD h1 ?_;rw[<-HU,<-e'];exact AV.mpr ⟨z,hz,rfl⟩
   refine A6 rfl (A6 rfl ⟨p,b[i].1,_,[.inr b[i].2.1,.inr b[i].2.2],rfl,rfl,M,j,r,u,A6 rfl ?_⟩);refine X1 ?_;refine A6 rfl ⟨⟨p,rfl,.inr (.inr ⟨_,M⟩)⟩,A6 rfl ⟨p,b[i].1,_,[.inr b[i].2.1,.inr b[i].2.2],rfl,rfl,M,j,r,u,?_,?_⟩⟩
   .unfold Jb;rw[AB,AS];omega
   .refine⟨_,A6 rfl ⟨C.upd S,?_⟩⟩;rw[A9,IQ g];unfold Jb;rw[AO];rfl
  .rintro σ c ⟨G,l,rfl,d,m⟩;exact k c d
end
def la(a:A1 (IR×V))(n:Str):A3:=match S6 a (.inr n)with | some (.ref l)=>l | _=>0
def Si(a:A1 (IR×V))(n m:Str)(v:V):S6 (p9 a (Sum.inr n:IR) v) (.inr m)=if m=n then some v else S6 a (.inr m):=by
 rw[y8];by_cases e:m=n
 .rw[AL e,AL (by rw[e])]
 .rw[AJ e,AJ (fun z=>e (Sum.inr.inj z))]
def Cv(a:A1 (IR×V))(n m:Str)(p:A3):la (p9 a (.inr n) (.ref p)) m=if m=n then p else la a m:=by
 unfold la;rw[Si];by_cases e:m=n
 .rw[AL e,AL e]
 .rw[AJ e,AJ e]
structure DOk(H0:Hp)(kvs:A1 (IR×V))(ns:A1 Str):Prop where
 val:∀n∈ns,S6 kvs (.inr n)=some (.ref (la kvs n))
 inj:∀n∈ns,∀m∈ns,la kvs n=la kvs m->n=m
 fr:∀n∈ns,H0 (la kvs n)=none
def Wm{K:PySem.W.Frag}{J:It}{a:A3}{ns:A1 Str}{H:Hp}{σ:St}{Q:St->Hp->Prop}(as:LP J (ns.map V.str) a H)(hσ:∃v,σ = [v])(I:ns.Nodup)(L:ns.length<=1000){D:A3}(A:H D=none)
  (q:∀σ b H',F8 H H'->H' D=some (.dK b)->DOk H b ns->(∀n∈ns,H' (la b n)=some (.lst []))->(∀n∈ns,la b n≠D)->Q σ H') :
  Ia (U5 0) Ca (Uw D (Vd 0) (zFi Zp)) J σ (HX H D (.dK [])) Q:=by
 obtain⟨v,rfl⟩:=hσ;refine V0 as (fun i σ f=>(∃v,σ = [v])/\∃b,F8 H f/\f D=some (.dK b)/\b.length<=i/\DOk H b (ns.take i)/\(∀n∈ns.take i,f (la b n)=some (.lst []))/\∀n∈ns.take i,la b n≠D)
  ⟨⟨v,rfl⟩,[],F8.new A,A9,CI _,⟨fun n h=>by simp at h,fun n h=>by simp at h,fun n h=>by simp at h⟩,fun n h=>by simp at h,fun n h=>by simp at h⟩ (fun i σ f _ ⟨_,b,l,_⟩=>l.at a) ?_ ?_
 .rintro i σ f x N s ⟨⟨v,rfl⟩,b,l,w,C,t,o,y⟩ E;rw[AH]at s;have F:i<ns.length:=by
   rcases Nat.lt_or_ge i ns.length with z | z
   .exact z
   .rw[FE z]at s;cases s
  have u:ns[i]?=some ns[i]:=AC F;rw[u]at s;cases s;refine Cj ?_;refine A6 rfl ⟨CI _,fun p r=>?_⟩;have g:D≠p:=B2 w r;refine⟨b,.inr ns[i],by rw[B6 g];exact w,rfl,by rw[sizeLine_eq];omega,E _ _ ⟨⟨_,rfl⟩,p9 b (.inr ns[i]) (.ref p),?_,A9,?_,⟨?_,?_,?_⟩,?_,?_⟩⟩
  .exact(l.trans (F8.new r)).upd A
  .have:=Q6 b (Sum.inr ns[i]:IR) (.ref p);omega
  all_goals rw[IQ u]
  .intro n c;rw[Si,Cv];by_cases e:n=ns[i]
   .rw[AL e,AL e]
   .rw[AJ e,AJ e];rcases AW.mp c with z | z
    .exact t.val n z
    .exact absurd (AF.mp z) e
  .intro n c m B;rw[Cv,Cv];have d:∀k∈ns.take i ++ [ns[i]],k≠ns[i]->k∈ns.take i:=fun k G e=>(AW.mp G).elim id fun z=>absurd (AF.mp z) e;by_cases e:n=ns[i]
   .by_cases j:m=ns[i]
    .exact fun _=>e.trans j.symm
    .rw[AL e,AJ j];intro z;have:=o m (d m B j);rw[<-z,r]at this;cases this
   .by_cases j:m=ns[i]
    .rw[AJ e,AL j];intro z;have:=o n (d n c e);rw[z,r]at this;cases this
    .rw[AJ e,AJ j];exact t.inj n (d n c e) m (d m B j)
  .intro n c;rw[Cv];by_cases e:n=ns[i]
   .rw[AL e];exact l.free r
   .rw[AJ e];rcases AW.mp c with z | z
    .exact t.fr n z
    .exact absurd (AF.mp z) e
  .intro n c;rw[Cv];by_cases e:n=ns[i]
   .rw[AL e,B6 g.symm,A9]
   .rw[AJ e];rcases AW.mp c with z | z
    .rw[B6 (y n z),B6 (B2 (o n z) r)];exact o n z
    .exact absurd (AF.mp z) e
  .intro n c;rw[Cv];by_cases e:n=ns[i]
   .rw[AL e];exact g.symm
   .rw[AJ e];rcases AW.mp c with z | z
    .exact y n z
    .exact absurd (AF.mp z) e
 .rintro σ f ⟨_,b,l,w,C,t,o,y⟩;rw[AB]at *;rw[B_]at *;exact q σ b f l w t o y
def C3(a:A1 JF)(n:Str):A1 Str:=(a.filter fun q=>decide (q.2.2=n)).map fun q=>q.2.1
def E2(a:A1 JF)(n:Str):A1 Str:=(a.filter fun q=>decide (q.2.1=n)).map fun q=>q.2.2
def Bm(a:A1 JF)(q:JF)(n:Str):C3 (a ++ [q]) n=C3 a n ++(if q.2.2=n then [q.2.1]else []):=by
 unfold C3;rw[DU,AO];by_cases e:q.2.2=n
 .rw[AL e,DL,AL (BB e)];rfl
 .rw[AJ e,DL,AJ (by simp[e])];rfl
def Er(a:A1 JF)(q:JF)(n:Str):E2 (a ++ [q]) n=E2 a n ++(if q.2.1=n then [q.2.2]else []):=by
 unfold E2;rw[DU,AO];by_cases e:q.2.1=n
 .rw[AL e,DL,AL (BB e)];rfl
 .rw[AJ e,DL,AJ (by simp[e])];rfl
def wf(a b c d:A3):A1 (Str×V):=[("names",.ref a),("strikes",.ref b),("strikers_by_name",.ref c),("struck_by_name",.ref d)]
structure S1(ns:A1 Str)(qs:A1 JF):Prop where
 nd:ns.Nodup
 len:ns.length<=100
 srt:ns.Pairwise RA
 mem:∀q∈qs,q.2.1∈ns/\q.2.2∈ns
 ndq:(qs.map fun q=>q.2).Nodup
 lenq:qs.length<=200
 srq:qs.Pairwise SZ
structure JX(C:A3)(H:Hp)(x:A3)(ns:A1 Str)(qs:A1 JF):Prop where
 ok:S1 ns qs
 ex:∃dx a b c d kc kd,H x=some (.ins C dx (wf a b c d))/\H a=some (.lst (ns.map V.str))/\H b=some (.lst (K3 qs))/\(∀q∈qs,E6 H q)/\H c=some (.dK kc)/\H d=some (.dK kd) /\
  (∀n∈ns,∃l,S6 kc (.inr n)=some (.ref l)/\H l=some (.lst ((C3 qs n).map V.str)))/\∀n∈ns,∃l,S6 kd (.inr n)=some (.ref l)/\H l=some (.lst ((E2 qs n).map V.str))
section
variable{P:A7}{w:HW}{K:PySem.W.Frag}{mg:Str->A5 A2}{base:H_}
theorem KH:HY ["self", "names", "strikes", "one", "other"] ["self", "names", "strikes"] (B7 MF):=KI
def Jn(K:PySem.W.Frag)(C:A3):Sp:=fun g H Q _=>∃(x h n:A3) (b:A1 Str) (a:A3) (c:A1 JF),g = [.ref x,.ref n,.ref a]/\H x=some (.ins C h [])/\H n=some (.lst (b.map V.str))/\JY b /\
 H a=some (.lst (K3 c))/\(∀q∈c,E6 H q)/\MZ b c/\∀d e f,d.Perm b->d.Pairwise RA->e.Perm c->e.Pairwise SZ->Sm [x] H f->JX C f x d e->Q .non f
theorem Hw(T:Tx K mg):IG P w K mg base IW 3 T.bt T.bs ["self", "names", "strikes"] (Jn K T.ah):=by
 refine T.bu.o1 KH fun cdv A outer s H vs Q E hr h=>?_
 .obtain⟨x,g,n,ss,a,ps,rfl,hx,hS,hN,hP,hI,hO,k⟩:=h;have hu:=X5 hr;refine⟨_,(B3 (J9 (C9 T.aY (Bu T) (Rm hr) (A8 (pv 1) B1)))
   (B3 (J9 (C9 T.aS (t8 T) (Rm hr) (A8 (pv 1) (A8 (pv 2) B1))))
   (B3 (Q_ K (pv 0) (G0 (Kr K) T.bk At (A8 (pv 1) B1)))
   (B3 (Q_ K (pv 0) (G0 (Ur K) T.bk At (A8 (pv 2) B1)))
   (B3 (Q_ K (pv 0) (Rq (N':=["name"]) (cap:=[none]) (cl:=[]) (P3 trivial trivial) rfl (OE K (OT K (pv 0))) (fun _ _ _ _=>by exact⟨(MX 0),K1,(pv 0),(I9 B1)⟩)))
   (B3 (Q_ K (pv 0) (Rq (N':=["name"]) (cap:=[none]) (cl:=[]) (P3 trivial trivial) rfl (OE K (OT K (pv 0))) (fun _ _ _ _=>by exact⟨(MX 0),K1,(pv 0),(I9 B1)⟩)))
   (B5 (O4 PassesOwn.never rfl (OE K (OT K (pv 0))) (QA K (n:=2) (C8 (D0 (i:=3) KH.nd rfl (.inl rfl)) (C8 (D0 (i:=4) KH.nd rfl (.inl rfl)) M9)))
   (B3 (J9 (Bs K PySem.F.plainAttrs_list PySem.F.slot_list_append PySem.F.type_list_append M6 (K7 hu (OT K (pv 0)) (pv 4) (fun _ _=>rfl)) (A8 (pv 3) B1)))
   (B5 (J9 (Bs K PySem.F.plainAttrs_list PySem.F.slot_list_append PySem.F.type_list_append M6 (K7 hu (OT K (pv 0)) (pv 3) (fun _ _=>rfl)) (A8 (pv 4) B1))))))))))))),?_⟩
  obtain⟨hN1,hN2,hN3⟩:=id hN;obtain⟨hO1,hO2,hO3⟩:=id hO;refine B8 fun Z1 hZ1=>?_;refine A6 rfl ⟨n,ss,rfl,IA.of hS,hN,fun H1 s1=>?_⟩;refine hZ1 _ _ (B8 fun Z2 hZ2=>?_);refine A6 rfl (A6 rfl ⟨n,ss,a,ps,rfl,IA.of (s1 _ _ hS),IA.of (s1 _ _ hP),P0 s1 hI,hO,fun H2 s2=>?_⟩);refine hZ2 _ _ (B8 fun Z3 hZ3=>?_);have s12:=s1.trans s2;refine A6 rfl ⟨n,ss,rfl,IA.of (s12 _ _ hS),fun j p hl1 p1 w1=>?_⟩;have M:x≠j:=B2 (s12 _ _ hx) hl1;refine A6 rfl ⟨x,T.ah,g,[],rfl,by rw[B6 M];exact s12 _ _ hx,T.ax,T.aV,by decide,?_⟩;have hxa:a≠x:=P2 hP hx (by intro z;cases z);have k3:Sm [x] H (HX (HX H2 j (.lst (p.map V.str))) x (.ins T.ah g (Q1 "names" (.ref j) []))):=(Sm.new s12.sm hl1).upd (by simp);have e3:(HX (HX H2 j (.lst (p.map V.str))) x (.ins T.ah g (Q1 "names" (.ref j) []))) j=some (.lst (p.map V.str)):=by rw[B6 M.symm,A9]
  generalize hH3:HX (HX H2 j (.lst (p.map V.str))) x (.ins T.ah g (Q1 "names" (.ref j) []))=H3 at k3 e3⊢;refine hZ3 _ _ (B8 fun Z4 hZ4=>?_);have x3:H3 x=some (.ins T.ah g [("names",.ref j)]):=by rw[<-hH3,A9];rfl
  have r:∀{b:A3},b≠x->b∉[x]:=fun h z=>h (AF.mp z);have U:∀q∈ps,E6 H3 q:=fun q D=>k3 _ _ (hI q D) (r (P2 (hI q D) hx (by intro z;cases z)));refine A6 rfl ⟨a,ps,rfl,IA.of (k3 _ _ hP (r hxa)),U,fun t y hl2 p2 w2=>?_⟩;have N:x≠t:=B2 x3 hl2;refine A6 rfl ⟨x,T.ah,g,[("names",.ref j)],rfl,by rw[B6 N];exact x3,T.ax,T.bj,by simp,?_⟩;have k4:Sm [x] H3 (HX (HX H3 t (.lst (K3 y))) x (.ins T.ah g (Q1 "strikes" (.ref t) [("names",.ref j)]))):=(Sm.new (Sm.refl _ _) hl2).upd (by simp);have e4:(HX (HX H3 t (.lst (K3 y))) x (.ins T.ah g (Q1 "strikes" (.ref t) [("names",.ref j)]))) t=some (.lst (K3 y)):=by rw[B6 N.symm,A9]
  have R:(HX (HX H3 t (.lst (K3 y))) x (.ins T.ah g (Q1 "strikes" (.ref t) [("names",.ref j)]))) x=some (.ins T.ah g [("names",.ref j),("strikes",.ref t)]):=by rw[A9];rfl
  refine hZ4 _ _ ?_;show SR _ _ _ _ (HX (HX H3 t (.lst (K3 y))) x (.ins T.ah g (Q1 "strikes" (.ref t) [("names",.ref j)])));generalize HX (HX H3 t (.lst (K3 y))) x (.ins T.ah g (Q1 "strikes" (.ref t) [("names",.ref j)]))=H4 at k4 e4 R⊢;have f4:H4 j=some (.lst (p.map V.str)):=k4 _ _ e3 (r M.symm);have u:∀q∈y,E6 H4 q:=fun q D=>k4 _ _ (U q (p2.mem_iff.mp D)) (r (P2 (U q (p2.mem_iff.mp D)) x3 (by intro z;cases z)));have ndn:p.Nodup:=p1.nodup_iff.mpr hN2;have lnn:p.length<=1000:=by rw[p1.length_eq];omega
  refine B8 fun Z5 hZ5=>?_;refine A6 rfl ⟨x,T.ah,g,_,A6 rfl ⟨R,T.ax,T.aV,rfl,j,rfl,⟨_,IA.of f4⟩,fun c hc=>Wm (K:=K) (NR (IA.of f4)) ⟨_,rfl⟩ ndn lnn hc fun _ I H5 s5 e5 D5 c5 n5=>?_⟩⟩;have x5:=s5 _ _ R;refine A6 rfl ⟨x,T.ah,g,A6 rfl ⟨x5,T.ax,T.aJ,by simp,?_⟩⟩;have k6:Sm [x] H5 (HX H5 x (.ins T.ah g (Q1 "strikers_by_name" (.ref c) [("names",.ref j),("strikes",.ref t)]))):=(Sm.refl _ _).upd (by simp);have x6:(HX H5 x (.ins T.ah g (Q1 "strikers_by_name" (.ref c) [("names",.ref j),("strikes",.ref t)]))) x=some (.ins T.ah g [("names",.ref j),("strikes",.ref t),("strikers_by_name",.ref c)]):=by rw[A9];rfl
  generalize HX H5 x (.ins T.ah g (Q1 "strikers_by_name" (.ref c) [("names",.ref j),("strikes",.ref t)]))=H6 at k6 x6⊢;refine hZ5 _ _ (B8 fun Z6 hZ6=>?_);have W:∀{b:A3} {o:HO},H4 b=some o->b≠x->H6 b=some o:=fun e B=>k6 _ _ (s5 _ _ e) (r B);have f6:=W f4 M.symm;have g6:=W e4 N.symm;have c6:H6 c=some (.dK I):=k6 _ _ e5 (r (B2 R hc).symm);have cl6:∀n∈p,H6 (la I n)=some (.lst []):=fun n f=>k6 _ _ (c5 n f) (r (B2 R (D5.fr n f)).symm);refine A6 rfl ⟨x,T.ah,g,_,A6 rfl ⟨x6,T.ax,T.aV,rfl,j,rfl,⟨_,IA.of f6⟩,fun d hd=>Wm (K:=K) (NR (IA.of f6)) ⟨_,rfl⟩ ndn lnn hd fun _ L H7 s7 e7 D7 c7 n7=>?_⟩⟩;have x7:=s7 _ _ x6;refine A6 rfl ⟨x,T.ah,g,A6 rfl ⟨x7,T.ax,T.aO,by simp,?_⟩⟩;have k8:Sm [x] H7 (HX H7 x (.ins T.ah g (Q1 "struck_by_name" (.ref d) [("names",.ref j),("strikes",.ref t),("strikers_by_name",.ref c)]))):=(Sm.refl _ _).upd (by simp);have x8:(HX H7 x (.ins T.ah g (Q1 "struck_by_name" (.ref d) [("names",.ref j),("strikes",.ref t),("strikers_by_name",.ref c)]))) x=some (.ins T.ah g (wf j t c d)):=by rw[A9];rfl
  generalize HX H7 x (.ins T.ah g (Q1 "struck_by_name" (.ref d) [("names",.ref j),("strikes",.ref t),("strikers_by_name",.ref c)]))=H8 at k8 x8⊢;refine hZ6 _ _ ?_;have O:∀{b:A3} {o:HO},H6 b=some o->b≠x->H8 b=some o:=fun e B=>k8 _ _ (s7 _ _ e) (r B);have f8:=O f6 M.symm;have g8:=O g6 N.symm;have c8:=O c6 (B2 R hc).symm;have d8:H8 d=some (.dK L):=k8 _ _ e7 (r (B2 x6 hd).symm);have cl8:∀n∈p,H8 (la I n)=some (.lst []):=fun n f=>O (cl6 n f) (B2 R (D5.fr n f)).symm;have dl8:∀n∈p,H8 (la L n)=some (.lst []):=fun n f=>k8 _ _ (c7 n f) (r (B2 x6 (D7.fr n f)).symm);have pin8:∀q∈y,E6 H8 q:=fun q D=>O (W (u q D) (P2 (u q D) R (by intro z;cases z))) (P2 (u q D) R (by intro z;cases z));have dif:∀n∈p,∀m∈p,la I n≠la L m:=fun n f m G=>B2 (cl6 n f) (D7.fr m G);have C:∀{b:A3} {o:HO},H4 b=some o->b≠x->(∀n∈p,b≠la I n)/\∀n∈p,b≠la L n:=fun e B=>⟨fun n f=>B2 e (D5.fr n f),fun n f=>B2 (W e B) (D7.fr n f)⟩;have kall:Sm [x] H H8:=fun b o e B=>by
   have hb':b≠x:=fun z=>B (by simp[z]);exact O (W (k4 _ _ (k3 _ _ e B) B) hb') hb'
  have odif:∀{b:A3} {o:HO},H b=some o->b≠x->(∀n∈p,b≠la I n)/\∀n∈p,b≠la L n:=fun e B=>C (k4 _ _ (k3 _ _ e (r B)) (r B)) B;have X:(∀n∈p,x≠la I n)/\∀n∈p,x≠la L n:=⟨fun n f=>B2 R (D5.fr n f),fun n f=>B2 x6 (D7.fr n f)⟩;have cdif:(∀n∈p,c≠la I n)/\∀n∈p,c≠la L n:=⟨fun n f=>(n5 n f).symm,fun n f=>B2 c6 (D7.fr n f)⟩;have Y:(∀n∈p,d≠la I n)/\∀n∈p,d≠la L n:=⟨fun n f=>(B2 (cl6 n f) hd).symm,fun n f=>(n7 n f).symm⟩;refine⟨_,rfl,x,T.ah,g,_,_,rfl,x8,T.ax,T.bj,rfl,t,rfl,⟨_,IA.of g8⟩,S4 (NR (IA.of g8)) (fun i σ S=>(∃v3 v4,σ = [some (.ref x),some (.ref n),some (.ref a),v3,v4]) /\
   (∀b o,H8 b=some o->((∀n∈p,b≠la I n)/\∀n∈p,b≠la L n)->S b=some o)/\(∀n∈p,S (la I n)=some (.lst ((C3 (y.take i) n).map V.str)))/\∀n∈p,S (la L n)=some (.lst ((E2 (y.take i) n).map V.str)))
   ⟨⟨_,_,rfl⟩,fun b o e _=>e,cl8,dl8⟩ ?_ ?_ ?_⟩
  .rintro i σ S _ ⟨_,J,_⟩ o e;exact J _ _ e (C e4 N.symm)
  .rintro i σ S v hv ⟨⟨v3,v4,rfl⟩,J,h2,h3⟩ D1 hD1 _;unfold K3 at hv;rw[AH]at hv;cases D:y[i]? with
   | none=>rw[D]at hv;cases hv
   | some q =>
    rw[D]at hv;cases hv;have G:q∈y:=AK D;have hq9:E6 S q:=J _ _ (pin8 q G) (C (u q G) (P2 (u q G) R (by intro z;cases z)));obtain⟨m1,Z⟩:=hO1 q (p2.mem_iff.mp G);have m1:q.2.1∈p:=p1.mem_iff.mpr m1;have Z:q.2.2∈p:=p1.mem_iff.mpr Z;have hlen:∀l:A1 JF,l.length<=200->∀n,(C3 l n).length<=200/\(E2 l n).length<=200:=fun l hl n=>by
     unfold C3 E2;rw[AB,AB];exact⟨Nat.le_trans (BT ..) hl,Nat.le_trans (BT ..) hl⟩
    have hl200:(y.take i).length<=200:=by
     rw[AS];have:=p2.length_eq;omega
    have x9:S x=some (.ins T.ah g (wf j t c d)):=J _ _ x8 X;refine⟨q.1,A6 rfl ⟨IZ.of hq9,rfl,_,A6 rfl (B9 rfl rfl ?_)⟩⟩;refine A6 rfl ⟨x,T.ah,g,_,A6 rfl ⟨x9,T.ax,T.aJ,rfl,A6 rfl ⟨c,.ref (la I q.2.2),rfl,by rw[<-D5.val _ Z];exact NU.k (k:=Sum.inr q.2.2) (J _ _ c8 cdif),.inl ⟨rfl,_,IA.of (h2 _ Z)⟩,A6 rfl ⟨_,B9 rfl rfl ⟨h2 _ Z,?_,?_⟩⟩⟩⟩⟩
    .rw[AB,sizeLine_eq];have:=(hlen _ hl200 q.2.2).1;omega
    have x10:(HX S (la I q.2.2) (.lst ((C3 (y.take i) q.2.2).map V.str ++ [.str q.2.1]))) x=some (.ins T.ah g (wf j t c d)):=by rw[B6 (X.1 _ Z)];exact x9
    have d10:(HX S (la I q.2.2) (.lst ((C3 (y.take i) q.2.2).map V.str ++ [.str q.2.1]))) d=some (.dK L):=by rw[B6 (Y.1 _ Z)];exact J _ _ d8 Y
    have l10:(HX S (la I q.2.2) (.lst ((C3 (y.take i) q.2.2).map V.str ++ [.str q.2.1]))) (la L q.2.1)=some (.lst ((E2 (y.take i) q.2.1).map V.str)):=by rw[B6 (dif _ Z _ m1).symm];exact h3 _ m1
    refine A6 rfl ⟨x,T.ah,g,_,A6 rfl ⟨x10,T.ax,T.aO,rfl,A6 rfl ⟨d,.ref (la L q.2.1),rfl,by rw[<-D7.val _ m1];exact NU.k (k:=Sum.inr q.2.1) d10,.inl ⟨rfl,_,IA.of l10⟩,A6 rfl ⟨_,B9 rfl rfl ⟨l10,?_,?_⟩⟩⟩⟩⟩
    .rw[AB,sizeLine_eq];have:=(hlen _ hl200 q.2.1).2;omega
    refine hD1 _ _ ⟨⟨_,_,rfl⟩,fun b o e B=>?_,fun m G=>?_,fun m G=>?_⟩
    .rw[B6 (B.2 _ m1),B6 (B.1 _ Z)];exact J b o e B
    .rw[B6 (dif m G _ m1),IQ D,Bm];by_cases e:q.2.2=m
     .rw[<-e,A9,AL rfl,AO];rfl
     .rw[AJ e,CH,B6 (fun z=>e (D5.inj _ G _ Z z).symm)];exact h2 m G
    .rw[IQ D,Er];by_cases e:q.2.1=m
     .rw[<-e,A9,AL rfl,AO];rfl
     .rw[AJ e,CH,B6 (fun z=>e (D7.inj _ G _ m1 z).symm),B6 (dif _ Z _ G).symm];exact h3 m G
  .rintro σ S ⟨_,J,h2,h3⟩;have hlq:(K3 y).length=y.length:=by unfold K3;rw[AB]
   rw[hlq,B_]at h2 h3;refine k p y S p1 w1 p2 w2 (fun b o e B=>?_) ⟨⟨ndn,by rw[p1.length_eq];exact hN3,w1,fun q D=>⟨p1.mem_iff.mpr (hO1 q (p2.mem_iff.mp D)).1,p1.mem_iff.mpr (hO1 q (p2.mem_iff.mp D)).2⟩,(p2.map _).nodup_iff.mpr hO2,by rw[p2.length_eq];exact hO3,w2⟩,g,j,t,c,d,I,L,J _ _ x8 X,J _ _ f8 (C f4 M.symm),J _ _ g8 (C e4 N.symm),fun q G=>J _ _ (pin8 q G) (C (u q G) (P2 (u q G) R (by intro z;cases z))),J _ _ c8 cdif,J _ _ d8 Y,fun n f=>⟨_,D5.val n f,h2 n f⟩,fun n f=>⟨_,D7.val n f,h3 n f⟩⟩;have hb':b≠x:=fun z=>B (by simp[z]);exact J _ _ (kall b o e B) (odif e hb')
end
def JX.same{C:A3}{H H':Hp}{x:A3}{ns:A1 Str}{g:A1 JF}(h:JX C H x ns g)(s:F8 H H'):JX C H' x ns g:=by
 obtain⟨i,j,a,b,c,d,k,m,o,p,q,r,t,u,w,y⟩:=h;exact⟨i,j,a,b,c,d,k,m,s _ _ o,s _ _ p,s _ _ q,P0 s r,s _ _ t,s _ _ u,fun n f=>let⟨l,v,e⟩:=w n f;⟨l,v,s _ _ e⟩,fun n f=>let⟨l,v,e⟩:=y n f;⟨l,v,s _ _ e⟩⟩
section
variable{P:A7}{w:HW}{K:PySem.W.Frag}{mg:Str->A5 A2}{base:H_}
theorem u0:HY ["self"] ["self"] (B7 L_):=KI
def Gx(C:A3):Sp:=fun b H Q _=>∃(x:A3) (a:A1 Str) (c:A1 JF),b = [.ref x]/\JX C H x a c/\∀l,H l=none->Q (.ref l) (HX H l (.lst (a.map V.str)))
theorem r9(T:Tx K mg):IG P w K mg base IW 1 T.aE.f T.aE.fd ["self"] (Gx T.ah):=by
 refine T.aE.F.o1 u0 fun g A e s H m Q E n h=>?_
 .obtain⟨x,o,p,rfl,⟨q,i,a,b,c,d,r,t,j,l,u,v,y,z,B,C⟩,k⟩:=h;refine⟨_,(B5 (C1 (q9 (Ao K) T.aX X4 (A8 (OT K (pv 0)) B1)))),?_⟩;exact⟨_,rfl,x,T.ah,i,_,_,rfl,j,T.ax,T.aV,rfl,a,_,rfl,.inl (IA.of l),k⟩
theorem u7:HY ["self", "name"] ["self", "name"] (B7 Le):=KI
def Hr(C:A3):Sp:=fun b H Q _=>∃(x:A3) (n:Str) (a:A1 Str) (c:A1 JF),b = [.ref x,.str n]/\JX C H x a c/\n∈a/\Q .non H
theorem U2(T:Tx K mg):IG P w K mg base IW 1 T.as.f T.as.fd ["self", "name"] (Hr T.ah):=by
 refine T.as.F.o1 u7 fun g A e s H o Q E p h=>?_
 .obtain⟨x,n,q,r,rfl,⟨t,i,a,b,c,d,u,v,j,l,y,z,B,C,D,G⟩,m,k⟩:=h;refine⟨_,(B5 (I0 (C2 (w4 K) (pv 1) (OT K (pv 0)) rfl) (B5 Eg) C5)),?_⟩;refine A6 rfl (A6 rfl ⟨x,T.ah,i,_,A6 rfl ⟨j,T.ax,T.aV,rfl,V9 (.inl (IA.of l)) ⟨_,rfl,?_⟩⟩⟩);rw[BB m];exact X1 k
theorem Ee:HY ["self", "name"] ["self", "name"] (B7 NG):=KI
def Pp(C:A3):Sp:=fun c H Q _=>∃(x:A3) (n:Str) (a:A1 Str) (b:A1 JF),c = [.ref x,.str n]/\JX C H x a b/\n∈a/\∀l,H l=none->Q (.ref l) (HX H l (.lst ((E2 b n).map V.str)))
theorem Ev(T:Tx K mg):IG P w K mg base IW 2 T.aR.f T.aR.fd ["self", "name"] (Pp T.ah):=by
 refine T.aR.F.o1 Ee fun r A g s H C Q E i h=>?_
 .obtain⟨x,n,t,u,rfl,j,o,k⟩:=h;have y:=X5 i;obtain⟨D,p,a,b,c,d,G,I,q,J,L,M,N,z,O,B⟩:=id j;refine⟨_,(B3 (J9 (E1 (pv 0) T.ax T.as.m (U2 T) (Rm i) T.as.b .nil M0 (A8 (pv 1) B1)))
   (B5 (C1 (q9 (Ao K) T.aX X4 (A8 (K7 y (OT K (pv 0)) (pv 1) (fun _ _=>rfl)) B1))))),?_⟩
  refine A6 rfl ⟨x,p,A6 rfl ⟨q,rfl,A6 rfl ⟨x,n,t,u,rfl,j,o,?_⟩⟩⟩;obtain⟨l,v,e⟩:=B n o;exact⟨_,rfl,x,T.ah,p,_,_,rfl,q,T.ax,T.aO,rfl,_,rfl,d,_,rfl,by rw[<-v];exact NU.k (k:=Sum.inr n) z,l,_,rfl,.inl (IA.of e),k⟩
theorem Bo:HY ["self", "name"] ["self", "name"] (B7 ME):=KI
def Hy(C:A3):Sp:=fun c H Q _=>∃(x:A3) (n:Str) (a:A1 Str) (b:A1 JF),c = [.ref x,.str n]/\JX C H x a b/\n∈a/\∀l,H l=none->Q (.ref l) (HX H l (.lst ((C3 b n).map V.str)))
theorem Bl(T:Tx K mg):IG P w K mg base IW 2 T.aH.f T.aH.fd ["self", "name"] (Hy T.ah):=by
 refine T.aH.F.o1 Bo fun r A g s H C Q E i h=>?_
 .obtain⟨x,n,t,u,rfl,j,o,k⟩:=h;have y:=X5 i;obtain⟨D,p,a,b,c,d,G,I,q,J,L,M,z,N,B,O⟩:=id j;refine⟨_,(B3 (J9 (E1 (pv 0) T.ax T.as.m (U2 T) (Rm i) T.as.b .nil M0 (A8 (pv 1) B1)))
   (B5 (C1 (q9 (Ao K) T.aX X4 (A8 (K7 y (OT K (pv 0)) (pv 1) (fun _ _=>rfl)) B1))))),?_⟩
  refine A6 rfl ⟨x,p,A6 rfl ⟨q,rfl,A6 rfl ⟨x,n,t,u,rfl,j,o,?_⟩⟩⟩;obtain⟨l,v,e⟩:=B n o;exact⟨_,rfl,x,T.ah,p,_,_,rfl,q,T.ax,T.aJ,rfl,_,rfl,c,_,rfl,by rw[<-v];exact NU.k (k:=Sum.inr n) z,l,_,rfl,.inl (IA.of e),k⟩
theorem OK:HY ["_law_cell", "_law_k", "_law_m"] ["_law_cell", "_law_k"] (B7 OY):=KI
def zAa:Sp:=fun b H Q _=>∃(a k:Int),b = [.int a,.int k]/\0<=k/\k<=2000000/\∀m:Int,0<=m->m<1999999973->Q (.int m) H
theorem Cz(T:Tx K mg):IG P w K mg base IW 1 T.a8.f T.a8.fd ["_law_cell", "_law_k"] zAa:=by
 refine T.a8.F.o1 OK fun d A b s H e Q E g h=>?_
 .obtain⟨a,k,rfl,j,l,q⟩:=h;refine⟨_,(B3 (C6 (i:=2) OK.nd rfl (.inl rfl) (C4 Fk (C4 Cs (C4 m9 (C4 m9 (C4 Fk (pv 0) B4) (C4 Cs (C4 Cs (pv 1) (pv 1)) B4)) B4) B4) B4))
   (B5 (C1 (C4 Fk (C4 Cs (pv 2) (pv 2)) B4)))),?_⟩
  refine A6 rfl (B9 rfl rfl ⟨(show(0:Int)<2147483629 by decide),A6 rfl (A6 rfl (B9 rfl rfl ⟨.inl ⟨by omega,by omega⟩,B9 rfl rfl ⟨.inr ⟨by decide,by decide⟩,B9 rfl rfl (B9 rfl rfl (B9 rfl rfl ⟨.inr ⟨by decide,by decide⟩,B9 rfl rfl ⟨(show(0:Int)<2147483647 by decide),?_⟩⟩))⟩⟩))⟩);generalize c:(a % 2147483629+k*k*7919+11)*48271 % 2147483647=m;have n:0<=m:=by rw[<-c];exact GE _ (by decide)
  have o:m<2147483647:=by rw[<-c];exact FC _ (by decide)
  exact⟨_,rfl,_,rfl,_,_,rfl,rfl,.inl ⟨by omega,by omega⟩,_,_,rfl,rfl,(show(0:Int)<1999999973 by decide),q _ (GE _ (by decide)) (FC _ (by decide))⟩
def II(H:Hp)(p:A3)(c:Int):Prop:=∃a b:Int,H p=some (.lst [.int a,.int b,.int c])/\0<=c
theorem II.isS{H:Hp}{p:A3}{c:Int}(h:II H p c):(H p).isSome=true:=by
 obtain⟨_,_,e,_⟩:=h;rw[e];rfl
theorem II.get{H:Hp}{p:A3}{c:Int}(h:II H p c):H p=some ((H p).get h.isS):=(Option.some_get _).symm
theorem II.cast{H:Hp}{p:A3}{c a:Int}(h:II H p c)(e:c=a):II H p a:=e▸h
theorem II.upd{H:Hp}{p a:A3}{c:Int}{o:HO}(h:II H p c)(n:p≠a):II (L2.HX H a o) p c:=by
 obtain⟨x,y,e,z⟩:=h;exact⟨x,y,by rw[B6 n];exact e,z⟩
theorem II.same{H H':Hp}{p:A3}{c:Int}(h:II H p c)(s:F8 H H'):II H' p c:=by
 obtain⟨x,y,e,z⟩:=h;exact⟨x,y,s _ _ e,z⟩
theorem zEv(c:Bool):-(2^64) <(if c=true then(1:Int)else 0)/\(if c=true then(1:Int)else 0)<2^64:=by cases c<;>exact⟨by decide,by decide⟩
theorem NX:HY ["_law_script", "_law_k", "_law_cell"] ["_law_script", "_law_k"] (B7 OO):=KI
def Xs(K:PySem.W.Frag):Sp:=fun b H Q _=>∃(p:A3) (c:A1 Int) (k:Nat),b = [.ref p,.int (k:Int)]/\IA K H p (c.map V.int)/\k<=1000/\∀l a,H l=none->F8 H a->II a l 0->Q (.ref l) a
theorem Il(T:Tx K mg):IG P w K mg base IW 1 T.ba.f T.ba.fd ["_law_script", "_law_k"] (Xs K):=by
 refine T.ba.F.o1 NX fun o A g s H t Q E u h=>?_
 .obtain⟨p,d,k,rfl,n,v,q⟩:=h;refine⟨_,(B3 (C6 (i:=2) NX.nd rfl (.inl rfl) (Tu (C2 zCa (pv 1) (G0 (N9 K) T.aq K9 (A8 (pv 0) B1)) (D6 _)) (D4 (KR K) (pv 0) (pv 1) (fun _ _=>rfl)) B4))
   (B5 (C1 (I9 (A8 (C4 Cs (G0 Lk T.bA Vz (A8 (pv 2) B1)) (q9 Bg T.br Rk (A8 (P1 zDj (G0 Lk T.bA Vz (A8 (pv 2) B1)) (C4 zCu B4 B4) (D6 _)) B1))) (A8 (C4 m9 (pv 2) (C4 Cs B4 (pv 1))) (A8 B4 B1))))))),?_⟩
  refine A6 rfl (A6 rfl (B9 (a:=p) rfl (.inl n) (B9 rfl rfl (A6 rfl ?_))));have j:decide ((k:Int) <((d.map V.int).length:Int))=true->∃c:Int,PL (d.map V.int) (k:Int)=some (.int c):=fun b=>by
   have b:(k:Int) <((d.map V.int).length:Int):=BZ b;rw[AB]at b;have m:d[k]?=some (d[k]'(by omega)):=AC (by omega);exact⟨_,E7 (by rw[AH,m];rfl)⟩
  refine T7 (fun b=>?_) (fun b=>?_)
  .obtain⟨c,r⟩:=j b;refine A6 rfl (A6 rfl ⟨p,_,B9 rfl rfl ⟨n,r,?_⟩⟩)
   (repeat first | refine⟨_,rfl,?_⟩ | refine⟨_,_,rfl,rfl,?_⟩)
   refine⟨⟨by decide,by decide,by decide⟩,?_⟩
   (repeat first | refine⟨_,rfl,?_⟩ | refine⟨_,_,rfl,rfl,?_⟩)
   refine .inr ⟨_,rfl,?_⟩
   (repeat first | refine⟨_,rfl,?_⟩ | refine⟨_,_,rfl,rfl,?_⟩)
   refine⟨.inr ?_,?_⟩
   .exact zEv _
   (repeat first | refine⟨_,rfl,?_⟩ | refine⟨_,_,rfl,rfl,?_⟩)
   refine⟨.inl ⟨by decide,by decide⟩,?_⟩
   (repeat first | refine⟨_,rfl,?_⟩ | refine⟨_,_,rfl,rfl,?_⟩)
   exact⟨by show 3<=sizeLine;decide,fun l e=>q l _ e (F8.new e) ⟨_,_,A9,by decide⟩⟩
  .skip;(repeat first | refine⟨_,rfl,?_⟩ | refine⟨_,_,rfl,rfl,?_⟩)
   refine⟨⟨by decide,by decide,by decide⟩,?_⟩
   (repeat first | refine⟨_,rfl,?_⟩ | refine⟨_,_,rfl,rfl,?_⟩)
   refine .inr ⟨_,rfl,?_⟩
   (repeat first | refine⟨_,rfl,?_⟩ | refine⟨_,_,rfl,rfl,?_⟩)
   refine⟨.inr ?_,?_⟩
   .exact zEv _
   (repeat first | refine⟨_,rfl,?_⟩ | refine⟨_,_,rfl,rfl,?_⟩)
   refine⟨.inl ⟨by decide,by decide⟩,?_⟩
   (repeat first | refine⟨_,rfl,?_⟩ | refine⟨_,_,rfl,rfl,?_⟩)
   exact⟨by show 3<=sizeLine;decide,fun l e=>q l _ e (F8.new e) ⟨_,_,A9,by decide⟩⟩
theorem NW:HY ["_law_left_here", "_law_many", "_law_digit"] ["_law_left_here", "_law_many"] (B7 ON):=KI
def Yq:Sp:=fun e H Q _=>∃(p:A3) (c a:Int),e = [.ref p,.int a]/\II H p c/\c<=1000000/\0<a/\a<=1000000 /\
 ∀(d:Nat) b,(d:Int)<a->Sm [p] H b->II b p (c+1)->Q (.int (d:Int)) b
theorem D8(T:Tx K mg):IG P w K mg base IW 2 T.ak.f T.ak.fd ["_law_left_here", "_law_many"] Yq:=by
 refine T.ak.F.o1 NW fun u A o s H x Q E r h=>?_
 .obtain⟨p,c,j,rfl,⟨a,b,e,y⟩,z,k,B,q⟩:=h;refine⟨_,(B3 (Y3 (C4 m9 (D4 (KR K) (pv 0) B4 (fun _ _=>rfl)) B4) (Lv (pv 0) B4 w5))
   (B3 (I0 (C2 zAi (D4 (KR K) (pv 0) B4 (fun _ _=>rfl)) B4 (D6 _)) (B3 (C6 (i:=2) NW.nd rfl (.inl rfl) (C4 Fk (D4 (KR K) (pv 0) B4 (fun _ _=>rfl)) (pv 1)))
   (B3 (Y3 (C4 Qy (D4 (KR K) (pv 0) B4 (fun _ _=>rfl)) (pv 1)) (Lv (pv 0) B4 w5))
   (B5 (C1 (pv 2))))) C5)
   (B5 (C1 (C4 Fk (C4 Qy (C9 T.a8 (Cz T) (Rm r) (A8 (C9 T.a8 (Cz T) (Rm r) (A8 (D4 (KR K) (pv 0) B4 (fun _ _=>rfl)) (A8 (D4 (KR K) (pv 0) B4 (fun _ _=>rfl)) B1))) (A8 (C4 m9 (D4 (KR K) (pv 0) B4 (fun _ _=>rfl)) B4) B1))) B4) (pv 1)))))),?_⟩
  have t:∀d:Int,0<=d->d<j->∀l m,Q (.int d) (HX (HX H p (.lst [.int a,.int b,.int (c+1)])) p (.lst [.int l,.int m,.int (c+1)]))/\Q (.int d) (HX H p (.lst [.int l,.int m,.int (c+1)])):=fun d v g l m=>by
   obtain⟨n,rfl⟩:=Int.eq_ofNat_of_zero_le v;exact⟨q n _ g (((Sm.refl _ _).upd (by simp)).upd (by simp)) ⟨l,m,A9,by omega⟩,q n _ g ((Sm.refl _ _).upd (by simp)) ⟨l,m,A9,by omega⟩⟩
  refine A6 rfl ⟨p,_,B9 rfl rfl ⟨IA.of e,rfl,B9 rfl rfl (A6 rfl ⟨p,_,_,2,rfl,rfl,e,rfl,?_⟩)⟩⟩;refine A6 rfl ⟨p,_,B9 rfl rfl ⟨IA.of A9,rfl,B9 rfl rfl (A6 rfl ?_)⟩⟩;refine T7 (fun g=>?_) (fun g=>?_)
  .have g:(0:Int)<a:=BZ g;refine A6 rfl ⟨p,_,B9 rfl rfl ⟨IA.of A9,rfl,A6 rfl (B9 rfl rfl ⟨k,?_⟩)⟩⟩;refine A6 rfl ⟨p,_,B9 rfl rfl ⟨IA.of A9,rfl,A6 rfl (B9 rfl rfl ⟨⟨k,by omega⟩,A6 rfl ⟨p,_,_,0,rfl,rfl,A9,rfl,?_⟩⟩)⟩⟩;exact⟨_,rfl,(t _ (GE _ (by omega)) (FC _ k) _ _).1⟩
  .refine A6 rfl ⟨p,_,B9 rfl rfl ⟨IA.of A9,rfl,A6 rfl ⟨p,_,B9 rfl rfl ⟨IA.of A9,rfl,_,A6 rfl ⟨by omega,by omega,fun C D G=>?_⟩⟩⟩⟩⟩;refine A6 rfl ⟨p,_,B9 rfl rfl ⟨IA.of A9,rfl,B9 rfl rfl ⟨_,A6 rfl ⟨by omega,by omega,fun I J L=>?_⟩⟩⟩⟩;refine B9 rfl rfl ⟨⟨by decide,by decide⟩,A6 rfl (B9 rfl rfl ⟨k,?_⟩)⟩;exact(t _ (GE _ (by omega)) (FC _ k) _ _).2
end
def six{d n:Nat}(h:d<n):seqIndex? (d:Int) n=some d:=by
 unfold seqIndex?;simp;omega
def LU{α:Type}{l:A1 α}{i:Nat}{x:α}(h:l[i]?=some x):(x::l.eraseIdx i).Perm l:=ST.LU h
def Au{α β:Type}(f:α->β):∀(l:A1 α) (i:Nat),(l.map f).eraseIdx i =(l.eraseIdx i).map f
 | [],_=>rfl
 | _::_,0=>rfl
 | a::l,i+1=>by
  show f a ::(l.map f).eraseIdx i=f a ::(l.eraseIdx i).map f;rw[Au f l i]
def Uz{a b c:A1 Str}(d:(b++c).Perm a)(h1:∀x∈a,R8 x=true)(h2:a.Nodup)(f:a.length<=100):JY c:=by
 refine⟨fun x e=>h1 x (d.mem_iff.mp (BK _ e)),?_,?_⟩
 .exact(D_.mp (d.nodup_iff.mpr h2)).2.1
 .have:=d.length_eq;rw[AU]at this;omega
def Lj{c a b:A1 Str}{d:Nat}{x:Str}(e:(a++b).Perm c)(h:a[d]?=some x):(a.eraseIdx d ++(b ++ [x])).Perm c:=by
 refine List.Perm.trans ?_ e;rw[<-BI];refine CT.trans ?_;rw[<-BI];exact(LU h).append_right b
def JQ{p b:A3}{H H':Hp}{o:HO}(h:Sm [p] H H')(e:H b=some o)(n:b≠p):H' b=some o:=h b o e fun z=>n (AF.mp z)
section
variable{P:A7}{w:HW}{K:PySem.W.Frag}{mg:Str->A5 A2}{base:H_}
def PU:A1 Str:=["b", "aa", "zebra", "c", "quartzes", "ab", "m", "knows", "d", "mm", "likes", "z", "a", "ba", "abcdefgh", "y", "zz", "e", "x", "f"]
abbrev OW:Str := "b aa zebra c quartzes ab m knows d mm likes z a ba abcdefgh y zz e x f"
theorem Xw:Builtin.Str.partsBetween OW (Builtin.Str.occurrences OW " " 0 OW.length (OW.length+1)) (" ":Str).length=PU:=by decide +kernel
theorem PR:(∀x∈PU,R8 x=true)/\PU.Nodup:=⟨by decide +kernel,by decide +kernel⟩
theorem Jv:∃a:A1 Str,a.length=20/\(∀x∈a,R8 x=true)/\a.Nodup/\∀(Q:VK) (H:Hp),(∀l,H l=none->Q (.ref l) (HX H l (.lst (a.map V.str))))->Wn (.str OW) [.str " "] H Q :=
 ⟨PU,rfl,PR.1,PR.2,fun Q H h=>⟨OW, " ",PU,rfl,rfl,by decide +kernel,by decide +kernel,by decide +kernel,by decide +kernel,Xw,by decide +kernel,h⟩⟩
theorem KM:HY ["_law_left_here", "_law_many", "_law_some_here", "_law_names_here", "_law_k"] ["_law_left_here", "_law_many"] (B7 NZ):=KI
def Vn:Sp:=fun e H Q _=>∃(p:A3) (c:Int) (a:Nat),e = [.ref p,.int (a:Int)]/\II H p c/\c<=900000/\a<=20 /\
 ∀l (d:A1 Str) b,H l=none->Sm [p] H b->b l=some (.lst (d.map V.str))->d.length=a->JY d->II b p (c+a)->Q (.ref l) b
set_option maxHeartbeats 2000000 in
theorem Hg(T:Tx K mg):IG P w K mg base IW 3 T.a5.f T.a5.fd ["_law_left_here", "_law_many"] Vn:=by
 refine T.a5.F.o1 KM fun X A C s H vs Q E Y h=>?_
 .obtain⟨p,c,o,rfl,R,c1,m1,q⟩:=h;obtain⟨a0,b0,S,c0⟩:=id R;refine⟨_,(B3 (C6 (i:=2) KM.nd rfl (.inl rfl) (Bs K PySem.F.plainAttrs_str PySem.F.slot_str_split PySem.F.type_str_split Uu P5 (A8 P5 B1)))
   (B3 (C6 (i:=3) KM.nd rfl (.inl rfl) (I9 B1))
   (B3 (O4 PassesOwn.never rfl (Yk T.aQ (A8 (pv 1) B1)) (D0 (i:=4) KM.nd rfl (.inl rfl))
   (B5 (J9 (Bs K PySem.F.plainAttrs_list PySem.F.slot_list_append PySem.F.type_list_append M6 (pv 3) (A8 (Bs K PySem.F.plainAttrs_list PySem.F.slot_list_pop PySem.F.type_list_pop Kv (pv 2) (A8 (C9 T.ak (D8 T) (Rm Y) (A8 (pv 0) (A8 (G0 (N9 K) T.aq K9 (A8 (pv 2) B1)) B1))) B1)) B1)))))
   (B5 (C1 (pv 3)))))),?_⟩
  obtain⟨r,Z,a1,a2,t⟩:=Jv;refine⟨rfl,?_⟩;dsimp only[Ze,tC,Zp];refine t _ _ fun a v=>?_;refine⟨CI _,fun b D=>?_⟩;have j:H b=none:=(F8.new v).free D;have k:a≠b:=B2 A9 D;have l:p≠a:=B2 S v;have m:p≠b:=B2 S j;refine A6 rfl (A6 rfl ⟨by omega,by omega,?_⟩);rw[CS];refine Q2 (fun i σ n=>(∃G,σ = [some (.ref p),some (.int (o:Int)),some (.ref a),some (.ref b),G])/\Sm [p] H n/\II n p (c+i)/\∃e g:A1 Str,n a=some (.lst (e.map V.str))/\n b=some (.lst (g.map V.str))/\(e++g).Perm r/\g.length=i) ?_ ?_ ?_
  .refine⟨⟨_,rfl⟩,((F8.new v).trans (F8.new D)).sm,((R.cast (by omega)).upd l).upd m,r,[],by rw[B6 k,A9],by rw[A9];rfl,by rw[CH],rfl⟩
  .rintro i σ n hi ⟨⟨G,rfl⟩,I,J,e,g,x,y,z,B⟩ D1 L _;have U:e.length=20-i:=by
    have:=z.length_eq;rw[AU,B,Z]at this;omega
   refine A6 rfl ⟨.inl ⟨rfl,_,IA.of y⟩,A6 rfl ⟨.inl ⟨rfl,_,IA.of x⟩,A6 rfl (A6 rfl (B9 (a:=a) rfl (.inl (IA.of x)) (X0 (a:=p) (b:=c+i) rfl J (by omega) ?_ ?_ fun d H2 hd M L2=>?_)))⟩⟩
   .rw[AB];omega
   .rw[AB];omega
   rw[AB]at hd;have u:d<e.length:=by omega
   have W:e[d]?=some e[d]:=AC u;have N:=JQ M x l.symm;have O:=JQ M y m.symm;refine⟨a,_,_,d,.str e[d],rfl,rfl,N,by omega,by omega,six (by rw[AB];exact u),by rw[AH,W];rfl,b,B9 rfl rfl ⟨by rw[B6 k.symm];exact O,?_,?_⟩⟩
   .rw[AB,sizeLine_eq];omega
   refine L _ _ ⟨⟨_,rfl⟩,?_,?_,e.eraseIdx d,g ++ [e[d]],?_,?_,Lj z W,by rw[AU,B];rfl⟩
   .exact((I.trans M).updN v).updN j
   .exact((L2.cast (by omega)).upd l).upd m
   .rw[B6 k,A9,Au]
   .rw[A9,AO];rfl
  .rintro σ n ⟨⟨G,rfl⟩,I,J,e,g,x,y,z,B⟩;exact⟨_,rfl,q b g n j I y B (Uz z a1 a2 (by omega)) J⟩
end
def pd(k:Str×Str):PyData:=.tuple [.str k.1,.str k.2]
def y6{x:Str}(h:R8 x=true):PySem.PyData.strOk x=true:=by
 unfold R8 at h;rw[BH]at h;unfold PySem.PyData.strOk;rw[<-Array.all_toList,FW];intro c a;have:=(FW.mp h.2) c a;unfold Zb at this;rw[BH]at this;have:=BZ this.2;exact BB (by omega)
def Sg{K:PySem.W.Frag}{H:Hp}{t:A3}{k:Str×Str}(h:H t=some (.tup [.str k.1,.str k.2])):Rp K H (pd k) (.ref t):=by
 unfold pd;simp only[Rp,OG];exact⟨t,_,rfl,IZ.of h,_,_,rfl,rfl,_,_,rfl,rfl,rfl⟩
def Fq{K:PySem.W.Frag}{H:Hp}:∀{a:A1 JF},(∀q∈a,E6 H q)->OG K H (a.map fun q=>pd q.2) (K3 a)
 | [],_=>by simp[OG,K3]
 | q::r,h=>by
  show OG K H (pd q.2::r.map fun q=>pd q.2) (V.ref q.1::K3 r);simp only[OG];exact⟨_,_,rfl,Sg (h q (BP ..)),Fq fun z b=>h z (BF _ b)⟩
def Uk{K:PySem.W.Frag}{H:Hp}{l:A3}{a:A1 JF}(b:H l=some (.lst (K3 a)))(h:∀q∈a,E6 H q):Rp K H (.list (a.map fun q=>pd q.2)) (.ref l):=by
 simp only[Rp];exact⟨l,_,rfl,IA.of b,Fq h⟩
def zCj(a b:Str×Str):PyData.eqv (pd a) (pd b)=decide (a=b):=by
 unfold pd;rw[PyData.eqv,PyData.eqvAll,PyData.eqvAll,PyData.eqvAll,PyData.eqv,PyData.eqv];by_cases c:a.1=b.1
 .by_cases d:a.2=b.2
  .rw[BB (Prod.ext c d),c,d];simp
  .rw[BD fun z=>d (congrArg Prod.snd z)];simp[d]
 .rw[BD fun z=>c (congrArg Prod.fst z)];simp[c]
def Ex(k:Str×Str):∀a:A1 JF,((a.map fun q=>pd q.2).any fun z=>PyData.eqv z (pd k))=decide (k∈a.map fun q=>q.2)
 | []=>rfl
 | q::r=>by
  rw[A_,GH,Ex k r,zCj,A_];by_cases e:q.2=k
  .rw[BB e,Bool.true_or,BB (show k∈q.2::_ from by rw[<-e];exact BP ..)]
  .rw[BD e,Bool.false_or];by_cases h:k∈r.map fun q=>q.2
   .rw[BB h,BB (BF _ h)]
   .rw[BD h,BD fun z=>(AR.mp z).elim (fun z=>e z.symm) h]
def Wp{k:Str×Str}(h1:PySem.PyData.strOk k.1=true)(h2:PySem.PyData.strOk k.2=true):(pd k).canLay0=true:=by
 unfold pd;simp[PyData.canLay0,PyData.canLayAll0,h1,h2]
def Op:∀{a:A1 JF},(∀q∈a,PySem.PyData.strOk q.2.1=true/\PySem.PyData.strOk q.2.2=true)->PyData.canLayAll0 (a.map fun q=>pd q.2)=true
 | [],_=>rfl
 | q::r,h=>by
  rw[A_,PyData.canLayAll0,Wp (h q (BP ..)).1 (h q (BP ..)).2,Op fun z b=>h z (BF _ b)];rfl
def V6{K:PySem.W.Frag}{H:Hp}{t l:A3}{k:Str×Str}{a:A1 JF}{Q:VK}(c:H t=some (.tup [.str k.1,.str k.2]))(d:H l=some (.lst (K3 a)))(e:∀q∈a,E6 H q)
  (b:PySem.PyData.strOk k.1=true/\PySem.PyData.strOk k.2=true) (f:∀q∈a,PySem.PyData.strOk q.2.1=true/\PySem.PyData.strOk q.2.2=true) (q:Q (.bl (!decide (k∈a.map fun q=>q.2))) H):zDr K true (.ref t) (.ref l) H Q :=
 ⟨pd k,_,Sg c,.inl (Uk d e),⟨Wp b.1 b.2,by simp[pd,PyData.depth,PyData.depthAll]⟩,Op f,by rw[AL rfl,Ex];exact q⟩
structure FL(H:Hp)(l:A3)(ps:A1 JF)(ss:A1 Str):Prop where
 at_:H l=some (.lst (K3 ps))
 pin:∀q∈ps,E6 H q
 nm:∀q∈ps,q.2.1∈ss/\q.2.2∈ss
 nd:(ps.map fun q=>q.2).Nodup
def FL.sm{H H':Hp}{p l:A3}{c:Int}{a:A1 JF}{ss:A1 Str}(h:FL H l a ss)(L:II H p c)(n:l≠p)(s:Sm [p] H H'):FL H' l a ss:=by
 obtain⟨x,y,e,_⟩:=L;exact⟨JQ s h.at_ n,fun q b=>JQ s (h.pin q b) (P2 (h.pin q b) e (by intro z;cases z)),h.nm,h.nd⟩
def FL.new{H:Hp}{l t:A3}{o:HO}{a:A1 JF}{ss:A1 Str}(h:FL H l a ss)(n:H t=none):FL (HX H t o) l a ss :=
 ⟨by rw[B6 (B2 h.at_ n)];exact h.at_,fun q b=>by unfold E6;rw[B6 (B2 (h.pin q b) n)];exact h.pin q b,h.nm,h.nd⟩
def FL.put{H:Hp}{l t:A3}{a:A1 JF}{ss:A1 Str}{x y:Str}(h:FL H l a ss)(k:Nat)(c:H t=some (.tup [.str x,.str y]))(f:x∈ss)(g:y∈ss)(i:(x,y)∉a.map fun q=>q.2) :
  FL (HX H l (.lst ((K3 a).take k++V.ref t ::(K3 a).drop k))) l (a.take k ++(t,x,y)::a.drop k) ss:=by
 have d:(a.take k ++(t,x,y)::a.drop k).Perm ((t,x,y)::a):=by
  refine List.perm_middle.trans (List.Perm.cons _ ?_);rw[BR]
 have e:∀q∈a.take k ++(t,x,y)::a.drop k,q =(t,x,y)\/q∈a:=fun q b=>AR.mp (d.mem_iff.mp b);refine⟨?_,fun q b=>?_,fun q b=>?_,?_⟩
 .rw[A9];unfold K3;rw[AO,HU,A_,List.map_drop]
 .unfold E6;rcases e q b with rfl | z
  .rw[B6 (P2 c h.at_ (by intro z;cases z))];exact c
  .rw[B6 (P2 (h.pin q z) h.at_ (by intro z;cases z))];exact h.pin q z
 .rcases e q b with rfl | z
  .exact⟨f,g⟩
  .exact h.nm q z
 .rw[(d.map _).nodup_iff];show((x,y)::a.map fun q=>q.2).Nodup;exact CQ.mpr ⟨i,h.nd⟩
def FL.app{H:Hp}{l t:A3}{a:A1 JF}{ss:A1 Str}{x y:Str}(h:FL H l a ss)(b:H t=some (.tup [.str x,.str y]))(c:x∈ss)(d:y∈ss)(f:(x,y)∉a.map fun q=>q.2) :
  FL (HX H l (.lst (K3 a ++ [V.ref t]))) l (a ++ [(t,x,y)]) ss:=by
 have:=h.put a.length b c d f;have e:(K3 a).length=a.length:=by unfold K3;rw[AB]
 rw[<-e,B_,List.drop_length,e,B_,List.drop_length]at this;exact this
def Lu(ss:A1 Str):∀tt:A1 Str,(tt.flatMap fun a=>ss.map fun b=>(a,b)).length=tt.length*ss.length
 | []=>by simp
 | a::r=>by rw[List.flatMap_cons,AU,AB,Lu ss r,BJ,Nat.succ_mul];omega
def FL.len{H:Hp}{l:A3}{c:A1 JF}{ss:A1 Str}(h:FL H l c ss):c.length<=ss.length*ss.length:=by
 have:=h.nd.length_le_of_subset (l₂:=ss.flatMap fun a=>ss.map fun b=>(a,b)) (fun k d=>by
  obtain⟨q,e,rfl⟩:=AV.mp d;obtain⟨f,g⟩:=h.nm q e;exact List.mem_flatMap.mpr ⟨q.2.1,f,AV.mpr ⟨q.2.2,g,rfl⟩⟩)
 rw[Lu,AB]at this;exact this
section
variable{P:A7}{w:HW}{K:PySem.W.Frag}{mg:Str->A5 A2}{base:H_}
theorem Xh(a b d:Nat)(h1:a<5)(h2:b<4)(h:d<8):∃n:Nat,n<=12/\PL [V.int (8 +(a:Int)),V.int b,V.int 4,V.int 5,V.int 6,V.int 7,V.int 5,V.int 6] (d:Int)=some (.int (n:Int)):=by
 suffices ∃n:Nat,n<=12/\[V.int (8 +(a:Int)),V.int b,V.int 4,V.int 5,V.int 6,V.int 7,V.int 5,V.int 6][d]?=some (.int (n:Int)) by
  obtain⟨n,h,e⟩:=this;exact⟨n,h,E7 e⟩
 match d,h with
 | 0,_=>exact⟨8+a,by omega,by show some (V.int _)=_;rw[Int.natCast_add];rfl⟩
 | 1,_=>exact⟨b,by omega,rfl⟩
 | 2,_=>exact⟨4,by omega,rfl⟩
 | 3,_=>exact⟨5,by omega,rfl⟩
 | 4,_=>exact⟨6,by omega,rfl⟩
 | 5,_=>exact⟨7,by omega,rfl⟩
 | 6,_=>exact⟨5,by omega,rfl⟩
 | 7,_=>exact⟨6,by omega,rfl⟩
theorem NV:HY ["_law_left_here", "_law_way"] ["_law_left_here"] (B7 OM):=KI
def Yh:Sp:=fun b H Q _=>∃(p:A3) (c:Int),b = [.ref p]/\II H p c/\c<=900000 /\
 ∀(n:Nat) a,n<=12->Sm [p] H a->II a p (c+3)->Q (.int (n:Int)) a
theorem Ib(T:Tx K mg):IG P w K mg base IW 3 T.bb.f T.bb.fd ["_law_left_here"] Yh:=by
 refine T.bb.F.o1 NV fun m A b s H G Q E g h=>?_
 .obtain⟨p,c,rfl,o,I,q⟩:=h;refine⟨_,(B3 (C6 (i:=1) NV.nd rfl (.inl rfl) (C9 T.ak (D8 T) (Rm g) (A8 (pv 0) (A8 B4 B1))))
   (@B5 _ _ _ (@C1 _ _ _ _ (@D4 _ _ _ _ _ _ _ (KR K) (@I9 _ _ _ _ (@A8 _ _ _ _ _ (C4 m9 B4 (C9 T.ak (D8 T) (Rm g) (A8 (pv 0) (A8 B4 B1)))) (@A8 _ _ _ _ _ (C9 T.ak (D8 T) (Rm g) (A8 (pv 0) (A8 B4 B1))) (@A8 _ _ _ _ _ B4 (@A8 _ _ _ _ _ B4 (@A8 _ _ _ _ _ B4 (@A8 _ _ _ _ _ B4 (@A8 _ _ _ _ _ B4 (@A8 _ _ _ _ _ B4 B1 (by rfl)) (by rfl)) (by rfl)) (by rfl)) (by rfl)) (by rfl)) (by rfl)) (by rfl))) (pv 1) (fun _ _=>rfl))))),?_⟩
  refine A6 rfl (X0 (a:=p) rfl o (by omega) (by decide) (by decide) fun d J L r t=>?_);refine A6 rfl (X0 (a:=p) rfl t (by omega) (by decide) (by decide) fun u M v x L2=>?_);refine B9 rfl rfl ?_;refine A6 rfl (X0 (a:=p) rfl L2 (by omega) (by decide) (by decide) fun y N z B j=>?_);refine⟨by show 8<=sizeLine;decide,fun l k=>?_⟩;obtain⟨n,C,e⟩:=Xh u y d (by omega) (by omega) (by omega);have D:=j.get;refine A6 rfl ⟨l,_,B9 rfl rfl ⟨IA.of A9,e,?_⟩⟩;exact q n _ C (((r.trans x).trans B).new k) ((j.cast (by omega)).upd (B2 D k))
theorem II.ne{H:Hp}{p n:A3}{c:Int}{ss:A1 Str}(h:II H p c)(d:H n=some (.lst (ss.map V.str))):n≠p:=by
 rintro rfl;obtain⟨a,b,e,_⟩:=h;rw[d]at e;cases ss with
 | nil=>cases e
 | cons x r=>cases e
theorem II.neP{H:Hp}{p n:A3}{c:Int}{ss:A1 JF}(h:II H p c)(d:H n=some (.lst (K3 ss))):n≠p:=by
 rintro rfl;obtain⟨a,b,e,_⟩:=h;rw[d]at e;cases ss with
 | nil=>cases e
 | cons x r=>cases e
theorem Ts(d:Nat)(h:d<4):∃n:Nat,0<n/\n<=9/\PL [V.int 4,V.int 6,V.int 9,V.int 3] (d:Int)=some (.int (n:Int)):=by
 suffices ∃n:Nat,0<n/\n<=9/\[V.int 4,V.int 6,V.int 9,V.int 3][d]?=some (.int (n:Int)) by
  obtain⟨n,a,b,e⟩:=this;exact⟨n,a,b,E7 e⟩
 match d,h with
 | 0,_=>exact⟨4,by omega,by omega,rfl⟩
 | 1,_=>exact⟨6,by omega,by omega,rfl⟩
 | 2,_=>exact⟨9,by omega,by omega,rfl⟩
 | 3,_=>exact⟨3,by omega,by omega,rfl⟩
theorem JG:HY ["_law_left_here", "_law_names_here", "_law_found", "_law_often", "_law_one", "_law_other"] ["_law_left_here", "_law_names_here"] (B7 MS):=KI
def Ni(K:PySem.W.Frag):Sp:=fun f H Q _=>∃(p n:A3) (c:Int) (b:A1 Str),f = [.ref p,.ref n]/\II H p c/\c<=900000/\H n=some (.lst (b.map V.str))/\JY b/\b.length<=10 /\
 ∀l (d:A1 JF) e a,H l=none->Sm [p] H a->a l=some (.lst (K3 d))->(∀q∈d,E6 a q)->MZ b d->e<=c+1000->II a p e->Q (.ref l) a
def SI(H:Hp)(p f:A3)(ss:A1 Str)(b:Int)(a:Hp):Prop:=Sm [p] H a/\(∃c,c<=b/\II a p c)/\∃d,FL a f d ss
set_option maxHeartbeats 4000000 in
theorem Bz(T:Tx K mg):IG P w K mg base IW 3 T.aZ.f T.aZ.fd ["_law_left_here", "_law_names_here"] (Ni K):=by
 refine T.aZ.F.o1 JG fun cdv A outer s H vs Q E hr h=>?_
 .obtain⟨p,n,c,u,rfl,hL,c1,hn,hN,m,q⟩:=h;obtain⟨a0,b0,e0,c0⟩:=id hL;refine⟨_,(B3 (C6 (i:=2) JG.nd rfl (.inl rfl) (I9 B1))
   (B3 (C6 (i:=3) JG.nd rfl (.inl rfl) (D4 (KR K) (I9 (A8 B4 (A8 B4 (A8 B4 (A8 B4 B1))))) (C9 T.ak (D8 T) (Rm hr) (A8 (pv 0) (A8 B4 B1))) (fun _ _=>rfl)))
   (B3 (O4 PassesOwn.never rfl (OE K (pv 1)) (D0 (i:=4) JG.nd rfl (.inl rfl))
   (B3 (O4 PassesOwn.never rfl (OE K (pv 1)) (D0 (i:=5) JG.nd rfl (.inl rfl))
   (B5 (I0 (PW.pt (Ly (C2 Gw (pv 4) (pv 5) (D6 _)) (Ly (C2 Q8 (C9 T.ak (D8 T) (Rm hr) (A8 (pv 0) (A8 (pv 3) B1))) B4 (D6 _)) (Jz (C2 (y7 K hr.units) (G7 (A8 (pv 4) (A8 (pv 5) B1))) (pv 2) rfl))))) (B3 (J9 (Bs K PySem.F.plainAttrs_list PySem.F.slot_list_insert PySem.F.type_list_insert Fj (pv 2) (A8 (C9 T.ak (D8 T) (Rm hr) (A8 (pv 0) (A8 (C4 m9 (G0 (N9 K) T.aq K9 (A8 (pv 2) B1)) B4) B1))) (A8 (G7 (A8 (pv 4) (A8 (pv 5) B1))) B1))))
   (B5 (I0 (PW.pt (Ly (C2 Q8 (C9 T.ak (D8 T) (Rm hr) (A8 (pv 0) (A8 B4 B1))) B4 (D6 _)) (Jz (C2 (y7 K hr.units) (G7 (A8 (pv 5) (A8 (pv 4) B1))) (pv 2) rfl)))) (B5 (J9 (Bs K PySem.F.plainAttrs_list PySem.F.slot_list_append PySem.F.type_list_append M6 (pv 2) (A8 (G7 (A8 (pv 5) (A8 (pv 4) B1))) B1)))) C5))) C5)))
   (B5 (I0 (PW.pt (Ly (C2 Q8 (C9 T.ak (D8 T) (Rm hr) (A8 (pv 0) (A8 B4 B1))) B4 (D6 _)) (Jz (C2 (y7 K hr.units) (G7 (A8 (pv 4) (A8 (pv 4) B1))) (pv 2) rfl)))) (B5 (J9 (Bs K PySem.F.plainAttrs_list PySem.F.slot_list_append PySem.F.type_list_append M6 (pv 2) (A8 (G7 (A8 (pv 4) (A8 (pv 4) B1))) B1)))) C5))))
   (B5 (C1 (pv 2)))))),?_⟩
  refine⟨CI _,fun f hf=>?_⟩;have z:p≠f:=B2 e0 hf;have nnf:n≠f:=B2 hn hf;have nnp:n≠p:=hL.ne hn;have nnD:n∉[p]:=by simpa using nnp
  have N:∀x∈u,PySem.PyData.strOk x=true:=fun x L=>y6 (hN.1 x L);refine⟨by show 4<=sizeLine;decide,fun t ht=>?_⟩;have s1:F8 H (HX (HX H f (.lst [])) t (.lst [.int 4,.int 6,.int 9,.int 3])):=(F8.new hf).trans (F8.new ht);have ef:(HX (HX H f (.lst [])) t (.lst [.int 4,.int 6,.int 9,.int 3])) f=some (.lst []):=by rw[B6 (B2 A9 ht),A9]
  refine A6 rfl (X0 (a:=p) (b:=c) rfl (hL.same s1) (by omega) (by decide) (by decide) fun d C hd O W=>?_);obtain⟨S,o1,o2,eo⟩:=Ts d (by omega);have hpt:p≠t:=B2 ((F8.new hf) _ _ e0) ht;refine⟨t,_,B9 rfl rfl ⟨IA.of (JQ O A9 hpt.symm),eo,?_⟩⟩;have i0:SI H p f u (c+1) C:=⟨s1.sm.trans O,⟨_,Int.le_refl _,W⟩,[],JQ O ef z.symm,by simp,by simp,by simp⟩;have hseq:∀{C b},SI H p f u b C->IA K C n (u.map V.str):=fun h=>(h.1.at nnD).seqL (IA.of hn);refine A6 rfl ⟨n,rfl,⟨_,hseq i0⟩,?_⟩;refine S4 (NR (K:=K) (IA.of hn)) (fun i σ C=>(∃v4 v5,σ = [some (.ref p),some (.ref n),some (.ref f),some (.int (S:Int)),v4,v5])/\SI H p f u (c+1+31*i) C) ?_ ?_ ?_ ?_
  .exact⟨⟨_,_,rfl⟩,by simpa using i0⟩
  .rintro i σ C hi ⟨_,X⟩;exact X.1.at nnD
  .rintro i σ C x L ⟨⟨v4,v5,rfl⟩,X⟩ D1 hD1 _;rw[AH]at L;obtain⟨g,ho,rfl⟩:∃y,u[i]?=some y/\V.str y=x:=by
    cases e:u[i]? with
    | none=>rw[e]at L;cases L
    | some y=>rw[e]at L;exact⟨y,rfl,by injection L⟩
   have r:g∈u:=AK ho;have hi:i<u.length:=(AE.mp ho).1;refine A6 rfl ⟨n,rfl,⟨_,hseq X⟩,?_⟩;refine S4 (NR (K:=K) (IA.of hn)) (fun j σ C=>(∃v5,σ = [some (.ref p),some (.ref n),some (.ref f),some (.int (S:Int)),some (.str g),v5])/\SI H p f u (c+1+31*i+3*j) C) ?_ ?_ ?_ ?_
   .exact⟨⟨_,rfl⟩,by simpa using X⟩
   .rintro i σ C hi ⟨_,X⟩;exact X.1.at nnD
   .rintro j σ C x L ⟨⟨v5,rfl⟩,X⟩ D2 M _;rw[AH]at L;obtain⟨l,ho,rfl⟩:∃y,u[j]?=some y/\V.str y=x:=by
     cases e:u[j]? with
     | none=>rw[e]at L;cases L
     | some y=>rw[e]at L;exact⟨y,rfl,by injection L⟩
    have J:l∈u:=AK ho;have hj:j<u.length:=(AE.mp ho).1;obtain⟨O,⟨c',Z,W⟩,v,Y⟩:=X;have done:∀{R c2 D},Sm [p] H R->c2<=c'+3->II R p c2->FL R f D u->SI H p f u (c+1+31*i+3 *((j+1:Nat):Int)) R:=fun{R c2 D} a b d e=>⟨a,⟨c2,by omega,d⟩,D,e⟩;refine A6 rfl (A6 rfl ⟨rfl,A6 rfl ?_⟩);refine T7 (fun X=>?_) (fun X=>X1 (M _ _ ⟨⟨_,rfl⟩,done O (by omega) W Y⟩));refine A6 rfl (A6 rfl (X0 (a:=p) (b:=c') rfl W (by omega) (by omega) (by omega) fun d1 R hd1 k2 L2=>⟨rfl,_,rfl,?_⟩));have F2:=Y.sm W z.symm k2;refine T7 (fun h2=>?_) (fun h2=>X1 (M _ _ ⟨⟨_,rfl⟩,done (O.trans k2) (by omega) L2 F2⟩));refine A6 rfl (A6 rfl ⟨by show 2<=sizeLine;decide,fun t2 ht2=>?_⟩);have F3:=F2.new (o:=.tup [.str g,.str l]) ht2;have e2:=L2.get;have L3:=L2.upd (o:=.tup [.str g,.str l]) (B2 e2 ht2);have k3:=(O.trans k2).new (o:=.tup [.str g,.str l]) ht2;refine A6 rfl (V6 (k:=(g,l)) A9 F3.at_ F3.pin ⟨N _ r,N _ J⟩ (fun q hq=>⟨N _ (F3.nm q hq).1,N _ (F3.nm q hq).2⟩) ⟨_,rfl,?_⟩);refine T7 (fun h3=>?_) (fun h3=>M _ _ ⟨⟨_,rfl⟩,done k3 (by omega) L3 F3⟩);have h3':(g,l)∉v.map fun q=>q.2:=by simpa using h3
    have NQ:=F3.len;have U:v.length<=100:=Nat.le_trans NQ (Nat.mul_le_mul m m);have rl:(K3 v).length=v.length:=by unfold K3;rw[AB]
    refine A6 rfl ⟨.inl ⟨rfl,_,IA.of F3.at_⟩,A6 rfl (A6 rfl (B9 (a:=f) rfl (.inl (IA.of F3.at_)) (B9 rfl rfl (X0 (a:=p) (b:=c'+1) rfl L3 (by omega) (by omega) (by omega) fun d2 H4 hd2 k4 L4=>?_))))⟩;have F4:=F3.sm L3 z.symm k4;refine A6 rfl (A6 rfl ⟨by show 2<=sizeLine;decide,fun t3 ht3=>?_⟩);have F5:=F4.new (o:=.tup [.str g,.str l]) ht3;have e4:=L4.get;have L5:=L4.upd (o:=.tup [.str g,.str l]) (B2 e4 ht3);have k5:=(k3.trans k4).new (o:=.tup [.str g,.str l]) ht3;refine⟨f,_,_,d2,A6 rfl ⟨rfl,rfl,F5.at_,by omega,by rw[sizeLine_eq];omega,?_⟩⟩;have F6:=F5.put d2 A9 r J h3';have L6:=L5.upd (o:=.lst ((K3 v).take d2++V.ref t3 ::(K3 v).drop d2)) z;have k6:=k5.updN (o:=.lst ((K3 v).take d2++V.ref t3 ::(K3 v).drop d2)) hf;generalize hps:v.take d2 ++(t3,g,l)::v.drop d2=ps' at F6;refine A6 rfl (X0 (a:=p) rfl L6 (by omega) (by decide) (by decide) fun d3 H7 hd3 k7 L7=>⟨rfl,_,rfl,?_⟩);have F7:=F6.sm L6 z.symm k7;refine T7 (fun h4=>?_) (fun h4=>X1 (M _ _ ⟨⟨_,rfl⟩,done (k6.trans k7) (by omega) L7 F7⟩));refine A6 rfl (A6 rfl ⟨by show 2<=sizeLine;decide,fun t4 G=>?_⟩);have B:=F7.new (o:=.tup [.str l,.str g]) G;have e7:=L7.get;have L8:=L7.upd (o:=.tup [.str l,.str g]) (B2 e7 G);have k8:=(k6.trans k7).new (o:=.tup [.str l,.str g]) G;refine A6 rfl (V6 (k:=(l,g)) A9 B.at_ B.pin ⟨N _ J,N _ r⟩ (fun q hq=>⟨N _ (B.nm q hq).1,N _ (B.nm q hq).2⟩) ⟨_,rfl,?_⟩);refine T7 (fun h5=>?_) (fun h5=>M _ _ ⟨⟨_,rfl⟩,done k8 (by omega) L8 B⟩);have h5':(l,g)∉ps'.map fun q=>q.2:=by simpa using h5
    have NQ:=B.len;have U:ps'.length<=100:=Nat.le_trans NQ (Nat.mul_le_mul m m);have rl:(K3 ps').length=ps'.length:=by unfold K3;rw[AB]
    refine A6 rfl ⟨.inl ⟨rfl,_,IA.of B.at_⟩,A6 rfl (A6 rfl ⟨by show 2<=sizeLine;decide,fun t5 I=>?_⟩)⟩;have F9:=B.new (o:=.tup [.str l,.str g]) I;have e8:=L8.get;have L9:=L8.upd (o:=.tup [.str l,.str g]) (B2 e8 I);have k9:=k8.new (o:=.tup [.str l,.str g]) I;refine⟨f,B9 rfl rfl ⟨F9.at_,by rw[sizeLine_eq];omega,M _ _ ⟨⟨_,rfl⟩,done (k9.updN hf) (by omega) (L9.upd z) (F9.app A9 J r h5')⟩⟩⟩
   .rintro σ C ⟨⟨v5,rfl⟩,O,⟨c',Z,W⟩,v,Y⟩;simp only[AB]at Z;have done:∀{R c2 D},Sm [p] H R->c2<=c'+1->II R p c2->FL R f D u->SI H p f u (c+1+31 *((i+1:Nat):Int)) R:=fun{R c2 D} a b d e=>⟨a,⟨c2,by omega,d⟩,D,e⟩;refine A6 rfl (X0 (a:=p) (b:=c') rfl W (by omega) (by decide) (by decide) fun d3 H7 hd3 k7 L7=>⟨rfl,_,rfl,?_⟩);have F7:=Y.sm W z.symm k7;refine T7 (fun h4=>?_) (fun h4=>X1 (hD1 _ _ ⟨⟨_,_,rfl⟩,done (O.trans k7) (by omega) L7 F7⟩));refine A6 rfl (A6 rfl ⟨by show 2<=sizeLine;decide,fun t4 G=>?_⟩);have B:=F7.new (o:=.tup [.str g,.str g]) G;have e7:=L7.get;have L8:=L7.upd (o:=.tup [.str g,.str g]) (B2 e7 G);have k8:=(O.trans k7).new (o:=.tup [.str g,.str g]) G;refine A6 rfl (V6 (k:=(g,g)) A9 B.at_ B.pin ⟨N _ r,N _ r⟩ (fun q hq=>⟨N _ (B.nm q hq).1,N _ (B.nm q hq).2⟩) ⟨_,rfl,?_⟩);refine T7 (fun h5=>?_) (fun h5=>hD1 _ _ ⟨⟨_,_,rfl⟩,done k8 (by omega) L8 B⟩);have h5':(g,g)∉v.map fun q=>q.2:=by simpa using h5
    have NQ:=B.len;have U:v.length<=100:=Nat.le_trans NQ (Nat.mul_le_mul m m);have rl:(K3 v).length=v.length:=by unfold K3;rw[AB]
    refine A6 rfl ⟨.inl ⟨rfl,_,IA.of B.at_⟩,A6 rfl (A6 rfl ⟨by show 2<=sizeLine;decide,fun t5 I=>?_⟩)⟩;have F9:=B.new (o:=.tup [.str g,.str g]) I;have e8:=L8.get;have L9:=L8.upd (o:=.tup [.str g,.str g]) (B2 e8 I);have k9:=k8.new (o:=.tup [.str g,.str g]) I;refine⟨f,B9 rfl rfl ⟨F9.at_,by rw[sizeLine_eq];omega,hD1 _ _ ⟨⟨_,_,rfl⟩,done (k9.updN hf) (by omega) (L9.upd z) (F9.app A9 r r h5')⟩⟩⟩
  .rintro σ C ⟨⟨v4,v5,rfl⟩,O,⟨c',Z,W⟩,v,Y⟩;simp only[AB]at Z;have NQ:=Y.len;have U:v.length<=100:=Nat.le_trans NQ (Nat.mul_le_mul m m);exact⟨_,rfl,q f v c' C hf O Y.at_ Y.pin ⟨Y.nm,Y.nd,by omega⟩ (by omega) W⟩
end
def QG(x y:Nat):Builtin.bitOr (x:Int) (y:Int) =((x ||| y:Nat):Int):=by
 have b:¬0<=Builtin.bitNot (x:Int):=by unfold Builtin.bitNot;omega
 have c:¬0<=Builtin.bitNot (y:Int):=by unfold Builtin.bitNot;omega
 have a:∀z:Int,Builtin.bitNot (Builtin.bitNot z)=z:=fun z=>by unfold Builtin.bitNot;omega
 rw[Builtin.bitOr,PyProof.Rows.bitAnd_nn b c,a,a,a];rfl
def Ob(x y:Nat):Builtin.bitAnd (x:Int) (y:Int) =((x &&& y:Nat):Int):=by simp[Builtin.bitAnd]
def Vr(k:Nat):(1:Int)*2 ^((k:Int).toNat) =((2^k:Nat):Int):=by rw[Int.one_mul,CS,Int.natCast_pow];rfl
def Kt(m k:Nat):decide (V.int (Builtin.bitAnd ((m:Int) / 2 ^((k:Int).toNat)) 1)=V.int 1)=m.testBit k:=by
 have a:(m:Int) / 2 ^((k:Int).toNat) =((m / 2^k:Nat):Int):=by rw[CS,Int.natCast_ediv,Int.natCast_pow];rfl
 have b:Builtin.bitAnd ((m / 2^k:Nat):Int) 1 =((m / 2^k % 2:Nat):Int):=by
  rw[show(1:Int) =((1:Nat):Int)from rfl,Ob,Nat.and_one_is_mod]
 rw[a,b,Nat.testBit_eq_decide_div_mod_eq];refine decide_eq_decide.mpr ⟨fun h=>?_,fun h=>?_⟩
 .injection h with h;omega
 .rw[h];rfl
def K8(m:Nat):V:=.int (m:Int)
structure MB(ns:A1 Str)(ks:A1 (Str×Str))(B:A1 Nat):Prop where
 len:B.length=ns.length
 bit:∀i j,(B.getD i 0).testBit j=true↔∃k∈ks,ns[i]?=some k.1/\ns[j]?=some k.2
def MB.zero(ns:A1 Str):MB ns [] (List.replicate ns.length 0):=by
 refine⟨List.length_replicate,fun i j=>?_⟩;have e:(List.replicate ns.length 0).getD i 0=0:=by
  rw[AN,List.getElem?_replicate];by_cases h:i<ns.length
  .rw[AL h];rfl
  .rw[AJ h];rfl
 rw[e,CC];simp
def G8{α:Type}{l:A1 α}(h:l.Nodup){i j:Nat}{x:α}(hi:l[i]?=some x)(c:l[j]?=some x):i=j:=by
 obtain⟨a,e⟩:=AE.mp hi;obtain⟨b,d⟩:=AE.mp c;exact(List.getElem_inj h).mp (e.trans d.symm)
def MB.step{ns:A1 Str}{ks:A1 (Str×Str)}{B:A1 Nat}(h:MB ns ks B)(l:ns.Nodup){a b:Nat}{x y:Str}(f:ns[a]?=some x)(m:ns[b]?=some y):MB ns (ks ++ [(x,y)]) (B.set a (B.getD a 0 ||| 2^b)):=by
 have g:a<B.length:=by rw[h.len];exact(AE.mp f).1
 refine⟨by rw[List.length_set];exact h.len,fun i j=>?_⟩;by_cases e:a=i
 .subst e;have e:(B.set a (B.getD a 0 ||| 2^b)).getD a 0=B.getD a 0 ||| 2^b:=by
   rw[AN,HK g];rfl
  rw[e,EA,EI,h.bit,CV,BQ];constructor
  .rintro(⟨k,hk,c,d⟩ | rfl)
   .exact⟨k,EQ _ hk,c,d⟩
   .exact⟨(x,y),BK _ (AF.mpr rfl),f,m⟩
  .rintro⟨k,hk,c,d⟩;rcases AW.mp hk with hk | hk
   .exact .inl ⟨k,hk,c,d⟩
   .rw[AF.mp hk]at d;exact .inr (G8 l m d)
 .have n:(B.set a (B.getD a 0 ||| 2^b)).getD i 0=B.getD i 0:=by
   rw[AN,List.getElem?_set_ne e,<-AN]
  rw[n,h.bit];constructor
  .rintro⟨k,hk,c,d⟩;exact⟨k,EQ _ hk,c,d⟩
  .rintro⟨k,hk,c,d⟩;rcases AW.mp hk with hk | hk
   .exact⟨k,hk,c,d⟩
   .rw[AF.mp hk]at c;exact absurd (G8 l f c) e
def MB.mono{ns:A1 Str}{ks ks':A1 (Str×Str)}{B:A1 Nat}(h:MB ns ks B)(e:∀k,k∈ks↔k∈ks'):MB ns ks' B :=
 ⟨h.len,fun i j=>by rw[h.bit];exact⟨fun⟨k,a,b⟩=>⟨k,(e k).mp a,b⟩,fun⟨k,a,b⟩=>⟨k,(e k).mpr a,b⟩⟩⟩
def zBu{x y:Str}(h:x.cps.toList=y.cps.toList):x=y:=by
 cases x;cases y;exact congrArg Str.mk (Array.toList_inj.mp h)
def Tq{x y:Str}(h1:RA x y)(h2:RA y x):x=y:=zBu (List.le_antisymm (as:=x.cps.toList) (bs:=y.cps.toList) h1 h2)
def Nq{a b:A1 Str}(h1:a.Pairwise RA)(h2:b.Pairwise RA)(h:a.Perm b):a=b:=List.Perm.eq_of_pairwise (fun _ _ _ _=>Tq) h1 h2 h
structure IU(H:Hp)(p v:A3)(ns:A1 Str)(ks:A1 (Str×Str))(A B:A1 Nat):Prop where
 ex:∃a s t,H v=some (.lst [.ref a,.ref s,.ref t])/\H a=some (.lst (ns.map V.str))/\H s=some (.lst (A.map K8))/\H t=some (.lst (B.map K8))/\v≠p/\a≠p/\s≠p/\t≠p
 mA:MB ns (ks.map fun k=>(k.2,k.1)) A
 mB:MB ns ks B
def IU.sm{H H':Hp}{p v:A3}{ns:A1 Str}{ks:A1 (Str×Str)}{A B:A1 Nat}(h:IU H p v ns ks A B)(s:Sm [p] H H'):IU H' p v ns ks A B:=by
 obtain⟨⟨a,b,c,i,j,k,l,d,e,f,g⟩,m,n⟩:=h;exact⟨⟨a,b,c,JQ s i d,JQ s j e,JQ s k f,JQ s l g,d,e,f,g⟩,m,n⟩
def IU.same{H H':Hp}{p v:A3}{ns:A1 Str}{ks:A1 (Str×Str)}{A B:A1 Nat}(h:IU H p v ns ks A B)(s:F8 H H'):IU H' p v ns ks A B:=h.sm s.sm
def Rw{n j:Nat}(h:j<n):QW n (j:Int)=some j:=by
 unfold QW;rw[AL (by omega),AL (by omega),CS]
def i7{B:A1 Nat}{a:Nat}(h:a<B.length):PL (B.map K8) (a:Int)=some (.int ((B.getD a 0:Nat):Int)):=by
 refine E7 ?_;rw[AH,AC h,AN,AC h];rfl
def Ln(n:Nat):(List.replicate ((n:Int).toNat) [V.int 0]).flatten =(List.replicate n 0).map K8:=by
 rw[CS]
 induction n with
 | zero=>rfl
 | succ n a =>
  rw[EC,GK,a,EC,A_];rfl
def Kf(B:A1 Nat)(a m:Nat):(B.map K8).set a (.int (m:Int)) =(B.set a m).map K8:=by
 rw[List.map_set];rfl
section
variable{P:A7}{w:HW}{K:PySem.W.Frag}{mg:Str->A5 A2}{base:H_}
theorem JN:HY ["_law_names_here", "_law_strikes_here", "_law_strikers", "_law_struck", "_law_one", "_law_other", "_law_a", "_law_b"] ["_law_names_here", "_law_strikes_here"] (B7 N_):=KI
def Ty:Sp:=fun f H Q _=>∃(n a:A3) (b:A1 Str) (c:A1 JF),f = [.ref n,.ref a]/\H n=some (.lst (b.map V.str))/\JY b/\H a=some (.lst (K3 c))/\(∀q∈c,E6 H q)/\MZ b c /\
 ∀v d A B e,H v=none->F8 H e->d.Perm b->d.Pairwise RA->(∀p o,H p=some o->IU e p v d (c.map fun q=>q.2) A B)->Q (.ref v) e
set_option maxHeartbeats 2000000 in
theorem Gc(T:Tx K mg):IG P w K mg base IW 1 T.a6.f T.a6.fd ["_law_names_here", "_law_strikes_here"] Ty:=by
 refine T.a6.F.o1 JN fun cdv A outer s H vs Q E hr h=>?_
 .obtain⟨n,a,ss,y,rfl,hn,hN,ha,hP,hO,q⟩:=h;refine⟨_,(B3 (C6 (i:=0) JN.nd rfl (.inl rfl) (G0 (Kr K) T.bk At (A8 (pv 0) B1)))
   (B3 (Ww (i:=2) (j:=3) rfl JN.nd rfl rfl (by decide) rfl rfl (A8 (C4 Wf (I9 (A8 B4 B1)) (G0 (N9 K) T.aq K9 (A8 (pv 0) B1))) (A8 (C4 Wf (I9 (A8 B4 B1)) (G0 (N9 K) T.aq K9 (A8 (pv 0) B1))) B1)) rfl)
   (B3 (O4 PassesOwn.never rfl (OE K (pv 1)) (QA K (n:=2) (C8 (D0 (i:=4) JN.nd rfl (.inl rfl)) (C8 (D0 (i:=5) JN.nd rfl (.inl rfl)) M9)))
   (B3 (Ww (i:=6) (j:=7) rfl JN.nd rfl rfl (by decide) rfl rfl (A8 (Bs K PySem.F.plainAttrs_list PySem.F.slot_list_index PySem.F.type_list_index (Q9 K) (pv 0) (A8 (pv 4) B1)) (A8 (Bs K PySem.F.plainAttrs_list PySem.F.slot_list_index PySem.F.type_list_index (Q9 K) (pv 0) (A8 (pv 5) B1)) B1)) rfl)
   (B3 (Y3 (C4 Y2 (D4 (KR K) (pv 2) (pv 7) (fun _ _=>rfl)) (C4 Aq B4 (pv 6))) (Lv (pv 2) (pv 7) w5))
   (B5 (Y3 (C4 Y2 (D4 (KR K) (pv 3) (pv 6) (fun _ _=>rfl)) (C4 Aq B4 (pv 7))) (Lv (pv 3) (pv 6) w5))))))
   (B5 (C1 (I9 (A8 (pv 0) (A8 (pv 2) (A8 (pv 3) B1))))))))),?_⟩
  refine A6 rfl ⟨n,ss,rfl,IA.of hn,fun l b hl G srt=>?_⟩;have S:b.Nodup:=G.nodup_iff.mpr hN.2.1;have U:(b.map V.str).length=b.length:=AB ..;have ln:b.length<=100:=by rw[G.length_eq];exact hN.2.2
  have s1:F8 H (HX H l (.lst (b.map V.str))):=F8.new hl;refine⟨by show 1<=sizeLine;decide,fun W d=>?_⟩;have s2:=s1.trans (F8.new (o:=.lst [V.int 0]) d);refine A6 rfl (B9 (a:=l) rfl (.inl (IA.of ((F8.new d) _ _ A9))) ⟨W,B9 rfl rfl ⟨A9,by omega,by omega,by rw[U,CS,sizeLine_eq];show 1*b.length<=_;omega,fun s X=>?_⟩⟩);rw[U,Ln];have hs1:HX H l (.lst (b.map V.str)) s=none:=(F8.new d).free X;have I:H s=none:=s2.free X;have nls:l≠s:=B2 A9 hs1;have s3:=s2.trans (F8.new (o:=.lst ((List.replicate b.length 0).map K8)) X);refine⟨by show 1<=sizeLine;decide,fun J r=>?_⟩;have s4:=s3.trans (F8.new (o:=.lst [V.int 0]) r);have Y:(HX (HX (HX (HX H l (.lst (b.map V.str))) W (.lst [V.int 0])) s (.lst ((List.replicate b.length 0).map K8))) J (.lst [V.int 0])) l=some (.lst (b.map V.str)) :=
   (F8.new r) _ _ ((F8.new X) _ _ ((F8.new d) _ _ A9))
  have es:(HX (HX (HX (HX H l (.lst (b.map V.str))) W (.lst [V.int 0])) s (.lst ((List.replicate b.length 0).map K8))) J (.lst [V.int 0])) s=some (.lst ((List.replicate b.length 0).map K8)):=(F8.new r) _ _ A9;generalize hG:HX (HX (HX (HX H l (.lst (b.map V.str))) W (.lst [V.int 0])) s (.lst ((List.replicate b.length 0).map K8))) J (.lst [V.int 0])=H4 at s4 Y es⊢;have et2:H4 J=some (.lst [V.int 0]):=by rw[<-hG];exact A9
  refine A6 rfl (B9 (a:=l) rfl (.inl (IA.of Y)) ⟨J,B9 rfl rfl ⟨et2,by omega,by omega,by rw[U,CS,sizeLine_eq];show 1*b.length<=_;omega,fun t Z=>?_⟩⟩);rw[U,Ln];have L:l≠t:=B2 Y Z;have e:s≠t:=B2 es Z;have s5:=s4.trans (F8.new (o:=.lst ((List.replicate b.length 0).map K8)) Z);have M:H t=none:=s4.free Z;refine⟨_,A6 rfl (A6 rfl ⟨a,rfl,⟨_,IA.of (s5 _ _ ha)⟩,?_⟩)⟩;refine S4 (NR (K:=K) (IA.of ha)) (fun i σ u=>(∃v4 v5 v6 v7,σ = [some (.ref l),some (.ref a),some (.ref s),some (.ref t),v4,v5,v6,v7])/\F8 H u/\u l=some (.lst (b.map V.str)) /\
   ∃A B:A1 Nat,u s=some (.lst (A.map K8))/\u t=some (.lst (B.map K8))/\MB b ((y.take i).map fun q=>(q.2.2,q.2.1)) A/\MB b ((y.take i).map fun q=>q.2) B) ?_ ?_ ?_ ?_
  .exact⟨⟨_,_,_,_,rfl⟩,s5,by rw[B6 L];exact Y,_,_,by rw[B6 e];exact es,A9,MB.zero b,MB.zero b⟩
  .rintro i σ u hi ⟨_,g,_⟩;exact g.at a
  .rintro i σ u v c ⟨⟨v4,v5,v6,v7,rfl⟩,g,x,A,B,h3,h4,C,D⟩ D1 hD1 _;unfold K3 at c;rw[AH]at c;cases N:y[i]? with
   | none=>rw[N]at c;cases c
   | some q =>
    rw[N]at c;cases c;have hm:q∈y:=AK N;obtain⟨m1,m2⟩:=hO.nm q hm;have m1:q.2.1∈b:=G.mem_iff.mpr m1;have m2:q.2.2∈b:=G.mem_iff.mpr m2;obtain⟨j,O⟩:=CU.mp m1;obtain⟨k,R⟩:=CU.mp m2;have lj:j<b.length:=(AE.mp O).1;have lk:k<b.length:=(AE.mp R).1;refine⟨q.1,A6 rfl ⟨IZ.of (g _ _ (hP q hm)),rfl,_,A6 rfl (B9 rfl rfl ?_)⟩⟩;refine A6 rfl ⟨.inl ⟨rfl,_,IA.of x⟩,A6 rfl ⟨l,b,q.2.1,j,rfl,rfl,IA.of x,O,fun m hm z=>by have:=G8 S z O;omega,?_⟩⟩;refine A6 rfl ⟨.inl ⟨rfl,_,IA.of x⟩,A6 rfl ⟨l,b,q.2.2,k,rfl,rfl,IA.of x,R,fun m hm z=>by have:=G8 S z R;omega,?_⟩⟩;refine⟨_,A6 rfl ?_⟩;refine A6 rfl (A6 rfl ⟨s,_,B9 rfl rfl ⟨IA.of h3,i7 (by rw[C.len];exact lk),A6 rfl (B9 rfl rfl ⟨⟨by omega,by omega,by decide⟩,B9 rfl rfl ?_⟩)⟩⟩);dsimp only;rw[Vr,QG];refine A6 rfl (A6 rfl ⟨s,_,_,k,rfl,rfl,h3,Rw (by rw[AB,C.len];exact lk),?_⟩);rw[Kf];refine A6 rfl (A6 rfl ⟨t,_,B9 rfl rfl ⟨IA.of (by rw[B6 e.symm];exact h4),i7 (by rw[D.len];exact lj),A6 rfl (B9 rfl rfl ⟨⟨by omega,by omega,by decide⟩,B9 rfl rfl ?_⟩)⟩⟩);dsimp only;rw[Vr,QG];refine A6 rfl (A6 rfl ⟨t,_,_,j,rfl,rfl,by rw[B6 e.symm];exact h4,Rw (by rw[AB,D.len];exact lj),?_⟩);rw[Kf];refine hD1 _ _ ⟨⟨_,_,_,_,rfl⟩,(g.upd I).upd M,?_,A.set k (A.getD k 0 ||| 2^j),_,?_,A9,?_,?_⟩
    .rw[B6 L,B6 nls];exact x
    .rw[B6 e,A9]
    .rw[IQ N,AO];exact C.step S R O
    .rw[IQ N,AO];exact D.step S O R
  .rintro σ u ⟨⟨v4,v5,v6,v7,rfl⟩,g,x,A,B,h3,h4,C,D⟩;have lr:(K3 y).length=y.length:=by unfold K3;rw[AB]
   rw[lr,B_]at C D;refine A6 rfl (A6 rfl (A6 rfl ⟨by show 3<=sizeLine;decide,fun v c=>?_⟩));have s9:=F8.new (o:=.lst [.ref l,.ref s,.ref t]) c;refine q v b A B _ (g.free c) (g.trans s9) G srt fun p o hp=>⟨⟨l,s,t,A9,s9 _ _ x,s9 _ _ h3,s9 _ _ h4,(B2 (g _ _ hp) c).symm,(B2 hp hl).symm,(B2 hp I).symm,(B2 hp M).symm⟩,?_,D⟩;rw[CG];exact C
end
def r8(ns:A1 Str)(m i:Nat):A1 Str:=(List.range i).filterMap fun k=>if m.testBit k=true then ns[k]? else none
def I_(ns:A1 Str)(m:Nat):A1 Str:=r8 ns m ns.length
def K4{ns:A1 Str}{m i:Nat}{x:Str}(h:ns[i]?=some x):r8 ns m (i+1)=r8 ns m i++if m.testBit i=true then [x]else []:=by
 unfold r8;rw[EG,List.filterMap_append];congr 1;by_cases e:m.testBit i=true
 .rw[AL e];simp[e,h]
 .rw[AJ e];simp[e]
def QH{ns:A1 Str}{m:Nat}{x:Str}:x∈I_ ns m↔∃k,m.testBit k=true/\ns[k]?=some x:=by
 unfold I_ r8;rw[List.mem_filterMap];constructor
 .rintro⟨k,a,e⟩;by_cases h:m.testBit k=true
  .rw[AL h]at e;exact⟨k,h,e⟩
  .rw[AJ h]at e;cases e
 .rintro⟨k,h,e⟩;exact⟨k,BX.mpr (AE.mp e).1,by rw[AL h];exact e⟩
def d0(ns:A1 Str)(m:Nat):∀i,i<=ns.length->(r8 ns m i).Sublist (ns.take i)
 | 0,_=>by simp[r8]
 | i+1,h=>by
  have a:ns[i]?=some ns[i]:=AC (by omega);rw[K4 a,IQ a];refine(d0 ns m i (by omega)).append ?_;by_cases e:m.testBit i=true
  .rw[AL e];exact List.Sublist.refl _
  .rw[AJ e];exact List.nil_sublist _
def Hi(ns:A1 Str)(m:Nat):(I_ ns m).Sublist ns:=by
 have:=d0 ns m ns.length (Nat.le_refl _)
 rwa [B_]at this
section
variable{P:A7}{w:HW}{K:PySem.W.Frag}{mg:Str->A5 A2}{base:H_}
theorem Ej:HY ["_law_view", "_law_mask"] ["_law_view", "_law_mask"] (B7 ND):=KI
def Fh:Sp:=fun c H Q _=>∃(p v:A3) (m:Nat) (a:A1 Str) (d:A1 (Str×Str)) (A B:A1 Nat),c = [.ref v,.int (m:Int)]/\IU H p v a d A B/\a.length<=100 /\
 ∀l b,H l=none->F8 H b->b l=some (.lst ((I_ a m).map V.str))->Q (.ref l) b
theorem Z8(T:Tx K mg):IG P w K mg base IW 1 T.az.f T.az.fd ["_law_view", "_law_mask"] Fh:=by
 refine T.az.F.o1 Ej fun M A o s H S Q E U h=>?_
 .obtain⟨p,v,m,g,W,A,B,rfl,O,X,q⟩:=h;obtain⟨⟨a,s,t,R,k,Y,Z,_⟩,mA,mB⟩:=id O;refine⟨_,(B5 (C1 (U4 (N':=["_law_k", "_law_name", "_law_mask"]) (cap:=[none,none,some 1]) (cl:=[("_law_mask",_)]) (P3 ⟨⟨rfl,rfl,rfl,rfl⟩,trivial⟩ ⟨rfl,trivial⟩) rfl (SJ K T.aF (A8 (D4 (KR K) (pv 0) B4 (fun _ _=>rfl)) B1)) (fun _ _ _ _=>by exact⟨(QA K (n:=2) (C8 (MX 0) (C8 (MX 1) M9))),(T9 (C2 Q8 (C4 K5 (C4 Fu (pv 2) (pv 0)) B4) B4 (D6 _))),(pv 1)⟩)))),?_⟩;dsimp only[SR,zDc,U5,zFf,SF,Ze,Zp];refine A6 rfl ⟨v,_,B9 rfl rfl ⟨IA.of R,rfl,a,A6 rfl ⟨IA.of k,fun D r=>?_⟩⟩⟩;refine n9 (n:=g.length) (fun i σ b=>(∃C G,σ = [C,G,some (.int (m:Int))])/\F8 H b/\b D=some (.lst ((r8 g m i).map V.str))) ⟨⟨_,_,rfl⟩,F8.new r,A9⟩ ?_ ?_ ?_ ?_
  .rintro i σ b u ⟨_,c,d⟩;exact⟨_,_,(c.at a).seqL (IA.of k),by rw[AH,AC u];rfl⟩
  .rintro σ b ⟨_,c,d⟩;exact⟨_,(c.at a).seqL (IA.of k),by rw[AB]⟩
  .rintro i σ b x H' N u ⟨⟨C,G,rfl⟩,c,d⟩ ⟨t,x,rfl,I,rfl,l⟩ J;have l:=l _ ((c.at a).seqL (IA.of k));have e:g[i]?=some g[i]:=AC u;rw[AH,e]at l;cases l;refine⟨t,A6 rfl ⟨IZ.of A9,rfl,_,A6 rfl (B9 rfl rfl ?_)⟩⟩;have j:D≠t:=B2 d I;have L:F8 H (HX b t (.tup [.int i,.str g[i]])):=c.trans (F8.new I);refine A6 rfl (A6 rfl (B9 rfl rfl ⟨(show(0:Int)<=(i:Int) by omega),B9 rfl rfl ⟨rfl,A6 rfl ?_⟩⟩));dsimp only;rw[Kt];have y:=(d0 g m i (by omega)).length_le;rw[AS]at y;refine T7 (fun z=>?_) (fun z=>?_)
   .refine A6 rfl ⟨_,by rw[B6 j];exact d,by rw[AB,sizeLine_eq];omega,J _ _ ⟨⟨_,_,rfl⟩,L.upd r,?_⟩⟩;rw[A9,K4 e,AL z,AO];rfl
   .refine J _ _ ⟨⟨_,_,rfl⟩,L,?_⟩;rw[B6 j,K4 e,AJ z,CH];exact d
  .rintro σ b ⟨_,c,d⟩;exact q D b r c d
end
def o0(B:A1 Nat)(m j:Nat):Prop:=∃k,m.testBit k=true/\(B.getD k 0).testBit j=true
def MW(n:Nat)(A B:A1 Nat)(m j:Nat):Prop:=j<n/\∀b,(A.getD j 0).testBit b=true->o0 B m b
def JC(B:A1 Nat)(m:Nat):Prop:=∀i j,m.testBit i=true->m.testBit j=true->¬(B.getD i 0).testBit j=true
def V2(a h:Nat):decide (V.int (Builtin.bitAnd (a:Int) (Builtin.bitNot (h:Int)))=V.int 0)=true↔∀b,a.testBit b=true->h.testBit b=true:=by
 rw[BQ,PyProof.Rows.bitAnd_not,Ob];constructor
 .intro e b c;injection e with e;have e:a=a &&& h:=by omega
  rw[e,BW,BH]at c;exact c.2
 .intro k;have e:a &&& h=a:=BL fun b=>by
   rw[BW];cases c:a.testBit b with
   | false=>rfl
   | true=>rw[k b c];rfl
  rw[e,Int.sub_self]
def Vc(a m:Nat):decide (V.int (Builtin.bitAnd (a:Int) (m:Int))=V.int 0)=true↔∀b,a.testBit b=true->¬m.testBit b=true:=by
 rw[BQ,Ob];constructor
 .intro e b c d;injection e with e;have e:a &&& m=0:=by omega
  have:(a &&& m).testBit b=true:=by rw[BW,c,d];rfl
  rw[e,CC]at this;cases this
 .intro k;have e:a &&& m=0:=BL fun b=>by
   rw[BW,CC];cases c:a.testBit b with
   | false=>rfl
   | true =>
    have:=k b c;cases d:m.testBit b with
    | false=>rfl
    | true=>exact absurd d this
  rw[e];rfl
def U6(d k j:Nat):(d ||| 2^k).testBit j=true↔d.testBit j=true\/j=k:=by
 rw[EA,EI,CV,BQ];exact⟨fun h=>h.imp id Eq.symm,fun h=>h.imp id Eq.symm⟩
section
variable{P:A7}{w:HW}{K:PySem.W.Frag}{mg:Str->A5 A2}{base:H_}
theorem LR:HY ["_law_view", "_law_mask", "_law_hit_here", "_law_k"] ["_law_view", "_law_mask"] (B7 OZ):=KI
def Vv:Sp:=fun b H Q _=>∃(p v:A3) (m:Nat) (a:A1 Str) (c:A1 (Str×Str)) (A B:A1 Nat),b = [.ref v,.int (m:Int)]/\IU H p v a c A B/\a.length<=100 /\
 ∀h:Nat,(∀j,h.testBit j=true↔o0 B m j)->Q (.int (h:Int)) H
theorem j0(T:Tx K mg):IG P w K mg base IW 1 T.aP.f T.aP.fd ["_law_view", "_law_mask"] Vv:=by
 refine T.aP.F.o1 LR fun x A g s H J Q E L h=>?_
 .obtain⟨p,v,m,M,N,A,B,rfl,y,O,q⟩:=h;obtain⟨⟨a,s,t,r,C,R,D,_⟩,S,u⟩:=id y;refine⟨_,(B3 (C6 (i:=2) LR.nd rfl (.inl rfl) B4)
   (B3 (O4 PassesOwn.never rfl (Yk T.aQ (A8 (G0 (N9 K) T.aq K9 (A8 (D4 (KR K) (pv 0) B4 (fun _ _=>rfl)) B1)) B1)) (D0 (i:=3) LR.nd rfl (.inl rfl))
   (B5 (I0 (C2 Q8 (C4 K5 (C4 Fu (pv 1) (pv 3)) B4) B4 (D6 _)) (B5 (C6 (i:=2) LR.nd rfl (.inl rfl) (C4 Y2 (pv 2) (D4 (KR K) (D4 (KR K) (pv 0) B4 (fun _ _=>rfl)) (pv 3) (fun _ _=>rfl))))) C5)))
   (B5 (C1 (pv 2))))),?_⟩
  refine A6 rfl ⟨v,_,B9 rfl rfl ⟨IA.of r,rfl,B9 (a:=a) rfl (.inl (IA.of C)) (A6 rfl ⟨?_,?_,?_⟩)⟩⟩
  .omega
  .rw[AB];omega
  rw[AB,CS];refine Q2 (fun i σ l=>l=H/\∃(h:Nat) (n:A5 V),σ = [some (.ref v),some (.int (m:Int)),some (.int (h:Int)),n]/\∀j,h.testBit j=true↔∃k,k<i/\m.testBit k=true/\(B.getD k 0).testBit j=true) ?_ ?_ ?_
  .exact⟨rfl,0,_,rfl,fun j=>by rw[CC];simp⟩
  .rintro i σ l G ⟨rfl,h,n,rfl,d⟩ U c _;rw[Int.zero_add];refine A6 rfl (A6 rfl (B9 rfl rfl ⟨(show(0:Int)<=(i:Int) by omega),B9 rfl rfl ⟨rfl,A6 rfl ?_⟩⟩));dsimp only;rw[Kt];refine T7 (fun o=>?_) (fun o=>?_)
   .refine A6 rfl (A6 rfl ⟨v,_,B9 rfl rfl ⟨IA.of r,rfl,A6 rfl ⟨t,_,B9 rfl rfl ⟨IA.of D,i7 (by rw[u.len];exact G),B9 rfl rfl ?_⟩⟩⟩⟩);dsimp only;rw[QG];refine c _ _ ⟨rfl,_,_,rfl,fun j=>?_⟩;rw[EA,EI,d];constructor
    .rintro(⟨k,b,h2⟩ | h2)
     .exact⟨k,by omega,h2⟩
     .exact⟨i,by omega,o,h2⟩
    .rintro⟨k,b,h2⟩;by_cases e:k=i
     .rw[e]at h2;exact .inr h2.2
     .exact .inl ⟨k,by omega,h2⟩
   .refine c _ _ ⟨rfl,h,_,rfl,fun j=>?_⟩;rw[d];constructor
    .rintro⟨k,b,h2⟩;exact⟨k,by omega,h2⟩
    .rintro⟨k,b,h2⟩;by_cases e:k=i
     .rw[e]at h2;exact absurd h2.1 o
     .exact⟨k,by omega,h2⟩
  .rintro σ l ⟨rfl,h,n,rfl,d⟩;refine A6 rfl (q h fun j=>?_);rw[d];constructor
   .rintro⟨k,b,h2⟩;exact⟨k,h2⟩
   .rintro⟨k,b,h2⟩;refine⟨k,?_,b,h2⟩;obtain⟨z,_,I,_⟩:=(u.bit k j).mp h2;exact(AE.mp I).1
theorem KF:HY ["_law_view", "_law_mask", "_law_hit_here", "_law_kept_here", "_law_k"] ["_law_view", "_law_mask"] (B7 OP):=KI
def Yu:Sp:=fun b H Q _=>∃(p v:A3) (m:Nat) (a:A1 Str) (c:A1 (Str×Str)) (A B:A1 Nat),b = [.ref v,.int (m:Int)]/\IU H p v a c A B/\a.length<=100 /\
 ∀h:Nat,(∀j,h.testBit j=true↔MW a.length A B m j)->Q (.int (h:Int)) H
theorem W8(T:Tx K mg):IG P w K mg base IW 2 T.aW.f T.aW.fd ["_law_view", "_law_mask"] Yu:=by
 refine T.aW.F.o1 KF fun M A x s H Z Q E N h=>?_
 .obtain⟨p,v,m,O,R,A,B,rfl,I,S,q⟩:=h;obtain⟨⟨a,s,t,J,U,W,e4,_⟩,X,mB⟩:=id I;refine⟨_,(B3 (C6 (i:=2) KF.nd rfl (.inl rfl) (C9 T.aP (j0 T) (Rm N) (A8 (pv 0) (A8 (pv 1) B1))))
   (B3 (C6 (i:=3) KF.nd rfl (.inl rfl) B4)
   (B3 (O4 PassesOwn.never rfl (Yk T.aQ (A8 (G0 (N9 K) T.aq K9 (A8 (D4 (KR K) (pv 0) B4 (fun _ _=>rfl)) B1)) B1)) (D0 (i:=4) KF.nd rfl (.inl rfl))
   (B5 (I0 (C2 Q8 (C4 K5 (D4 (KR K) (D4 (KR K) (pv 0) B4 (fun _ _=>rfl)) (pv 4) (fun _ _=>rfl)) (Iw Lm (pv 2))) B4 (D6 _)) (B5 (C6 (i:=3) KF.nd rfl (.inl rfl) (C4 Y2 (pv 3) (C4 Aq B4 (pv 4))))) C5)))
   (B5 (C1 (pv 3)))))),?_⟩
  refine A6 rfl (A6 rfl (Zg (a:=p) (b:=v) (c:=m) (d:=O) (e:=R) (f:=A) (g:=B) rfl I S fun o k=>?_));refine A6 rfl ⟨v,_,B9 rfl rfl ⟨IA.of J,rfl,B9 (a:=a) rfl (.inl (IA.of U)) (A6 rfl ⟨?_,?_,?_⟩)⟩⟩
  .omega
  .rw[AB];omega
  rw[AB,CS];refine Q2 (fun i σ y=>y=H/\∃(h:Nat) (C:A5 V),σ = [some (.ref v),some (.int (m:Int)),some (.int (o:Int)),some (.int (h:Int)),C]/\∀j,h.testBit j=true↔MW i A B m j) ?_ ?_ ?_
  .exact⟨rfl,0,_,rfl,fun j=>by rw[CC];exact⟨fun z=>(by cases z),fun z=>absurd z.1 (EF _)⟩⟩
  .rintro i σ y Y ⟨rfl,h,C,rfl,u⟩ D1 r _;rw[Int.zero_add];refine A6 rfl ⟨v,_,B9 rfl rfl ⟨IA.of J,rfl,A6 rfl ⟨s,_,B9 rfl rfl ⟨IA.of W,i7 (by rw[X.len];exact Y),A6 rfl (A6 rfl (B9 rfl rfl ⟨rfl,A6 rfl ?_⟩))⟩⟩⟩⟩;dsimp only;have L:=V2 (A.getD i 0) o;refine T7 (fun D=>?_) (fun D=>?_)
   .refine A6 rfl (A6 rfl (B9 rfl rfl ⟨⟨by omega,by omega,by decide⟩,B9 rfl rfl ?_⟩));dsimp only;rw[Vr,QG];refine r _ _ ⟨rfl,_,_,rfl,fun j=>?_⟩;rw[U6,u];constructor
    .rintro(⟨G,l⟩ | rfl)
     .exact⟨by omega,l⟩
     .exact⟨by omega,fun b n=>(k b).mp (L.mp D b n)⟩
    .rintro⟨G,l⟩;by_cases e:j=i
     .exact .inr e
     .exact .inl ⟨by omega,l⟩
   .refine r _ _ ⟨rfl,h,_,rfl,fun j=>?_⟩;rw[u];constructor
    .rintro⟨G,l⟩;exact⟨by omega,l⟩
    .rintro⟨G,l⟩;by_cases e:j=i
     .subst e;exact absurd (L.mpr fun b n=>(k b).mpr (l b n)) D
     .exact⟨by omega,l⟩
  .rintro σ y ⟨rfl,h,C,rfl,u⟩;exact⟨_,rfl,q h u⟩
theorem Bn:HY ["_law_view", "_law_mask"] ["_law_view", "_law_mask"] (B7 MD):=KI
def Ry:Sp:=fun c H Q _=>∃(p v:A3) (m:Nat) (a:A1 Str) (d:A1 (Str×Str)) (A B:A1 Nat),c = [.ref v,.int (m:Int)]/\IU H p v a d A B/\a.length<=100 /\
 ∀b:Bool,(b=true↔JC B m)->Q (.bl b) H
theorem U9(T:Tx K mg):IG P w K mg base IW 2 T.aL.f T.aL.fd ["_law_view", "_law_mask"] Ry:=by
 refine T.aL.F.o1 Bn fun t A l s H I Q E u h=>?_
 .obtain⟨p,v,m,x,y,A,B,rfl,z,C,q⟩:=h;refine⟨_,(B5 (C1 (P1 Q8 (C4 K5 (C9 T.aP (j0 T) (Rm u) (A8 (pv 0) (A8 (pv 1) B1))) (pv 1)) B4 (D6 _)))),?_⟩;refine A6 rfl (A6 rfl (Zg (a:=p) (b:=v) (c:=m) (d:=x) (e:=y) (f:=A) (g:=B) rfl z C fun D k=>?_));refine A6 rfl (B9 rfl rfl ⟨rfl,?_⟩);refine q _ ?_;dsimp only;rw[Vc];constructor
  .intro h i j n o r;exact h j ((k j).mpr ⟨i,n,r⟩) o
  .intro h j o G;obtain⟨i,n,r⟩:=(k j).mp o;exact h i j n G r
end
def Rb{H H':Hp}{p:A3}{c:Int}{q:JF}(h:E6 H q)(L:II H p c)(s:Sm [p] H H'):E6 H' q:=by
 obtain⟨x,y,e,_⟩:=L;exact JQ s h (P2 h e (by intro z;cases z))
def JX.sm{C:A3}{H H':Hp}{x p:A3}{c:Int}{ns:A1 Str}{g:A1 JF}(h:JX C H x ns g)(L:II H p c)(s:Sm [p] H H'):JX C H' x ns g:=by
 obtain⟨m,r,a,b,c,d,t,u,w,i,j,A,B,D,E,F⟩:=h;obtain⟨y,z,G,_⟩:=id L;have k:∀{b:A3} {o:HO},H b=some o->o≠ .lst [.int y,.int z,.int _]->H' b=some o:=fun e n=>JQ s e (P2 e G n);exact⟨m,r,a,b,c,d,t,u,k w (by intro z;cases z),JQ s i (L.ne i),JQ s j (L.neP j),fun q I=>Rb (A q I) L s,k B (by intro z;cases z),k D (by intro z;cases z),fun n f=>let⟨l,v,e⟩:=E n f;⟨l,v,JQ s e (L.ne e)⟩,fun n f=>let⟨l,v,e⟩:=F n f;⟨l,v,JQ s e (L.ne e)⟩⟩
def sd(ss:A1 Str):PyData:=.list (ss.map PyData.str)
def Kc{K:PySem.W.Frag}{H:Hp}:∀ss:A1 Str,OG K H (ss.map PyData.str) (ss.map V.str)
 | []=>by simp[OG]
 | x::r=>by
  simp only[A_,OG,Rp];exact⟨_,_,rfl,rfl,Kc r⟩
def Ri{K:PySem.W.Frag}{H:Hp}{l:A3}{ss:A1 Str}(h:IA K H l (ss.map V.str)):Rp K H (sd ss) (.ref l):=by
 unfold sd;simp only[Rp];exact⟨l,_,rfl,h,Kc ss⟩
def Da:∀ss:A1 Str,PyData.depthAll (ss.map PyData.str)<=1
 | []=>by simp[PyData.depthAll]
 | x::r=>by
  have:=Da r;simp only[A_,PyData.depthAll,PyData.depth];omega
def Lr:∀{ss:A1 Str},(∀x∈ss,PySem.PyData.strOk x=true)->PyData.canLayAll0 (ss.map PyData.str)=true
 | [],_=>rfl
 | x::r,h=>by
  rw[A_,PyData.canLayAll0,Lr fun z a=>h z (BF _ a)];simp[PyData.canLay0,h x (BP ..)]
def Rf{ss:A1 Str}(h:∀x∈ss,R8 x=true):Pl (sd ss):=by
 refine⟨?_,?_⟩
 .unfold sd;rw[PyData.canLay0];exact Lr fun x a=>y6 (h x a)
 .unfold sd;rw[PyData.depth];have:=Da ss;omega
def Xi{K:PySem.W.Frag}{x y:V}{d:PyData}{H:Hp}{Q:VK}(h1:Rp K H d x)(h2:Rp K H d y)(p:Pl d)(q:Q (.bl false) H):zDt K x y H Q :=
 ⟨d,d,h1,h2,p,p,by rw[PySem.SeqAt.eqv_refl d p.1];exact q⟩
def pB(p:Prop):Bool:=@decide p (Classical.propDecidable p)
def MJ{p:Prop}:pB p=true↔p:=@BQ p (Classical.propDecidable p)
def Zc{p:Prop}{b:Bool}(h:b=true↔p):b=pB p:=BV.mpr (h.trans MJ.symm)
def Sd:∀(j a b:Nat),(∀j,a.testBit j=true->¬b.testBit j=true)->(a+b).testBit j =(a.testBit j||b.testBit j)
 | 0,a,b,h=>by
  have c:=h 0;rw[CO,CO,BQ,BQ]at c;rw[CO,CO,CO,<-Bool.decide_or];exact decide_eq_decide.mpr ⟨fun z=>by omega,fun z=>by omega⟩
 | j+1,a,b,h=>by
  have c:=h 0;rw[CO,CO,BQ,BQ]at c;rw[DD,DD,DD,show(a+b) / 2=a / 2+b / 2 by omega];exact Sd j (a / 2) (b / 2) fun i=>by have:=h (i+1);rw[DD,DD]at this;exact this
def Ab:∀{l:A1 Nat},l.Nodup->∀j,((l.map fun k=>2^k).sum).testBit j=true↔j∈l
 | [],_,j=>by simp
 | k::l,b,j=>by
  obtain⟨c,d⟩:=CQ.mp b;have a:=Ab d;rw[A_,GY,Nat.add_comm,Sd j _ _ fun i z y=>?_,EI,a,CV,BQ,AR];rotate_left
  .rw[CV,BQ]at y;exact c (y▸(a i).mp z)
  exact⟨fun h=>h.elim .inr fun e=>.inl e.symm,fun h=>h.elim (fun e=>.inr e.symm) .inl⟩
def Qq:∀(s:Nat),0<s->∃k,s.testBit k=true/\s-(s &&&(s-1))=2^k/\∀i,i<k->¬s.testBit i=true:=by
 intro s
 induction s using Nat.strongRecOn with
 | _ s b =>
  intro h;by_cases o:s % 2=1
  .refine⟨0,by rw[CO];exact BB o,?_,fun i a=>absurd a (EF _)⟩;have e:s &&&(s-1)=s-1:=BL fun i=>by
    rw[BW];cases i with
    | zero=>rw[CO,CO,BD (by omega:¬(s-1) % 2=1),HL]
    | succ i=>rw[DD,DD,show(s-1) / 2=s / 2 by omega,Bool.and_self]
   rw[e];omega
  .obtain⟨k,c,f,d⟩:=b (s / 2) (by omega) (by omega);refine⟨k+1,by rw[DD];exact c,?_,fun i a=>by
    cases i with
    | zero=>rw[CO,BQ];exact o
    | succ i=>rw[DD];exact d i (by omega)⟩
   have e:s &&&(s-1)=2 *(s / 2 &&&(s / 2-1)):=BL fun i=>by
    rw[BW];cases i with
    | zero=>rw[CO,CO,BD o,ER,CO,BD (by omega)]
    | succ i=>rw[DD,DD,DD,Nat.mul_div_cancel_left _ (by decide),BW,show(s-1) / 2=s / 2-1 by omega]
   have:s / 2 &&&(s / 2-1)<=s / 2:=Nat.and_le_left;rw[e,Nat.pow_succ];omega
def LB(n m:Nat):Prop:=∀j,m.testBit j=true->j<n
def LB.or{n m k:Nat}(h:LB n m)(b:k<n):LB n (m ||| 2^k):=fun j a=>((U6 m k j).mp a).elim (h j) fun e=>by omega
def LB.zero(n:Nat):LB n 0:=fun j a=>by rw[CC]at a;cases a
def LB.lt{n m:Nat}(h:LB n m):m<2^n:=Nat.lt_pow_two_of_testBit m fun i a=>CA.mpr fun z=>by have:=h i z;omega
structure QO(n:Nat)(A B:A1 Nat):Prop where
 tr:∀i j,(A.getD i 0).testBit j=true↔(B.getD j 0).testBit i=true
 lt:∀i j,(B.getD i 0).testBit j=true->i<n/\j<n
def MB.net{ns:A1 Str}{ks:A1 (Str×Str)}{A B:A1 Nat}(a:MB ns (ks.map fun k=>(k.2,k.1)) A)(b:MB ns ks B):QO ns.length A B:=by
 refine⟨fun i j=>?_,fun i j h=>?_⟩
 .rw[a.bit,b.bit];constructor
  .rintro⟨_,e,c,d⟩;obtain⟨k,f,rfl⟩:=AV.mp e;exact⟨k,f,d,c⟩
  .rintro⟨k,e,c,d⟩;exact⟨_,AV.mpr ⟨k,e,rfl⟩,d,c⟩
 .obtain⟨k,_,c,d⟩:=(b.bit i j).mp h;exact⟨(AE.mp c).1,(AE.mp d).1⟩
def Vw(n:Nat)(A B:A1 Nat)(m:Nat):Prop:=LB n m/\JC B m/\∀j,m.testBit j=true->MW n A B m j
def Sub(c a:Nat):Prop:=∀j,c.testBit j=true->a.testBit j=true
def Iq(m i:Nat):((Builtin.bitAnd ((2^i:Nat):Int) (m:Int)) != 0)=m.testBit i:=by
 rw[Ob];have e:(2^i &&& m)=if m.testBit i=true then 2^i else 0:=BL fun j=>by
  rw[BW,CV];by_cases h:m.testBit i=true
  .rw[AL h,CV];by_cases c:i=j
   .subst c;rw[h,Bool.and_true]
   .rw[BD c,ER]
  .rw[AJ h,CC];by_cases c:i=j
   .subst c;rw[CA.mpr h,HL]
   .rw[BD c,ER]
 rw[e];have p:0<2^i:=Nat.pow_pos (by decide);by_cases h:m.testBit i=true
 .rw[AL h,h,bne_iff_ne];omega
 .rw[AJ h,CA.mpr h];rfl
def zGl(x y:Nat)(h:∀j,y.testBit j=true->x.testBit j=true):∃z:Nat,Builtin.bitXor (x:Int) (y:Int) =(z:Int)/\∀j,z.testBit j=true↔x.testBit j=true/\¬y.testBit j=true:=by
 have b:∀j,(x ^^^ y).testBit j=true↔x.testBit j=true/\¬y.testBit j=true:=fun j=>by
  rw[Nat.testBit_xor];cases d:x.testBit j<;>cases f:y.testBit j<;>simp;exact absurd (h j f) (by rw[d];decide)
 refine⟨x ^^^ y,?_,b⟩;have e:(x ^^^ y)+y=x:=BL fun j=>by
  rw[Sd j _ _ fun i z=>((b i).mp z).2,BV,EI,b];exact⟨fun z=>z.elim (·.1) (h j),fun z=>by by_cases c:y.testBit j=true<;>simp[z,c]⟩
 have a:x &&& y=y:=BL fun j=>by
  rw[BW,BV,BH];exact⟨(·.2),fun z=>⟨h j z,z⟩⟩
 rw[PyProof.Rows.bitXor_and,Ob,a];omega
def bK(M:A1 Nat)(n:Nat):A1 (IR×V):=(List.range n).map fun i=>((Sum.inl ((2^i:Nat):Int):IR),K8 (M.getD i 0))
def Oq{i j:Nat}(h:((2^i:Nat):Int) =((2^j:Nat):Int)):i=j:=(Nat.pow_right_inj (by decide)).mp (Int.ofNat_inj.mp h)
def Ky(M:A1 Nat):∀{n i:Nat},i<n->S6 (bK M n) (.inl ((2^i:Nat):Int))=some (K8 (M.getD i 0))
 | n+1,i,h=>by
  unfold S6 bK;rw[EG,AO,List.find?_append];by_cases c:i<n
  .have a:=Ky M c;unfold S6 bK at a;cases e:(List.find? (fun b:IR×V=>decide (b.1=Sum.inl ((2^i:Nat):Int))) ((List.range n).map fun i=>((Sum.inl ((2^i:Nat):Int):IR),K8 (M.getD i 0))))with
   | none=>rw[e]at a;cases a
   | some q=>rw[e]at a;rw[Option.some_or];exact a
  .have e:i=n:=by omega
   subst e;rw[List.find?_eq_none.mpr fun q d z=>?_,Option.none_or]
   .rw[A_,EV,BB rfl];rfl
   .obtain⟨k,f,rfl⟩:=AV.mp d;have:=Oq (Sum.inl.inj (BZ z));have:=BX.mp f;omega
def mf(a b c d:A3)(n L:Nat):A1 (Str×V):=[("names",.ref a),("full",K8 (2^n-1)),("bit_of",.ref b),("strikers_of",.ref c),("struck_of",.ref d),("loops",K8 L)]
structure HZ(C:A3)(H:Hp)(x c:A3)(ns:A1 Str)(A B:A1 Nat)(L:Nat):Prop where
 ex:∃dx a b d kb,H x=some (.ins C dx (mf a b c d ns.length L))/\H a=some (.lst (ns.map V.str))/\Rd H b (.dK kb)/\(∀i n,ns[i]?=some n->S6 kb (.inr n)=some (K8 (2^i)))/\Rd H c (.dK (bK A ns.length))/\H d=some (.dK (bK B ns.length))/\d≠c/\b≠c
 net:QO ns.length A B
 nd:ns.Nodup
 len:ns.length<=100
 loops:∀j,L.testBit j=true↔(A.getD j 0).testBit j=true
def Zw{H:Hp}{a c:A3}{b:A1 (IR×V)}{o:HO}(r:Rd H c (.dK b))(h:H a=some o)(e:∀b,o≠ .dK b)(f:∀d u,o≠ .frz d u):a≠c:=by
 rintro rfl;rcases r with r | ⟨d,r⟩
 .rw[h]at r;exact e _ (BE r)
 .rw[h]at r;exact f _ _ (BE r)
def zDn{H H':Hp}{b c:A3}{u:HO}(r:Rd H b u)(s:Sm [c] H H')(n:b≠c):Rd H' b u:=r.imp (fun h=>JQ s h n) fun⟨o,h⟩=>⟨o,JQ s h n⟩
def HZ.fz{C:A3}{H H':Hp}{x c:A3}{ns:A1 Str}{A B:A1 Nat}{L:Nat}(h:HZ C H x c ns A B L)(s:Sm [c] H H')(r:Rd H' c (.dK (bK A ns.length))):HZ C H' x c ns A B L:=by
 obtain⟨⟨k,a,b,d,l,e,f,m,n,g,o,i,j⟩,p,q,t,u⟩:=h;exact⟨⟨k,a,b,d,l,JQ s e (Zw g e (fun _ z=>by cases z) fun _ _ z=>by cases z),JQ s f (Zw g f (fun _ z=>by cases z) fun _ _ z=>by cases z),zDn m s j,n,r,JQ s o i,i,j⟩,p,q,t,u⟩
def HZ.same{C:A3}{H H':Hp}{x c:A3}{ns:A1 Str}{A B:A1 Nat}{L:Nat}(h:HZ C H x c ns A B L)(s:F8 H H'):HZ C H' x c ns A B L :=
 h.fz s.sm (let⟨_,_,_,_,_,_,_,_,_,a,_⟩:=h.ex;a.imp (s _ _) fun⟨o,e⟩=>⟨o,s _ _ e⟩)
def D3(m i:Nat):A1 Nat:=(List.range i).filter fun k=>m.testBit k
def O9(m i:Nat):D3 m (i+1)=D3 m i++if m.testBit i=true then [i]else []:=by
 unfold D3;rw[EG,DU,DL,GF]
def M5(m i:Nat):(D3 m i).length<=i:=Nat.le_trans (BT ..) (by rw[CF];exact Nat.le_refl _)
section
variable{P:A7}{w:HW}{K:PySem.W.Frag}{mg:Str->A5 A2}{base:H_}
theorem u8:HY ["self", "some"] ["self", "some"] (B7 MA):=KI
def j8(C:A3):Sp:=fun d H Q _=>∃(x c:A3) (b:A1 Str) (A B:A1 Nat) (L m:Nat),d = [.ref x,.int (m:Int)]/\HZ C H x c b A B L/\∀l a,H l=none->Sm [c] H a->HZ C a x c b A B L->a l=some (.lst ((D3 m b.length).map fun k=>K8 (2^k)))->Q (.ref l) a
theorem E4(T:Tx K mg):IG P w K mg base IW 1 T.ac.f T.ac.fd ["self", "some"] (j8 T.ab):=by
 refine T.ac.F.o1 u8 fun W A p s H vs Q E hr h=>?_
 .obtain⟨x,c,e,A,B,L,m,rfl,r,q⟩:=h;obtain⟨X,a,b,d,kb,Y,e2,e3,e4,Z,e6,n1,n2⟩:=r.ex;have ln:=r.len;refine⟨_,(B5 (C1 (U4 (N':=["bit", "some"]) (cap:=[none,some 1]) (cl:=[("some",_)]) (P3 ⟨⟨rfl,rfl,rfl,rfl⟩,trivial⟩ ⟨rfl,trivial⟩) rfl (Xj (OT K (pv 0))) (fun _ _ _ _=>by exact⟨(MX 0),(T9 (SX K (C4 K5 (pv 0) (pv 1)))),(pv 0)⟩)))),?_⟩;refine A6 rfl ⟨x,T.ab,X,_,A6 rfl ⟨Y,T.ad,T.aC,rfl,c,_,rfl,Z,fun o D j=>?_⟩⟩;have t:D≠c:=fun z=>by rw[z,A9]at j;cases j
  have u:Sm [c] H (HX H c (.frz o (.dK (bK A e.length)))):=(Sm.refl _ _).upd (by simp);have O:Rd (HX H c (.frz o (.dK (bK A e.length)))) c (.dK (bK A e.length)):=.inr ⟨o,A9⟩;have C:(HX H c (.frz o (.dK (bK A e.length)))) c=some (.frz o (.dK (bK A e.length))):=A9;have I:H D=none:=by rw[B6 t]at j;exact j
  have R:=r.fz u O;generalize HX H c (.frz o (.dK (bK A e.length)))=H1 at j u O C R⊢;have S:(bK A e.length).length=e.length:=by unfold bK;rw[AB,CF]
  refine n9 (n:=e.length) (fun i σ G=>(∃U,σ = [U,some (.int (m:Int))])/\F8 H1 G/\G D=some (.lst ((D3 m i).map fun k=>K8 (2^k)))) ⟨⟨_,rfl⟩,F8.new j,A9⟩ ?_ ?_ ?_ ?_
  .rintro i σ G J ⟨_,g,_⟩;exact⟨g _ _ C,by rw[S];exact J⟩
  .rintro σ G ⟨_,g,_⟩;exact⟨g _ _ C,by rw[S];exact Nat.le_refl _⟩
  .rintro i σ G y H' N J ⟨⟨U,rfl⟩,g,l⟩ ⟨rfl,k,v,M,rfl⟩ V;unfold bK at M;rw[AH,List.getElem?_range J]at M;obtain⟨rfl,rfl⟩:=Prod.mk.inj (BE M);refine A6 rfl (A6 rfl (B9 rfl rfl ⟨_,rfl,?_⟩));dsimp only;rw[Iq];have hl:=M5 m i;refine T7 (fun z=>A6 rfl ⟨_,l,by rw[AB,sizeLine_eq];omega,V _ _ ⟨⟨_,rfl⟩,g.upd j,?_⟩⟩) (fun z=>V _ _ ⟨⟨_,rfl⟩,g,?_⟩)
   .rw[A9,O9,AL z,AO];rfl
   .rw[O9,AJ z,CH];exact l
  .rintro σ G ⟨_,g,l⟩;exact q D G I (u.trans g.sm) (R.same g) l
end
def zDz{α:Type}{J:It}{b:A1 α}{r:α->V}(f:α->V){a D:A3}{H:Hp}(as:LP J (b.map r) a H){j:TT}{k:TE}{c:St}{l:A5 V}{Q:St->Hp->Prop}(p:α->Bool)(z:b.length<=5000)(m:H D=none)
  (A:∀y∈b,∀G,F8 H G->∀M:Bool->Hp->Prop,(∀e,F8 G e->M (p y) e)->j (some (r y)::c) G M) (B:∀y∈b,∀G,F8 H G->∀M:VK,(∀e,F8 G e->M (f y) e)->k (some (r y)::c) G M)
  (q:∀σ G,F8 H G->G D=some (.lst ((b.filter p).map f))->Q σ G):Ia (U5 0) j (Bx D k) J (l::c) (HX H D (.lst [])) Q:=by
 refine V0 as (fun i σ G=>(∃v,σ=v::c)/\F8 H G/\G D=some (.lst (((b.take i).filter p).map f))) ⟨⟨_,rfl⟩,F8.new m,A9⟩ (fun i σ G _ h=>h.2.1.at a) ?_ ?_
 .rintro i σ G v N n ⟨⟨l,rfl⟩,d,g⟩ o;rw[AH]at n;obtain⟨y,s,rfl⟩:=BC.mp n;have t:=AK s;refine A y t G d _ fun e u=>?_;have g:=u _ _ g;have d:=d.trans u;have w:(b.take (i+1)).filter p =(b.take i).filter p++if p y=true then [y]else []:=by
   rw[IQ s,DU,DL,GF]
  have C:=BT p (b.take i);rw[AS]at C;refine T7 (fun c=>B y t e d _ fun E x=>⟨_,x _ _ g,by rw[AB,sizeLine_eq];omega,o _ _ ⟨⟨_,rfl⟩,(d.trans x).upd m,?_⟩⟩) (fun c=>o _ _ ⟨⟨_,rfl⟩,d,?_⟩)
  .rw[A9,w,AL c,AO];rfl
  .rw[w,AJ c,CH];exact g
 .rintro σ G ⟨_,d,g⟩;rw[AB,B_]at g;exact q σ G d g
def Hz{α:Type}{J:It}{d:A1 α}{r:α->V}(f:α->V){a D:A3}{H:Hp}(as:LP J (d.map r) a H){h:TT}{i:TE}{c:St}{k:A5 V}{Q:St->Hp->Prop}(p:α->Bool)(g:d.length<=5000)(l:H D=none)
  (m:∀y∈d,∀G,F8 H G->∀M:Bool->Hp->Prop,(∀j,F8 G j->M (p y) j)->h (some (r y)::c) G M) (n:∀y∈d,∀G,F8 H G->∀M:VK,M (f y) G->i (some (r y)::c) G M)
  (q:∀σ G,F8 H G->G D=some (.lst ((d.filter p).map f))->Q σ G):Ia (U5 0) h (Bx D i) J (k::c) (HX H D (.lst [])) Q :=
 zDz f as p g l m (fun y t G s M u=>n y t G s M (u G fun b o e=>e)) q
def JI{m n k:Nat}:k∈D3 m n↔k<n/\m.testBit k=true:=by
 unfold D3;rw[BM,BX]
def Mj(n j:Nat):(2^n-1).testBit j=true↔j<n:=by rw[Nat.testBit_two_pow_sub_one,BQ]
section
variable{P:A7}{w:HW}{K:PySem.W.Frag}{mg:Str->A5 A2}{base:H_}
theorem i8:HY ["self", "some"] ["self", "some"] (B7 LL):=KI
def Jh(C:A3):Sp:=fun d H Q _=>∃(x c:A3) (b:A1 Str) (A B:A1 Nat) (L m:Nat),d = [.ref x,.int (m:Int)]/\HZ C H x c b A B L/\∀l a,H l=none->F8 H a->a l=some (.lst ((I_ b m).map V.str))->Q (.ref l) a
theorem S9(T:Tx K mg):IG P w K mg base IW 1 T.ap.f T.ap.fd ["self", "some"] (Jh T.ab):=by
 refine T.ap.F.o1 i8 fun S A l s H vs Q E U h=>?_
 .obtain⟨x,c,t,A,B,L,m,rfl,u,q⟩:=h;have W:=X5 U;obtain⟨v,a,b,d,C,I,J,X,Y,e5,e6,n1,n2⟩:=u.ex;have ln:=u.len;refine⟨_,(B5 (C1 (U4 (N':=["name", "some", "self"]) (cap:=[none,some 1,some 0]) (cl:=[("some",_),("self",_)]) (P3 ⟨⟨rfl,rfl,rfl,rfl⟩,⟨⟨rfl,rfl,rfl,rfl⟩,trivial⟩⟩ ⟨rfl,⟨rfl,trivial⟩⟩) rfl (OE K (OT K (pv 0))) (fun _ _ _ _=>by exact⟨(MX 0),(T9 (SX K (C4 K5 (K7 W (OT K (pv 2)) (pv 0) (fun _ _=>rfl)) (pv 1)))),(pv 0)⟩)))),?_⟩;refine A6 rfl ⟨x,T.ab,v,_,A6 rfl ⟨I,T.ad,T.aM,rfl,a,rfl,⟨_,IA.of J⟩,fun D p=>?_⟩⟩;refine V0 (NR (IA.of J)) (fun i σ G=>(∃M,σ = [M,some (.int (m:Int)),some (.ref x)])/\F8 H G/\G D=some (.lst ((r8 t m i).map V.str))) ⟨⟨_,rfl⟩,F8.new p,A9⟩ (fun i σ G _ h=>h.2.1.at a) ?_ ?_
  .rintro i σ G y N O ⟨⟨M,rfl⟩,g,j⟩ R;rw[AH]at O;obtain⟨n,k,rfl⟩:=BC.mp O;have li:=(AE.mp k).1;have Z:Rd G b (.dK C):=X.imp (g _ _) fun⟨o,e⟩=>⟨o,g _ _ e⟩;refine A6 rfl ⟨x,T.ab,v,_,A6 rfl ⟨g _ _ I,T.ad,T.a2,rfl,A6 rfl ⟨b,_,rfl,.inl ⟨C,.inr n,Z,rfl,(Y i n k).symm⟩,A6 rfl (B9 rfl rfl ⟨_,rfl,?_⟩)⟩⟩⟩;dsimp only;rw[Iq];have r:=(d0 t m i (by omega)).length_le;rw[AS]at r;refine T7 (fun z=>A6 rfl ⟨_,j,by rw[AB,sizeLine_eq];omega,R _ _ ⟨⟨_,rfl⟩,g.upd p,?_⟩⟩) (fun z=>R _ _ ⟨⟨_,rfl⟩,g,?_⟩)
   .rw[A9,K4 k,AL z,AO];rfl
   .rw[K4 k,AJ z,CH];exact j
  .rintro σ G ⟨_,g,j⟩;rw[AB]at j;exact q D G p g j
theorem MM:HY ["sets", "whole", "one"] ["sets"] (B7 PN):=KI
def Rr(K:PySem.W.Frag):Sp:=fun b H Q _=>∃(l:A3) (a:A1 Nat),b = [.ref l]/\H l=some (.lst (a.map K8))/\∀r:Nat,(∀j,r.testBit j=true↔∃z∈a,z.testBit j=true)->Q (.int (r:Int)) H
theorem Hb(T:Tx K mg):IG P w K mg base IW 1 T.be.f T.be.fd ["sets"] (Rr K):=by
 refine T.be.F.o1 MM fun u A c s H B Q E a h=>?_
 .obtain⟨l,v,rfl,p,q⟩:=h;refine⟨_,(B3 (C6 (i:=1) MM.nd rfl (.inl rfl) B4)
   (B3 (O4 PassesOwn.never rfl (OE K (pv 0)) (D0 (i:=2) MM.nd rfl (.inl rfl))
   (B5 (Zx (i:=1) MM.nd rfl (Or.inl rfl) (pv 2) zEm)))
   (B5 (C1 (pv 1))))),?_⟩
  refine B8 fun C d=>?_;refine d _ _ (B8 fun D g=>?_);refine A6 rfl ⟨l,rfl,⟨_,IA.of p⟩,?_⟩;refine S4 (NR (K:=K) (IA.of p)) (fun i σ G=>G=H/\∃(r:Nat) (k:A5 V),σ = [some (.ref l),some (.int (r:Int)),k]/\∀j,r.testBit j=true↔∃z∈v.take i,z.testBit j=true) ⟨rfl,0,_,rfl,fun j=>by simp⟩ (fun i σ G _ h=>by rw[h.1];exact fun o e=>e) ?_ ?_
  .rintro i σ G y t ⟨rfl,r,k,rfl,a⟩ I m _;rw[AH]at t;obtain⟨z,x,rfl⟩:=BC.mp t;refine A6 rfl (A6 rfl (B9 rfl rfl ?_));dsimp only;rw[QG];refine m _ _ ⟨rfl,_,_,rfl,fun j=>?_⟩;rw[EA,EI,a,IQ x];constructor
   .rintro(⟨n,h1,b⟩ | h)
    .exact⟨n,EQ _ h1,b⟩
    .exact⟨z,BK _ (AF.mpr rfl),h⟩
   .rintro⟨n,h1,b⟩;rcases AW.mp h1 with h1 | h1
    .exact .inl ⟨n,h1,b⟩
    .rw[AF.mp h1]at b;exact .inr b
  .rintro σ G ⟨rfl,r,k,rfl,a⟩;rw[AB,B_]at a;exact g _ _ (A6 rfl (q r a))
def Sr(C:A3)(f:A1 Nat->A1 Nat->A1 Nat):Sp:=fun d H Q _=>∃(x c:A3) (b:A1 Str) (A B:A1 Nat) (L m:Nat),d = [.ref x,.int (m:Int)]/\HZ C H x c b A B L/\∀(r:Nat) a,Sm [c] H a->HZ C a x c b A B L->(∀j,r.testBit j=true↔o0 (f A B) m j)->Q (.int (r:Int)) a
theorem Qa{n m r:Nat}{M:A1 Nat}(b:∀k j,(M.getD k 0).testBit j=true->k<n)(h:∀j,r.testBit j=true↔∃z∈(D3 m n).map (fun k=>M.getD k 0),z.testBit j=true)(j:Nat):r.testBit j=true↔o0 M m j:=by
 rw[h];constructor
 .rintro⟨z,c,e⟩;obtain⟨k,a,rfl⟩:=AV.mp c;exact⟨k,(JI.mp a).2,e⟩
 .rintro⟨k,a,e⟩;exact⟨_,AV.mpr ⟨k,JI.mpr ⟨b k j e,a⟩,rfl⟩,e⟩
theorem Y8:HY ["self", "some"] ["self", "some"] (B7 LA):=KI
theorem J8(T:Tx K mg):IG P w K mg base IW 2 T.ag.f T.ag.fd ["self", "some"] (Sr T.ab fun _ B=>B):=by
 refine T.ag.F.o1 Y8 fun J A t s H V Q E n h=>?_
 .obtain⟨x,c,y,A,B,L,m,rfl,g,q⟩:=h;have N:=X5 n;obtain⟨u,a,b,d,O,v,_⟩:=g.ex;have W:=g.len;refine⟨_,(B5 (C1 (C9 T.be (Hb T) (Rm n) (A8 (U4 (N':=["bit", "self"]) (cap:=[none,some 0]) (cl:=[("self",_)]) (P3 ⟨⟨rfl,rfl,rfl,rfl⟩,trivial⟩ ⟨rfl,trivial⟩) rfl (OE K (E1 (pv 0) T.ad T.ac.m (E4 T) (Rm n) T.ac.b .nil M0 (A8 (pv 1) B1))) (fun _ _ _ _=>by exact⟨(MX 0),K1,(K7 N (OT K (pv 1)) (pv 0) (fun _ _=>rfl))⟩)) B1)))),?_⟩;refine A6 rfl ⟨x,u,A6 rfl ⟨v,rfl,A6 rfl ⟨x,c,y,A,B,L,m,rfl,g,fun l X Y R z C=>?_⟩⟩⟩;obtain⟨u,a,b,d,O,v,Z,e3,e4,e5,S,n1,n2⟩:=z.ex;refine⟨l,rfl,⟨_,IA.of C⟩,fun D U=>?_⟩;refine Hz (fun k=>K8 (B.getD k 0)) (NR (IA.of C)) (fun _=>true) (Nat.le_trans (M5 ..) (by omega)) U (fun k I G i M g=>g G fun b o e=>e) (fun k I G i M g=>?_) fun σ' G i p=>?_
  .exact A6 rfl ⟨x,T.ab,u,_,A6 rfl ⟨i _ _ v,T.ad,T.bd,rfl,A6 rfl ⟨d,_,rfl,.inl ⟨_,.inl ((2^k:Nat):Int),.inl (i _ _ S),rfl,(Ky B (JI.mp I).1).symm⟩,g⟩⟩⟩
  rw[EW.mpr fun _ _=>rfl]at p;have p:G D=some (.lst (((D3 m y.length).map fun k=>B.getD k 0).map K8)):=by rw[p,CG];rfl
  refine⟨D,_,rfl,p,fun r n=>q r G (R.trans i.sm) (z.same i) (Qa (fun k j e=>(g.net.lt k j e).1) n)⟩
theorem W5:HY ["self", "some"] ["self", "some"] (B7 KL):=KI
theorem E9(T:Tx K mg):IG P w K mg base IW 2 T.ae.f T.ae.fd ["self", "some"] (Sr T.ab fun A _=>A):=by
 refine T.ae.F.o1 W5 fun J A t s H V Q E n h=>?_
 .obtain⟨x,c,y,A,B,L,m,rfl,g,q⟩:=h;have N:=X5 n;obtain⟨u,a,b,d,O,v,_⟩:=g.ex;have W:=g.len;refine⟨_,(B5 (C1 (C9 T.be (Hb T) (Rm n) (A8 (U4 (N':=["bit", "self"]) (cap:=[none,some 0]) (cl:=[("self",_)]) (P3 ⟨⟨rfl,rfl,rfl,rfl⟩,trivial⟩ ⟨rfl,trivial⟩) rfl (OE K (E1 (pv 0) T.ad T.ac.m (E4 T) (Rm n) T.ac.b .nil M0 (A8 (pv 1) B1))) (fun _ _ _ _=>by exact⟨(MX 0),K1,(K7 N (OT K (pv 1)) (pv 0) (fun _ _=>rfl))⟩)) B1)))),?_⟩;refine A6 rfl ⟨x,u,A6 rfl ⟨v,rfl,A6 rfl ⟨x,c,y,A,B,L,m,rfl,g,fun l X Y R z C=>?_⟩⟩⟩;obtain⟨u,a,b,d,O,v,Z,e3,e4,S,e6,n1,n2⟩:=z.ex;refine⟨l,rfl,⟨_,IA.of C⟩,fun D U=>?_⟩;refine Hz (fun k=>K8 (A.getD k 0)) (NR (IA.of C)) (fun _=>true) (Nat.le_trans (M5 ..) (by omega)) U (fun k I G i M g=>g G fun b o e=>e) (fun k I G i M g=>?_) fun σ' G i p=>?_
  .exact A6 rfl ⟨x,T.ab,u,_,A6 rfl ⟨i _ _ v,T.ad,T.aC,rfl,A6 rfl ⟨c,_,rfl,.inl ⟨_,.inl ((2^k:Nat):Int),S.imp (i _ _) fun⟨o,e⟩=>⟨o,i _ _ e⟩,rfl,(Ky A (JI.mp I).1).symm⟩,g⟩⟩⟩
  rw[EW.mpr fun _ _=>rfl]at p;have p:G D=some (.lst (((D3 m y.length).map fun k=>A.getD k 0).map K8)):=by rw[p,CG];rfl
  refine⟨D,_,rfl,p,fun r n=>q r G (R.trans i.sm) (z.same i) (Qa (fun k j e=>(g.net.lt j k ((g.net.tr k j).mp e)).2) n)⟩
theorem W2:HY ["self", "some"] ["self", "some"] (B7 KJ):=KI
def Js(C:A3):Sp:=fun d H Q _=>∃(x c:A3) (a:A1 Str) (A B:A1 Nat) (L m:Nat),d = [.ref x,.int (m:Int)]/\HZ C H x c a A B L/\∀(r:Nat) b,Sm [c] H b->HZ C b x c a A B L->(∀j,r.testBit j=true↔j<a.length/\¬o0 B m j)->Q (.int (r:Int)) b
theorem W3(T:Tx K mg):IG P w K mg base IW 3 T.aw.f T.aw.fd ["self", "some"] (Js T.ab):=by
 refine T.aw.F.o1 W2 fun t A i s H I Q E g h=>?_
 .obtain⟨x,c,n,A,B,L,m,rfl,l,q⟩:=h;obtain⟨o,a,b,d,J,p,_⟩:=l.ex;refine⟨_,(B5 (C1 (C4 Wb (OT K (pv 0)) (E1 (pv 0) T.ad T.ag.m (J8 T) (Rm g) T.ag.b .nil M0 (A8 (pv 1) B1))))),?_⟩;refine A6 rfl ⟨x,T.ab,o,_,A6 rfl ⟨p,T.ad,T.bl,rfl,A6 rfl ⟨x,o,A6 rfl ⟨p,rfl,A6 rfl ⟨x,c,n,A,B,L,m,rfl,l,fun r u v y g=>?_⟩⟩⟩⟩⟩;obtain⟨z,C,D⟩:=zGl (2^n.length-1) r fun j G=>by
   obtain⟨k,_,e⟩:=(g j).mp G;exact(Mj _ _).mpr (l.net.lt k j e).2
  refine⟨_,_,rfl,rfl,?_⟩;dsimp only;rw[C];exact q z u v y fun j=>by rw[D,Mj,g]
theorem Ey:HY ["some"] ["some"] (B7 OD):=KI
def Th:Sp:=fun a H Q _=>∃s:Nat,a = [.int (s:Int)]/\0<s/\∀k:Nat,s.testBit k=true->(∀i,i<k->¬s.testBit i=true)->Q (.int ((2^k:Nat):Int)) H
theorem Ft(T:Tx K mg):IG P w K mg base IW 1 T.a3.f T.a3.fd ["some"] Th:=by
 refine T.a3.F.o1 Ey fun b A a s H j Q E l h=>?_
 .obtain⟨s,rfl,c,q⟩:=h;refine⟨_,(B5 (C1 (C4 K5 (pv 0) (Iw Re (pv 0))))),?_⟩;refine A6 rfl (A6 rfl ⟨_,rfl,B9 rfl rfl ?_⟩);obtain⟨k,d,m,g⟩:=Qq s c;have e:-(s:Int)=Builtin.bitNot (((s-1:Nat)):Int):=by unfold Builtin.bitNot;omega
  have:=q k d g;dsimp only;rw[e,PyProof.Rows.bitAnd_not,Ob];have i:(s:Int)-((s &&&(s-1):Nat):Int) =((2^k:Nat):Int):=by
   have:s &&&(s-1)<=s:=Nat.and_le_left;omega
  rw[i];exact this
end
def Iz(κ:Nat->IR)(v:Nat->V){N:Nat}(b:∀i j,i<N->j<N->κ i=κ j->i=j):∀n,n<=N->∀i,i<N->S6 ((List.range n).map fun k=>(κ k,v k)) (κ i)=if i<n then some (v i)else none
 | 0,_,i,_=>rfl
 | n+1,h,i,f=>by
  have a:=Iz κ v b n (by omega) i f;unfold S6 at a⊢;rw[EG,AO,List.find?_append];by_cases c:i<n
  .rw[AL c]at a;rw[AL (by omega)];cases e:(List.find? (fun d:IR×V=>decide (d.1=κ i)) ((List.range n).map fun k=>(κ k,v k)))with
   | none=>rw[e]at a;cases a
   | some q=>rw[e]at a;rw[Option.some_or];exact a
  .rw[AJ c]at a;cases e:(List.find? (fun d:IR×V=>decide (d.1=κ i)) ((List.range n).map fun k=>(κ k,v k)))with
   | some q=>rw[e]at a;cases a
   | none =>
    rw[Option.none_or,A_,EV];by_cases g:i=n
    .subst g;rw[BB rfl,AL (by omega)];rfl
    .rw[BD fun z=>g (b n i (by omega) f z).symm,AJ (by omega)];rfl
def Oh(κ:Nat->IR)(v:Nat->V){N:Nat}(a:∀i j,i<N->j<N->κ i=κ j->i=j){n:Nat}(h:n<N):p9 ((List.range n).map fun k=>(κ k,v k)) (κ n) (v n) =(List.range (n+1)).map fun k=>(κ k,v k):=by
 rw[Ul _ (by rw[Iz κ v a n (by omega) n h,AJ (by omega)]),EG,AO];rfl
def Mc:∀n,(((List.range n).map fun k=>((2^k:Nat):Int)).sum) =((2^n-1:Nat):Int)
 | 0=>rfl
 | n+1=>by
  rw[EG,AO,List.sum_append,Mc n];have:0<2^n:=Nat.pow_pos (by decide);simp only[A_,GP,GY,List.sum_nil,Nat.pow_succ];omega
def Ki(l:A1 Nat):((l.map fun k=>((2^k:Nat):Int)).sum) =(((l.map fun k=>2^k).sum:Nat):Int):=by
 induction l with
 | nil=>rfl
 | cons a r b=>rw[A_,GY,b,A_,GY];omega
def Fi{ns:A1 Str}{y:Str}(h:y∈ns):ns[ns.idxOf y]?=some y:=by
 rw[AC (List.idxOf_lt_length_of_mem h),List.getElem_idxOf]
def ML(ns:A1 Str)(g:Str->A1 Str):A1 Nat:=ns.map fun n=>((g n).map fun y=>2^ns.idxOf y).sum
def Zn{ns:A1 Str}{g:Str->A1 Str}{i:Nat}{n:Str}(h:ns[i]?=some n):(ML ns g).getD i 0 =(((g n).map fun y=>ns.idxOf y).map fun k=>2^k).sum:=by
 unfold ML;rw[AN,AH,h,CG];rfl
def zAz{ns:A1 Str}{g:Str->A1 Str}{ks:A1 (Str×Str)}(p:ns.Nodup)(q:∀n∈ns,(g n).Nodup)(h:∀n∈ns,∀y,y∈g n↔(n,y)∈ks)(c:∀k∈ks,k.1∈ns/\k.2∈ns):MB ns ks (ML ns g):=by
 refine⟨by unfold ML;rw[AB],fun i j=>?_⟩;cases l:ns[i]? with
 | none =>
  have e:(ML ns g).getD i 0=0:=by unfold ML;rw[AN,AH,l];rfl
  rw[e,CC];exact⟨fun z=>(by cases z),fun⟨k,_,z,_⟩=>(by cases z)⟩
 | some n =>
  have d:=AK l;have r:((g n).map fun y=>ns.idxOf y).Nodup:=by
   refine CP.mpr (FS (fun{a b} s t u e=>u ?_) (q n d));have o:=Fi (c _ ((h n d a).mp s)).2;have v:=Fi (c _ ((h n d b).mp t)).2;rw[e,v]at o;exact(BE o).symm
  rw[Zn l,Ab r,AV];constructor
  .rintro⟨y,w,rfl⟩;have f:=(h n d y).mp w;exact⟨_,f,rfl,Fi (c _ f).2⟩
  .rintro⟨k,f,m,x⟩;have m:=BE m;refine⟨k.2,(h n d k.2).mpr (by rw[m];exact f),?_⟩;exact G8 p (Fi (c _ f).2) x
def Lz{J:It}{a D:A3}{ns:A1 Str}{H:Hp}{Q:St->Hp->Prop}(as:LP J (ns.map V.str) a H){j l:TE}{r:St}{m:A5 V}(M:A1 Nat)(t:ns.length<=1000)(o:H D=none)
  (u:∀i n G (R:VK),ns[i]?=some n->F8 H G->R (K8 (2^i)) G->j (some (.str n)::r) G R)
  (w:∀i n G (R:VK),ns[i]?=some n->F8 H G->(∀f,F8 G f->R (K8 (M.getD i 0)) f)->l (some (.str n)::r) G R)
  (q:∀σ G,F8 H G->G D=some (.dK (bK M ns.length))->Q σ G):Ia (U5 0) Ca (Uw D j l) J (m::r) (HX H D (.dK [])) Q:=by
 refine V0 as (fun i σ G=>(∃v,σ=v::r)/\F8 H G/\G D=some (.dK (bK M i))) ⟨⟨_,rfl⟩,F8.new o,A9⟩ (fun i σ G _ h=>h.2.1.at a) ?_ ?_
 .rintro i σ G v N p ⟨⟨m,rfl⟩,c,d⟩ x;rw[AH]at p;obtain⟨n,g,rfl⟩:=BC.mp p;have y:=(AE.mp g).1;refine Cj (u i n G _ g c (w i n G _ g c fun f s=>?_));refine⟨bK M i,.inl ((2^i:Nat):Int),s _ _ d,rfl,by unfold bK;rw[AB,CF,sizeLine_eq];omega,x _ _ ⟨⟨_,rfl⟩,(c.trans s).upd o,?_⟩⟩;rw[A9];unfold bK;rw[Oh (fun k=>(Sum.inl ((2^k:Nat):Int):IR)) (fun k=>K8 (M.getD k 0)) (N:=i+1) (fun a b _ _ e=>Oq (Sum.inl.inj e)) (E_ i)]
 .rintro σ G ⟨_,c,d⟩;rw[AB]at d;exact q σ G c d
def JX.smx{C M:A3}{H H':Hp}{x w g:A3}{ns:A1 Str}{i:A1 JF}(h:JX C H w ns i)(j:H x=some (.ins M g []))(s:Sm [x] H H'):JX C H' w ns i:=by
 obtain⟨m,p,a,b,c,d,r,t,u,y,A,B,D,E,F,G⟩:=h;have k:∀{b:A3} {o:HO},H b=some o->o≠ .ins M g []->H' b=some o:=fun e n=>s _ _ e fun z=>n (by rw[AF.mp z,j]at e;exact(BE e).symm);exact⟨m,p,a,b,c,d,r,t,k u (by unfold wf;intro z;cases z),k y (by intro z;cases z),k A (by intro z;cases z),fun q I=>k (B q I) (by intro z;cases z),k D (by intro z;cases z),k E (by intro z;cases z),fun n f=>let⟨l,v,e⟩:=F n f;⟨l,v,k e (by intro z;cases z)⟩,fun n f=>let⟨l,v,e⟩:=G n f;⟨l,v,k e (by intro z;cases z)⟩⟩
def Ha{a:A1 JF}{n y:Str}:y∈C3 a n↔(n,y)∈(a.map fun q=>q.2).map fun k=>(k.2,k.1):=by
 unfold C3;rw[CG,AV,AV];constructor
 .rintro⟨q,h,rfl⟩;obtain⟨b,c⟩:=BM.mp h;exact⟨q,b,Prod.ext (BZ c) rfl⟩
 .rintro⟨q,h,e⟩;exact⟨q,BM.mpr ⟨h,BB (congrArg Prod.fst e)⟩,congrArg Prod.snd e⟩
def Iy{a:A1 JF}{n y:Str}:y∈E2 a n↔(n,y)∈a.map fun q=>q.2:=by
 unfold E2;rw[AV,AV];constructor
 .rintro⟨q,h,rfl⟩;obtain⟨b,c⟩:=BM.mp h;exact⟨q,b,Prod.ext (BZ c) rfl⟩
 .rintro⟨q,h,e⟩;exact⟨q,BM.mpr ⟨h,BB (congrArg Prod.fst e)⟩,congrArg Prod.snd e⟩
def Iv{c:A1 JF}(h:(c.map fun q=>q.2).Nodup)(n:Str):(C3 c n).Nodup:=by
 unfold C3;refine CP.mpr (FS (fun{a b} d f g e=>g ?_) ((CP.mp h).sublist DM));exact Prod.ext e ((BZ (BM.mp d).2).trans (BZ (BM.mp f).2).symm)
def Qb{c:A1 JF}(h:(c.map fun q=>q.2).Nodup)(n:Str):(E2 c n).Nodup:=by
 unfold E2;refine CP.mpr (FS (fun{a b} d f g e=>g ?_) ((CP.mp h).sublist DM));exact Prod.ext ((BZ (BM.mp d).2).trans (BZ (BM.mp f).2).symm) e
def P6(ns:A1 Str)(i:Nat):A1 (IR×V):=(List.range i).map fun k=>((Sum.inr (ns.getD k ""):IR),K8 (2^k))
def Dv{ns:A1 Str}{i:Nat}{n:Str}(h:ns[i]?=some n):ns.getD i "" = n:=by rw[AN,h];rfl
def Vx{ns:A1 Str}(c:ns.Nodup):∀i j,i<ns.length->j<ns.length->(Sum.inr (ns.getD i ""):IR)=Sum.inr (ns.getD j "")->i=j:=fun i j a b e=>by
 have e:=Sum.inr.inj e;rw[Dv (AC a),Dv (AC b)]at e;exact G8 c (AC a) (by rw[AC b,e])
def Ks{ns:A1 Str}(b:ns.Nodup){i:Nat}{n:Str}(h:ns[i]?=some n):S6 (P6 ns ns.length) (.inr n)=some (K8 (2^i)):=by
 have a:=(AE.mp h).1;have:=Iz (fun k=>(Sum.inr (ns.getD k ""):IR)) (fun k=>K8 (2^k)) (Vx b) ns.length (Nat.le_refl _) i a;rw[AL a]at this;rw[Dv h]at this;exact this
section
variable{P:A7}{w:HW}{K:PySem.W.Frag}{mg:Str->A5 A2}{base:H_}
theorem Mb{G:Hp}{b l:A3}{ns a:A1 Str}{R:VK}(m:ns.Nodup)(n:G b=some (.dK (P6 ns ns.length)))(q:G l=some (.lst (a.map V.str)))(r:∀y∈a,y∈ns)(s:a.length<=1000)(t:∀g,F8 G g->R (.int ((((a.map fun y=>ns.idxOf y).map fun k=>2^k).sum:Nat):Int)) g) :
  ∀D,G D=none->Ia (U5 0) Ca (Bx D (Um (Vd 1) (Vd 0))) (SO K l) [none,some (.ref b)] (HX G D (.lst [])) fun _ h=>∃(p:A3) (zs:A1 Int),[V.ref D] = [.ref p]/\IA K h p (zs.map V.int)/\R (.int zs.sum) h:=fun D u=>by
 refine Hz (fun y=>K8 (2^ns.idxOf y)) (NR (IA.of q)) (fun _=>true) (by omega) u (fun y i c d M f=>f c fun b o e=>e) (fun y i c d M f=>?_) fun σ c d j=>?_
 .exact A6 rfl (A6 rfl ⟨b,_,rfl,.inl ⟨_,.inr y,.inl (d _ _ n),rfl,(Ks m (Fi (r y i))).symm⟩,f⟩)
 .rw[EW.mpr fun _ _=>rfl]at j;refine⟨D,(a.map fun y=>ns.idxOf y).map fun k=>((2^k:Nat):Int),rfl,IA.of (by rw[j,CG,CG];rfl),?_⟩;rw[Ki];exact t c d
theorem KY:HY ["self", "web", "bits"] ["self", "web"] (B7 LN):=KI
def Et(e g:A3):Sp:=fun h H Q _=>∃(x i f:A3) (a:A1 Str) (b:A1 JF),h = [.ref x,.ref f]/\H x=some (.ins e i [])/\JX g H f a b /\
 ∀(c:A3) (A B:A1 Nat) (L:Nat) d,H c=none->Sm [x] H d->HZ e d x c a A B L->MB a ((b.map fun q=>q.2).map fun k=>(k.2,k.1)) A->MB a (b.map fun q=>q.2) B->Q .non d
set_option maxHeartbeats 4000000 in
theorem El(T:Tx K mg):IG P w K mg base IW 3 T.bn T.bm ["self", "web"] (Et T.ab T.ah):=by
 refine T.bo.o1 KY fun cdv A outer s H vs Q E hr h=>?_
 .obtain⟨x,e,wb,ns,r,rfl,hx,hW,q⟩:=h;have hu:=X5 hr;have u:=hW.ok;have ln:=u.len;have U:=u.nd;refine⟨_,(B3 (Q_ K (pv 0) (Uh (pv 1) T.ax T.aE.m (r9 T) (Rm hr) T.aE.b .nil M0))
   (B3 (C6 (i:=2) KY.nd rfl (.inr rfl) (Rq (N':=["place", "name"]) (cap:=[none,none]) (cl:=[]) (P3 trivial trivial) rfl (SJ K T.aF (A8 (OT K (pv 0)) B1)) (fun _ _ _ _=>by exact⟨(QA K (n:=2) (C8 (MX 0) (C8 (MX 1) M9))),K1,(pv 1),(C4 Aq B4 (pv 0))⟩)))
   (B3 (Q_ K (pv 0) (G0 Xe T.bh Fm (A8 (On (pv 2)) B1)))
   (B3 (Q_ K (pv 0) (pv 2))
   (B3 (Q_ K (pv 0) (Rq (N':=["name", "bits", "web"]) (cap:=[none,some 2,some 1]) (cl:=[("web",_),("bits",_)]) (P3 ⟨⟨rfl,rfl,rfl,rfl⟩,⟨⟨rfl,rfl,rfl,rfl⟩,trivial⟩⟩ ⟨rfl,⟨rfl,trivial⟩⟩) rfl (OE K (OT K (pv 0))) (fun _ _ _ _=>by exact⟨(MX 0),K1,(K7 hu (pv 1) (pv 0) (fun _ _=>rfl)),(G0 (Lh K) T.bh Fm (A8 (U4 (N':=["one", "bits"]) (cap:=[none,some 1]) (cl:=[("bits",_)]) (P3 ⟨⟨rfl,rfl,rfl,rfl⟩,trivial⟩ ⟨rfl,trivial⟩) rfl (OE K (E1 (pv 2) T.ax T.aH.m (Bl T) (Rm hr) T.aH.b .nil M0 (A8 (pv 0) B1))) (fun _ _ _ _=>by exact⟨(MX 0),K1,(K7 hu (pv 1) (pv 0) (fun _ _=>rfl))⟩)) B1))⟩)))
   (B3 (Q_ K (pv 0) (Rq (N':=["name", "bits", "web"]) (cap:=[none,some 2,some 1]) (cl:=[("web",_),("bits",_)]) (P3 ⟨⟨rfl,rfl,rfl,rfl⟩,⟨⟨rfl,rfl,rfl,rfl⟩,trivial⟩⟩ ⟨rfl,⟨rfl,trivial⟩⟩) rfl (OE K (OT K (pv 0))) (fun _ _ _ _=>by exact⟨(MX 0),K1,(K7 hu (pv 1) (pv 0) (fun _ _=>rfl)),(G0 (Lh K) T.bh Fm (A8 (U4 (N':=["one", "bits"]) (cap:=[none,some 1]) (cl:=[("bits",_)]) (P3 ⟨⟨rfl,rfl,rfl,rfl⟩,trivial⟩ ⟨rfl,trivial⟩) rfl (OE K (E1 (pv 2) T.ax T.aR.m (Ev T) (Rm hr) T.aR.b .nil M0 (A8 (pv 0) B1))) (fun _ _ _ _=>by exact⟨(MX 0),K1,(K7 hu (pv 1) (pv 0) (fun _ _=>rfl))⟩)) B1))⟩)))
   (B5 (Q_ K (pv 0) (G0 (Lh K) T.bh Fm (A8 (U4 (N':=["bit", "self"]) (cap:=[none,some 0]) (cl:=[("self",_)]) (P3 ⟨⟨rfl,rfl,rfl,rfl⟩,trivial⟩ ⟨rfl,trivial⟩) rfl (zAm (On (pv 2))) (fun _ _ _ _=>by exact⟨(MX 0),(T9 (SX K (C4 K5 (pv 0) (K7 hu (OT K (pv 1)) (pv 0) (fun _ _=>rfl))))),(pv 0)⟩)) B1)))))))))),?_⟩
  have f:∀{b:A3},b≠x->b∉[x]:=fun h z=>h (AF.mp z);refine B8 fun Z1 hZ1=>?_;obtain⟨_,dw,_,_,_,_,_,_,ew,_⟩:=id hW;refine A6 rfl ⟨wb,dw,A6 rfl ⟨ew,rfl,wb,ns,r,rfl,hW,fun a hl1=>?_⟩⟩;have C:x≠a:=B2 hx hl1;refine A6 rfl ⟨x,T.ab,e,[],rfl,(B6 C).trans hx,T.ad,T.aM,by decide,?_⟩;have k1:Sm [x] H (HX (HX H a (.lst (ns.map V.str))) x (.ins T.ab e (Q1 "names" (.ref a) []))):=(Sm.new (Sm.refl _ _) hl1).upd (by simp);have a1:(HX (HX H a (.lst (ns.map V.str))) x (.ins T.ab e (Q1 "names" (.ref a) []))) a=some (.lst (ns.map V.str)):=(B6 C.symm).trans A9;have x1:(HX (HX H a (.lst (ns.map V.str))) x (.ins T.ab e (Q1 "names" (.ref a) []))) x=some (.ins T.ab e [("names",.ref a)]):=by rw[A9];rfl
  generalize HX (HX H a (.lst (ns.map V.str))) x (.ins T.ab e (Q1 "names" (.ref a) []))=H1 at k1 a1 x1⊢;refine hZ1 _ _ (B8 fun Z2 hZ2=>?_);refine A6 rfl ⟨x,T.ab,e,_,A6 rfl ⟨x1,T.ad,T.aM,rfl,a,A6 rfl ⟨IA.of a1,fun b hb=>?_⟩⟩⟩;refine n9 (n:=ns.length) (fun i σ G=>(∃v0 v1,σ = [v0,v1])/\F8 H1 G/\G b=some (.dK (P6 ns i))) ⟨⟨_,_,rfl⟩,F8.new hb,A9⟩ ?_ ?_ ?_ ?_
  .rintro i σ G W ⟨_,p,_⟩;exact⟨_,_,(p.at a).seqL (IA.of a1),by rw[AH,AC W];rfl⟩
  .rintro σ G ⟨_,p,_⟩;exact⟨_,(p.at a).seqL (IA.of a1),by rw[AB]⟩
  .rintro i σ G y H' N W ⟨⟨v0,v1,rfl⟩,p,eG⟩ ⟨t,y,rfl,ht,rfl,O⟩ hN;have O:=O _ ((p.at a).seqL (IA.of a1));have hi':ns[i]?=some ns[i]:=AC W;rw[AH,hi']at O;cases O;refine⟨t,A6 rfl ⟨IZ.of A9,rfl,_,A6 rfl (B9 rfl rfl (Xz ?_))⟩⟩;refine A6 rfl (A6 rfl (B9 rfl rfl ⟨⟨by omega,by omega,by decide⟩,?_⟩));dsimp only;rw[Vr];have st:=p.trans (F8.new (o:=.tup [.int i,.str ns[i]]) ht);refine⟨P6 ns i,.inr ns[i],(B6 (B2 eG ht)).trans eG,rfl,by unfold P6;rw[AB,CF,sizeLine_eq];omega,hN _ _ ⟨⟨_,_,rfl⟩,st.upd hb,?_⟩⟩;rw[A9];have:=Oh (fun k=>(Sum.inr (ns.getD k ""):IR)) (fun k=>K8 (2^k)) (Vx U) W;rw[Dv hi']at this;exact congrArg (fun z=>some (HO.dK z)) this
  rintro σ2 H2 ⟨_,s2,b2⟩;have F:x≠b:=B2 x1 hb;have x2:=s2 _ _ x1;have a2:=s2 _ _ a1;have k2:=k1.trans s2.sm;refine hZ2 _ _ (B8 fun Z3 hZ3=>?_);refine A6 rfl ⟨b,_,rfl,b2,fun v hv=>?_⟩;have I:=F8.new (o:=La v b) hv;have fv:(HX H2 v (La v b)) v=some (La v b):=A9;generalize HX H2 v (La v b)=X at I fv⊢;refine⟨v,b,P6 ns ns.length,(List.range ns.length).map fun k=>((2^k:Nat):Int),rfl,fv,I _ _ b2,by unfold P6;rw[CG,CG];rfl,?_⟩;rw[Mc];have x2:=I _ _ x2;have a2:=I _ _ a2;have b2:=I _ _ b2;have k2:=k2.trans I.sm;refine A6 rfl ⟨x,T.ab,e,_,rfl,x2,T.ad,T.bl,by simp,?_⟩;have k3:Sm [x] X (HX X x (.ins T.ab e (Q1 "full" (.int ((2^ns.length-1:Nat):Int)) [("names",.ref a)]))):=(Sm.refl _ _).upd (by simp);have x3:(HX X x (.ins T.ab e (Q1 "full" (.int ((2^ns.length-1:Nat):Int)) [("names",.ref a)]))) x=some (.ins T.ab e [("names",.ref a),("full",K8 (2^ns.length-1))]):=by rw[A9];rfl
  generalize HX X x (.ins T.ab e (Q1 "full" (.int ((2^ns.length-1:Nat):Int)) [("names",.ref a)]))=H3 at k3 x3⊢;have a3:=k3 _ _ a2 (f C.symm);have b3:=k3 _ _ b2 (f F.symm);have k3:=k2.trans k3;refine hZ3 _ _ (B8 fun Z4 hZ4=>?_);refine A6 rfl (A6 rfl ⟨x,T.ab,e,_,rfl,x3,T.ad,T.a2,by simp,?_⟩);have k4:Sm [x] H3 (HX H3 x (.ins T.ab e (Q1 "bit_of" (.ref b) [("names",.ref a),("full",K8 (2^ns.length-1))]))):=(Sm.refl _ _).upd (by simp);have x4:(HX H3 x (.ins T.ab e (Q1 "bit_of" (.ref b) [("names",.ref a),("full",K8 (2^ns.length-1))]))) x=some (.ins T.ab e [("names",.ref a),("full",K8 (2^ns.length-1)),("bit_of",.ref b)]):=by rw[A9];rfl
  generalize HX H3 x (.ins T.ab e (Q1 "bit_of" (.ref b) [("names",.ref a),("full",K8 (2^ns.length-1))]))=H4 at k4 x4⊢;have a4:=k4 _ _ a3 (f C.symm);have b4:=k4 _ _ b3 (f F.symm);have k4:=k3.trans k4;refine hZ4 _ _ (B8 fun Z5 hZ5=>?_);have mA:=zAz (ns:=ns) (g:=C3 r) (ks:=(r.map fun q=>q.2).map fun k=>(k.2,k.1)) U (fun n _=>Iv u.ndq n) (fun n _ y=>Ha) fun k hk=>by
   rw[CG]at hk;obtain⟨q,hq,rfl⟩:=AV.mp hk;exact⟨(u.mem q hq).2,(u.mem q hq).1⟩
  have mB:=zAz (ns:=ns) (g:=E2 r) (ks:=r.map fun q=>q.2) U (fun n _=>Qb u.ndq n) (fun n _ y=>Iy) fun k hk=>by
   obtain⟨q,hq,rfl⟩:=AV.mp hk;exact u.mem q hq
  have S:QO ns.length (ML ns (C3 r)) (ML ns (E2 r)):=MB.net mA mB;have W4:=hW.smx hx k4;have ins1:∀{n:Str} (y:Str),y∈C3 r n->y∈ns:=fun y O=>by
   obtain⟨q,hq,rfl⟩:=AV.mp O;exact(u.mem q (BM.mp hq).1).1
  have ins2:∀{n:Str} (y:Str),y∈E2 r n->y∈ns:=fun y O=>by
   obtain⟨q,hq,rfl⟩:=AV.mp O;exact(u.mem q (BM.mp hq).1).2
  have lq:=u.lenq;have QV:∀n,(C3 r n).length<=1000:=fun n=>by unfold C3;rw[AB];have:=BT (fun q:JF=>decide (q.2.2=n)) r;omega
  have QI:∀n,(E2 r n).length<=1000:=fun n=>by unfold E2;rw[AB];have:=BT (fun q:JF=>decide (q.2.1=n)) r;omega
  refine A6 rfl ⟨x,T.ab,e,_,A6 rfl ⟨x4,T.ad,T.aM,rfl,a,rfl,⟨_,IA.of a4⟩,fun c hc=>?_⟩⟩;refine Lz (NR (IA.of a4)) (ML ns (C3 r)) (by omega) hc (fun i n G R Y p hR=>?_) (fun i n G R Y p hR=>?_) fun σ5 H5 s5 c5=>?_
  .exact A6 rfl (A6 rfl ⟨b,_,rfl,.inl ⟨_,.inr n,.inl (p _ _ b4),rfl,(Ks U Y).symm⟩,hR⟩)
  .have WG:=W4.same p;obtain⟨_,dw,_,_,_,_,_,_,ew,_⟩:=id WG;refine A6 rfl ⟨wb,dw,A6 rfl ⟨ew,rfl,A6 rfl ⟨wb,n,ns,r,rfl,WG,AK Y,fun l hl=>?_⟩⟩⟩;have ul:=F8.new (o:=.lst ((C3 r n).map V.str)) hl;refine⟨l,rfl,⟨_,IA.of A9⟩,Mb U (ul _ _ (p _ _ b4)) A9 (fun y O=>ins1 y O) (QV n) fun G' s'=>?_⟩;have:=hR G' (ul.trans s');rw[Zn Y]at this;exact this
  generalize ML ns (C3 r)=A at mA S c5;have hc0:H c=none:=k4.none (f (B2 x4 hc).symm) hc;have nxc:x≠c:=B2 x4 hc;have x5:=s5 _ _ x4;have a5:=s5 _ _ a4;have b5:=s5 _ _ b4;have bc:b≠c:=B2 b4 hc;have k5:=k4.trans s5.sm;refine A6 rfl ⟨x,T.ab,e,_,rfl,x5,T.ad,T.aC,by simp,?_⟩;have k6:Sm [x] H5 (HX H5 x (.ins T.ab e (Q1 "strikers_of" (.ref c) [("names",.ref a),("full",K8 (2^ns.length-1)),("bit_of",.ref b)]))):=(Sm.refl _ _).upd (by simp);have x6:(HX H5 x (.ins T.ab e (Q1 "strikers_of" (.ref c) [("names",.ref a),("full",K8 (2^ns.length-1)),("bit_of",.ref b)]))) x=some (.ins T.ab e [("names",.ref a),("full",K8 (2^ns.length-1)),("bit_of",.ref b),("strikers_of",.ref c)]):=by rw[A9];rfl
  generalize HX H5 x (.ins T.ab e (Q1 "strikers_of" (.ref c) [("names",.ref a),("full",K8 (2^ns.length-1)),("bit_of",.ref b)]))=H6 at k6 x6⊢;have a6:=k6 _ _ a5 (f C.symm);have b6:=k6 _ _ b5 (f F.symm);have c6:=k6 _ _ c5 (f nxc.symm);have k6:=k5.trans k6;have W6:=hW.smx hx k6;refine hZ5 _ _ (B8 fun Z6 hZ6=>?_);refine A6 rfl ⟨x,T.ab,e,_,A6 rfl ⟨x6,T.ad,T.aM,rfl,a,rfl,⟨_,IA.of a6⟩,fun d hd=>?_⟩⟩;refine Lz (NR (IA.of a6)) (ML ns (E2 r)) (by omega) hd (fun i n G R Y p hR=>?_) (fun i n G R Y p hR=>?_) fun σ7 H7 s7 d7=>?_
  .exact A6 rfl (A6 rfl ⟨b,_,rfl,.inl ⟨_,.inr n,.inl (p _ _ b6),rfl,(Ks U Y).symm⟩,hR⟩)
  .have WG:=W6.same p;obtain⟨_,dw,_,_,_,_,_,_,ew,_⟩:=id WG;refine A6 rfl ⟨wb,dw,A6 rfl ⟨ew,rfl,A6 rfl ⟨wb,n,ns,r,rfl,WG,AK Y,fun l hl=>?_⟩⟩⟩;have ul:=F8.new (o:=.lst ((E2 r n).map V.str)) hl;refine⟨l,rfl,⟨_,IA.of A9⟩,Mb U (ul _ _ (p _ _ b6)) A9 (fun y O=>ins2 y O) (QI n) fun G' s'=>?_⟩;have:=hR G' (ul.trans s');rw[Zn Y]at this;exact this
  generalize ML ns (E2 r)=B at mB S d7;have nxd:x≠d:=B2 x6 hd;have x7:=s7 _ _ x6;have a7:=s7 _ _ a6;have b7:=s7 _ _ b6;have c7:=s7 _ _ c6;have dc:d≠c:=(B2 c6 hd).symm;have k7:=k6.trans s7.sm;refine A6 rfl ⟨x,T.ab,e,_,rfl,x7,T.ad,T.bd,by simp,?_⟩;have k8:Sm [x] H7 (HX H7 x (.ins T.ab e (Q1 "struck_of" (.ref d) [("names",.ref a),("full",K8 (2^ns.length-1)),("bit_of",.ref b),("strikers_of",.ref c)]))):=(Sm.refl _ _).upd (by simp);have x8:(HX H7 x (.ins T.ab e (Q1 "struck_of" (.ref d) [("names",.ref a),("full",K8 (2^ns.length-1)),("bit_of",.ref b),("strikers_of",.ref c)]))) x=some (.ins T.ab e [("names",.ref a),("full",K8 (2^ns.length-1)),("bit_of",.ref b),("strikers_of",.ref c),("struck_of",.ref d)]):=by rw[A9];rfl
  generalize HX H7 x (.ins T.ab e (Q1 "struck_of" (.ref d) [("names",.ref a),("full",K8 (2^ns.length-1)),("bit_of",.ref b),("strikers_of",.ref c)]))=H8 at k8 x8⊢;have a8:=k8 _ _ a7 (f C.symm);have b8:=k8 _ _ b7 (f F.symm);have c8:=k8 _ _ c7 (f nxc.symm);have d8:=k8 _ _ d7 (f nxd.symm);have k8:=k7.trans k8;refine hZ6 _ _ ?_;refine A6 rfl ⟨b,_,rfl,b8,fun v hv=>?_⟩;have I:=F8.new (o:=La v b) hv;have fv:(HX H8 v (La v b)) v=some (La v b):=A9;generalize HX H8 v (La v b)=H9 at I fv⊢;refine⟨v,b,_,rfl,fv,I _ _ b8,fun o D hD=>?_⟩;have nDb:D≠b:=fun z=>by rw[z,A9]at hD;cases hD
  have kz:Sm [b] H9 (HX H9 b (.frz o (.dK (P6 ns ns.length)))):=(Sm.refl _ _).upd (by simp);have fz:(HX H9 b (.frz o (.dK (P6 ns ns.length)))) b=some (.frz o (.dK (P6 ns ns.length))):=A9;have hb0:H b=none:=k1.none (f F.symm) hb;have kx:Sm [x] H (HX H9 b (.frz o (.dK (P6 ns ns.length)))):=(k8.trans I.sm).updN hb0;have nb:∀{b':A3},b'≠b->b'∉[b]:=fun h z=>h (AF.mp z);have nab:a≠b:=B2 a1 hb;have x9:=kz _ _ (I _ _ x8) (nb F);have a9:=kz _ _ (I _ _ a8) (nb nab);have c9:=kz _ _ (I _ _ c8) (nb bc.symm);have nbd:d≠b:=(B2 b6 hd).symm;have d9:=kz _ _ (I _ _ d8) (nb nbd);generalize HX H9 b (.frz o (.dK (P6 ns ns.length)))=H10 at kz fz kx hD x9 a9 c9 d9⊢;have lb:(P6 ns ns.length).length=ns.length:=by unfold P6;rw[AB,CF]
  refine n9 (n:=ns.length) (fun i σ G=>(∃v0,σ = [v0,some (.ref x)])/\F8 H10 G/\G D=some (.lst (((List.range i).filter fun k=>(A.getD k 0).testBit k).map fun k=>K8 (2^k)))) ⟨⟨_,rfl⟩,F8.new hD,A9⟩ ?_ ?_ ?_ ?_
  .rintro i σ G W ⟨_,p,_⟩;exact⟨p _ _ fz,by rw[lb];exact W⟩
  .rintro σ G ⟨_,p,_⟩;exact⟨p _ _ fz,by rw[lb];exact Nat.le_refl _⟩
  .rintro i σ G y H' N W ⟨⟨v0,rfl⟩,p,eG⟩ ⟨rfl,k,hk⟩ hN;unfold P6 at hk;rw[AH,List.getElem?_range W]at hk;obtain⟨_,rfl⟩:=Prod.mk.inj (BE hk);refine A6 rfl (A6 rfl ⟨x,T.ab,e,_,A6 rfl ⟨p _ _ x9,T.ad,T.aC,rfl,A6 rfl ⟨c,_,rfl,.inl ⟨_,.inl ((2^i:Nat):Int),.inl (p _ _ c9),rfl,(Ky A W).symm⟩,B9 rfl rfl ⟨_,rfl,?_⟩⟩⟩⟩);dsimp only;rw[Iq];have hl:=BT (fun k=>(A.getD k 0).testBit k) (List.range i);rw[CF]at hl;refine T7 (fun z=>A6 rfl ⟨_,eG,by rw[AB,sizeLine_eq];omega,hN _ _ ⟨⟨_,rfl⟩,p.upd hD,?_⟩⟩) (fun z=>hN _ _ ⟨⟨_,rfl⟩,p,?_⟩)
   .rw[A9,EG,DU,DL,AL z,AO];rfl
   .rw[EG,DU,DL,AJ z,GF,CH];exact eG
  rintro σ11 Z ⟨_,J,e11⟩;generalize hLl:(List.range ns.length).filter (fun k=>(A.getD k 0).testBit k)=Ll at e11;refine⟨D,Ll.map fun k=>((2^k:Nat):Int),rfl,IA.of (by rw[e11,CG];rfl),?_⟩;rw[Ki];have hL:∀j,((Ll.map fun k=>2^k).sum).testBit j=true↔(A.getD j 0).testBit j=true:=fun j=>by
   rw[Ab (by rw[<-hLl];exact DM.nodup GQ),<-hLl,BM,BX];exact⟨(·.2),fun h=>⟨(S.lt j j ((S.tr j j).mp h)).1,h⟩⟩
  generalize (Ll.map fun k=>2^k).sum=L at hL;have x11:=J _ _ x9;refine A6 rfl ⟨x,T.ab,e,_,rfl,x11,T.ad,T.bi,by simp,?_⟩;have M:Sm [x] Z (HX Z x (.ins T.ab e (Q1 "loops" (.int (L:Int)) [("names",.ref a),("full",K8 (2^ns.length-1)),("bit_of",.ref b),("strikers_of",.ref c),("struck_of",.ref d)]))):=(Sm.refl _ _).upd (by simp);have x12:(HX Z x (.ins T.ab e (Q1 "loops" (.int (L:Int)) [("names",.ref a),("full",K8 (2^ns.length-1)),("bit_of",.ref b),("strikers_of",.ref c),("struck_of",.ref d)]))) x=some (.ins T.ab e (mf a b c d ns.length L)):=by rw[A9];rfl
  generalize HX Z x (.ins T.ab e (Q1 "loops" (.int (L:Int)) [("names",.ref a),("full",K8 (2^ns.length-1)),("bit_of",.ref b),("strikers_of",.ref c),("struck_of",.ref d)]))=H12 at M x12⊢;refine q c A B L H12 hc0 ((kx.trans J.sm).trans M) ⟨⟨e,a,b,d,P6 ns ns.length,x12,M _ _ (J _ _ a9) (f C.symm),.inr ⟨o,M _ _ (J _ _ fz) (f F.symm)⟩,fun i n h=>Ks U h,.inl (M _ _ (J _ _ c9) (f nxc.symm)),M _ _ (J _ _ d9) (f nxd.symm),dc,bc⟩,S,U,ln,hL⟩ mA mB
end
def Q3(ns:A1 Str)(m:Nat):Str:=(I_ ns m).headD ""
def Fs{ns:A1 Str}{m k:Nat}(h:∀i,i<k->¬m.testBit i=true):∀i,i<=k->i<=ns.length->r8 ns m i = []
 | 0,_,_=>rfl
 | i+1,a,b=>by
  rw[K4 (AC (show i<ns.length by omega)),Fs h i (by omega) (by omega),AJ (h i (by omega))];rfl
def Gn{ns:A1 Str}{m k:Nat}{x:Str}(a:ns[k]?=some x)(b:m.testBit k=true)(h:∀i,i<k->¬m.testBit i=true):∀i,k<i->i<=ns.length->∃r,r8 ns m i=x::r
 | 0,d,_=>absurd d (EF _)
 | i+1,d,f=>by
  rcases Nat.lt_or_ge k i with c | c
  .obtain⟨r,e⟩:=Gn a b h i c (by omega);rw[K4 (AC (show i<ns.length by omega)),e];exact⟨_,rfl⟩
  .have:i=k:=by omega
   subst this;rw[K4 a,Fs h i (Nat.le_refl _) (by omega),AL b];exact⟨[],rfl⟩
def Ro{ns:A1 Str}{m k:Nat}{x:Str}(a:ns[k]?=some x)(b:m.testBit k=true)(h:∀i,i<k->¬m.testBit i=true):∃r,I_ ns m=x::r:=Gn a b h ns.length (AE.mp a).1 (Nat.le_refl _)
def Ag{ns:A1 Str}{m k:Nat}(a:k<ns.length)(b:m.testBit k=true)(h:∀i,i<k->¬m.testBit i=true):ns[k]?=some (Q3 ns m):=by
 have e:=AC a;obtain⟨r,er⟩:=Ro e b h;unfold Q3;rw[er];exact e
def Vy{m j:Nat}(h:m.testBit j=true):∃k,k<=j/\m.testBit k=true/\∀i,i<k->¬m.testBit i=true:=by
 have b:0<m:=Nat.pos_of_ne_zero fun z=>by rw[z,CC]at h;cases h
 obtain⟨k,c,_,a⟩:=Qq m b;exact⟨k,Nat.le_of_not_lt fun z=>a j z h,c,a⟩
def My(n:Nat)(p:Nat->Prop):Nat:=(((List.range n).filter fun j=>pB (p j)).map fun k=>2^k).sum
def Y1{n:Nat}{p:Nat->Prop}(j:Nat):(My n p).testBit j=true↔j<n/\p j:=by
 unfold My;rw[Ab (GQ.sublist DM),BM,BX,MJ]
def Uy{z n:Nat}{p:Nat->Prop}(h:∀j,z.testBit j=true↔p j)(lo:LB n z):z=My n p:=BL fun j=>BV.mpr (by
 rw[Y1];exact⟨fun y=>⟨lo j y,(h j).mp y⟩,fun y=>(h j).mpr y.2⟩)
def zDa(m:Nat):Nat:=((List.range (m+1)).find? fun j=>m.testBit j).getD 0
def Pc{m k:Nat}(h:m.testBit k=true)(a:∀i,i<k->¬m.testBit i=true):zDa m=k:=by
 have b:k<m+1:=Nat.lt_succ_of_le (Nat.le_trans (DR Nat.lt_two_pow_self) (Nat.ge_two_pow_of_testBit h));unfold zDa;have e:(List.range (m+1)).find? (fun j=>m.testBit j)=some k:=by
  rw[List.find?_range_eq_some];exact⟨h,BX.mpr b,fun i c=>by simpa using a i c⟩
 rw[e];rfl
def Vf{ns:A1 Str}{m j:Nat}(a:j<ns.length)(h:m.testBit j=true):I_ ns m≠[]:=fun z=>by
 have:ns[j]∈I_ ns m:=QH.mpr ⟨j,h,AC a⟩;rw[z]at this;cases this
def l9{C:A3}{H:Hp}{x c:A3}{ns:A1 Str}{A B:A1 Nat}{L:Nat}(h:HZ C H x c ns A B L):H c≠none:=fun z=>by
 obtain⟨_,_,_,_,_,_,_,_,_,a,_⟩:=h.ex;rcases a with e | ⟨o,e⟩<;>rw[z]at e<;>cases e
section
variable{P:A7}{w:HW}{K:PySem.W.Frag}{mg:Str->A5 A2}{base:H_}
theorem X7:HY ["self", "some"] ["self", "some"] (B7 KQ):=KI
def Df(C:A3):Sp:=fun d H Q _=>∃(x c:A3) (a:A1 Str) (A B:A1 Nat) (L m j:Nat),d = [.ref x,.int (m:Int)]/\HZ C H x c a A B L/\j<a.length/\m.testBit j=true/\∀b,F8 H b->Q (.str (Q3 a m)) b
theorem G9(T:Tx K mg):IG P w K mg base IW 2 T.af.f T.af.fd ["self", "some"] (Df T.ab):=by
 refine T.af.F.o1 X7 fun p A e s H G Q E t h=>?_
 .obtain⟨x,c,i,A,B,L,m,j,rfl,k,u,v,q⟩:=h;obtain⟨y,a,b,d,I,z,_⟩:=k.ex;refine⟨_,(B5 (C1 (D4 (KR K) (E1 (pv 0) T.ad T.ap.m (S9 T) (Rm t) T.ap.b .nil M0 (A8 (pv 1) B1)) B4 (fun _ _=>rfl)))),?_⟩;refine A6 rfl ⟨x,y,A6 rfl ⟨z,rfl,A6 rfl ⟨x,c,i,A,B,L,m,rfl,k,fun l C J D o=>?_⟩⟩⟩;cases g:I_ i m with
  | nil=>exact absurd g (Vf u v)
  | cons n r =>
   rw[g]at o;have q:=q C D;unfold Q3 at q;rw[g]at q;exact⟨l,_,B9 rfl rfl ⟨IA.of o,(show PL (V.str n::r.map V.str) ((0:Nat):Int)=_ from E7 rfl),q⟩⟩
end
def Fv(A B:A1 Nat)(n L m ad:Nat):A1 Nat:=(List.range n).filter fun j=>ad.testBit j && @decide (L.testBit j=true\/o0 B m j\/o0 A m j) (Classical.propDecidable _)
def Sk{A B:A1 Nat}{n L m ad z:Nat}(h:∀j,z.testBit j=true↔L.testBit j=true\/o0 B m j\/o0 A m j):D3 (ad &&& z) n=Fv A B n L m ad:=by
 unfold D3 Fv;refine List.filter_congr fun j _=>?_;rw[BW];congr 1;rw[BV,h];exact⟨fun y=>@BB _ (Classical.propDecidable _) y,fun y=>@BZ _ (Classical.propDecidable _) y⟩
def Jj(A B:A1 Nat)(n L m ad:Nat):A1 Int :=
 [((D3 ad n).length:Int)-((Fv A B n L m ad).length:Int),((D3 ad n).length:Int)]
section
variable{P:A7}{w:HW}{K:PySem.W.Frag}{mg:Str->A5 A2}{base:H_}
theorem LD:HY ["marks", "held", "added", "clashing", "many"] ["marks", "held", "added"] (B7 NB):=KI
def Pg(C:A3):Sp:=fun e H Q _=>∃(x c:A3) (d:A1 Str) (A B:A1 Nat) (L m ad:Nat),e = [.ref x,.int (m:Int),.int (ad:Int)]/\HZ C H x c d A B L/\∀a b,H a=none->Sm [c] H b->HZ C b x c d A B L ->
 b a=some (.tup ((Jj A B d.length L m ad).map V.int))->Q (.ref a) b
theorem Eh(T:Tx K mg):IG P w K mg base IW 3 T.a0.f T.a0.fd ["marks", "held", "added"] (Pg T.ab):=by
 refine T.a0.F.o1 LD fun S A t s H vs Q E r h=>?_
 .obtain⟨x,c,n,A,B,L,m,ad,rfl,I,q⟩:=h;obtain⟨g,a,b,d,u,k,_⟩:=I.ex;refine⟨_,(B3 (C6 (i:=3) LD.nd rfl (.inl rfl) (C4 Y2 (C4 Y2 (OT K (pv 0)) (E1 (pv 0) T.ad T.ag.m (J8 T) (Rm r) T.ag.b .nil M0 (A8 (pv 1) B1))) (E1 (pv 0) T.ad T.ae.m (E9 T) (Rm r) T.ae.b .nil M0 (A8 (pv 1) B1))))
   (B3 (C6 (i:=4) LD.nd rfl (.inl rfl) (G0 (N9 K) T.aq K9 (A8 (E1 (pv 0) T.ad T.ac.m (E4 T) (Rm r) T.ac.b .nil M0 (A8 (pv 2) B1)) B1)))
   (B5 (C1 (G7 (A8 (C4 zCr (pv 4) (G0 (N9 K) T.aq K9 (A8 (E1 (pv 0) T.ad T.ac.m (E4 T) (Rm r) T.ac.b .nil M0 (A8 (C4 K5 (pv 2) (pv 3)) B1)) B1))) (A8 (pv 4) B1))))))),?_⟩
  refine B8 fun N1 v=>?_;refine A6 rfl ⟨x,T.ab,g,_,A6 rfl ⟨k,T.ad,T.bi,rfl,A6 rfl ⟨x,g,A6 rfl ⟨k,rfl,A6 rfl ⟨x,c,n,A,B,L,m,rfl,I,fun r1 H1 U J z=>?_⟩⟩⟩⟩⟩;refine B9 rfl rfl ?_;obtain⟨g,a,b,d,u,k,_⟩:=J.ex;refine A6 rfl ⟨x,g,A6 rfl ⟨k,rfl,A6 rfl ⟨x,c,n,A,B,L,m,rfl,J,fun r2 H2 V M C=>?_⟩⟩⟩;refine B9 rfl rfl ?_;dsimp only;rw[QG,QG];refine v _ _ (B8 fun N2 D=>?_);obtain⟨g,a,b,d,u,k,_⟩:=M.ex;refine A6 rfl ⟨x,g,A6 rfl ⟨k,rfl,A6 rfl ⟨x,c,n,A,B,L,ad,rfl,M,fun l H3 hl W N X=>?_⟩⟩⟩;refine⟨l,_,rfl,.inl (IA.of X),?_⟩;rw[AB];refine D _ _ ?_;obtain⟨g,a,b,d,u,k,_⟩:=N.ex;refine A6 rfl (A6 rfl ⟨x,g,A6 rfl ⟨k,rfl,A6 rfl (A6 rfl (B9 rfl rfl ?_))⟩⟩);dsimp only;rw[Ob];refine⟨x,c,n,A,B,L,ad &&&(L ||| r1 ||| r2),rfl,N,fun Y Z hl2 k4 O G=>?_⟩;refine⟨Y,_,rfl,.inl (IA.of G),?_⟩;rw[AB];refine B9 rfl rfl (A6 rfl ?_);refine⟨by show 2<=sizeLine;decide,fun p o=>?_⟩;have R:Sm [c] H Z:=((U.trans V).trans W).trans k4;refine q p _ (R.none (fun y=>by rw[AF.mp y]at o;exact l9 O o) o) (R.new o) (O.same (F8.new o)) ?_;rw[A9];have e:D3 (ad &&&(L ||| r1 ||| r2)) n.length=Fv A B n.length L m ad:=Sk fun j=>by rw[EA,EA,EI,EI,z,C,or_assoc]
  rw[e];rfl
end
def E3(A B:A1 Nat)(n m:Nat):A1 Nat:=(List.range n).filter fun j=>@decide (o0 A m j/\¬o0 B m j) (Classical.propDecidable _)
def LS{A B:A1 Nat}{n m j:Nat}:j∈E3 A B n m↔j<n/\o0 A m j/\¬o0 B m j:=by
 unfold E3;rw[BM,BX];exact⟨fun h=>⟨h.1,@BZ _ (Classical.propDecidable _) h.2⟩,fun h=>⟨h.1,@BB _ (Classical.propDecidable _) h.2⟩⟩
def Pe{A B:A1 Nat}{n m z:Nat}(h:∀j,z.testBit j=true↔o0 A m j/\j<n/\¬o0 B m j):D3 z n=E3 A B n m:=by
 unfold D3 E3;refine List.filter_congr fun j a=>?_;rw[BV,h];exact⟨fun y=>@BB _ (Classical.propDecidable _) ⟨y.1,y.2.2⟩,fun y=>let h:=@BZ _ (Classical.propDecidable _) y;⟨h.1,BX.mp a,h.2⟩⟩
def V3(A B:A1 Nat)(n m:Nat):A1 Nat:=(E3 A B n m).map fun j=>A.getD j 0
def V1(A B:A1 Nat)(n L m:Nat)(ads:A1 Nat):Nat:=Ht (fun j=>Jj A B n L m (ads.getD j 0)) (ads.length-1)
def M8(A B:A1 Nat)(n L m:Nat):Nat:=(V3 A B n m).getD (V1 A B n L m (V3 A B n m)) 0
def P4(B:A1 Nat)(m:Nat):Prop:=∃j,m.testBit j=true/\o0 B m j
def Q0(A B:A1 Nat)(n L:Nat):Nat->Nat->A5 Nat
 | 0,_=>none
 | k+1,m=>@ite _ (P4 B m) (Classical.propDecidable _) none (if E3 A B n m = []then some m else(D3 (M8 A B n L m) n).findSome? fun j=>Q0 A B n L k (m ||| 2^j))
def Y0{A B:A1 Nat}{n L m:Nat}{ads:A1 Nat}(h:ads≠[]):V1 A B n L m ads<ads.length:=by
 have:=Pq (fun j=>Jj A B n L m (ads.getD j 0)) (ads.length-1);have a:=List.length_pos_iff.mpr h;unfold V1;omega
def Jp{A B:A1 Nat}{n L m:Nat}(h:E3 A B n m≠[]):∃d∈E3 A B n m,M8 A B n L m=A.getD d 0:=by
 have b:V3 A B n m≠[]:=fun z=>h (EE.mp z);have a:=Y0 (A:=A) (B:=B) (n:=n) (L:=L) (m:=m) b;have c:M8 A B n L m∈V3 A B n m:=by
  unfold M8;rw[AN,AC a];exact FX a
 obtain⟨d,f,e⟩:=AV.mp c;exact⟨d,f,e.symm⟩
def Kk{m j:Nat}(h:¬m.testBit j=true):∀n,(D3 (m ||| 2^j) n).length =(D3 m n).length+if j<n then 1 else 0
 | 0=>rfl
 | n+1=>by
  rw[O9,O9,AU,AU,Kk h n];by_cases e:n=j
  .subst e;rw[AL ((U6 m n n).mpr (.inr rfl)),AJ h,AJ (DP _),AL (E_ _)];rfl
  .have a:(m ||| 2^j).testBit n=m.testBit n:=by
    rw[BV,U6];exact⟨fun z=>z.resolve_right e,.inl⟩
   rw[a];by_cases l:j<n
   .rw[AL l,AL (DZ l)];omega
   .rw[AJ l,AJ (show ¬j<n+1 by omega)];rfl
def Dd{A B:A1 Nat}{n L:Nat}(a:QO n A B):∀(k m r:Nat),LB n m->Q0 A B n L k m=some r->Vw n A B r/\∀j,m.testBit j=true->r.testBit j=true
 | 0,m,r,_,h=>by cases h
 | k+1,m,r,lo,h=>by
  unfold Q0 at h;by_cases c:P4 B m
  .rw[AL c]at h;cases h
  rw[AJ c]at h;by_cases d:E3 A B n m = []
  .rw[AL d]at h;cases h;refine⟨⟨lo,fun i j g f z=>c ⟨j,f,i,g,z⟩,fun j f=>⟨lo j f,fun b o=>?_⟩⟩,fun _ h=>h⟩;have l:b<n:=(a.lt b j ((a.tr j b).mp o)).1;by_cases z:o0 B m b
   .exact z
   .have:b∈E3 A B n m:=LS.mpr ⟨l,⟨j,f,o⟩,z⟩;rw[d]at this;cases this
  rw[AJ d]at h;obtain⟨j,f,e⟩:=List.exists_of_findSome?_eq_some h;obtain⟨p,q⟩:=Dd a k _ r (lo.or (JI.mp f).1) e;exact⟨p,fun i g=>q i ((U6 m j i).mpr (.inl g))⟩
def Bf{A B:A1 Nat}{n L m j:Nat}(a:QO n A B)(h:E3 A B n m≠[])(b:(M8 A B n L m).testBit j=true):j<n/\¬m.testBit j=true:=by
 obtain⟨d,f,e⟩:=Jp (L:=L) h;rw[e]at b;have c:=(a.tr d j).mp b;exact⟨(a.lt j d c).1,fun z=>(LS.mp f).2.2 ⟨j,z,c⟩⟩
section
variable(ns:A1 Str)(A B:A1 Nat)(L m:Nat)
def Ui:Nat:=My ns.length fun j=>m.testBit j=true/\o0 B m j
def RK:Str:=Q3 ns (A.getD (zDa (Ui ns B m)) 0 &&& m)
def RS:Str:=Q3 ns (Ui ns B m)
def SA(j:Nat):Str:=Q3 ns (B.getD j 0 &&& m)
def SM(j:Nat):Str:=Q3 ns (2^j)
def OF:Nat:=(E3 A B ns.length m).getD (V1 A B ns.length L m (V3 A B ns.length m)) 0
def U3:A1 Nat:=D3 (A.getD (OF ns A B L m) 0) ns.length
end
def IV(ns:A1 Str)(A B:A1 Nat)(L:Nat)(H:Hp):Nat->Nat->A3->Prop
 | 0,_,_=>False
 | k+1,m,r=>(P4 B m/\H r=some (.tup [.str "clash",.str (RK ns A B m),.str (RS ns B m)]))\/(¬P4 B m/\E3 A B ns.length m≠[]/\∃(l:A3) (a:A1 A3),H r=some (.tup [.str "answer",.str (SA ns B m (OF ns A B L m)),.str (SM ns (OF ns A B L m)),.ref l])/\H l=some (.tup (a.map V.ref)) /\
   a.length =(U3 ns A B L m).length/\∀(i j:Nat) b,(U3 ns A B L m)[i]?=some j->a[i]?=some b->IV ns A B L H k (m ||| 2^j) b)
def IV.keep{ns:A1 Str}{A B:A1 Nat}{L:Nat}{H H':Hp}(kk:∀b xs,H b=some (.tup xs)->H' b=some (.tup xs)):∀{k m:Nat} {r:A3},IV ns A B L H k m r->IV ns A B L H' k m r
 | 0,_,_,h=>h
 | k+1,m,r,h=>h.imp (fun⟨c,e⟩=>⟨c,kk _ _ e⟩) fun⟨c,d,l,a,f,g,n,h⟩=>⟨c,d,l,a,kk _ _ f,kk _ _ g,n,fun i j o p q=>(h i j o p q).keep kk⟩
def t6(n m:Nat):Nat:=n+1-(D3 m n).length
section
variable{ns:A1 Str}{A B A' B':A1 Nat}{L m:Nat}
theorem Ig(h:E3 A B ns.length m≠[]):OF ns A B L m∈E3 A B ns.length m/\M8 A B ns.length L m=A.getD (OF ns A B L m) 0:=by
 have c:V3 A B ns.length m≠[]:=fun z=>h (EE.mp z);have a:=Y0 (A:=A) (B:=B) (n:=ns.length) (L:=L) (m:=m) c;have b:(V3 A B ns.length m).length =(E3 A B ns.length m).length:=AB ..;have e:=AC (b▸a);have d:OF ns A B L m =(E3 A B ns.length m)[V1 A B ns.length L m (V3 A B ns.length m)]'(b▸a):=by
  unfold OF;rw[AN,e];rfl
 rw[d];refine⟨FX _,?_⟩;unfold M8;rw[AN];show((V3 A B ns.length m)[_]?).getD 0=_;unfold V3 at e⊢;rw[AH,e];rfl
theorem Ox(a:QO ns.length A B)(h:E3 A B ns.length m≠[]){j:Nat}(b:j∈U3 ns A B L m):j<ns.length/\¬m.testBit j=true:=by
 unfold U3 at b;refine Bf (L:=L) a h ?_;rw[(Ig h).2];exact(JI.mp b).2
theorem Uq(a:QO ns.length A B)(lo:LB ns.length m)(h:E3 A B ns.length m≠[]){j:Nat}(b:j∈U3 ns A B L m):t6 ns.length m=t6 ns.length (m ||| 2^j)+1:=by
 obtain⟨c,d⟩:=Ox a h b;have e:=Kk d ns.length;rw[AL c]at e;have f:=M5 (m ||| 2^j) ns.length;unfold t6;omega
end
def Ik{M:A1 Nat}{k j:Nat}:o0 M (2^k) j↔(M.getD k 0).testBit j=true:=by
 constructor
 .rintro⟨i,a,e⟩;rw[CV,BQ]at a;rw[a];exact e
 .exact fun h=>⟨k,FT,h⟩
section
variable{P:A7}{w:HW}{K:PySem.W.Frag}{mg:Str->A5 A2}{base:H_}
theorem NY:HY ["marks", "held", "hit"] ["marks", "held"] (B7 OQ):=KI
def Ek(C:A3):Sp:=fun e H Q _=>∃(x c:A3) (b:A1 Str) (A B:A1 Nat) (L m:Nat),e = [.ref x,.int (m:Int)]/\HZ C H x c b A B L/\(∀j,m.testBit j=true->j<b.length)/\∀d,Sm [c] H d->HZ C d x c b A B L ->
 ((∀j,m.testBit j=true->¬o0 B m j)->Q .non d)/\∀a,P4 B m->H a=none->d a=some (.tup [.str "clash",.str (RK b A B m),.str (RS b B m)])->Q (.ref a) d
theorem Al(T:Tx K mg):IG P w K mg base IW 3 T.aB.f T.aB.fd ["marks", "held"] (Ek T.ab):=by
 refine T.aB.F.o1 NY fun cdv A G s H vs Q E e h=>?_
 .obtain⟨x,c,n,A,B,L,m,rfl,I,J,q⟩:=h;obtain⟨g,a,b,d,W,l,_⟩:=I.ex;refine⟨_,(B3 (C6 (i:=2) NY.nd rfl (.inl rfl) (C4 K5 (pv 1) (E1 (pv 0) T.ad T.ag.m (J8 T) (Rm e) T.ag.b .nil M0 (A8 (pv 1) B1))))
   (B3 (I0 (Q5 (SX K (pv 2))) (B5 (C1 z6)) C5)
   (B5 (C1 (G7 (A8 P5 (A8 (E1 (pv 0) T.ad T.af.m (G9 T) (Rm e) T.af.b .nil M0 (A8 (C4 K5 (E1 (pv 0) T.ad T.ae.m (E9 T) (Rm e) T.ae.b .nil M0 (A8 (C9 T.a3 (Ft T) (Rm e) (A8 (pv 2) B1)) B1)) (pv 1)) B1)) (A8 (E1 (pv 0) T.ad T.af.m (G9 T) (Rm e) T.af.b .nil M0 (A8 (pv 2) B1)) B1)))))))),?_⟩
  refine B8 fun N1 M=>?_;refine A6 rfl (A6 rfl ⟨x,g,A6 rfl ⟨l,rfl,A6 rfl ⟨x,c,n,A,B,L,m,rfl,I,fun r H1 X N e=>?_⟩⟩⟩);refine B9 rfl rfl ?_;dsimp only;rw[Ob];refine M _ _ ?_;have o:∀j,(m &&& r).testBit j=true↔m.testBit j=true/\o0 B m j:=fun j=>by rw[BW,BH,e]
  refine B8 fun N2 O=>?_;refine A6 rfl ⟨_,rfl,?_⟩;dsimp only;refine T7 (fun z=>?_) (fun z=>?_)
  .have u:m &&& r=0:=by
    by_cases y:m &&& r=0
    .exact y
    .exact absurd z (by simp;omega)
   exact(q H1 X N).1 fun j v C=>by
    have:=(o j).mpr ⟨v,C⟩;rw[u,CC]at this;cases this
  .have u:m &&& r≠0:=fun y=>by
    rw[y]at z;exact z rfl
   obtain⟨j,D⟩:=Nat.exists_testBit_of_ne_zero u;obtain⟨v,C⟩:=(o j).mp D;refine O _ _ ?_;obtain⟨g,a,b,d,W,l,_⟩:=N.ex;obtain⟨i,R,Y⟩:=id C;have eh:m &&& r=Ui n B m:=Uy o fun j D=>J j ((o j).mp D).1;refine A6 rfl ⟨x,g,A6 rfl ⟨l,rfl,A6 rfl ⟨x,g,A6 rfl ⟨l,rfl,A6 rfl ⟨_,rfl,Nat.pos_of_ne_zero u,fun k Z kl=>?_⟩⟩⟩⟩⟩;obtain⟨h3,i,R,Y⟩:=(o k).mp Z;have ek:=Pc Z kl;refine⟨x,c,n,A,B,L,2^k,rfl,N,fun r2 H2 k2 M2 S=>?_⟩;have U:r2=A.getD k 0:=BL fun i=>BV.mpr ((S i).trans Ik);subst U;refine A6 rfl (B9 rfl rfl ?_);dsimp only;rw[Ob];refine⟨x,c,n,A,B,L,A.getD k 0 &&& m,i,rfl,M2,J i R,by rw[BW,BH];exact⟨(I.net.tr k i).mpr Y,R⟩,fun H3 s3=>?_⟩;have V:=M2.same s3;obtain⟨g,a,b,d,W,l,_⟩:=V.ex;refine A6 rfl ⟨x,g,A6 rfl ⟨l,rfl,A6 rfl ⟨x,c,n,A,B,L,m &&& r,j,rfl,V,J j v,D,fun H4 s4=>?_⟩⟩⟩;refine⟨by show 3<=sizeLine;decide,fun p t=>?_⟩;have M4:=V.same s4;have k4:Sm [c] H H4:=(X.trans k2).trans (s3.sm.trans s4.sm);refine(q _ (k4.new t) (M4.same (F8.new t))).2 p ⟨j,v,C⟩ (k4.none (fun y=>by rw[AF.mp y]at t;exact l9 M4 t) t) ?_;rw[A9];unfold RK RS;rw[<-eh,ek]
end
def er(H:Hp)(l:A3):Hp:=fun b=>if b=l then none else H b
def Mo{H:Hp}{l b:A3}(n:b≠l):er H l b=H b:=AJ n
def Az(H:Hp)(l:A3):F8 (er H l) H:=fun b o e=>by
 unfold er at e;by_cases c:b=l
 .rw[AL c]at e;cases e
 .rw[AJ c]at e;exact e
def Og(H:Hp)(l:A3)(o:HO):er (HX H l o) l=er H l:=funext fun b=>by
 unfold er;by_cases c:b=l
 .rw[AL c,AL c]
 .rw[AJ c,AJ c,B6 c]
def HZ.er{C:A3}{H H':Hp}{x c l:A3}{ns:A1 Str}{A B:A1 Nat}{L:Nat}(h:HZ C (er H l) x c ns A B L)(k:Sm [c] H H')(h':HZ C H' x c ns A B L)(n:l≠c):HZ C (Sw.er H' l) x c ns A B L:=by
 refine h.fz (fun b o e a=>?_) ?_
 .have:b≠l:=fun z=>by subst z;unfold Sw.er at e;rw[AL rfl]at e;cases e
  rw[Mo this];exact k b o (Az H l b o e) a
 .obtain⟨_,_,_,_,_,_,_,_,_,d,_⟩:=h'.ex;unfold Rd;rw[Mo n.symm];exact d
abbrev RM:=A3×A3×A1 Str×Nat
def KA(H:Hp)(t:RM):Prop:=H t.1=some (.tup [.ref t.2.1,.int (t.2.2.2:Int)])/\H t.2.1=some (.tup (t.2.2.1.map V.str))/\t.2.2.1.length<=5
def KA.same{H H':Hp}{t:RM}(h:KA H t)(s:F8 H H'):KA H' t:=⟨s _ _ h.1,s _ _ h.2.1,h.2.2⟩
def V8{C:A3}{H:Hp}{x c a:A3}{o:HO}{ns:A1 Str}{A B:A1 Nat}{L:Nat}(h:HZ C H x c ns A B L)(e:H a=some o)(d:∀k,o≠ .dK k)(f:∀u v,o≠ .frz u v):a≠c:=fun z=>by
 obtain⟨_,_,_,_,_,_,_,_,_,g,_⟩:=h.ex;rw[z]at e;rcases g with b | ⟨u,b⟩<;>rw[e]at b<;>cases b
 .exact d _ rfl
 .exact f _ _ rfl
def M7{C:A3}{H:Hp}{x c a:A3}{xs:A1 V}{ns:A1 Str}{A B:A1 Nat}{L:Nat}(h:HZ C H x c ns A B L)(e:H a=some (.lst xs)):a≠c:=V8 h e (fun _ y=>by cases y) fun _ _ y=>by cases y
def V7{C:A3}{H:Hp}{x c a:A3}{xs:A1 V}{ns:A1 Str}{A B:A1 Nat}{L:Nat}(h:HZ C H x c ns A B L)(e:H a=some (.tup xs)):a≠c:=V8 h e (fun _ y=>by cases y) fun _ _ y=>by cases y
def KA.sm{C:A3}{H H':Hp}{x c:A3}{ns:A1 Str}{A B:A1 Nat}{L:Nat}{t:RM}(h:KA H t)(M:HZ C H x c ns A B L)(k:Sm [c] H H'):KA H' t:=⟨JQ k h.1 (V7 M h.1),JQ k h.2.1 (V7 M h.2.1),h.2.2⟩
def KA.upd{H:Hp}{l:A3}{o:HO}{xs:A1 V}{t:RM}(h:KA H t)(e:H l=some (.lst xs)):KA (HX H l o) t:=⟨(B6 (P2 h.1 e (by intro y;cases y))).trans h.1,(B6 (P2 h.2.1 e (by intro y;cases y))).trans h.2.1,h.2.2⟩
def Go(ns:A1 Str)(A B:A1 Nat)(m j:Nat):A1 Str×Nat:=([("answer":Str),SA ns B m j,SM ns j],A.getD j 0)
def Bj{ns:A1 Str}{A B:A1 Nat}{m:Nat}{ts:A1 RM}(h:(ts.map fun t=>t.2.2) =(E3 A B ns.length m).map (Go ns A B m)):(ts.map fun t=>t.2.2.2)=V3 A B ns.length m:=by
 have:=congrArg (List.map fun q:A1 Str×Nat=>q.2) h;rw[CG,CG]at this;exact this
section
variable{P:A7}{w:HW}{K:PySem.W.Frag}{mg:Str->A5 A2}{base:H_}
theorem KE:HY ["marks", "held", "splits", "doubt", "doubted"] ["marks", "held"] (B7 NF):=KI
def Cg(C:A3):Sp:=fun e H Q _=>∃(x c:A3) (a:A1 Str) (A B:A1 Nat) (L m:Nat),e = [.ref x,.int (m:Int)]/\HZ C H x c a A B L/\(∀j,m.testBit j=true->j<a.length) /\
 ∀l (d:A1 RM) b,H l=none->Sm [c] H b->HZ C b x c a A B L->b l=some (.lst (d.map fun t=>V.ref t.1))->(∀t∈d,KA b t)->(d.map fun t=>t.2.2) =(E3 A B a.length m).map (Go a A B m)->Q (.ref l) b
set_option maxHeartbeats 2000000 in
theorem X9(T:Tx K mg):IG P w K mg base IW 4 T.aD.f T.aD.fd ["marks", "held"] (Cg T.ab):=by
 refine T.aD.F.o1 KE fun cdv A outer s H vs Q E N h=>?_
 .obtain⟨x,c,g,A,B,L,m,rfl,hM,hm,q⟩:=h;refine⟨_,(B3 (C6 (i:=2) KE.nd rfl (.inl rfl) (I9 B1))
   (B3 (O4 PassesOwn.never rfl (OE K (E1 (pv 0) T.ad T.ac.m (E4 T) (Rm N) T.ac.b .nil M0 (A8 (C4 K5 (E1 (pv 0) T.ad T.ae.m (E9 T) (Rm N) T.ae.b .nil M0 (A8 (pv 1) B1)) (E1 (pv 0) T.ad T.aw.m (W3 T) (Rm N) T.aw.b .nil M0 (A8 (pv 1) B1))) B1))) (D0 (i:=3) KE.nd rfl (.inl rfl))
   (B3 (C6 (i:=4) KE.nd rfl (.inl rfl) (E1 (pv 0) T.ad T.af.m (G9 T) (Rm N) T.af.b .nil M0 (A8 (C4 K5 (E1 (pv 0) T.ad T.ag.m (J8 T) (Rm N) T.ag.b .nil M0 (A8 (pv 3) B1)) (pv 1)) B1)))
   (B5 (J9 (Bs K PySem.F.plainAttrs_list PySem.F.slot_list_append PySem.F.type_list_append M6 (pv 2) (A8 (G7 (A8 (G7 (A8 P5 (A8 (pv 4) (A8 (E1 (pv 0) T.ad T.af.m (G9 T) (Rm N) T.af.b .nil M0 (A8 (pv 3) B1)) B1)))) (A8 (E1 (pv 0) T.ad T.ae.m (E9 T) (Rm N) T.ae.b .nil M0 (A8 (pv 3) B1)) B1))) B1))))))
   (B5 (C1 (pv 2))))),?_⟩
  refine B8 fun N1 hN1=>?_;refine⟨CI _,fun l hl=>?_⟩;have ul:=F8.new (o:=.lst []) hl;have hMe:HZ T.ab (Sw.er (HX H l (.lst [])) l) x c g A B L:=by
   rw[Og];exact hM.same fun b o e=>by rw[Mo (B2 e hl)];exact e
  have Z:=hM.same ul;have el:(HX H l (.lst [])) l=some (.lst []):=A9;have k1:Sm [c] H (HX H l (.lst [])):=ul.sm;generalize HX H l (.lst [])=H1 at Z el k1 hMe⊢;refine hN1 _ _ (B8 fun N2 hN2=>?_);obtain⟨u,a,b,d,kb,v,_⟩:=Z.ex;refine A6 rfl ⟨x,u,A6 rfl ⟨v,rfl,A6 rfl ⟨x,u,A6 rfl ⟨v,rfl,A6 rfl ⟨x,c,g,A,B,L,m,rfl,Z,fun r1 H2 k2 M2 hr1=>?_⟩⟩⟩⟩⟩;obtain⟨u,a,b,d,kb,v,_⟩:=M2.ex;refine A6 rfl ⟨x,u,A6 rfl ⟨v,rfl,A6 rfl ⟨x,c,g,A,B,L,m,rfl,M2,fun r2 H3 k3 M3 hr2=>?_⟩⟩⟩;refine B9 rfl rfl ?_;dsimp only;rw[Ob];refine⟨x,c,g,A,B,L,r1 &&& r2,rfl,M3,fun D H4 hD k4 M4 eD=>?_⟩;have eds:D3 (r1 &&& r2) g.length=E3 A B g.length m:=Pe fun j=>by rw[BW,BH,hr1,hr2]
  rw[eds]at eD;have O:Sm [c] H1 H4:=(k2.trans k3).trans k4;have el4:=JQ O el (M7 Z el);have Me4:=hMe.er O M4 (M7 Z el);have nDl:D≠l:=fun z=>by
   have:=JQ (k2.trans k3) el (M7 Z el);rw[<-z,hD]at this;cases this
  have k04:Sm [c] H H4:=k1.trans O;have nDc:=M7 M4 eD;have R:=M7 M4 el4;refine⟨D,rfl,⟨_,IA.of eD⟩,S4 (D:={ nx:=N2,rt:=Q }) (NR (IA.of eD)) (fun i σ G=>(∃v3 v4,σ = [some (.ref x),some (.int (m:Int)),some (.ref l),v3,v4])/\Sm [c] H G/\Sm [c,l] H4 G/\HZ T.ab (Sw.er G l) x c g A B L/\HZ T.ab G x c g A B L/\∃I:A1 RM,G l=some (.lst (I.map fun t=>V.ref t.1))/\(∀t∈I,KA G t)/\(I.map fun t=>t.2.2) =((E3 A B g.length m).take i).map (Go g A B m)) ⟨⟨_,_,rfl⟩,k04,Sm.refl _ _,Me4,M4,[],el4,fun t ht=>absurd ht BN,rfl⟩ (fun i σ G _ h o e=>by rw[eD]at e;cases e;exact h.2.2.1 _ _ eD (by simp[nDl,nDc])) ?_ ?_⟩
  .rintro i σ G y hy ⟨⟨v3,v4,rfl⟩,kG,kG4,MeG,MG,I,eG,aG,mG⟩ D1 hD1 _;rw[AH]at hy;obtain⟨j,hj,rfl⟩:=BC.mp hy;obtain⟨hjn,⟨p,hp,hpj⟩,nh⟩:=LS.mp (AK hj);refine Vj fun N3 hN3=>?_;obtain⟨u,a,b,d,kb,v,_⟩:=MG.ex;refine A6 rfl ⟨x,u,A6 rfl ⟨v,rfl,A6 rfl ⟨x,u,A6 rfl ⟨v,rfl,A6 rfl ⟨x,c,g,A,B,L,2^j,rfl,MG,fun r3 G1 J S hr3=>?_⟩⟩⟩⟩⟩;have er3:r3=B.getD j 0:=BL fun i=>BV.mpr ((hr3 i).trans Ik);subst er3;refine A6 rfl (B9 rfl rfl ?_);dsimp only;rw[Ob];refine⟨x,c,g,A,B,L,B.getD j 0 &&& m,p,rfl,S,hm p hp,by rw[BW,BH];exact⟨(hM.net.tr p j).mp hpj,hp⟩,fun G2 C=>?_⟩;have k:=S.same C;refine hN3 _ _ ?_;have U:=C _ _ (JQ J eG (M7 MG eG));have MeG2:=(MeG.er J S R).er (C.sm (D:=[c])) k R;have aG2:∀t∈I,KA G2 t:=fun t ht=>((aG t ht).sm MG J).same C;have kG2:Sm [c] G G2:=J.trans C.sm;have lts:I.length<=100:=by
    have h1:=congrArg List.length mG;rw[AB,AB,AS]at h1;have h2:(E3 A B g.length m).length<=g.length:=by
     unfold E3;exact Nat.le_trans (BT ..) (by rw[CF];exact Nat.le_refl _)
    have:=hM.len;omega
   obtain⟨u,a,b,d,kb,v,_⟩:=k.ex;refine A6 rfl ⟨.inl ⟨rfl,_,IA.of U⟩,?_⟩;refine A6 rfl (A6 rfl ⟨x,u,A6 rfl ⟨v,rfl,A6 rfl ⟨x,c,g,A,B,L,2^j,j,rfl,k,hjn,FT,fun G3 sg3=>?_⟩⟩⟩);refine⟨by show 3<=sizeLine;decide,fun h hh=>?_⟩;have uh:=F8.new (o:=.tup [.str "answer",.str (Q3 g (B.getD j 0 &&& m)),.str (Q3 g (2^j))]) hh;have eh:(HX G3 h (.tup [.str "answer",.str (Q3 g (B.getD j 0 &&& m)),.str (Q3 g (2^j))])) h=some (.tup ([("answer":Str),Q3 g (B.getD j 0 &&& m),Q3 g (2^j)].map V.str)):=A9;have W:=sg3.trans uh;generalize HX G3 h (.tup [.str "answer",.str (Q3 g (B.getD j 0 &&& m)),.str (Q3 g (2^j))])=G4 at W eh⊢;have X:=k.same W;obtain⟨u,a,b,d,kb,v,_⟩:=X.ex;refine A6 rfl ⟨x,u,A6 rfl ⟨v,rfl,A6 rfl ⟨x,c,g,A,B,L,2^j,rfl,X,fun r4 G5 kg5 MG5 hr4=>?_⟩⟩⟩;have er4:r4=A.getD j 0:=BL fun i=>BV.mpr ((hr4 i).trans Ik);subst er4;refine⟨by show 2<=sizeLine;decide,fun t ht=>?_⟩;have ut:=F8.new (o:=.tup [.ref h,.int ((A.getD j 0:Nat):Int)]) ht;have st:KA (HX G5 t (.tup [.ref h,.int ((A.getD j 0:Nat):Int)])) (t,h,[("answer":Str),Q3 g (B.getD j 0 &&& m),Q3 g (2^j)],A.getD j 0):=⟨A9,ut _ _ (JQ kg5 eh (V7 X eh)),by show 3<=5;decide⟩;have r:Sm [c] G2 (HX G5 t (.tup [.ref h,.int ((A.getD j 0:Nat):Int)])):=(W.sm.trans kg5).trans ut.sm;have MG6:=MG5.same ut;generalize HX G5 t (.tup [.ref h,.int ((A.getD j 0:Nat):Int)])=G6 at ut st r MG6⊢;have Y:=JQ r U (M7 k U);have MeG6:=MeG2.er r MG6 R;refine⟨l,_,_,rfl,rfl,Y,by rw[AB,sizeLine_eq];omega,?_⟩;have M:HZ T.ab (Sw.er (L2.HX G6 l (.lst ((I.map fun t=>V.ref t.1) ++ [.ref t]))) l) x c g A B L:=by rw[Og];exact MeG6
   refine hD1 _ _ ⟨⟨_,_,rfl⟩,fun b o e n=>?_,fun b o e n=>?_,M,M.same (Az _ _),I ++ [(t,h,[("answer":Str),Q3 g (B.getD j 0 &&& m),Q3 g (2^j)],A.getD j 0)],?_,fun t' ht'=>?_,?_⟩
   .rw[B6 (B2 e hl)];exact(kG.trans (kG2.trans r)) b o e n
   .have n1:b≠c:=fun z=>n (by rw[z];exact .head _);have n2:b≠l:=fun z=>n (by rw[z];exact .tail _ (.head _));rw[B6 n2];exact(kG2.trans r) b o (kG4 b o e n) (by simpa using n1)
   .rw[A9,AO];rfl
   .rcases AW.mp ht' with z | z
    .exact((aG2 t' z).sm k r).upd Y
    .rw[AF.mp z];exact st.upd Y
   .rw[AO,mG,IQ hj,AO];rfl
  .rintro σ G ⟨⟨v3,v4,rfl⟩,kG,kG4,MeG,MG,I,eG,aG,mG⟩;rw[AB,B_]at mG;exact hN2 _ _ (A6 rfl (q l I G hl kG MG eG aG mG))
end
def Y4{C:A3}{H H':Hp}{x c p:A3}{ns:A1 Str}{A B:A1 Nat}{L:Nat}{ls:A1 (Pos×Str)}(h:J7 H p ls)(M:HZ C H x c ns A B L)(k:Sm [c] H H'):J7 H' p ls:=by
 obtain⟨b,e,t,q⟩:=h;exact⟨b,JQ k e (V8 M e (fun _ y=>by cases y) fun _ _ y=>by cases y),t,fun l f=>(q l f).imp id fun⟨d,e,a⟩=>⟨d,e,JQ k a (V8 M a (fun _ y=>by cases y) fun _ _ y=>by cases y)⟩⟩
section
variable{P:A7}{w:HW}{K:PySem.W.Frag}{mg:Str->A5 A2}{base:H_}
def Zj(f c:A3)(q:Str)(b:Arguments)(d:IB)(a:JB)(cl:A1 (Str×A3))(g:V->Hp->VK->Prop):Sp:=fun e H Q _=>∃u,e = [u]/\H f=some (NS f c q b d a cl)/\H c=some (LC c q)/\g u H Q
theorem Ps{f c:A3}{q:Str}{i:Arguments}{e:IB}{b:JB}{cl:A1 (Str×A3)}{fr:A1 Str}{gs:A1 V}{k:Nat}{g:V->Hp->VK->Prop}(S:NM ("split" :: fr) ["split"] fr b)(C:PZ base cl fr gs)
  (d:∀(A:IC) (a:A1 P_) (s:A4) (H:Hp) (u:V) (Q:VK),JD k (A.deeper (PySem.W.envX q b s.heap.objs.size f (.ref c) cl))->g u H Q ->
   ∃t,PE (Nl P w K mg base ("split" :: fr) q b f (.ref c) cl A a s H) e t/\t (some u::gs.map some) H Q) :
  IG P w K mg base IW (k+1) f (PySem.W.kla_fn "<lambda>" q i e b cl .none (.ref c) .none) ["split"] (Zj f c q i e b cl g):=by
 refine zAe S C (fun j H Q E h=>?_) (fun j H Q E h=>?_) fun A a s H j Q E l h=>?_
 .obtain⟨u,rfl,_⟩:=h;rfl
 .obtain⟨u,rfl,m,n,_⟩:=h;exact⟨m,n⟩
 .obtain⟨u,rfl,_,_,h⟩:=h;exact d A a s H u Q l h
theorem Ya{e:Hp}{f c:A3}{q:Str}{j:Arguments}{i:IB}{a:JB}{cl:A1 (Str×A3)}{fr:A1 Str}{gs:A1 V}{k:Nat}{g:V->Hp->VK->Prop}(n:e f=some (NS f c q j i a cl))(o:e c=some (LC c q))(S:NM ("split" :: fr) ["split"] fr a)(C:PZ base cl fr gs)
  (p:Binds K (PySem.W.kla_fn "<lambda>" q j i a cl .none (.ref c) .none) ["split"] [])
  (b:∀(A:IC) (d:A1 P_) (s:A4) (H:Hp) (u:V) (Q:VK),JD k (A.deeper (PySem.W.envX q a s.heap.objs.size f (.ref c) cl))->g u H Q ->
   ∃t,PE (Nl P w K mg base ("split" :: fr) q a f (.ref c) cl A d s H) i t/\t (some u::gs.map some) H Q) :
  ∃(l:IP) (m:A1 Str) (sp:Sp),IG P w K mg base IW (k+1) f l m sp/\Binds K l m []/\∀u H Q,H f=e f->H c=e c->g u H Q->sp [u] H Q E0 :=
 ⟨_,_,_,Ps S C b,p,fun u H Q r v h=>⟨u,rfl,r.trans n,v.trans o,h⟩⟩
theorem De:HY ["marks", "held", "splits"] ["marks", "held", "splits"] (B7 KN):=KI
def Jm(C d:A3):Sp:=fun f H Q _=>∃(x c l:A3) (e:A1 Str) (A B:A1 Nat) (L m:Nat) (a:A1 RM),f = [.ref x,.int (m:Int),.ref l]/\HZ C H x c e A B L/\H l=some (.lst (a.map fun t=>V.ref t.1))/\a≠[]/\(∀t∈a,KA H t)/\J7 H d C0 /\
 ∀b,Sm [c,d] H b->HZ C b x c e A B L->J7 b d C0->(∀t∈a,KA b t)->Q ((a.map fun t=>V.ref t.1).getD (V1 A B e.length L m (a.map fun t=>t.2.2.2)) .non) b
set_option maxHeartbeats 2000000 in
theorem d6(T:Tx K mg)(hB:base.BuiltinsAt mg T.aa):IG P w K mg base IW 7 T.av.f T.av.fd ["marks", "held", "splits"] (Jm T.ab T.aa):=by
 refine T.av.F.oC De fun cdv A N s H vs Q E hcd hr h=>?_
 .obtain⟨x,c,l,ns,A,B,L,m,Y,rfl,hM,hl,hne,hS,hT,q⟩:=h;have hu:=X5 hr;refine⟨_,(B5 (C1 (Zk (k:=5) (fun _=>rfl) (Rm hr) T.bz (A8 (pv 2) B1) (zCh (ls:=C0) T.bg hB (hcd.symm.trans T.bx) rfl rfl (by show ∀x:Str×JT,x∈_->x.2=NameKind.free->(B7 KN).names.lookup x.1=some NameKind.cell;decide +kernel) (by first | exact .head _ | exact .tail _ (.head _) | exact .tail _ (.tail _ (.head _))) (by decide +kernel))))),?_⟩;refine A6 rfl ⟨hT,fun f cc Z hf T2 D G nfp I=>?_⟩;have p:∀{z:A3} {o:HO},H z=some o->(∀u,o≠ .tbl u)->z≠T.aa:=fun{z o} e n y=>by
   obtain⟨ps,e',_⟩:=hT;rw[y,e']at e;cases e;exact n _ rfl
  have M2:HZ T.ab Z x c ns A B L:=by
   obtain⟨⟨dx,a,b,d,kb,e1,e2,e3,e4,e5,e6,n1,n2⟩,J,h3,h4,h5⟩:=hM;have kR:∀{z:A3} {o:HO},(∀u,o≠ .tbl u)->Rd H z o->Rd Z z o:=fun{z o} n r=>r.imp (fun e=>I _ _ e (p e n)) fun⟨u,e⟩=>⟨u,I _ _ e (p e fun _ y=>by cases y)⟩;exact⟨⟨dx,a,b,d,kb,I _ _ e1 (p e1 fun _ y=>by cases y),I _ _ e2 (p e2 fun _ y=>by cases y),kR (fun _ y=>by cases y) e3,e4,kR (fun _ y=>by cases y) e5,I _ _ e6 (p e6 fun _ y=>by cases y),n1,n2⟩,J,h3,h4,h5⟩
  have hl2:=I _ _ hl (p hl fun _ y=>by cases y);have S2:∀t∈Y,KA Z t:=fun t W=>by
   obtain⟨a1,a2,a3⟩:=hS t W;exact⟨I _ _ a1 (p a1 fun _ y=>by cases y),I _ _ a2 (p a2 fun _ y=>by cases y),a3⟩
  refine⟨l,f,[c],_,fun j=>Jj A B ns.length L m ((Y.map fun t=>t.2.2.2).getD j 0),fun C=>HZ T.ab C x c ns A B L/\C l=some (.lst (Y.map fun t=>V.ref t.1))/\(∀t∈Y,KA C t)/\J7 C T.aa C0/\C f=Z f/\C cc=Z cc,rfl,rfl,by simpa using hne,⟨M2,hl2,S2,T2,rfl,rfl⟩,fun C g=>IA.of g.2.1,?K,fun C k' g=>?R⟩
  case R =>
   have:=q C (fun b o e n=>k' b o (I b o e fun z=>n (by rw[z];exact .tail _ (.head _))) fun z=>n (by rw[AF.mp z];exact .head _)) g.1 g.2.2.2.1 g.2.2.1;unfold V1 at this;rw[AB]at this⊢;exact this
  case K =>
   intro O S kin;obtain⟨fd,ps,sp,M,J,h3⟩:=Ya (P:=P) (w:=w) (K:=K) (mg:=mg) (base:=O) (k:=4) (fr:=["marks", "held"]) (gs:=[.ref x,.int (m:Int)]) (g:=fun v C Q'=>∃ad:Nat,(∃t:A3,v = .ref t/\∃hd:A3,C t=some (.tup [.ref hd,.int (ad:Int)]))/\Pg T.ab [.ref x,.int (m:Int),.int (ad:Int)] C Q' E0) G D ⟨rfl,rfl,rfl,rfl,by decide +kernel,by decide +kernel,by decide +kernel,by decide +kernel,by decide +kernel⟩ (S.clos (by decide +kernel) (by decide +kernel) (by show ∀x∈_,(B7 KN).names.lookup x=some NameKind.cell;decide +kernel) rfl fun i x v M J=>by
    match i,M,J with
    | 0,M,J=>cases M;cases J;exact⟨0,rfl,rfl⟩
    | 1,M,J=>cases M;cases J;exact⟨1,rfl,rfl⟩
    | n+2,M,_=>cases M) (Binds.all fun us hl=>by match us,hl with | [_],_=>rfl) (fun A N s H u Q hr h=>by
    obtain⟨ad,⟨t,rfl,hd,et⟩,h⟩:=h;refine⟨_,C9 T.a0 (Eh T) (Rm hr) (A8 (pv 1) (A8 (pv 2) (A8 (D4 (PK K) (pv 0) B4 (fun _ _=>rfl)) B1))),?_⟩;exact A6 rfl (A6 rfl (A6 rfl ⟨t,_,B9 rfl rfl ⟨IZ.of et,rfl,h⟩⟩)))
   .refine⟨fd,ps,sp,M,J,fun j v C ev g=>h3 v C _ g.2.2.2.2.1 g.2.2.2.2.2 ?_⟩;rw[AH]at ev;obtain⟨t,W,rfl⟩:=BC.mp ev;obtain⟨U,gl,gS,gT,gf,gc⟩:=g;refine⟨t.2.2.2,⟨t.1,rfl,t.2.1,(gS t (AK W)).1⟩,x,c,ns,A,B,L,m,t.2.2.2,rfl,U,fun a H3 ha X M3 e3=>⟨a,rfl,fun z=>?_,X,⟨M3,JQ X gl (M7 U gl),fun t W=>(gS t W).sm U X,Y4 gT U X,?_,?_⟩,IZ.of ?_⟩⟩
    .rw[AF.mp z]at ha;exact l9 U ha
    .exact(JQ X (gf.trans G) (V8 U (gf.trans G) (fun _ y=>by cases y) fun _ _ y=>by cases y)).trans G.symm
    .exact(JQ X (gc.trans D) (V8 U (gc.trans D) (fun _ y=>by cases y) fun _ _ y=>by cases y)).trans D.symm
    .have:(Y.map fun t=>t.2.2.2).getD j 0=t.2.2.2:=by rw[AN,AH,W];rfl
     rw[e3];dsimp only;rw[this]
end
def SV:A5 Nat->V
 | some r=>.int (r:Int)
 | none=>.non
def Yg{α:Type}{f:Nat->A5 α}{l:A1 Nat}{i j:Nat}{r:α}(h:l[i]?=some j)(h1:∀x∈l.take i,f x=none)(h2:f j=some r):l.findSome? f=some r:=by
 have a:=(AE.mp h).1;have e:l=l.take i++j::l.drop (i+1):=by
  conv=>lhs;rw[<-BR i l]
  rw[FF a];congr 2;exact BE ((AC a).symm.trans h)
 rw[e,List.findSome?_append,GO.mpr h1,List.findSome?_cons,h2];rfl
def Be{H:Hp}{p a:A3}{o:HO}{ls:A1 (Pos×Str)}(h:J7 H p ls)(e:H a=some o)(n:∀u,o≠ .tbl u):a≠p:=fun y=>by
 obtain⟨c,b,_⟩:=h;rw[y,b]at e;cases e;exact n _ rfl
section
variable{P:A7}{w:HW}{K:PySem.W.Frag}{mg:Str->A5 A2}{base:H_}
theorem JM:HY ["marks", "held", "splits", "bit", "found"] ["marks", "held"] (B7 LW):=KI
def w9(C d:A3)(k:Nat):Sp:=fun e H Q _=>∃(x c:A3) (a:A1 Str) (A B:A1 Nat) (L m:Nat),e = [.ref x,.int (m:Int)]/\HZ C H x c a A B L/\LB a.length m/\J7 H d C0/\a.length<k +(D3 m a.length).length /\
 ∀b,Sm [c,d] H b->HZ C b x c a A B L->J7 b d C0->Q (SV (Q0 A B a.length L k m)) b
set_option maxHeartbeats 4000000 in
theorem o8(T:Tx K mg)(hB:base.BuiltinsAt mg T.aa){n k:Nat}{S:Sp}(h1:7<=n)(g:IG P w K mg base IW n T.al.f T.al.fd ["marks", "held"] S)(hS:∀J,k=J+1->S=w9 T.ab T.aa J) :
  IG P w K mg base IW (n+1) T.al.f T.al.fd ["marks", "held"] (w9 T.ab T.aa k):=by
 have I:IG P w K mg base IW n T.aB.f T.aB.fd ["marks", "held"] (Ek T.ab):=(Al T).mono (by omega);have v:IG P w K mg base IW n T.aD.f T.aD.fd ["marks", "held"] (Cg T.ab):=(X9 T).mono (by omega);have C:IG P w K mg base IW n T.av.f T.av.fd ["marks", "held", "splits"] (Jm T.ab T.aa):=(d6 T hB).mono h1;have p:IG P w K mg base IW n T.ac.f T.ac.fd ["self", "some"] (j8 T.ab):=(E4 T).mono (by omega);refine T.al.F.o1 JM fun cdv A outer s H vs Q E Y h=>?_
 .obtain⟨x,c,u,A,B,L,m,rfl,hM,lo,hT,hk,q⟩:=h;refine⟨_,(B3 (I0 (C2 Jg (C9 T.aB I (Y.mono (Nat.le_refl _)) (A8 (pv 0) (A8 (pv 1) B1))) z6 (D6 _)) (B5 (C1 z6)) C5)
   (B3 (C6 (i:=2) JM.nd rfl (.inl rfl) (C9 T.aD v (Y.mono (Nat.le_refl _)) (A8 (pv 0) (A8 (pv 1) B1))))
   (B3 (I0 (Q5 (SX K (pv 2))) (B5 (C1 (pv 1))) C5)
   (B3 (O4 PassesOwn.never rfl (OE K (E1 (pv 0) T.ad T.ac.m p (Y.mono (Nat.le_refl _)) T.ac.b .nil M0 (A8 (D4 (PK K) (C9 T.av C (Y.mono (Nat.le_refl _)) (A8 (pv 0) (A8 (pv 1) (A8 (pv 2) B1)))) B4 (fun _ _=>rfl)) B1))) (D0 (i:=3) JM.nd rfl (.inl rfl))
   (B3 (C6 (i:=4) JM.nd rfl (.inl rfl) (C9 T.al g (Y.mono (Nat.le_refl _)) (A8 (pv 0) (A8 (C4 Y2 (pv 1) (pv 3)) B1))))
   (B5 (I0 (C2 Jg (pv 4) z6 (D6 _)) (B5 (C1 (pv 4))) C5))))
   (B5 (C1 z6)))))),?_⟩
  obtain⟨J,rfl⟩:∃J,k=J+1:=⟨k-1,by have:=M5 m u.length;omega⟩;have eS:=hS J rfl;subst eS;have up:∀{G G':Hp},Sm [c] G G'->Sm [c,T.aa] G G':=fun k b o e n=>k b o e fun z=>n (by rw[AF.mp z];exact .head _);refine B8 fun N1 hN1=>?_;refine A6 rfl (A6 rfl ⟨x,c,u,A,B,L,m,rfl,hM,lo,fun H1 k1 M1=>⟨fun nc=>?_,fun a cl ha et=>?_⟩⟩);rotate_left
  .refine⟨rfl,_,rfl,T7 (fun _=>?_) fun z=>absurd (by simp) z⟩;have e:Q0 A B u.length L (J+1) m=none:=by
    unfold Q0;rw[AL cl]
   have:=q H1 (up k1) M1 (Y4 hT hM k1);rw[e]at this;exact this
  have Z:¬P4 B m:=fun⟨j,O,hh⟩=>nc j O hh;have T1:=Y4 hT hM k1;refine⟨rfl,_,rfl,T7 (fun z=>absurd z (by simp)) fun _=>hN1 _ _ (B8 fun N2 hN2=>?_)⟩;refine A6 rfl (A6 rfl ⟨x,c,u,A,B,L,m,rfl,M1,lo,fun l R H2 hl k2 M2 el aS mS=>?_⟩);have mS:=Bj mS;have T2:=Y4 T1 M1 k2;refine hN2 _ _ (B8 fun N3 hN3=>?_);refine A6 rfl ⟨_,.inl ⟨_,IA.of el,rfl⟩,?_⟩;have k02:=up (k1.trans k2);cases N:R with
  | nil =>
   subst N;refine T7 (fun _=>A6 rfl ?_) fun z=>absurd rfl z;have e:Q0 A B u.length L (J+1) m=some m:=by
    unfold Q0;rw[AJ Z,AL (EE.mp (show V3 A B u.length m = []from mS.symm))]
   have:=q H2 k02 M2 T2;rw[e]at this;exact this
  | cons t0 ts0 =>
   rw[<-N];have U:R≠[]:=by rw[N];exact List.cons_ne_nil _ _
   have dne:E3 A B u.length m≠[]:=fun z=>U (EE.mp (mS.trans (by unfold V3;rw[z];rfl)));have W:Q0 A B u.length L (J+1) m =(D3 (M8 A B u.length L m) u.length).findSome? fun j=>Q0 A B u.length L J (m ||| 2^j):=by
    conv=>lhs;unfold Q0
    rw[AJ Z,AJ dne]
   refine T7 (fun z=>absurd z (by rw[N];exact fun y=>by cases y)) fun _=>hN3 _ _ (B8 fun N4 hN4=>?_);obtain⟨dx,a,b,d,kb,e1,_⟩:=M2.ex;refine A6 rfl ⟨x,dx,A6 rfl ⟨e1,rfl,A6 rfl (A6 rfl (A6 rfl ⟨x,c,l,u,A,B,L,m,R,rfl,M2,el,U,aS,T2,fun H3 k3 M3 T3 S3=>?_⟩))⟩⟩;have hb:=Y0 (A:=A) (B:=B) (n:=u.length) (L:=L) (m:=m) (ads:=R.map fun t=>t.2.2.2) (fun z=>U (EE.mp z));rw[AB]at hb;have M:=AC hb;generalize hbi:V1 A B u.length L m (R.map fun t=>t.2.2.2)=bi at hb M⊢;generalize hti:R[bi]=t at M;have ead:M8 A B u.length L m=t.2.2.2:=by
    unfold M8;rw[<-mS,hbi,AN,AH,M];rfl
   have ev:(R.map fun t=>V.ref t.1).getD bi .non = .ref t.1:=by rw[AN,AH,M];rfl
   rw[ev];refine⟨t.1,_,B9 rfl rfl ⟨IZ.of (S3 t (AK M)).1,rfl,?_⟩⟩;refine⟨x,c,u,A,B,L,t.2.2.2,rfl,M3,fun D H4 hD k4 M4 X=>?_⟩;have T4:=Y4 T3 M3 k4;have k04:Sm [c,T.aa] H H4:=(k02.trans k3).trans (up k4);have nDc:=M7 M4 X;have nDp:=Be T4 X fun _ y=>by cases y
   rw[ead]at W;refine⟨D,rfl,⟨_,IA.of X⟩,S4 (D:={ nx:=N4,rt:=Q }) (NR (IA.of X)) (fun i σ G=>(∃v3 v4,σ = [some (.ref x),some (.int (m:Int)),some (.ref l),v3,v4])/\Sm [c,T.aa] H4 G/\HZ T.ab G x c u A B L/\J7 G T.aa C0/\∀j∈(D3 t.2.2.2 u.length).take i,Q0 A B u.length L J (m ||| 2^j)=none) ⟨⟨_,_,rfl⟩,Sm.refl _ _,M4,T4,fun j O=>absurd O BN⟩ (fun i σ G _ h o e=>by rw[X]at e;cases e;exact h.2.1 _ _ X (by simp[nDc,nDp])) ?_ ?_⟩
   .rintro i σ G y hy ⟨⟨v3,v4,rfl⟩,kG,MG,TG,nG⟩ D1 hD1 hrt;rw[AH]at hy;obtain⟨j,O,rfl⟩:=BC.mp hy;obtain⟨hjn,hjb⟩:=JI.mp (AK O);have hjm:=(Bf (L:=L) hM.net dne (by rw[ead];exact hjb)).2;refine Vj fun N5 hN5=>?_;refine A6 rfl (A6 rfl (A6 rfl (B9 rfl rfl ?_)));dsimp only;rw[QG];refine⟨x,c,u,A,B,L,m ||| 2^j,rfl,MG,lo.or hjn,TG,by rw[Kk hjm,AL hjn];omega,fun G1 k1' M1' T1'=>?_⟩;refine hN5 _ _ ?_;cases ho:Q0 A B u.length L J (m ||| 2^j)with
    | some r =>
     refine A6 rfl ⟨rfl,_,rfl,T7 (fun _=>A6 rfl ?_) fun z=>absurd (by simp[SV]) z⟩;have:=q G1 (k04.trans (kG.trans k1')) M1' T1';rw[W,Yg (f:=fun j=>Q0 A B u.length L J (m ||| 2^j)) O nG ho]at this;rw[hrt];exact this
    | none =>
     refine A6 rfl ⟨rfl,_,rfl,T7 (fun z=>absurd z (by simp[SV])) fun _=>hD1 _ _ ⟨⟨_,_,rfl⟩,kG.trans k1',M1',T1',fun j' hj'=>?_⟩⟩;rw[IQ O]at hj';rcases AW.mp hj' with z | z
     .exact nG j' z
     .rw[AF.mp z];exact ho
   .rintro σ G ⟨_,kG,MG,TG,nG⟩;rw[AB,B_]at nG;have:=q G (k04.trans kG) MG TG;rw[W,GO.mpr nG]at this;exact hN4 _ _ this
theorem U1(T:Tx K mg)(a:base.BuiltinsAt mg T.aa):∀k,IG P w K mg base IW (8+k) T.al.f T.al.fd ["marks", "held"] (w9 T.ab T.aa k)
 | 0=>o8 (n:=7) T a (by decide) (S:=fun _ _ _ _=>False) ⟨fun _ _ _ _ h=>h.elim,fun _ _ _ _ _ _ _ _ _ _ _ _ _ h=>h.elim⟩ fun b e=>by omega
 | k+1=>o8 (n:=8+k) T a (by omega) (U1 T a k) fun b e=>by cases e;rfl
end
def Ub(l:A1 Nat):((l.map fun k=>((2^k:Nat):Int)).sum) =(((l.map fun k=>2^k).sum:Nat):Int):=by
 induction l with
 | nil=>rfl
 | cons k l a=>rw[A_,GY,A_,GY,a];omega
def Ac{ns:A1 Str}{y:Str}(h:y∈ns):ns[ns.idxOf y]?=some y:=by
 have l:=GZ.mpr h;rw[AC l,List.getElem_idxOf l]
section
variable{P:A7}{w:HW}{K:PySem.W.Frag}{mg:Str->A5 A2}{base:H_}
theorem Br:HY ["self", "some"] ["self", "some"] (B7 MI):=KI
def Na(K:PySem.W.Frag)(C:A3):Sp:=fun f H Q _=>∃(x c a:A3) (d:A1 Str) (A B:A1 Nat) (L:Nat) (b:A1 Str),f = [.ref x,.ref a]/\HZ C H x c d A B L/\QE K H a (b.map V.str)/\(∀y∈b,y∈d)/\b.Nodup/\b.length<=100/\∀(m:Nat) e,F8 H e->LB d.length m->(∀(j:Nat) y,d[j]?=some y->(m.testBit j=true↔y∈b))->Q (.int (m:Int)) e
theorem Ai(T:Tx K mg):IG P w K mg base IW 1 T.aG.f T.aG.fd ["self", "some"] (Na K T.ab):=by
 refine T.aG.F.o1 Br fun cdv A U s H vs Q E hr h=>?_
 .obtain⟨x,c,a,v,A,B,L,C,rfl,t,ha,sub,nd,W,q⟩:=h;have hu:=X5 hr;refine⟨_,(B5 (C1 (G0 (Lh K) T.bh Fm (A8 (U4 (N':=["name", "self"]) (cap:=[none,some 0]) (cl:=[("self",_)]) (P3 ⟨⟨rfl,rfl,rfl,rfl⟩,trivial⟩ ⟨rfl,trivial⟩) rfl (piS K (pv 1)) (fun _ _ _ _=>by exact⟨(MX 0),K1,(K7 hu (OT K (pv 1)) (pv 0) (fun _ _=>rfl))⟩)) B1)))),?_⟩;obtain⟨dx,a',b,d,kb,e1,e2,e3,e4,e5,e6,n1,n2⟩:=t.ex;have I:∀{J:It} (X:St->Hp->Prop),LP J (C.map V.str) a H->∀D,H D=none->(∀σ' G (m:Nat) (i:A1 Int),F8 H G->G D=some (.lst (i.map V.int))->i.sum =(m:Int)->LB v.length m->(∀(j:Nat) y,v[j]?=some y->(m.testBit j=true↔y∈C))->X σ' G) ->
    Ia (U5 0) Ca (Bx D (Um (zCx K (Vd 1) ("bit_of":Str)) (Vd 0))) J [none,some (.ref x)] (HX H D (.lst [])) X:=by
   intro J X Y D l hQ;refine Hz (r:=V.str) (fun y=>K8 (2^v.idxOf y)) Y (fun _=>true) (Nat.le_trans W (by decide)) l (fun y g G u M t=>t G fun b o e=>e) (fun y g G u M t=>?_) fun σ' G u O=>?_
   .have rb:Rd G b (.dK kb):=e3.imp (u _ _) fun⟨o,e⟩=>⟨o,u _ _ e⟩;exact A6 rfl ⟨x,T.ab,dx,_,A6 rfl ⟨u _ _ e1,T.ad,T.a2,rfl,A6 rfl ⟨b,_,rfl,.inl ⟨kb,.inr y,rb,rfl,(e4 _ y (Ac (sub y g))).symm⟩,t⟩⟩⟩
   rw[EW.mpr fun _ _=>rfl]at O;have O:G D=some (.lst (((C.map fun y=>v.idxOf y).map fun k=>((2^k:Nat):Int)).map V.int)):=by rw[O,CG,CG];rfl
   have Z:(C.map fun y=>v.idxOf y).Nodup:=by
    refine CP.mpr (nd.imp_of_mem fun{y z} g R n e=>n ?_);have h1:=Ac (sub y g);rw[e,Ac (sub z R)]at h1;exact(BE h1).symm
   have hb:=Ab Z;refine hQ σ' G _ _ u O (Ub _) (fun j S=>?_) fun j y S=>?_
   .obtain⟨y,g,e⟩:=AV.mp ((hb j).mp S);rw[<-e];exact GZ.mpr (sub y g)
   .rw[hb,AV];constructor
    .rintro⟨z,R,e⟩;have:=Ac (sub z R);rw[e,S]at this;rw[BE this];exact R
    .intro g;exact⟨y,g,(List.getElem?_inj (GZ.mpr (sub y g)) t.nd).mp ((Ac (sub y g)).trans S.symm)⟩
  have N:∀{J:It},LP J (C.map V.str) a H->∀D,H D=none->Ia (U5 0) Ca (Bx D (Um (zCx K (Vd 1) ("bit_of":Str)) (Vd 0))) J [none,some (.ref x)] (HX H D (.lst [])) fun _ G=>∃(p:A3) (i:A1 Int),[V.ref D] = [.ref p]/\IA K G p (i.map V.int)/\Q (.int i.sum) G:=fun Y D l=>I _ Y D l fun σ' G m i s e es lo b=>⟨D,i,rfl,IA.of e,by rw[es];exact q m G s lo b⟩;exact A6 rfl ⟨a,rfl,ha.elim (fun h=>.inl ⟨⟨_,h⟩,fun D l=>N (NR h) D l⟩) fun h=>.inr ⟨⟨_,h⟩,fun D l=>N (asT h) D l⟩⟩
theorem Ed:HY ["marks", "sets", "held"] ["marks", "sets", "held"] (B7 NE):=KI
def As(C:A3):Sp:=fun d H Q _=>∃(x c a:A3) (e:A1 Str) (A B:A1 Nat) (L m:Nat),d = [.ref x,.ref a,.int (m:Int)]/\HZ C H x c e A B L/\H a=some (.lst [])/\∀l b,H l=none->F8 H b->b l=some (.lst [])->Q (.ref l) b
theorem Ds(T:Tx K mg):IG P w K mg base IW 1 T.aK.f T.aK.fd ["marks", "sets", "held"] (As T.ab):=by
 refine T.aK.F.o1 Ed fun k A b s H p Q E l h=>?_
 .obtain⟨x,c,a,r,A,B,L,m,rfl,t,j,q⟩:=h;have u:=X5 l;refine⟨_,(B5 (C1 (U4 (N':=["at", "some", "marks", "held"]) (cap:=[none,none,some 0,some 2]) (cl:=[("marks",_),("held",_)]) (P3 ⟨⟨rfl,rfl,rfl,rfl⟩,⟨⟨rfl,rfl,rfl,rfl⟩,trivial⟩⟩ ⟨rfl,⟨rfl,trivial⟩⟩) rfl (SJ K T.aF (A8 (pv 1) B1)) (fun _ _ _ _=>by exact⟨(QA K (n:=2) (C8 (MX 0) (C8 (MX 1) M9))),(T9 (C2 Q8 (C4 K5 (pv 3) (pv 1)) (pv 3) (D6 _))),(G7 (A8 (G7 (A8 P5 (A8 (pv 0) B1))) (A8 (C4 Wb (OT K (pv 2)) (pv 1)) B1)))⟩)))),?_⟩;refine A6 rfl ⟨a,[],rfl,IA.of j,fun D d=>?_⟩;have o:(HX H D (.lst [])) a=some (.lst []):=F8.new d _ _ j;refine n9 (n:=0) (fun i σ G=>G=HX H D (.lst [])) rfl (fun i σ G g _=>absurd g (EF _)) (fun σ G e=>?_) (fun i σ G y v N g _ _ _=>absurd g (EF _)) fun σ G e=>?_
  .subst e;exact⟨[],IA.of o,rfl⟩
  .subst e;exact q D _ d (F8.new d) A9
theorem Z7:HY ["marks", "sets", "held"] ["marks", "sets", "held"] (B7 KZ):=KI
def Ct(C:A3):Sp:=fun f H Q _=>∃(x c a:A3) (b:A1 Str) (A B:A1 Nat) (L m:Nat),f = [.ref x,.ref a,.int (m:Int)]/\HZ C H x c b A B L/\H a=some (.lst [])/\(∀j,m.testBit j=true->j<b.length) /\
 ∀l (e:A1 RM) d,H l=none->Sm [c] H d->HZ C d x c b A B L->d l=some (.lst (e.map fun t=>V.ref t.1))->(∀t∈e,KA d t)->(e.map fun t=>t.2.2) =(E3 A B b.length m).map (Go b A B m)->Q (.ref l) d
theorem R0(T:Tx K mg):IG P w K mg base IW 5 T.aj.f T.aj.fd ["marks", "sets", "held"] (Ct T.ab):=by
 have b:IG P w K mg base IW 4 T.aK.f T.aK.fd ["marks", "sets", "held"] (As T.ab):=(Ds T).mono (by decide);refine T.aj.F.o1 Z7 fun M A i s H vs Q E k h=>?_
 .obtain⟨x,c,a,n,A,B,L,m,rfl,r,G,N,q⟩:=h;have hu:=X5 k;refine⟨_,(B5 (C1 (C4 Gm (C9 T.aD (X9 T) (Rm k) (A8 (pv 0) (A8 (pv 2) B1))) (C9 T.aK b (Rm k) (A8 (pv 0) (A8 (pv 1) (A8 (pv 2) B1))))))),?_⟩;refine A6 rfl (A6 rfl ⟨x,c,n,A,B,L,m,rfl,r,N,fun l e H1 hl u v O R I=>?_⟩);have z:=JQ u G (M7 r G);refine A6 rfl (A6 rfl (A6 rfl ⟨x,c,a,n,A,B,L,m,rfl,v,z,fun S U W d X=>?_⟩));have Y:e.length<=100:=by
   have J:=congrArg List.length (Bj I);unfold V3 E3 at J;rw[AB,AB]at J;have Z:=BT (fun j=>@decide (o0 A m j/\¬o0 B m j) (Classical.propDecidable _)) (List.range n.length);rw[CF]at Z;have:=r.len;omega
  refine⟨l,S,_,_,rfl,rfl,d _ _ O,X,by rw[AB,sizeLine_eq];show e.length+0<=_;omega,fun p g=>?_⟩;rw[CH];have C:=F8.new (o:=.lst (e.map fun t=>V.ref t.1)) g;have k3:Sm [c] H (HX U p (.lst (e.map fun t=>V.ref t.1))):=u.trans (d.trans C).sm;have M3:=v.same (d.trans C);exact q p e _ ((u.trans (d.sm (D:=[c]))).none (fun y=>by rw[AF.mp y]at g;exact l9 (v.same d) g) g) k3 M3 A9 (fun t ht=>(R t ht).same (d.trans C)) I
end
def zGe{n:Nat}{a:A1 Nat}(b:a.Nodup)(h:∀m∈a,LB n m):a.length<=2^n:=by
 classical
 have c:a.Perm ((List.range (2^n)).filter fun m=>decide (m∈a)):=(List.perm_ext_iff_of_nodup b (DM.nodup GQ)).mpr fun m=>by
  rw[BM,BX,BQ];exact⟨fun z=>⟨(h m z).lt,z⟩,(·.2)⟩
 rw[c.length_eq];exact Nat.le_trans (BT _ _) (by rw[CF];exact Nat.le_refl _)
structure Kn(kvs:A1 (IR×V))(n:Nat)(b:Nat->Prop)(W:Nat->A3->Prop):Prop where
 ks:∃ms:A1 Nat,(kvs.map fun q=>q.1)=ms.map (fun k:Nat=>(.inl (k:Int):IR))/\ms.Nodup/\∀k∈ms,LB n k
 vs:∀(k:Nat) v,S6 kvs (.inl (k:Int))=some v->(v = .non/\b k)\/∃r,v = .ref r/\W k r
def Kn.imp{a:A1 (IR×V)}{n:Nat}{b:Nat->Prop}{W c:Nat->A3->Prop}(h:Kn a n b W)(k:∀j r,W j r->c j r):Kn a n b c:=⟨h.ks,fun j v e=>(h.vs j v e).imp id fun⟨r,e,w⟩=>⟨r,e,k _ _ w⟩⟩
def Kn.len{a:A1 (IR×V)}{n:Nat}{b:Nat->Prop}{W:Nat->A3->Prop}(h:Kn a n b W):a.length<=2^n:=by
 obtain⟨d,e,c,lo⟩:=h.ks;have:=congrArg List.length e;rw[AB,AB]at this;rw[this];exact zGe c lo
def Kn.put{d:A1 (IR×V)}{n k:Nat}{b g:Nat->Prop}{W:Nat->A3->Prop}{v:V}(h:Kn d n b W)(lo:LB n k)(w:(v = .non/\g k)\/∃r,v = .ref r/\W k r)(p:∀j,j≠k->b j->g j):Kn (p9 d (.inl (k:Int)) v) n g W:=by
 refine⟨?_,fun j u f=>?_⟩
 .obtain⟨i,e,m,o⟩:=h.ks;unfold p9;by_cases a:(d.any fun s=>decide (s.1 =(.inl (k:Int):IR)))=true
  .rw[AL a];refine⟨i,?_,m,o⟩;rw[CG,<-e];refine List.map_congr_left fun q _=>?_;show(if q.1 =(.inl (k:Int):IR)then(q.1,v)else q).1=q.1;split<;>rfl
  .rw[AJ a];refine⟨i ++ [k],by rw[AO,e,AO];rfl,D_.mpr ⟨m,FV _ _,fun x t y A z=>a ?_⟩,fun j f=>?_⟩
   .rw[AF.mp A]at z;subst z;have:(.inl (x:Int):IR)∈d.map fun q=>q.1:=e▸AV.mpr ⟨x,t,rfl⟩;obtain⟨q,B,C⟩:=AV.mp this;exact HQ.mpr ⟨q,B,BB C⟩
   .rcases AW.mp f with z | z
    .exact o j z
    .rw[AF.mp z];exact lo
 .rw[y8]at f;by_cases c:(.inl (j:Int):IR) = .inl (k:Int)
  .rw[AL c]at f;cases f;have:j=k:=by
    have:=Sum.inl.inj c;omega
   rw[this];exact w
  .rw[AJ c]at f;exact(h.vs j u f).imp (fun⟨z,l⟩=>⟨z,p j (fun z=>c (by rw[z])) l⟩) id
def Nm{C:A3}{H H':Hp}{x c:A3}{ns:A1 Str}{A B:A1 Nat}{L:Nat}(h:HZ C H x c ns A B L)(k:∀b o,H b=some o->b≠c->(∀u,o≠ .tbl u)->H' b=some o)(r:Rd H' c (.dK (bK A ns.length))):HZ C H' x c ns A B L:=by
 obtain⟨⟨m,a,b,d,n,f,g,p,q,j,s,l,i⟩,t,v,w,D⟩:=h;have E:x≠c:=fun z=>by
  rw[z]at f;rcases j with e | ⟨o,e⟩<;>rw[f]at e<;>cases e
 have F:a≠c:=fun z=>by
  rw[z]at g;rcases j with e | ⟨o,e⟩<;>rw[g]at e<;>cases e
 exact⟨⟨m,a,b,d,n,k _ _ f E (fun _ y=>by cases y),k _ _ g F (fun _ y=>by cases y),p.imp (fun e=>k _ _ e i (fun _ y=>by cases y)) (fun⟨o,e⟩=>⟨o,k _ _ e i (fun _ y=>by cases y)⟩),q,r,k _ _ s l (fun _ y=>by cases y),l,i⟩,t,v,w,D⟩
def Dx{C:A3}{H:Hp}{x c:A3}{ns:A1 Str}{A B:A1 Nat}{L:Nat}(h:HZ C H x c ns A B L):Rd H c (.dK (bK A ns.length)):=by
 obtain⟨⟨f,a,b,d,g,i,j,k,l,e,_⟩,_⟩:=h;exact e
def Lc{C:A3}{H G:Hp}{x c d p:A3}{ns:A1 Str}{A B:A1 Nat}{L:Nat}{ls:A1 (Pos×Str)}(h:HZ C (Sw.er H d) x c ns A B L)(i:J7 H p ls)(k:Sm [c,p,d] H G)(r:Rd G c (.dK (bK A ns.length))):HZ C (Sw.er G d) x c ns A B L:=by
 have a:d≠c:=fun z=>l9 h (by unfold Sw.er;rw[AL z.symm]);refine Nm h (fun b o e j l=>?_) (by unfold Rd;rw[Mo a.symm];exact r);have f:b≠d:=fun z=>by subst z;unfold Sw.er at e;rw[AL rfl]at e;cases e
 rw[Mo f];have g:=Az H d b o e;refine k b o g fun z=>?_;rcases AR.mp z with z | z
 .exact j z
 rcases AR.mp z with z | z
 .exact Be i g l z
 .exact f (AF.mp z)
def Ld{G a:Hp}{c p d:A3}{M:A1 (IR×V)}{ls:A1 (Pos×Str)}{f:A1 (IR×V)}(r:Rd G c (.dK M))(t:J7 G p ls)(e:G d=some (.dK f))(k:Sm [c,p,d] G a)(b:A3)(xs:A1 V)(h:G b=some (.tup xs)):a b=some (.tup xs):=k _ _ h fun z=>by
 rcases AR.mp z with z | z
 .rw[z]at h;rcases r with e | ⟨o,e⟩<;>rw[h]at e<;>cases e
 rcases AR.mp z with z | z
 .exact Be t h (fun _ y=>by cases y) z
 .rw[AF.mp z,e]at h;cases h
def T8(ns:A1 Str)(A B:A1 Nat)(L:Nat)(H:Hp)(m:Nat)(r:A3):Prop:=IV ns A B L H (t6 ns.length m) m r
def Ma(n m:Nat):∃f,t6 n m=f+1:=⟨n-(D3 m n).length,by have:=M5 m n;unfold t6;omega⟩
section
variable{P:A7}{w:HW}{K:PySem.W.Frag}{mg:Str->A5 A2}{base:H_}
theorem LQ:HY ["marks", "splits_at", "sets", "held", "known", "head", "added", "trees"] ["marks", "splits_at", "sets", "held", "known"] (B7 OX):=KI
def Dq(C i f:A3)(k:Nat):Sp:=fun n H Q _=>∃(x c a d:A3) (b:A1 Str) (A B:A1 Nat) (L m:Nat) (h:A1 (IR×V)) (l:Nat->Prop),n = [.ref x,.ref f,.ref a,.int (m:Int),.ref d]/\HZ C (Sw.er H d) x c b A B L/\LB b.length m/\b.length<=12/\J7 H i C0/\H a=some (.lst [])/\H d=some (.dK h)/\(∀j,l j->j<m)/\Kn h b.length l (T8 b A B L H)/\b.length<k +(D3 m b.length).length/\Q0 A B b.length L k m=none /\
 ∀(r:A3) (e:A1 (IR×V)) g,Sm [c,i,d] H g->Rd g c (.dK (bK A b.length))->J7 g i C0->g d=some (.dK e)->Kn e b.length l (T8 b A B L g)->T8 b A B L g m r->Q (.ref r) g
set_option maxHeartbeats 4000000 in
theorem Mg(T:Tx K mg)(hB:base.BuiltinsAt mg T.aa){n k:Nat}{f:A3}{fd:IP}{S:Sp}(h1:7<=n)(U:IG P w K mg base IW n f fd ["marks", "sets", "held"] (Ct T.ab))(J:PySem.W.keepIn K (.ref f)=true)(M:Binds K fd ["marks", "sets", "held"] [])
  (G_tree_at:IG P w K mg base IW n T.aA.f T.aA.fd ["marks", "splits_at", "sets", "held", "known"] S) (hS:∀k',k=k'+1->S=Dq T.ab T.aa f k') :
  IG P w K mg base IW (n+1) T.aA.f T.aA.fd ["marks", "splits_at", "sets", "held", "known"] (Dq T.ab T.aa f k):=by
 have Y:IG P w K mg base IW n T.aB.f T.aB.fd ["marks", "held"] (Ek T.ab):=(Al T).mono (by omega);have O:IG P w K mg base IW n T.av.f T.av.fd ["marks", "held", "splits"] (Jm T.ab T.aa):=(d6 T hB).mono h1;have C:IG P w K mg base IW n T.ac.f T.ac.fd ["self", "some"] (j8 T.ab):=(E4 T).mono (by omega);refine T.aA.F.o1 LQ fun cdv A outer s H vs Q E hr h=>?_
 .obtain⟨x,c,a,d,g,A,B,L,m,kvs,bp,rfl,hR,lo,l12,hT,ha,hd,hbp,hK,hk,hs,q⟩:=h;have hu:=X5 hr;refine⟨_,(B3 (I0 (zBv (Rc hu (pv 3) (pv 4))) (B5 (Qe hu (pv 4) (pv 3) (C9 T.aB Y (hr.mono (Nat.le_refl _)) (A8 (pv 0) (A8 (pv 3) B1))) rfl)) C5)
   (B3 (I0 (C2 zAf (K7 hu (pv 4) (pv 3) (fun _ _=>rfl)) z6 (D6 _)) (B3 (Y3 (C9 T.av O (hr.mono (Nat.le_refl _)) (A8 (pv 0) (A8 (pv 3) (A8 (Uo (i:=1) U (hr.mono (Nat.le_refl _)) J M M0 (A8 (pv 0) (A8 (pv 2) (A8 (pv 3) B1)))) B1)))) (QA K (n:=2) (C8 (D0 (i:=5) LQ.nd rfl (.inl rfl)) (C8 (D0 (i:=6) LQ.nd rfl (.inl rfl)) M9))))
   (B3 (Dy (i:=7) (N':=["bit", "marks", "splits_at", "sets", "known", "held"]) (cap:=[none,some 0,some 1,some 2,some 4,some 3]) (cl:=[("splits_at",_),("sets",_),("marks",_),("known",_),("held",_)]) LQ.nd rfl (.inl rfl) (P3 ⟨⟨rfl,rfl,rfl,rfl⟩,⟨⟨rfl,rfl,rfl,rfl⟩,⟨⟨rfl,rfl,rfl,rfl⟩,⟨⟨rfl,rfl,rfl,rfl⟩,⟨⟨rfl,rfl,rfl,rfl⟩,trivial⟩⟩⟩⟩⟩ ⟨rfl,⟨rfl,⟨rfl,⟨rfl,⟨rfl,trivial⟩⟩⟩⟩⟩) rfl (OE K (E1 (pv 0) T.ad T.ac.m C (hr.mono (Nat.le_refl _)) T.ac.b .nil M0 (A8 (pv 6) B1))) (fun _ _ _ _=>by exact⟨(MX 0),K1,(C9 T.aA G_tree_at (hr.mono (Nat.le_refl _)) (@A8 _ _ _ _ _ (pv 1) (@A8 _ _ _ _ _ (pv 2) (@A8 _ _ _ _ _ (pv 3) (@A8 _ _ _ _ _ (C4 Y2 (pv 5) (pv 0)) (@A8 _ _ _ _ _ (pv 4) B1 (by rfl)) (by rfl)) (by rfl)) (by rfl)) (by rfl)))⟩))
   (B5 (Qe hu (pv 4) (pv 3) (C4 (Yz K) (pv 5) (G7 (A8 (q9 (Kg K) T.a9 Z0 (A8 (pv 7) B1)) B1))) rfl)))) C5)
   (B5 (C1 (K7 hu (pv 4) (pv 3) (fun _ _=>rfl)))))),?_⟩
  obtain⟨k',rfl⟩:∃k',k=k'+1:=⟨k-1,by have:=M5 m g.length;omega⟩;have eS:=hS k' rfl;subst eS;have p12:2^g.length<=2^12:=Nat.pow_le_pow_right (by decide) l12;have hM:=hR.same (Az H d);have ndc:d≠c:=fun z=>l9 hR (by unfold Sw.er;rw[AL z.symm]);have up:∀{G X:Hp},Sm [c] G X->Sm [c,T.aa,d] G X:=fun k b o e n=>k b o e fun z=>n (by rw[AF.mp z];exact .head _);have upd_:∀{G:Hp} {o:HO},Sm [c,T.aa,d] G (HX G d o):=fun{G o} b u e n=>by
   rw[B6 fun z=>n (by rw[z];exact .tail _ (.tail _ (.head _)))];exact e
  have tabU:∀{G:Hp} {o:HO} {R:A1 (IR×V)},G d=some (.dK R)->J7 G T.aa C0->J7 (HX G d o) T.aa C0:=fun{G o R} e h=>by
   obtain⟨ps,e1,t,h2⟩:=h;exact⟨ps,(B6 (P2 e1 e (by intro y;cases y))).trans e1,t,fun l hl=>(h2 l hl).imp id fun⟨cc,e,hc⟩=>⟨cc,e,(B6 (P2 hc (by assumption) (by intro y;cases y))).trans hc⟩⟩
  have rdU:∀{G:Hp} {o:HO},Rd G c (.dK (bK A g.length))->Rd (HX G d o) c (.dK (bK A g.length)):=fun{G o} r=>by unfold Rd;rw[B6 ndc.symm];exact r
  refine B8 fun N1 hN1=>?_;have key:∀(G:Hp) (R:A1 (IR×V)) (v:V),Sm [c,T.aa,d] H G->Rd G c (.dK (bK A g.length))->J7 G T.aa C0->G d=some (.dK R)->Kn R g.length (fun j=>bp j\/j=m) (T8 g A B L G)->S6 R (.inl (m:Int))=some v->((v = .non/\¬P4 B m)\/∃r,v = .ref r/\T8 g A B L G m r)->N1 [some (.ref x),some (.ref f),some (.ref a),some (.int (m:Int)),some (.ref d),none,none,none] G:=by
   intro G R v kG rG TG ed KG ev hv;refine hN1 _ _ (B8 fun N2 hN2=>?_);have get:∀{G:Hp} {R:A1 (IR×V)} {v:V},G d=some (.dK R)->S6 R (.inl (m:Int))=some v->NU G d (.int (m:Int)) (some v):=fun{G R v} e h=>.inl ⟨R,.inl (m:Int),.inl e,rfl,h.symm⟩;have fin:∀(G:Hp) (R:A1 (IR×V)) (r:A3) (v5 v6 v7:A5 V),Sm [c,T.aa,d] H G->Rd G c (.dK (bK A g.length))->J7 G T.aa C0->G d=some (.dK R)->Kn R g.length bp (T8 g A B L G)->S6 R (.inl (m:Int))=some (.ref r)->T8 g A B L G m r->N2 [some (.ref x),some (.ref f),some (.ref a),some (.int (m:Int)),some (.ref d),v5,v6,v7] G:=fun G R r v5 v6 v7 kG rG TG ed KG ev tr=>hN2 _ _ (A6 rfl (A6 rfl ⟨d,_,rfl,get ed ev,q r R G kG rG TG ed KG tr⟩));refine A6 rfl (A6 rfl ⟨d,v,rfl,get ed ev,?_⟩);rcases hv with⟨rfl,nc⟩ | ⟨r,rfl,tr⟩;rotate_left
   .refine⟨rfl,_,rfl,T7 (fun z=>absurd z (by simp)) fun _=>fin G R r _ _ _ kG rG TG ed ⟨KG.ks,fun j u hj=>?_⟩ ev tr⟩;rcases KG.vs j u hj with⟨e,l | rfl⟩ | h
    .exact .inl ⟨e,l⟩
    .rw[ev,e]at hj;cases hj
    .exact .inr h
   refine⟨rfl,_,rfl,T7 (fun _=>?_) fun z=>absurd (by simp) z⟩;have MeG:=Lc hR hT kG rG;have MG:=MeG.same (Az G d);have ne3:∀{b:A3} {I:A1 V},H b=some (.lst I)->b∉[c,T.aa,d]:=fun{b I} e z=>by
    rcases AR.mp z with z | z
    .exact M7 hM e z
    rcases AR.mp z with z | z
    .exact Be hT e (fun _ y=>by cases y) z
    .rw[AF.mp z,hd]at e;cases e
   have haG:=kG _ _ ha (ne3 ha);have dne:E3 A B g.length m≠[]:=fun z=>by
    unfold Q0 at hs;rw[AJ nc,AL z]at hs;cases hs
   have kids:∀j∈D3 (M8 A B g.length L m) g.length,Q0 A B g.length L k' (m ||| 2^j)=none:=by
    unfold Q0 at hs;rw[AJ nc,AJ dne]at hs;exact GO.mp hs
   refine B8 fun N3 hN3=>?_;refine A6 rfl (A6 rfl ⟨rfl,A6 rfl (A6 rfl (A6 rfl ⟨x,c,a,g,A,B,L,m,rfl,MG,haG,lo,fun l ts H2 hl k2 M2 el aS mS=>?_⟩))⟩);have T2:=Y4 TG MG k2;have hne:ts≠[]:=fun z=>dne (EE.mp (show(E3 A B g.length m).map _ = []from mS.symm.trans (by rw[z];rfl)));have mT:=Bj mS;refine⟨x,c,l,g,A,B,L,m,ts,rfl,M2,el,hne,aS,T2,fun H3 k3 M3 T3 S3=>?_⟩;have hb:=Y0 (A:=A) (B:=B) (n:=g.length) (L:=L) (m:=m) (ads:=ts.map fun t=>t.2.2.2) (fun z=>hne (EE.mp z));rw[AB]at hb;have hb2:=AC hb;generalize hbi:V1 A B g.length L m (ts.map fun t=>t.2.2.2)=bi at hb hb2⊢;generalize hti:ts[bi]=t at hb2;have ej:t.2.2=Go g A B m (OF g A B L m):=by
    have h1:=congrArg (fun l=>l[bi]?) mS;rw[AH,hb2,AH,HA]at h1;obtain⟨j,hj,ej⟩:=BC.mp h1.symm;unfold OF;rw[<-mT,hbi,AN,hj];exact ej.symm
   have ead:M8 A B g.length L m=t.2.2.2:=by rw[(Ig dne).2,ej];rfl
   have ek:D3 t.2.2.2 g.length=U3 g A B L m:=by rw[ej];rfl
   have ev2:(ts.map fun t=>V.ref t.1).getD bi .non = .ref t.1:=by rw[AN,AH,hb2];rfl
   rw[ev2];obtain⟨et,eh,lh⟩:=S3 t (AK hb2);refine⟨t.1,_,rfl,IZ.of et,rfl,_,_,rfl,_,_,rfl,rfl,?_⟩;rw[ead]at kids;refine hN3 _ _ (B8 fun N4 hN4=>?_);obtain⟨dx,a',b,d',kb,e1,_⟩:=M3.ex;refine A6 rfl ⟨x,dx,A6 rfl ⟨e1,rfl,A6 rfl ⟨x,c,g,A,B,L,t.2.2.2,rfl,M3,fun D H4 hD k4 M4 eD=>?_⟩⟩⟩;have T4:=Y4 T3 M3 k4;have up2:∀{G X:Hp},Sm [c,T.aa] G X->Sm [c,T.aa,d] G X:=fun k b o e n=>k b o e fun z=>n (by
    rcases AR.mp z with z | z
    .rw[z];exact .head _
    .rw[AF.mp z];exact .tail _ (.head _))
   have kG4:Sm [c,T.aa,d] G H4:=((up k2).trans (up2 k3)).trans (up k4);have ed4:H4 d=some (.dK R):=by
    have nd2:d∉[c]:=fun z=>ndc (AF.mp z);have ndp:d≠T.aa:=Be TG ed fun _ y=>by cases y
    exact k4 _ _ (k3 _ _ (k2 _ _ ed nd2) (by simp[ndc,ndp])) nd2
   have rd4:=Dx M4;have nDc:=M7 M4 eD;have nDp:=Be T4 eD fun _ y=>by cases y
   have nDd:D≠d:=P2 eD ed4 (by intro y;cases y);have eh4:=JQ k4 eh (V7 M3 eh);have nhc:=V7 M4 eh4;have nhp:=Be T4 eh4 fun _ y=>by cases y
   have nhd:t.2.1≠d:=P2 eh4 ed4 (by intro y;cases y);refine⟨D,rfl,⟨_,IA.of eD⟩,fun Z hZ=>?_⟩;have nZc:c≠Z:=fun z=>by
    rcases rd4 with e | ⟨o,e⟩<;>rw[z,hZ]at e<;>cases e
   have nZd:d≠Z:=B2 ed4 hZ;have kH4:Sm [c,T.aa,d] H H4:=kG.trans kG4;have sZ:=F8.new (o:=.lst []) hZ;have lb:(D3 t.2.2.2 g.length).length<=12:=Nat.le_trans (M5 ..) l12;refine V0 (NR (IA.of eD)) (fun i σ X=>(∃v0,σ = [v0,some (.ref x),some (.ref f),some (.ref a),some (.ref d),some (.int (m:Int))])/\Sm [c,T.aa,d] H4 X/\Rd X c (.dK (bK A g.length))/\J7 X T.aa C0/\(∃rs:A1 A3,rs.length=i/\X Z=some (.lst (rs.map V.ref))/\∀(i' j:Nat) r,(D3 t.2.2.2 g.length)[i']?=some j->rs[i']?=some r->T8 g A B L X (m ||| 2^j) r)/\∃kv',X d=some (.dK kv')/\Kn kv' g.length (fun j=>bp j\/j=m) (T8 g A B L X)) ⟨⟨_,rfl⟩,sZ.sm,rd4.imp (sZ _ _) (fun⟨o,e⟩=>⟨o,sZ _ _ e⟩),Y4 T4 M4 (sZ.sm (D:=[c])),⟨[],rfl,A9,fun i' j r _ h=>by cases h⟩,R,sZ _ _ ed4,KG.imp fun j r h=>IV.keep (fun b I e=>sZ _ _ (Ld rG TG ed kG4 b I e)) h⟩ (fun i σ X _ h o e=>by rw[eD]at e;cases e;exact h.2.1 _ _ eD (by simp[nDc,nDp,nDd])) ?_ ?_
   .rintro i σ X y N hx ⟨⟨v0,rfl⟩,kG',rG',TG',⟨rs,lrs,eZ,tZ⟩,kv',ed',K'⟩ hN;have li:=(AE.mp hx).1;rw[AB]at li;rw[AH]at hx;obtain⟨j,hj,rfl⟩:=BC.mp hx;have mj:=AK hj;obtain⟨hjn,hjb⟩:=JI.mp mj;have hjm:=(Bf (L:=L) hM.net dne (by rw[ead];exact hjb)).2;have gt:m<m ||| 2^j:=FB Nat.left_le_or fun z=>hjm (by
     have:=(U6 m j j).mpr (.inr rfl);rw[<-z]at this;exact this)
    refine Cj ?_;refine A6 rfl (A6 rfl (A6 rfl (A6 rfl (A6 rfl (B9 rfl rfl ?_)))));dsimp only;rw[QG];have kHG':=kH4.trans kG';refine A6 rfl ⟨x,c,a,d,g,A,B,L,m ||| 2^j,kv',_,rfl,Lc hR hT kHG' rG',lo.or hjn,l12,TG',kHG' _ _ ha (ne3 ha),ed',fun i hi=>?_,K',by rw[Kk hjm,AL hjn];omega,kids j mj,fun r kv2 G2 k2' r2 T2' ed2 K2 tr2=>?_⟩
    .rcases hi with h | rfl
     .exact Nat.lt_trans (hbp i h) gt
     .exact gt
    have nZ3:Z∉[c,T.aa,d]:=fun z=>by
     rcases AR.mp z with z | z
     .exact nZc z.symm
     rcases AR.mp z with z | z
     .obtain⟨ps,e,_⟩:=T4;rw[<-z,hZ]at e;cases e
     .exact nZd (AF.mp z).symm
    have eZ2:=k2' _ _ eZ nZ3;have kZ:∀b I,G2 b=some (.tup I)->(L2.HX G2 Z (.lst (rs.map V.ref ++ [V.ref r]))) b=some (.tup I):=fun b I e=>(B6 (P2 e eZ2 (by intro y;cases y))).trans e;refine⟨_,eZ2,by rw[AB,sizeLine_eq];omega,hN _ _ ⟨⟨_,rfl⟩,fun b o e n=>?_,?_,?_,⟨rs ++ [r],by rw[AU,lrs];rfl,by rw[A9,AO];rfl,fun i' j' r' h1 h2=>?_⟩,kv2,by rw[B6 nZd];exact ed2,K2.imp fun j r h=>IV.keep kZ h⟩⟩
    .rw[B6 (B2 e hZ)];exact(kG'.trans k2') b o e n
    .unfold Rd;rw[B6 nZc];exact r2
    .obtain⟨ps,e1,tr,h2⟩:=T2';exact⟨ps,(B6 (P2 e1 eZ2 (by intro y;cases y))).trans e1,tr,fun l hl=>(h2 l hl).imp id fun⟨cc,e,hc⟩=>⟨cc,e,(B6 (P2 hc eZ2 (by intro y;cases y))).trans hc⟩⟩
    .rcases Nat.lt_or_ge i' rs.length with c1 | c1
     .rw[DF c1]at h2;exact IV.keep (fun b I e=>kZ b I (Ld rG' TG' ed' k2' b I e)) (tZ i' j' r' h1 h2)
     .rw[DB c1]at h2;have e0:i' - rs.length=0:=by
       have:=(AE.mp h2).1;simp at this;omega
      rw[e0]at h2;cases h2;have ei:i'=i:=by omega
      rw[ei,hj]at h1;cases h1;exact IV.keep kZ tr2
   .rintro σ X ⟨_,kG',rG',TG',⟨rs,lrs,eZ,tZ⟩,kv',ed',K'⟩;rw[AB]at lrs;refine hN4 _ _ ?_;have eh5:=kG' _ _ eh4 (by simp[nhc,nhp,nhd]);refine A6 rfl (A6 rfl ⟨Z,_,rfl,.inl ⟨IA.of eZ,fun l2 hl2=>?_⟩⟩);refine⟨by show 1<=sizeLine;decide,fun p hp=>?_⟩;have u1:=F8.new (o:=.tup (rs.map V.ref)) hl2;have u2:=F8.new (o:=.tup [.ref l2]) hp;have s12:=u1.trans u2;have eh6:=s12 _ _ eh5;have el2:=u2 _ _ (show(HX X l2 (.tup (rs.map V.ref))) l2=some (.tup (rs.map V.ref))from A9);have last:∀(G2:Hp) (r:A3),F8 (HX (HX X l2 (.tup (rs.map V.ref))) p (.tup [.ref l2])) G2->G2 r=some (.tup (t.2.2.1.map V.str ++ [.ref l2]))->∃H5,zCy G2 d (.int (m:Int)) (.ref r) H5/\∀v5 v6 v7,N2 [some (.ref x),some (.ref f),some (.ref a),some (.int (m:Int)),some (.ref d),v5,v6,v7] H5:=fun G2 r sG2 er=>by
     have sG:=s12.trans sG2;have ed2:=sG _ _ ed';have kd:∀{o:HO} b I,G2 b=some (.tup I)->(L2.HX G2 d o) b=some (.tup I):=fun{o} b I e=>(B6 (P2 e ed2 (by intro y;cases y))).trans e;have trm:∀{o:HO},T8 g A B L (L2.HX G2 d o) m r:=fun{o}=>by
      obtain⟨f,ef⟩:=Ma g.length m;unfold T8;rw[ef];refine .inr ⟨nc,dne,l2,rs,kd _ _ (by rw[er,ej];rfl),kd _ _ (sG2 _ _ el2),by rw[lrs,ek],fun i j r' h1 h2=>?_⟩;have hf:=Uq (L:=L) hM.net lo dne (AK h1);have h3:=tZ i j r' (by rw[ek];exact h1) h2;unfold T8 at h3;rw[show t6 g.length (m ||| 2^j)=f by omega]at h3;exact h3.keep fun b I e=>kd b I (sG _ _ e)
     refine⟨_,.inl ⟨kv',.inl (m:Int),ed2,rfl,by have:=K'.len;rw[sizeLine_eq];omega,rfl⟩,fun v5 v6 v7=>?_⟩;refine fin _ _ r v5 v6 v7 ((kH4.trans kG').trans (sG.sm.trans upd_)) (rdU (rG'.imp (sG _ _) fun⟨o,e⟩=>⟨o,sG _ _ e⟩)) (tabU ed2 ?_) A9 ((K'.imp fun j r h=>IV.keep (fun b I e=>kd b I (sG _ _ e)) h).put lo (.inr ⟨r,rfl,trm⟩) fun j nj hj=>hj.resolve_right nj) (by rw[y8,AL rfl]) trm;obtain⟨ps,e1,tr,h2⟩:=TG';exact⟨ps,sG _ _ e1,tr,fun l hl=>(h2 l hl).imp id fun⟨cc,e,hc⟩=>⟨cc,e,sG _ _ hc⟩⟩
    refine⟨t.2.1,p,_,_,rfl,rfl,IZ.of eh6,IZ.of A9,List.cons_ne_nil _ _,by rw[AB,sizeLine_eq];show t.2.2.1.length+1<=_;omega,fun z=>absurd z (by rw[ej];exact List.cons_ne_nil _ _),fun _ z hz=>?_⟩
    .obtain⟨H5,hp5,hn⟩:=last _ z (F8.new hz) A9;exact A6 rfl (A6 rfl ⟨d,H5,rfl,hp5,hn _ _ _⟩)
  have kn1:Kn kvs g.length (fun j=>bp j\/j=m) (T8 g A B L H):=⟨hK.ks,fun j u hj=>(hK.vs j u hj).imp (fun h=>⟨h.1,.inl h.2⟩) id⟩;refine A6 rfl (A6 rfl ⟨d,_,rfl,.inl ⟨kvs,.inl (m:Int),.inl hd,rfl,rfl⟩,?_⟩);refine⟨_,rfl,T7 (fun z=>?_) fun z=>?_⟩
  .have putd:∀(H1:Hp) (v:V),Sm [c] H H1->HZ T.ab H1 x c g A B L->((v = .non/\¬P4 B m)\/∃r,v = .ref r/\T8 g A B L H1 m r)->∃H5,zCy H1 d (.int (m:Int)) v H5/\N1 [some (.ref x),some (.ref f),some (.ref a),some (.int (m:Int)),some (.ref d),none,none,none] H5:=fun H1 v k1 M1 hv=>by
    have ed1:=JQ k1 hd ndc;have kd:∀{o:HO} b I,H1 b=some (.tup I)->(L2.HX H1 d o) b=some (.tup I):=fun{o} b I e=>(B6 (P2 e ed1 (by intro y;cases y))).trans e;have hv2:∀{o:HO},(v = .non/\¬P4 B m)\/∃r,v = .ref r/\T8 g A B L (L2.HX H1 d o) m r:=fun{o}=>hv.imp id fun⟨r,e,h⟩=>⟨r,e,IV.keep kd h⟩;refine⟨_,.inl ⟨kvs,.inl (m:Int),ed1,rfl,by have:=hK.len;rw[sizeLine_eq];omega,rfl⟩,?_⟩;exact key _ _ v ((up k1).trans upd_) (rdU (Dx M1)) (tabU ed1 (Y4 hT hM k1)) A9 ((kn1.imp fun j r h=>IV.keep (fun b I e=>kd b I (JQ k1 e (V7 hM e))) h).put lo (hv2.imp (fun h=>⟨h.1,.inr rfl⟩) id) fun j _ h=>h) (by rw[y8,AL rfl]) hv2
   refine A6 rfl (A6 rfl ⟨x,c,g,A,B,L,m,rfl,hM,lo,fun H1 k1 M1=>⟨fun nc=>?_,fun a' cl _ et=>?_⟩⟩)
   .obtain⟨H5,hp,hn⟩:=putd H1 .non k1 M1 (.inl ⟨rfl,fun⟨j,h1,h2⟩=>nc j h1 h2⟩);exact A6 rfl (A6 rfl ⟨d,H5,rfl,hp,hn⟩)
   .obtain⟨H5,hp,hn⟩:=putd H1 (.ref a') k1 M1 (.inr ⟨a',rfl,by obtain⟨f,ef⟩:=Ma g.length m;unfold T8;rw[ef];exact .inl ⟨cl,et⟩⟩);exact A6 rfl (A6 rfl ⟨d,H5,rfl,hp,hn⟩)
  .cases hv:S6 kvs (.inl (m:Int))with
   | none =>
    rw[hv]at z;exact absurd rfl z
   | some v =>
    refine key H kvs v (Sm.refl _ _) (Dx hM) hT hd kn1 hv ?_;rcases hK.vs m v hv with⟨_,l⟩ | h
    .exact absurd (hbp m l) (DP _)
    .exact .inr h
theorem Cr(T:Tx K mg)(a:base.BuiltinsAt mg T.aa):∀k,IG P w K mg base IW (8+k) T.aA.f T.aA.fd ["marks", "splits_at", "sets", "held", "known"] (Dq T.ab T.aa T.aj.f k)
 | 0=>Mg (n:=7) T a (by decide) ((R0 T).mono (by decide)) T.aj.F.kp T.aj.b (S:=fun _ _ _ _=>False) ⟨fun _ _ _ _ h=>h.elim,fun _ _ _ _ _ _ _ _ _ _ _ _ _ h=>h.elim⟩ fun c e=>by omega
 | k+1=>Mg (n:=8+k) T a (by omega) ((R0 T).mono (by omega)) T.aj.F.kp T.aj.b (Cr T a k) fun c e=>by cases e;rfl
end
def MB.one{ns:A1 Str}{ks:A1 (Str×Str)}{A a:A1 Nat}(h:MB ns ks A)(h':MB ns ks a)(i:Nat):A.getD i 0=a.getD i 0:=BL fun j=>BV.mpr ((h.bit i j).trans (h'.bit i j).symm)
section
variable{A A' B B':A1 Nat}{n L L':Nat}
theorem X3(h:∀i,A.getD i 0=A'.getD i 0):o0 A=o0 A':=funext fun m=>funext fun j=>by unfold o0;simp only[h]
theorem V5(a:∀i,A.getD i 0=A'.getD i 0)(b:∀i,B.getD i 0=B'.getD i 0):E3 A B=E3 A' B':=funext fun n=>funext fun m=>by unfold E3;rw[X3 a,X3 b]
theorem Os(a:∀i,A.getD i 0=A'.getD i 0)(b:∀i,B.getD i 0=B'.getD i 0):V3 A B=V3 A' B':=funext fun n=>funext fun m=>by unfold V3;rw[V5 a b];exact List.map_congr_left fun j _=>a j
theorem Ke(a:∀i,A.getD i 0=A'.getD i 0)(b:∀i,B.getD i 0=B'.getD i 0):Jj A B=Jj A' B':=funext fun n=>funext fun l=>funext fun m=>funext fun ad=>by unfold Jj Fv;rw[X3 a,X3 b]
theorem Pa(a:∀i,A.getD i 0=A'.getD i 0)(b:∀i,B.getD i 0=B'.getD i 0):M8 A B=M8 A' B':=funext fun n=>funext fun l=>funext fun m=>by unfold M8 V1;rw[Os a b,Ke a b]
theorem Fd(b:∀i,A.getD i 0=A'.getD i 0)(a:∀i,B.getD i 0=B'.getD i 0):∀k,Q0 A B n L k=Q0 A' B' n L k
 | 0=>rfl
 | k+1=>funext fun m=>by
  unfold Q0;rw[Fd b a k,Pa b a,V5 b a,show P4 B=P4 B' from funext fun m=>by unfold P4;rw[X3 a]]
theorem Ot(a:∀i,B.getD i 0=B'.getD i 0):P4 B=P4 B':=funext fun m=>by unfold P4;rw[X3 a]
end
section
variable{ns:A1 Str}{A A' B B':A1 Nat}{L m:Nat}
theorem Tj(a:∀i,B.getD i 0=B'.getD i 0):Ui ns B m=Ui ns B' m:=by unfold Ui;rw[X3 a]
theorem Xu(a:∀i,A.getD i 0=A'.getD i 0)(b:∀i,B.getD i 0=B'.getD i 0):OF ns A B L m=OF ns A' B' L m:=by unfold OF V1;rw[V5 a b,Os a b,Ke a b]
theorem Kp{H:Hp}(b:∀i,A.getD i 0=A'.getD i 0)(a:∀i,B.getD i 0=B'.getD i 0):∀k,IV ns A B L H k=IV ns A' B' L H k
 | 0=>rfl
 | k+1=>funext fun m=>funext fun r=>by
  unfold IV U3 RK RS SA;rw[Kp b a k,Ot a,Tj a,V5 b a,Xu b a];simp only[b,a]
end
section
variable{P:A7}{w:HW}{K:PySem.W.Frag}{mg:Str->A5 A2}{base:H_}
theorem JL:HY ["web", "some", "marks", "held", "found"] ["web", "some"] (B7 LV):=KI
def Rn(K:PySem.W.Frag)(h d:A3):Sp:=fun i H Q _=>∃(g a:A3) (b:A1 Str) (f:A1 JF) (e:A1 Str) (A B:A1 Nat) (L m:Nat),i = [.ref g,.ref a]/\JX h H g b f/\b.length<=12/\QE K H a (e.map V.str)/\(∀y∈e,y∈b)/\e.Nodup/\e.length<=100/\J7 H d C0 /\
 MB b ((f.map fun q=>q.2).map fun k=>(k.2,k.1)) A/\MB b (f.map fun q=>q.2) B/\(∀j,L.testBit j=true↔(A.getD j 0).testBit j=true)/\LB b.length m/\(∀(j:Nat) y,b[j]?=some y->(m.testBit j=true↔y∈e)) /\
  (∀r,Q0 A B b.length L 13 m=some r->∀t l c,Sm [d] H c->J7 c d C0->H t=none->H l=none->c t=some (.tup [.str "told",.ref l])->c l=some (.lst ((I_ b r).map V.str))->Q (.ref t) c) /\
  (Q0 A B b.length L 13 m=none->∀t l c,Sm [d] H c->J7 c d C0->H t=none->c t=some (.tup [.str "none",.ref l])->T8 b A B L c m l->Q (.ref t) c)
set_option maxHeartbeats 4000000 in
theorem t9(T:Tx K mg)(hB:base.BuiltinsAt mg T.aa):IG P w K mg base IW 22 T.au.f T.au.fd ["web", "some"] (Rn K T.ah T.aa):=by
 have g:IG P w K mg base IW 21 T.al.f T.al.fd ["marks", "held"] (w9 T.ab T.aa 13):=U1 T hB 13;have q:IG P w K mg base IW 21 T.aA.f T.aA.fd ["marks", "splits_at", "sets", "held", "known"] (Dq T.ab T.aa T.aj.f 13):=Cr T hB 13;refine T.au.F.o1 JL fun cdv A Z s H vs Q E M h=>?_
 .obtain⟨wb,a,D,qs,ss,A0,B0,L0,m0,rfl,hW,l12,ha,sub,nd,len,hT,mA0,mB0,hL0,lo0,hm0,q1,q2⟩:=h;refine⟨_,(B3 (C6 (i:=2) JL.nd rfl (.inl rfl) (Sa T.bF (El T) (Rm M) rfl T.bE T.bp .nil M0 (A8 (pv 0) B1)))
   (B3 (C6 (i:=3) JL.nd rfl (.inl rfl) (E1 (pv 2) T.ad T.aG.m (Ai T) (Rm M) T.aG.b .nil M0 (A8 (pv 1) B1)))
   (B3 (C6 (i:=4) JL.nd rfl (.inl rfl) (C9 T.al g (Rm M) (A8 (pv 2) (A8 (pv 3) B1))))
   (B3 (I0 (C2 Jg (pv 4) z6 (D6 _)) (B5 (C1 (G7 (A8 P5 (A8 (E1 (pv 2) T.ad T.ap.m (S9 T) (Rm M) T.ap.b .nil M0 (A8 (pv 4) B1)) B1))))) C5)
   (B5 (C1 (G7 (A8 P5 (A8 (C9 T.aA q (Rm M) (@A8 _ _ _ _ _ (pv 2) (@A8 _ _ _ _ _ (zDh T.aj.m) (@A8 _ _ _ _ _ (I9 B1) (@A8 _ _ _ _ _ (pv 3) (@A8 _ _ _ _ _ Tw B1 (by rfl)) (by rfl)) (by rfl)) (by rfl)) (by rfl))) B1))))))))),?_⟩
  have p:∀{G G':Hp},F8 G G'->J7 G T.aa C0->J7 G' T.aa C0:=fun{G G'} k ⟨ps,e,t,h⟩=>⟨ps,k _ _ e,t,fun l hl=>(h l hl).imp id fun⟨c,e,hc⟩=>⟨c,e,k _ _ hc⟩⟩;refine B8 fun N1 hN1=>?_;refine A6 rfl ?_;intro x dx nx ndx nex;have s0:F8 H (HX (HX H dx (.own x)) x (.ins T.ab dx [])):=fun b o e=>by
   rw[B6 (B2 e nx),B6 (B2 e ndx)];exact e
  refine⟨x,dx,wb,D,qs,rfl,A9,hW.same s0,fun c A B L H1 hc k1 V mA mB=>⟨rfl,?_⟩⟩;have s1:F8 H H1:=fun b o e=>k1 b o (s0 b o e) (by simpa using B2 e nx);have N:H c=none:=s0.free hc;refine hN1 _ _ (B8 fun N2 hN2=>?_);obtain⟨dx1,a1,b1,d1,kb1,e1,_⟩:=V.ex;refine A6 rfl ⟨x,dx1,A6 rfl ⟨e1,rfl,A6 rfl ⟨x,c,a,D,A,B,L,ss,rfl,V,(s1.at a).seq ha,sub,nd,len,fun m H2 s2 lo hm=>?_⟩⟩⟩;have M2:=V.same s2;have T2:=p (s1.trans s2) hT;refine hN2 _ _ (B8 fun N3 hN3=>?_);refine A6 rfl (A6 rfl ⟨x,c,D,A,B,L,m,rfl,M2,lo,T2,by omega,fun H3 k3 M3 W=>?_⟩);have eA:∀i,A0.getD i 0=A.getD i 0:=fun i=>mA0.one mA i;have eB:∀i,B0.getD i 0=B.getD i 0:=fun i=>mB0.one mB i;have eL:L=L0:=(BL fun j=>BV.mpr ((hL0 j).trans (by rw[eA j];exact(V.loops j).symm)):L0=L).symm;have em:m=m0:=Eq.symm <| BL fun j=>by
   by_cases X:j<D.length
   .exact BV.mpr ((hm0 j _ (AC X)).trans (hm j _ (AC X)).symm)
   .rw[CA.mpr fun z=>X (lo0 j z),CA.mpr fun z=>X (lo j z)]
  subst eL em;rw[Fd eA eB]at q1 q2;have C:Sm [T.aa] H H3:=fun b o e n=>k3 b o (s2 _ _ (s1 _ _ e)) fun z=>by
   rcases AR.mp z with z | z
   .rw[z,N]at e;cases e
   .exact n z
  have u:∀{G:Hp} {z:A3},Sm [T.aa] H G->J7 G T.aa C0->G z=none->H z=none:=fun{G z} k t O=>k.none (fun y=>by
   obtain⟨ps,e,_⟩:=t;rw[AF.mp y,e]at O;cases O) O
  refine hN3 _ _ (B8 fun N4 hN4=>?_);cases ho:Q0 A B D.length L 13 m with
  | some r =>
   refine A6 rfl ⟨rfl,_,rfl,T7 (fun _=>?_) fun z=>absurd (by simp[SV]) z⟩;obtain⟨dx3,a3,b3,d3,kb3,e3,_⟩:=M3.ex;refine A6 rfl ⟨x,dx3,A6 rfl ⟨e3,rfl,A6 rfl ⟨x,c,D,A,B,L,r,rfl,M3,fun l H4 hl s4 el=>?_⟩⟩⟩;refine⟨by show 2<=sizeLine;decide,fun t R=>?_⟩;have I:=F8.new (o:=.tup [.str "told",.ref l]) R;have s5:=s4.trans I;have T4:=p s4 W;exact q1 r ho t l _ (C.trans s5.sm) (p I T4) (u (C.trans s4.sm) T4 R) (u C W hl) A9 (I _ _ el)
  | none =>
   refine A6 rfl ⟨rfl,_,rfl,T7 (fun z=>absurd z (by simp[SV])) fun _=>hN4 _ _ ?_⟩;refine A6 rfl ⟨CI _,fun z O=>A6 rfl fun d Y=>?_⟩;have J:=F8.new (o:=.lst []) O;have ez:(HX H3 z (.lst [])) z=some (.lst []):=A9;generalize HX H3 z (.lst [])=H4 at J ez Y⊢;have ud:=F8.new (o:=.dK []) Y;have M4:=M3.same J;have Me:HZ T.ab (Sw.er (HX H4 d (.dK [])) d) x c D A B L:=by
    rw[Og];exact M4.same fun b o e=>by rw[Mo (B2 e Y)];exact e
   have T5:=p (J.trans ud) W;refine⟨x,c,z,d,D,A,B,L,m,[],fun _=>False,rfl,Me,lo,l12,T5,ud _ _ ez,A9,fun _ h=>h.elim,⟨⟨[],rfl,GN,fun k h=>absurd h BN⟩,fun k v h=>by cases h⟩,by omega,ho,fun r kvs' H6 k6 r6 T6 ed6 K6 S=>?_⟩;refine⟨by show 2<=sizeLine;decide,fun t R=>?_⟩;have I:=F8.new (o:=.tup [.str "none",.ref r]) R;have hdH:H d=none:=u (C.trans J.sm) (p J W) Y;have U:Sm [T.aa] H H6:=fun b o e n=>k6 b o (ud _ _ (J _ _ (C b o e n))) fun z=>by
    rcases AR.mp z with z | z
    .rw[z,N]at e;cases e
    rcases AR.mp z with z | z
    .exact n (by rw[z];exact .head _)
    .rw[AF.mp z,hdH]at e;cases e
   refine q2 ho t r _ (U.trans I.sm) (p I T6) (u U T6 R) A9 ?_;unfold T8 at S⊢;rw[Kp eA eB];exact S.keep fun b xs e=>I _ _ e
end
def zFa{ns ss:A1 Str}{z:Str}{i j m:Nat}(c:ns.Nodup)(hz:ss[i]?=some z)(b:ns[j]?=some z)(d:∀(j:Nat) y,ns[j]?=some y->(m.testBit j=true↔y∈ss.take i))(k:Nat)(y:Str)(a:ns[k]?=some y):(m ||| 2^j).testBit k=true↔y∈ss.take (i+1):=by
 rw[U6,d k y a,IQ hz,AW,AF];refine or_congr Iff.rfl ⟨fun e=>?_,fun e=>?_⟩
 .rw[e,b]at a;exact(BE a).symm
 .rw[e]at a;exact(List.getElem?_inj (AE.mp a).1 c).mp (a.trans b.symm)
section
variable{P:A7}{w:HW}{K:PySem.W.Frag}{mg:Str->A5 A2}{base:H_}
theorem JU:HY ["_law_view", "_law_some_here", "_law_mask", "_law_name"] ["_law_view", "_law_some_here"] (B7 MT):=KI
def Bd(K:PySem.W.Frag):Sp:=fun d H Q _=>∃(p v a:A3) (b:A1 Str) (e:A1 (Str×Str)) (A B:A1 Nat) (c:A1 Str),d = [.ref v,.ref a]/\IU H p v b e A B/\b.Nodup/\b.length<=100/\QE K H a (c.map V.str)/\(∀y∈c,y∈b) /\
 ∀m:Nat,LB b.length m->(∀(j:Nat) y,b[j]?=some y->(m.testBit j=true↔y∈c))->Q (.int (m:Int)) H
theorem S0(T:Tx K mg):IG P w K mg base IW 1 T.ao.f T.ao.fd ["_law_view", "_law_some_here"] (Bd K):=by
 refine T.ao.F.o1 JU fun R A I s H Y Q E Z h=>?_
 .obtain⟨p,v,a,k,ks,A,B,M,rfl,S,x,U,W,sub,q⟩:=h;obtain⟨⟨n,s',u,N,C,e3,e4,_⟩,mA,mB⟩:=id S;refine⟨_,(B3 (C6 (i:=2) JU.nd rfl (.inl rfl) B4)
   (B3 (O4 PassesOwn.never rfl (piS K (pv 1)) (D0 (i:=3) JU.nd rfl (.inl rfl))
   (B5 (C6 (i:=2) JU.nd rfl (.inl rfl) (C4 Y2 (pv 2) (C4 Aq B4 (Bs K PySem.F.plainAttrs_list PySem.F.slot_list_index PySem.F.type_list_index (Q9 K) (D4 (KR K) (pv 0) B4 (fun _ _=>rfl)) (A8 (pv 3) B1)))))))
   (B5 (C1 (pv 2))))),?_⟩
  refine B8 fun N1 J=>?_;refine J _ _ (B8 fun O l=>?_);rcases W with h | h
  .refine A6 rfl ⟨a,rfl,.inl ⟨⟨_,h⟩,S4 (D:={ nx:=O,rt:=Q }) (NR h) (fun i σ G=>G=H/\∃(m:Nat) (d:A5 V),σ = [some (.ref v),some (.ref a),some (.int (m:Int)),d]/\LB k.length m/\∀(j:Nat) y,k[j]?=some y->(m.testBit j=true↔y∈M.take i)) ⟨rfl,0,_,rfl,LB.zero _,fun j y _=>by rw[CC];simp⟩ (fun i σ G _ h o e=>by rw[h.1];exact e) ?_ ?_⟩⟩
   .rintro i σ G y r ⟨rfl,m,d,rfl,lo,b⟩ X g _;rw[AH]at r;obtain⟨z,t,rfl⟩:=BC.mp r;obtain⟨j,c⟩:=CU.mp (sub z (AK t));have L:=(AE.mp c).1;refine A6 rfl (A6 rfl ⟨v,_,B9 rfl rfl ⟨IA.of N,rfl,.inl ⟨rfl,_,IA.of C⟩,A6 rfl ⟨n,k,z,j,rfl,rfl,IA.of C,c,fun m b z=>by have:=G8 x z c;omega,B9 rfl rfl ⟨⟨by omega,by omega,by decide⟩,B9 rfl rfl ?_⟩⟩⟩⟩);dsimp only;rw[Vr,QG];exact g _ _ ⟨rfl,m ||| 2^j,_,rfl,lo.or L,zFa x t c b⟩
   .rintro σ G ⟨rfl,m,d,rfl,lo,b⟩;rw[AB,B_]at b;exact l _ _ (A6 rfl (q m lo b))
  .refine A6 rfl ⟨a,rfl,.inr ⟨⟨_,h⟩,S4 (D:={ nx:=O,rt:=Q }) (asT h) (fun i σ G=>G=H/\∃(m:Nat) (d:A5 V),σ = [some (.ref v),some (.ref a),some (.int (m:Int)),d]/\LB k.length m/\∀(j:Nat) y,k[j]?=some y->(m.testBit j=true↔y∈M.take i)) ⟨rfl,0,_,rfl,LB.zero _,fun j y _=>by rw[CC];simp⟩ (fun i σ G _ h o e=>by rw[h.1];exact e) ?_ ?_⟩⟩
   .rintro i σ G y r ⟨rfl,m,d,rfl,lo,b⟩ X g _;rw[AH]at r;obtain⟨z,t,rfl⟩:=BC.mp r;obtain⟨j,c⟩:=CU.mp (sub z (AK t));have L:=(AE.mp c).1;refine A6 rfl (A6 rfl ⟨v,_,B9 rfl rfl ⟨IA.of N,rfl,.inl ⟨rfl,_,IA.of C⟩,A6 rfl ⟨n,k,z,j,rfl,rfl,IA.of C,c,fun m b z=>by have:=G8 x z c;omega,B9 rfl rfl ⟨⟨by omega,by omega,by decide⟩,B9 rfl rfl ?_⟩⟩⟩⟩);dsimp only;rw[Vr,QG];exact g _ _ ⟨rfl,m ||| 2^j,_,rfl,lo.or L,zFa x t c b⟩
   .rintro σ G ⟨rfl,m,d,rfl,lo,b⟩;rw[AB,B_]at b;exact l _ _ (A6 rfl (q m lo b))
theorem l0:HY ["_law_view", "_law_thing"] ["_law_view", "_law_thing"] (B7 LK):=KI
def Aa:Sp:=fun b H Q _=>∃(p v:A3) (a:A1 Str) (c:A1 (Str×Str)) (A B:A1 Nat) (y:Str),b = [.ref v,.str y]/\IU H p v a c A B/\Q (.bl (decide (y∈a))) H
theorem S7(T:Tx K mg):IG P w K mg base IW 1 T.an.f T.an.fd ["_law_view", "_law_thing"] Aa:=by
 refine T.an.F.o1 l0 fun b A a s H g Q E i h=>?_
 .obtain⟨p,v,j,k,A,B,y,rfl,c,q⟩:=h;obtain⟨⟨n,l,u,d,e,m,o,_⟩,r,t⟩:=id c;refine⟨_,(B5 (C1 (Ap (G0 (Ae K) T.aN O1 (A8 (pv 1) (A8 (Qn T.bB Wc) B1))) (Db (P1 (Yt K) (pv 1) (D4 (KR K) (pv 0) B4 (fun _ _=>rfl)) rfl))))),?_⟩;refine A6 rfl ⟨.str y, "str",_,true,rfl,.str y,rfl,⟨_,rfl,?_⟩⟩;rw[AL rfl];refine A6 rfl (A6 rfl ⟨v,_,B9 rfl rfl ⟨IA.of d,rfl,?_⟩⟩);exact Jq (.inl (IA.of e)) q
theorem i9:HY ["_law_view", "_law_one", "_law_other"] ["_law_view", "_law_one", "_law_other"] (B7 LJ):=KI
def p8:Sp:=fun b H Q _=>∃(p v:A3) (a:A1 Str) (c:A1 (Str×Str)) (A B:A1 Nat) (i j:Nat) (x y:Str),b = [.ref v,.str x,.str y]/\IU H p v a c A B/\a.Nodup/\a.length<=100/\a[i]?=some x/\a[j]?=some y/\Q (.bl ((A.getD j 0).testBit i)) H
theorem l5(T:Tx K mg):IG P w K mg base IW 1 T.ar.f T.ar.fd ["_law_view", "_law_one", "_law_other"] p8:=by
 refine T.ar.F.o1 i9 fun l A b s H J Q E L h=>?_
 .obtain⟨p,v,g,M,A,B,i,j,x,y,rfl,o,k,r,c,d,q⟩:=h;obtain⟨⟨n,t,u,e,a,C,N,_⟩,D,O⟩:=id o;have R:=(AE.mp c).1;have G:=(AE.mp d).1;refine⟨_,(B5 (C1 (P1 Q8 (C4 K5 (C4 Fu (D4 (KR K) (D4 (KR K) (pv 0) B4 (fun _ _=>rfl)) (Bs K PySem.F.plainAttrs_list PySem.F.slot_list_index PySem.F.type_list_index (Q9 K) (D4 (KR K) (pv 0) B4 (fun _ _=>rfl)) (A8 (pv 2) B1)) (fun _ _=>rfl)) (Bs K PySem.F.plainAttrs_list PySem.F.slot_list_index PySem.F.type_list_index (Q9 K) (D4 (KR K) (pv 0) B4 (fun _ _=>rfl)) (A8 (pv 1) B1))) B4) B4 (D6 _)))),?_⟩;refine A6 rfl ⟨v,_,B9 rfl rfl ⟨IA.of e,rfl,?_⟩⟩;refine A6 rfl ⟨v,_,B9 rfl rfl ⟨IA.of e,rfl,.inl ⟨rfl,_,IA.of a⟩,A6 rfl ⟨n,g,y,j,rfl,rfl,IA.of a,d,fun m I z=>by have:=G8 k z d;omega,t,_,B9 rfl rfl ⟨IA.of C,i7 (by rw[D.len];exact G),?_⟩⟩⟩⟩;refine A6 rfl ⟨v,_,B9 rfl rfl ⟨IA.of e,rfl,.inl ⟨rfl,_,IA.of a⟩,A6 rfl ⟨n,g,x,i,rfl,rfl,IA.of a,c,fun m I z=>by have:=G8 k z c;omega,?_⟩⟩⟩;refine B9 rfl rfl ⟨(show(0:Int)<=(i:Int) by omega),B9 rfl rfl ⟨rfl,?_⟩⟩;dsimp only;rw[Kt];exact q
theorem Bt:HY ["_law_view", "_law_held", "_law_thing"] ["_law_view", "_law_held", "_law_thing"] (B7 MU):=KI
def Fo:Sp:=fun b H Q _=>∃(p v:A3) (a:A1 Str) (c:A1 (Str×Str)) (A B:A1 Nat) (i m:Nat) (x:Str),b = [.ref v,.int (m:Int),.str x]/\IU H p v a c A B/\a.Nodup/\a.length<=100/\a[i]?=some x/\Q (.bl (m.testBit i)) H
theorem Cc(T:Tx K mg):IG P w K mg base IW 2 T.ay.f T.ay.fd ["_law_view", "_law_held", "_law_thing"] Fo:=by
 refine T.ay.F.o1 Bt fun g A b s H t Q E j h=>?_
 .obtain⟨p,v,c,k,A,B,i,m,x,rfl,d,l,o,a,q⟩:=h;obtain⟨⟨n,y,u,r,e,C,D,_⟩,G,I⟩:=id d;have J:=(AE.mp a).1;refine⟨_,(B5 (C1 (Ap (C9 T.an (S7 T) (Rm j) (A8 (pv 0) (A8 (pv 2) B1))) (Db (P1 Q8 (C4 K5 (C4 Fu (pv 1) (Bs K PySem.F.plainAttrs_list PySem.F.slot_list_index PySem.F.type_list_index (Q9 K) (D4 (KR K) (pv 0) B4 (fun _ _=>rfl)) (A8 (pv 2) B1))) B4) B4 (D6 _)))))),?_⟩;refine A6 rfl (A6 rfl ⟨p,v,c,k,A,B,x,rfl,d,?_⟩);rw[BB (AK a)];refine⟨true,rfl,Te ?_⟩;refine A6 rfl (A6 rfl ⟨v,_,B9 rfl rfl ⟨IA.of r,rfl,.inl ⟨rfl,_,IA.of e⟩,A6 rfl ⟨n,c,x,i,rfl,rfl,IA.of e,a,fun m L z=>by have:=G8 l z a;omega,?_⟩⟩⟩);refine B9 rfl rfl ⟨(show(0:Int)<=(i:Int) by omega),B9 rfl rfl ⟨rfl,?_⟩⟩;dsimp only;rw[Kt];exact q
end
def Cn{ns:A1 Str}{m:Nat}:∀i,i<=ns.length->r8 ns m i =(D3 m i).map fun j=>ns.getD j ""
 | 0,_=>rfl
 | i+1,h=>by
  have e:=AC (show i<ns.length by omega);rw[K4 e,O9,AO,Cn i (by omega)];congr 1;split
  .rw[A_,AN,e];rfl
  .rfl
def Mv(ns:A1 Str)(m:Nat):I_ ns m =(D3 m ns.length).map fun j=>ns.getD j "":=Cn _ (Nat.le_refl _)
section
variable{ns:A1 Str}{A B:A1 Nat}{L m:Nat}
theorem Lw{z j:Nat}(b:z.testBit j=true)(lo:LB ns.length z):∃k,z.testBit k=true/\ns[k]?=some (Q3 ns z):=by
 obtain⟨k,_,a,c⟩:=Vy b;exact⟨k,a,Ag (lo k a) a c⟩
theorem Px{z:Nat}(lo:LB ns.length m):LB ns.length (z &&& m):=fun j h=>lo j (by rw[BW,BH]at h;exact h.2)
theorem Mx(b:QO ns.length A B)(lo:LB ns.length m)(c:P4 B m):∃i k,ns[i]?=some (RK ns A B m)/\ns[k]?=some (RS ns B m)/\m.testBit i=true/\m.testBit k=true/\(A.getD k 0).testBit i=true:=by
 obtain⟨j,f,h⟩:=c;have l:(Ui ns B m).testBit j=true:=(Y1 j).mpr ⟨lo j f,f,h⟩;obtain⟨k,_,d,g⟩:=Vy l;obtain⟨n,o,i,p,q⟩:=(Y1 k).mp d;have r:=Pc d g;have s:(A.getD k 0 &&& m).testBit i=true:=by rw[BW,BH];exact⟨(b.tr k i).mpr q,p⟩
 obtain⟨t,a,e⟩:=Lw s (Px lo);rw[BW,BH]at a;refine⟨t,k,?_,Ag n d g,a.2,o,a.1⟩;unfold RK;rw[r];exact e
theorem Ij(a:QO ns.length A B)(lo:LB ns.length m)(h:E3 A B ns.length m≠[]):∃i,ns[i]?=some (SA ns B m (OF ns A B L m))/\m.testBit i=true/\(A.getD i 0).testBit (OF ns A B L m)=true/\ns[OF ns A B L m]?=some (SM ns (OF ns A B L m))/\A.getD (OF ns A B L m) 0 &&& m=0:=by
 obtain⟨c,_⟩:=Ig (L:=L) h;generalize OF ns A B L m=j at c⊢;obtain⟨d,⟨p,e,f⟩,g⟩:=LS.mp c;have k:(B.getD j 0 &&& m).testBit p=true:=by rw[BW,BH];exact⟨(a.tr p j).mp f,e⟩
 obtain⟨i,b,l⟩:=Lw k (Px lo);rw[BW,BH]at b;refine⟨i,l,b.2,(a.tr i j).mpr b.1,Ag d FT fun i n=>?_,BL fun i=>?_⟩
 .rw[CV,BQ];omega
 .rw[CC,CA];intro z;rw[BW,BH]at z;exact g ⟨i,z.2,(a.tr j i).mp z.1⟩
end
def Tz{ns:A1 Str}{j z:Nat}{x:Str}(d:ns.Nodup)(b:ns[j]?=some x)(lo:LB ns.length z)(h:∀(i:Nat) y,ns[i]?=some y->(z.testBit i=true↔y∈[x])):z=2^j:=BL fun i=>BV.mpr (by
 rw[CV,BQ];constructor
 .intro c;have a:=AC (lo i c);have:=AF.mp ((h i _ a).mp c);rw[this]at a;exact G8 d b a
 .rintro rfl;exact(h j x b).mpr (.head _))
section
variable{P:A7}{w:HW}{K:PySem.W.Frag}{mg:Str->A5 A2}{base:H_}
theorem JR:HY ["_law_view", "_law_sets", "_law_words", "_law_held", "_law_more", "_law_twigs", "_law_name", "_law_tree"] ["_law_view", "_law_sets", "_law_words", "_law_held", "_law_more", "_law_twigs"] (B7 K_):=KI
theorem IJ:HY ["_law_view", "_law_sets", "_law_words", "_law_held", "_law_tree", "_law_a", "_law_b", "_law_strikers", "_law_more", "_law_mask"] ["_law_view", "_law_sets", "_law_words", "_law_held", "_law_tree"] (B7 LH):=KI
def w6(K:PySem.W.Frag)(k:Nat):Sp:=fun c H Q _=>∃(p v s w r:A3) (a:A1 Str) (d:A1 (Str×Str)) (A B:A1 Nat) (L m:Nat),c = [.ref v,.ref s,.ref w,.int (m:Int),.ref r]/\IU H p v a d A B/\a.Nodup/\a.length<=12/\QO a.length A B/\LB a.length m/\IZ K H w [.str "clash",.str "answer"]/\IV a A B L H k m r/\∀b,F8 H b->Q (.bl true) b
def Kl(K:PySem.W.Frag)(k:Nat):Sp:=fun f H Q _=>∃(p v s w a l:A3) (b:A1 Str) (g:A1 (Str×Str)) (A B:A1 Nat) (L m:Nat) (c:A1 Nat) (d:A1 A3),f = [.ref v,.ref s,.ref w,.int (m:Int),.ref a,.ref l]/\IU H p v b g A B/\b.Nodup/\b.length<=12/\QO b.length A B/\LB b.length m/\IZ K H w [.str "clash",.str "answer"] /\
 H a=some (.lst ((c.map fun j=>b.getD j "").map V.str))/\H l=some (.tup (d.map V.ref))/\d.length=c.length/\(∀j∈c,j<b.length)/\(∀(i j:Nat) r,c[i]?=some j->d[i]?=some r->IV b A B L H k (m ||| 2^j) r)/\∀e,F8 H e->Q (.bl true) e
theorem Ut(T:Tx K mg){n k:Nat}(h1:1<=n)(c:IG P w K mg base IW n T.ai.f T.ai.fd ["_law_view", "_law_sets", "_law_words", "_law_held", "_law_tree"] (w6 K k)):IG P w K mg base IW (n+1) T.am.f T.am.fd ["_law_view", "_law_sets", "_law_words", "_law_held", "_law_more", "_law_twigs"] (Kl K k):=by
 have d:IG P w K mg base IW n T.ao.f T.ao.fd ["_law_view", "_law_some_here"] (Bd K):=(S0 T).mono h1;refine T.am.F.o1 JR fun cdv A W s H vs Q E hr h=>?_
 .obtain⟨p,v,s',X,a,l,C,ks,A,B,L,m,O,rs,rfl,hV,Y,Z,net,lo,hw,I,D,x,jn,tr,q⟩:=h;refine⟨_,(B3 (I0 (PW.pt (Am (Q5 (Q4 (G0 (Ae K) T.aN O1 (A8 (pv 5) (A8 (Qn T.a9 Z0) B1))))) (Y5 (C2 Gw (G0 (N9 K) T.aq K9 (A8 (pv 5) B1)) (G0 (N9 K) T.aq K9 (A8 (pv 4) B1)) (D6 _))))) (B5 (C1 Y9)) C5)
   (B3 (O4 PassesOwn.never rfl (zFp K T.bq (A8 (pv 4) (A8 (pv 5) B1))) (QA K (n:=2) (C8 (D0 (i:=6) JR.nd rfl (.inl rfl)) (C8 (D0 (i:=7) JR.nd rfl (.inl rfl)) M9)))
   (B5 (I0 (Q5 (Q4 (C9 T.ai c (hr.mono (Nat.le_refl _)) (@A8 _ _ _ _ _ (pv 0) (@A8 _ _ _ _ _ (pv 1) (@A8 _ _ _ _ _ (pv 2) (@A8 _ _ _ _ _ (C4 Y2 (pv 3) (C9 T.ao d (hr.mono (Nat.le_refl _)) (A8 (pv 0) (A8 (I9 (A8 (pv 6) B1)) B1)))) (@A8 _ _ _ _ _ (pv 7) B1 (by rfl)) (by rfl)) (by rfl)) (by rfl)) (by rfl))))) (B5 (C1 Y9)) C5)))
   (B5 (C1 Y9)))),?_⟩
  have R:(rs.map V.ref).length=rs.length:=AB ..;have J:((O.map fun j=>C.getD j "").map V.str).length=O.length:=by rw[AB,AB]
  refine B8 fun N1 hN1=>?_;refine A6 rfl ⟨.ref l, "tuple",_,true,rfl,.tup D,rfl,_,rfl,X1 (A6 rfl ⟨l,_,rfl,.inr (IZ.of D),A6 rfl ⟨a,_,rfl,.inl (IA.of I),rfl,_,rfl,?_⟩⟩)⟩;dsimp only;rw[R,J,x,BB rfl];refine X1 (hN1 _ _ (B8 fun N2 hN2=>?_));refine A6 rfl (A6 rfl ⟨a,l,_,_,rfl,.inr ⟨IA.of I,IZ.of D,Vg (n:=O.length) (fun i σ G=>(∃v6 v7,σ = [some (.ref v),some (.ref s'),some (.ref X),some (.int (m:Int)),some (.ref a),some (.ref l),v6,v7])/\F8 H G) ⟨⟨_,_,rfl⟩,fun b o e=>e⟩ ?_ ?_ ?_ ?_⟩⟩)
  .rintro i σ G S ⟨_,g⟩;exact⟨_,_,_,_,IA.of (g _ _ I),IZ.of (g _ _ D),by rw[R,J,x];exact Nat.le_refl _,AC (by rw[J];exact S),AC (by rw[R,x];exact S)⟩
  .rintro σ G ⟨_,g⟩;exact⟨_,_,IA.of (g _ _ I),IZ.of (g _ _ D),by rw[R,J,x];exact Nat.le_refl _,J⟩
  .rintro i σ G y G' S ⟨⟨v6,v7,rfl⟩,g⟩ ⟨t,x1,x2,rfl,ht,rfl,gx,gy⟩;have g1:=gx _ (IA.of (g _ _ I));have g2:=gy _ (IZ.of (g _ _ D));rw[AH,AH]at g1;rw[AH]at g2;have U:=AC S;generalize O[i]=j at U;rw[U]at g1;obtain rfl:=BE g1;obtain⟨r,hr',rfl⟩:=BC.mp g2;have M:=jn j (AK U);have hx:=AC M;have ex:C.getD j "" = C[j]:=by rw[AN,hx];rfl
   dsimp only;rw[ex];have ut:=F8.new (o:=.tup [.str C[j],.ref r]) ht;have sT:=g.trans ut;refine⟨t,_,rfl,IZ.of A9,rfl,_,_,rfl,_,_,rfl,rfl,?_⟩;refine A6 rfl (A6 rfl (A6 rfl (A6 rfl (A6 rfl (A6 rfl ⟨Nat.le_of_lt_succ (by show 1<sizeLine+1;decide),fun u hu=>?_⟩)))));have uu:=F8.new (o:=.lst [.str C[j]]) hu;have N:=sT.trans uu;refine⟨p,v,u,C,ks,A,B,[C[j]],rfl,hV.same N,Y,by omega,.inl (IA.of A9),fun y hy=>by rw[AF.mp hy];exact AK hx,fun z lz hz=>?_⟩;have ez:=Tz Y hx lz hz;subst ez;refine B9 rfl rfl ?_;dsimp only;rw[QG];refine A6 rfl ⟨p,v,s',X,r,C,ks,A,B,L,m ||| 2^j,rfl,hV.same N,Y,Z,net,lo.or M,(N.at X).seqT hw,(tr i j r U hr').keep (fun b xs e=>N _ _ e),fun H' s3=>⟨_,rfl,X1 ⟨⟨_,_,rfl⟩,N.trans s3⟩⟩⟩
  .rintro σ G ⟨⟨v6,v7,rfl⟩,g⟩;exact hN2 _ _ (q G g)
end
def W4:A1 (IR×V):=[(.inr "clash",.int 3),(.inr "answer",.int 4),(.inr "beyond",.int 3),(.inr "cover",.int 3)]
def QR:S6 (T0 [] W4) (.inr "clash")=some (.int 3)/\S6 (T0 [] W4) (.inr "answer")=some (.int 4):=⟨by rfl,by rfl⟩
def Wv{a:Hp}{d:A3}{x:Str}{v:V}(h:S6 (T0 [] W4) (.inr x)=some v):NU (HX a d (.dK (T0 [] W4))) d (.str x) (some v):=.inl ⟨_,.inr x,.inl A9,rfl,h.symm⟩
def zFd(x:Str)(h:x = "clash"\/x = "answer"):decide (x∈[("clash":Str), "answer"])=true:=BB (by rcases h with rfl | rfl;exact .head _;exact .tail _ (.head _))
section
variable{P:A7}{w:HW}{K:PySem.W.Frag}{mg:Str->A5 A2}{base:H_}
set_option maxHeartbeats 2000000 in
theorem Gb(T:Tx K mg){n k:Nat}{S:Sp}(h1:2<=n)(g:IG P w K mg base IW n T.am.f T.am.fd ["_law_view", "_law_sets", "_law_words", "_law_held", "_law_more", "_law_twigs"] S)(hS:∀k',k=k'+1->S=Kl K k'):IG P w K mg base IW (n+1) T.ai.f T.ai.fd ["_law_view", "_law_sets", "_law_words", "_law_held", "_law_tree"] (w6 K k):=by
 have t:IG P w K mg base IW n T.ay.f T.ay.fd ["_law_view", "_law_held", "_law_thing"] Fo:=(Cc T).mono h1;have u:IG P w K mg base IW n T.an.f T.an.fd ["_law_view", "_law_thing"] Aa:=(S7 T).mono (by omega);have x:IG P w K mg base IW n T.ar.f T.ar.fd ["_law_view", "_law_one", "_law_other"] p8:=(l5 T).mono (by omega);have y:IG P w K mg base IW n T.az.f T.az.fd ["_law_view", "_law_mask"] Fh:=(Z8 T).mono (by omega);have C:IG P w K mg base IW n T.ao.f T.ao.fd ["_law_view", "_law_some_here"] (Bd K):=(S0 T).mono (by omega);have G:IG P w K mg base IW n T.aP.f T.aP.fd ["_law_view", "_law_mask"] Vv:=(j0 T).mono (by omega);refine T.ai.F.o1 IJ fun cdv A outer s H vs Q E I h=>?_
 .obtain⟨p,v,s',w',r,D,W,A,B,L,m,rfl,R,Y,l12,U,lo,hw,tr,q⟩:=h;have hu:=X5 I;obtain⟨⟨na,sa,ua,e1,e2,e3,e4,_⟩,mA,mB⟩:=id R;refine⟨_,(B3 (I0 (PW.pt (Am (Q5 (Q4 (G0 (Ae K) T.aN O1 (A8 (pv 4) (A8 (Qn T.a9 Z0) B1))))) (Am (C2 zCa (G0 (N9 K) T.aq K9 (A8 (pv 4) B1)) B4 (D6 _)) (Y5 (C2 (w4 K) (D4 (PK K) (pv 4) B4 (fun _ _=>rfl)) (pv 2) rfl))))) (B5 (C1 Y9)) C5)
   (B3 (I0 (C2 Gw (G0 (N9 K) T.aq K9 (A8 (pv 4) B1)) (K7 hu (Yr (y9 P5 B4 (y9 P5 B4 (y9 P5 B4 (y9 P5 B4 Xn)))) rfl rfl (by intro z;cases z) (by decide)) (D4 (PK K) (pv 4) B4 (fun _ _=>rfl)) (fun _ _=>rfl)) (D6 _)) (B5 (C1 Y9)) C5)
   (B3 (I0 (C2 Q8 (D4 (PK K) (pv 4) B4 (fun _ _=>rfl)) P5 (D6 _)) (B3 (Y3 (R1 (slT K) (pv 4) (P9 B4) R9) (QA K (n:=2) (C8 (D0 (i:=5) IJ.nd rfl (.inl rfl)) (C8 (D0 (i:=6) IJ.nd rfl (.inl rfl)) M9))))
   (B5 (C1 (Ap (C9 T.ay t (I.mono (Nat.le_refl _)) (A8 (pv 0) (A8 (pv 3) (A8 (pv 5) B1)))) (Ap (C9 T.ay t (I.mono (Nat.le_refl _)) (A8 (pv 0) (A8 (pv 3) (A8 (pv 6) B1)))) (Db (C9 T.ar x (I.mono (Nat.le_refl _)) (A8 (pv 0) (A8 (pv 5) (A8 (pv 6) B1)))))))))) C5)
   (B3 (I0 (C2 Q8 (D4 (PK K) (pv 4) B4 (fun _ _=>rfl)) P5 (D6 _)) (B3 (Y3 (R1 (slT K) (pv 4) (P9 B4) (P9 B4)) (QA K (n:=2) (C8 (D0 (i:=5) IJ.nd rfl (.inl rfl)) (C8 (D0 (i:=6) IJ.nd rfl (.inl rfl)) M9))))
   (B3 (I0 (PW.pt (Am (Q5 (Q4 (C9 T.ay t (I.mono (Nat.le_refl _)) (A8 (pv 0) (A8 (pv 3) (A8 (pv 5) B1)))))) (Am (Q5 (Q4 (C9 T.an u (I.mono (Nat.le_refl _)) (A8 (pv 0) (A8 (pv 6) B1))))) (Y5 (Q5 (Q4 (C9 T.ar x (I.mono (Nat.le_refl _)) (A8 (pv 0) (A8 (pv 6) (A8 (pv 5) B1)))))))))) (B5 (C1 Y9)) C5)
   (B3 (C6 (i:=7) IJ.nd rfl (.inl rfl) (D4 (KR K) (D4 (KR K) (pv 0) B4 (fun _ _=>rfl)) (Bs K PySem.F.plainAttrs_list PySem.F.slot_list_index PySem.F.type_list_index (Q9 K) (D4 (KR K) (pv 0) B4 (fun _ _=>rfl)) (A8 (pv 6) B1)) (fun _ _=>rfl)))
   (B3 (C6 (i:=8) IJ.nd rfl (.inl rfl) (C9 T.az y (I.mono (Nat.le_refl _)) (A8 (pv 0) (A8 (pv 7) B1))))
   (B5 (C1 (Ap (P1 Q8 (C4 K5 (pv 7) (pv 3)) B4 (D6 _)) (Db (C9 T.am g (I.mono (Nat.le_refl _)) (@A8 _ _ _ _ _ (pv 0) (@A8 _ _ _ _ _ (pv 1) (@A8 _ _ _ _ _ (pv 2) (@A8 _ _ _ _ _ (pv 3) (@A8 _ _ _ _ _ (pv 8) (@A8 _ _ _ _ _ (D4 (PK K) (pv 4) B4 (fun _ _=>rfl)) B1 (by rfl)) (by rfl)) (by rfl)) (by rfl)) (by rfl)) (by rfl))))))))))) C5)
   (B3 (I0 (C2 Q8 (D4 (PK K) (pv 4) B4 (fun _ _=>rfl)) P5 (D6 _)) (B3 (I0 (PW.pt (Am (C2 (w4 K) (D4 (PK K) (pv 4) B4 (fun _ _=>rfl)) (q9 Nz T.aX X4 (A8 (q9 Ih T.aQ Ug (A8 (G0 (N9 K) T.aq K9 (A8 (pv 1) B1)) B1)) B1)) rfl) (Y5 (C2 Gw (C4 K5 (pv 3) (Iw Lm (D4 (KR K) (pv 1) (D4 (PK K) (pv 4) B4 (fun _ _=>rfl)) (fun _ _=>rfl)))) B4 (D6 _))))) (B5 (C1 Y9)) C5)
   (B3 (Dy (i:=8) (N':=["_law_k", "_law_name", "_law_sets", "_law_tree"]) (cap:=[none,none,some 1,some 4]) (cl:=[("_law_tree",_),("_law_sets",_)]) IJ.nd rfl (.inl rfl) (P3 ⟨⟨rfl,rfl,rfl,rfl⟩,⟨⟨rfl,rfl,rfl,rfl⟩,trivial⟩⟩ ⟨rfl,⟨rfl,trivial⟩⟩) rfl (SJ K T.aF (A8 (D4 (KR K) (pv 0) B4 (fun _ _=>rfl)) B1)) (fun _ _ _ _=>by exact⟨(QA K (n:=2) (C8 (MX 0) (C8 (MX 1) M9))),(T9 (C2 Q8 (C4 K5 (C4 Fu (D4 (KR K) (pv 2) (D4 (PK K) (pv 3) B4 (fun _ _=>rfl)) (fun _ _=>rfl)) (pv 0)) B4) B4 (D6 _))),(pv 1)⟩))
   (B5 (C1 (C9 T.am g (I.mono (Nat.le_refl _)) (@A8 _ _ _ _ _ (pv 0) (@A8 _ _ _ _ _ (pv 1) (@A8 _ _ _ _ _ (pv 2) (@A8 _ _ _ _ _ (pv 3) (@A8 _ _ _ _ _ (pv 8) (@A8 _ _ _ _ _ (D4 (PK K) (pv 4) B4 (fun _ _=>rfl)) B1 (by rfl)) (by rfl)) (by rfl)) (by rfl)) (by rfl)) (by rfl))))))) C5)
   (B3 (I0 (Q5 (Q4 (C9 T.an u (I.mono (Nat.le_refl _)) (A8 (pv 0) (A8 (D4 (PK K) (pv 4) B4 (fun _ _=>rfl)) B1))))) (B5 (C1 Y9)) C5)
   (B3 (C6 (i:=9) IJ.nd rfl (.inl rfl) (C9 T.ao C (I.mono (Nat.le_refl _)) (A8 (pv 0) (A8 (I9 (A8 (D4 (PK K) (pv 4) B4 (fun _ _=>rfl)) B1)) B1))))
   (B3 (I0 (C2 Gw (C4 K5 (C4 Y2 (pv 3) (C9 T.aP G (I.mono (Nat.le_refl _)) (A8 (pv 0) (A8 (pv 3) B1)))) (pv 9)) B4 (D6 _)) (B5 (C1 Y9)) C5)
   (B3 (C6 (i:=8) IJ.nd rfl (.inl rfl) (C9 T.az y (I.mono (Nat.le_refl _)) (A8 (pv 0) (A8 (C4 Y2 (pv 9) (D4 (KR K) (D4 (KR K) (pv 0) B4 (fun _ _=>rfl)) (Bs K PySem.F.plainAttrs_list PySem.F.slot_list_index PySem.F.type_list_index (Q9 K) (D4 (KR K) (pv 0) B4 (fun _ _=>rfl)) (A8 (D4 (PK K) (pv 4) B4 (fun _ _=>rfl)) B1)) (fun _ _=>rfl))) B1))))
   (B5 (C1 (C9 T.am g (I.mono (Nat.le_refl _)) (@A8 _ _ _ _ _ (pv 0) (@A8 _ _ _ _ _ (pv 1) (@A8 _ _ _ _ _ (pv 2) (@A8 _ _ _ _ _ (pv 3) (@A8 _ _ _ _ _ (pv 8) (@A8 _ _ _ _ _ (D4 (PK K) (pv 4) B4 (fun _ _=>rfl)) B1 (by rfl)) (by rfl)) (by rfl)) (by rfl)) (by rfl)) (by rfl)))))))))))))),?_⟩
  obtain⟨k',rfl⟩:∃k',k=k'+1:=by
   cases k with
   | zero=>exact tr.elim
   | succ k=>exact⟨k,rfl⟩
  have eS:=hS k' rfl;subst eS;refine B8 fun N1 hN1=>?_;rcases tr with⟨cl,er⟩ | ⟨ncl,dne,l,rs,er,el,len,X⟩
  .obtain⟨i,k,Z,hk,mi,mk,ab⟩:=Mx U lo cl;generalize RK D A B m=N at er Z;generalize RS D B m=M at er hk;refine A6 rfl ⟨.ref r, "tuple",_,true,rfl,.tup er,rfl,_,rfl,?_⟩;refine X1 ?_;refine A6 rfl ⟨r,_,rfl,.inr (IZ.of er),?_⟩;refine B9 rfl rfl ⟨_,rfl,?_⟩;refine X1 ?_;refine A6 rfl ⟨r,_,B9 rfl rfl ⟨IZ.of er,E7 (j:=0) rfl,?_⟩⟩;refine A6 rfl (V9 (ss:=["clash", "answer"]) (.inr hw) ⟨_,rfl,?_⟩);rw[zFd _ (.inl rfl)];refine X1 (hN1 _ _ (B8 fun N2 hN2=>?_));refine A6 rfl ⟨r,_,rfl,.inr (IZ.of er),?_⟩;intro d hd;refine⟨A9,W4,rfl,by decide,?_⟩;have sd:F8 H (HX (HX H d (.dK [])) d (.dK (T0 [] W4))):=(F8.new hd).upd hd;refine A6 rfl ⟨r,_,B9 rfl rfl ⟨IZ.of (sd _ _ er),E7 (j:=0) rfl,d,_,rfl,Wv QR.1,?_⟩⟩;generalize HX (HX H d (.dK [])) d (.dK (T0 [] W4))=H1 at sd⊢;refine⟨rfl,_,rfl,?_⟩;refine X1 (hN2 _ _ (B8 fun N3 hN3=>?_));refine A6 rfl ⟨r,_,B9 rfl rfl ⟨IZ.of (sd _ _ er),E7 (j:=0) rfl,rfl,_,rfl,?_⟩⟩;refine Te (B8 fun M1 hM1=>?_);refine A6 rfl (A6 rfl ⟨r,_,rfl,IZ.of (sd _ _ er),show ¬(HT.J_ 3 0 (some 1)=0/\HT.J_ 3 3 none=3)from by decide,fun c hc=>?_⟩);have uc:=F8.new (o:=.tup (i6 [V.str "clash",.str N,.str M] (some 1) none)) hc;have ec:(HX H1 c (.tup (i6 [V.str "clash",.str N,.str M] (some 1) none))) c=some (.tup [.str N,.str M]):=A9;generalize HX H1 c (.tup (i6 [V.str "clash",.str N,.str M] (some 1) none))=H2 at uc ec⊢;have J:=sd.trans uc;refine⟨c,_,rfl,IZ.of ec,rfl,_,_,rfl,_,_,rfl,rfl,?_⟩;refine hM1 _ _ ?_;refine A6 rfl (A6 rfl (A6 rfl ⟨p,v,D,W,A,B,i,m,N,rfl,R.same J,Y,by omega,Z,?_⟩));rw[mi];refine⟨true,rfl,Te ?_⟩;refine A6 rfl (A6 rfl (A6 rfl ⟨p,v,D,W,A,B,k,m,M,rfl,R.same J,Y,by omega,hk,?_⟩));rw[mk];refine⟨true,rfl,Te ?_⟩;refine A6 rfl (A6 rfl (A6 rfl ⟨p,v,D,W,A,B,i,k,N,M,rfl,R.same J,Y,by omega,Z,hk,?_⟩));rw[ab];exact q _ J
  .obtain⟨i,Z,mi,ij,hj,hz⟩:=Ij (L:=L) U lo dne;have jn:∀j∈U3 D A B L m,j<D.length:=fun j h=>(Ox U dne h).1;have ek:(U3 D A B L m).map (fun j=>D.getD j "")=I_ D (A.getD (OF D A B L m) 0):=(Mv ..).symm;generalize U3 D A B L m=js at len X jn ek;generalize SA D B m (OF D A B L m)=N at er Z;generalize SM D (OF D A B L m)=M at er hj;generalize OF D A B L m=j at ij hj hz ek;have jl:=(AE.mp hj).1;refine A6 rfl ⟨.ref r, "tuple",_,true,rfl,.tup er,rfl,_,rfl,?_⟩;refine X1 ?_;refine A6 rfl ⟨r,_,rfl,.inr (IZ.of er),?_⟩;refine B9 rfl rfl ⟨_,rfl,?_⟩;refine X1 ?_;refine A6 rfl ⟨r,_,B9 rfl rfl ⟨IZ.of er,E7 (j:=0) rfl,?_⟩⟩;refine A6 rfl (V9 (ss:=["clash", "answer"]) (.inr hw) ⟨_,rfl,?_⟩);rw[zFd _ (.inr rfl)];refine X1 (hN1 _ _ (B8 fun N2 hN2=>?_));refine A6 rfl ⟨r,_,rfl,.inr (IZ.of er),?_⟩;intro d hd;refine⟨A9,W4,rfl,by decide,?_⟩;have sd:F8 H (HX (HX H d (.dK [])) d (.dK (T0 [] W4))):=(F8.new hd).upd hd;refine A6 rfl ⟨r,_,B9 rfl rfl ⟨IZ.of (sd _ _ er),E7 (j:=0) rfl,d,_,rfl,Wv QR.2,?_⟩⟩;generalize HX (HX H d (.dK [])) d (.dK (T0 [] W4))=H1 at sd⊢;refine⟨rfl,_,rfl,?_⟩;refine X1 (hN2 _ _ (B8 fun N3 hN3=>?_));refine A6 rfl ⟨r,_,B9 rfl rfl ⟨IZ.of (sd _ _ er),E7 (j:=0) rfl,rfl,_,rfl,?_⟩⟩;refine X1 (hN3 _ _ (B8 fun N4 hN4=>?_));refine A6 rfl ⟨r,_,B9 rfl rfl ⟨IZ.of (sd _ _ er),E7 (j:=0) rfl,rfl,_,rfl,?_⟩⟩;refine Te (B8 fun M1 hM1=>?_);refine A6 rfl (A6 rfl (A6 rfl ⟨r,_,rfl,IZ.of (sd _ _ er),show ¬(HT.J_ 4 0 (some 1)=0/\HT.J_ 4 4 (some 3)=4)from by decide,fun c hc=>?_⟩));have uc:=F8.new (o:=.tup (i6 [V.str "answer",.str N,.str M,.ref l] (some 1) (some 3))) hc;have ec:(HX H1 c (.tup (i6 [V.str "answer",.str N,.str M,.ref l] (some 1) (some 3)))) c=some (.tup [.str N,.str M]):=A9;generalize HX H1 c (.tup (i6 [V.str "answer",.str N,.str M,.ref l] (some 1) (some 3)))=H2 at uc ec⊢;have J:=sd.trans uc;refine⟨c,_,rfl,IZ.of ec,rfl,_,_,rfl,_,_,rfl,rfl,?_⟩;refine hM1 _ _ (B8 fun M2 hM2=>?_);refine A6 rfl (A6 rfl (A6 rfl ⟨p,v,D,W,A,B,i,m,N,rfl,R.same J,Y,by omega,Z,?_⟩));rw[mi];refine⟨true,rfl,X1 ?_⟩;refine A6 rfl (A6 rfl ⟨p,v,D,W,A,B,M,rfl,R.same J,?_⟩);rw[BB (AK hj)];refine⟨true,rfl,X1 ?_⟩;refine A6 rfl (A6 rfl (A6 rfl ⟨p,v,D,W,A,B,j,i,M,N,rfl,R.same J,Y,by omega,hj,Z,?_⟩));rw[ij];refine⟨true,rfl,X1 (hM2 _ _ (B8 fun M3 hM3=>?_))⟩;refine A6 rfl ⟨v,_,B9 rfl rfl ⟨IA.of (J _ _ e1),rfl,?_⟩⟩;refine A6 rfl ⟨v,_,B9 rfl rfl ⟨IA.of (J _ _ e1),rfl,.inl ⟨rfl,_,IA.of (J _ _ e2)⟩,A6 rfl ⟨na,D,M,j,rfl,rfl,IA.of (J _ _ e2),hj,fun m hm z=>by have:=G8 Y z hj;omega,sa,_,B9 rfl rfl ⟨IA.of (J _ _ e3),i7 (by rw[mA.len];exact jl),?_⟩⟩⟩⟩;refine hM3 _ _ (B8 fun M4 hM4=>?_);refine A6 rfl (A6 rfl ⟨p,v,A.getD j 0,D,W,A,B,rfl,R.same J,by omega,fun a H5 ha s5 ea=>?_⟩);have O:=J.trans s5;refine hM4 _ _ ?_;refine A6 rfl (A6 rfl (B9 rfl rfl ⟨rfl,?_⟩));dsimp only;rw[show decide (V.int (Builtin.bitAnd ((A.getD j 0:Nat):Int) (m:Int))=V.int 0)=true from BB (by rw[Ob,hz];rfl)];refine⟨true,rfl,Te ?_⟩;refine A6 rfl (A6 rfl (A6 rfl (A6 rfl (A6 rfl (A6 rfl ⟨r,_,B9 rfl rfl ⟨IZ.of (O _ _ er),E7 (j:=3) rfl,?_⟩⟩)))));exact⟨p,v,s',w',a,l,D,W,A,B,L,m,js,rs,rfl,R.same O,Y,l12,U,lo,(O.at w').seqT hw,by rw[ek];exact ea,O _ _ el,len,jn,fun i' j' r' h1 h2=>(X i' j' r' h1 h2).keep fun b xs e=>O _ _ e,fun H' s6=>q H' (O.trans s6)⟩
theorem Lf(T:Tx K mg):∀k,IG P w K mg base IW (3+2*k) T.ai.f T.ai.fd ["_law_view", "_law_sets", "_law_words", "_law_held", "_law_tree"] (w6 K k)
 | 0=>Gb (n:=2) T (by decide) (S:=fun _ _ _ _=>False) ⟨fun _ _ _ _ h=>h.elim,fun _ _ _ _ _ _ _ _ _ _ _ _ _ h=>h.elim⟩ fun a e=>by omega
 | k+1=>Gb (n:=3+2*k+1) T (by omega) (Ut T (by omega) (Lf T k)) fun a e=>by cases e;rfl
end
def Hf{α β:Type}(f:α->β)(a:A1 Nat)(xs:A1 α):S5 a (xs.map f) =(S5 a xs).map f:=by
 unfold S5;rw[List.map_filterMap];congr 1;funext k;rw[AH]
def Ar{H:Hp}:∀{c:A1 (A3×V×V)} {as bs:A1 Str},(c.map fun p=>p.2) =(as.map V.str).zip (bs.map V.str)->(∀p∈c,H p.1=some (.tup [p.2.1,p.2.2]))->∃d:A1 JF,(c.map fun p=>V.ref p.1)=K3 d/\(d.map fun q=>q.2)=as.zip bs/\∀q∈d,E6 H q
 | [],[],bs,e,_=>⟨[],rfl,rfl,fun q h=>absurd h BN⟩
 | [],a::as,[],e,_=>⟨[],rfl,rfl,fun q h=>absurd h BN⟩
 | [],a::as,b::bs,e,_=>by cases e
 | p::c,[],bs,e,_=>by cases e
 | p::c,a::as,[],e,_=>by cases e
 | p::c,a::as,b::bs,e,h=>by
  obtain⟨g,i⟩:=GX e;obtain⟨d,j,k,l⟩:=Ar i fun p f=>h p (.tail _ f);have f:=h p (.head _);have g:p.2 =(V.str a,V.str b):=g;rw[g]at f;refine⟨(p.1,a,b)::d,?_,?_,fun q hq=>?_⟩
  .show V.ref p.1 ::(c.map fun p=>V.ref p.1)=V.ref p.1::K3 d;rw[j]
  .show(a,b) ::(d.map fun q=>q.2) =(a,b)::as.zip bs;rw[k]
  .rcases AR.mp hq with e | hq
   .rw[e];exact f
   .exact l q hq
def zAp{α:Type}{J:It}{d:A1 α}{r:α->V}{a D:A3}{H:Hp}(as:LP J (d.map r) a H){u:TT}{w:TE}{c:St}{x:A5 V}{Q:St->Hp->Prop}(p:α->Bool)(g:α->Str×Str)(P:d.length<=1000)(A:H D=none)
  (R:∀y∈d,∀G,F8 H G->∀M:Bool->Hp->Prop,(∀j,F8 G j->M (p y) j)->u (some (r y)::c) G M)
  (S:∀y∈d,∀G,F8 H G->∀M:VK,(∀t,G t=none->M (.ref t) (HX G t (.tup [.str (g y).1,.str (g y).2])))->w (some (r y)::c) G M)
  (q:∀σ G (b:A1 JF),F8 H G->G D=some (.lst (K3 b))->(∀z∈b,E6 G z)->(b.map fun z=>z.2) =(d.filter p).map g->Q σ G):Ia (U5 0) u (Bx D w) J (x::c) (HX H D (.lst [])) Q:=by
 refine V0 as (fun i σ G=>(∃v,σ=v::c)/\F8 H G/\∃b:A1 JF,G D=some (.lst (K3 b))/\(∀z∈b,z.1≠D/\E6 G z)/\(b.map fun z=>z.2) =((d.take i).filter p).map g) ⟨⟨_,rfl⟩,F8.new A,[],A9,fun z h=>absurd h BN,rfl⟩ (fun i σ G _ h=>h.2.1.at a) ?_ ?_
 .rintro i σ G v N B ⟨⟨x,rfl⟩,f,b,k,e,l⟩ C;rw[AH]at B;obtain⟨y,E,rfl⟩:=BC.mp B;have F:=AK E;refine R y F G f _ fun j n=>?_;have k:=n _ _ k;have f:=f.trans n;have e:∀z∈b,z.1≠D/\E6 j z:=fun z m=>⟨(e z m).1,n _ _ (e z m).2⟩;have I:(d.take (i+1)).filter p =(d.take i).filter p++if p y=true then [y]else []:=by
   rw[IQ E,DU,DL,GF]
  have T:b.length<=d.length:=by
   have:=congrArg List.length l;rw[AB,AB]at this;rw[this];exact Nat.le_trans (BT ..) (by rw[AS];exact Nat.min_le_right ..)
  refine T7 (fun s=>S y F j f _ fun t K=>?_) (fun s=>C _ _ ⟨⟨_,rfl⟩,f,b,k,e,?_⟩)
  .have st:=F8.new (o:=.tup [.str (g y).1,.str (g y).2]) K;have L:t≠D:=(B2 k K).symm;have O:(HX j t (.tup [.str (g y).1,.str (g y).2])) t=some (.tup [.str (g y).1,.str (g y).2]):=A9;generalize HX j t (.tup [.str (g y).1,.str (g y).2])=U at st O⊢;refine⟨_,st _ _ k,by unfold K3;rw[AB,sizeLine_eq];omega,C _ _ ⟨⟨_,rfl⟩,(f.trans st).upd A,b ++ [(t,g y)],by rw[A9];unfold K3;rw[AO];rfl,fun z m=>?_,by rw[AO,l,I,AL s,AO];rfl⟩⟩;rcases AW.mp m with h | h
   .exact⟨(e z h).1,(B6 (e z h).1).trans (st _ _ (e z h).2)⟩
   .rw[AF.mp h];exact⟨L,(B6 L).trans O⟩
  .rw[I,AJ s,CH];exact l
 .rintro σ G ⟨_,f,b,k,e,l⟩;rw[AB,B_]at l;exact q σ G b f k (fun z m=>(e z m).2) l
def zAo{K:PySem.W.Frag}{b D:A3}{d:A1 JF}{H:Hp}{c:St}{k l:A5 V}{s:TE}{Q:St->Hp->Prop}(g:JF->Str×Str)(E:H b=some (.lst (K3 d)))(F:∀q∈d,E6 H q)(I:d.length<=1000)(u:H D=none)
  (J:∀y∈d,∀G,F8 H G->∀M:VK,(∀t,G t=none->M (.ref t) (HX G t (.tup [.str (g y).1,.str (g y).2])))->s (some (.str y.2.1)::some (.str y.2.2)::c) G M)
  (q:∀σ G (a:A1 JF),F8 H G->G D=some (.lst (K3 a))->(∀z∈a,E6 G z)->(a.map fun z=>z.2)=d.map g->Q σ G) :
  Ia (zEb K 2 (Wz (U5 0) (Wz (U5 1) zFg))) Ca (Bx D s) (SO K b) (k::l::c) (HX H D (.lst [])) Q:=by
 refine V0 (NR (IA.of E)) (fun i σ G=>(∃k l,σ=k::l::c)/\F8 H G/\∃a:A1 JF,G D=some (.lst (K3 a))/\(∀z∈a,z.1≠D/\E6 G z)/\(a.map fun z=>z.2) =(d.take i).map g) ⟨⟨_,_,rfl⟩,F8.new u,[],A9,fun z h=>absurd h BN,rfl⟩ (fun i σ G _ h=>h.2.1.at b) ?_ ?_
 .rintro i σ G v N n ⟨⟨k,l,rfl⟩,f,a,m,j,e⟩ L;unfold K3 at n;rw[AH]at n;obtain⟨r,w,rfl⟩:=BC.mp n;have x:=AK w;refine⟨r.1,_,rfl,IZ.of (f _ _ (F r x)),rfl,⟨_,_,rfl,⟨_,_,rfl,⟨rfl,?_⟩⟩⟩⟩;have O:a.length<=d.length:=by
   have:=congrArg List.length e;rw[AB,AB,AS]at this;omega
  dsimp only[Ca];refine Te (J r x G f _ fun t A=>?_);have st:=F8.new (o:=.tup [.str (g r).1,.str (g r).2]) A;have B:t≠D:=(B2 m A).symm;have C:(HX G t (.tup [.str (g r).1,.str (g r).2])) t=some (.tup [.str (g r).1,.str (g r).2]):=A9;generalize HX G t (.tup [.str (g r).1,.str (g r).2])=P at st C⊢;refine⟨_,st _ _ m,by unfold K3;rw[AB,sizeLine_eq];omega,L _ _ ⟨⟨_,_,rfl⟩,(f.trans st).upd u,a ++ [(t,g r)],by rw[A9];unfold K3;rw[AO];rfl,fun z p=>?_,by rw[AO,e,IQ w,AO];rfl⟩⟩;rcases AW.mp p with h | h
  .exact⟨(j z h).1,(B6 (j z h).1).trans (st _ _ (j z h).2)⟩
  .rw[AF.mp h];exact⟨B,(B6 B).trans C⟩
 .rintro σ G ⟨_,f,a,m,j,e⟩;unfold K3 at e;rw[AB,B_]at e;exact q σ G a f m (fun z p=>(j z p).2) e
def Jy:∀n:Nat,n<=12->(i5 n none none (some 2)).length<=12/\(i5 n (some 1) none (some 2)).length<=12/\(∀r∈i5 n none none (some 2),r<n)/\(∀r∈i5 n (some 1) none (some 2),r<n)/\(∀j:Fin 12,(i5 n none none (some 2))[j.1]?=none\/(i5 n none none (some 2))[j.1]?=some (2*j.1))/\∀j:Fin 12,(i5 n (some 1) none (some 2))[j.1]?=none\/(i5 n (some 1) none (some 2))[j.1]?=some (2*j.1+1):=by
 suffices h:∀n:Fin 13,(i5 n none none (some 2)).length<=12/\(i5 n (some 1) none (some 2)).length<=12/\(∀r∈i5 n none none (some 2),r<n.1)/\(∀r∈i5 n (some 1) none (some 2),r<n.1)/\(∀j:Fin 12,(i5 n none none (some 2))[j.1]?=none\/(i5 n none none (some 2))[j.1]?=some (2*j.1))/\∀j:Fin 12,(i5 n (some 1) none (some 2))[j.1]?=none\/(i5 n (some 1) none (some 2))[j.1]?=some (2*j.1+1)from
  fun n a=>h ⟨n,Nat.lt_succ_of_le a⟩
 decide +kernel
def Zr{ss:A1 Str}(c:ss.length<=12){j:Nat}{a b:Str}(h:((S5 (i5 ss.length none none (some 2)) ss).zip (S5 (i5 ss.length (some 1) none (some 2)) ss))[j]?=some (a,b)):ss[2*j]?=some a/\ss[2*j+1]?=some b:=by
 obtain⟨l,t,m,n,o,p⟩:=Jy _ c;rw[GU,Di m,Di n]at h;obtain⟨q,r⟩:=h;obtain⟨u,f,g⟩:=HE.mp q;obtain⟨v,s,i⟩:=HE.mp r;have k:j<12:=BG (AE.mp f).1 l;have d:=o ⟨j,k⟩;have e:=p ⟨j,k⟩;simp only[f,s]at d e;simp at d e;rw[d]at g;rw[e]at i;exact⟨g,i⟩
def zAh{ss:A1 Str}(o:ss.Nodup)(g:ss.length<=12){zs:A1 (Str×Str)}(e:zs =(S5 (i5 ss.length none none (some 2)) ss).zip (S5 (i5 ss.length (some 1) none (some 2)) ss)) :
  (zs++zs.map fun z=>(z.2,z.1)).Nodup/\zs.length<=12/\∀z∈zs,z.1∈ss/\z.2∈ss:=by
 have c:∀(j:Nat) z,zs[j]?=some z->ss[2*j]?=some z.1/\ss[2*j+1]?=some z.2:=fun j z h=>Zr g (by rw[<-e];exact h);have p:zs.Nodup:=GT.mpr fun i j k l v m=>by
  have d:=c i _ (AC k);have f:=c j _ (AC l);rw[<-m]at f;have:=G8 o d.1 f.1;omega
 refine⟨D_.mpr ⟨p,?_,fun z n y q m=>?_⟩,?_,fun z n=>?_⟩
 .refine CP.mpr (p.imp fun{a b} h e=>h ?_);injection e with r s;exact Prod.ext s r
 .obtain⟨x,t,rfl⟩:=AV.mp q;obtain⟨i,k⟩:=CU.mp n;obtain⟨j,l⟩:=CU.mp t;have d:=(c i _ k).1;have f:=(c j _ l).2;rw[m]at d;have:=G8 o d f;omega
 .obtain⟨u,_⟩:=Jy _ g;have w:(S5 (i5 ss.length none none (some 2)) ss).length<=12:=Nat.le_trans (List.length_filterMap_le ..) u;rw[e,List.length_zip];omega
 .obtain⟨i,k⟩:=CU.mp n;obtain⟨d,f⟩:=c i _ k;exact⟨AK d,AK f⟩
def zCc{as:A1 Str}:as.Nodup->∀bs:A1 Str,(as.zip bs).Nodup/\∀z∈as.zip bs,z.1∈as/\z.2∈bs:=fun c bs=>by
 refine⟨?_,fun z d=>FJ d⟩
 induction as generalizing bs with
 | nil=>rw[List.zip_nil_left];exact GN
 | cons a as e =>
  cases bs with
  | nil=>rw[List.zip_nil_right];exact GN
  | cons b bs =>
   rw[GB];exact CQ.mpr ⟨fun h=>(CQ.mp c).1 (FJ h).1,e (CQ.mp c).2 bs⟩
def Oo(ss:A1 Str)(lo hi:A5 Int):∃bs:A1 Str,i6 (ss.map V.str) lo hi=bs.map V.str/\(∀y∈bs,y∈ss)/\bs.length<=ss.length:=by
 unfold i6;rw[<-List.map_drop,<-HU];exact⟨_,rfl,fun y h=>DV (CD h),by rw[AS,CY];omega⟩
def Ir(ns:A1 Str)(k:Nat):i6 (ns.map V.str) none (some (k:Int)) =(ns.take k).map V.str:=by
 unfold i6;rw[HT.QT,HT.RF,EM,Nat.sub_zero,AB,<-HU];congr 1;rw[<-HH,B_]
def JY.take{ss:A1 Str}(h:JY ss)(k:Nat):JY (ss.take k):=⟨fun x a=>h.1 x (CD a),h.2.1.sublist (DY _ _),by rw[AS];have:=h.2.2;omega⟩
def Tv(ss:A1 Str):∃a:Str,∀y∈ss,PL (ss.map V.str) 0=some (.str a)/\a∈ss:=by
 cases ss with
 | nil=>exact⟨"",fun y h=>absurd h BN⟩
 | cons a b=>exact⟨a,fun y h=>⟨E7 (j:=0) rfl,.head _⟩⟩
def Yo(ss:A1 Str):∃a:Str,∀y∈ss,PL (ss.map V.str) (-1)=some (.str a)/\a∈ss:=by
 rcases List.eq_nil_or_concat ss with e | ⟨b,a,e⟩
 .exact⟨"",fun y h=>by rw[e]at h;exact absurd h BN⟩
 .refine⟨a,fun y h=>⟨?_,by rw[e,List.concat_eq_append];exact BK _ (.head _)⟩⟩;rw[e,List.concat_eq_append,AO];exact Uc _ _
section
variable{P:A7}{w:HW}{K:PySem.W.Frag}{mg:Str->A5 A2}{base:H_}
theorem JA:HY ["_law_left_here", "_law_most", "_law_names_here", "_law_way", "_law_twos", "_law_strikes_here"] ["_law_left_here", "_law_most"] (B7 LY):=KI
def Us:Sp:=fun h H Q _=>∃(p:A3) (c:Int) (e:Nat),h = [.ref p,.int (e:Int)]/\(e=7\/e=10)/\II H p c/\c<=700000 /\
 ∀t n a (d:A1 Str) (f:A1 JF) g b,Sm [p] H b->b t=some (.tup [.ref n,.ref a])->b n=some (.lst (d.map V.str))->JY d->d.length<=12->b a=some (.lst (K3 f))->(∀q∈f,E6 b q)->MZ d f->g<=c+1100->II b p g->Q (.ref t) b
theorem q0(T:Tx K mg):IG P w K mg base IW 4 T.aT.f T.aT.fd ["_law_left_here", "_law_most"] Us:=by
 refine T.aT.F.o1 JA fun cdv A outer s H vs Q E hr h=>?_
 .obtain⟨p,c,B,rfl,hmo,L1,c1,q⟩:=h;refine⟨_,(B3 (C6 (i:=2) JA.nd rfl (.inr rfl) (R1 (SG K) (C9 T.a5 (Hg T) (Rm hr) (A8 (pv 0) (A8 (C9 T.bb (Ib T) (Rm hr) (A8 (pv 0) B1)) B1))) R9 (P9 (D4 (KR K) (I9 (A8 B4 (A8 B4 B1))) (q9 Bg T.br Rk (A8 (P1 zAi (pv 1) B4 (D6 _)) B1)) (fun _ _=>rfl)))))
   (B3 (C6 (i:=3) JA.nd rfl (.inl rfl) (C9 T.ak (D8 T) (Rm hr) (A8 (pv 0) (A8 B4 B1))))
   (B3 (I0 (C2 Q8 (pv 3) B4 (D6 _)) (B5 (C1 (G7 (A8 (pv 2) (A8 (I9 B1) B1))))) C5)
   (B3 (I0 (C2 Q8 (pv 3) B4 (D6 _)) (B3 (C6 (i:=4) JA.nd rfl (.inl rfl) (Wd K T.aX T.bq (A8 (Hh K (R1 (SG K) (pv 2) R9 (P9 (pv 1))) R9 R9 (P9 B4)) (A8 (Hh K (R1 (SG K) (pv 2) R9 (P9 (pv 1))) (P9 B4) R9 (P9 B4)) B1))))
   (B5 (C1 (G7 (A8 (pv 2) (A8 (C4 Gm (pv 4) (U4 (N':=["_law_one", "_law_other"]) (cap:=[none,none]) (cl:=[]) (P3 trivial trivial) rfl (OE K (pv 4)) (fun _ _ _ _=>by exact⟨(QA K (n:=2) (C8 (MX 0) (C8 (MX 1) M9))),K1,(G7 (A8 (pv 1) (A8 (pv 0) B1)))⟩))) B1)))))) C5)
   (B3 (I0 (C2 Q8 (pv 3) B4 (D6 _)) (B5 (C1 (G7 (A8 (pv 2) (A8 (Wd K T.aX T.bq (A8 (pv 2) (A8 (C4 Gm (R1 (SG K) (pv 2) (P9 B4) R9) (R1 (SG K) (pv 2) R9 (P9 B4))) B1))) B1))))) C5)
   (B3 (I0 (C2 Q8 (pv 3) B4 (D6 _)) (B3 (C6 (i:=5) JA.nd rfl (.inr rfl) (U4 (N':=["_law_one", "_law_names_here"]) (cap:=[none,some 2]) (cl:=[("_law_names_here",_)]) (P3 ⟨⟨rfl,rfl,rfl,rfl⟩,trivial⟩ ⟨rfl,trivial⟩) rfl (OE K (pv 2)) (fun _ _ _ _=>by exact⟨(MX 0),K1,(G7 (A8 (pv 0) (A8 (D4 (KR K) (pv 1) B4 (fun _ _=>rfl)) B1)))⟩)))
   (B5 (C1 (G7 (A8 (pv 2) (A8 (C4 Gm (pv 5) (U4 (N':=["_law_one", "_law_names_here", "_law_strikes_here"]) (cap:=[none,some 2,some 5]) (cl:=[("_law_strikes_here",_),("_law_names_here",_)]) (P3 ⟨⟨rfl,rfl,rfl,rfl⟩,⟨⟨rfl,rfl,rfl,rfl⟩,trivial⟩⟩ ⟨rfl,⟨rfl,trivial⟩⟩) rfl (OE K (pv 2)) (fun _ _ _ _=>by exact⟨(MX 0),(T9 (C2 (y7 K hr.units) (G7 (A8 (D4 (KR K) (pv 1) (Iw Re B4) (fun _ _=>rfl)) (A8 (pv 0) B1))) (pv 2) rfl)),(G7 (A8 (D4 (KR K) (pv 1) (Iw Re B4) (fun _ _=>rfl)) (A8 (pv 0) B1)))⟩))) B1)))))) C5)
   (B5 (C1 (G7 (A8 (pv 2) (A8 (C9 T.aZ (Bz T) (Rm hr) (A8 (pv 0) (A8 (R1 (SG K) (pv 2) R9 (P9 (pv 1))) B1))) B1))))))))))),?_⟩
  refine B8 fun N1 hN1=>?_;refine A6 rfl (A6 rfl ⟨p,_,rfl,L1,by omega,fun sz H2 hsz k2 L2=>?_⟩);refine⟨p,_,sz,rfl,L2,by omega,by omega,fun n0 s0 H3 hn0 k3 e3 l3 N3 L3=>?_⟩;obtain⟨z,J,ez⟩:∃z:Nat,z<=12/\PL [V.int 7,V.int 12] (if decide ((B:Int)>7)=true then 1 else 0)=some (.int (z:Int)):=by
   rcases hmo with rfl | rfl
   .exact⟨7,by decide,E7 (j:=0) rfl⟩
   .exact⟨12,by decide,E7 (j:=1) rfl⟩
  refine⟨by show 2<=sizeLine;decide,fun t ht=>?_⟩;have ut:=F8.new (o:=.lst [.int 7,.int 12]) ht;refine A6 rfl (B9 rfl rfl (.inr ⟨_,rfl,t,_,B9 rfl rfl ⟨IA.of A9,ez,?_⟩⟩));refine A6 rfl ⟨n0,_,rfl,IA.of (ut _ _ e3),fun n hn=>?_⟩;have un:=ut.trans (F8.new (o:=.lst (i6 (s0.map V.str) none (some (z:Int)))) hn);have e3:(HX (HX H3 t (.lst [.int 7,.int 12])) n (.lst (i6 (s0.map V.str) none (some (z:Int))))) n=some (.lst ((s0.take z).map V.str)):=by rw[A9,Ir]
  generalize HX (HX H3 t (.lst [.int 7,.int 12])) n (.lst (i6 (s0.map V.str) none (some (z:Int))))=H3' at un e3⊢;have N3:=N3.take z;have l12:(s0.take z).length<=12:=by rw[AS];omega
  generalize s0.take z=g at e3 N3 l12;have L3:=L3.same un;have k3:=k3.trans un.sm;refine hN1 _ _ (B8 fun N2 hN2=>?_);refine A6 rfl (X0 (a:=p) rfl L3 (by omega) (by decide) (by decide) fun d H4 hd k4 L4=>?_);have N:=JQ k4 e3 (L3.ne e3);have k4:=k2.trans (k3.trans k4);clear e3 L3 L2 L1 hN1 ez J ut un hn hn0;have lt10:(g.take B).length<=10:=by rw[AS];omega
  have mt:∀y∈g.take B,y∈g:=fun y Y=>CD Y;have Z:∀(a:A3) (S:A1 JF) (X:Hp) (c5:Int),Sm [p] H X->X n=some (.lst (g.map V.str))->II X p c5->c5<=c+1100->X a=some (.lst (K3 S))->(∀q∈S,E6 X q)->MZ g S->2<=sizeLine/\∀t,X t=none->Q (.ref t) (HX X t (.tup [.ref n,.ref a])):=fun a S X c5 k e L hc ea pin O=>⟨by decide,fun t ht=>by
   have ut:=F8.new (o:=.tup [.ref n,.ref a]) ht;exact q t n a g S c5 _ (k.trans ut.sm) A9 (ut _ _ e) N3 l12 (ut _ _ ea) (P0 ut pin) O hc (L.same ut)⟩
  have nmO:∀{zs:A1 (Str×Str)} {S:A1 JF},(S.map fun q=>q.2)=zs->zs.Nodup->(∀z∈zs,z.1∈g/\z.2∈g)->zs.length<=200->MZ g S:=fun{zs S} e nd m l=>⟨fun z J=>m z.2 (by rw[<-e];exact AV.mpr ⟨z,J,rfl⟩),by rw[e];exact nd,by rw[<-e,AB]at l;exact l⟩;refine hN2 _ _ (B8 fun N3' hN3=>?_);refine A6 rfl ⟨rfl,_,rfl,T7 (fun c1=>?_) fun c1=>?_⟩
  .exact A6 rfl ⟨CI _,fun a ha=>Z a [] _ _ (k4.new ha) (F8.new ha _ _ N) (L4.same (F8.new ha)) (by omega) A9 (fun q h=>absurd h BN) (nmO rfl GN (fun q h=>absurd h BN) (CI _))⟩
  refine hN3 _ _ (B8 fun N4 hN4=>?_);refine A6 rfl ⟨rfl,_,rfl,T7 (fun c2=>?_) fun c2=>?_⟩
  .have lt12:(g.take B).length<=12:=by omega
   obtain⟨b1,b2,_⟩:=Jy _ lt12;have lm:((g.take B).map V.str).length =(g.take B).length:=AB ..;have pk:∀rs:A1 Nat,rs.length<=12->(S5 rs ((g.take B).map V.str)).length<=sizeLine:=fun rs h=>Nat.le_trans (List.length_filterMap_le ..) (Nat.le_trans h (by decide));refine B8 fun M1 hM1=>?_;have cu:∀{G:Hp} {x:A3},(HX G x (.lst (i6 (g.map V.str) none (some (B:Int))))) x=some (.lst ((g.take B).map V.str)):=by intro G x;rw[A9,Ir]
   refine A6 rfl (A6 rfl (A6 rfl ⟨n,_,rfl,IA.of N,fun x1 hx1=>?_⟩));have s1:=F8.new (o:=.lst (i6 (g.map V.str) none (some (B:Int)))) hx1;refine A6 rfl ⟨by decide,x1,_,rfl,IA.of cu,pk _ (by rw[lm];exact b1),fun u hu=>?_⟩;have su:=s1.trans (F8.new (o:=.lst (S5 (i5 ((g.take B).map V.str).length none none (some 2)) ((g.take B).map V.str))) hu);refine A6 rfl (A6 rfl (A6 rfl ⟨n,_,rfl,IA.of (su _ _ N),fun x2 hx2=>?_⟩));have s2:=F8.new (o:=.lst (i6 (g.map V.str) none (some (B:Int)))) hx2;refine A6 rfl (A6 rfl ⟨by decide,x2,_,rfl,IA.of cu,pk _ (by rw[lm];exact b2),fun v hv=>?_⟩);have sv:=s2.trans (F8.new (o:=.lst (S5 (i5 ((g.take B).map V.str).length (some 1) none (some 2)) ((g.take B).map V.str))) hv);refine⟨u,v,_,_,rfl,IA.of (sv _ _ A9),IA.of A9,fun S l X s5 hl el mp at_=>?_⟩;have s5:=(su.trans sv).trans s5;rw[lm,Hf,Hf]at mp;obtain⟨I,q1,q2,q3⟩:=Ar mp fun p hp=>(at_ p hp).2;rw[q1]at el;obtain⟨nd,lz,mz'⟩:=zAh (N3.take B).2.1 lt12 q2;have mz:∀z∈I.map (fun q=>q.2),z.1∈g/\z.2∈g:=fun z J=>⟨mt _ (mz' z J).1,mt _ (mz' z J).2⟩;have lq:I.length<=12:=by rw[AB]at lz;exact lz
   refine hM1 _ _ (A6 rfl (A6 rfl (A6 rfl ⟨l,rfl,⟨_,IA.of el⟩,fun D hD=>zAo (fun q=>(q.2.2,q.2.1)) el q3 (by omega) hD (fun y my G U M hM=>A6 rfl (A6 rfl ⟨by show 2<=sizeLine;decide,hM⟩)) fun σ G C U eG pG mG=>?_⟩)));have lr:(K3 I).length=I.length:=AB ..;have lr2:(K3 C).length=I.length:=by have:=congrArg List.length mG;rw[AB,AB]at this;unfold K3;rw[AB,this]
   refine⟨l,D,_,_,rfl,rfl,U _ _ el,eG,by rw[lr,lr2,sizeLine_eq];omega,fun x hx=>?_⟩;have W:=F8.new (o:=.lst (K3 I++K3 C)) hx;have s6:=(s5.trans U).trans W;refine Z x (I++C) _ _ (k4.trans s6.sm) (s6 _ _ N) (L4.same s6) (by omega) (by rw[A9];unfold K3;rw[AO]) (fun z J=>?_) (nmO (zs:=(I.map fun q=>q.2) ++(I.map fun q=>q.2).map fun z=>(z.2,z.1)) (by rw[AO,mG,CG];rfl) nd (fun z J=>?_) (by rw[AU,AB,AB];omega))
   .rcases AW.mp J with h | h
    .exact W _ _ (U _ _ (q3 z h))
    .exact W _ _ (pG z h)
   .rcases AW.mp J with h | h
    .exact mz z h
    .obtain⟨y,Y,rfl⟩:=AV.mp h;exact(mz y Y).symm
  refine hN4 _ _ (B8 fun N5 hN5=>?_);refine A6 rfl ⟨rfl,_,rfl,T7 (fun c3=>?_) fun c3=>?_⟩
  .obtain⟨as,ea,ma,la⟩:=Oo g (some 1) none;obtain⟨bs,eb,mb,lb⟩:=Oo g none (some 1);refine A6 rfl (A6 rfl (A6 rfl (A6 rfl ⟨n,_,rfl,IA.of N,fun u hu=>?_⟩)));have su:=F8.new (o:=.lst (i6 (g.map V.str) (some 1) none)) hu;refine A6 rfl (A6 rfl ⟨n,_,rfl,IA.of (su _ _ N),fun v hv=>?_⟩);have sv:=F8.new (o:=.lst (i6 (g.map V.str) none (some 1))) hv;refine⟨u,v,_,_,rfl,rfl,sv _ _ A9,A9,by rw[ea,eb,AB,AB,sizeLine_eq];omega,fun x hx=>?_⟩;have W:=F8.new (o:=.lst (i6 (g.map V.str) (some 1) none++i6 (g.map V.str) none (some 1))) hx;have s5:=(su.trans sv).trans W;refine⟨n,x,_,_,rfl,IA.of (s5 _ _ N),IA.of A9,fun S l X s6 hl el mp at_=>?_⟩;have s5:=s5.trans s6;rw[ea,eb,<-AO]at mp;obtain⟨I,q1,q2,q3⟩:=Ar mp fun p hp=>(at_ p hp).2;rw[q1]at el;obtain⟨nd,mz⟩:=zCc N3.2.1 (as++bs);refine Z l I _ _ (k4.trans s5.sm) (s5 _ _ N) (L4.same s5) (by omega) el q3 (nmO q2 nd (fun z J=>⟨(mz z J).1,(AW.mp (mz z J).2).elim (ma _) (mb _)⟩) (by rw[List.length_zip];omega))
  refine hN5 _ _ (B8 fun N6 hN6=>?_);refine A6 rfl ⟨rfl,_,rfl,T7 (fun c4=>?_) fun c4=>?_⟩
  .obtain⟨a,ha⟩:=Tv g;obtain⟨b,hb⟩:=Yo g;have ok:∀y∈g,PySem.PyData.strOk y=true:=fun y Y=>y6 (N3.1 y Y);refine B8 fun M1 hM1=>?_;refine A6 rfl ⟨n,rfl,⟨_,IA.of N⟩,fun D hD=>zAp (r:=V.str) (NR (IA.of N)) (fun _=>true) (fun y=>(y,a)) (by omega) hD (fun y my G U M hM=>hM G fun b o e=>e) (fun y my G U M hM=>A6 rfl (A6 rfl ⟨n,_,B9 rfl rfl ⟨IA.of (U _ _ N),(ha y my).1,⟨by show 2<=sizeLine;decide,hM⟩⟩⟩)) fun σ G I U eG pG mG=>?_⟩;rw[EW.mpr fun _ _=>rfl]at mG;have lq:I.length=g.length:=by have:=congrArg List.length mG;rw[AB,AB]at this;exact this
   have mq:∀q∈I,q.2.1∈g/\q.2.2∈g:=fun q hq=>by
    have:q.2∈g.map fun y=>(y,a):=by rw[<-mG];exact AV.mpr ⟨q,hq,rfl⟩
    obtain⟨y,Y,e⟩:=AV.mp this;rw[<-e];exact⟨Y,(ha y Y).2⟩
   refine hM1 _ _ (A6 rfl (A6 rfl (A6 rfl ⟨n,rfl,⟨_,IA.of (U _ _ N)⟩,fun D2 hD2=>zAp (r:=V.str) (NR (IA.of (U _ _ N))) (fun y=>!decide ((b,y)∈I.map fun q=>q.2)) (fun y=>(b,y)) (by omega) hD2 (fun y my G2 R M hM=>?_) (fun y my G2 R M hM=>?_) fun σ2 G2 C R eG2 pG2 mG2=>?_⟩)))
   .refine A6 rfl (A6 rfl ⟨n,_,B9 rfl rfl ⟨IA.of (R _ _ (U _ _ N)),(hb y my).1,A6 rfl ⟨by show 2<=sizeLine;decide,fun t ht=>?_⟩⟩⟩);have st:=F8.new (o:=.tup [.str b,.str y]) ht;exact A6 rfl (V6 (k:=(b,y)) A9 (st _ _ (R _ _ eG)) (fun q hq=>st _ _ (R _ _ (pG q hq))) ⟨ok b (hb y my).2,ok y my⟩ (fun q hq=>⟨ok _ (mq q hq).1,ok _ (mq q hq).2⟩) ⟨_,rfl,hM _ st⟩)
   .exact A6 rfl (A6 rfl ⟨n,_,B9 rfl rfl ⟨IA.of (R _ _ (U _ _ N)),(hb y my).1,A6 rfl ⟨by show 2<=sizeLine;decide,hM⟩⟩⟩)
   have lp2:C.length<=g.length:=by have:=congrArg List.length mG2;rw[AB,AB]at this;rw[this];exact BT ..
   have lr:(K3 I).length=I.length:=AB ..;have lr2:(K3 C).length=C.length:=AB ..;refine⟨D,D2,_,_,rfl,rfl,R _ _ eG,eG2,by rw[lr,lr2,sizeLine_eq];omega,fun x hx=>?_⟩;have W:=F8.new (o:=.lst (K3 I++K3 C)) hx;have s6:=(U.trans R).trans W;refine Z x (I++C) _ _ (k4.trans s6.sm) (s6 _ _ N) (L4.same s6) (by omega) (by rw[A9];unfold K3;rw[AO]) (fun z J=>?_) (nmO (zs:=(I.map fun q=>q.2)++C.map fun q=>q.2) (by rw[AO]) (D_.mpr ⟨?_,?_,fun z J y Y e=>?_⟩) (fun z J=>?_) (by rw[AU,AB,AB];omega))
   .rcases AW.mp J with h | h
    .exact W _ _ (R _ _ (pG z h))
    .exact W _ _ (pG2 z h)
   .rw[mG];exact CP.mpr (N3.2.1.imp fun{x y} h e=>h (congrArg Prod.fst e))
   .rw[mG2];exact CP.mpr ((N3.2.1.sublist DM).imp fun{x y} h e=>h (congrArg Prod.snd e))
   .rw[mG2]at Y;obtain⟨w,hw,rfl⟩:=AV.mp Y;have:=(BM.mp hw).2;rw[Bool.not_eq_true',decide_eq_false_iff_not]at this;exact this (by rw[<-e];exact J)
   .rcases AW.mp J with h | h
    .obtain⟨q,hq,rfl⟩:=AV.mp h;exact mq q hq
    .rw[mG2]at h;obtain⟨w,hw,rfl⟩:=AV.mp h;have:=(BM.mp hw).1;exact⟨(hb w this).2,this⟩
  refine hN6 _ _ ?_;refine A6 rfl (A6 rfl (A6 rfl (A6 rfl (A6 rfl ⟨n,_,rfl,IA.of N,fun x hx=>?_⟩))));have W:=F8.new (o:=.lst (i6 (g.map V.str) none (some (B:Int)))) hx;have ex:(HX H4 x (.lst (i6 (g.map V.str) none (some (B:Int))))) x=some (.lst ((g.take B).map V.str)):=by rw[A9,Ir]
  exact⟨p,x,_,g.take B,rfl,L4.same W,by omega,ex,N3.take B,lt10,fun a S c5 X ha k5 e5 pin5 O5 hc5 L5=>Z a S X c5 (k4.trans (W.sm.trans k5)) (JQ k5 (W _ _ N) (L4.ne N)) L5 (by omega) e5 pin5 ⟨fun q hq=>⟨mt _ (O5.nm q hq).1,mt _ (O5.nm q hq).2⟩,O5.nd,O5.len⟩⟩
def Qd(f:A1 Str->A1 Nat->A1 Nat->Nat->Prop):Sp:=fun c H Q _=>∃(p v:A3) (m:Nat) (a:A1 Str) (d:A1 (Str×Str)) (A B:A1 Nat),c = [.ref v,.int (m:Int)]/\IU H p v a d A B/\a.length<=100 /\
 ∀b:Bool,(b=true↔f a A B m)->Q (.bl b) H
theorem g9:HY ["_law_view", "_law_mask"] ["_law_view", "_law_mask"] (B7 NC):=⟨rfl,rfl,rfl,by decide +kernel,rfl,by decide +kernel,by decide +kernel⟩
theorem Do(T:Tx K mg):IG P w K mg base IW 3 T.a1.f T.a1.fd ["_law_view", "_law_mask"] (Qd fun ns A B m=>JC B m/\∀j,m.testBit j=true->MW ns.length A B m j):=by
 have i:=U9 (P:=P) (w:=w) (base:=base) T;have k:=W8 (P:=P) (w:=w) (base:=base) T;have I:=g9;refine T.a1.F.ok g9 (fun D H Q E h=>?_) (fun G A l s H D Q E r h=>?_)
 .obtain⟨p,n,a,J,L,A,B,rfl,_⟩:=h;rfl
 .obtain⟨p,v,m,ns,t,A,B,rfl,u,x,q⟩:=h;refine⟨_,(B5 (C1 (Ap (C9 T.aL i (r.mono (by decide)) (A8 (pv 0) (A8 (pv 1) B1))) (Db (P1 Q8 (C4 K5 (pv 1) (Iw Lm (C9 T.aW k (r.mono (by decide)) (A8 (pv 0) (A8 (pv 1) B1))))) B4 (D6 _)))))),?_⟩;refine A6 rfl (A6 rfl ⟨p,v,m,ns,t,A,B,rfl,u,x,fun b y=>⟨b,rfl,?_⟩⟩);refine T7 (fun c=>?_) (fun c=>?_)
  .refine A6 rfl (A6 rfl (A6 rfl (Zg (a:=p) (b:=v) (c:=m) (d:=ns) (e:=t) (f:=A) (g:=B) rfl u x fun M C=>?_)));refine A6 rfl (B9 rfl rfl ⟨rfl,?_⟩);refine q _ ?_;dsimp only;rw[V2];exact⟨fun h=>⟨y.mp c,fun j o=>(C j).mp (h j o)⟩,fun h j o=>(C j).mpr (h.2 j o)⟩
  .exact q false ⟨fun z=>(by cases z),fun h=>absurd (y.mpr h.1) c⟩
end
def JC.sub{B:A1 Nat}{m a:Nat}(h:JC B m)(s:Sub a m):JC B a:=fun i j b c=>h i j (s i b) (s j c)
def zAd{i m a:Nat}(h:LB i m)(h':LB i a)(e:m ||| 2^i=a ||| 2^i):m=a:=BL fun j=>by
 by_cases c:j=i
 .subst c;rw[CA.mpr fun z=>DP _ (h j z),CA.mpr fun z=>DP _ (h' j z)]
 .have:=congrArg (fun z=>z.testBit j) e;rw[EA,EA,CV,BD fun z=>c z.symm,Bool.or_false,Bool.or_false]at this;exact this
def Mu{B f:A1 Nat}{i:Nat}(p:f.Nodup)(g:∀m,m∈f↔LB i m/\JC B m):(f ++(f.filter fun m=>pB (JC B (m ||| 2^i))).map fun m=>m ||| 2^i).Nodup/\∀m,m∈(f ++(f.filter fun m=>pB (JC B (m ||| 2^i))).map fun m=>m ||| 2^i)↔LB (i+1) m/\JC B m:=by
 have r:∀m,(m ||| 2^i).testBit i=true:=fun m=>by rw[EA,FT,Bool.or_true]
 constructor
 .refine D_.mpr ⟨p,CP.mpr (FS (fun{a b} l n s e=>s (zAd ((g a).mp (BM.mp l).1).1 ((g b).mp (BM.mp n).1).1 e)) (p.sublist DM)),fun a l b n e=>?_⟩;obtain⟨c,_,rfl⟩:=AV.mp n;have:=((g a).mp l).1 i (by rw[e];exact r c);omega
 .intro m;rw[AW,g,AV];constructor
  .rintro(⟨k,d⟩ | ⟨q,h,rfl⟩)
   .exact⟨fun j o=>DZ (k j o),d⟩
   .obtain⟨k,d⟩:=BM.mp h;refine⟨fun j o=>?_,MJ.mp d⟩;rcases(U6 q i j).mp o with z | z
    .exact DZ (((g q).mp k).1 j z)
    .omega
  .rintro⟨k,d⟩;by_cases c:m.testBit i=true
   .have e:m % 2^i ||| 2^i=m:=BL fun j=>by
     rw[EA,HG,CV,BV,EI,BH,BQ,BQ];constructor
     .rintro(⟨_,z⟩ | rfl)
      .exact z
      .exact c
     .intro z;by_cases t:j<i
      .exact .inl ⟨t,z⟩
      .have:=k j z;exact .inr (by omega)
    have u:Sub (m % 2^i) m:=fun j z=>by
     rw[HG,BH]at z;exact z.2
    refine .inr ⟨m % 2^i,BM.mpr ⟨(g _).mpr ⟨fun j z=>?_,d.sub u⟩,MJ.mpr (by rw[e];exact d)⟩,e⟩;rw[HG,BH,BQ]at z;exact z.1
   .refine .inl ⟨fun j z=>?_,d⟩;have:=k j z;rcases Nat.lt_or_ge j i with y | y
    .exact y
    .exact absurd (show m.testBit i=true by rw[show i=j by omega];exact z) c
section
variable{P:A7}{w:HW}{K:PySem.W.Frag}{mg:Str->A5 A2}{base:H_}
theorem I7:HY ["_law_view", "_law_found", "_law_k", "_law_mask"] ["_law_view"] (B7 KO):=KI
def Bp:Sp:=fun d H Q _=>∃(p v:A3) (b:A1 Str) (e:A1 (Str×Str)) (A B:A1 Nat),d = [.ref v]/\IU H p v b e A B/\b.length<=12 /\
 ∀l (a:A1 Nat) c,H l=none->F8 H c->c l=some (.lst (a.map K8))->a.Nodup->(∀m,m∈a↔Vw b.length A B m)->a.length<=4096->Q (.ref l) c
set_option maxHeartbeats 2000000 in
theorem X6(T:Tx K mg):IG P w K mg base IW 4 T.aI.f T.aI.fd ["_law_view"] Bp:=by
 refine T.aI.F.o1 I7 fun cdv A U s H vs Q E hr h=>?_
 .obtain⟨p,v,N,ks,A,B,rfl,W,ln,q⟩:=h;obtain⟨⟨a,s,u,X,e2,e3,e4,_⟩,mA,mB⟩:=id W;refine⟨_,(B3 (C6 (i:=1) I7.nd rfl (.inl rfl) (I9 (A8 B4 B1)))
   (B3 (O4 PassesOwn.never rfl (Yk T.aQ (A8 (G0 (N9 K) T.aq K9 (A8 (D4 (KR K) (pv 0) B4 (fun _ _=>rfl)) B1)) B1)) (D0 (i:=2) I7.nd rfl (.inl rfl))
   (B5 (O4 PassesOwn.never rfl (OE K (q9 (Ao K) T.aX X4 (A8 (pv 1) B1))) (D0 (i:=3) I7.nd rfl (.inl rfl))
   (B5 (I0 (Q4 (C9 T.aL (U9 T) (Rm hr) (A8 (pv 0) (A8 (C4 Y2 (pv 3) (C4 Aq B4 (pv 2))) B1)))) (B5 (J9 (Bs K PySem.F.plainAttrs_list PySem.F.slot_list_append PySem.F.type_list_append M6 (pv 1) (A8 (C4 Y2 (pv 3) (C4 Aq B4 (pv 2))) B1)))) C5)))))
   (B5 (C1 (U4 (N':=["_law_mask", "_law_view"]) (cap:=[none,some 0]) (cl:=[("_law_view",_)]) (P3 ⟨⟨rfl,rfl,rfl,rfl⟩,trivial⟩ ⟨rfl,trivial⟩) rfl (OE K (pv 1)) (fun _ _ _ _=>by exact⟨(MX 0),(T9 (Q4 (C9 T.a1 (Do T) (Rm hr) (A8 (pv 1) (A8 (pv 0) B1))))),(pv 0)⟩)))))),?_⟩
  refine B8 fun N1 Y=>?_;refine⟨by show 1<=sizeLine;decide,fun l O=>?_⟩;have Z:=O;have R:=F8.new (o:=.lst [.int 0]) O;have fl:(HX H l (.lst [.int 0])) l=some (.lst ([0].map K8)):=A9;generalize HX H l (.lst [.int 0])=H1 at R fl⊢;refine Y _ _ (B8 fun N2 hN2=>?_);refine A6 rfl ⟨v,_,B9 rfl rfl ⟨IA.of (R _ _ X),rfl,B9 (a:=a) rfl (.inl (IA.of (R _ _ e2))) (A6 rfl ⟨?_,?_,?_⟩)⟩⟩
  .omega
  .rw[AB];omega
  rw[AB,CS];have lz:∀m,m∈[0]↔LB 0 m/\JC B m:=fun m=>by
   rw[AF];constructor
   .rintro rfl;exact⟨LB.zero _,fun i j h=>by rw[CC]at h;cases h⟩
   .rintro⟨h,_⟩;exact BL fun j=>by rw[CC];exact CA.mpr fun z=>absurd (h j z) (EF _)
  refine Q2 (fun i σ G=>(∃v2 g,σ = [some (.ref v),some (.ref l),v2,g])/\F8 H G/\∃d:A1 Nat,G l=some (.lst (d.map K8))/\d.Nodup/\(∀m,m∈d↔LB i m/\JC B m)/\d.length<=2^i) ⟨⟨_,_,rfl⟩,R,[0],fl,FV _ _,lz,by decide⟩ ?_ ?_
  .rintro i σ G hi ⟨⟨v2,g,rfl⟩,k,d,n,nG,mG,lG⟩ D1 hD1 _;rw[Int.zero_add];have p2:2^i<=2^11:=Nat.pow_le_pow_right (by decide) (by omega);refine A6 rfl ⟨l,_,rfl,.inl (IA.of n),fun c hc=>?_⟩;have uc:=F8.new (o:=.lst (d.map K8)) hc;have C:(HX G c (.lst (d.map K8))) c=some (.lst (d.map K8)):=A9;have ncl:c≠l:=(B2 n hc).symm;generalize HX G c (.lst (d.map K8))=I at uc C⊢;have r:=k.trans uc;have hc0:H c=none:=k.free hc;refine⟨c,rfl,⟨_,IA.of C⟩,S4 (NR (IA.of C)) (fun j σ t=>(∃g,σ = [some (.ref v),some (.ref l),some (.int (i:Int)),g])/\F8 H t/\t c=some (.lst (d.map K8))/\t l=some (.lst ((d ++((d.take j).filter fun m=>pB (JC B (m ||| 2^i))).map fun m=>m ||| 2^i).map K8))) ⟨⟨_,rfl⟩,r,C,by rw[List.take_zero,GF,GP,CH];exact uc _ _ n⟩ (fun j σ t _ h o e=>by rw[C]at e;cases e;exact h.2.2.1) ?_ ?_⟩
   .rintro j σ t y hy ⟨⟨g,rfl⟩,J,c2,x⟩ D2 L _;rw[AH]at hy;obtain⟨m,S,rfl⟩:=BC.mp hy;have lj:=(AE.mp S).1;refine A6 rfl (A6 rfl (A6 rfl (B9 rfl rfl ⟨⟨by omega,by omega,by decide⟩,B9 rfl rfl ?_⟩)));dsimp only;rw[Vr,show K8 m=V.int (m:Int)from rfl];refine⟨p,v,m ||| 2^i,N,ks,A,B,by rw[QG];rfl,W.same J,by omega,fun b hb=>⟨_,rfl,?_⟩⟩;have eb:=Zc hb;have hs:(d.take (j+1)).filter (fun m=>pB (JC B (m ||| 2^i))) =(d.take j).filter (fun m=>pB (JC B (m ||| 2^i)))++if pB (JC B (m ||| 2^i))=true then [m]else []:=by
     rw[IQ S,DU,DL,GF]
    have O:=BT (fun m=>pB (JC B (m ||| 2^i))) (d.take j);rw[AS]at O;refine T7 (fun z=>?_) (fun z=>L _ _ ⟨⟨_,rfl⟩,J,c2,?_⟩)
    .refine A6 rfl ⟨.inl ⟨rfl,_,IA.of x⟩,A6 rfl (A6 rfl (B9 rfl rfl ⟨⟨by omega,by omega,by decide⟩,B9 rfl rfl ?_⟩))⟩;dsimp only;rw[Vr];refine⟨l,_,_,rfl,by rw[QG],x,by rw[AB,AU,AB,sizeLine_eq];omega,L _ _ ⟨⟨_,rfl⟩,J.upd Z,(B6 ncl).trans c2,?_⟩⟩;rw[A9,hs,AL (by rw[<-eb];exact z)];simp only[AO,A_,GP,BI];rfl
    .rw[hs,AJ (by rw[<-eb];exact z),CH];exact x
   .rintro σ t ⟨⟨g,rfl⟩,J,c2,x⟩;rw[AB,B_]at x;obtain⟨n2,m2⟩:=Mu nG mG;refine hD1 _ _ ⟨⟨_,_,rfl⟩,J,_,x,n2,m2,?_⟩;have:=BT (fun m=>pB (JC B (m ||| 2^i))) d;rw[AU,AB,Nat.pow_succ];omega
  .rintro σ G ⟨⟨v2,g,rfl⟩,k,d,n,nG,mG,lG⟩;have p2:2^N.length<=2^12:=Nat.pow_le_pow_right (by decide) ln;refine hN2 _ _ ?_;refine A6 rfl ⟨l,rfl,⟨_,IA.of n⟩,fun D hD=>?_⟩;refine Hz K8 (NR (IA.of n)) (fun m=>pB (JC B m/\∀j,m.testBit j=true->MW N.length A B m j)) (by omega) hD (fun m S I r M hM=>?_) (fun m S I r M hM=>A6 rfl hM) fun σ' I r X=>?_
   .exact A6 rfl (A6 rfl ⟨p,v,m,N,ks,A,B,rfl,(W.same k).same r,by omega,fun b hb=>⟨_,rfl,by rw[Zc hb];exact hM I fun b o e=>e⟩⟩)
   .refine q D _ I (k.free hD) (k.trans r) X (nG.sublist DM) (fun m=>?_) (Nat.le_trans (BT ..) (by omega));rw[BM,mG,MJ];exact⟨fun h=>⟨h.1.1,h.2⟩,fun h=>⟨⟨h.1,h.2.1⟩,h.2⟩⟩
end
def Vs{m r:Nat}(s:Sub m r):∀n,(D3 m n).length<=(D3 r n).length/\((D3 m n).length =(D3 r n).length->∀j,j<n->m.testBit j=r.testBit j)
 | 0=>⟨Nat.le_refl _,fun _ j h=>absurd h (EF _)⟩
 | n+1=>by
  obtain⟨b,d⟩:=Vs s n;have f:∀z,(D3 z (n+1)).length =(D3 z n).length+if z.testBit n=true then 1 else 0:=fun z=>by
   rw[O9,AU];split<;>rfl
  rw[f,f];cases a:m.testBit n with
  | true =>
   rw[s n a];refine⟨by simp;exact b,fun e j g=>?_⟩;by_cases c:j=n
   .rw[c,a,s n a]
   .exact d (by simpa using e) j (by omega)
  | false =>
   cases i:r.testBit n with
   | true=>exact⟨by simp;omega,fun e=>by simp at e;omega⟩
   | false =>
    refine⟨by simp;exact b,fun e j g=>?_⟩;by_cases c:j=n
    .rw[c,a,i]
    .exact d (by simpa using e) j (by omega)
def zBe{n m r:Nat}(s:Sub m r)(lo:LB n r)(a:m≠r):(D3 m n).length <(D3 r n).length:=by
 obtain⟨b,d⟩:=Vs s n;refine FB b fun e=>a (BL fun j=>?_);by_cases c:j<n
 .exact d e j c
 .rw[CA.mpr fun z=>c (lo j z),CA.mpr fun z=>c (lo j (s j z))]
def MW.up{n:Nat}{A B:A1 Nat}{m r j:Nat}(s:Sub m r)(h:MW n A B m j):MW n A B r j:=⟨h.1,fun b a=>let⟨k,c,d⟩:=h.2 b a;⟨k,s k c,d⟩⟩
section
variable{P:A7}{w:HW}{K:PySem.W.Frag}{mg:Str->A5 A2}{base:H_}
theorem JV:HY ["_law_view", "_law_mask", "_law_more"] ["_law_view"] (B7 OA):=KI
def Sb:Sp:=fun b H Q _=>∃(p v:A3) (a:A1 Str) (c:A1 (Str×Str)) (A B:A1 Nat),b = [.ref v]/\IU H p v a c A B/\a.length<=100/\∀m:Nat,LB a.length m->Q (.int (m:Int)) H
theorem Hc(T:Tx K mg):IG P w K mg base IW 3 T.a7.f T.a7.fd ["_law_view"] Sb:=by
 refine T.a7.F.o1 JV fun M A d s H R Q E y h=>?_
 .obtain⟨p,v,a,C,A,B,rfl,D,I,q⟩:=h;refine⟨_,(B3 (C6 (i:=1) JV.nd rfl (.inl rfl) B4)
   (B3 (C6 (i:=2) JV.nd rfl (.inl rfl) (C9 T.aW (W8 T) (Rm y) (A8 (pv 0) (A8 B4 B1))))
   (B3 (Ti PassesOwn.never (C2 Gw (pv 2) (pv 1) (D6 _)) (B3 (C6 (i:=1) JV.nd rfl (.inl rfl) (pv 2))
   (B5 (C6 (i:=2) JV.nd rfl (.inl rfl) (C9 T.aW (W8 T) (Rm y) (A8 (pv 0) (A8 (pv 1) B1)))))))
   (B5 (C1 (pv 1)))))),?_⟩
  refine B8 fun S g=>?_;refine g _ _ (B8 fun U k=>?_);refine A6 rfl ⟨p,v,0,a,C,A,B,rfl,D,I,fun r l=>?_⟩;refine k _ _ (B8 fun V n=>?_);refine⟨fun t σ G=>G=H/\∃m r:Nat,σ = [some (.ref v),some (.int (m:Int)),some (.int (r:Int))]/\LB a.length m/\(∀j,r.testBit j=true↔MW a.length A B m j)/\Sub m r/\t +(D3 m a.length).length=a.length,⟨a.length-(D3 0 a.length).length,rfl,0,r,rfl,LB.zero _,l,(fun j h=>by rw[CC]at h;cases h),by have:=M5 0 a.length;omega⟩,?_⟩;rintro t σ G ⟨rfl,m,r,rfl,lo,J,sub,W⟩;have c:LB a.length r:=fun j o=>((J j).mp o).1;refine A6 rfl (A6 rfl ⟨rfl,_,rfl,T7 (fun z=>?_) fun z=>n _ _ (A6 rfl (q m lo))⟩);have N:m≠r:=fun e=>by
   rw[e]at z;simp at z
  refine⟨fun σ' L=>L=G/\∃b:Nat,σ' = [some (.ref v),some (.int (r:Int)),some (.int (b:Int))]/\∀j,b.testBit j=true↔MW a.length A B r j,fun σ' L ⟨e,b,O,h⟩=>?_,?_⟩
  .have:=zBe sub c N;have:=M5 r a.length;exact⟨a.length-(D3 r a.length).length,by omega,e,r,b,O,c,h,fun j o=>(h j).mpr (((J j).mp o).up sub),by omega⟩
  .refine B8 fun X u=>?_;refine A6 rfl (u _ _ ?_);exact A6 rfl (A6 rfl ⟨p,v,r,a,C,A,B,rfl,D,I,fun b x=>⟨rfl,b,rfl,x⟩⟩)
end
def Li:∀ss:A1 Str,PyData.eqv (sd ss) (.list [])=decide (ss = [])
 | []=>by unfold sd;simp[PyData.eqv,PyData.eqvAll]
 | x::ss=>by unfold sd;rw[A_];simp[PyData.eqv,PyData.eqvAll]
section
variable{P:A7}{w:HW}{K:PySem.W.Frag}{mg:Str->A5 A2}{base:H_}
theorem KB:HY ["_law_left_here", "_law_view", "_law_some_here", "_law_rest"] ["_law_left_here", "_law_view"] (B7 LX):=KI
def Yj:Sp:=fun f H Q _=>∃(p v:A3) (c:Int) (a:A1 Str) (g:A1 (Str×Str)) (A B:A1 Nat),f = [.ref p,.ref v]/\II H p c/\c<=800000/\IU H p v a g A B/\a.Nodup/\a.length<=12/\(∀y∈a,R8 y=true) /\
 ∀l (d:A1 Str) e b,H l=none->Sm [p] H b->b l=some (.lst (d.map V.str))->(∀y∈d,y∈a)->d.Nodup->e<=c+5->II b p e->Q (.ref l) b
theorem u5(T:Tx K mg):IG P w K mg base IW 4 T.aU.f T.aU.fd ["_law_left_here", "_law_view"] Yj:=by
 refine T.aU.F.o1 KB fun cdv A outer s H vs Q E J h=>?_
 .obtain⟨p,v,c,d,ks,A,B,rfl,hL,hc,hV,nd,ln,nm,q⟩:=h;obtain⟨⟨n,s',u,e1,e2,e3,e4,_⟩,mA,mB⟩:=id hV;refine⟨_,(B3 (C6 (i:=2) KB.nd rfl (.inr rfl) (C9 T.az (Z8 T) (Rm J) (A8 (pv 1) (A8 (C9 T.a7 (Hc T) (Rm J) (A8 (pv 1) B1)) B1))))
   (B3 (Dy (i:=3) (N':=["_law_name", "_law_some_here"]) (cap:=[none,some 2]) (cl:=[("_law_some_here",_)]) KB.nd rfl (.inl rfl) (P3 ⟨⟨rfl,rfl,rfl,rfl⟩,trivial⟩ ⟨rfl,trivial⟩) rfl (OE K (D4 (KR K) (pv 1) B4 (fun _ _=>rfl))) (fun _ _ _ _=>by exact⟨(MX 0),(T9 (C2 (w4 K) (pv 0) (pv 1) rfl)),(pv 0)⟩))
   (B3 (I0 (C2 (Yd K J.units) (pv 3) (I9 B1) (D6 _)) (B5 (J9 (Bs K PySem.F.plainAttrs_list PySem.F.slot_list_insert PySem.F.type_list_insert Fj (pv 2) (A8 (C9 T.ak (D8 T) (Rm J) (A8 (pv 0) (A8 (C4 m9 (G0 (N9 K) T.aq K9 (A8 (pv 2) B1)) B4) B1))) (A8 (D4 (KR K) (pv 3) (C9 T.ak (D8 T) (Rm J) (A8 (pv 0) (A8 (G0 (N9 K) T.aq K9 (A8 (pv 3) B1)) B1))) (fun _ _=>rfl)) B1))))) C5)
   (B5 (C1 (pv 2)))))),?_⟩
  refine B8 fun N1 hN1=>?_;refine A6 rfl (A6 rfl ⟨p,v,d,ks,A,B,rfl,hV,by omega,fun m lo=>?_⟩);refine⟨p,v,m,d,ks,A,B,rfl,hV,by omega,fun l H1 Y Z el=>?_⟩;have sub:=Hi d m;refine hN1 _ _ (B8 fun N2 hN2=>?_);refine A6 rfl ⟨v,_,B9 rfl rfl ⟨IA.of (Z _ _ e1),rfl,n,rfl,⟨_,IA.of (Z _ _ e2)⟩,fun D hD=>?_⟩⟩;refine Hz (r:=V.str) V.str (NR (IA.of (Z _ _ e2))) (fun y=>!decide (y∈I_ d m)) (by omega) hD (fun y g G L M hM=>A6 rfl (A6 rfl (V9 (.inl (IA.of (L _ _ el))) ⟨_,rfl,hM G fun b o e=>e⟩))) (fun y g G L M hM=>A6 rfl hM) fun σ' G L N=>?_;have N:G D=some (.lst ((d.filter fun y=>!decide (y∈I_ d m)).map V.str)):=N;have t:∀y∈d.filter (fun y=>!decide (y∈I_ d m)),y∈d/\y∉I_ d m:=fun y g=>by
   obtain⟨a,b⟩:=BM.mp g;exact⟨a,by simpa using b⟩
  have lrs:(d.filter fun y=>!decide (y∈I_ d m)).length<=12:=Nat.le_trans (BT ..) ln;generalize (d.filter fun y=>!decide (y∈I_ d m))=k at N t lrs;refine hN2 _ _ (B8 fun N3 O=>?_);refine A6 rfl ⟨CI _,fun z I=>⟨sd k,.list [],Ri (IA.of ((F8.new I) _ _ N)),by simp only[Rp,OG];exact⟨z,_,rfl,IA.of A9,rfl⟩,Rf (fun y g=>nm y (t y g).1),⟨rfl,by simp[PyData.depth,PyData.depthAll]⟩,?_⟩⟩;rw[Li];have s2:=(Z.trans L).trans (F8.new (o:=.lst []) I);have x:=F8.new (o:=.lst []) I _ _ N;have j:=F8.new (o:=.lst []) I _ _ (L _ _ el);generalize HX G z (.lst [])=G2 at s2 x j⊢;have L2:=hL.same s2;have ls:=sub.length_le;have R:((I_ d m).map V.str).length =(I_ d m).length:=AB ..;have lr:(k.map V.str).length=k.length:=AB ..;refine⟨_,rfl,T7 (fun c1=>?_) fun c1=>O _ _ (A6 rfl (q l _ c G2 Y s2.sm j (fun y g=>sub.subset g) (nd.sublist sub) (by omega) L2))⟩;have hne:0<k.length:=by
   cases k with
   | nil=>exact absurd c1 (by decide)
   | cons a b=>exact Nat.succ_pos _
  have C:p≠l:=B2 hL.get Y;have S:p≠D:=fun e=>by
   obtain⟨_,_,U,_⟩:=L2;rw[e,x]at U;have U:=HO.lst.inj (BE U);cases k with
   | nil=>cases U
   | cons a b=>cases(GX U).1
  refine A6 rfl ⟨.inl ⟨rfl,_,IA.of j⟩,A6 rfl (A6 rfl (B9 (a:=l) rfl (.inl (IA.of j)) (B9 rfl rfl (X0 (a:=p) rfl L2 (by omega) (by rw[R];omega) (by rw[R];omega) fun W H3 hd1 k3 L3=>?_))))⟩;rw[R]at hd1;have el3:=JQ k3 j C.symm;have X:=JQ k3 x S.symm;refine A6 rfl (A6 rfl (A6 rfl (B9 (a:=D) rfl (.inl (IA.of X)) (X0 (a:=p) rfl L3 (by omega) (by rw[lr];omega) (by rw[lr];omega) fun d2 H4 hd2 k4 L4=>?_))));rw[lr]at hd2;have el4:=JQ k4 el3 C.symm;have eD4:=JQ k4 X S.symm;have h2:d2<k.length:=by omega
  have g:=AC h2;generalize k[d2]=y at g;obtain⟨y1,y2⟩:=t y (AK g);refine⟨D,_,B9 rfl rfl ⟨IA.of eD4,E7 (show(k.map V.str)[d2]?=some (.str y) by rw[AH,g];rfl),?_⟩⟩;refine⟨l,_,_,W,A6 rfl ⟨rfl,rfl,el4,by rw[R];omega,by rw[R,sizeLine_eq];omega,?_⟩⟩;have pm:((I_ d m).take W++y ::(I_ d m).drop W).Perm (y::I_ d m):=List.perm_middle.trans (by rw[BR]);refine O _ _ (A6 rfl (q l ((I_ d m).take W++y ::(I_ d m).drop W) (c+1+1) _ Y ((s2.sm.trans (k3.trans k4)).updN Y) ?_ (fun z I=>?_) ?_ (by omega) (L4.upd C)))
  .rw[A9,AO,A_,HU,List.map_drop]
  .rcases AR.mp (pm.mem_iff.mp I)with e | e
   .rw[e];exact y1
   .exact sub.subset e
  .rw[pm.nodup_iff];exact CQ.mpr ⟨y2,nd.sublist sub⟩
theorem zCs(d:Nat)(h:d<6):∃n:Nat,n<=4/\PL [V.int 0,V.int 1,V.int 1,V.int 2,V.int 3,V.int 4] (d:Int)=some (.int (n:Int)):=by
 suffices ∃n:Nat,n<=4/\[V.int 0,V.int 1,V.int 1,V.int 2,V.int 3,V.int 4][d]?=some (.int (n:Int)) by
  obtain⟨n,a,e⟩:=this;exact⟨n,a,E7 e⟩
 match d,h with
 | 0,_=>exact⟨0,by omega,rfl⟩
 | 1,_=>exact⟨1,by omega,rfl⟩
 | 2,_=>exact⟨1,by omega,rfl⟩
 | 3,_=>exact⟨2,by omega,rfl⟩
 | 4,_=>exact⟨3,by omega,rfl⟩
 | 5,_=>exact⟨4,by omega,rfl⟩
theorem KW:HY ["_law_left_here", "_law_names_here", "_law_rest", "_law_some_here", "_law_k"] ["_law_left_here", "_law_names_here"] (B7 OL):=KI
def Xt(K:PySem.W.Frag):Sp:=fun g H Q _=>∃(p n:A3) (c:Int) (d:A1 Str),g = [.ref p,.ref n]/\II H p c/\c<=800000/\H n=some (.lst (d.map V.str))/\JY d/\d.length<=12 /\
 ∀a (e:A1 Str) f b,H a=none->Sm [p] H b->QE K b a (e.map V.str)->b a≠none->(∀y∈e,y∈d)->e.Nodup->f<=c+6->II b p f->Q (.ref a) b
theorem Ip(T:Tx K mg):IG P w K mg base IW 3 T.bc.f T.bc.fd ["_law_left_here", "_law_names_here"] (Xt K):=by
 refine T.bc.F.o1 KW fun cdv A outer s H vs Q E B h=>?_
 .obtain⟨p,n,c,C,rfl,hL,hc,en,hN,l12,q⟩:=h;refine⟨_,(B3 (C6 (i:=2) KW.nd rfl (.inl rfl) (q9 (Ao K) T.aX X4 (A8 (pv 1) B1)))
   (B3 (C6 (i:=3) KW.nd rfl (.inl rfl) (I9 B1))
   (@B3 _ _ _ _ _ (@O4 _ _ _ _ _ _ _ _ PassesOwn.never rfl (Yk T.aQ (@A8 _ _ _ _ _ (@D4 _ _ _ _ _ _ _ (KR K) (@I9 _ _ _ _ (@A8 _ _ _ _ _ B4 (@A8 _ _ _ _ _ B4 (@A8 _ _ _ _ _ B4 (@A8 _ _ _ _ _ B4 (@A8 _ _ _ _ _ B4 (@A8 _ _ _ _ _ B4 B1 (by rfl)) (by rfl)) (by rfl)) (by rfl)) (by rfl)) (by rfl))) (C9 T.ak (D8 T) (Rm B) (A8 (pv 0) (A8 B4 B1))) (fun _ _=>rfl)) B1 (by rfl))) (D0 (i:=4) KW.nd rfl (.inl rfl))
   (B5 (I0 (C2 (Yd K B.units) (pv 2) (I9 B1) (D6 _)) (B5 (J9 (Bs K PySem.F.plainAttrs_list PySem.F.slot_list_append PySem.F.type_list_append M6 (pv 3) (A8 (Bs K PySem.F.plainAttrs_list PySem.F.slot_list_pop PySem.F.type_list_pop Kv (pv 2) (A8 (C9 T.ak (D8 T) (Rm B) (A8 (pv 0) (A8 (G0 (N9 K) T.aq K9 (A8 (pv 2) B1)) B1))) B1)) B1)))) C5)) (fun _=>rfl))
   (B5 (C1 (D4 (KR K) (I9 (A8 (pv 3) (A8 (q9 (Kg K) T.a9 Z0 (A8 (pv 3) B1)) B1))) (C9 T.ak (D8 T) (Rm B) (A8 (pv 0) (A8 B4 B1))) (fun _ _=>rfl))))))),?_⟩
  refine B8 fun N1 hN1=>?_;refine A6 rfl ⟨n,_,rfl,.inl (IA.of en),fun r B=>?_⟩;have L:p≠r:=B2 hL.get B;have s1:=F8.new (o:=.lst (C.map V.str)) B;refine hN1 _ _ (B8 fun N2 hN2=>?_);refine⟨CI _,fun b hb=>?_⟩;have M:H b=none:=s1.free hb;have m:p≠b:=B2 hL.get M;have N:r≠b:=B2 A9 hb;have R:=s1.trans (F8.new (o:=.lst []) hb);have er:(HX (HX H r (.lst (C.map V.str))) b (.lst [])) r=some (.lst (C.map V.str)):=by rw[B6 N,A9]
  have k:(HX (HX H r (.lst (C.map V.str))) b (.lst [])) b=some (.lst []):=A9;generalize HX (HX H r (.lst (C.map V.str))) b (.lst [])=H2 at R er k⊢;refine hN2 _ _ (B8 fun N3 hN3=>?_);refine⟨by show 6<=sizeLine;decide,fun t ht=>?_⟩;have S:=F8.new (o:=.lst [.int 0,.int 1,.int 1,.int 2,.int 3,.int 4]) ht;have u:p≠t:=B2 (hL.same R).get ht;refine A6 rfl (X0 (a:=p) (b:=c) rfl (hL.same (R.trans S)) (by omega) (by decide) (by decide) fun d H3 hd O L3=>?_);obtain⟨U,o1,eo⟩:=zCs d (by omega);refine⟨t,_,B9 rfl rfl ⟨IA.of (JQ O A9 u.symm),eo,?_⟩⟩;refine A6 (a:=(U:Int)) rfl ⟨by omega,by omega,?_⟩;rw[CS];have er:=JQ O (S _ _ er) L.symm;have k:=JQ O (S _ _ k) m.symm;have O:=(R.trans S).sm.trans O;clear S ht u R s1;refine Q2 (fun i σ G=>(∃v4,σ = [some (.ref p),some (.ref n),some (.ref r),some (.ref b),v4])/\Sm [p] H G/\(∃D,D<=c+1+i/\II G p D)/\∃e g:A1 Str,G r=some (.lst (e.map V.str))/\G b=some (.lst (g.map V.str))/\(e++g).Perm C) ?_ ?_ ?_
  .exact⟨⟨_,rfl⟩,O,⟨_,by omega,L3⟩,C,[],er,k,by rw[CH]⟩
  .rintro i σ G hi ⟨⟨v4,rfl⟩,I,⟨D,hc',l⟩,e,g,er,k,J⟩ D1 W _;have lp:=J.length_eq;rw[AU]at lp;have lr:(e.map V.str).length=e.length:=AB ..;have nm:∀y∈e,R8 y=true:=fun y hy=>hN.1 y (J.mem_iff.mp (EQ _ hy));refine A6 rfl ⟨CI _,fun z hz=>⟨sd e,.list [],Ri (IA.of ((F8.new hz) _ _ er)),by simp only[Rp,OG];exact⟨z,_,rfl,IA.of A9,rfl⟩,Rf nm,⟨rfl,by simp[PyData.depth,PyData.depthAll]⟩,?_⟩⟩;rw[Li];have uz:=F8.new (o:=.lst []) hz;have er:=uz _ _ er;have k:=uz _ _ k;have l:=l.same uz;have I:=I.trans uz.sm;generalize HX G z (.lst [])=G1 at er k l I⊢;refine⟨_,rfl,T7 (fun c1=>?_) fun c1=>W _ _ ⟨⟨_,rfl⟩,I,⟨D,by omega,l⟩,e,g,er,k,J⟩⟩;have hne:0<e.length:=by
    cases e with
    | nil=>exact absurd c1 (by decide)
    | cons a b=>exact Nat.succ_pos _
   refine A6 rfl ⟨.inl ⟨rfl,_,IA.of k⟩,A6 rfl ⟨.inl ⟨rfl,_,IA.of er⟩,A6 rfl (A6 rfl (B9 (a:=r) rfl (.inl (IA.of er)) (X0 (a:=p) (b:=D) rfl l (by omega) (by omega) (by omega) fun d H2 hd k2 L2=>?_)))⟩⟩;rw[lr]at hd;have X:d<e.length:=by omega
   have hx:=AC X;generalize e[d]=x at hx;have er2:=JQ k2 er L.symm;have eb2:=JQ k2 k m.symm;refine⟨r,_,_,d,.str x,rfl,rfl,er2,by omega,by omega,six (by rw[lr];exact X),by rw[AH,hx];rfl,b,B9 rfl rfl ⟨by rw[B6 N.symm];exact eb2,by rw[AB,sizeLine_eq];omega,?_⟩⟩;refine W _ _ ⟨⟨_,rfl⟩,?_,⟨D+1,by omega,?_⟩,e.eraseIdx d,g ++ [x],?_,?_,Lj J hx⟩
   .exact((I.trans k2).updN B).updN M
   .exact(L2.upd L).upd m
   .rw[B6 N,A9,Au]
   .rw[A9,AO];rfl
  .rintro σ G ⟨⟨v4,rfl⟩,I,⟨D,hc',l⟩,e,g,er,k,J⟩;refine hN3 _ _ ?_;have lp:=J.length_eq;rw[AU]at lp;have sub:∀y∈g,y∈C:=fun y hy=>J.mem_iff.mp (BK _ hy);have nd:g.Nodup:=(D_.mp (J.nodup_iff.mpr hN.2.1)).2.1;refine A6 rfl (A6 rfl ⟨b,_,rfl,.inl ⟨IA.of k,fun tu v=>?_⟩⟩);have u1:=F8.new (o:=.tup (g.map V.str)) v;have Y:H tu=none:=I.none (fun y=>B2 l.get v (AF.mp y).symm) v;refine⟨by show 2<=sizeLine;decide,fun ls Z=>?_⟩;have u2:=F8.new (o:=.lst [.ref b,.ref tu]) Z;have npl:p≠ls:=B2 ((l.same u1).get) Z;have u:p≠tu:=B2 l.get v;refine A6 rfl (X0 (a:=p) (b:=D) rfl (l.same (u1.trans u2)) (by omega) (by decide) (by decide) fun d H5 hd k5 L5=>?_);have eb5:=JQ k5 (u2 _ _ (u1 _ _ k)) m.symm;have et5:=JQ k5 (u2 _ _ A9) u.symm;have k6:=(I.trans (u1.trans u2).sm).trans k5;rcases(show d=0\/d=1 by omega)with rfl | rfl
   .exact⟨ls,_,B9 rfl rfl ⟨IA.of (JQ k5 A9 npl.symm),E7 (j:=0) rfl,q b g _ H5 M k6 (.inl (IA.of eb5)) (by rw[eb5];intro z;cases z) sub nd (by omega) L5⟩⟩
   .exact⟨ls,_,B9 rfl rfl ⟨IA.of (JQ k5 A9 npl.symm),E7 (j:=1) rfl,q tu g _ H5 Y k6 (.inr (IZ.of et5)) (by rw[et5];intro z;cases z) sub nd (by omega) L5⟩⟩
end
def IV.up{ns:A1 Str}{A B:A1 Nat}{L:Nat}{H:Hp}:∀{k a m:Nat} {r:A3},k<=a->IV ns A B L H k m r->IV ns A B L H a m r
 | 0,_,_,_,_,h=>h.elim
 | k+1,0,_,_,c,_=>absurd c (Nat.not_succ_le_zero _)
 | k+1,a+1,m,r,c,h=>h.imp id fun⟨x,d,l,b,e,f,g,h⟩=>⟨x,d,l,b,e,f,g,fun i j n o p=>(h i j n o p).up (Nat.le_of_succ_le_succ c)⟩
def QS(ns:A1 Str)(A B:A1 Nat)(L:Nat):Nat->Nat->PyData
 | 0,_=>.none
 | k+1,m=>if pB (P4 B m)=true then .tuple [.str "clash",.str (RK ns A B m),.str (RS ns B m)]else .tuple [.str "answer",.str (SA ns B m (OF ns A B L m)),.str (SM ns (OF ns A B L m)),.tuple ((U3 ns A B L m).map fun j=>QS ns A B L k (m ||| 2^j))]
def Wk{K:PySem.W.Frag}{H:Hp}:∀{ds:A1 PyData} {a:A1 A3},a.length=ds.length->(∀(i:Nat) d r,ds[i]?=some d->a[i]?=some r->Rp K H d (.ref r))->OG K H ds (a.map V.ref)
 | [],[],_,_=>by simp[OG]
 | [],_::_,h,_=>by cases h
 | _::_,[],h,_=>by cases h
 | d::ds,r::a,h,q=>by
  rw[A_];simp only[OG];exact⟨_,_,rfl,q 0 d r rfl rfl,Wk (HM h) fun i d r b c=>q (i+1) d r b c⟩
def Of{K:PySem.W.Frag}{ns:A1 Str}{A B:A1 Nat}{L:Nat}{H:Hp}:∀{k m:Nat} {r:A3},IV ns A B L H k m r->Rp K H (QS ns A B L k m) (.ref r)
 | 0,_,_,h=>h.elim
 | k+1,m,r,.inl ⟨c,e⟩=>by
  unfold QS;rw[AL (MJ.mpr c)];simp only[Rp,OG];exact⟨r,_,rfl,IZ.of e,_,_,rfl,rfl,_,_,rfl,rfl,_,_,rfl,rfl,rfl⟩
 | k+1,m,r,.inr ⟨c,_,l,q,b,f,g,h⟩=>by
  unfold QS;rw[AJ fun z=>c (MJ.mp z)];simp only[Rp,OG];refine⟨r,_,rfl,IZ.of b,_,_,rfl,rfl,_,_,rfl,rfl,_,_,rfl,rfl,_,_,rfl,⟨l,_,rfl,IZ.of f,Wk (by rw[g,AB]) fun i d n a o=>?_⟩,rfl⟩;rw[AH]at a;obtain⟨j,p,rfl⟩:=BC.mp a;exact Of (h i j n p o)
def zBz{ds:A1 PyData}{k:Nat}(h:∀d∈ds,d.canLay0=true/\d.depth<=k):PyData.canLayAll0 ds=true/\PyData.depthAll ds<=k:=by
 induction ds with
 | nil=>exact⟨rfl,by simp[PyData.depthAll]⟩
 | cons d ds f =>
  obtain⟨a,b⟩:=h d (.head _);obtain⟨c,e⟩:=f fun d g=>h d (.tail _ g);rw[PyData.canLayAll0,PyData.depthAll,a,c];exact⟨rfl,by omega⟩
def w8{ns:A1 Str}(h:∀y∈ns,R8 y=true)(m:Nat):PySem.PyData.strOk (Q3 ns m)=true:=by
 unfold Q3;cases e:I_ ns m with
 | nil=>decide +kernel
 | cons x r=>exact y6 (h x ((Hi ns m).subset (by rw[e];exact .head _)))
def Oz{ns:A1 Str}{A B:A1 Nat}{L:Nat}(h:∀y∈ns,R8 y=true):∀(k m:Nat),(QS ns A B L k m).canLay0=true/\(QS ns A B L k m).depth<=2*k+1
 | 0,m=>by unfold QS;exact⟨by rw[PyData.canLay0],by rw[PyData.depth];decide⟩
 | k+1,m=>by
  unfold QS;split
  .refine⟨?_,?_⟩
   .have a:=w8 h (A.getD (zDa (Ui ns B m)) 0 &&& m);have b:=w8 h (Ui ns B m);unfold RK RS;simp only[PyData.canLay0,PyData.canLayAll0,a,b];decide +kernel
   .simp only[PyData.depth,PyData.depthAll];omega
  .obtain⟨x,y⟩:=zBz (ds:=(U3 ns A B L m).map fun j=>QS ns A B L k (m ||| 2^j)) (k:=2*k+1) fun d c=>by
    obtain⟨j,_,rfl⟩:=AV.mp c;exact Oz h k _
   refine⟨?_,?_⟩
   .have a:=w8 h (B.getD (OF ns A B L m) 0 &&& m);have b:=w8 h (2^OF ns A B L m);unfold SA SM;simp only[PyData.canLay0,PyData.canLayAll0,a,b,x];decide +kernel
   .simp only[PyData.depth,PyData.depthAll];omega
def KP(H H':Hp):Prop:=∀b o,H b=some o->(∀a,o≠ .tbl a)->H' b=some o
def KP.of{H H':Hp}{a:A3}{ls:A1 (Pos×Str)}(t:J7 H a ls)(k:Sm [a] H H'):KP H H':=fun b o e n=>k b o e fun z=>by
 obtain⟨c,d,_⟩:=t;rw[AF.mp z,d]at e;cases e;exact n c rfl
def KP.trans{H H' c:Hp}(a:KP H H')(b:KP H' c):KP H c:=fun x o e n=>b x o (a x o e n) n
def KP.same{H H':Hp}(a:F8 H H'):KP H H':=fun x o e _=>a x o e
def KP.web{C:A3}{H H':Hp}{x:A3}{ns:A1 Str}{g:A1 JF}(k:KP H H')(h:JX C H x ns g):JX C H' x ns g:=by
 obtain⟨i,j,a,b,c,d,m,o,p,r,s,t,u,w,y,A⟩:=h;exact⟨i,j,a,b,c,d,m,o,k _ _ p (fun _ z=>by cases z),k _ _ r (fun _ z=>by cases z),k _ _ s (fun _ z=>by cases z),fun q B=>k _ _ (t q B) (fun _ z=>by cases z),k _ _ u (fun _ z=>by cases z),k _ _ w (fun _ z=>by cases z),fun n f=>let⟨l,v,e⟩:=y n f;⟨l,v,k _ _ e (fun _ z=>by cases z)⟩,fun n f=>let⟨l,v,e⟩:=A n f;⟨l,v,k _ _ e (fun _ z=>by cases z)⟩⟩
def KP.view{H H':Hp}{p v:A3}{ns:A1 Str}{ks:A1 (Str×Str)}{A B:A1 Nat}(k:KP H H')(h:IU H p v ns ks A B):IU H' p v ns ks A B:=by
 obtain⟨⟨a,b,c,d,e,f,g,i,j,l,m⟩,n,o⟩:=h;exact⟨⟨a,b,c,k _ _ d (fun _ z=>by cases z),k _ _ e (fun _ z=>by cases z),k _ _ f (fun _ z=>by cases z),k _ _ g (fun _ z=>by cases z),i,j,l,m⟩,n,o⟩
def KP.sqs{K:PySem.W.Frag}{H H':Hp}{a:A3}{xs:A1 V}(k:KP H H')(h:QE K H a xs):QE K H' a xs:=by
 rcases h with((h | ⟨o,h⟩) | h) | ((h | ⟨o,h⟩) | h)
 .exact .inl (.inl (.inl (k _ _ h (fun _ z=>by cases z))))
 .exact .inl (.inl (.inr ⟨o,k _ _ h (fun _ z=>by cases z)⟩))
 .exact .inl (.inr h)
 .exact .inr (.inl (.inl (k _ _ h (fun _ z=>by cases z))))
 .exact .inr (.inl (.inr ⟨o,k _ _ h (fun _ z=>by cases z)⟩))
 .exact .inr (.inr h)
def Qj{H H':Hp}{a:A3}{ls:A1 (Pos×Str)}(k:F8 H H')(t:J7 H a ls):J7 H' a ls:=by
 obtain⟨b,e,t,h⟩:=t;exact⟨b,k _ _ e,t,fun l d=>(h l d).imp id fun⟨c,e,f⟩=>⟨c,e,k _ _ f⟩⟩
def Ii{H:Hp}{p d:A3}{c:Int}{ls:A1 (Pos×Str)}(L:II H p c)(t:J7 H d ls):p≠d:=fun z=>by
 obtain⟨a,b,e,_⟩:=L;obtain⟨g,f,_⟩:=t;rw[z,f]at e;cases e
def Xv{H H':Hp}{p f:A3}{c:Int}{ls:A1 (Pos×Str)}(L:II H p c)(s:Sm [p] H H')(t:J7 H f ls):J7 H' f ls:=by
 have n:=Ii L t;obtain⟨a,b,e,_⟩:=L;obtain⟨g,i,t,h⟩:=t;exact⟨g,JQ s i n.symm,t,fun x j=>(h x j).imp id fun⟨c,k,d⟩=>⟨c,k,JQ s d (fun z=>by rw[z,e]at d;cases d)⟩⟩
structure QY(CW:A3)(H G:Hp)(pt p v m n a x:A3)(ls:A1 (Pos×Str))(ns ss:A1 Str)(ks:A1 (Str×Str))(A B Ms:A1 Nat)(ps qs:A1 JF):Prop where
 h:Sm [pt] H G
 t:J7 G pt ls
 v:IU G p v ns ks A B
 m:G m=some (.lst (Ms.map K8))
 n:G n=some (.lst (ss.map V.str))
 a:G a=some (.lst (K3 ps))
 p:∀q∈ps,E6 G q
 w:JX CW G x ns qs
def QY.kp{d:A3}{H G c:Hp}{b p v m n a x:A3}{ls:A1 (Pos×Str)}{ns ss:A1 Str}{ks:A1 (Str×Str)}{A B e:A1 Nat}{f g:A1 JF}(t:QY d H G b p v m n a x ls ns ss ks A B e f g)(k:Sm [b] G c)(t':J7 c b ls):QY d H c b p v m n a x ls ns ss ks A B e f g:=by
 have kk:=KP.of t.t k;exact⟨t.h.trans k,t',kk.view t.v,kk _ _ t.m (fun _ z=>by cases z),kk _ _ t.n (fun _ z=>by cases z),kk _ _ t.a (fun _ z=>by cases z),fun q i=>kk _ _ (t.p q i) (fun _ z=>by cases z),kk.web t.w⟩
def QY.same{b:A3}{H G c:Hp}{d p v m n a x:A3}{ls:A1 (Pos×Str)}{ns ss:A1 Str}{ks:A1 (Str×Str)}{A B e:A1 Nat}{f g:A1 JF}(t:QY b H G d p v m n a x ls ns ss ks A B e f g)(k:F8 G c):QY b H c d p v m n a x ls ns ss ks A B e f g:=t.kp k.sm (Qj k t.t)
def QY.sm{d:A3}{H G f:Hp}{g p v m n a x:A3}{c:Int}{ls:A1 (Pos×Str)}{ns ss:A1 Str}{ks:A1 (Str×Str)}{A B i:A1 Nat}{j l:A1 JF}(t:QY d H G g p v m n a x ls ns ss ks A B i j l)(L:II G p c)(r:H p=none)(s:m≠p)(k:Sm [p] G f):QY d H f g p v m n a x ls ns ss ks A B i j l :=
 ⟨fun b o e n=>JQ k (t.h b o e n) (B2 e r),Xv L k t.t,t.v.sm k,JQ k t.m s,JQ k t.n (L.ne t.n),JQ k t.a (L.neP t.a),fun q u=>Rb (t.p q u) L k,t.w.sm L k⟩
def zCw{K:PySem.W.Frag}{H H':Hp}{p b:A3}{c:Int}{ss:A1 Str}(L:II H p c)(k:Sm [p] H H')(h:QE K H b (ss.map V.str)):QE K H' b (ss.map V.str):=by
 obtain⟨y,z,a,_⟩:=id L;rcases h with((h | ⟨o,h⟩) | h) | ((h | ⟨o,h⟩) | h)
 .exact .inl (.inl (.inl (JQ k h (L.ne h))))
 .exact .inl (.inl (.inr ⟨o,JQ k h (P2 h a (by intro y;cases y))⟩))
 .exact .inl (.inr h)
 .exact .inr (.inl (.inl (JQ k h (P2 h a (by intro y;cases y)))))
 .exact .inr (.inl (.inr ⟨o,JQ k h (P2 h a (by intro y;cases y))⟩))
 .exact .inr (.inr h)
def Xd{K:PySem.W.Frag}{H:Hp}{D b:A3}{o:HO}{xs:A1 V}(n:b≠D)(h:QE K H b xs):QE K (HX H D o) b xs:=by
 rcases h with((h | ⟨u,h⟩) | h) | ((h | ⟨u,h⟩) | h)
 .exact .inl (.inl (.inl ((B6 n).trans h)))
 .exact .inl (.inl (.inr ⟨u,(B6 n).trans h⟩))
 .exact .inl (.inr h)
 .exact .inr (.inl (.inl ((B6 n).trans h)))
 .exact .inr (.inl (.inr ⟨u,(B6 n).trans h⟩))
 .exact .inr (.inr h)
structure JZ(K:PySem.W.Frag)(ns:A1 Str)(G:Hp)(t:A3×A1 Str):Prop where
 s:QE K G t.1 (t.2.map V.str)
 e:G t.1≠none
 m:∀y∈t.2,y∈ns
 nd:t.2.Nodup
def JZ.kp{K:PySem.W.Frag}{ns:A1 Str}{G a:Hp}{t:A3×A1 Str}(h:JZ K ns G t)(k:F8 G a):JZ K ns a t:=⟨(k.at t.1).seq h.s,fun z=>h.e (k.free z),h.m,h.nd⟩
def JZ.sm{K:PySem.W.Frag}{ns:A1 Str}{G a:Hp}{p:A3}{c b:Int}{t:A3×A1 Str}(h:JZ K ns G t)(L:II G p c)(d:II a p b)(k:Sm [p] G a):JZ K ns a t:=by
 refine⟨zCw L k h.s,fun z=>?_,h.m,h.nd⟩;by_cases e:t.1=p
 .rw[e,d.get]at z;cases z
 .cases g:G t.1 with
  | none=>exact h.e g
  | some o =>
   rw[JQ k g e]at z;cases z
def JZ.upd{K:PySem.W.Frag}{ns:A1 Str}{G:Hp}{D:A3}{o:HO}{t:A3×A1 Str}(h:JZ K ns G t)(n:t.1≠D):JZ K ns (L2.HX G D o) t:=⟨Xd n h.s,by rw[B6 n];exact h.e,h.m,h.nd⟩
def JZ.ne{K:PySem.W.Frag}{ns:A1 Str}{G:Hp}{D:A3}{t:A3×A1 Str}(h:JZ K ns G t)(n:G D=none):t.1≠D:=fun z=>h.e (by rw[z];exact n)
def Yp{J:It}{xs:A1 V}{a:A3}{d:Hp}(as:LP J xs a d){g:TG}{e:TS}{D:Ends}{σ:St}{H:Hp}(Pv:Nat->St->Hp->Prop)(h:Pv 0 σ H)(j:∀i σ H,i<=xs.length->Pv i σ H->JS a d H)
  (k:∀i σ H x,xs[i]?=some x->Pv i σ H->∀b:Ends,(∀σ' H',Pv (i+1) σ' H'->b.nx σ' H')->(∀σ' H',Pv (i+1) σ' H'->b.ct σ' H')->g x σ H fun σ2 c=>e b σ2 c) (l:∀σ H,Pv xs.length σ H->D.nx σ H) :
  ∃W:Nat->Nat->St->Hp->Prop,(∃m,W 0 m σ H)/\∀i m σ H,W i m σ H ->
   (J.stop i H/\D.nx σ H)\/(J.go i H/\∃N:St->Hp->Prop,(∀σ' H',N σ' H'->∃f,f < m/\W (i+1) f σ' H')/\∀x H',J.yld i H x H'->g x σ H' fun σ2 c=>e { D with nx:=N,ct:=N,bk:=D.nx } σ2 c) :=
 Wt as Pv h j (fun i σ H x n o=>k i σ H x n o _ (fun _ _ z=>z) fun _ _ z=>z) l
section
variable{P:A7}{w:HW}{K:PySem.W.Frag}{mg:Str->A5 A2}{base:H_}
theorem KC:HY ["_law_script", "_law_k", "_law_left_here", "_law_names_here", "_law_strikes_here", "_law_view", "_law_masks_here", "_law_web", "_law_asks", "_law_some_here", "_law_mask", "_law_word", "_law_tree"] ["_law_script"] (B7 OB):=KI
def Mi(K:PySem.W.Frag)(b:A3):Sp:=fun c H Q _=>∃(u:A3) (a:A1 Int),c = [.ref u]/\IA K H u (a.map V.int)/\a.length<=63/\J7 H b C0/\∀d,Q (.bl true) d
set_option maxHeartbeats 8000000 in
theorem zCe(T:Tx K mg)(hB:base.BuiltinsAt mg T.aa){f:A3}{fd:IP}(F:PM K "law" "law" OB f fd):IG P w K mg base IW 30 f fd ["_law_script"] (Mi K T.aa):=by
 have C:IG P w K mg base IW 22 T.au.f T.au.fd ["web", "some"] (Rn K T.ah T.aa):=t9 T hB;have J:IG P w K mg base IW 29 T.ai.f T.ai.fd ["_law_view", "_law_sets", "_law_words", "_law_held", "_law_tree"] (w6 K 13):=Lf T 13;refine F.o1 KC fun cdv A outer s H vs Q E R h=>?_
 .obtain⟨u,xs,rfl,hS,hlen,hT,q⟩:=h;refine⟨_,(B3 (O4 PassesOwn.never rfl (Yk T.aQ (A8 (G0 (Tb rfl) T.bI zAq (A8 B4 (A8 (G0 (Pk rfl) T.bz Wa (A8 (G0 (N9 K) T.aq K9 (A8 (pv 0) B1)) (A8 B4 B1))) B1))) B1)) (D0 (i:=1) KC.nd rfl (.inl rfl))
   (B3 (C6 (i:=2) KC.nd rfl (.inr rfl) (C9 T.ba (Il T) (Rm R) (A8 (pv 0) (A8 (pv 1) B1))))
   (B3 (Y3 (C9 T.aT (q0 T) (Rm R) (A8 (pv 2) (A8 (D4 (KR K) (I9 (A8 B4 (A8 B4 B1))) (q9 Bg T.br Rk (A8 (P1 Q8 (pv 1) B4 (D6 _)) B1)) (fun _ _=>rfl)) B1))) (QA K (n:=2) (C8 (D0 (i:=3) KC.nd rfl (.inr rfl)) (C8 (D0 (i:=4) KC.nd rfl (.inl rfl)) M9))))
   (B3 (C6 (i:=5) KC.nd rfl (.inl rfl) (C9 T.a6 (Gc T) (Rm R) (A8 (pv 3) (A8 (pv 4) B1))))
   (B3 (C6 (i:=6) KC.nd rfl (.inl rfl) (C9 T.aI (X6 T) (Rm R) (A8 (pv 5) B1)))
   (B3 (C6 (i:=7) KC.nd rfl (.inl rfl) (Sa T.bH (Hw T) (Rm R) rfl T.bG T.bv .nil M0 (A8 (pv 3) (A8 (pv 4) B1))))
   (B3 (C6 (i:=8) KC.nd rfl (.inl rfl) (C4 Gm (U4 (N':=["_law_turn", "_law_left_here", "_law_names_here"]) (cap:=[none,some 2,some 3]) (cl:=[("_law_names_here",_),("_law_left_here",_)]) (P3 ⟨⟨rfl,rfl,rfl,rfl⟩,⟨⟨rfl,rfl,rfl,rfl⟩,trivial⟩⟩ ⟨rfl,⟨rfl,trivial⟩⟩) rfl (Yk T.aQ (A8 B4 B1)) (fun _ _ _ _=>by exact⟨(MX 0),K1,(C9 T.bc (Ip T) (Rm R) (A8 (pv 1) (A8 (pv 2) B1)))⟩)) (U4 (N':=["_law_name"]) (cap:=[none]) (cl:=[]) (P3 trivial trivial) rfl (OE K (pv 3)) (fun _ _ _ _=>by exact⟨(MX 0),K1,(I9 (A8 (pv 0) B1))⟩))))
   (B3 (J9 (Bs K PySem.F.plainAttrs_list PySem.F.slot_list_append PySem.F.type_list_append M6 (pv 8) (A8 (C9 T.aU (u5 T) (Rm R) (A8 (pv 2) (A8 (pv 5) B1))) B1)))
   (B5 (O4 PassesOwn.never rfl (OE K (pv 8)) (D0 (i:=9) KC.nd rfl (.inl rfl))
   (B3 (C6 (i:=10) KC.nd rfl (.inr rfl) (C9 T.ao (S0 T) (Rm R) (A8 (pv 5) (A8 (pv 9) B1))))
   (B3 (I0 (Q4 (G0 (zCg K) T.bK zAs (A8 (U4 (N':=["_law_one", "_law_mask"]) (cap:=[none,some 10]) (cl:=[("_law_mask",_)]) (P3 ⟨⟨rfl,rfl,rfl,rfl⟩,trivial⟩ ⟨rfl,trivial⟩) rfl (OE K (pv 6)) (fun _ _ _ _=>by exact⟨(MX 0),K1,(P1 Q8 (C4 K5 (pv 1) (Iw Lm (pv 0))) B4 (D6 _))⟩)) B1))) (B5 Hv) C5)
   (B3 (Y3 (C9 T.au C (Rm R) (A8 (pv 7) (A8 (pv 9) B1))) (QA K (n:=2) (C8 (D0 (i:=11) KC.nd rfl (.inl rfl)) (C8 (D0 (i:=12) KC.nd rfl (.inl rfl)) M9))))
   (B3 (I0 (PW.pt (Am (C2 Gw (pv 11) P5 (D6 _)) (Y5 (Q5 (Q4 (C9 T.ai J (Rm R) (@A8 _ _ _ _ _ (pv 5) (@A8 _ _ _ _ _ (I9 B1) (@A8 _ _ _ _ _ (G7 (A8 P5 (A8 P5 B1))) (@A8 _ _ _ _ _ (pv 10) (@A8 _ _ _ _ _ (pv 12) B1 (by rfl)) (by rfl)) (by rfl)) (by rfl)) (by rfl)))))))) (B5 (C1 Y9)) C5)
   (B5 (I0 (C2 (Yd K R.units) (C9 T.au C (Rm R) (A8 (pv 7) (A8 (pv 9) B1))) (G7 (A8 (pv 11) (A8 (pv 12) B1))) (D6 _)) (B5 (C1 Y9)) C5))))))))))))))))
   (B5 (C1 Y9))),?_⟩
  refine B8 fun N0 hN0=>?_;refine⟨_,rfl,u,_,rfl,.inl hS,_,_,rfl,_,_,rfl,?_⟩;have hz:∀l:Int,0<=l->∃z:Nat,(if(if(6:Int)<l then 6 else l) >(3:Int)then(if(6:Int)<l then 6 else l)else 3) =(z:Int)/\z<=6:=fun l h0=>by
   by_cases Y:(6:Int)<l
   .rw[AL Y];exact⟨6,rfl,by decide⟩
   .rw[AJ Y];by_cases h2:l>3
    .rw[AL h2];exact⟨l.toNat,by omega,by omega⟩
    .rw[AJ h2];exact⟨3,rfl,by decide⟩
  obtain⟨z,ez,hz⟩:=hz ((xs.map V.int).length:Int) (by omega);refine A6 (a:=(z:Int)) (congrArg (fun t=>[V.int t]) ez) ⟨by omega,by omega,?_⟩;rw[CS];refine Q2 (fun i σ G=>(∃v1 v2 v3 v4 v5 v6 v7 v8 v9 Z v11 v12,σ = [some (.ref u),v1,v2,v3,v4,v5,v6,v7,v8,v9,Z,v11,v12])/\Sm [T.aa] H G/\J7 G T.aa C0) ⟨⟨_,_,_,_,_,_,_,_,_,_,_,_,rfl⟩,(fun b o e _=>e),hT⟩ ?_ fun σ G _=>hN0 _ _ (q G);rintro i σ F0 hi ⟨⟨v1,v2,v3,v4,v5,v6,v7,v8,v9,Z,v11,v12,rfl⟩,kF,TF⟩ D1 hD1 _;rw[Int.zero_add];have kpF:=KP.of hT kF;have hSF:IA K F0 u (xs.map V.int):=by
   rcases hS with(h | ⟨o,h⟩) | h
   .exact .inl (.inl (kpF _ _ h (fun _ z=>by cases z)))
   .exact .inl (.inr ⟨o,kpF _ _ h (fun _ z=>by cases z)⟩)
   .exact .inr h
  refine Vj fun N1 hN1=>?_;refine A6 rfl (A6 rfl ⟨u,xs,i,rfl,hSF,by omega,fun p H1 hp s1 L1=>?_⟩);refine hN1 _ _ (B8 fun N2 hN2=>?_);refine A6 rfl ⟨by show 2<=sizeLine;decide,fun t0 ht0=>?_⟩;have ut0:=F8.new (o:=.lst [.int 7,.int 10]) ht0;obtain⟨mo,hmo,emo⟩:∃mo:Nat,(mo=7\/mo=10)/\PL [V.int 7,V.int 10] (if decide (V.int (i:Int)=V.int 0)=true then 1 else 0)=some (.int (mo:Int)):=by
   by_cases c0:decide (V.int (i:Int)=V.int 0)=true
   .rw[AL c0];exact⟨10,.inr rfl,E7 (j:=1) rfl⟩
   .rw[AJ c0];exact⟨7,.inl rfl,E7 (j:=0) rfl⟩
  refine A6 rfl ⟨rfl,.inr ⟨_,rfl,t0,_,B9 rfl rfl ⟨IA.of A9,emo,?_⟩⟩⟩;refine⟨p,0,mo,rfl,hmo,L1.same ut0,by decide,fun t n a ss ps c' H2 k2 et e2 NO l12 a2 pin2 O2 hc2 L2=>?_⟩;have s2:F8 F0 H2:=fun b o e=>k2 b o (ut0 _ _ (s1 b o e)) (by simpa using B2 e hp);have hpH:H p=none:=kF.none (fun y=>by
   obtain⟨pp,e,_⟩:=TF;rw[AF.mp y,e]at hp;cases hp) hp
  refine⟨t,_,rfl,IZ.of et,rfl,_,_,rfl,_,_,rfl,rfl,?_⟩;refine hN2 _ _ (B8 fun N3 hN3=>?_);refine A6 rfl (A6 rfl (zEi (a:=n) (b:=a) (c:=ss) (d:=ps) rfl e2 NO a2 pin2 O2 fun v ns A B H4 hv s4 pm srt V4=>?_));have V4:=V4 p _ L2.get;have ln:ns.length<=12:=by rw[pm.length_eq];exact l12
  have nmn:∀y∈ns,R8 y=true:=fun y hy=>NO.1 y (pm.mem_iff.mp hy);have nd:ns.Nodup:=pm.nodup_iff.mpr NO.2.1;have L4:=L2.same s4;refine hN3 _ _ (B8 fun N4 hN4=>?_);refine A6 rfl ⟨p,v,ns,_,A,B,rfl,V4,ln,fun m Ms H5 hm s5 em ndM mm lM=>?_⟩;have nmp:m≠p:=(B2 L4.get hm).symm;have s45:=s4.trans s5;refine hN4 _ _ (B8 fun N5 hN5=>?_);refine A6 rfl (A6 rfl ?_);intro x dx nx ndx nex;have sx:F8 H5 (HX (HX H5 dx (.own x)) x (.ins T.ah dx [])):=fun b o e=>by
   rw[B6 (B2 e nx),B6 (B2 e ndx)];exact e
  refine zEl (a:=x) (b:=dx) (c:=n) (d:=ss) (e:=a) (f:=ps) rfl A9 (sx _ _ (s45 _ _ e2)) NO (sx _ _ (s45 _ _ a2)) (P0 sx (P0 s45 pin2)) O2 fun g qs H6 pn srn pq srq k6 W6=>⟨rfl,?_⟩;have en:g=ns:=Nq srn srt (pn.trans pm.symm);subst en;have s6:F8 H5 H6:=fun b o e=>k6 b o (sx b o e) (by simpa using B2 e nx);have s46:=s45.trans s6;have kp:∀k,k∈ps.map (fun q=>q.2)↔k∈qs.map fun q=>q.2:=fun k=>(pq.map _).mem_iff.symm;have mA':=V4.mA.mono (ks':=(qs.map fun q=>q.2).map fun k=>(k.2,k.1)) fun k=>by rw[AV,AV];exact⟨fun⟨j,h,e⟩=>⟨j,(kp j).mp h,e⟩,fun⟨j,h,e⟩=>⟨j,(kp j).mpr h,e⟩⟩
  have mB':=V4.mB.mono kp;have TR:QY T.ah H H6 T.aa p v m n a x C0 g ss (ps.map fun q=>q.2) A B Ms ps qs:=⟨kF.trans ((s2.trans s46).sm),Qj (s2.trans s46) TF,V4.same (s5.trans s6),s6 _ _ em,s46 _ _ e2,s46 _ _ a2,P0 s46 pin2,W6⟩;have L6:=L2.same s46;refine hN5 _ _ (B8 fun N6 hN6=>?_);have sub:∀y,y∈ss↔y∈g:=fun y=>pm.mem_iff.symm;refine A6 rfl ⟨by decide,by decide,fun D hD=>?_⟩;have nDp:D≠p:=(B2 L6.get hD).symm;refine n9 (n:=3) (fun j σ G=>(∃v0,σ = [v0,some (.ref p),some (.ref n)])/\Sm [p] H6 G/\(∃c,II G p c/\c<=1100+6*j)/\∃W:A1 (A3×A1 Str),G D=some (.lst (W.map fun t=>V.ref t.1))/\(∀t∈W,t.1≠D/\JZ K g G t)/\W.length=j) ⟨⟨_,rfl⟩,(F8.new hD).sm,⟨c',L6.same (F8.new hD),by omega⟩,[],A9,fun t h=>absurd h BN,rfl⟩ (fun j σ G hj _=>hj) (fun σ G _=>Nat.le_refl _) ?_ ?_
  .rintro j σ G y G' N hj ⟨⟨v0,rfl⟩,kG,⟨c,LG,hc⟩,W,eD,aT,lT⟩ ⟨rfl,rfl⟩ hN;rw[Int.zero_add];have TG:=TR.sm L6 hpH nmp kG;refine Cj (A6 rfl (A6 rfl ⟨p,n,c,ss,rfl,LG,by omega,TG.n,NO,l12,fun b rs c2 G2 hb k2 hs hne sb nds hc2 L2=>?_⟩));have eD2:=JQ k2 eD nDp;have nbD:b≠D:=(B2 eD hb).symm;refine⟨_,eD2,by rw[AB,sizeLine_eq];omega,hN _ _ ⟨⟨_,rfl⟩,(kG.trans k2).updN hD,⟨c2,L2.upd nDp.symm,by omega⟩,W ++ [(b,rs)],by rw[A9,AO];rfl,fun t ht=>?_,by rw[AU,lT];rfl⟩⟩;rcases AW.mp ht with h | h
   .obtain⟨Y,h2⟩:=aT t h;exact⟨Y,(h2.sm LG L2 k2).upd Y⟩
   .rw[AF.mp h];exact⟨nbD,JZ.upd ⟨hs,hne,fun y hy=>(sub y).mp (sb y hy),nds⟩ nbD⟩
  rintro σ G ⟨_,kG,⟨c,LG,hc⟩,W,eD,aT,lT⟩;have TG:=TR.sm L6 hpH nmp kG;refine A6 rfl ⟨n,rfl,⟨_,IA.of TG.n⟩,fun D2 hD2=>?_⟩;refine V0 (NR (IA.of TG.n)) (fun j σ G'=>(∃v0,σ = [v0])/\F8 G G'/\∃I:A1 (A3×A1 Str),G' D2=some (.lst (I.map fun t=>V.ref t.1))/\(∀t∈I,t.1≠D2/\JZ K g G' t)/\I.length=j) ⟨⟨_,rfl⟩,F8.new hD2,[],A9,fun t h=>absurd h BN,rfl⟩ (fun j σ G' _ h=>h.2.1.at n) ?_ ?_
  .rintro j σ G' y N hy ⟨⟨v0,rfl⟩,sG,I,e2',aT2,lT2⟩ hN;rw[AH]at hy;obtain⟨x',hx',rfl⟩:=BC.mp hy;have lj:=(AE.mp hx').1;refine Cj (A6 rfl ⟨by show 1<=sizeLine;decide,fun b hb=>?_⟩);have ub:=F8.new (o:=.lst [.str x']) hb;have nbD:b≠D2:=(B2 e2' hb).symm;refine⟨_,ub _ _ e2',by rw[AB,sizeLine_eq];omega,hN _ _ ⟨⟨_,rfl⟩,(sG.trans ub).upd hD2,I ++ [(b,[x'])],by rw[A9,AO];rfl,fun t ht=>?_,by rw[AU,lT2];rfl⟩⟩;rcases AW.mp ht with h | h
   .obtain⟨Y,h2⟩:=aT2 t h;exact⟨Y,(h2.kp ub).upd Y⟩
   .rw[AF.mp h];exact⟨nbD,JZ.upd ⟨.inl (IA.of A9),(by rw[A9];intro z;cases z),fun y hy=>by rw[AF.mp hy];exact(sub x').mp (AK hx'),FV _ _⟩ nbD⟩
  rintro σ2 G2 ⟨_,sG2,I,eD2,aT2,lT2⟩;rw[AB]at lT2;refine⟨D,D2,_,_,rfl,rfl,sG2 _ _ eD,eD2,by rw[AB,AB,sizeLine_eq];omega,fun U hak=>?_⟩;have uk:=sG2.trans (F8.new (o:=.lst ((W.map fun t=>V.ref t.1)++I.map fun t=>V.ref t.1)) hak);have eak:(HX G2 U (.lst ((W.map fun t=>V.ref t.1)++I.map fun t=>V.ref t.1))) U=some (.lst ((W++I).map fun t=>V.ref t.1)):=by rw[A9,AO]
  have aT3':∀t∈W++I,JZ K g G2 t:=fun t ht=>(AW.mp ht).elim (fun h=>(aT t h).2.kp sG2) fun h=>(aT2 t h).2;have aT3:∀t∈W++I,t.1≠U/\JZ K g (HX G2 U (.lst ((W.map fun t=>V.ref t.1)++I.map fun t=>V.ref t.1))) t:=fun t ht=>⟨(aT3' t ht).ne hak,(aT3' t ht).kp (F8.new hak)⟩;have lT3:(W++I).length<=20:=by rw[AU,lT,lT2];omega
  have nakp:U≠p:=(B2 (LG.same sG2).get hak).symm;generalize HX G2 U (.lst ((W.map fun t=>V.ref t.1)++I.map fun t=>V.ref t.1))=G3 at uk eak aT3⊢;have TG3:=TG.same uk;have LG3:=LG.same uk;clear aT3';generalize W++I=X at eak aT3 lT3;have akH6:H6 U=none:=kG.none (fun y=>nakp (AF.mp y)) (sG2.free hak);refine hN6 _ _ (B8 fun N7 hN7=>?_);refine A6 rfl ⟨.inl ⟨rfl,_,IA.of eak⟩,A6 rfl (A6 rfl ⟨p,v,c,g,_,A,B,rfl,LG3,by omega,TG3.v,nd,ln,nmn,fun wl rs c2 G4 hwl k4 ewl sb nds hc2 L4=>?_⟩)⟩;have TG4:=TG3.sm LG3 hpH nmp k4;have eak4:=JQ k4 eak nakp;have nwk:wl≠U:=(B2 eak hwl).symm;refine⟨U,_,_,rfl,rfl,eak4,by rw[AB,sizeLine_eq];omega,?_⟩;have O:(HX G4 U (.lst (X.map (fun t=>V.ref t.1) ++ [V.ref wl]))) U=some (.lst ((X ++ [(wl,rs)]).map fun t=>V.ref t.1)):=by rw[A9,AO];rfl
  have TG5:QY T.ah H (HX G4 U (.lst (X.map (fun t=>V.ref t.1) ++ [V.ref wl]))) T.aa p v m n a x C0 g ss (ps.map fun q=>q.2) A B Ms ps qs:=TR.sm L6 hpH nmp (((kG.trans uk.sm).trans k4).updN akH6);have aT5:∀t∈X ++ [(wl,rs)],JZ K g (HX G4 U (.lst (X.map (fun t=>V.ref t.1) ++ [V.ref wl]))) t:=fun t ht=>by
   rcases AW.mp ht with h | h
   .obtain⟨Y,h2⟩:=aT3 t h;exact(h2.sm LG3 L4 k4).upd Y
   .rw[AF.mp h];exact JZ.upd ⟨.inl (IA.of ewl),(by rw[ewl];intro z;cases z),sb,nds⟩ nwk
  generalize HX G4 U (.lst (X.map (fun t=>V.ref t.1) ++ [V.ref wl]))=H8 at O TG5 aT5⊢;generalize X ++ [(wl,rs)]=tt at O aT5;clear aT3 lT3 TG4 L4 k4 eak4 TG3 LG3 eak uk eD aT lT kG LG TG eD2 aT2 lT2 sG2;have lss:∀{r:A1 Str},(∀y∈r,y∈g)->r.Nodup->r.length<=12:=fun h n=>Nat.le_trans (n.length_le_of_subset h) ln;have net:QO g.length A B:=MB.net mA' mB';have hLM:∀j,(My g.length fun j=>(A.getD j 0).testBit j=true).testBit j=true↔(A.getD j 0).testBit j=true:=fun j=>by
   rw[Y1];exact⟨(·.2),fun h=>⟨(net.lt j j ((net.tr j j).mp h)).1,h⟩⟩
  generalize (My g.length fun j=>(A.getD j 0).testBit j=true)=LM at hLM;refine hN7 _ _ ?_;refine A6 rfl ⟨U,rfl,⟨_,IA.of O⟩,?_⟩;refine Yp (NR (K:=K) (IA.of O)) (fun j σ G=>(∃v9 Z v11 v12,σ = [some (.ref u),some (.int (i:Int)),some (.ref p),some (.ref n),some (.ref a),some (.ref v),some (.ref m),some (.ref x),some (.ref U),v9,Z,v11,v12])/\Sm [T.aa] H8 G/\J7 G T.aa C0) ⟨⟨_,_,_,_,rfl⟩,(fun b o e _=>e),TG5.t⟩ (fun j σ G _ h o e=>by rw[O]at e;cases e;exact KP.of TG5.t h.2.1 _ _ O (fun _ z=>by cases z)) ?_ ?_
  .rintro j σ G y hy ⟨⟨v9,Z,v11,v12,rfl⟩,kG,TG⟩ D2 hD2 hC2;rw[AH]at hy;obtain⟨tb,htb,rfl⟩:=BC.mp hy;have hA:=aT5 tb (AK htb);have kp:=KP.of TG5.t kG;have hb:=kp.sqs hA.s;have TR5:=TG5.kp kG TG;have lrs:=lss hA.m hA.nd;generalize tb.1=b at hb;refine Vj fun M1 hM1=>?_;refine A6 rfl (A6 rfl ⟨p,v,b,g,_,A,B,tb.2,rfl,TR5.v,nd,by omega,hb,hA.m,fun mk lo hm=>?_⟩);refine hM1 _ _ (B8 fun M2 hM2=>?_);have bitE:∀(S:Nat) {M:VK} {G:Hp},M (.bl (pB (Sub mk S))) G->M (.bl (decide (V.int (Builtin.bitAnd (mk:Int) (Builtin.bitNot (S:Int)))=V.int 0))) G:=fun S M G h=>by
    rw[<-Zc (show decide (V.int (Builtin.bitAnd (mk:Int) (Builtin.bitNot (S:Int)))=V.int 0)=true↔Sub mk S from V2 mk S)]at h;exact h
   refine A6 rfl ⟨m,rfl,⟨_,IA.of TR5.m⟩,fun D hD=>Hz (r:=K8) (fun S=>V.bl (pB (Sub mk S))) (NR (IA.of TR5.m)) (fun _=>true) (by omega) hD (fun y _ G sG M hM=>hM G fun b o e=>e) (fun S hS G sG M hM=>A6 rfl (A6 rfl ⟨_,rfl,B9 rfl rfl ⟨rfl,bitE S hM⟩⟩)) fun σ' G1 s1 e1=>⟨D,Ms.map fun S=>pB (Sub mk S),rfl,IA.of (by rw[e1,EW.mpr fun _ _=>rfl,CG];rfl),?_⟩⟩;have k1:=kG.trans s1.sm;have T1:=Qj s1 TG;refine⟨_,rfl,T7 (fun c1=>?_) fun c1=>?_⟩
   .exact hC2 _ _ ⟨⟨_,_,_,_,rfl⟩,k1,T1⟩
   have noS:∀S∈Ms,¬Sub mk S:=fun S hS h=>c1 (HQ.mpr ⟨_,AV.mpr ⟨S,hS,rfl⟩,MJ.mpr h⟩);have hno:∀r,Q0 A B g.length LM 13 mk≠some r:=fun r e=>by
    obtain⟨Y,h2⟩:=Dd net 13 mk r lo e;exact noS r ((mm r).mpr Y) h2
   refine hM2 _ _ (B8 fun M3 hM3=>?_);have TR6:=TR5.same s1;refine A6 rfl (A6 rfl ⟨x,b,g,qs,tb.2,A,B,LM,mk,rfl,TR6.w,ln,(s1.at b).seq hb,hA.m,hA.nd,by omega,TR6.t,mA',mB',hLM,lo,hm,fun r R=>absurd R (hno r),fun hn t l G2 k2 T2 ht et tr=>?_⟩);have TR7:=TR6.kp k2 T2;refine⟨t,_,rfl,IZ.of et,rfl,_,_,rfl,_,_,rfl,rfl,?_⟩;refine hM3 _ _ (B8 fun M4 hM4=>?_);refine A6 rfl ⟨rfl,_,rfl,X1 ?_⟩;refine A6 rfl ⟨CI _,fun e he=>⟨by show 2<=sizeLine;decide,fun wt hwt=>?_⟩⟩;have u2:=(F8.new (o:=.lst []) he).trans (F8.new (o:=.tup [.str "clash",.str "answer"]) hwt);have ew:(HX (HX G2 e (.lst [])) wt (.tup [.str "clash",.str "answer"])) wt=some (.tup [.str "clash",.str "answer"]):=A9;generalize HX (HX G2 e (.lst [])) wt (.tup [.str "clash",.str "answer"])=G3 at u2 ew⊢;have fl:t6 g.length mk<=13:=by unfold t6;omega
   refine A6 rfl (A6 rfl ⟨p,v,e,wt,l,g,_,A,B,LM,mk,rfl,(TR7.same u2).v,nd,ln,net,lo,IZ.of ew,(IV.keep (fun b xs e=>u2 _ _ e) tr).up fl,fun G4 s4=>⟨_,rfl,X1 (hM4 _ _ ?_)⟩⟩);have u4:=u2.trans s4;have TR8:=TR7.same u4;have kp8:=(KP.same s1).trans ((KP.of TR6.t k2).trans (KP.same u4));refine A6 rfl (A6 rfl ⟨x,b,g,qs,tb.2,A,B,LM,mk,rfl,TR8.w,ln,kp8.sqs hb,hA.m,hA.nd,by omega,TR8.t,mA',mB',hLM,lo,hm,fun r R=>absurd R (hno r),fun hn2 t2 l2 G5 k5 T5 ht2 et2 tr2=>?_⟩);refine A6 rfl (A6 rfl ⟨by show 2<=sizeLine;decide,fun t3 ht3=>?_⟩);have u3:=F8.new (o:=.tup [.str "none",.ref l]) ht3;have kt:=KP.of TR8.t k5;have rpN:∀{G:Hp} {t l:A3},G t=some (.tup [.str "none",.ref l])->T8 g A B LM G mk l->Rp K G (.tuple [.str "none",QS g A B LM (t6 g.length mk) mk]) (.ref t):=fun e h=>by
    simp only[Rp,OG];exact⟨_,_,rfl,IZ.of e,_,_,rfl,rfl,_,_,rfl,Of h,rfl⟩
   have pl:Pl (.tuple [.str "none",QS g A B LM (t6 g.length mk) mk]):=by
    obtain⟨Y,h2⟩:=Oz (A:=A) (B:=B) (L:=LM) nmn (t6 g.length mk) mk;refine⟨?_,?_⟩
    .simp only[PyData.canLay0,PyData.canLayAll0,Y];decide +kernel
    .simp only[PyData.depth,PyData.depthAll];omega
   refine Xi (rpN (u3 _ _ et2) (IV.keep (fun b xs e=>u3 _ _ e) tr2)) (rpN A9 (IV.keep (fun b xs e=>u3 _ _ (kt _ _ (u4 _ _ e) (fun _ z=>by cases z))) tr)) pl ⟨_,rfl,X1 ?_⟩;have TE:=(TR8.kp k5 T5).same u3;exact hD2 _ _ ⟨⟨_,_,_,_,rfl⟩,k1.trans (k2.trans (u4.sm.trans (k5.trans u3.sm))),TE.t⟩
  .rintro σ G ⟨⟨v9,Z,v11,v12,rfl⟩,kG,TG⟩;have TE:=TG5.kp kG TG;exact hD1 _ _ ⟨⟨_,_,_,_,_,_,_,_,_,_,_,_,rfl⟩,TE.h,TE.t⟩
end
section
variable{K:PySem.W.Frag}{h:H_}{mg:Str->A5 A2}
theorem QV{us:A1 A2}(h:us.length=1):∃a,us = [a]:=List.length_eq_one_iff.mp h
theorem QI{us:A1 A2}(h:us.length=2):∃a b,us = [a,b]:=by
 cases us with
 | nil=>cases h
 | cons a r=>obtain⟨b,rfl⟩:=QV (HM h);exact⟨a,b,rfl⟩
theorem RG{us:A1 A2}(h:us.length=3):∃a b c,us = [a,b,c]:=by
 cases us with
 | nil=>cases h
 | cons a r=>obtain⟨b,c,rfl⟩:=QI (HM h);exact⟨a,b,c,rfl⟩
theorem R5{us:A1 A2}(h:us.length=4):∃a b c d,us = [a,b,c,d]:=by
 cases us with
 | nil=>cases h
 | cons a r=>obtain⟨b,c,d,rfl⟩:=RG (HM h);exact⟨a,b,c,d,rfl⟩
theorem RZ{us:A1 A2}(h:us.length=5):∃a b c d e,us = [a,b,c,d,e]:=by
 cases us with
 | nil=>cases h
 | cons a r=>obtain⟨b,c,d,e,rfl⟩:=R5 (HM h);exact⟨a,b,c,d,e,rfl⟩
theorem SY{us:A1 A2}(h:us.length=6):∃a b c d e f,us = [a,b,c,d,e,f]:=by
 cases us with
 | nil=>cases h
 | cons a r=>obtain⟨b,c,d,e,f,rfl⟩:=RZ (HM h);exact⟨a,b,c,d,e,f,rfl⟩
def IS{x:Str}{st:IL}{m:A1 Str}{f:A3}{q:A2}{r n:A5 A3}{o:F1 (A5 A2)}{kV i p g ct:A2}(X:K.In h)(G:h.Ns mainGlobals mg)(a:PySem.W.nsIn K mainGlobals x=some (some (.ref f)))
  (l:K.lookup f=some ⟨q,r,.func (PySem.W.fnOf x x (R4 st) (O0 st) (B7 st) .none kV i p n g ct),o⟩) (c:PySem.W.codeIn K g x=true) (k:PySem.W.keepIn K (.ref f)=true)
  (s:∀(kV i p:A2) (n:A5 A3) (g ct:A2) (us:A1 A2),us.length=m.length->bindArgs (PySem.W.fnOf x x (R4 st) (O0 st) (B7 st) .none kV i p n g ct) ⟨us,[]⟩=pure (m.zip us):=by intro _ _ _ _ _ _ us j;first | (obtain rfl:=List.length_eq_zero_iff.mp j;rfl) | (obtain⟨a,rfl⟩:=Sw.QV j;rfl) | (obtain⟨a,b,rfl⟩:=Sw.QI j;rfl) | (obtain⟨a,b,c,rfl⟩:=Sw.RG j;rfl) | (obtain⟨a,b,c,d,rfl⟩:=Sw.R5 j;rfl) | (obtain⟨a,b,c,d,e,rfl⟩:=Sw.RZ j;rfl) | (obtain⟨a,b,c,d,e,f,rfl⟩:=Sw.SY j;rfl)):Fn K mg x st m :=
 ⟨f,_,LT l c k,(LT l c k).binds s,PySem.W.mg_of X G a⟩
def LO{C:A3}{x q:Str}{st:IL}{m:A1 Str}{f:A3}{r:A2}{s n:A5 A3}{o:F1 (A5 A2)}{kV h p g ct:A2}(a:PySem.W.findIn K (.ref C) x=some (some (.ref f)))(i:PySem.W.isFn K (.ref f)=true)
  (l:K.lookup f=some ⟨r,s,.func (PySem.W.fnOf x q (R4 st) (O0 st) (B7 st) .none kV h p n g ct),o⟩) (c:PySem.W.codeIn K g q=true) (k:PySem.W.keepIn K (.ref f)=true)
  (t:∀(kV h p:A2) (n:A5 A3) (g ct:A2) (us:A1 A2),us.length=m.length->bindArgs (PySem.W.fnOf x q (R4 st) (O0 st) (B7 st) .none kV h p n g ct) ⟨us,[]⟩=pure (m.zip us):=by intro _ _ _ _ _ _ us j;first | (obtain rfl:=List.length_eq_zero_iff.mp j;rfl) | (obtain⟨a,rfl⟩:=Sw.QV j;rfl) | (obtain⟨a,b,rfl⟩:=Sw.QI j;rfl) | (obtain⟨a,b,c,rfl⟩:=Sw.RG j;rfl) | (obtain⟨a,b,c,d,rfl⟩:=Sw.R5 j;rfl) | (obtain⟨a,b,c,d,e,rfl⟩:=Sw.RZ j;rfl) | (obtain⟨a,b,c,d,e,f,rfl⟩:=Sw.SY j;rfl)):Mt K C x q st m :=
 ⟨f,_,LT l c k,(LT l c k).binds t,⟨a,i,k⟩⟩
theorem RY{x z:Str}{v:A2}(X:K.In h)(G:h.Ns mainGlobals mg)(a:PySem.W.nsIn K mainGlobals x=some (some v))(e:∃t,v = .str z t):∃t,mg x=some (.str z t):=by
 obtain⟨t,rfl⟩:=e;exact⟨t,PySem.W.mg_of X G a⟩
theorem R6{x:Str}{z:Int}{v:A2}(X:K.In h)(G:h.Ns mainGlobals mg)(a:PySem.W.nsIn K mainGlobals x=some (some v))(e:∃t,v = .int z t):∃t,mg x=some (.int z t):=by
 obtain⟨t,rfl⟩:=e;exact⟨t,PySem.W.mg_of X G a⟩
def zBl(vs:F1 A2)(c p:A3):Bool:=decide (vs[11]?=some (.ref p)) &&(match vs.getD 18 .none with | .str _ _=>true | _=>false) &&(match vs.getD 7 .none with | .int _ _=>true | _=>false) &&(match vs.getD 9 .none with | .bool _=>true | _=>false) &&(match vs.getD 10 .none with | .int _ _=>true | _=>false)&&decide (c≠p)&&decide (mainGlobals≠p)
theorem RX{c p:A3}{y:A5 A3}{vs:F1 A2}{z:F1 (A5 A2)}(l:K.lookup c=some ⟨.type "code",y,.fields vs,z⟩)(A:vs.getD 11 .none = .ref p)(e:zBl vs c p=true):TabAt K mg c p:=by
 unfold zBl at e;simp only[BH,decide_eq_true_eq]at e;obtain⟨⟨⟨⟨⟨⟨i,f⟩,w⟩,x⟩,h⟩,j⟩,m⟩:=e;have b:∃a t,vs.getD 18 .none = .str a t:=by cases q:vs.getD 18 .none<;>rw[q]at f<;>first | exact⟨_,_,rfl⟩ | cases f
 have n:∃a t,vs.getD 7 .none = .int a t:=by cases q:vs.getD 7 .none<;>rw[q]at w<;>first | exact⟨_,_,rfl⟩ | cases w
 have o:∃a,vs.getD 9 .none = .bool a:=by cases q:vs.getD 9 .none<;>rw[q]at x<;>first | exact⟨_,rfl⟩ | cases x
 have d:∃a t,vs.getD 10 .none = .int a t:=by cases q:vs.getD 10 .none<;>rw[q]at h<;>first | exact⟨_,_,rfl⟩ | cases h
 obtain⟨r,s,b⟩:=b;obtain⟨B,C,n⟩:=n;obtain⟨D,o⟩:=o;obtain⟨u,v,d⟩:=d;exact⟨fun g k=>⟨_,vs,r,s,B,C,D,u,v,k _ _ l,rfl,rfl,i,A,b,n,o,d,j⟩,m⟩
theorem JE{C:A3}{f:Str}(h:PySem.W.findIn K (.ref C) f=some none):JJ K C f:=h
end
def SB{l:PySem.W.OpenLaw}{w:HW}{K:PySem.W.Frag}{h:H_}{mg:Str->A5 A2}{n f d:A3}{u:A2}{x q:A5 A3}{i:F1 (A5 A2)}{kV g r b ct:A2}(X:K.In h)(G:h.Ns mainGlobals mg)(j:mg "law" = some (.ref n))
  (T:Tx K mg) (a:PySem.W.nsIn K mainGlobals "law" = some (some (.ref f))) (lk:K.lookup f=some ⟨u,x,.func (PySem.W.fnOf "law" "law" (R4 OB) (O0 OB) (B7 OB) .none kV g r q b ct),i⟩) (c:PySem.W.codeIn K b "law" = true) (k:PySem.W.keepIn K (.ref f)=true) (ep:T.aa=d) (y:K.lookup d=none) :
  (∀p∈[d],isCodeTable h p)/\(∀p∈[d],K.lookup p=none)/\∃t:IP,(∀(s:A4) (v:A2),BindsTo s t ⟨[v],[]⟩ [("_law_script",v)])/\∀base:H_,K.In base->base.Ns mainGlobals mg->(∀p∈[d],base.BuiltinsAt mg p)->IG l.prog w K mg base IW 30 n t ["_law_script"] (Mi K d):=by
 subst ep;have e:=j.symm.trans (PySem.W.mg_of X G a);cases e;refine⟨fun p m=>?_,fun p m=>by rw[AF.mp m];exact y,PySem.W.fnOf "law" "law" (R4 OB) (O0 OB) (B7 OB) .none kV g r q b ct,fun s v=>.of_eq rfl,fun base _ _ z=>zCe T (z _ (AF.mpr rfl)) (LT lk c k)⟩;obtain⟨o,A,_,_,_,_,_,_,_,B,C,D,E,_⟩:=T.bg.hd h X;rw[AF.mp m];exact⟨_,o,A,B,C,D,E⟩
def walk{l:PySem.W.OpenLaw}{q:A7}{c:A1 Str}{o:(Str->A5 A2)->H_->Prop}{e:HW->H_->Prop}{d:DefRec}{K:Params->PySem.W.Frag}{b:A3}(r:l.most=some 63)(g:d.params.defaults = [])
  (t:∀(w:HW) (h:H_),e w h->(K w.params).In h) (i:∀(w:HW) (h:H_),e w h->∀p∈[b],h.get? p=some (PySem.W.tabObj #[]))
  (F:∀(w:HW) (mg:Str->A5 A2) (j:A3) (h:H_),(K w.params).In h->h.Ns mainGlobals mg->mg d.name=some (.ref j) ->
   (∀p∈[b],isCodeTable h p)/\(∀p∈[b],(K w.params).lookup p=none)/\∃m:IP,(∀(s:A4) (u:A2),BindsTo s m ⟨[u],[]⟩ [("_law_script",u)])/\∀base:H_,(K w.params).In base->base.Ns mainGlobals mg->(∀p∈[b],base.BuiltinsAt mg p)->IG l.prog w (K w.params) mg base IW 30 j m ["_law_script"] (Mi (K w.params) b)) :
  PySem.W.WalkO q c o e l.row.toRowW d [] (fun f vs=>PySem.call f vs) :=
 L2.QQ (n:=63) (k:=30) (x := "_law_script") (ts:=[b]) (sp:=fun w=>Mi (K w.params) b) r (by decide) g ⟨rfl,by decide,by decide⟩ t i F (fun _ _ a v y z A=>⟨a,v,rfl,A,y,⟨#[],z b (AF.mpr rfl),trivial,fun _ _=>.inl rfl⟩,fun _=>rfl⟩)
end Sw
open PySem PySem.W PyProof.Rows
set_option maxRecDepth 100000 in
set_option maxHeartbeats 0 in
theorem PySem.Challenge.cw_strikeweave_k31_trees_of_none_holds : PySem.Challenge.rw_strikeweave_k31_trees_of_none.Holds := by
 w_on;o_law;k_head;(case hw=>w_witness2)
 k_fill
 refine Sw.walk (l:=PySem.Challenge.rw_strikeweave_k31_trees_of_none) rfl rfl (fun w h Y=>PySem.W.km_in_of Y) (fun w h Y=>PySem.W.km_tabs_of Y) ?F
 case F =>
  intro w mg fa h KX G hmg;refine' Sw.SB KX G hmg (Sw.Tx.mk (Sw.IS KX G ?a1 ?l2 ?c3 ?k4)
   (Sw.IS KX G ?a5 ?l6 ?c7 ?k8)
   (Sw.IS KX G ?a9 ?l10 ?c11 ?k12)
   (Sw.IS KX G ?a13 ?l14 ?c15 ?k16)
   (Sw.IS KX G ?a17 ?l18 ?c19 ?k20)
   (Sw.IS KX G ?a21 ?l22 ?c23 ?k24)
   (Sw.IS KX G ?a25 ?l26 ?c27 ?k28)
   (Sw.IS KX G ?a29 ?l30 ?c31 ?k32)
   _
   _
   (Sw.RX ?l34 ?r35 ?r36)
   ?r33
   (Sw.IS KX G ?a37 ?l38 ?c39 ?k40)
   (Sw.IS KX G ?a41 ?l42 ?c43 ?k44)
   (Sw.IS KX G ?a45 ?l46 ?c47 ?k48)
   (Sw.IS KX G ?a49 ?l50 ?c51 ?k52)
   (Sw.IS KX G ?a53 ?l54 ?c55 ?k56)
   (Sw.IS KX G ?a57 ?l58 ?c59 ?k60)
   (Sw.IS KX G ?a61 ?l62 ?c63 ?k64)
   (Sw.IS KX G ?a65 ?l66 ?c67 ?k68)
   (Sw.IS KX G ?a69 ?l70 ?c71 ?k72)
   (Sw.IS KX G ?a73 ?l74 ?c75 ?k76)
   (Sw.IS KX G ?a77 ?l78 ?c79 ?k80)
   (Sw.IS KX G ?a81 ?l82 ?c83 ?k84)
   (Sw.IS KX G ?a85 ?l86 ?c87 ?k88)
   (Sw.IS KX G ?a89 ?l90 ?c91 ?k92)
   (Sw.IS KX G ?a93 ?l94 ?c95 ?k96)
   (Sw.IS KX G ?a97 ?l98 ?c99 ?k100)
   (Sw.IS KX G ?a101 ?l102 ?c103 ?k104)
   (Sw.IS KX G ?a105 ?l106 ?c107 ?k108)
   (Sw.IS KX G ?a109 ?l110 ?c111 ?k112)
   (Sw.IS KX G ?a113 ?l114 ?c115 ?k116)
   (Sw.IS KX G ?a117 ?l118 ?c119 ?k120)
   (Sw.IS KX G ?a121 ?l122 ?c123 ?k124)
   (Sw.IS KX G ?a125 ?l126 ?c127 ?k128)
   (Sw.IS KX G ?a129 ?l130 ?c131 ?k132)
   (Sw.IS KX G ?a133 ?l134 ?c135 ?k136)
   (Sw.IS KX G ?a137 ?l138 ?c139 ?k140)
   (Sw.IS KX G ?a141 ?l142 ?c143 ?k144)
   (Sw.IS KX G ?a145 ?l146 ?c147 ?k148)
   (Sw.IS KX G ?a149 ?l150 ?c151 ?k152)
   (Sw.IS KX G ?a153 ?l154 ?c155 ?k156)
   _
   ⟨?g158,?g159,?g160,?g161⟩
   (PySem.W.mg_of KX G ?q157)
   (Sw.JE ?n162)
   (Sw.JE ?n163)
   (Sw.JE ?n164)
   (Sw.JE ?n165)
   (Sw.JE ?n166)
   (Sw.JE ?n167)
   _
   _
   (L2.LT ?l170 ?c171 ?k172)
   (L2.PM.binds (L2.LT ?l170 ?c171 ?k172) (fun _ _ _ _ _ _ us hl=>by obtain⟨a,b,rfl⟩:=Sw.QI hl;rfl))
   ⟨?g173,?a168,?i169,?k174⟩
   (Sw.LO ?a175 ?i176 ?l177 ?c178 ?k179)
   (Sw.LO ?a180 ?i181 ?l182 ?c183 ?k184)
   (Sw.LO ?a185 ?i186 ?l187 ?c188 ?k189)
   (Sw.LO ?a190 ?i191 ?l192 ?c193 ?k194)
   (Sw.LO ?a195 ?i196 ?l197 ?c198 ?k199)
   (Sw.LO ?a200 ?i201 ?l202 ?c203 ?k204)
   (Sw.LO ?a205 ?i206 ?l207 ?c208 ?k209)
   (Sw.LO ?a210 ?i211 ?l212 ?c213 ?k214)
   _
   ⟨?g216,?g217,?g218,?g219⟩
   (PySem.W.mg_of KX G ?q215)
   (Sw.JE ?n220)
   (Sw.JE ?n221)
   (Sw.JE ?n222)
   (Sw.JE ?n223)
   _
   _
   (L2.LT ?l226 ?c227 ?k228)
   (L2.PM.binds (L2.LT ?l226 ?c227 ?k228) (fun _ _ _ _ _ _ us hl=>by obtain⟨a,b,c,rfl⟩:=Sw.RG hl;rfl))
   ⟨?g229,?a224,?i225,?k230⟩
   (Sw.LO ?a231 ?i232 ?l233 ?c234 ?k235)
   (Sw.LO ?a236 ?i237 ?l238 ?c239 ?k240)
   (Sw.LO ?a241 ?i242 ?l243 ?c244 ?k245)
   (Sw.LO ?a246 ?i247 ?l248 ?c249 ?k250)
   (Sw.LO ?a251 ?i252 ?l253 ?c254 ?k255)
   (Sw.RY KX G ?v256 ?e257)
   (Sw.R6 KX G ?v258 ?e259)
   (PySem.W.mg_none_of KX G ?z260)
   (PySem.W.mg_none_of KX G ?z261)
   (PySem.W.mg_none_of KX G ?z262)
   (PySem.W.mg_none_of KX G ?z263)
   (PySem.W.mg_none_of KX G ?z264)
   (PySem.W.mg_none_of KX G ?z265)
   (PySem.W.mg_none_of KX G ?z266)
   (PySem.W.mg_none_of KX G ?z267)
   (PySem.W.mg_none_of KX G ?z268)
   (PySem.W.mg_none_of KX G ?z269)
   (PySem.W.mg_none_of KX G ?z270)
   (PySem.W.mg_none_of KX G ?z271)
   (PySem.W.mg_none_of KX G ?z272)
   (PySem.W.mg_none_of KX G ?z273)
   (PySem.W.mg_none_of KX G ?z274)
   (PySem.W.mg_none_of KX G ?z275)
   (PySem.W.mg_none_of KX G ?z276)
   (PySem.W.mg_none_of KX G ?z277)) ?aL ?lL ?cL ?kL ?rP ?tP
  case a1|l2|c3|k4|a5|l6|c7|k8|a9|l10|c11|k12|a13|l14|c15|k16|a17|l18|c19|k20|a21|l22|c23|k24|a25|l26|c27|k28|a29|l30|c31|k32=>k_is
  case r33=>rfl
  case l34=>k_is
  case r35=>rfl
  case r36=>rfl
  case a37|l38|c39|k40|a41|l42|c43|k44|a45|l46|c47|k48|a49|l50|c51|k52|a53|l54|c55|k56|a57|l58|c59|k60|a61|l62|c63|k64|a65|l66|c67|k68|a69|l70|c71|k72|a73|l74|c75|k76|a77|l78|c79|k80|a81|l82|c83|k84|a85|l86|c87|k88|a89|l90|c91|k92|a93|l94|c95|k96|a97|l98|c99|k100|a101|l102|c103|k104|a105|l106|c107|k108|a109|l110|c111|k112|a113|l114|c115|k116|a117|l118|c119|k120|a121|l122|c123|k124|a125|l126|c127|k128|a129|l130|c131|k132|a133|l134|c135|k136|a137|l138|c139|k140|a141|l142|c143|k144|a145|l146|c147|k148|a149|l150|c151|k152|a153|l154|c155|k156|q157|g158|g159|g160|g161|n162|n163|n164|n165|n166|n167|a168|i169|l170|c171|k172|g173|k174|a175|i176|l177|c178|k179|a180|i181|l182|c183|k184|a185|i186|l187|c188|k189|a190|i191|l192|c193|k194|a195|i196|l197|c198|k199|a200|i201|l202|c203|k204|a205|i206|l207|c208|k209|a210|i211|l212|c213|k214|q215|g216|g217|g218|g219|n220|n221|n222|n223|a224|i225|l226|c227|k228|g229|k230|a231|i232|l233|c234|k235|a236|i237|l238|c239|k240|a241|i242|l243|c244|k245|a246|i247|l248|c249|k250|a251|i252|l253|c254|k255|v256=>k_is
  case e257=>exact⟨_,rfl⟩
  case v258=>k_is
  case e259=>exact⟨_,rfl⟩
  case z260|z261|z262|z263|z264|z265|z266|z267|z268|z269|z270|z271|z272|z273|z274|z275|z276|z277|aL|lL|cL|kL=>k_is
  case rP=>rfl
  case tP=>kernel_rfl
