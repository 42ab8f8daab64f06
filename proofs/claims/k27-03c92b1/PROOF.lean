import PyProof.Rows.All
import Wide.All
import OpenK.AllK
import Wide.FinOn
import PyProof.Rows.SortShellK
import KE.KSortTup
import Lean
import PyProof.EqAt
import PyProof.EqKinds
import PyProof.TupleCall
import PyProof.SetRoads
import PyProof.DictRoadsH
import PyProof.IsRules
import PyProof.CollectWalk
import PyProof.FactsAll.set
import PyProof.NeData
import PyProof.P3In
import PyProof.TupleOfSeq
import PyProof.ZipIter
import PyProof.Rows.ZipGen
import KE.KDictOf
import PyProof.AttrMissHeap
import PyProof.Rows.SumAny
import PyProof.DictIter
import PyProof.DictWalks
import PyProof.DictValues
import PyProof.ListRange
import PyProof.ListStr
import PyProof.DictTruth
import PySem.Challenge.RW_strikeweave_k27_too_many_sets
namespace PySem.W.Fast
def tw15417716183722381555:=0
def tw11735278637356298238:=0
def tw6956000892532534395:=0
def tw8011960893005310271:=0
def tw561711558421880264:=0
def tw15350695768783144105:=0
def tw7169667572133140979:=0
def tw8903495548664358679:=0
def tw16979033924448605064:=0
def tw7575098638588585456:=0
def tw7000110132773182013:=0
def tw17679701836377966984:=0
def tw11867715757703262308:=0
def tw10693260689634206675:=0
def tw16564073666274183877:=0
def tw16957324784186502327:=0
def tw14751550099718063912:=0
def tw5515653683939040842:=0
def tw8325178763580653916:=0
def tw14858878231928793836:=0
def tw6168125577466442143:=0
def tw16000055467482816822:=0
def tw17870046024225222919:=0
def tw6758671115070520419:=0
def tw3028546386919595328:=0
def tw11338124199195597891:=0
def tw13724439140686559022:=0
def tw6808401073217071110:=0
def tw11879914101740010937:=0
def tw764706606717173298:=0
def tw5066987626597491135:=0
def tw74323823296016910:=0
def tw13183905931971152461:=0
def tw721641174042490125:=0
def tw5902784064562980677:=0
def tw12836798164244640465:=0
def tw5789960524965549630:=0
def tw9870216844105264126:=0
def tw2780076108928831151:=0
def tw13435959618089032166:=0
def tw8421685351952825896:=0
def tw78696616863776275:=0
def tw9766531748630253029:=0
def tw5671861135443003600:=0
def tw14546267899037230407:=0
def tw8932790424370601072:=0
def tw9903822844745664929:=0
def tw13743130254537743053:=0
def tw7070964741162149471:=0
def tw17919027430466061864:=0
def tw4820528127600768869:=0
def tw1511187388482384007:=0
def tw5132169959876437438:=0
def tw4701276285752061949:=0
def tw6773085466669674986:=0
def tw11274270131667387619:=0
def tw14453805133711335967:=0
def tw1432314187327723210:=0
def tw8710870573779130318:=0
def tw5083030956689192532:=0
def tw1089545629612021686:=0
def tw5621874544264515557:=0
def tw3895892768226377343:=0
def tw6242088855845291317:=0
def tw15883571579138510870:=0
def tw4536509647871004020:=0
def tw16588595504840306844:=0
def tw15575390968494505340:=0
def tw7026479295397964385:=0
def tw792294954889746757:=0
def tw7022451154698972580:=0
def tw5789760212719074629:=0
def tw908842479504617769:=0
def tw15378448678680115489:=0
def tw2275737287760412092:=0
def tw6646226737216458664:=0
def tw13394945426507487690:=0
def tw11557438775987228804:=0
def tw1193644682303644704:=0
def tw12290985331257560830:=0
def tw13734665169876075651:=0
def tw3609067657535244320:=0
def tw113025215036814635:=0
def tw5828475583202568354:=0
def tw10468196545213963802:=0
def tw5502107132830321526:=0
def tw1847694229678344807:=0
def tw7542142010162743694:=0
def tw12482245013059453579:=0
def tw14416980737610830374:=0
def tw8183657485253706659:=0
def tw11210061887865694617:=0
def tw10633838454607242735:=0
def tw16454765127473757903:=0
def tw5751665073799298935:=0
def tw17269597026763014608:=0
def tw17144924469153292465:=0
def tw2987197065967201113:=0
def tw9167100125103880926:=0
def tw9240262587717433449:=0
def tw4599632133081144853:=0
def tw16835092875353394891:=0
def tw16056961385215314309:=0
def tw8699084876667091875:=0
def tw1348280668726299131:=0
def tw6037538302091859240:=0
def tw3991945408395333010:=0
def tw2837473517135094425:=0
def tw12848445081873931538:=0
def tw5942925518420238082:=0
def tw5510105083606501152:=0
def tw5596020437786657221:=0
def tw5459021293316355142:=0
def tw17181320895054031812:=0
def tw1922722390461477325:=0
def tw17958234326892762179:=0
def tw17701468086353904465:=0
def tw6203761766004244144:=0
def tw6683236455554325965:=0
def tw6444185713564362505:=0
def tw7670712432743046576:=0
def tw13979114575575821632:=0
def tw3344498334443011353:=0
def tw16081383746165115045:=0
def tw2696292393971822531:=0
def tw13418087471294209375:=0
def tw14953661269171898428:=0
def tw18282163882481070028:=0
def tw11216746047532167460:=0
def tw1039024472953770084:=0
def tw13172590072794547186:=0
def tw13167524356186667275:=0
def tw8791427353561002017:=0
def tw11659536429705288196:=0
def tw11545199935228294751:=0
def tw10731989988320480208:=0
def tw11840236879332114731:=0
def tw1822482924628049674:=0
def tw10641910198640805199:=0
def tw15305525850926830771:=0
def tw12929706796400975802:=0
def tw2874254740249184631:=0
def tw6184048427184209120:=0
def tw14740021614512546502:=0
def tw14563593346407917284:=0
def tw7685450692308070509:=0
def tw13226471732190292629:=0
def tw16192799051830826037:=0
def tw8827999903278674684:=0
def tw5376355295340574241:=0
def tw6439515993296800135:=0
def tw1381003116430455250:=0
def tw5051417790331915209:=0
def tw1790934077996539859:=0
def tw8707271791790472127:=0
def tw14636215129349097412:=0
def tw11136809069493264304:=0
def tw6281654651279857469:=0
def tw14663855822770125719:=0
def tw13943492504417279297:=0
def tw9357468034989102811:=0
def tw11280031382840123376:=0
def tw13274380952786779369:=0
def tw13176491167126312901:=0
def tw13770797998604496665:=0
def tw9646071583738694081:=0
def tw4635726950919225257:=0
def tw1459383847030929398:=0
def tw8902454845257874467:=0
def tw5605206426448243954:=0
def tw17096027386978048023:=0
def tw6251850256827771156:=0
def tw6276914838720299167:=0
def tw12213938547843416749:=0
def tw2609255680172833895:=0
def tw3548559637378509397:=0
def tw13809521607896777407:=0
def tw14760060558990343581:=0
def tw15164898529487727906:=0
def tw9542031272637171541:=0
def tw2538229236053841074:=0
def tw10863887184277440481:=0
def tw721358013332638694:=0
def tw18321799723338583294:=0
def tw13903759439489054744:=0
def tw6204070740674394808:=0
def tw8362942514566744737:=0
def tw16619680460932005123:=0
def tw17682053832294882623:=0
def tw14725064006166541482:=0
def tw10531885504748892464:=0
def tw17859415986938353880:=0
def tw12325753711248182216:=0
def tw15168721957505269958:=0
def tw9039410823661055377:=0
def tw6901576594044891527:=0
def tw16403789613002873811:=0
def tw8072169050779530901:=0
def tw3417148195722716206:=0
def tw11890181782773247024:=0
def tw14640806291500920998:=0
def tw533754996213365124:=0
def tw9571187130566606310:=0
def tw10292005833594441:=0
def tw967212222361600996:=0
def tw1082614356818052528:=0
def tw16021845768313769627:=0
def tw6641772935983887950:=0
def tw5014570437628752368:=0
def tw12085401397596543179:=0
def tw12486686721520085569:=0
def tw4753827229035700761:=0
def tw5887805132311470692:=0
def tw14807099242835414665:=0
def tw18309957772650834817:=0
def tw2362678442032927011:=0
def tw1627002796838803624:=0
def tw17636781672712148809:=0
def tw8078821642673285257:=0
def tw12193860498772424320:=0
def tw8989026106419960188:=0
def tw3986620320644622827:=0
def tw10060762890826068970:=0
def tw15650643673091806574:=0
def tw7218458195905313492:=0
def tw13257148865010674682:=0
def tw18209771832000987124:=0
def tw13393899278211610754:=0
def tw15470031446708057041:=0
def tw13273790890340725526:=0
def tw9600019951674920393:=0
def tw12524199668675763933:=0
def tw4964227920600182844:=0
def tw7884959394961574757:=0
def tw16221687310103717542:=0
def tw10343270325889180285:=0
def tw1861786450085711400:=0
def tw6695203968364264965:=0
def tw13067820671029850590:=0
def tw14764889295472776656:=0
def tw7961503908230733057:=0
def tw9468185814526992846:=0
def tw6831942812905981776:=0
def tw671301294057694627:=0
def tw5925661171392306239:=0
def tw14655432471898594429:=0
def tw11394981869047187824:=0
def tw17546071884731200025:=0
def tw16415165868477522249:=0
def tw10092071662042809953:=0
def tw10166361777830417375:=0
def tw16561700473224832499:=0
def tw17884176907140261844:=0
def tw5531475742105155391:=0
def tw1787876353306232549:=0
def tw12828076261796095498:=0
def tw6556552798063907580:=0
def tw11373084698689808720:=0
def tw8034352624782268273:=0
def tw2325124230407725508:=0
def tw9964696307752159783:=0
def tw2111961808790554057:=0
def tw3804077094409478032:=0
def tw14968122271012447643:=0
def tw4933793413084944445:=0
def tw14465202316697603:=0
def tw14842993495664066511:=0
def tw6543366507143178146:=0
def tw9748080294534264638:=0
def tw17270940287463208246:=0
def tw8246336835408768362:=0
def tw16889408753072262686:=0
def tw8689654837645038166:=0
def tw2960226468060958076:=0
def tw16972481699851298327:=0
def tw1981202264319201640:=0
def tw7145700323862226242:=0
def tw17105280949684549408:=0
def tw12306355806685890329:=0
def tw9601925693381274028:=0
def tw9652872481781025314:=0
def tw8609137081406054065:=0
def tw3168785431256814948:=0
def tw17499152054935616624:=0
def tw17315968269447894309:=0
def tw13068248318981751846:=0
def tw14910018278881712305:=0
def tw6848595948953156944:=0
def tw5549013937042147782:=0
def tw7411217878339668000:=0
def tw1547364625387504417:=0
def tw5671658515872477145:=0
def tw17643100814453861988:=0
def tw6586802600306061284:=0
def tw10844419231798672945:=0
def tw6611254275654989134:=0
def tw11176289957124865944:=0
def tw1891869983657171818:=0
def tw3154908819263831363:=0
def tw16664486100877424475:=0
def tw1255410953790250391:=0
def tw3135280437405473065:=0
def tw6956553255189843106:=0
def tw12308301039447434901:=0
def tw4324584192340665005:=0
def tw4263149611624050972:=0
def tw13892627849126500360:=0
def tw3226766127171613185:=0
def tw16507291634314176858:=0
def tw7244331496028623187:=0
def tw13657267092998998104:=0
def tw1491612848614132328:=0
def tw3016036533114943545:=0
def tw15358603027274513223:=0
def tw3275216833600495495:=0
def tw18034450596886773671:=0
def tw6029287182865865874:=0
def tw10568944205262707990:=0
def tw8976474641160494361:=0
def tw8407332334140118195:=0
def tw2077767772421329251:=0
def tw12942268396107545427:=0
def tw7794661513721161614:=0
def tw13896664109598500600:=0
def tw10393556592958130917:=0
def tw3330035777961196103:=0
def tw8167706170802454736:=0
def tw2349961389723507120:=0
def tw15131259257909651582:=0
def tw10935718298104021451:=0
def tw10553655412185395437:=0
def tw7745416521181024638:=0
def tw1771727981283674616:=0
def tw17606915689797345344:=0
def tw13246413627880232411:=0
def tw4853767811164742000:=0
def tw8286273054796935784:=0
def tw2489228244310183747:=0
def tw11340197653414981237:=0
def tw11092491718863432487:=0
def tw10703255766446949205:=0
def tw13336047597218751977:=0
def tw2012821965862830624:=0
def tw9033269937571985868:=0
def tw14797620350573455517:=0
def tw9311120308694851968:=0
def tw13330951434885548600:=0
def tw11479908724751617681:=0
def tw1067158773307963576:=0
def tw9916046968839950955:=0
def tw13776370214720385214:=0
def tw12053500794639022648:=0
def tw9783673634330187219:=0
def tw17544528335176073862:=0
def tw16229637876752385943:=0
def tw18302503743594597452:=0
def tw6604912290543473845:=0
def tw5721041971665373109:=0
def tw17238316888769162553:=0
def tw15719288957720351125:=0
def tw10511378078443656523:=0
def tw1438841938847101659:=0
def tw18005098927719764306:=0
def tw8305299304487780925:=0
def tw4500569550034010841:=0
def tw1436650769946512557:=0
def tw4387536534768269431:=0
def tw8356674400827003866:=0
def tw16610319927638081154:=0
def tw14755109496948518099:=0
def tw1084135008682603122:=0
def tw334354850967610367:=0
def tw1370966969596696332:=0
def tw15294336209614627363:=0
def tw17423987054892734142:=0
def tw13859649339039307420:=0
def tw13860182832882245911:=0
def tw17854441583803996414:=0
def tw2985419752096471047:=0
def tw8739686940272680507:=0
def tw2157233402544616936:=0
def tw14185488934422823195:=0
def tw13673572269213840400:=0
def tw13302391639773146738:=0
def tw5074667643108001235:=0
def tw16235363936675405990:=0
def tw17456687461826425605:=0
def tw3072116684239782901:=0
def tw12911447160658191788:=0
def tw6646570252812933241:=0
def tw14992418170697617123:=0
def tw3922305976598730540:=0
def tw4799743849552095371:=0
def tw5877280171163118672:=0
def tw2785435286882544336:=0
def tw16759803965266935146:=0
def tw1674034816840993721:=0
def tw13607063479012889053:=0
def tw3766027543537889998:=0
def tw1279780554208604216:=0
def tw17795050161042309421:=0
def tw17221776904711251682:=0
def tw14537312488513571919:=0
def tw18304587334958185013:=0
def tw4579366619267052789:=0
def tw3299806826391865369:=0
def tw8364476673481792396:=0
def tw3345565899162197831:=0
def tw5375249134043912379:=0
def tw14487699791089548151:=0
def tw5374242887360485078:=0
def tw2310295663086380504:=0
def tw1406460362803292396:=0
def tw12266336187703597224:=0
def tw9416026298989226341:=0
def tw13064657464429603382:=0
def tw3843364010106320227:=0
def tw12003237323763521695:=0
def tw12701047485593440434:=0
def tw15216186676478100533:=0
def tw18360957295593904049:=0
def tw11123424155328718202:=0
def tw16359449997683133051:=0
def tw2414304299792108423:=0
def tw9325355685259975985:=0
def tw11701857776883646999:=0
def tw10129129168053028670:=0
def tw16994191217621966810:=0
def tw3056248551561379620:=0
def tw7250422559996613650:=0
def tw11702691381405915298:=0
def tw11957333560807963992:=0
def tw12721284807555544853:=0
def tw15467166735383747037:=0
def tw15544321467513612203:=0
def tw17626193861760482219:=0
def tw659257795493537073:=0
def tw13073929074048438097:=0
def tw10995069987375078360:=0
def tw7141236777525428277:=0
def tw3007681974177048653:=0
def tw9815929068608873341:=0
def tw16959485752469099080:=0
def tw14443324151723650662:=0
def tw16797491083070156526:=0
def tw9195371940636017793:=0
def tw12545645209091417292:=0
def tw144402106609247694:=0
def tw7513493237427648446:=0
end PySem.W.Fast
set_option autoImplicit false
set_option genSizeOf false
set_option genSizeOfSpec false
set_option bootstrap.genMatcherCode false
set_option compiler.extract_closed false
set_option linter.all false
set_option maxRecDepth 100000
section
open PySem PySem.Spec PyProof.Rows
def AA:=@wpAny_bind
def AB:=@List.length_map
def AC:=@List.getElem?_eq_getElem
def AD:=@wpAny_pure
def AE:=@Heap.get?_push_of_some
def AF:=@List.mem_singleton
def AG:=@Heap.lt_size
def AH:=@List.getElem?_eq_some_iff
def AI:=@List.mem_map
def AJ:=@List.getElem?_map
def AK:=@if_neg
def AL:=@List.map_append
def AM:=@Heap.get?_push_size
def AN:=@decide_eq_false
def AO:=@if_pos
def AQ:=@Array.length_toList
def AR:=@List.size_toArray
def AS:=@List.getD_eq_getElem?_getD
def AU:=@List.mem_append
def AV:=@List.mem_cons
def AW:=@List.map_cons
def AX:=@List.mem_cons_of_mem
def AY:=@List.length_take
def AZ:=@decide_eq_true
def A_:=@Nat.ne_of_lt
def BA:=@Bool.false_eq_true
def BB:=@Bool.false_ne_true
def BC:=@List.length_append
def BD:=@List.not_mem_nil
def BE:=@List.mem_cons_self
def BF:=@wpAny_loadPart'
def BG:=@Bool.and_eq_true
def BH:=@Nat.lt_of_lt_of_le
def BI:=@Option.some.inj
def BJ:=@List.mem_of_getElem?
def BK:=@List.append_assoc
def BL:=@List.length_cons
def BM:=@Bool.eq_false_iff
def BN:=@of_decide_eq_true
def BO:=@Array.getElem?_toList
def BP:=@Heap.get?_update_other
def BQ:=@List.pairwise_map
def BR:=@wpAny_mono
def BS:=@Array.toList_append
def BT:=@wpAny_holding
def BU:=@Option.map_eq_some_iff
def BV:=@List.mem_range
def BW:=@List.length_range
def BZ:=@List.take_append_drop
def B_:=@List.mem_filter
def CA:=@List.mem_append_right
def CB:=@Heap.get?_update_self
def CC:=@Bool.or_eq_true
def CD:=@Nat.zero_le
def CF:=@Nat.testBit_or
def CG:=@List.drop_eq_getElem_cons
def CH:=@List.map_map
def CI:=@wpAny_setState_of
def CJ:=@decide_eq_true_iff
def CK:=@List.mem_of_mem_take
def CL:=@Array.getElem?_eq_some_iff
def CN:=@Nat.eq_of_testBit_eq
def CO:=@Nat.add_sub_cancel_left
def CP:=@wpAny_newObj_type
def CQ:=@if_false
def CS:=@Array.getD_eq_getD_getElem?
def CU:=@List.pairwise_append
def CV:=@Nat.le_succ
def CY:=@Nat.le_add_right
def CZ:=@wpAny_call_entry
def C_:=@Bool.eq_iff_iff
def DA:=@List.append_nil
def DB:=@List.take_length
def DC:=@Nat.testBit_zero
def DD:=@List.take_of_length_le
def DE:=@wpAny_Call_Name_kw
def DF:=@List.perm_append_comm
def DG:=@wpAny_field
def DH:=@List.Pairwise.and_mem
def DI:=@Array.toList_push
def DJ:=@wpAny_truthy_bool
def DK:=@Heap.size_push
def DL:=@List.length_drop
def DM:=@List.getElem?_take_of_lt
def DN:=@Nat.lt_irrefl
def DP:=@Nat.testBit_succ
def DQ:=@List.Perm.append_left
def DR:=@List.getElem?_eq_none
def DT:=@List.length_singleton
def DU:=@List.length_filter_le
def DV:=@Nat.lt_succ_of_lt
def DW:=@List.getElem?_append_right
def DX:=@Bool.false_and
def DY:=@Nat.testBit_and
def DZ:=@List.Perm.append_right
def D_:=@Nat.zero_add
def EA:=@List.all_eq_true
def EB:=@List.getElem_mem
def EC:=@List.getElem?_append_left
def ED:=@List.filterMap_cons
def EE:=@Heap.SameBut.update
def EF:=@List.range_succ
def EG:=@Nat.lt_of_le_of_ne
def EH:=@List.pairwise_singleton
def EI:=@List.mem_append_left
def EJ:=@wpAny_callSpecial?_slot
def EK:=@Bool.not_eq_true'
def EL:=@wpAny_seqItems
def EM:=@wpAny_loadPart_at
def EN:=@List.drop_of_length_le
def EO:=@List.replicate_succ
def EQ:=@wpAny_ite_false
def ER:=@List.extract_eq_take_drop
def ES:=@Array.getElem?_eq_getElem
def ET:=@wpAny_rule
def EU:=@Heap.size_update
def EV:=@List.filter_cons
def EW:=@Nat.zero_testBit
def EX:=@Nat.le_of_lt
def EY:=@Bool.not_true
def EZ:=@wpAny_standAt
def E_:=@List.filterMap_cons_some
def FA:=@List.mem_of_mem_drop
def FB:=@Array.toList_extract
def FC:=@wpAny_setField
def FD:=@if_true
def FE:=@List.take_sublist
def FF:=@List.ext_getElem?
def FG:=@Int.toNat_natCast
def FH:=@List.nodup_cons
def FI:=@List.find?_cons
def FJ:=@List.drop_eq_nil_of_le
def FK:=@Array.getElem?_eq_none
def FL:=@List.sum_cons
def FM:=@Nat.lt_succ_self
def FN:=@List.drop_drop
def FO:=@List.drop_zero
def FP:=@List.lt_irrefl
def FQ:=@Int.emod_lt_of_pos
def FR:=@List.filter_append
def FS:=@List.map_singleton
def FT:=@List.perm_ext_iff_of_nodup
def FU:=@List.getElem?_toArray
def FV:=@List.pairwise_iff_getElem
def FW:=@Nat.min_eq_left
def FX:=@List.foldl_cons
def FY:=@wpAny_passesOwn
def FZ:=@List.drop_sublist
def F_:=@List.mem_iff_getElem
def GA:=@Array.toList_reverse
def GB:=@wpAny_of_eq
def GC:=@List.nodup_append
def GD:=@Option.isSome_iff_exists
def GE:=@Nat.testBit_two_pow_self
def GF:=@Nat.add_le_add_left
def GG:=@List.map_congr_left
def GH:=@Nat.testBit_two_pow
def GI:=@List.filter_eq_self
def GJ:=@List.filter_sublist
def GK:=@Array.size_map
def GL:=@wpAny_eqBool_str
def GM:=@List.nodup_nil
def GN:=@Nat.eq_zero_of_not_pos
def GO:=@List.getElem?_drop
def GP:=@Array.size_extract
def GQ:=@wpAny_setField_rec
def GR:=@List.length_nil
def GS:=@List.nil_append
def GT:=@wpAny_execs_nil
def GU:=@wpAny_specialOf
def GV:=@Int.emod_nonneg
def GW:=@codeAny_builtin
def GX:=@wpAny_attempt
def GY:=@Nat.lt_of_succ_lt
def GZ:=@wpAny_pyIter_list
def G_:=@List.drop_take
def HA:=@List.Perm.refl
def HB:=@wpAny_askSetting
def HC:=@List.nodup_range
def HD:=@wpAny_isInstance
def HE:=@List.any_eq_true
def HF:=@Nat.zero_lt_succ
def HG:=@List.reverse_append
def HH:=@Heap.get?_update_ne
def HI:=@wpAny_isSubtype_exc
def HJ:=@Array.size_setIfInBounds
def HK:=@wpAny_newList
def HL:=@List.lt_trans
def HM:=@List.any_cons
def HN:=@List.filterMap_cons_none
def HP:=@List.Pairwise.imp_of_mem
def HQ:=@Nat.zero_lt_one
def HR:=@Option.map_some
def HS:=@wpAny_ite_split
def HU:=@Nat.add_sub_cancel
def HV:=@List.length_eq_zero_iff
def HW:=@List.getElem?_cons_zero
def HX:=@List.getElem_take
def HY:=@wpAny_newTuple
def HZ:=@Heap.get?_push_ne
def H_:=@codeAny_mono
def IA:=@List.map_nil
def IB:=@List.flatten_cons
def IC:=@Bool.and_false
def ID:=@Bool.not_false
def IE:=@wpAny_storeSet_of
def IG:=@Bool.or_true
def IH:=@wpAny_richCompare_same
def II:=@Array.toList_inj
def IJ:=@wpAny_call
def IK:=@Heap.ExtBut.push
def IL:=@wpAny_pyIter_zip
def IM:=@List.cons.inj
def IP:=@Bool.or_false
def IQ:=@Bool.true_and
end
noncomputable section
namespace TS
open PySem PyProof.Rows
def kk(Z:KeyKind)(p:Keyed):Z.α:=(Z.keyOf p.1).getD Z.dflt
def Has(Z:KeyKind)(p:Keyed):Prop:=∃a,Z.keyOf p.1=some a
def le(Z:KeyKind)(p q:Keyed):Prop:=Z.kle (kk Z p) (kk Z q)
def Sor(Z:KeyKind)(l:List Keyed):Prop:=l.Pairwise (le Z)
structure Cmp(prog:Program)(w:World)(A:Around)(s:Shared)(Z:KeyKind)(kd:SortKind):Prop where
 lt:∀(x y:Value) (a b:Z.α) (Q:Bool->Shared->Prop) (E:Value->Shared->Prop),Z.keyOf x=some a->Z.keyOf y=some b->Q (Z.blt a b) s->wpAny (model prog w) A (keyLt' kd x y) Q E s
section
variable{prog:Program}{w:World}{A:Around}{E:Value->Shared->Prop}{s:Shared}{Z:KeyKind}{kd:SortKind}
theorem Fb(C:Cmp prog w A s Z kd){st:SortSt}{x y:Keyed}{Q:Option Bool->SortSt->Prop}(hk:kindOf st=kd)(hx:Has Z x)(hy:Has Z y)
  (h:Q (some (Z.blt (kk Z x) (kk Z y))) st):wpS (model prog w) A E s (lt' x y) Q st:=by
 obtain⟨a,ha⟩:=hx;obtain⟨b,hb⟩:=hy;have e1:kk Z x=a:=by unfold kk;rw[ha];rfl
 have e2:kk Z y=b:=by unfold kk;rw[hb];rfl
 rw[e1,e2]at h;rw[lt'_eq];refine wpS_bind (wpS_get ?_);rw[hk];refine wpS_bind (wpS_lift (GX (C.lt x.1 y.1 a b _ _ ha hb ⟨rfl,?_⟩)));exact wpS_pure h
theorem C6{st:SortSt}{arr:Array Keyed}{i:Nat}{p:Keyed}{Q:Keyed->SortSt->Prop}(hi:arr[i]?=some p)(h:Q p st):wpS (model prog w) A E s (elem' arr i) Q st:=by
 rw[elem'_eq,hi];exact wpS_pure h
def M8:Bool->Keyed->Array Keyed->Nat->Nat->Nat->StateT SortSt Sem (Option Nat):=sortPriv% PySem.Builtin.gallop
def bey(left:Bool)(ky:Keyed)(ar:Array Keyed)(bs:Nat)(i:Nat):StateT SortSt Sem (Option Bool):=do
 let x <-elem' ar (bs+i)
 if left then lt' x ky else return(<-lt' ky x).map (!·)
theorem Lj(left:Bool)(ky:Keyed)(ar:Array Keyed)(bs n ht:Nat):M8 left ky ar bs n ht =(do
  let mut la:=0
  let mut of:=1
  let mut lo:=0
  let mut hi:=0
  let some ri <-bey left ky ar bs ht | return none
  if ri then
   let mx:=n-ht
   for _ in [0:n] do
    if of ≥ mx then break
    let some mo <-bey left ky ar bs (ht+of) | return none
    if !mo then break
    la:=of
    of:=2*of+1
   lo:=ht+la+1
   hi:=ht+min of mx
  else
   let mx:=ht+1
   for _ in [0:n] do
    if of ≥ mx then break
    let some fo <-bey left ky ar bs (ht-of) | return none
    if fo then break
    la:=of
    of:=2*of+1
   lo:=ht+1-min of mx
   hi:=ht-la
  for _ in [0:n] do
   if lo ≥ hi then break
   let m:=lo +(hi-lo) / 2
   let some mo <-bey left ky ar bs m | return none
   if mo then lo:=m+1 else hi:=m
  return some hi):=rfl
def PB(Z:KeyKind)(left:Bool)(ky:Keyed)(p:Keyed):Bool:=if left then Z.blt (kk Z p) (kk Z ky)else !Z.blt (kk Z ky) (kk Z p)
theorem Xc(C:Cmp prog w A s Z kd){st:SortSt}{left:Bool}{ky p:Keyed}{ar:Array Keyed}{bs i:Nat}{Q:Option Bool->SortSt->Prop}(hk:kindOf st=kd)(hky:Has Z ky)(hp:Has Z p)(hi:ar[bs+i]?=some p)
  (h:Q (some (PB Z left ky p)) st):wpS (model prog w) A E s (bey left ky ar bs i) Q st:=by
 unfold bey;refine wpS_bind (C6 hi ?_);cases left with
 | true=>exact Fb C hk hp hky h
 | false =>
  simp only[BA,CQ];refine wpS_bind (Fb C hk hky hp ?_);exact wpS_pure h
theorem Ld(C:Cmp prog w A s Z kd){st:SortSt}{left:Bool}{ky:Keyed}{ar:Array Keyed}{bs n ht:Nat}{Q:Option Nat->SortSt->Prop}(hk:kindOf st=kd)(hky:Has Z ky)
  (P:Nat->Bool) (hP:∀i,i<n->∃p,ar[bs+i]?=some p/\Has Z p/\PB Z left ky p=P i) (mono:∀i j,i<=j->j<n->P j=true->P i=true) (hht:ht<n)
  (h:∀k,k<=n->(∀i,i<k->P i=true)->(∀i,k<=i->i<n->P i=false)->Q (some k) st):wpS (model prog w) A E s (M8 left ky ar bs n ht) Q st:=by
 have B:∀{st':SortSt} {i:Nat} {Q:Option Bool->SortSt->Prop},st'=st->i<n->Q (some (P i)) st'->wpS (model prog w) A E s (bey left ky ar bs i) Q st':=by
  intro st' i Q e hi q;subst e;obtain⟨p,h1,h2,h3⟩:=hP i hi;exact Xc C hk hky h2 h1 (by rw[h3];exact q)
 have nmono:∀i j,i<=j->j<n->P i=false->P j=false:=by
  intro i j hij hj hi;cases e:P j with
  | false=>rfl
  | true=>rw[mono i j hij hj e]at hi;cases hi
 rw[Lj];dsimp only;refine wpS_bind (B rfl hht ?_);dsimp only;have S:∀{lo hi:Nat} {f:Nat->(Option (Option Nat)×Nat×Nat)->StateT SortSt Sem (ForInStep (Option (Option Nat)×Nat×Nat))},
   (∀x l h,wpS (model prog w) A E s (f x (none,l,h)) (fun r st'=>st'=st/\(if h<=l then r = .done (none,l,h)else if P (l +(h-l) / 2)=true then r = .yield (none,l +(h-l) / 2+1,h)else r = .yield (none,l,l +(h-l) / 2))) st\/¬(h<=l\/l +(h-l) / 2<n)) ->
   lo<=hi->hi<=n->(∀i,i<lo->P i=true)->(∀i,hi<=i->i<n->P i=false) ->
   wpS (model prog w) A E s (forIn [0:n] (none,lo,hi) f) (fun c st'=>st'=st/\∃k,c =(none,k,k)/\k<=n/\(∀i,i<k->P i=true)/\(∀i,k<=i->i<n->P i=false)) st:=by
  intro lo hi f hf h1 h2 h3 h4;refine wpS_forRange (I:=fun x c st'=>st'=st/\∃l r,c =(none,l,r)/\l<=r/\r<=n/\r-l<=n-x/\(∀i,i<l->P i=true)/\(∀i,r<=i->i<n->P i=false)) ?_ ?_ ⟨rfl,lo,hi,rfl,h1,h2,by omega,h3,h4⟩
  .rintro x c st' _ hx ⟨rfl,l,r,rfl,hl,hr,hm,ha,hb⟩;have hin:r<=l\/l +(r-l) / 2<n:=by omega
   rcases hf x l r with q | q
   .refine wpS_mono q fun z st2 ⟨e,q2⟩=>?_;subst e;by_cases hge:r<=l
    .rw[AO hge]at q2;subst q2;have:l=r:=by omega
     subst this;exact⟨rfl,l,rfl,hr,ha,hb⟩
    .rw[AK hge]at q2;cases hp:P (l +(r-l) / 2)with
     | true =>
      rw[AO hp]at q2;subst q2;exact⟨rfl,_,_,rfl,by omega,by omega,by omega,fun i hi=>mono i (l +(r-l) / 2) (by omega) (by omega) hp,hb⟩
     | false =>
      rw[AK (by rw[hp];exact BB)]at q2;subst q2;exact⟨rfl,_,_,rfl,by omega,by omega,by omega,ha,fun i hi1 hi2=>nmono (l +(r-l) / 2) i hi1 hi2 hp⟩
   .exact absurd hin q
  .rintro c st' ⟨rfl,l,r,rfl,hl,hr,hm,ha,hb⟩;have:l=r:=by omega
   subst this;exact⟨rfl,l,rfl,hr,ha,hb⟩
 cases hr:P ht with
 | true =>
  rw[AO rfl];refine wpS_bind (wpS_mono (wpS_forRange (I:=fun x c st'=>st'=st/\∃la of,c =(none,la,of)/\la<of/\x+1<=of/\ht+la<n/\P (ht+la)=true)
   (Q:=fun c st'=>st'=st/\∃la of,c =(none,la,of)/\la<of/\ht+la<n/\P (ht+la)=true/\(n-ht<=of\/(ht+of<n/\P (ht+of)=false))) ?st ?en ⟨rfl,0,1,rfl,by omega,by omega,by omega,hr⟩) ?po)
  case en =>
   rintro c st' ⟨rfl,la,of,rfl,a1,a2,a3,a4⟩;exact⟨rfl,la,of,rfl,a1,a3,a4,.inl (by omega)⟩
  case st =>
   rintro x c st' _ hx ⟨rfl,la,of,rfl,a1,a2,a3,a4⟩;dsimp only;by_cases hge:of ≥ n-ht
   .rw[AO hge];exact wpS_pure ⟨rfl,la,of,rfl,a1,a3,a4,.inl hge⟩
   .rw[AK hge];refine wpS_bind (B rfl (show ht+of<n by omega) ?_);cases hp:P (ht+of)with
    | true=>exact wpS_pure ⟨rfl,of,2*of+1,rfl,by omega,by omega,by omega,hp⟩
    | false=>exact wpS_pure ⟨rfl,la,of,rfl,a1,a3,a4,.inr ⟨by omega,hp⟩⟩
  case po =>
   rintro c st' ⟨rfl,la,of,rfl,a1,a3,a4,a5⟩;dsimp only;refine wpS_bind (wpS_mono (S (lo:=ht+la+1) (hi:=ht+min of (n-ht)) (fun x l h'=>by
    dsimp only;by_cases hge:h'<=l
    .refine .inl ?_;rw[AO hge];exact wpS_pure ⟨rfl,by rw[AO hge]⟩
    .by_cases hn:l +(h' - l) / 2<n
     .refine .inl ?_;rw[AK hge];refine wpS_bind (B rfl hn ?_);dsimp only;cases hp:P (l +(h' - l) / 2)with
      | true =>
       simp only[FD];exact wpS_pure ⟨rfl,by rw[AK hge]⟩
      | false =>
       simp only[BA,CQ];exact wpS_pure ⟨rfl,by rw[AK hge]⟩
     .exact .inr (by omega)) (by omega) (by omega) (fun i hi=>mono i (ht+la) (by omega) a3 a4) fun i hi1 hi2=>?_) fun c st' ⟨e,k,e2,b1,b2,b3⟩=>?_)
   .rcases a5 with a5 | ⟨a5,a6⟩
    .omega
    .exact nmono (ht+of) i (by omega) hi2 a6
   .subst e e2;exact wpS_pure (h k b1 b2 b3)
 | false =>
  rw[AK BB];refine wpS_bind (wpS_mono (wpS_forRange (I:=fun x c st'=>st'=st/\∃la of,c =(none,la,of)/\la<of/\x+1<=of/\la<=ht/\P (ht-la)=false)
   (Q:=fun c st'=>st'=st/\∃la of,c =(none,la,of)/\la<of/\la<=ht/\P (ht-la)=false/\(ht+1<=of\/(of<=ht/\P (ht-of)=true))) ?st ?en ⟨rfl,0,1,rfl,by omega,by omega,by omega,hr⟩) ?po)
  case en =>
   rintro c st' ⟨rfl,la,of,rfl,a1,a2,a3,a4⟩;exact⟨rfl,la,of,rfl,a1,a3,a4,.inl (by omega)⟩
  case st =>
   rintro x c st' _ hx ⟨rfl,la,of,rfl,a1,a2,a3,a4⟩;dsimp only;by_cases hge:of ≥ ht+1
   .rw[AO hge];exact wpS_pure ⟨rfl,la,of,rfl,a1,a3,a4,.inl hge⟩
   .rw[AK hge];refine wpS_bind (B rfl (show ht-of<n by omega) ?_);cases hp:P (ht-of)with
    | false=>exact wpS_pure ⟨rfl,of,2*of+1,rfl,by omega,by omega,by omega,hp⟩
    | true=>exact wpS_pure ⟨rfl,la,of,rfl,a1,a3,a4,.inr ⟨by omega,hp⟩⟩
  case po =>
   rintro c st' ⟨rfl,la,of,rfl,a1,a3,a4,a5⟩;dsimp only;refine wpS_bind (wpS_mono (S (lo:=ht+1-min of (ht+1)) (hi:=ht-la) (fun x l h'=>by
    dsimp only;by_cases hge:h'<=l
    .refine .inl ?_;rw[AO hge];exact wpS_pure ⟨rfl,by rw[AO hge]⟩
    .by_cases hn:l +(h' - l) / 2<n
     .refine .inl ?_;rw[AK hge];refine wpS_bind (B rfl hn ?_);dsimp only;cases hp:P (l +(h' - l) / 2)with
      | true =>
       simp only[FD];exact wpS_pure ⟨rfl,by rw[AK hge]⟩
      | false =>
       simp only[BA,CQ];exact wpS_pure ⟨rfl,by rw[AK hge]⟩
     .exact .inr (by omega)) (by omega) (by omega) (fun i hi=>?_) fun i hi1 hi2=>nmono (ht-la) i (by omega) hi2 a4) fun c st' ⟨e,k,e2,b1,b2,b3⟩=>?_)
   .rcases a5 with a5 | ⟨a5,a6⟩
    .omega
    .exact mono i (ht-of) (by omega) (by omega) a6
   .subst e e2;exact wpS_pure (h k b1 b2 b3)
end
section
variable{Z:KeyKind}
theorem le_refl(p:Keyed):le Z p p:=KeyOrd.kle_refl _
theorem le_trans{p q r:Keyed}(h1:le Z p q)(h2:le Z q r):le Z p r:=KeyOrd.kle_trans h1 h2
structure ML(Z:KeyKind)(a b:List Keyed)(o:List Keyed)(i j:Nat):Prop where
 perm:o.Perm (a.take i++b.take j)
 sor:Sor Z o
 la:∀x∈o,∀y∈a.drop i,le Z x y
 lb:∀x∈o,∀y∈b.drop j,le Z x y
theorem ML.sym{a b o:List Keyed}{i j:Nat}(m:ML Z a b o i j):ML Z b a o j i:=⟨m.perm.trans DF,m.sor,m.lb,m.la⟩
theorem Ft{l:List Keyed}(k:Nat)(h:Sor Z l):∀x∈l.take k,∀y∈l.drop k,le Z x y:=by
 have h':Sor Z (l.take k++l.drop k):=by rw[BZ];exact h
 exact(CU.mp h').2.2
theorem ML.addA{a b o:List Keyed}{i j:Nat}(m:ML Z a b o i j)(sa:Sor Z a)(k:Nat)(hk:∀y∈(a.drop i).take k,∀z∈b.drop j,le Z y z):ML Z a b (o ++(a.drop i).take k) (i+k) j:=by
 have hs:Sor Z (a.drop i):=sa.sublist (FZ _ _);refine⟨?_,?_,fun x hx y hy=>?_,fun x hx y hy=>?_⟩
 .rw[List.take_add];refine(DZ _ m.perm).trans ?_;rw[BK,BK];exact DQ _ DF
 .refine CU.mpr ⟨m.sor,hs.sublist (FE _ _),fun x hx y hy=>m.la x hx y (CK hy)⟩
 .rw[<-FN]at hy;rcases AU.mp hx with hx | hx
  .exact m.la x hx y (FA hy)
  .exact Ft k hs x hx y hy
 .rcases AU.mp hx with hx | hx
  .exact m.lb x hx y hy
  .exact hk x hx y hy
theorem ML.addB{a b o:List Keyed}{i j:Nat}(m:ML Z a b o i j)(sb:Sor Z b)(k:Nat)(hk:∀y∈(b.drop j).take k,∀z∈a.drop i,le Z y z):ML Z a b (o ++(b.drop j).take k) i (j+k) :=
 (m.sym.addA sb k hk).sym
theorem ML.endA{a b o:List Keyed}{i j:Nat}(m:ML Z a b o i j)(sa:Sor Z a)(sb:Sor Z b)(h:∀y∈a.drop i,∀z∈b.drop j,le Z y z):Sor Z (o++a.drop i++b.drop j)/\(o++a.drop i++b.drop j).Perm (a++b):=by
 refine⟨?_,?_⟩
 .refine CU.mpr ⟨CU.mpr ⟨m.sor,sa.sublist (FZ _ _),m.la⟩,sb.sublist (FZ _ _),fun x hx y hy=>?_⟩;rcases AU.mp hx with hx | hx
  .exact m.lb x hx y hy
  .exact h x hx y hy
 .have h1:(o++a.drop i++b.drop j).Perm ((a.take i++b.take j)++a.drop i++b.drop j):=DZ _ (DZ _ m.perm);refine h1.trans ?_;have h2:((a.take i++b.take j)++a.drop i++b.drop j).Perm ((a.take i++a.drop i) ++(b.take j++b.drop j)):=by
   rw[BK,BK,BK];refine DQ _ ?_;rw[<-BK,<-BK];exact DZ _ DF
  rw[BZ,BZ]at h2;exact h2
theorem ML.endB{a b o:List Keyed}{i j:Nat}(m:ML Z a b o i j)(sa:Sor Z a)(sb:Sor Z b)(h:∀y∈b.drop j,∀z∈a.drop i,le Z y z):Sor Z (o++b.drop j++a.drop i)/\(o++b.drop j++a.drop i).Perm (a++b) :=
 ⟨(m.sym.endA sb sa h).1,(m.sym.endA sb sa h).2.trans DF⟩
structure MH(Z:KeyKind)(a b:List Keyed)(o:List Keyed)(i j:Nat):Prop where
 perm:o.Perm (a.drop i++b.drop j)
 sor:Sor Z o
 la:∀x∈o,∀y∈a.take i,le Z y x
 lb:∀x∈o,∀y∈b.take j,le Z y x
theorem MH.sym{a b o:List Keyed}{i j:Nat}(m:MH Z a b o i j):MH Z b a o j i:=⟨m.perm.trans DF,m.sor,m.lb,m.la⟩
theorem MH.addA{a b o:List Keyed}{i j:Nat}(m:MH Z a b o i j)(sa:Sor Z a)(k:Nat)(hki:k<=i)(hk:∀y∈(a.take i).drop k,∀z∈b.take j,le Z z y):MH Z a b ((a.take i).drop k++o) k j:=by
 have hs:Sor Z (a.take i):=sa.sublist (FE _ _);have e:a.drop k =(a.take i).drop k++a.drop i:=by
  conv=>lhs;rw[<-BZ i a]
  rw[List.drop_append];by_cases hl:i<=a.length
  .rw[AY,FW hl,Nat.sub_eq_zero_of_le hki,FO]
  .have:a.drop i = []:=FJ (by lia);rw[this,List.drop_nil]
 have e2:(a.take i).take k=a.take k:=by rw[List.take_take,FW hki]
 refine⟨?_,?_,fun x hx y hy=>?_,fun x hx y hy=>?_⟩
 .rw[e,BK];exact DQ _ m.perm
 .exact CU.mpr ⟨hs.sublist (FZ _ _),m.sor,fun x hx y hy=>m.la y hy x (FA hx)⟩
 .rw[<-e2]at hy;rcases AU.mp hx with hx | hx
  .exact Ft k hs y hy x hx
  .exact m.la x hx y (CK hy)
 .rcases AU.mp hx with hx | hx
  .exact hk x hx y hy
  .exact m.lb x hx y hy
theorem MH.addB{a b o:List Keyed}{i j:Nat}(m:MH Z a b o i j)(sb:Sor Z b)(k:Nat)(hkj:k<=j)(hk:∀y∈(b.take j).drop k,∀z∈a.take i,le Z z y):MH Z a b ((b.take j).drop k++o) i k :=
 (m.sym.addA sb k hkj hk).sym
theorem MH.endA{a b o:List Keyed}{i j:Nat}(m:MH Z a b o i j)(sa:Sor Z a)(sb:Sor Z b)(h:∀y∈a.take i,∀z∈b.take j,le Z y z):Sor Z (a.take i++b.take j++o)/\(a.take i++b.take j++o).Perm (a++b):=by
 refine⟨?_,?_⟩
 .refine CU.mpr ⟨CU.mpr ⟨sa.sublist (FE _ _),sb.sublist (FE _ _),h⟩,m.sor,fun x hx y hy=>?_⟩;rcases AU.mp hx with hx | hx
  .exact m.la y hy x hx
  .exact m.lb y hy x hx
 .have h1:(a.take i++b.take j++o).Perm (a.take i++b.take j ++(a.drop i++b.drop j)):=DQ _ m.perm;refine h1.trans ?_;have h2:(a.take i++b.take j ++(a.drop i++b.drop j)).Perm ((a.take i++a.drop i) ++(b.take j++b.drop j)):=by
   rw[BK,BK];refine DQ _ ?_;rw[<-BK,<-BK];exact DZ _ DF
  rw[BZ,BZ]at h2;exact h2
theorem MH.endB{a b o:List Keyed}{i j:Nat}(m:MH Z a b o i j)(sa:Sor Z a)(sb:Sor Z b)(h:∀y∈b.take j,∀z∈a.take i,le Z y z):Sor Z (b.take j++a.take i++o)/\(b.take j++a.take i++o).Perm (a++b) :=
 ⟨(m.sym.endA sb sa h).1,(m.sym.endA sb sa h).2.trans DF⟩
end
section
variable{prog:Program}{w:World}{A:Around}{E:Value->Shared->Prop}{s:Shared}{Z:KeyKind}{kd:SortKind}
def l9(g:Nat):StateT SortSt Sem Unit:=modify fun s=>SortSt.mk' (kindOf s) (arrOf s) (pendingOf s) g (failedOf s)
def Bt:Array Keyed->Array Keyed->StateT SortSt Sem (Array Keyed):=sortPriv% PySem.Builtin.mergeLo
theorem Hh(a b:Array Keyed):Bt a b =(do
  rule "list.sort.merge-lo"
  let tot:=a.size+b.size
  let dn (o:Array Keyed) (i j:Nat):=o++a.extract i a.size++b.extract j b.size
  let lA (o:Array Keyed) (i j:Nat):=o++b.extract j b.size++a.extract i a.size
  let mut o:Array Keyed:=#[<-elem' b 0]
  let mut i:=0
  let mut j:=1
  if j == b.size then return dn o i j
  if i+1 == a.size then return lA o i j
  let mut mg:=gallopOf (<-get)
  for _ in [0:tot] do
   let mut ac:=0
   let mut bc:=0
   for _ in [0:tot] do
    let some bw <-lt' (<-elem' b j) (<-elem' a i) | return dn o i j
    if bw then
     o:=o.push (<-elem' b j);j:=j+1;bc:=bc+1;ac:=0
     if j == b.size then return dn o i j
     if bc ≥ mg then break
    else
     o:=o.push (<-elem' a i);i:=i+1;ac:=ac+1;bc:=0
     if i+1 == a.size then return lA o i j
     if ac ≥ mg then break
   rule "list.sort.gallop"
   mg:=mg+1
   for _ in [0:tot] do
    if mg>1 then mg:=mg-1
    l9 mg
    let some k <-M8 false (<-elem' b j) a i (a.size-i) 0 | return dn o i j
    ac:=k
    if k>0 then
     o:=o++a.extract i (i+k);i:=i+k
     if i+1 == a.size then return lA o i j
     if i == a.size then return dn o i j
    o:=o.push (<-elem' b j);j:=j+1
    if j == b.size then return dn o i j
    let some k <-M8 true (<-elem' a i) b j (b.size-j) 0 | return dn o i j
    bc:=k
    if k>0 then
     o:=o++b.extract j (j+k);j:=j+k
     if j == b.size then return dn o i j
    o:=o.push (<-elem' a i);i:=i+1
    if i+1 == a.size then return lA o i j
    if ac<7&&bc<7 then break
   mg:=mg+1
   l9 mg
  unsupported "internal:list.sort.merge-bound"):=rfl
def Sm(st st':SortSt):Prop:=kindOf st'=kindOf st/\arrOf st'=arrOf st/\pendingOf st'=pendingOf st/\failedOf st'=failedOf st
theorem Sm.refl(st:SortSt):Sm st st:=⟨rfl,rfl,rfl,rfl⟩
theorem Q6{st st0:SortSt}{g:Nat}{Q:Unit->SortSt->Prop}(hs:Sm st0 st)(h:∀st',Sm st0 st'->Q () st'):wpS (model prog w) A E s (l9 g) Q st :=
 wpS_modify (h _ ⟨hs.1,hs.2.1,hs.2.2.1,hs.2.2.2⟩)
theorem Ay{l:List Keyed}{i k:Nat}{y:Keyed}(h:y∈(l.drop i).take k):∃t,t<k/\l[i+t]?=some y:=by
 obtain⟨t,ht,e⟩:=F_.mp h;rw[AY,DL]at ht;refine⟨t,by lia,?_⟩;rw[HX,List.getElem_drop]at e;rw[<-e];exact AC (by lia)
theorem Ia{l:List Keyed}{i:Nat}{y:Keyed}(h:y∈l.drop i):∃t,i+t<l.length/\l[i+t]?=some y:=by
 obtain⟨t,ht,e⟩:=F_.mp h;rw[DL]at ht;refine⟨t,by lia,?_⟩;rw[List.getElem_drop]at e;rw[<-e];exact AC (by lia)
theorem Lc{l:List Keyed}{i:Nat}{y:Keyed}(h:y∈l.take i):∃t,t<i/\t<l.length/\l[t]?=some y:=by
 obtain⟨t,ht,e⟩:=F_.mp h;rw[AY]at ht;refine⟨t,by lia,by lia,?_⟩;rw[HX]at e;rw[<-e];exact AC (by lia)
theorem Va{l:List Keyed}{i k:Nat}{y:Keyed}(h:y∈(l.take i).drop k):∃t,k<=t/\t<i/\l[t]?=some y:=by
 obtain⟨t,h1,h2⟩:=Ia h;rw[AY]at h1;rw[DM (by lia)]at h2;exact⟨k+t,by lia,by lia,h2⟩
theorem X4{l:List Keyed}(h:Sor Z l){i j:Nat}{p q:Keyed}(hij:i<=j)(hp:l[i]?=some p)(hq:l[j]?=some q):le Z p q:=by
 obtain⟨h1,rfl⟩:=AH.mp hp;obtain⟨h2,rfl⟩:=AH.mp hq;rcases Nat.lt_or_eq_of_le hij with z | z
 .exact FV.mp h i j h1 h2 z
 .subst z;exact le_refl _
theorem Bj{l:List Keyed}(h:Sor Z l){i:Nat}{p:Keyed}(hp:l[i]?=some p):∀z∈l.drop i,le Z p z:=fun z hz=>by
 obtain⟨t,_,e⟩:=Ia hz;exact X4 h (CY _ _) hp e
theorem ar_get{a:Array Keyed}{i:Nat}{p:Keyed}:a[i]?=some p↔a.toList[i]?=some p:=by rw[BO]
theorem S9{a:Array Keyed}{i:Nat}(h:i<a.size):∃p,a[i]?=some p:=⟨a[i],getElem?_pos a i h⟩
theorem Pf{l:List Keyed}{i:Nat}{p:Keyed}(h:l[i]?=some p):(l.drop i).take 1 = [p]:=by
 obtain⟨h1,rfl⟩:=AH.mp h;rw[CG h1];rfl
theorem Bl(a:Array Keyed)(i k:Nat):(a.extract i (i+k)).toList =(a.toList.drop i).take k:=by
 rw[FB,ER,CO]
theorem V5(a:Array Keyed)(i:Nat):(a.extract i a.size).toList=a.toList.drop i:=by
 rw[FB,ER,DD];rw[DL,AQ];exact Nat.le_refl _
theorem V6(a:Array Keyed)(i:Nat):(a.extract 0 i).toList=a.toList.take i:=by
 rw[FB,ER,FO,Nat.sub_zero]
def Rm(Z:KeyKind)(a b r:Array Keyed):Prop:=Sor Z r.toList/\r.toList.Perm (a.toList++b.toList)
structure Pre(Z:KeyKind)(a b:Array Keyed):Prop where
 sa:Sor Z a.toList
 sb:Sor Z b.toList
 ka:∀(i:Nat) p,a[i]?=some p->Has Z p
 kb:∀(i:Nat) p,b[i]?=some p->Has Z p
 na:1<=a.size
 nb:1<=b.size
 first:∀q,b[0]?=some q->∀z∈a.toList,le Z q z
 last:∀p,a[a.size-1]?=some p->∀z∈b.toList,le Z z p
section
variable{a b o:Array Keyed}{i j k:Nat}{p q:Keyed}
theorem Pre.pushB(P:Pre Z a b)(m:ML Z a.toList b.toList o.toList i j)(hq:b[j]?=some q)(h:∀z∈a.toList.drop i,le Z q z):ML Z a.toList b.toList (o.push q).toList i (j+1):=by
 have h1:=m.addB P.sb 1 (by rw[Pf (ar_get.mp hq)];intro y hy;rw[AF.mp hy];exact h);rw[Pf (ar_get.mp hq)]at h1;rw[DI];exact h1
theorem Pre.pushA(P:Pre Z a b)(m:ML Z a.toList b.toList o.toList i j)(hp:a[i]?=some p)(h:∀z∈b.toList.drop j,le Z p z):ML Z a.toList b.toList (o.push p).toList (i+1) j:=by
 have h1:=m.addA P.sa 1 (by rw[Pf (ar_get.mp hp)];intro y hy;rw[AF.mp hy];exact h);rw[Pf (ar_get.mp hp)]at h1;rw[DI];exact h1
theorem Pre.extA(P:Pre Z a b)(m:ML Z a.toList b.toList o.toList i j)(h:∀y∈(a.toList.drop i).take k,∀z∈b.toList.drop j,le Z y z):ML Z a.toList b.toList (o++a.extract i (i+k)).toList (i+k) j:=by
 rw[BS,Bl];exact m.addA P.sa k h
theorem Pre.extB(P:Pre Z a b)(m:ML Z a.toList b.toList o.toList i j)(h:∀y∈(b.toList.drop j).take k,∀z∈a.toList.drop i,le Z y z):ML Z a.toList b.toList (o++b.extract j (j+k)).toList i (j+k):=by
 rw[BS,Bl];exact m.addB P.sb k h
theorem Pre.doneB(P:Pre Z a b)(m:ML Z a.toList b.toList o.toList i j)(hj:j=b.size):Rm Z a b (o++a.extract i a.size++b.extract j b.size):=by
 unfold Rm;rw[BS,BS,V5,V5];refine m.endA P.sa P.sb fun y _ z hz=>?_;rw[FJ (by rw[AQ];lia)]at hz;exact absurd hz (by simp)
theorem Pre.doneA(P:Pre Z a b)(m:ML Z a.toList b.toList o.toList i j)(hi:i=a.size):Rm Z a b (o++a.extract i a.size++b.extract j b.size):=by
 unfold Rm;rw[BS,BS,V5,V5];refine m.endA P.sa P.sb fun y hy z _=>?_;rw[FJ (by rw[AQ];lia)]at hy;exact absurd hy (by simp)
theorem Pre.lastA(P:Pre Z a b)(m:ML Z a.toList b.toList o.toList i j)(hi:i+1=a.size):Rm Z a b (o++b.extract j b.size++a.extract i a.size):=by
 unfold Rm;rw[BS,BS,V5,V5];refine m.endB P.sa P.sb fun y hy z hz=>?_;obtain⟨t,h1,h2⟩:=Ia hz;rw[AQ]at h1;have e:i+t=a.size-1:=by lia
 rw[e]at h2;exact P.last z (ar_get.mpr h2) y (FA hy)
end
theorem Sm.knd{st st':SortSt}(h:Sm st st'){k:SortKind}(hk:kindOf st=k):kindOf st'=k:=h.1.trans hk
theorem W8(C:Cmp prog w A s Z kd){st:SortSt}{left:Bool}{ky:Keyed}{ar:Array Keyed}{bs n ht:Nat}{Q:Option Nat->SortSt->Prop}(hk:kindOf st=kd)(hky:Has Z ky)
  (hsz:bs+n<=ar.size) (hh:∀(i:Nat) p,ar[i]?=some p->Has Z p) (hs:∀(u v:Nat) p q,u<=v->v<n->ar[bs+u]?=some p->ar[bs+v]?=some q->le Z p q) (hht:ht<n)
  (h:∀k,k<=n->(∀(t:Nat) p,t<k->ar[bs+t]?=some p->PB Z left ky p=true)->(∀(t:Nat) p,k<=t->t<n->ar[bs+t]?=some p->PB Z left ky p=false)->Q (some k) st) :
  wpS (model prog w) A E s (M8 left ky ar bs n ht) Q st:=by
 have key:∀t,t<n->∃p,ar[bs+t]?=some p:=fun t ht=>S9 (by lia);refine Ld C hk hky (fun t=>match ar[bs+t]? with | some p=>PB Z left ky p | none=>false) (fun i hi=>?_) (fun i j hij hj hp=>?_) hht fun k hk1 h1 h2=>?_
 .obtain⟨p,hp⟩:=key i hi;exact⟨p,hp,hh _ p hp,by rw[hp]⟩
 .obtain⟨p,e1⟩:=key i (by lia);obtain⟨q,e2⟩:=key j hj;rw[e2]at hp;rw[e1];have l:=hs i j p q hij hj e1 e2;dsimp only at hp⊢;unfold PB at hp⊢;cases left with
  | true =>
   simp only[FD]at hp⊢;exact KeyOrd.klt_of_kle_of_klt l hp
  | false =>
   simp only[BA,CQ,EK]at hp⊢;exact KeyOrd.kle_trans l hp
 .refine h k hk1 (fun t p ht hp=>?_) fun t p ht1 ht2 hp=>?_
  .have:=h1 t ht;rw[hp]at this;exact this
  .have:=h2 t ht1 ht2;rw[hp]at this;exact this
theorem Bn{ky p:Keyed}(h:PB Z false ky p=true):le Z p ky:=by
 unfold PB at h;show Z.blt (kk Z ky) (kk Z p)=false;simpa using h
theorem o0{ky p:Keyed}(h:PB Z false ky p=false):Z.klt (kk Z ky) (kk Z p):=by
 unfold PB at h;show Z.blt (kk Z ky) (kk Z p)=true;simpa using h
theorem Hb{ky p:Keyed}(h:PB Z true ky p=true):Z.klt (kk Z p) (kk Z ky):=by
 unfold PB at h;show Z.blt (kk Z p) (kk Z ky)=true;simpa using h
theorem Ck{ky p:Keyed}(h:PB Z true ky p=false):le Z ky p:=by
 unfold PB at h;show Z.blt (kk Z p) (kk Z ky)=false;simpa using h
section
variable{α:Type}{Q:α->SortSt->Prop}{st:SortSt}
theorem L9{c:Prop}{_:Decidable c}{t e:StateT SortSt Sem α}(h1:c->wpS (model prog w) A E s t Q st)(h2:¬c->wpS (model prog w) A E s e Q st):wpS (model prog w) A E s (if c then t else e) Q st:=by
 split
 .rename_i h;exact h1 h
 .rename_i h;exact h2 h
theorem F7{x y:Nat}{t e:StateT SortSt Sem α}(h1:x=y->wpS (model prog w) A E s t Q st)(h2:x≠y->wpS (model prog w) A E s e Q st):wpS (model prog w) A E s (if(x == y)=true then t else e) Q st :=
 L9 (fun h=>h1 (eq_of_beq h)) fun h=>h2 fun z=>h (beq_iff_eq.mpr z)
theorem Nx{c:Prop}{_:Decidable c}{t:StateT SortSt Sem α}{F:Nat->StateT SortSt Sem α}(x:Nat){y:Nat}(h:∀g,wpS (model prog w) A E s (F g) Q st)(e:t=F x):wpS (model prog w) A E s (if c then t else F y) Q st:=by
 subst e;exact L9 (fun _=>h _) fun _=>h _
theorem Bp{c:Prop}{_:Decidable c}{t:StateT SortSt Sem α}{F:Array Keyed->Nat->StateT SortSt Sem α}{o:Array Keyed}{i:Nat}(R:Array Keyed->Nat->Prop)(h:∀o i,R o i->wpS (model prog w) A E s (F o i) Q st)
  (hT:(∀o i,R o i->wpS (model prog w) A E s (F o i) Q st)->c->wpS (model prog w) A E s t Q st) (hE:¬c->R o i):wpS (model prog w) A E s (if c then t else F o i) Q st:=L9 (hT h) fun z=>h _ _ (hE z)
end
theorem Qk{α β:Type}{r0:Sem Unit}{el:StateT SortSt Sem Keyed}{x0:Keyed}{c1 c2:Prop}{_:Decidable c1}{_:Decidable c2}{t1 t2:Keyed->StateT SortSt Sem α}{ini:Keyed->SortSt->β}{n:Nat}{f:Nat->β->StateT SortSt Sem (ForInStep β)}{g:β->StateT SortSt Sem α}{Q:α->SortSt->Prop}{st:SortSt}
  (hr:∀R:Unit->SortSt->Prop,R () st->wpS (model prog w) A E s (liftM r0:StateT SortSt Sem Unit) R st) (he:∀R:Keyed->SortSt->Prop,R x0 st->wpS (model prog w) A E s el R st) (h1:c1->wpS (model prog w) A E s (t1 x0) Q st) (h2:¬c1->c2->wpS (model prog w) A E s (t2 x0) Q st)
  (h3:¬c1->¬c2->wpS (model prog w) A E s (forIn [0:n] (ini x0 st) f) (fun c st'=>wpS (model prog w) A E s (g c) Q st') st) :
  wpS (model prog w) A E s ((liftM r0:StateT SortSt Sem Unit) >>= fun _=>el >>= fun x=>if c1 then t1 x else if c2 then t2 x else get >>= fun st'=>forIn [0:n] (ini x st') f >>= g) Q st :=
 wpS_bind (hr _ (wpS_bind (he _ (L9 h1 fun z1=>L9 (h2 z1) fun z2=>wpS_bind (wpS_get (wpS_bind (h3 z1 z2)))))))
def MR(Z:KeyKind)(a b:Array Keyed)(st:SortSt){β:Type}(c:Option (Array Keyed)×β)(st':SortSt):Prop:=Sm st st'/\∃r,c.1=some r/\Rm Z a b r
theorem MR.mk{a b r:Array Keyed}{st st':SortSt}{β:Type}{c:β}(sm:Sm st st')(h:Rm Z a b r):MR Z a b st (some r,c) st':=⟨sm,r,rfl,h⟩
structure LoP(Z:KeyKind)(a b:Array Keyed)(n:Nat)(o:Array Keyed)(i j:Nat):Prop where
 m:ML Z a.toList b.toList o.toList i j
 hi:i+1<a.size
 hj:j<b.size
 hn:n<=i+j
theorem LoP.putB{a b o o':Array Keyed}{n i j:Nat}(h:LoP Z a b n o i j)(m:ML Z a.toList b.toList o'.toList i (j+1))(e:j+1≠b.size):LoP Z a b (n+1) o' i (j+1):=⟨m,h.hi,EG h.hj e,Nat.succ_le_succ h.hn⟩
theorem LoP.putA{a b o o':Array Keyed}{n i j:Nat}(h:LoP Z a b n o i j)(m:ML Z a.toList b.toList o'.toList (i+1) j)(e:i+1+1≠a.size):LoP Z a b (n+1) o' (i+1) j:=⟨m,EG h.hi e,h.hj,by rw[Nat.add_right_comm];exact Nat.succ_le_succ h.hn⟩
theorem LoP.mono{a b o:Array Keyed}{n n' i j:Nat}(h:LoP Z a b n o i j)(l:n'<=n):LoP Z a b n' o i j:=⟨h.m,h.hi,h.hj,Nat.le_trans l h.hn⟩
def zFv(Z:KeyKind)(a b:Array Keyed)(st:SortSt)(n:Nat)(c:Option (Array Keyed)×Array Keyed×Nat×Nat×Nat)(st':SortSt):Prop:=Sm st st'/\∃o i j mg,c =(none,o,i,j,mg)/\LoP Z a b n o i j
def LoI2(Z:KeyKind)(a b:Array Keyed)(st:SortSt)(n:Nat)(c:Option (Array Keyed)×Array Keyed×Nat×Nat×Nat×Nat)(st':SortSt):Prop:=Sm st st'/\∃o i j ac bc,c =(none,o,i,j,ac,bc)/\LoP Z a b n o i j
def LoI3(Z:KeyKind)(a b:Array Keyed)(st:SortSt)(n:Nat)(c:Option (Array Keyed)×Array Keyed×Nat×Nat×Nat×Nat×Nat)(st':SortSt):Prop:=Sm st st'/\∃o i j mg ac bc,c =(none,o,i,j,mg,ac,bc)/\LoP Z a b n o i j
theorem LoI2.mk{a b o:Array Keyed}{st st':SortSt}{n i j ac bc:Nat}(sm:Sm st st')(h:LoP Z a b n o i j):LoI2 Z a b st n (none,o,i,j,ac,bc) st':=⟨sm,_,_,_,_,_,rfl,h⟩
theorem LoI3.mk{a b o:Array Keyed}{st st':SortSt}{n i j mg ac bc:Nat}(sm:Sm st st')(h:LoP Z a b n o i j):LoI3 Z a b st n (none,o,i,j,mg,ac,bc) st':=⟨sm,_,_,_,_,_,_,rfl,h⟩
theorem Hc(C:Cmp prog w A s Z kd){st:SortSt}{a b:Array Keyed}{Q:Array Keyed->SortSt->Prop}(hk:kindOf st=kd)(P:Pre Z a b)
  (h:∀r st',Sm st st'->Rm Z a b r->Q r st'):wpS (model prog w) A E s (Bt a b) Q st:=by
 rw[Hh];obtain⟨b0,hb0⟩:=S9 (a:=b) (i:=0) P.nb;have m0:ML Z a.toList b.toList (#[]:Array Keyed).toList 0 0:=⟨by simp,List.Pairwise.nil,fun x hx=>absurd hx (by simp),fun x hx=>absurd hx (by simp)⟩;have m1:ML Z a.toList b.toList (#[b0]:Array Keyed).toList 0 1:=by
  have:=P.pushB m0 hb0 (by rw[FO];exact P.first b0 hb0);simpa using this
 apply Qk (x0:=b0) (fun R z=>wpS_lift (ET ⟨rfl,z⟩)) (fun R z=>C6 hb0 z)
 case h1=>exact fun hb1=>wpS_pure (h _ _ (Sm.refl _) (P.doneB m1 (eq_of_beq hb1)))
 case h2=>exact fun _ ha1=>wpS_pure (h _ _ (Sm.refl _) (P.lastA m1 (eq_of_beq ha1)))
 intro hb1 ha1;have p1:LoP Z a b 1 #[b0] 0 1:=⟨m1,EG P.na fun z=>ha1 (beq_iff_eq.mpr z),EG P.nb fun z=>hb1 (beq_iff_eq.mpr z),Nat.le_refl _⟩;refine wpS_mono (wpS_forRange (I:=fun x=>zFv Z a b st (x+1)) (Q:=MR Z a b st) ?st ?en ⟨Sm.refl _,_,_,_,_,rfl,p1⟩) ?po
 case po =>
  rintro⟨c1,c2⟩ st' ⟨sm,r,e,hr⟩;cases e;exact wpS_pure (h r st' sm hr)
 case en =>
  rintro c st' ⟨sm,o,i,j,mg,rfl,p⟩;obtain⟨_,h1,h2,h3⟩:=p;exfalso;lia
 case st =>
  rintro x c st' _ hx ⟨sm,o,i,j,mg,rfl,p⟩;refine wpS_bind (wpS_mono (wpS_forRange (I:=fun _=>LoI2 Z a b st (x+1)) (Q:=fun c st'=>MR Z a b st c st'\/LoI2 Z a b st (x+1) c st') ?st1 ?en1 (LoI2.mk sm p)) ?po1)
  case en1=>exact fun c st2 z=>.inr z
  case st1 =>
   rintro x2 c st2 _ _ ⟨sm2,o,i',j',ac,bc,rfl,p2⟩;obtain⟨bj,hbj⟩:=S9 (a:=b) (i:=j') p2.hj;obtain⟨ai,hai⟩:=S9 (a:=a) (i:=i') (GY p2.hi);refine wpS_bind (C6 hbj (wpS_bind (C6 hai (wpS_bind (Fb C (sm2.knd hk) (P.kb _ _ hbj) (P.ka _ _ hai) ?_)))));refine L9 (fun hlt=>wpS_bind (C6 hbj ?_)) fun hlt=>wpS_bind (C6 hai ?_)
   .have m3:=P.pushB p2.m hbj fun z hz=>le_trans (KeyOrd.kle_of_klt hlt) (Bj P.sa (ar_get.mp hai) z hz);refine F7 (fun e1=>wpS_pure (.inl (MR.mk sm2 (P.doneB m3 e1)))) fun e1=>?_;have p3:=(p2.putB m3 e1).mono (CV _);exact L9 (fun _=>wpS_pure (.inr (LoI2.mk sm2 p3))) fun _=>wpS_pure (LoI2.mk sm2 p3)
   .have m3:=P.pushA p2.m hai fun z hz=>le_trans (show le Z ai bj from BM.mpr hlt) (Bj P.sb (ar_get.mp hbj) z hz);refine F7 (fun e1=>wpS_pure (.inl (MR.mk sm2 (P.lastA m3 e1)))) fun e1=>?_;have p3:=(p2.putA m3 e1).mono (CV _);exact L9 (fun _=>wpS_pure (.inr (LoI2.mk sm2 p3))) fun _=>wpS_pure (LoI2.mk sm2 p3)
  case po1 =>
   rintro⟨c1,c2⟩ st2 (⟨sm2,r,e,hr⟩ | ⟨sm2,o2,i2,j2,ac,bc,e,p2⟩)
   .cases e;exact wpS_pure (MR.mk sm2 hr)
   .cases e;refine wpS_bind (wpS_lift (ET ⟨rfl,?_⟩));refine wpS_bind (wpS_mono (wpS_forRange (I:=fun x3=>LoI3 Z a b st (x+1+x3)) (Q:=fun c st'=>MR Z a b st c st'\/LoI3 Z a b st (x+1+1) c st') ?st2 ?en2 (LoI3.mk sm2 p2)) ?po2)
    case en2 =>
     rintro c st3 ⟨sm3,o',i',j',mg',ac,bc,rfl,p3⟩;refine .inr (LoI3.mk sm3 (p3.mono ?_));have:=P.na;lia
    case po2 =>
     rintro⟨c1,c2⟩ st3 (⟨sm3,r,e,hr⟩ | ⟨sm3,o',i',j',mg',ac,bc,e,p3⟩)
     .cases e;exact wpS_pure (MR.mk sm3 hr)
     .cases e;refine wpS_bind (Q6 sm3 fun st4 sm4=>?_);exact wpS_pure ⟨sm4,_,_,_,_,rfl,p3⟩
    case st2 =>
     rintro x3 c st3 _ _ ⟨sm3,o3,i3,j3,mg3,ac3,bc3,rfl,p3⟩;obtain⟨bj,hbj⟩:=S9 (a:=b) (i:=j3) p3.hj;have hi3:i3 +(a.size-i3)<=a.size:=by rw[Nat.add_sub_cancel' (EX (GY p3.hi))];exact Nat.le_refl _
     have hj3:=p3.hj;apply Nx (mg3-1) (y:=mg3)
     case e=>exact rfl
     intro g;refine wpS_bind (Q6 sm3 fun st4 sm4=>?_);refine wpS_bind (C6 hbj (wpS_bind (W8 C (sm4.knd hk) (P.kb _ _ hbj) hi3 P.ka (fun u v p q huv _ e1 e2=>X4 P.sa (GF huv _) (ar_get.mp e1) (ar_get.mp e2)) (Nat.sub_pos_of_lt (GY p3.hi)) fun k hk1 k1 k2=>?_)));have m4:ML Z a.toList b.toList (o3++a.extract i3 (i3+k)).toList (i3+k) j3:=P.extA p3.m fun y hy z hz=>by
      obtain⟨t,ht,e⟩:=Ay hy;exact le_trans (Bn (k1 t y ht (ar_get.mpr e))) (Bj P.sb (ar_get.mp hbj) z hz)
     have hbz:∀z∈a.toList.drop (i3+k),le Z bj z:=fun z hz=>by
      obtain⟨t,ht,e⟩:=Ia hz;rw[AQ]at ht;exact KeyOrd.kle_of_klt (o0 (k2 (k+t) z (CY _ _) (by lia) (by rw[<-Nat.add_assoc];exact ar_get.mpr e)))
     apply Bp (o:=o3) (i:=i3) (fun o i=>LoP Z a b (x+1+x3) o i j3/\∀z∈a.toList.drop i,le Z bj z)
     .rintro o4 i4 ⟨p4,hbz⟩;refine wpS_bind (C6 hbj ?_);have m5:=P.pushB p4.m hbj hbz;refine F7 (fun e3=>wpS_pure (.inl (MR.mk sm4 (P.doneB m5 e3)))) fun e3=>?_;have p5:=p4.putB m5 e3;generalize o4.push bj=o5 at m5 p5⊢;generalize j3+1=j5 at m5 p5⊢;obtain⟨ai,hai⟩:=S9 (a:=a) (i:=i4) (GY p5.hi);refine wpS_bind (C6 hai (wpS_bind (W8 C (sm4.knd hk) (P.ka _ _ hai) (by rw[Nat.add_sub_cancel' (EX p5.hj)];exact Nat.le_refl _) P.kb (fun u v p q huv _ e1 e2=>X4 P.sb (GF huv _) (ar_get.mp e1) (ar_get.mp e2)) (Nat.sub_pos_of_lt p5.hj) fun k' hk1' k1' k2'=>?_)));have haz:∀z∈b.toList.drop (j5+k'),le Z ai z:=fun z hz=>by
       obtain⟨t,ht,e⟩:=Ia hz;rw[AQ]at ht;exact Ck (k2' (k'+t) z (CY _ _) (by lia) (by rw[<-Nat.add_assoc];exact ar_get.mpr e))
      apply Bp (o:=o5) (i:=j5) (fun o j=>LoP Z a b (x+1+x3+1) o i4 j/\∀z∈b.toList.drop j,le Z ai z)
      .rintro o6 j6 ⟨p6,haz⟩;refine wpS_bind (C6 hai ?_);have m7:=P.pushA p6.m hai haz;refine F7 (fun e5=>wpS_pure (.inl (MR.mk sm4 (P.lastA m7 e5)))) fun e5=>?_;have p7:=p6.putA m7 e5;exact L9 (fun _=>wpS_pure (.inr (LoI3.mk sm4 (p7.mono (by lia))))) fun _=>wpS_pure (LoI3.mk sm4 (p7.mono (by lia)))
      .intro hF hk0;have m6:ML Z a.toList b.toList (o5++b.extract j5 (j5+k')).toList i4 (j5+k'):=P.extB m5 fun y hy z hz=>by
        obtain⟨t,ht,e⟩:=Ay hy;exact le_trans (KeyOrd.kle_of_klt (Hb (k1' t y ht (ar_get.mpr e)))) (Bj P.sa (ar_get.mp hai) z hz)
       have hj5:=p5.hj;exact F7 (fun e4=>wpS_pure (.inl (MR.mk sm4 (P.doneB m6 e4)))) fun e4=>hF _ _ ⟨⟨m6,p5.hi,by lia,Nat.le_trans p5.hn (by lia)⟩,haz⟩
      .intro hk0;have z0:k'=0:=GN hk0;subst z0;exact⟨p5,haz⟩
     .intro hF hk0;have hi:=p3.hi;exact F7 (fun e1=>wpS_pure (.inl (MR.mk sm4 (P.lastA m4 e1)))) fun e1=>F7 (fun e2=>wpS_pure (.inl (MR.mk sm4 (P.doneA m4 e2)))) fun e2=>hF _ _ ⟨⟨m4,by lia,p3.hj,Nat.le_trans p3.hn (by lia)⟩,hbz⟩
     .intro hk0;have z0:k=0:=GN hk0;subst z0;exact⟨p3,hbz⟩
end
section
variable{prog:Program}{w:World}{A:Around}{E:Value->Shared->Prop}{s:Shared}{Z:KeyKind}{kd:SortKind}
def Bo:Array Keyed->Array Keyed->StateT SortSt Sem (Array Keyed):=sortPriv% PySem.Builtin.mergeHi
theorem Gf(a b:Array Keyed):Bo a b =(do
  rule "list.sort.merge-hi"
  let tot:=a.size+b.size
  let dn (o:Array Keyed) (i j:Nat):=a.extract 0 i++b.extract 0 j++o.reverse
  let fB (o:Array Keyed) (i j:Nat):=b.extract 0 j++a.extract 0 i++o.reverse
  let mut i:=a.size-1
  let mut j:=b.size
  let mut o:Array Keyed:=#[<-elem' a i]
  if i == 0 then return dn o i j
  if j == 1 then return fB o i j
  let mut mg:=gallopOf (<-get)
  for _ in [0:tot] do
   let mut ac:=0
   let mut bc:=0
   for _ in [0:tot] do
    let some aw <-lt' (<-elem' b (j-1)) (<-elem' a (i-1)) | return dn o i j
    if aw then
     i:=i-1;o:=o.push (<-elem' a i);ac:=ac+1;bc:=0
     if i == 0 then return dn o i j
     if ac ≥ mg then break
    else
     j:=j-1;o:=o.push (<-elem' b j);bc:=bc+1;ac:=0
     if j == 1 then return fB o i j
     if bc ≥ mg then break
   rule "list.sort.gallop"
   mg:=mg+1
   for _ in [0:tot] do
    if mg>1 then mg:=mg-1
    l9 mg
    let some at_ <-M8 false (<-elem' b (j-1)) a 0 i (i-1) | return dn o i j
    let k:=i-at_
    ac:=k
    if k>0 then
     o:=o ++(a.extract at_ i).reverse;i:=at_
     if i == 0 then return dn o i j
    j:=j-1;o:=o.push (<-elem' b j)
    if j == 1 then return fB o i j
    let some at_ <-M8 true (<-elem' a (i-1)) b 0 j (j-1) | return dn o i j
    let k:=j-at_
    bc:=k
    if k>0 then
     o:=o ++(b.extract at_ j).reverse;j:=at_
     if j == 1 then return fB o i j
     if j == 0 then return dn o i j
    i:=i-1;o:=o.push (<-elem' a i)
    if i == 0 then return dn o i j
    if ac<7&&bc<7 then break
   mg:=mg+1
   l9 mg
  unsupported "internal:list.sort.merge-bound"):=rfl
abbrev MHa(Z:KeyKind)(a b o:Array Keyed)(i j:Nat):Prop:=MH Z a.toList b.toList o.toList.reverse i j
section
variable{a b o:Array Keyed}{i j k:Nat}{p q:Keyed}
theorem td1{l:List Keyed}{i:Nat}{p:Keyed}(hi:1<=i)(h:l[i-1]?=some p):(l.take i).drop (i-1) = [p]:=by
 rw[G_,show i-(i-1)=1 by lia];exact Pf h
theorem Gn(a:Array Keyed)(k i:Nat):(a.extract k i).toList =(a.toList.take i).drop k:=by
 rw[FB,ER,G_]
theorem By{l:List Keyed}(h:Sor Z l){i:Nat}{p:Keyed}(hp:l[i-1]?=some p):∀z∈l.take i,le Z z p:=fun z hz=>by
 obtain⟨t,h1,_,e⟩:=Lc hz;exact X4 h (by lia) e hp
theorem Pre.hpA(P:Pre Z a b)(m:MHa Z a b o i j)(hi:1<=i)(hp:a[i-1]?=some p)(h:∀z∈b.toList.take j,le Z z p):MHa Z a b (o.push p) (i-1) j:=by
 have h1:=m.addA P.sa (i-1) (by lia) (by rw[td1 hi (ar_get.mp hp)];intro y hy;rw[AF.mp hy];exact h);rw[td1 hi (ar_get.mp hp)]at h1;unfold MHa;rw[DI,HG];exact h1
theorem Pre.hpB(P:Pre Z a b)(m:MHa Z a b o i j)(hj:1<=j)(hq:b[j-1]?=some q)(h:∀z∈a.toList.take i,le Z z q):MHa Z a b (o.push q) i (j-1):=by
 have h1:=m.addB P.sb (j-1) (by lia) (by rw[td1 hj (ar_get.mp hq)];intro y hy;rw[AF.mp hy];exact h);rw[td1 hj (ar_get.mp hq)]at h1;unfold MHa;rw[DI,HG];exact h1
theorem Pre.heA(P:Pre Z a b)(m:MHa Z a b o i j)(hk:k<=i)(h:∀y∈(a.toList.take i).drop k,∀z∈b.toList.take j,le Z z y):MHa Z a b (o ++(a.extract k i).reverse) k j:=by
 unfold MHa;rw[BS,GA,HG,List.reverse_reverse,Gn];exact m.addA P.sa k hk h
theorem Pre.heB(P:Pre Z a b)(m:MHa Z a b o i j)(hk:k<=j)(h:∀y∈(b.toList.take j).drop k,∀z∈a.toList.take i,le Z z y):MHa Z a b (o ++(b.extract k j).reverse) i k:=by
 unfold MHa;rw[BS,GA,HG,List.reverse_reverse,Gn];exact m.addB P.sb k hk h
theorem Pre.hdA(P:Pre Z a b)(m:MHa Z a b o i j)(hi:i=0):Rm Z a b (a.extract 0 i++b.extract 0 j++o.reverse):=by
 unfold Rm;rw[BS,BS,GA,V6,V6];refine m.endA P.sa P.sb fun y hy z _=>?_;rw[hi,List.take_zero]at hy;exact absurd hy (by simp)
theorem Pre.hdB(P:Pre Z a b)(m:MHa Z a b o i j)(hj:j=0):Rm Z a b (a.extract 0 i++b.extract 0 j++o.reverse):=by
 unfold Rm;rw[BS,BS,GA,V6,V6];refine m.endA P.sa P.sb fun y _ z hz=>?_;rw[hj,List.take_zero]at hz;exact absurd hz (by simp)
theorem Pre.hfB(P:Pre Z a b)(m:MHa Z a b o i j)(hj:j=1):Rm Z a b (b.extract 0 j++a.extract 0 i++o.reverse):=by
 unfold Rm;rw[BS,BS,GA,V6,V6];refine m.endB P.sa P.sb fun y hy z hz=>?_;obtain⟨t,h1,_,e⟩:=Lc hy;have e0:t=0:=by lia
 rw[e0]at e;exact P.first y (ar_get.mpr e) z (CK hz)
end
structure HiP(Z:KeyKind)(a b:Array Keyed)(n:Nat)(o:Array Keyed)(i j:Nat):Prop where
 m:MHa Z a b o i j
 hi:1<=i
 hj:2<=j
 ia:i<=a.size
 jb:j<=b.size
 hn:n+i+j<=a.size+b.size
theorem HiP.putA{a b o o':Array Keyed}{n i j:Nat}(h:HiP Z a b n o i j)(m:MHa Z a b o' (i-1) j)(e:i-1≠0):HiP Z a b (n+1) o' (i-1) j:=by
 obtain⟨_,h1,h2,h3,h4,h5⟩:=h;exact⟨m,by lia,h2,by lia,h4,by lia⟩
theorem HiP.putB{a b o o':Array Keyed}{n i j:Nat}(h:HiP Z a b n o i j)(m:MHa Z a b o' i (j-1))(e:j-1≠1):HiP Z a b (n+1) o' i (j-1):=by
 obtain⟨_,h1,h2,h3,h4,h5⟩:=h;exact⟨m,h1,by lia,h3,by lia,by lia⟩
theorem HiP.mono{a b o:Array Keyed}{n n' i j:Nat}(h:HiP Z a b n o i j)(l:n'<=n):HiP Z a b n' o i j:=⟨h.m,h.hi,h.hj,h.ia,h.jb,Nat.le_trans (Nat.add_le_add_right (Nat.add_le_add_right l _) _) h.hn⟩
theorem HiP.la{a b o:Array Keyed}{n i j:Nat}(h:HiP Z a b n o i j):i-1<a.size:=BH (Nat.sub_lt h.hi (HQ)) h.ia
theorem HiP.lb{a b o:Array Keyed}{n i j:Nat}(h:HiP Z a b n o i j):j-1<b.size:=BH (Nat.sub_lt (GY h.hj) (HQ)) h.jb
theorem HiP.hj1{a b o:Array Keyed}{n i j:Nat}(h:HiP Z a b n o i j):1<=j:=Nat.le_of_succ_le h.hj
def zFt(Z:KeyKind)(a b:Array Keyed)(st:SortSt)(n:Nat)(c:Option (Array Keyed)×Nat×Nat×Array Keyed×Nat)(st':SortSt):Prop:=Sm st st'/\∃i j o mg,c =(none,i,j,o,mg)/\HiP Z a b n o i j
def HiI2(Z:KeyKind)(a b:Array Keyed)(st:SortSt)(n:Nat)(c:Option (Array Keyed)×Nat×Nat×Array Keyed×Nat×Nat)(st':SortSt):Prop:=Sm st st'/\∃i j o ac bc,c =(none,i,j,o,ac,bc)/\HiP Z a b n o i j
def HiI3(Z:KeyKind)(a b:Array Keyed)(st:SortSt)(n:Nat)(c:Option (Array Keyed)×Nat×Nat×Array Keyed×Nat×Nat×Nat)(st':SortSt):Prop:=Sm st st'/\∃i j o mg ac bc,c =(none,i,j,o,mg,ac,bc)/\HiP Z a b n o i j
theorem HiI2.mk{a b o:Array Keyed}{st st':SortSt}{n i j ac bc:Nat}(sm:Sm st st')(h:HiP Z a b n o i j):HiI2 Z a b st n (none,i,j,o,ac,bc) st':=⟨sm,_,_,_,_,_,rfl,h⟩
theorem HiI3.mk{a b o:Array Keyed}{st st':SortSt}{n i j mg ac bc:Nat}(sm:Sm st st')(h:HiP Z a b n o i j):HiI3 Z a b st n (none,i,j,o,mg,ac,bc) st':=⟨sm,_,_,_,_,_,_,rfl,h⟩
theorem Gm(C:Cmp prog w A s Z kd){st:SortSt}{a b:Array Keyed}{Q:Array Keyed->SortSt->Prop}(hk:kindOf st=kd)(P:Pre Z a b)
  (h:∀r st',Sm st st'->Rm Z a b r->Q r st'):wpS (model prog w) A E s (Bo a b) Q st:=by
 rw[Gf];have hna:=P.na;have hnb:=P.nb;obtain⟨b0,hb0⟩:=S9 (a:=a) (i:=a.size-1) (Nat.sub_lt hna HQ);have m0:MHa Z a b (#[]:Array Keyed) a.size b.size:=⟨by simp,List.Pairwise.nil,fun x hx=>absurd hx (by simp),fun x hx=>absurd hx (by simp)⟩;have m1:MHa Z a b (#[b0]:Array Keyed) (a.size-1) b.size:=by
  have:=P.hpA m0 hna hb0 (fun z hz=>P.last b0 hb0 z (CK hz));simpa using this
 apply Qk (x0:=b0) (fun R z=>wpS_lift (ET ⟨rfl,z⟩)) (fun R z=>C6 hb0 z)
 case h1=>exact fun ha1=>wpS_pure (h _ _ (Sm.refl _) (P.hdA m1 (eq_of_beq ha1)))
 case h2=>exact fun _ hb1=>wpS_pure (h _ _ (Sm.refl _) (P.hfB m1 (eq_of_beq hb1)))
 intro ha1 hb1;have ha1:¬a.size-1=0:=fun z=>ha1 (beq_iff_eq.mpr z);have hb1:¬b.size=1:=fun z=>hb1 (beq_iff_eq.mpr z);have p1:HiP Z a b 1 #[b0] (a.size-1) b.size:=⟨m1,by lia,by lia,by lia,by lia,by lia⟩;refine wpS_mono (wpS_forRange (I:=fun x=>zFt Z a b st (x+1)) (Q:=MR Z a b st) ?st ?en ⟨Sm.refl _,_,_,_,_,rfl,p1⟩) ?po
 case po =>
  rintro⟨c1,c2⟩ st' ⟨sm,r,e,hr⟩;cases e;exact wpS_pure (h r st' sm hr)
 case en =>
  rintro c st' ⟨sm,i,j,o,mg,rfl,p⟩;obtain⟨_,h1,h2,_,_,h3⟩:=p;exfalso;lia
 case st =>
  rintro x c st' _ hx ⟨sm,i,j,o,mg,rfl,p⟩;refine wpS_bind (wpS_mono (wpS_forRange (I:=fun _=>HiI2 Z a b st (x+1)) (Q:=fun c st'=>MR Z a b st c st'\/HiI2 Z a b st (x+1) c st') ?st1 ?en1 (HiI2.mk sm p)) ?po1)
  case en1=>exact fun c st2 z=>.inr z
  case st1 =>
   rintro x2 c st2 _ _ ⟨sm2,i',j',o,ac,bc,rfl,p2⟩;obtain⟨bj,hbj⟩:=S9 (a:=b) (i:=j' - 1) p2.lb;obtain⟨ai,hai⟩:=S9 (a:=a) (i:=i' - 1) p2.la;refine wpS_bind (C6 hbj (wpS_bind (C6 hai (wpS_bind (Fb C (sm2.knd hk) (P.kb _ _ hbj) (P.ka _ _ hai) ?_)))));refine L9 (fun hlt=>wpS_bind (C6 hai ?_)) fun hlt=>wpS_bind (C6 hbj ?_)
   .have m3:=P.hpA p2.m p2.hi hai fun z hz=>le_trans (By P.sb (ar_get.mp hbj) z hz) (KeyOrd.kle_of_klt hlt);refine F7 (fun e1=>wpS_pure (.inl (MR.mk sm2 (P.hdA m3 e1)))) fun e1=>?_;have p3:=(p2.putA m3 e1).mono (CV _);exact L9 (fun _=>wpS_pure (.inr (HiI2.mk sm2 p3))) fun _=>wpS_pure (HiI2.mk sm2 p3)
   .have m3:=P.hpB p2.m p2.hj1 hbj fun z hz=>le_trans (By P.sa (ar_get.mp hai) z hz) (show le Z ai bj from BM.mpr hlt);refine F7 (fun e1=>wpS_pure (.inl (MR.mk sm2 (P.hfB m3 e1)))) fun e1=>?_;have p3:=(p2.putB m3 e1).mono (CV _);exact L9 (fun _=>wpS_pure (.inr (HiI2.mk sm2 p3))) fun _=>wpS_pure (HiI2.mk sm2 p3)
  case po1 =>
   rintro⟨c1,c2⟩ st2 (⟨sm2,r,e,hr⟩ | ⟨sm2,i2,j2,o2,ac,bc,e,p2⟩)
   .cases e;exact wpS_pure (MR.mk sm2 hr)
   .cases e;refine wpS_bind (wpS_lift (ET ⟨rfl,?_⟩));refine wpS_bind (wpS_mono (wpS_forRange (I:=fun x3=>HiI3 Z a b st (x+1+x3)) (Q:=fun c st'=>MR Z a b st c st'\/HiI3 Z a b st (x+1+1) c st') ?st2 ?en2 (HiI3.mk sm2 p2)) ?po2)
    case en2 =>
     rintro c st3 ⟨sm3,i',j',o',mg',ac,bc,rfl,p3⟩;exact .inr (HiI3.mk sm3 (p3.mono (by lia)))
    case po2 =>
     rintro⟨c1,c2⟩ st3 (⟨sm3,r,e,hr⟩ | ⟨sm3,i',j',o',mg',ac,bc,e,p3⟩)
     .cases e;exact wpS_pure (MR.mk sm3 hr)
     .cases e;refine wpS_bind (Q6 sm3 fun st4 sm4=>?_);exact wpS_pure ⟨sm4,_,_,_,_,rfl,p3⟩
    case st2 =>
     rintro x3 c st3 _ _ ⟨sm3,i3,j3,o3,mg3,ac3,bc3,rfl,p3⟩;obtain⟨bj,hbj⟩:=S9 (a:=b) (i:=j3-1) p3.lb;apply Nx (mg3-1) (y:=mg3)
     case e=>exact rfl
     intro g;refine wpS_bind (Q6 sm3 fun st4 sm4=>?_);refine wpS_bind (C6 hbj (wpS_bind (W8 C (sm4.knd hk) (P.kb _ _ hbj) (by rw[D_];exact p3.ia) P.ka (fun u v p q huv _ e1 e2=>X4 P.sa (GF huv _) (ar_get.mp e1) (ar_get.mp e2)) (Nat.sub_lt p3.hi HQ) fun k hk1 k1 k2=>?_)));dsimp only;have m4:MHa Z a b (o3 ++(a.extract k i3).reverse) k j3:=P.heA p3.m hk1 fun y hy z hz=>by
      obtain⟨t,ht1,ht2,e⟩:=Va hy;exact le_trans (By P.sb (ar_get.mp hbj) z hz) (KeyOrd.kle_of_klt (o0 (k2 t y ht1 ht2 (by rw[D_];exact ar_get.mpr e))))
     have hbz:∀z∈a.toList.take k,le Z z bj:=fun z hz=>by
      obtain⟨t,ht,_,e⟩:=Lc hz;exact Bn (k1 t z ht (by rw[D_];exact ar_get.mpr e))
     generalize hd:i3-k=d;apply Bp (o:=o3) (i:=i3) (fun o i=>HiP Z a b (x+1+x3) o i j3/\∀z∈a.toList.take i,le Z z bj)
     .rintro o4 i4 ⟨p4,hbz⟩;refine wpS_bind (C6 hbj ?_);have m5:=P.hpB p4.m p4.hj1 hbj hbz;refine F7 (fun e3=>wpS_pure (.inl (MR.mk sm4 (P.hfB m5 e3)))) fun e3=>?_;have p5:=p4.putB m5 e3;generalize o4.push bj=o5 at m5 p5⊢;generalize j3-1=j5 at m5 p5⊢;obtain⟨ai,hai⟩:=S9 (a:=a) (i:=i4-1) p5.la;refine wpS_bind (C6 hai (wpS_bind (W8 C (sm4.knd hk) (P.ka _ _ hai) (by rw[D_];exact p5.jb) P.kb (fun u v p q huv _ e1 e2=>X4 P.sb (GF huv _) (ar_get.mp e1) (ar_get.mp e2)) (Nat.sub_lt p5.hj1 HQ) fun k' hk1' k1' k2'=>?_)));dsimp only;have haz:∀z∈b.toList.take k',le Z z ai:=fun z hz=>by
       obtain⟨t,ht,_,e⟩:=Lc hz;exact KeyOrd.kle_of_klt (Hb (k1' t z ht (by rw[D_];exact ar_get.mpr e)))
      generalize hd':j5-k'=d';apply Bp (o:=o5) (i:=j5) (fun o j=>HiP Z a b (x+1+x3+1) o i4 j/\∀z∈b.toList.take j,le Z z ai)
      .rintro o6 j6 ⟨p6,haz⟩;refine wpS_bind (C6 hai ?_);have m7:=P.hpA p6.m p6.hi hai haz;refine F7 (fun e5=>wpS_pure (.inl (MR.mk sm4 (P.hdA m7 e5)))) fun e5=>?_;have p7:=p6.putA m7 e5;exact L9 (fun _=>wpS_pure (.inr (HiI3.mk sm4 (p7.mono (by lia))))) fun _=>wpS_pure (HiI3.mk sm4 (p7.mono (by lia)))
      .intro hF hk0;have m6:MHa Z a b (o5 ++(b.extract k' j5).reverse) i4 k':=P.heB m5 hk1' fun y hy z hz=>by
        obtain⟨t,ht1,ht2,e⟩:=Va hy;exact le_trans (By P.sa (ar_get.mp hai) z hz) (Ck (k2' t y ht1 ht2 (by rw[D_];exact ar_get.mpr e)))
       obtain⟨_,h1,h2,h3,h4,h5⟩:=p5;exact F7 (fun e4=>wpS_pure (.inl (MR.mk sm4 (P.hfB m6 e4)))) fun e4=>F7 (fun e5=>wpS_pure (.inl (MR.mk sm4 (P.hdB m6 e5)))) fun e5=>hF _ _ ⟨⟨m6,h1,by lia,h3,Nat.le_trans hk1' h4,by lia⟩,haz⟩
      .intro hk0;have z0:k'=j5:=Nat.le_antisymm hk1' (Nat.le_of_sub_eq_zero (hd'.trans (GN hk0)));subst z0;exact⟨p5,haz⟩
     .intro hF hk0;obtain⟨_,h1,h2,h3,h4,h5⟩:=p3;exact F7 (fun e1=>wpS_pure (.inl (MR.mk sm4 (P.hdA m4 e1)))) fun e1=>hF _ _ ⟨⟨m4,by lia,h2,Nat.le_trans hk1 h3,h4,by lia⟩,hbz⟩
     .intro hk0;have z0:k=i3:=Nat.le_antisymm hk1 (Nat.le_of_sub_eq_zero (hd.trans (GN hk0)));subst z0;exact⟨p3,hbz⟩
end
section
variable{prog:Program}{w:World}{A:Around}{E:Value->Shared->Prop}{s:Shared}{Z:KeyKind}{kd:SortKind}
def seg(l:List Keyed)(lo n:Nat):List Keyed:=(l.drop lo).take n
theorem Pb(m:List Keyed)(lo:Nat):∀(n:Nat) (a:Array Keyed),lo+n+m.length<=a.size ->
  ((m.zipIdx n).foldl (fun a (x:Keyed×Nat)=>a.setIfInBounds (lo+x.2) x.1) a).size=a.size /\
  ∀t:Nat,((m.zipIdx n).foldl (fun a (x:Keyed×Nat)=>a.setIfInBounds (lo+x.2) x.1) a)[t]?=if lo+n<=t/\t<lo+n+m.length then m[t-(lo+n)]? else a[t]?:=by
 induction m with
 | nil =>
  intro n a h;refine⟨rfl,fun t=>?_⟩;rw[AK (by simp only[GR];omega)];rfl
 | cons p m ih =>
  intro n a h;rw[BL]at h;rw[List.zipIdx_cons,FX];obtain⟨i1,i2⟩:=ih (n+1) (a.setIfInBounds (lo+n) p) (by rw[HJ];omega);refine⟨i1.trans HJ,fun t=>?_⟩;rw[i2 t,BL];by_cases h1:lo+n=t
  .subst h1;rw[AK (by omega),AO (by omega),Array.getElem?_setIfInBounds_self_of_lt (by omega),Nat.sub_self];rfl
  .by_cases h2:lo +(n+1)<=t/\t<lo +(n+1)+m.length
   .rw[AO h2,AO (by omega),show t-(lo+n) =(t-(lo +(n+1)))+1 by omega,List.getElem?_cons_succ]
   .rw[AK h2,AK (by omega),Array.getElem?_setIfInBounds_ne h1]
theorem Ac(m:List Keyed)(lo:Nat)(a:Array Keyed)(h:lo+m.length<=a.size) :
  (m.zipIdx.foldl (fun a (x:Keyed×Nat)=>a.setIfInBounds (lo+x.2) x.1) a).toList=a.toList.take lo++m++a.toList.drop (lo+m.length):=by
 obtain⟨h1,h2⟩:=Pb m lo 0 a (by omega);refine FF fun t=>?_;rw[BO,h2 t];have hl:(a.toList.take lo).length=lo:=by rw[AY,AQ];omega
 by_cases c1:t<lo
 .rw[AK (by omega),BK,EC (by omega),DM c1,BO]
 .by_cases c2:t<lo+m.length
  .rw[AO (by omega),EC (by rw[BC];omega),DW (by omega),hl];rfl
  .rw[AK (by omega),DW (by rw[BC];omega),BC,hl,GO,BO];congr 1;omega
theorem Qh(l:List Keyed)(lo n:Nat):l=l.take lo++seg l lo n++l.drop (lo+n):=by
 unfold seg;rw[BK,<-FN,BZ,BZ]
theorem Ga(l:List Keyed)(lo n m:Nat):seg l lo (n+m)=seg l lo n++seg l (lo+n) m:=by
 unfold seg;rw[List.take_add,FN]
structure Part(Z:KeyKind)(l l':List Keyed)(lo n:Nat):Prop where
 perm:l'.Perm l
 front:l'.take lo=l.take lo
 back:l'.drop (lo+n)=l.drop (lo+n)
theorem Part.refl(l:List Keyed)(lo n:Nat):Part Z l l lo n:=⟨HA _,rfl,rfl⟩
theorem Part.seg_front{l l':List Keyed}{lo n:Nat}(h:Part Z l l' lo n){u m:Nat}(hu:u+m<=lo):seg l' u m=seg l u m:=by
 have:∀x:List Keyed,seg x u m =((x.take lo).drop u).take m:=fun x=>by
  unfold seg;rw[G_,List.take_take,FW (by omega)]
 rw[this,this,h.front]
theorem Part.seg_back{l l':List Keyed}{lo n:Nat}(h:Part Z l l' lo n){u m:Nat}(hu:lo+n<=u):seg l' u m=seg l u m:=by
 have:∀x:List Keyed,seg x u m =((x.drop (lo+n)).drop (u-(lo+n))).take m:=fun x=>by
  unfold seg;rw[FN,show lo+n +(u-(lo+n))=u by omega]
 rw[this,this,h.back]
theorem Part.of{l z:List Keyed}{lo n:Nat}(hz:z.Perm (seg l lo n))(hl:lo+n<=l.length):Part Z l (l.take lo++z++l.drop (lo+n)) lo n/\seg (l.take lo++z++l.drop (lo+n)) lo n=z:=by
 have h1:(l.take lo).length=lo:=by rw[AY];omega
 have h2:z.length=n:=by
  rw[hz.length_eq];unfold seg;rw[AY,DL];omega
 refine⟨⟨?_,?_,?_⟩,?_⟩
 .conv=>rhs;rw[Qh l lo n]
  exact DZ _ (DQ _ hz)
 .rw[BK,List.take_append_of_le_length (by omega),DD (by omega)]
 .rw[List.drop_append,FJ (by rw[BC];omega),GS,BC,h1,h2,Nat.sub_self,FO]
 .unfold seg;rw[BK,List.drop_append,FJ (by omega),GS,h1,Nat.sub_self,FO,List.take_append_of_le_length (by omega),DD (by omega)]
structure St(Z:KeyKind)(kd:SortKind)(a₀:Array Keyed)(st:SortSt):Prop where
 perm:(arrOf st).toList.Perm a₀.toList
 kind:kindOf st=kd
 failed:failedOf st=none
theorem St.size{a₀:Array Keyed}{st:SortSt}(h:St Z kd a₀ st):(arrOf st).size=a₀.size:=by
 have:=h.perm.length_eq;simpa using this
theorem St.has{a₀:Array Keyed}{st:SortSt}(h:St Z kd a₀ st)(h0:KeysOf Z a₀)(i:Nat)(p:Keyed)(e:(arrOf st)[i]?=some p):Has Z p :=
 h0 p (h.perm.mem_iff.mp (BJ (ar_get.mp e)))
theorem J0{l:List Keyed}{lo n t:Nat}(ht:t<n):(seg l lo n)[t]?=l[lo+t]?:=by
 unfold seg;rw[DM ht,GO]
theorem Fw(i:Nat):mergeAt' i =(do
  let u <-get
  let(some (sa,na,pw),some (sb,nb,_)):=((pendingOf u)[i]?,(pendingOf u)[i+1]?) | unsupported "internal:list.sort.pending"
  set (setPending u (((pendingOf u).setIfInBounds i (sa,na+nb,pw)).eraseIdxIfInBounds (i+1)))
  let some k <-M8 false (<-elem' (arrOf u) sb) (arrOf u) sa na 0 | return false
  let(sa,na):=(sa+k,na-k)
  if na == 0 then return true
  let some nb <-M8 true (<-elem' (arrOf u) (sa+na-1)) (arrOf u) sb nb (nb-1) | return false
  if nb == 0 then return true
  let x:=(arrOf u).extract sa sb
  let y:=(arrOf u).extract sb (sb+nb)
  let mm <-if na<=nb then Bt x y else Bo x y
  modify fun v=>setArr v (mm.toList.zipIdx.foldl (fun a (z:Keyed×Nat)=>a.setIfInBounds (sa+z.2) z.1) (arrOf v))
  return(failedOf (<-get)).isNone):=rfl
theorem Wt{st st2:SortSt}{Q:PUnit->SortSt->Prop}(h:Q ⟨⟩ st2):wpS (model prog w) A E s (set st2:StateT SortSt Sem PUnit) Q st:=by
 unfold wpS;rw[StateT.run_set];exact AD ⟨rfl,h⟩
theorem Hg(C:Cmp prog w A s Z kd){a₀:Array Keyed}(h0:KeysOf Z a₀){st:SortSt}{i sa na pw sb nb pw2:Nat}{Q:Bool->SortSt->Prop}(hS:St Z kd a₀ st)
  (hi:(pendingOf st)[i]?=some (sa,na,pw)) (hj:(pendingOf st)[i+1]?=some (sb,nb,pw2)) (hsb:sb=sa+na) (hsz:sb+nb<=a₀.size) (hna:1<=na) (hnb:1<=nb)
  (sx:Sor Z (seg (arrOf st).toList sa na)) (sy:Sor Z (seg (arrOf st).toList sb nb))
  (h:∀st',St Z kd a₀ st'->Part Z (arrOf st).toList (arrOf st').toList sa (na+nb)->Sor Z (seg (arrOf st').toList sa (na+nb)) ->
   pendingOf st' =((pendingOf st).setIfInBounds i (sa,na+nb,pw)).eraseIdxIfInBounds (i+1)->Q true st'):wpS (model prog w) A E s (mergeAt' i) Q st:=by
 subst hsb;have hL:(arrOf st).toList.length=a₀.size:=by rw[AQ];exact hS.size
 have hsz':=hS.size;rw[Fw];refine wpS_bind (wpS_get ?_);rw[hi,hj];dsimp only;refine wpS_bind (Wt ?_);obtain⟨b0,hb0⟩:=S9 (a:=arrOf st) (i:=sa+na) (by omega);have sxl:∀u v p q,u<=v->v<na->(arrOf st)[sa+u]?=some p->(arrOf st)[sa+v]?=some q->le Z p q:=fun u v p q huv hv e1 e2 =>
  X4 sx huv (by rw[J0 (by omega)];exact ar_get.mp e1) (by rw[J0 hv];exact ar_get.mp e2)
 have syl:∀u v p q,u<=v->v<nb->(arrOf st)[sa+na+u]?=some p->(arrOf st)[sa+na+v]?=some q->le Z p q:=fun u v p q huv hv e1 e2 =>
  X4 sy huv (by rw[J0 (by omega)];exact ar_get.mp e1) (by rw[J0 hv];exact ar_get.mp e2)
 refine wpS_bind (C6 hb0 (wpS_bind (W8 C hS.kind (hS.has h0 _ _ hb0) (by omega) (hS.has h0) sxl (by omega) fun k hk1 k1 k2=>?_)));dsimp only;have b0y:∀z∈seg (arrOf st).toList (sa+na) nb,le Z b0 z:=fun z hz=>by
  obtain⟨t,ht,e⟩:=Ay hz;exact syl 0 t b0 z (by omega) ht hb0 (ar_get.mpr e)
 have xk:∀x∈(seg (arrOf st).toList sa na).take k,le Z x b0:=fun x hx=>by
  obtain⟨t,ht,ht2,e⟩:=Lc hx;unfold seg at ht2;rw[AY]at ht2;rw[J0 (by omega)]at e;exact Bn (k1 t x ht (ar_get.mpr e))
 have kx:∀x∈(seg (arrOf st).toList sa na).drop k,le Z b0 x:=fun x hx=>by
  obtain⟨t,ht,e⟩:=Ia hx;unfold seg at ht;rw[AY]at ht;rw[J0 (by omega)]at e;exact KeyOrd.kle_of_klt (o0 (k2 (k+t) x (by omega) (by omega) (ar_get.mpr e)))
 have S1:St Z kd a₀ (setPending st (((pendingOf st).setIfInBounds i (sa,na+nb,pw)).eraseIdxIfInBounds (i+1))):=⟨hS.perm,hS.kind,hS.failed⟩;by_cases hk0:na-k=0
 .rw[AO (by simpa using hk0)];have hkk:k=na:=by omega
  refine wpS_pure (h _ S1 (Part.refl _ _ _) ?_ rfl);show Sor Z (seg (arrOf st).toList sa (na+nb));rw[Ga];refine CU.mpr ⟨sx,sy,fun x hx y hy=>le_trans (xk x ?_) (b0y y hy)⟩;rw[DD (by unfold seg;rw[AY];omega)];exact hx
 rw[AK (by simpa using hk0)];obtain⟨al,hal⟩:=S9 (a:=arrOf st) (i:=sa+k +(na-k)-1) (by omega);refine wpS_bind (C6 hal (wpS_bind (W8 C S1.kind (hS.has h0 _ _ hal) (by omega) (hS.has h0) syl (by omega) fun k' hk1' k1' k2'=>?_)));dsimp only;have hal':(arrOf st)[sa +(na-1)]?=some al:=by rw[show sa +(na-1)=sa+k +(na-k)-1 by omega];exact hal
 have xal:∀x∈seg (arrOf st).toList sa na,le Z x al:=fun x hx=>by
  obtain⟨t,ht,e⟩:=Ay hx;exact sxl t (na-1) x al (by omega) (by omega) (ar_get.mpr e) hal'
 have yk:∀y∈(seg (arrOf st).toList (sa+na) nb).take k',le Z y al:=fun y hy=>by
  obtain⟨t,ht,ht2,e⟩:=Lc hy;unfold seg at ht2;rw[AY]at ht2;rw[J0 (by omega)]at e;exact KeyOrd.kle_of_klt (Hb (k1' t y ht (ar_get.mpr e)))
 have ky:∀y∈(seg (arrOf st).toList (sa+na) nb).drop k',le Z al y:=fun y hy=>by
  obtain⟨t,ht,e⟩:=Ia hy;unfold seg at ht;rw[AY]at ht;rw[J0 (by omega)]at e;exact Ck (k2' (k'+t) y (by omega) (by omega) (ar_get.mpr e))
 by_cases hk0':k'=0
 .rw[AO (by simpa using hk0')];refine wpS_pure (h _ S1 (Part.refl _ _ _) ?_ rfl);show Sor Z (seg (arrOf st).toList sa (na+nb));rw[Ga];refine CU.mpr ⟨sx,sy,fun x hx y hy=>le_trans (xal x hx) (ky y ?_)⟩;rw[hk0',FO];exact hy
 rw[AK (by simpa using hk0')];have ex:((arrOf st).extract (sa+k) (sa+na)).toList =(seg (arrOf st).toList sa na).drop k:=by
  rw[Gn];unfold seg;rw[G_,G_,FN];congr 1;omega
 have ey:((arrOf st).extract (sa+na) (sa+na+k')).toList =(seg (arrOf st).toList (sa+na) nb).take k':=by
  rw[Bl];unfold seg;rw[List.take_take,FW hk1']
 have P:Pre Z ((arrOf st).extract (sa+k) (sa+na)) ((arrOf st).extract (sa+na) (sa+na+k')):=by
  refine⟨by rw[ex];exact sx.sublist (FZ _ _),by rw[ey];exact sy.sublist (FE _ _),fun t p e=>?_,fun t p e=>?_,?_,?_,fun q e z hz=>?_,fun p e z hz=>?_⟩
  .have m:=BJ (ar_get.mp e);rw[ex]at m;obtain⟨u,_,e2⟩:=Ay (FA m);exact hS.has h0 _ p (ar_get.mpr e2)
  .have m:=BJ (ar_get.mp e);rw[ey]at m;obtain⟨u,_,e2⟩:=Ay (CK m);exact hS.has h0 _ p (ar_get.mpr e2)
  .rw[GP];omega
  .rw[GP];omega
  .have m:=ar_get.mp e;rw[ey,DM (by omega),J0 (by omega)]at m;have:q=b0:=by
    have:=ar_get.mp hb0;rw[Nat.add_zero,this]at m;exact(BI m).symm
   subst this;rw[ex]at hz;exact kx z hz
  .have m:=ar_get.mp e;rw[ex,GP,GO,J0 (by omega)]at m;have:p=al:=by
    have q:=ar_get.mp hal';rw[show k +(min (sa+na) (arrOf st).size-(sa+k)-1)=na-1 by omega,q]at m;exact(BI m).symm
   subst this;rw[ey]at hz;exact yk z hz
 have fin:∀(r:Array Keyed) (st2:SortSt),Sm (setPending st (((pendingOf st).setIfInBounds i (sa,na+nb,pw)).eraseIdxIfInBounds (i+1))) st2->Rm Z ((arrOf st).extract (sa+k) (sa+na)) ((arrOf st).extract (sa+na) (sa+na+k')) r ->
   Q (failedOf (setArr st2 (r.toList.zipIdx.foldl (fun a (z:Keyed×Nat)=>a.setIfInBounds (sa+k+z.2) z.1) (arrOf st2)))).isNone (setArr st2 (r.toList.zipIdx.foldl (fun a (z:Keyed×Nat)=>a.setIfInBounds (sa+k+z.2) z.1) (arrOf st2))):=by
  rintro r st2 ⟨q1,q2,q3,q4⟩ ⟨r1,r2⟩;rw[ex,ey]at r2;have hrl:r.toList.length =(na-k)+k':=by
   rw[r2.length_eq,BC];unfold seg;rw[DL,AY,AY,DL,AY,DL];omega
  have q2':arrOf st2=arrOf st:=q2;have ef:failedOf (setArr st2 (r.toList.zipIdx.foldl (fun a (z:Keyed×Nat)=>a.setIfInBounds (sa+k+z.2) z.1) (arrOf st2)))=none:=q4.trans hS.failed;rw[ef];have el:=Ac r.toList (sa+k) (arrOf st2) (by rw[q2'];omega);have eq:(r.toList.zipIdx.foldl (fun a (z:Keyed×Nat)=>a.setIfInBounds (sa+k+z.2) z.1) (arrOf st2)).toList =(arrOf st).toList.take sa ++((seg (arrOf st).toList sa na).take k++r.toList ++(seg (arrOf st).toList (sa+na) nb).drop k') ++(arrOf st).toList.drop (sa +(na+nb)):=by
   rw[el,q2',hrl];have e1:(arrOf st).toList.take (sa+k) =(arrOf st).toList.take sa ++(seg (arrOf st).toList sa na).take k:=by
    unfold seg;rw[List.take_add,List.take_take,FW hk1]
   have e2:(arrOf st).toList.drop (sa+k +(na-k+k')) =(seg (arrOf st).toList (sa+na) nb).drop k' ++(arrOf st).toList.drop (sa +(na+nb)):=by
    unfold seg;rw[G_,FN,show sa+k +(na-k+k')=sa+na+k' by omega]
    conv=>lhs;rw[<-BZ (nb-k') ((arrOf st).toList.drop (sa+na+k'))]
    rw[FN,show sa+na+k' +(nb-k')=sa +(na+nb) by omega]
   rw[e1,e2];simp only[BK]
  have hp:((seg (arrOf st).toList sa na).take k++r.toList ++(seg (arrOf st).toList (sa+na) nb).drop k').Perm (seg (arrOf st).toList sa (na+nb)):=by
   rw[Ga];have a1:((seg (arrOf st).toList sa na).take k++r.toList ++(seg (arrOf st).toList (sa+na) nb).drop k').Perm ((seg (arrOf st).toList sa na).take k ++((seg (arrOf st).toList sa na).drop k ++(seg (arrOf st).toList (sa+na) nb).take k') ++(seg (arrOf st).toList (sa+na) nb).drop k') :=
    DZ _ (DQ _ r2)
   refine a1.trans (List.Perm.of_eq ?_);rw[<-BK,BZ,BK,BZ]
  obtain⟨pa,ps⟩:=Part.of (Z:=Z) hp (by rw[hL];omega);have hs:Sor Z ((seg (arrOf st).toList sa na).take k++r.toList ++(seg (arrOf st).toList (sa+na) nb).drop k'):=by
   refine CU.mpr ⟨CU.mpr ⟨sx.sublist (FE _ _),r1,fun x hx y hy=>?_⟩,sy.sublist (FZ _ _),fun x hx y hy=>?_⟩
   .rcases AU.mp (r2.mem_iff.mp hy)with hy | hy
    .exact le_trans (xk x hx) (kx y hy)
    .exact le_trans (xk x hx) (b0y y (CK hy))
   .rcases AU.mp hx with hx | hx
    .exact le_trans (xal x (CK hx)) (ky y hy)
    .rcases AU.mp (r2.mem_iff.mp hx)with hx | hx
     .exact le_trans (xal x (FA hx)) (ky y hy)
     .exact le_trans (yk x hx) (ky y hy)
  refine h _ ⟨?_,q1.trans hS.kind,q4.trans hS.failed⟩ ?_ ?_ q3
  .show(r.toList.zipIdx.foldl (fun a (z:Keyed×Nat)=>a.setIfInBounds (sa+k+z.2) z.1) (arrOf st2)).toList.Perm a₀.toList;rw[eq];exact pa.perm.trans hS.perm
  .show Part Z (arrOf st).toList (r.toList.zipIdx.foldl (fun a (z:Keyed×Nat)=>a.setIfInBounds (sa+k+z.2) z.1) (arrOf st2)).toList sa (na+nb);rw[eq];exact pa
  .show Sor Z (seg (r.toList.zipIdx.foldl (fun a (z:Keyed×Nat)=>a.setIfInBounds (sa+k+z.2) z.1) (arrOf st2)).toList sa (na+nb));rw[eq,ps];exact hs
 by_cases hab:na-k<=k'
 .rw[AO hab];refine wpS_bind (Hc C S1.kind P fun r st2 q r1=>?_);exact wpS_bind (wpS_modify (wpS_bind (wpS_get (wpS_pure (fin r st2 q r1)))))
 .rw[AK hab];refine wpS_bind (Gm C S1.kind P fun r st2 q r1=>?_);exact wpS_bind (wpS_modify (wpS_bind (wpS_get (wpS_pure (fin r st2 q r1)))))
end
section
variable{prog:Program}{w:World}{A:Around}{E:Value->Shared->Prop}{s:Shared}{Z:KeyKind}{kd:SortKind}{a₀:Array Keyed}
theorem Tm{xs:Array Keyed}{i:Nat}{p:Keyed}(h:xs[i]?=some p):KK Z xs i=kk Z p:=by unfold KK kk;rw[h]
def SI(Z:KeyKind)(xs:Array Keyed)(lo m:Nat):Prop:=∀i j,i<=j->j<m->Z.kle (KK Z xs (lo+i)) (KK Z xs (lo+j))
def NI(Z:KeyKind)(xs:Array Keyed)(lo m:Nat):Prop:=∀i j,i<=j->j<m->Z.kle (KK Z xs (lo+j)) (KK Z xs (lo+i))
theorem SI.sor{xs:Array Keyed}{lo m:Nat}(h:SI Z xs lo m):Sor Z (seg xs.toList lo m):=by
 refine FV.mpr fun i j hi hj hij=>?_;unfold seg at hi hj;rw[AY]at hi hj;have e1:xs[lo+i]?=some (seg xs.toList lo m)[i]:=by
  rw[ar_get,<-J0 (n:=m) (by omega)];exact AC _
 have e2:xs[lo+j]?=some (seg xs.toList lo m)[j]:=by
  rw[ar_get,<-J0 (n:=m) (by omega)];exact AC _
 have:=h i j (by omega) (by omega);rw[Tm e1,Tm e2]at this;exact this
structure Lo(Z:KeyKind)(kd:SortKind)(a₀:Array Keyed)(st0:SortSt)(lo n:Nat)(st:SortSt):Prop where
 S:St Z kd a₀ st
 pend:pendingOf st=pendingOf st0
 out:∀t,t<lo\/lo+n<=t->(arrOf st)[t]? =(arrOf st0)[t]?
theorem Lo.part{st0 st:SortSt}{lo n:Nat}(h:Lo Z kd a₀ st0 lo n st)(h0:St Z kd a₀ st0):Part Z (arrOf st0).toList (arrOf st).toList lo n:=by
 refine⟨h.S.perm.trans h0.perm.symm,FF fun t=>?_,FF fun t=>?_⟩
 .by_cases ht:t<lo
  .rw[DM ht,DM ht,BO,BO];exact h.out t (.inl ht)
  .rw[DR (by rw[AY];omega),DR (by rw[AY];omega)]
 .rw[GO,GO,BO,BO];exact h.out _ (.inr (by omega))
theorem Lo.mirror{st0 st:SortSt}{lo n i j:Nat}(h:Lo Z kd a₀ st0 lo n st)(hi:lo<=i)(hj:j<=lo+n)(hn:lo+n<=a₀.size):Lo Z kd a₀ st0 lo n (setArr st (mirror (arrOf st) i j ((j-i) / 2))):=by
 refine⟨⟨(Array.perm_iff_toList_perm.mp (mirror_perm _ _ _ _)).trans h.S.perm,h.S.kind,h.S.failed⟩,h.pend,fun t ht=>?_⟩;show(PyProof.Rows.mirror (arrOf st) i j ((j-i) / 2))[t]?=_;have:=h.S.size;rw[getElem?_mirror_all (by omega),AK (by omega)];exact h.out t ht
theorem J7(C:Cmp prog w A s Z kd)(h0:KeysOf Z a₀){st:SortSt}(hS:St Z kd a₀ st){i j:Nat}{Q:Option Bool->SortSt->Prop}(hi:i<a₀.size)(hj:j<a₀.size)
  (h:Q (some (Z.blt (KK Z (arrOf st) i) (KK Z (arrOf st) j))) st):wpS (model prog w) A E s (ltAt' i j) Q st:=by
 have:=hS.size;obtain⟨p,hp⟩:=S9 (a:=arrOf st) (i:=i) (by omega);obtain⟨q,hq⟩:=S9 (a:=arrOf st) (i:=j) (by omega);rw[ltAt'_eq];refine wpS_bind (wpS_get ?_);refine wpS_bind (C6 hp (wpS_bind (C6 hq (Fb C hS.kind (hS.has h0 _ _ hp) (hS.has h0 _ _ hq) ?_))));rw[Tm hp,Tm hq]at h;exact h
theorem zCj{st:SortSt}{lo a nrem:Nat}{f:Nat->(Option (Option Nat)×Nat)->StateT SortSt Sem (ForInStep (Option (Option Nat)×Nat))}{Q:(Option (Option Nat)×Nat)->SortSt->Prop}
  (hf:∀x n,1<=n->n<nrem->wpS (model prog w) A E s (f x (none,n)) (fun r st'=>st'=st/\r=if Z.blt (KK Z (arrOf st) (lo+n)) (KK Z (arrOf st) (lo+n-1))=true then .done (none,n)else .yield (none,n+1)) st)
  (ha:1<=a) (han:a<=nrem) (hs:SI Z (arrOf st) lo a)
  (h:∀n,a<=n->n<=nrem->SI Z (arrOf st) lo n->(n=nrem\/Z.klt (KK Z (arrOf st) (lo+n)) (KK Z (arrOf st) (lo+n-1)))->Q (none,n) st):wpS (model prog w) A E s (forIn [a:nrem] (none,a) f) Q st:=by
 refine wpS_forRange (I:=fun x c st'=>st'=st/\c =(none,x)/\SI Z (arrOf st) lo x) ?_ ?_ ⟨rfl,rfl,hs⟩
 .rintro x c st' hax hxn ⟨rfl,rfl,hs'⟩;refine wpS_mono (hf x x (by omega) hxn) fun r st2 ⟨e,er⟩=>?_;subst e;cases hless:Z.blt (KK Z (arrOf st2) (lo+x)) (KK Z (arrOf st2) (lo+x-1))
  .rw[hless,AK BB]at er;subst er;refine⟨rfl,rfl,fun i j hij hj=>?_⟩;by_cases hjx:j<x
   .exact hs' i j hij hjx
   .have hj':j=x:=by omega
    subst hj';by_cases hi':i=j
    .subst hi';exact KeyOrd.kle_refl _
    .have:=hs' i (j-1) (by omega) (by omega);rw[show lo +(j-1)=lo+j-1 by omega]at this;exact KeyOrd.kle_trans this hless
  .rw[hless,AO rfl]at er;subst er;exact h x hax (by omega) hs' (.inr hless)
 .rintro c st' ⟨rfl,rfl,hs'⟩;rw[show max a nrem=nrem by omega]at hs'⊢;exact h nrem han (Nat.le_refl _) hs' (.inl rfl)
theorem NI.step{xs ys:Array Keyed}{lo x:Nat}(hx:1<=x)(hk:∀k,KK Z ys k=KK Z xs k)(hs:NI Z xs lo x)(hl:Z.kle (KK Z xs (lo+x)) (KK Z xs (lo+x-1))):NI Z ys lo (x+1):=by
 intro i j hij hj;rw[hk,hk];by_cases hjx:j<x
 .exact hs i j hij hjx
 .have hj':j=x:=by omega
  subst hj';by_cases hi':i=j
  .subst hi';exact KeyOrd.kle_refl _
  .have:=hs i (j-1) (by omega) (by omega);rw[show lo +(j-1)=lo+j-1 by omega]at this;exact KeyOrd.kle_trans hl this
abbrev DS:=Option (Option Nat)×Nat×Nat
theorem Zz{st0 st:SortSt}{lo n nrem:Nat}(hsz:lo+nrem<=a₀.size){f:Nat->DS->StateT SortSt Sem (ForInStep DS)}{Q:DS->SortSt->Prop}
  (hf:∀x n q st',1<=n->n<nrem->Lo Z kd a₀ st0 lo nrem st'->wpS (model prog w) A E s (f x (none,n,q)) (fun r st2 =>
   if Z.blt (KK Z (arrOf st') (lo+n)) (KK Z (arrOf st') (lo+n-1))=true then(st2=if q>0 then setArr st' (mirror (arrOf st') (lo+n-(q+1)) (lo+n) ((lo+n-(lo+n-(q+1))) / 2))else st')/\r = .yield (none,n+1,0)
   else st2=st'/\r=if Z.blt (KK Z (arrOf st') (lo+n-1)) (KK Z (arrOf st') (lo+n))=true then .done (none,n,q)else .yield (none,n+1,q+1)) st')
  (h1:1<=n) (hnn:n<=nrem) (hB:Lo Z kd a₀ st0 lo nrem st) (hs:NI Z (arrOf st) lo n)
  (h:∀m q st',Lo Z kd a₀ st0 lo nrem st'->n<=m->m<=nrem->NI Z (arrOf st') lo m->q+1<=m->(∀i,m-(q+1)<=i->i<m->KK Z (arrOf st') (lo+i)=KK Z (arrOf st') (lo+m-1))->Q (none,m,q) st') :
  wpS (model prog w) A E s (forIn [n:nrem] (none,n,0) f) Q st:=by
 refine wpS_forRange (I:=fun x c st'=>∃q,c =(none,x,q)/\Lo Z kd a₀ st0 lo nrem st'/\NI Z (arrOf st') lo x/\q+1<=x /\
   (∀i,x-(q+1)<=i->i<x->KK Z (arrOf st') (lo+i)=KK Z (arrOf st') (lo+x-1))) ?_ ?_ ⟨0,rfl,hB,hs,by omega,fun i h1 h2=>by congr 1;omega⟩
 .rintro x c st' hax hxn ⟨q,rfl,hB',hs',hq,he⟩;have hs0:=hB'.S.size;refine wpS_mono (hf x x q st' (by omega) hxn hB') fun r st2 hr=>?_;cases hless:Z.blt (KK Z (arrOf st') (lo+x)) (KK Z (arrOf st') (lo+x-1))
  .rw[hless,AK BB]at hr;obtain⟨e,er⟩:=hr;subst e;cases hl:Z.blt (KK Z (arrOf st2) (lo+x-1)) (KK Z (arrOf st2) (lo+x))
   .rw[hl,AK BB]at er;subst er;have heqx:KK Z (arrOf st2) (lo+x)=KK Z (arrOf st2) (lo+x-1):=KeyOrd.kle_antisymm hl hless;refine⟨q+1,rfl,hB',NI.step (by omega) (fun _=>rfl) hs' hl,by omega,fun i g1 g2=>?_⟩;rw[show lo +(x+1)-1=lo+x by omega];by_cases hix:i=x
    .subst hix;rfl
    .rw[heqx];exact he i (by omega) (by omega)
   .rw[hl,AO rfl]at er;subst er;exact h x q st2 hB' hax (by omega) hs' hq he
  .rw[hless,AO rfl]at hr;obtain⟨e,er⟩:=hr;subst er;have hl:Z.kle (KK Z (arrOf st') (lo+x)) (KK Z (arrOf st') (lo+x-1)):=KeyOrd.kle_of_klt hless;by_cases hq0:q>0
   .rw[AO hq0]at e;subst e;refine⟨0,rfl,hB'.mirror (by omega) (by omega) hsz,NI.step (by omega) (KK_mirror_equal (by omega) fun k g1 g2=>?_) hs' hl,by omega,fun i g1 g2=>by congr 1;omega⟩;have:=he (k-lo) (by omega) (by omega);rw[show lo +(k-lo)=k by omega]at this;exact this
   .rw[AK hq0]at e;subst e;exact⟨0,rfl,hB',NI.step (by omega) (fun _=>rfl) hs' hl,by omega,fun i g1 g2=>by congr 1;omega⟩
 .rintro c st' ⟨q,rfl,hB',hs',hq,he⟩;rw[show max n nrem=nrem by omega]at hs' hq he⊢;exact h nrem q st' hB' hnn (Nat.le_refl _) hs' hq he
theorem NI.turn{xs:Array Keyed}{lo n:Nat}(hn:lo+n<=xs.size)(h:NI Z xs lo n):SI Z (mirror xs lo (lo+n) ((lo+n-lo) / 2)) lo n:=by
 intro i j hij hj;rw[KK_mirror hn,KK_mirror hn,AO (by omega),AO (by omega)];have:=h (n-1-j) (n-1-i) (by omega) (by omega);rw[show lo +(n-1-i)=lo +(lo+n)-1-(lo+i) by omega,show lo +(n-1-j)=lo +(lo+n)-1-(lo+j) by omega]at this;exact this
theorem Fc(C:Cmp prog w A s Z kd)(h0:KeysOf Z a₀){st:SortSt}{lo nrem:Nat}{Q:Option Nat->SortSt->Prop}(hS:St Z kd a₀ st)(hsz:lo+nrem<=a₀.size)(h1:1<=nrem)
  (h:∀m st',Lo Z kd a₀ st lo nrem st'->1<=m->m<=nrem->SI Z (arrOf st') lo m->Q (some m) st'):wpS (model prog w) A E s (countRun' lo nrem) Q st:=by
 have L0:Lo Z kd a₀ st lo nrem st:=⟨hS,rfl,fun _ _=>rfl⟩;rw[countRun'_eq];dsimp only;refine wpS_bind (zCj (Z:=Z) (lo:=lo) (fun x n g1 g2=>?_) (Nat.le_refl 1) h1 (fun i j hij hj=>by have:i=j:=(by omega);subst this;exact KeyOrd.kle_refl _) fun n hn1 hn2 hsn hor=>?_)
 .dsimp only;refine wpS_bind (J7 C h0 hS (by omega) (by omega) ?_);dsimp only;cases Z.blt (KK Z (arrOf st) (lo+n)) (KK Z (arrOf st) (lo+n-1))
  .exact wpS_pure ⟨rfl,rfl⟩
  .exact wpS_pure ⟨rfl,rfl⟩
 dsimp only;by_cases hnn:n=nrem
 .rw[AO (by simpa using hnn)];exact wpS_pure (h n st L0 hn1 hn2 hsn)
 rw[AK (by simpa using hnn)];have hlt:Z.klt (KK Z (arrOf st) (lo+n)) (KK Z (arrOf st) (lo+n-1)):=hor.resolve_left hnn;have hz:=hS.size;by_cases hgt:n>1
 .rw[AO hgt];refine wpS_bind (J7 C h0 hS (by omega) (by omega) ?_);dsimp only;cases hrose:Z.blt (KK Z (arrOf st) lo) (KK Z (arrOf st) (lo+n-1))with
  | true =>
   simp only[FD];exact wpS_pure (h n st L0 hn1 hn2 hsn)
  | false =>
   simp only[BA,CQ];have hall:∀k,lo<=k->k<lo+n->KK Z (arrOf st) k=KK Z (arrOf st) (lo+n-1):=by
    intro k hk1 hk2;have a1:=hsn 0 (k-lo) (by omega) (by omega);have a2:=hsn (k-lo) (n-1) (by omega) (by omega);rw[Nat.add_zero,show lo +(k-lo)=k by omega]at a1;rw[show lo +(k-lo)=k by omega,show lo +(n-1)=lo+n-1 by omega]at a2;exact KeyOrd.kle_antisymm a2 (KeyOrd.kle_trans hrose a1)
   have hk:=KK_mirror_equal (κ:=Z) (xs:=arrOf st) (i:=lo) (j:=lo+n) (by omega) hall;refine wpS_bind (wpS_reverse ?_);have hB2:=L0.mirror (i:=lo) (j:=lo+n) (by omega) (by omega) hsz;have hN:NI Z (mirror (arrOf st) lo (lo+n) ((lo+n-lo) / 2)) lo (n+1):=by
    refine NI.step (by omega) hk (fun i j hij hj=>?_) (KeyOrd.kle_of_klt hlt);rw[hall (lo+i) (by omega) (by omega),hall (lo+j) (by omega) (by omega)];exact KeyOrd.kle_refl _
   refine wpS_bind (wpS_lift (ET ⟨rfl,?_⟩));refine wpS_bind (Zz (Z:=Z) (kd:=kd) (a₀:=a₀) (st0:=st) (lo:=lo) hsz (fun x n' q st' g1 g2 hB'=>?_) (by omega) (by omega) hB2 hN fun m q st' hB3 hm1 hm2 hs3 hq he=>?_)
   .dsimp only;refine wpS_bind (J7 C h0 hB'.S (by omega) (by omega) ?_);dsimp only;cases Z.blt (KK Z (arrOf st') (lo+n')) (KK Z (arrOf st') (lo+n' - 1))
    .simp only[BA,CQ];refine wpS_bind (J7 C h0 hB'.S (by omega) (by omega) ?_);dsimp only;cases Z.blt (KK Z (arrOf st') (lo+n' - 1)) (KK Z (arrOf st') (lo+n'))
     .exact wpS_pure ⟨rfl,rfl⟩
     .exact wpS_pure ⟨rfl,rfl⟩
    .simp only[FD];by_cases hq:q>0
     .rw[AO hq,AO hq];exact wpS_bind (wpS_reverse (wpS_pure ⟨rfl,rfl⟩))
     .rw[AK hq,AK hq];exact wpS_pure ⟨rfl,rfl⟩
   .dsimp only;have hz3:=hB3.S.size;by_cases hq0:q>0
    .rw[AO hq0];refine wpS_bind (wpS_reverse (wpS_bind (wpS_reverse ?_)));have hB4':=hB3.mirror (i:=lo+m-(q+1)) (j:=lo+m) (by omega) (by omega) hsz;have hB4:=hB4'.mirror (i:=lo) (j:=lo+m) (by omega) (by omega) hsz;have hz4:=hB4'.S.size;have hN4:NI Z (mirror (arrOf st') (lo+m-(q+1)) (lo+m) ((lo+m-(lo+m-(q+1))) / 2)) lo m:=by
      have hk:=KK_mirror_equal (κ:=Z) (xs:=arrOf st') (i:=lo+m-(q+1)) (j:=lo+m) (by omega) (fun k g1 g2=>by
       have:=he (k-lo) (by omega) (by omega);rw[show lo +(k-lo)=k by omega]at this;exact this)
      intro i j hij hj;rw[hk,hk];exact hs3 i j hij hj
     have hT:=hN4.turn (Z:=Z) (lo:=lo) (n:=m) (by rw[mirror_size];omega);refine wpS_bind (zCj (Z:=Z) (lo:=lo) (fun x n' g1 g2=>?_) (by omega) hm2 hT fun m' hm1' hm2' hsm _=>wpS_pure (h m' _ hB4 (by omega) hm2' hsm));dsimp only;refine wpS_bind (J7 C h0 hB4.S (by omega) (by omega) ?_);dsimp only;cases Z.blt (KK Z _ (lo+n')) (KK Z _ (lo+n' - 1))
     .exact wpS_pure ⟨rfl,rfl⟩
     .exact wpS_pure ⟨rfl,rfl⟩
    .rw[AK hq0];refine wpS_bind (wpS_reverse ?_);have hB4:=hB3.mirror (i:=lo) (j:=lo+m) (by omega) (by omega) hsz;have hT:=hs3.turn (Z:=Z) (lo:=lo) (n:=m) (by omega);refine wpS_bind (zCj (Z:=Z) (lo:=lo) (fun x n' g1 g2=>?_) (by omega) hm2 hT fun m' hm1' hm2' hsm _=>wpS_pure (h m' _ hB4 (by omega) hm2' hsm));dsimp only;refine wpS_bind (J7 C h0 hB4.S (by omega) (by omega) ?_);dsimp only;cases Z.blt (KK Z _ (lo+n')) (KK Z _ (lo+n' - 1))
     .exact wpS_pure ⟨rfl,rfl⟩
     .exact wpS_pure ⟨rfl,rfl⟩
 .rw[AK hgt];have hn1':n=1:=by omega
  have hB2:=L0;have hN:NI Z (arrOf st) lo (n+1):=by
   refine NI.step (by omega) (fun _=>rfl) (fun i j hij hj=>?_) (KeyOrd.kle_of_klt hlt);have:i=j:=by omega
   subst this;exact KeyOrd.kle_refl _
  refine wpS_bind (wpS_lift (ET ⟨rfl,?_⟩));refine wpS_bind (Zz (Z:=Z) (kd:=kd) (a₀:=a₀) (st0:=st) (lo:=lo) hsz (fun x n' q st' g1 g2 hB'=>?_) (by omega) (by omega) hB2 hN fun m q st' hB3 hm1 hm2 hs3 hq he=>?_)
  .dsimp only;refine wpS_bind (J7 C h0 hB'.S (by omega) (by omega) ?_);dsimp only;cases Z.blt (KK Z (arrOf st') (lo+n')) (KK Z (arrOf st') (lo+n' - 1))
   .simp only[BA,CQ];refine wpS_bind (J7 C h0 hB'.S (by omega) (by omega) ?_);dsimp only;cases Z.blt (KK Z (arrOf st') (lo+n' - 1)) (KK Z (arrOf st') (lo+n'))
    .exact wpS_pure ⟨rfl,rfl⟩
    .exact wpS_pure ⟨rfl,rfl⟩
   .simp only[FD];by_cases hq:q>0
    .rw[AO hq,AO hq];exact wpS_bind (wpS_reverse (wpS_pure ⟨rfl,rfl⟩))
    .rw[AK hq,AK hq];exact wpS_pure ⟨rfl,rfl⟩
  .dsimp only;have hz3:=hB3.S.size;by_cases hq0:q>0
   .rw[AO hq0];refine wpS_bind (wpS_reverse (wpS_bind (wpS_reverse ?_)));have hB4':=hB3.mirror (i:=lo+m-(q+1)) (j:=lo+m) (by omega) (by omega) hsz;have hB4:=hB4'.mirror (i:=lo) (j:=lo+m) (by omega) (by omega) hsz;have hz4:=hB4'.S.size;have hN4:NI Z (mirror (arrOf st') (lo+m-(q+1)) (lo+m) ((lo+m-(lo+m-(q+1))) / 2)) lo m:=by
     have hk:=KK_mirror_equal (κ:=Z) (xs:=arrOf st') (i:=lo+m-(q+1)) (j:=lo+m) (by omega) (fun k g1 g2=>by
      have:=he (k-lo) (by omega) (by omega);rw[show lo +(k-lo)=k by omega]at this;exact this)
     intro i j hij hj;rw[hk,hk];exact hs3 i j hij hj
    have hT:=hN4.turn (Z:=Z) (lo:=lo) (n:=m) (by rw[mirror_size];omega);refine wpS_bind (zCj (Z:=Z) (lo:=lo) (fun x n' g1 g2=>?_) (by omega) hm2 hT fun m' hm1' hm2' hsm _=>wpS_pure (h m' _ hB4 (by omega) hm2' hsm));dsimp only;refine wpS_bind (J7 C h0 hB4.S (by omega) (by omega) ?_);dsimp only;cases Z.blt (KK Z _ (lo+n')) (KK Z _ (lo+n' - 1))
    .exact wpS_pure ⟨rfl,rfl⟩
    .exact wpS_pure ⟨rfl,rfl⟩
   .rw[AK hq0];refine wpS_bind (wpS_reverse ?_);have hB4:=hB3.mirror (i:=lo) (j:=lo+m) (by omega) (by omega) hsz;have hT:=hs3.turn (Z:=Z) (lo:=lo) (n:=m) (by omega);refine wpS_bind (zCj (Z:=Z) (lo:=lo) (fun x n' g1 g2=>?_) (by omega) hm2 hT fun m' hm1' hm2' hsm _=>wpS_pure (h m' _ hB4 (by omega) hm2' hsm));dsimp only;refine wpS_bind (J7 C h0 hB4.S (by omega) (by omega) ?_);dsimp only;cases Z.blt (KK Z _ (lo+n')) (KK Z _ (lo+n' - 1))
    .exact wpS_pure ⟨rfl,rfl⟩
    .exact wpS_pure ⟨rfl,rfl⟩
theorem Lo.bubble{st0 st:SortSt}{lo n src d:Nat}(h:Lo Z kd a₀ st0 lo n st)(h1:lo+d<=src)(h2:src<lo+n)(hn:lo+n<=a₀.size):Lo Z kd a₀ st0 lo n (setArr st (bubble (arrOf st) src d)):=by
 refine⟨⟨(Array.perm_iff_toList_perm.mp (bubble_perm _ _ _)).trans h.S.perm,h.S.kind,h.S.failed⟩,h.pend,fun t ht=>?_⟩;show(PyProof.Rows.bubble (arrOf st) src d)[t]?=_;have:=h.S.size;rw[getElem?_bubble (by omega) d (by omega),AK (by omega),AK (by omega)];exact h.out t ht
theorem Ab(C:Cmp prog w A s Z kd)(h0:KeysOf Z a₀){st0 st:SortSt}{lo nrem n ok:Nat}{Q:Bool->SortSt->Prop}(hB:Lo Z kd a₀ st0 lo nrem st)(hsz:lo+nrem<=a₀.size)(hn:n<=nrem)(hok:ok<=n)(hs:SI Z (arrOf st) lo ok)
  (h:∀st',Lo Z kd a₀ st0 lo nrem st'->SI Z (arrOf st') lo n->Q true st'):wpS (model prog w) A E s (binarySort' lo n ok) Q st:=by
 rw[binarySort'_eq];refine wpS_bind (wpS_mono (wpS_forRange (I:=fun k c st'=>c =(none,())/\Lo Z kd a₀ st0 lo nrem st'/\SI Z (arrOf st') lo (min k n))
  (Q:=fun c st'=>c =(none,())/\Lo Z kd a₀ st0 lo nrem st'/\SI Z (arrOf st') lo n) ?step ?fin ?init) ?post)
 case post =>
  rintro c st' ⟨rfl,hB',hs'⟩;exact wpS_pure (h st' hB' hs')
 case init =>
  refine⟨rfl,hB,fun i j hij hj=>?_⟩;by_cases h1:ok=0
  .have:i=j:=by omega
   subst this;exact KeyOrd.kle_refl _
  .exact hs i j hij (by omega)
 case fin =>
  rintro c st' ⟨hc,hB',hs'⟩;refine⟨hc,hB',?_⟩
  rwa [show min (max (max ok 1) n) n=n by omega]at hs'
 case step =>
  rintro k c st' hak hkn ⟨rfl,hB',hs'⟩;rw[show min k n=k by omega]at hs';dsimp only;refine wpS_bind (wpS_mono (wpS_forRange (I:=fun x c st''=>st''=st'/\∃l r,c =(none,l,r)/\l<=r/\r<=k/\r-l<=k-x /\
    (∀i,i<l->Z.kle (KK Z (arrOf st') (lo+i)) (KK Z (arrOf st') (lo+k)))/\(∀i,r<=i->i<k->Z.klt (KK Z (arrOf st') (lo+k)) (KK Z (arrOf st') (lo+i))))
   (Q:=fun c st''=>st''=st'/\∃l r,c =(none,l,r)/\l<=k /\
    (∀i,i<l->Z.kle (KK Z (arrOf st') (lo+i)) (KK Z (arrOf st') (lo+k)))/\(∀i,l<=i->i<k->Z.klt (KK Z (arrOf st') (lo+k)) (KK Z (arrOf st') (lo+i)))) ?istep ?ifin ?iinit) ?ipost)
  case iinit=>exact⟨rfl,0,k,rfl,by omega,by omega,by omega,fun i hi=>by omega,fun i h1 h2=>by omega⟩
  case ifin =>
   rintro c st'' ⟨rfl,l,r,rfl,hlr,hrk,hm,hlo,hhi⟩;have:l=r:=by omega
   subst this;exact⟨rfl,l,l,rfl,hrk,hlo,hhi⟩
  case istep =>
   rintro x c st'' _ hxk ⟨rfl,l,r,rfl,hlr,hrk,hm,hlo,hhi⟩;dsimp only;by_cases hge:l ≥ r
   .rw[AO hge];have:l=r:=by omega
    subst this;exact wpS_pure ⟨rfl,l,l,rfl,hrk,hlo,hhi⟩
   .rw[AK hge];refine wpS_bind (J7 C h0 hB'.S (by omega) (by omega) ?_);dsimp only;cases hless:Z.blt (KK Z (arrOf st'') (lo+k)) (KK Z (arrOf st'') (lo +(l+r) / 2))
    case true =>
     simp only[FD];refine wpS_pure ⟨rfl,l,(l+r) / 2,rfl,by omega,by omega,by omega,hlo,fun i h1 h2=>?_⟩;exact KeyOrd.klt_of_klt_of_kle hless (hs' _ _ h1 h2)
    case false =>
     simp only[BA,CQ];refine wpS_pure ⟨rfl,(l+r) / 2+1,r,rfl,by omega,by omega,by omega,fun i h1=>?_,hhi⟩;exact KeyOrd.kle_trans (hs' i ((l+r) / 2) (by omega) (by omega)) (show Z.kle _ _ from hless)
  case ipost =>
   rintro c st'' ⟨rfl,l,r,rfl,hlk,hlo,hhi⟩;have hz:=hB'.S.size;show wpS _ _ _ _ (do moveDown' (lo+k) (lo+l);pure (ForInStep.yield (none,()))) _ _;rw[moveDown'_eq];refine wpS_bind (wpS_modify (wpS_pure ⟨rfl,hB'.bubble (by omega) (by omega) hsz,?_⟩));rw[show min (k+1) n=k+1 by omega];intro i j hij hj;show Z.kle (KK Z (bubble (arrOf st'') (lo+k) (lo+k-(lo+l))) (lo+i)) (KK Z (bubble (arrOf st'') (lo+k) (lo+k-(lo+l))) (lo+j));rw[KK_bubble (by omega) (by omega),KK_bubble (by omega) (by omega),show lo+k-(lo+k-(lo+l))=lo+l by omega];have shift:∀z,1<=z->lo+z-1=lo +(z-1):=fun z _=>by omega
   repeat' split
   all_goals first
    | (exfalso;omega)
    | exact KeyOrd.kle_refl _
    | exact hlo _ (by omega)
    | exact KeyOrd.kle_of_klt (hhi _ (by omega) (by omega))
    | exact hs' _ _ (by omega) (by omega)
    | (rw[shift j (by omega)];exact KeyOrd.kle_of_klt (hhi _ (by omega) (by omega)))
    | (rw[shift i (by omega)];exact hlo _ (by omega))
    | (rw[shift j (by omega)];exact hs' _ _ (by omega) (by omega))
    | (rw[shift i (by omega),shift j (by omega)];exact hs' _ _ (by omega) (by omega))
    | (rw[shift i (by omega)];exact hs' _ _ (by omega) (by omega))
end
abbrev Run:=Nat×Nat×Nat
def Cov:List Run->Nat->Nat->Prop
 | [],a,b=>a=b
 | x::r,a,b=>x.1=a/\1<=x.2.1/\Cov r (a+x.2.1) b
theorem Cov.app:∀{l1 l2:List Run} {a b:Nat},Cov (l1++l2) a b↔∃c,Cov l1 a c/\Cov l2 c b
 | [],l2,a,b=>⟨fun h=>⟨a,rfl,h⟩,fun⟨c,h1,h2⟩=>by have:a=c:=h1;subst this;exact h2⟩
 | x::r,l2,a,b=>by
  constructor
  .rintro⟨h1,h2,h3⟩;obtain⟨c,h4,h5⟩:=Cov.app.mp h3;exact⟨c,⟨h1,h2,h4⟩,h5⟩
  .rintro⟨c,⟨h1,h2,h4⟩,h5⟩;exact⟨h1,h2,Cov.app.mpr ⟨c,h4,h5⟩⟩
theorem Cov.le:∀{l:List Run} {a b:Nat},Cov l a b->a+l.length<=b
 | [],a,b,h=>by have:a=b:=h;subst this;simp
 | x::r,a,b,⟨h1,h2,h3⟩=>by have:=Cov.le h3;rw[BL];omega
theorem Cov.mem:∀{l:List Run} {a b:Nat} {x:Run},Cov l a b->x∈l->a<=x.1/\x.1+x.2.1<=b
 | [],_,_,_,_,hx=>absurd hx (by simp)
 | y::r,a,b,x,⟨h1,h2,h3⟩,hx=>by
  have hl:=Cov.le h3;rcases AV.mp hx with e | hx
  .subst e;omega
  .have:=Cov.mem h3 hx;omega
theorem zFa{l:List Run}{i:Nat}{x y:Run}(hx:l[i]?=some x)(hy:l[i+1]?=some y):l=l.take i++x::y::l.drop (i+2):=by
 obtain⟨h1,rfl⟩:=AH.mp hx;obtain⟨h2,rfl⟩:=AH.mp hy
 conv=>lhs;rw[<-BZ i l]
 rw[CG h1,CG h2]
theorem zEn{l:List Run}{i:Nat}{x y:Run}(z:Run)(hx:l[i]?=some x)(hy:l[i+1]?=some y):(l.set i z).eraseIdx (i+1)=l.take i++z::l.drop (i+2):=by
 obtain⟨h1,_⟩:=AH.mp hx;obtain⟨h2,_⟩:=AH.mp hy;have e:=zFa hx hy;have hl:(l.take i).length=i:=by rw[AY];omega
 generalize l.take i=p at *;generalize l.drop (i+2)=q at *;subst e;rw[List.set_append_right _ _ (by omega),hl,Nat.sub_self,List.eraseIdx_append_of_length_le (by omega),hl,show i+1-i=1 by omega];rfl
section
variable{prog:Program}{w:World}{A:Around}{E:Value->Shared->Prop}{s:Shared}{Z:KeyKind}{kd:SortKind}{a₀:Array Keyed}
structure RI(Z:KeyKind)(kd:SortKind)(a₀:Array Keyed)(lo:Nat)(st:SortSt):Prop where
 S:St Z kd a₀ st
 cov:Cov (pendingOf st).toList 0 lo
 sor:∀x∈(pendingOf st).toList,Sor Z (seg (arrOf st).toList x.1 x.2.1)
theorem Fx(C:Cmp prog w A s Z kd)(h0:KeysOf Z a₀){st:SortSt}{lo i:Nat}{Q:Bool->SortSt->Prop}(R:RI Z kd a₀ lo st)(hlo:lo<=a₀.size)(hi:i+1 <(pendingOf st).size)
  (h:∀st',RI Z kd a₀ lo st'->(pendingOf st').size+1 =(pendingOf st).size->Part Z (arrOf st).toList (arrOf st').toList 0 lo->Q true st'):wpS (model prog w) A E s (mergeAt' i) Q st:=by
 obtain⟨⟨sa,na,pw⟩,hx⟩:∃x,(pendingOf st)[i]?=some x:=⟨_,getElem?_pos _ i (by omega)⟩;obtain⟨⟨sb,nb,pw2⟩,hy⟩:∃x,(pendingOf st)[i+1]?=some x:=⟨_,getElem?_pos _ (i+1) hi⟩;have hx':(pendingOf st).toList[i]?=some (sa,na,pw):=by rw[BO];exact hx
 have hy':(pendingOf st).toList[i+1]?=some (sb,nb,pw2):=by rw[BO];exact hy
 have e:=zFa hx' hy';have c:=R.cov;rw[e]at c;obtain⟨c0,c1,c2⟩:=Cov.app.mp c;obtain⟨d1,d2,d3,d4,d5⟩:=c2;dsimp only at d1 d2 d3 d4 d5;have hl5:=Cov.le d5;refine Hg C h0 R.S hx hy (by omega) (by omega) d2 d4 (R.sor _ (BJ hx')) (R.sor _ (BJ hy')) fun st' S' P' s' p'=>?_;have ep:(pendingOf st').toList =(pendingOf st).toList.take i ++(sa,na+nb,pw) ::(pendingOf st).toList.drop (i+2):=by
  rw[p',<-zEn (sa,na+nb,pw) hx' hy'];simp
 refine h st' ⟨S',?_,fun x hxm=>?_⟩ ?_ ?_
 .rw[ep];exact Cov.app.mpr ⟨c0,c1,d1,(by show 1<=na+nb;omega),(by show Cov _ (c0 +(na+nb)) lo;rw[<-Nat.add_assoc];exact d5)⟩
 .rw[ep]at hxm;have old:∀y∈(pendingOf st).toList,(y.1+y.2.1<=sa\/sa +(na+nb)<=y.1)->Sor Z (seg (arrOf st').toList y.1 y.2.1):=fun y hy ho=>by
   have:=R.sor y hy;rcases ho with ho | ho
   .rw[P'.seg_front ho];exact this
   .rw[P'.seg_back ho];exact this
  rcases AU.mp hxm with hm | hm
  .have:=Cov.mem c1 hm;exact old x (CK hm) (.inl (by omega))
  .rcases AV.mp hm with hm | hm
   .subst hm;exact s'
   .have:=Cov.mem d5 hm;exact old x (FA hm) (.inr (by omega))
 .have:=congrArg List.length ep;rw[AQ,BC,BL,AY,DL,AQ]at this;omega
 .have hb:∀z:List Keyed,z.drop (0+lo) =(z.drop (sa +(na+nb))).drop (lo-(sa +(na+nb))):=fun z=>by
   rw[FN];congr 1;omega
  exact⟨P'.perm,rfl,by rw[hb,hb,P'.back]⟩
theorem n8{l:Array Run}{pw:Nat}:(l.modify (l.size-1) fun x=>(x.1,x.2.1,pw)).toList.map (fun x:Run=>(x.1,x.2.1))=l.toList.map fun x:Run=>(x.1,x.2.1):=by
 refine FF fun t=>?_;rw[AJ,AJ,BO,BO,Array.getElem?_modify];split
 .cases l[t]?<;>rfl
 .rfl
theorem Cov.congr:∀{l l':List Run} {a b:Nat},l'.map (fun x:Run=>(x.1,x.2.1))=l.map (fun x:Run=>(x.1,x.2.1))->Cov l a b->Cov l' a b
 | [],[],_,_,_,h=>h
 | [],_::_,_,_,e,_=>by simp at e
 | _::_,[],_,_,e,_=>by simp at e
 | x::r,y::r',a,b,e,⟨h1,h2,h3⟩=>by
  rw[AW,AW]at e;obtain⟨e1,e2⟩:=IM e;obtain⟨e3,e4⟩:=Prod.mk.inj e1;exact⟨e3.trans h1,by rw[e4];exact h2,by rw[e4];exact Cov.congr e2 h3⟩
theorem RI.congr{lo:Nat}{st:SortSt}(R:RI Z kd a₀ lo st){p:Array Run}(e:p.toList.map (fun x:Run=>(x.1,x.2.1)) =(pendingOf st).toList.map fun x:Run=>(x.1,x.2.1)):RI Z kd a₀ lo (setPending st p):=by
 refine⟨⟨R.S.perm,R.S.kind,R.S.failed⟩,Cov.congr e R.cov,fun x hx=>?_⟩;have:(x.1,x.2.1)∈(pendingOf st).toList.map fun x:Run=>(x.1,x.2.1):=by
  rw[<-e];exact AI.mpr ⟨x,hx,rfl⟩
 obtain⟨y,hy,ey⟩:=AI.mp this;obtain⟨e1,e2⟩:=Prod.mk.inj ey;have:=R.sor y hy;rw[e1,e2]at this;exact this
theorem T4(C:Cmp prog w A s Z kd)(h0:KeysOf Z a₀){st:SortSt}{Q:Unit->SortSt->Prop}(hS:St Z kd a₀ st)(hp:pendingOf st = #[])
  (h:∀st',St Z kd a₀ st'->Sor Z (arrOf st').toList->Q () st'):wpS (model prog w) A E s sortRuns' Q st:=by
 rw[sortRuns'_eq];refine wpS_bind (wpS_get ?_);dsimp only;have hz:=hS.size;rw[hz];generalize minRun' a₀.size a₀.size 0=mr;refine wpS_bind (wpS_mono (wpS_forRange (I:=fun x c st'=>∃lo,c =(none,lo)/\RI Z kd a₀ lo st'/\lo<=a₀.size/\min x a₀.size<=lo)
  (Q:=fun c st'=>∃lo,c =(none,lo)/\RI Z kd a₀ lo st'/\lo=a₀.size) ?st ?en ⟨0,rfl,⟨hS,by rw[hp];rfl,fun x hx=>by rw[hp]at hx;exact absurd hx (by simp)⟩,CD _,by omega⟩) ?po)
 case en =>
  rintro c st' ⟨lo,rfl,R,h1,h2⟩;exact⟨lo,rfl,R,by omega⟩
 case po =>
  rintro c st' ⟨lo,rfl,R,rfl⟩;dsimp only;refine wpS_bind (wpS_mono (wpS_forRange (I:=fun x c st'=>c =(none,())/\RI Z kd a₀ a₀.size st'/\(pendingOf st').size+x<=a₀.size+1)
   (Q:=fun c st'=>c =(none,())/\RI Z kd a₀ a₀.size st'/\(pendingOf st').size<=1) ?st3 ?en3 ⟨rfl,R,?in3⟩) ?po3)
  case in3 =>
   have:=Cov.le R.cov;rw[AQ]at this;omega
  case en3 =>
   rintro c st2 ⟨rfl,R2,g⟩;exact⟨rfl,R2,by omega⟩
  case po3 =>
   rintro c st2 ⟨rfl,R2,g⟩;refine wpS_pure (h st2 R2.S ?_);have c:=R2.cov;have so:=R2.sor;have hz2:=R2.S.size;have hl:(pendingOf st2).toList.length<=1:=by rw[AQ];exact g
   generalize (pendingOf st2).toList=l at c so hl
   match l,c,so,hl with
   | [],c,_,_ =>
    have c':0=a₀.size:=c;have:(arrOf st2).toList = []:=List.eq_nil_of_length_eq_zero (by rw[AQ];omega);rw[this];exact List.Pairwise.nil
   | [x],⟨c1,c2,c3⟩,so,_ =>
    have c3':0+x.2.1=a₀.size:=c3;have:=so x (AF.mpr rfl);unfold seg at this;rw[c1,FO,DD (by rw[AQ];omega)]at this;exact this
   | _::_::_,_,_,hl=>exact absurd hl (by simp)
  case st3 =>
   rintro x c st2 _ hx ⟨rfl,R2,g⟩
   try dsimp only
   refine wpS_bind (wpS_get ?_);by_cases hle:(pendingOf st2).size<=1
   .rw[AO hle];exact wpS_pure ⟨rfl,R2,hle⟩
   rw[AK hle];refine wpS_bind (Fx C h0 R2 (Nat.le_refl _) ?_ fun st3 R3 e3 _=>?_)
   .have hi2:∀{c:Prop} [Decidable c] {n:Nat},(if c then n-1 else n)+1<=n+1:=by intro c _ n;split<;>omega
    exact Nat.lt_of_le_of_lt hi2 (by omega)
   .simp only[EY,BA,CQ];exact wpS_pure ⟨rfl,R3,by omega⟩
 case st =>
  rintro x c st' _ hx ⟨lo,rfl,R,h1,h2⟩;dsimp only;by_cases hge:lo ≥ a₀.size
  .rw[AO hge];exact wpS_pure ⟨lo,rfl,R,by omega⟩
  rw[AK hge];refine wpS_bind (Fc C h0 R.S (by omega) (by omega) fun m st2 L2 hm1 hm2 hs2=>?_);dsimp only;by_cases hmr:m<mr
  .rw[AO hmr];refine wpS_bind (wpS_lift (ET ⟨rfl,?_⟩));refine wpS_bind (Ab C h0 L2 (by omega) (show min (a₀.size-lo) mr<=a₀.size-lo by omega) (by omega) hs2 fun st5 L5 s5=>?_);simp only[EY,BA,CQ];have hN:1<=min (a₀.size-lo) mr/\min (a₀.size-lo) mr<=a₀.size-lo:=by omega
   generalize min (a₀.size-lo) mr=N at hN s5⊢;have R5:RI Z kd a₀ lo st5:=by
    refine⟨L5.S,by rw[L5.pend];exact R.cov,fun y hy=>?_⟩;rw[L5.pend]at hy;have hc:=Cov.mem R.cov hy;rw[(L5.part R.S).seg_front (by omega)];exact R.sor y hy
   refine wpS_bind (wpS_get ?_);have push:∀(st6:SortSt),RI Z kd a₀ lo st6->Sor Z (seg (arrOf st6).toList lo N)->RI Z kd a₀ (lo+N) (setPending st6 ((pendingOf st6).push (lo,N,0))):=fun st6 R6 s6=>by
    refine⟨⟨R6.S.perm,R6.S.kind,R6.S.failed⟩,?_,fun y hy=>?_⟩
    .show Cov ((pendingOf st6).push (lo,N,0)).toList 0 (lo+N);rw[DI];exact Cov.app.mpr ⟨lo,R6.cov,rfl,(by show 1<=N;omega),rfl⟩
    .have hy':y∈((pendingOf st6).push (lo,N,0)).toList:=hy;rw[DI]at hy';rcases AU.mp hy' with hy' | hy'
     .exact R6.sor y hy'
     .rw[AF.mp hy'];exact s6
   cases hbk:(pendingOf st5).back? with
   | none =>
    dsimp only;refine wpS_bind (wpS_modify (wpS_pure ⟨_,rfl,push _ R5 s5.sor,by omega,by omega⟩))
   | some bk =>
    obtain⟨s1,n1,pb⟩:=bk;dsimp only;generalize power' a₀.size (2*s1+n1) (2*s1+n1+n1+N) a₀.size=pw;refine wpS_bind (wpS_mono (wpS_forRange (I:=fun x c st6=>c =(none,())/\RI Z kd a₀ lo st6/\Part Z (arrOf st5).toList (arrOf st6).toList 0 lo)
     (Q:=fun c st6=>c =(none,())/\RI Z kd a₀ lo st6/\Part Z (arrOf st5).toList (arrOf st6).toList 0 lo) ?stc1 (fun _ _ z=>z) ⟨rfl,R5,Part.refl _ _ _⟩) ?poc1)
    case stc1 =>
     rintro x' c st6 _ _ ⟨rfl,R6,P6⟩
     try dsimp only
     refine wpS_bind (wpS_get ?_);by_cases hp1:(pendingOf st6).size>1
     .rw[AO hp1];obtain⟨⟨u1,u2,ol⟩,hu⟩:∃y,(pendingOf st6)[(pendingOf st6).size-2]?=some y:=⟨_,getElem?_pos _ _ (by omega)⟩;rw[hu];dsimp only;by_cases hol:ol<=pw
      .rw[AO hol];exact wpS_pure ⟨rfl,R6,P6⟩
      rw[AK hol];refine wpS_bind (Fx C h0 R6 h1 (by omega) fun st7 R7 _ P7=>?_);simp only[EY,BA,CQ];exact wpS_pure ⟨rfl,R7,⟨P7.perm.trans P6.perm,rfl,P7.back.trans P6.back⟩⟩
     .rw[AK hp1];exact wpS_pure ⟨rfl,R6,P6⟩
    case poc1 =>
     rintro c st6 ⟨rfl,R6,P6⟩;dsimp only;refine wpS_bind (wpS_modify (wpS_bind (wpS_modify (wpS_pure ⟨_,rfl,push _ (R6.congr n8) ?_,by omega,by omega⟩))));show Sor Z (seg (arrOf st6).toList lo N);rw[P6.seg_back (by omega)];exact s5.sor
  .rw[AK hmr];have R5:RI Z kd a₀ lo st2:=by
    refine⟨L2.S,by rw[L2.pend];exact R.cov,fun y hy=>?_⟩;rw[L2.pend]at hy;have hc:=Cov.mem R.cov hy;rw[(L2.part R.S).seg_front (by omega)];exact R.sor y hy
   refine wpS_bind (wpS_get ?_);have push:∀(st6:SortSt),RI Z kd a₀ lo st6->Sor Z (seg (arrOf st6).toList lo m)->RI Z kd a₀ (lo+m) (setPending st6 ((pendingOf st6).push (lo,m,0))):=fun st6 R6 s6=>by
    refine⟨⟨R6.S.perm,R6.S.kind,R6.S.failed⟩,?_,fun y hy=>?_⟩
    .show Cov ((pendingOf st6).push (lo,m,0)).toList 0 (lo+m);rw[DI];exact Cov.app.mpr ⟨lo,R6.cov,rfl,(by show 1<=m;omega),rfl⟩
    .have hy':y∈((pendingOf st6).push (lo,m,0)).toList:=hy;rw[DI]at hy';rcases AU.mp hy' with hy' | hy'
     .exact R6.sor y hy'
     .rw[AF.mp hy'];exact s6
   cases hbk:(pendingOf st2).back? with
   | none =>
    dsimp only;refine wpS_bind (wpS_modify (wpS_pure ⟨_,rfl,push _ R5 hs2.sor,by omega,by omega⟩))
   | some bk =>
    obtain⟨s1,n1,pb⟩:=bk;dsimp only;generalize power' a₀.size (2*s1+n1) (2*s1+n1+n1+m) a₀.size=pw;refine wpS_bind (wpS_mono (wpS_forRange (I:=fun x c st6=>c =(none,())/\RI Z kd a₀ lo st6/\Part Z (arrOf st2).toList (arrOf st6).toList 0 lo)
     (Q:=fun c st6=>c =(none,())/\RI Z kd a₀ lo st6/\Part Z (arrOf st2).toList (arrOf st6).toList 0 lo) ?stc2 (fun _ _ z=>z) ⟨rfl,R5,Part.refl _ _ _⟩) ?poc2)
    case stc2 =>
     rintro x' c st6 _ _ ⟨rfl,R6,P6⟩
     try dsimp only
     refine wpS_bind (wpS_get ?_);by_cases hp1:(pendingOf st6).size>1
     .rw[AO hp1];obtain⟨⟨u1,u2,ol⟩,hu⟩:∃y,(pendingOf st6)[(pendingOf st6).size-2]?=some y:=⟨_,getElem?_pos _ _ (by omega)⟩;rw[hu];dsimp only;by_cases hol:ol<=pw
      .rw[AO hol];exact wpS_pure ⟨rfl,R6,P6⟩
      rw[AK hol];refine wpS_bind (Fx C h0 R6 h1 (by omega) fun st7 R7 _ P7=>?_);simp only[EY,BA,CQ];exact wpS_pure ⟨rfl,R7,⟨P7.perm.trans P6.perm,rfl,P7.back.trans P6.back⟩⟩
     .rw[AK hp1];exact wpS_pure ⟨rfl,R6,P6⟩
    case poc2 =>
     rintro c st6 ⟨rfl,R6,P6⟩;dsimp only;refine wpS_bind (wpS_modify (wpS_bind (wpS_modify (wpS_pure ⟨_,rfl,push _ (R6.congr n8) ?_,by omega,by omega⟩))));show Sor Z (seg (arrOf st6).toList lo m);rw[P6.seg_back (by omega)];exact hs2.sor
end
def kd1(Z:KeyKind)(v:Value):Z.α:=(Z.keyOf v).getD Z.dflt
section
variable{prog:Program}{w:World}{A:Around}{E:Value->Shared->Prop}{s:Shared}{Z:KeyKind}{kd:SortKind}
def Ext(a:Addr)(s s':Shared):Prop:=∀b o,b≠a->s.heap.get? b=some o->s'.heap.get? b=some o
structure Keys(prog:Program)(w:World)(a:Addr)(s:Shared)(Z:KeyKind)(kd:SortKind)(vs:List Value):Prop where
 cmp:∀(A:Around) (s':Shared),Ext a s s'->Cmp prog w A s' Z kd
 key:∀v∈vs,∃k,Z.keyOf v=some k
 kind:2<=vs.length->∀(A:Around) (E:Value->Shared->Prop) (s':Shared) (Q:SortKind->Shared->Prop),Ext a s s'->Q kd s'->wpAny (model prog w) A (keyKind' vs.toArray) Q E s'
def Out(Z:KeyKind)(vs:List Value)(out:Array Value):Prop:=out.toList.Perm vs/\out.toList.Pairwise fun u v=>Z.kle (kd1 Z u) (kd1 Z v)
theorem Ih{vs:List Value}{xs:Array Keyed}(hp:xs.toList.Perm (pairsOf vs).toList)(hs:Sor Z xs.toList):Out Z vs (xs.map (·.2)):=by
 rw[pairsOf_toList]at hp;have hm:∀p∈xs.toList,p.1=p.2:=fun p h=>(mem_zip_self (hp.mem_iff.mp h)).1;have e:(xs.map (·.2)).toList=xs.toList.map (·.1):=by
  rw[Array.toList_map];exact GG fun p h=>(hm p h).symm
 refine⟨?_,?_⟩
 .rw[e];have:=hp.map Prod.fst
  rwa [List.map_fst_zip (Nat.le_refl _)]at this
 .rw[e,BQ];exact hs
theorem Bk{a:Addr}{vs:List Value}{n:Nat}{P:Fin->Shared->Prop}(ho:s.heap.get? a=some (seqObj "list" vs.toArray n))(hz:vs.length<=sizeLine)(K:Keys prog w a s Z kd vs)
  (h:∀out:Array Value,Out Z vs out->P (.done (.ret .none)) { s with heap:=sortedHeap s.heap a vs out }) :
  wpAny (model prog w) A (Builtin.«list.sort» ⟨[.ref a],[]⟩) P E s:=by
 rw[list_sort_plain];have ha:a<s.heap.objs.size:=AG ho;have hsz:vs.toArray.size=vs.length:=by simp
 refine AA (listItems_at ho rfl ?_);refine AA (listUpdate_at ho rfl ?_ (by rw[hsz];exact hz) (by simp));obtain⟨e1,ho1⟩:∃e1,(s.heap.update a (Obj.mapSeq fun _=>#[])).get? a=some (seqObj "list" #[] e1):=⟨_,get?_update_seq ho (fun _=>#[])⟩;refine AA (seqEpoch_at ho1 rfl ?_);refine AA (HY ?_ (by simpa using hz));refine AA (HK ?_);refine BT ?_;have ho6:(((s.heap.update a (Obj.mapSeq fun _=>#[])).push (seqObj "tuple" vs.toArray 0)).push (seqObj "list" #[] 0)).get? a=some (seqObj "list" #[] e1):=by
  rw[HZ _ _ _ (by rw[size_push',EU];exact A_ (DV ha)),HZ _ _ _ (by rw[EU];exact A_ ha)];exact ho1
 show wpAny (model prog w) A _ P E { s with heap:=((s.heap.update a (Obj.mapSeq fun _=>#[])).push (seqObj "tuple" vs.toArray 0)).push (seqObj "list" #[] 0) };dsimp only;have hE:Ext a s { s with heap:=((s.heap.update a (Obj.mapSeq fun _=>#[])).push (seqObj "tuple" vs.toArray 0)).push (seqObj "list" #[] 0) }:=fun b o hb e =>
  AE _ (AE _ ((BP s.heap _ (Ne.symm hb)).trans e))
 by_cases h2:vs.toArray.size<2
 .rw[AO h2,AO h2];refine AA (AD ?_);rw[StateT.run_pure];refine AA (AD ?_);dsimp only;refine AA (seqEpoch_at ho6 rfl ?_);refine AA (listUpdate_at ho6 rfl ?_ (by simp) (by rw[GK];show(pairsOf vs).size<=_;rw[pairsOf_size];omega));simp only[bne_self_eq_false,BA,CQ];refine AD (h _ (Ih (Z:=Z) (xs:=pairsOf vs) (HA _) ?_));rw[pairsOf_toList];rw[hsz]at h2
  match vs,h2 with
  | [],_=>exact List.Pairwise.nil
  | [v],_=>exact EH _ _
  | _::_::_,h2=>simp at h2;omega
 .rw[AK h2,AK h2];refine AA (K.kind (by omega) A E _ _ hE ?_);refine AA (BR (T4 (K.cmp A _ hE) (a₀:=pairsOf vs) (st:=SortSt.mk' kd (vs.toArray.zip vs.toArray) #[] 7 none)
   (Q:=fun _ st'=>St Z kd (pairsOf vs) st'/\Sor Z (arrOf st').toList)
   (fun p hp=>?_) ⟨HA _,rfl,rfl⟩ rfl fun st' a1 a2=>⟨a1,a2⟩) ?_ fun _ _ e=>e)
  .rw[pairsOf_toList]at hp;exact K.key _ (mem_zip_self hp).2
  rintro⟨⟨⟩,st'⟩ s' ⟨rfl,hp,hs⟩;dsimp only;refine AA (seqEpoch_at ho6 rfl ?_);refine AA (listUpdate_at ho6 rfl ?_ (by simp) (by rw[GK];show(arrOf st').size<=_;rw[hp.size,pairsOf_size];omega));rw[show failedOf st'=none from hp.failed];simp only[bne_self_eq_false,BA,CQ];exact AD (h _ (Ih hp.perm hs))
theorem sorted_gen{x:Value}{Q:Value->Shared->Prop}
  (hc:wpAny (model prog w) A.in1 (collect x) (fun vs s1=>s1.os=s.os/\vs.length<=sizeLine/\(∃(Z:KeyKind) (kd:SortKind),(∀s2:Shared,Ext s1.heap.objs.size s1 s2->Keys prog w s1.heap.objs.size s2 Z kd vs) /\
   ∀(out:Array Value) (h':Heap) (e:Nat),Out Z vs out->(∀b o,s1.heap.get? b=some o->h'.get? b=some o)->h'.get? s1.heap.objs.size=some (seqObj "list" out e)->Q (.ref s1.heap.objs.size) { s1 with heap:=h' })) E s) :
  wpAny (model prog w) A (call (.builtin "sorted") [x]) Q E s:=by
 refine Calls.call_function_entry kind_sorted plain_sorted entry_sorted (args_sorted1 _) ?_;unfold Builtin.«sorted»;refine AA (m:=checkCount "sorted" 1 1 _) (AD ?_);refine AA (BR hc (fun vs s1 ⟨eos,hz,Z,kd,K,q⟩=>?_) fun _ _ z=>z);refine AA (HK ?_);have hoL:(s1.heap.push (seqObj "list" vs.toArray 0)).get? s1.heap.objs.size=some (seqObj "list" vs.toArray 0):=AM _ rfl;show wpAny _ _ _ _ _ { s1 with heap:=s1.heap.push (seqObj "list" vs.toArray 0) };have hE:Ext s1.heap.objs.size s1 { s1 with heap:=s1.heap.push (seqObj "list" vs.toArray 0) }:=fun b o _ e=>AE _ e;refine AA (BT (CZ slot_list_sort ⟨_,hoL,rfl⟩ entry_list_sort (Bk (s:={ s1 with heap:=s1.heap.push (seqObj "list" vs.toArray 0) }) hoL hz (K _ hE) fun out ho=>⟨_,rfl,?_⟩) (args_list_sort _)));obtain⟨e,he⟩:=sortedHeap_at (h:=s1.heap.push (seqObj "list" vs.toArray 0)) (out:=out) hoL;refine AD ⟨_,rfl,q out _ e ho (fun b o eb=>?_) he⟩;have hlt:=AG eb;rw[sortedHeap_old (A_ hlt) (by rw[size_push'];exact DV hlt)];exact AE _ eb
theorem keys_strs{a:Addr}{vs:List Value}{ss:List Str}(hS:StrsAre vs ss):Keys prog w a s strKind oneType' vs:=by
 refine⟨fun A s' _=>⟨fun x y k l Q E hx hy q=>?_⟩,fun v hv=>?_,fun h2 A E s' Q _ q=>?_⟩
 .rw[keyLt'_oneType];exact strKind_oneLt prog w A E s' x y k l hx hy q
 .obtain⟨x,t,rfl⟩:=hS.all v hv;exact⟨_,rfl⟩
 .match vs,h2,hS with
  | v1::v2::r,_,hS =>
   rw[keyKind_strs hS];exact AD q
def pairLt(a b:List Nat×List Nat):Bool:=decide (a.1<b.1)||(decide (a.1=b.1)&&decide (a.2<b.2))
theorem pairLt_iff{a b:List Nat×List Nat}:pairLt a b=true↔a.1<b.1\/(a.1=b.1/\a.2<b.2):=by
 unfold pairLt;simp
theorem tri(a b:List Nat):a<b\/a=b\/b<a:=by
 by_cases h:a<b
 .exact .inl h
 .by_cases h':b<a
  .exact .inr (.inr h')
  .exact .inr (.inl (List.le_antisymm (List.not_lt.mp h') (List.not_lt.mp h)))
def Qp:List Value->Option (List Nat×List Nat)
 | [.str x _,.str y _]=>some (x.cps.toList,y.cps.toList)
 | _=>none
def Oz(c:Value):Data->Option (List Nat×List Nat)
 | .seq xs _=>if c = .type "tuple" then Qp xs.toList else none
 | _=>none
def pairOf(h:Heap):Value->Option (List Nat×List Nat)
 | .ref p=>(h.get? p).bind fun o=>Oz o.cls o.data
 | _=>none
@[reducible] def pairKind(h:Heap):KeyKind where
 α:=List Nat×List Nat
 blt:=pairLt
 irrefl a:=by
  rw[BM];intro z;rcases pairLt_iff.mp z with z | ⟨_,z⟩
  .exact FP _ z
  .exact FP _ z
 trans a b c h1 h2:=by
  rw[pairLt_iff]at *;rcases h1 with h1 | ⟨h1,h1'⟩
  .rcases h2 with h2 | ⟨h2,_⟩
   .exact .inl (HL h1 h2)
   .exact .inl (h2▸h1)
  .rcases h2 with h2 | ⟨h2,h2'⟩
   .exact .inl (h1▸h2)
   .exact .inr ⟨h1.trans h2,HL h1' h2'⟩
 negTrans a b c h:=by
  rw[pairLt_iff]at h;simp only[pairLt_iff];rcases h with h | ⟨h,h'⟩
  .rcases tri a.1 b.1 with q | q | q
   .exact .inl (.inl q)
   .exact .inr (.inl (q▸h))
   .exact .inr (.inl (HL q h))
  .rcases tri a.1 b.1 with q | q | q
   .exact .inl (.inl q)
   .rcases tri a.2 b.2 with r | r | r
    .exact .inl (.inr ⟨q,r⟩)
    .exact .inr (.inr ⟨q▸h,r▸h'⟩)
    .exact .inr (.inr ⟨q▸h,HL r h'⟩)
   .exact .inr (.inl (h▸q))
 total a b h1 h2:=by
  rw[BM]at h1 h2;rcases tri a.1 b.1 with q | q | q
  .exact absurd (pairLt_iff.mpr (.inl q)) h1
  .rcases tri a.2 b.2 with r | r | r
   .exact absurd (pairLt_iff.mpr (.inr ⟨q,r⟩)) h1
   .exact Prod.ext q r
   .exact absurd (pairLt_iff.mpr (.inr ⟨q.symm,r⟩)) h2
  .exact absurd (pairLt_iff.mpr (.inl q)) h2
 keyOf:=pairOf h
 dflt:=([],[])
def PairAt(h:Heap)(v:Value)(x y:Str):Prop:=∃p o n t u,v = .ref p/\h.get? p=some o/\o.cls = .type "tuple"/\o.data = .seq #[.str x t,.str y u] n
theorem PairAt.key{h:Heap}{v:Value}{x y:Str}(z:PairAt h v x y):pairOf h v=some (x.cps.toList,y.cps.toList):=by
 obtain⟨p,o,n,t,u,rfl,e,c,d⟩:=z;show(h.get? p).bind (fun o=>Oz o.cls o.data)=_;rw[e];show Oz o.cls o.data=_;rw[d,c];unfold Oz;exact(AO rfl).trans rfl
theorem zBh{l:List Value}{k:List Nat×List Nat}(e:Qp l=some k):∃x t y u,l = [.str x t,.str y u]:=by
 match l,e with
 | [.str x t,.str y u],_=>exact⟨x,t,y,u,rfl⟩
theorem Pt{h:Heap}{v:Value}{k:List Nat×List Nat}(e:pairOf h v=some k):∃x y,PairAt h v x y:=by
 match v,e with
 | .ref p,e =>
  have e':(h.get? p).bind (fun o=>Oz o.cls o.data)=some k:=e;obtain⟨o,ho,es⟩:=Option.bind_eq_some_iff.mp e';cases d:o.data with
  | seq xs n =>
   rw[d]at es;have es':(if o.cls = .type "tuple" then Qp xs.toList else none)=some k:=es;by_cases c:o.cls = .type "tuple"
   .rw[AO c]at es';obtain⟨x,t,y,u,el⟩:=zBh es';refine⟨x,y,p,o,n,t,u,rfl,ho,c,?_⟩;rw[d];have:xs = #[.str x t,.str y u]:=by rw[<-II,el]
    rw[this]
   .rw[AK c]at es';cases es'
  | _=>rw[d]at es;cases es
theorem Jv{h:Heap}{v:Value}{k:List Nat×List Nat}{x y:Str}(z:PairAt h v x y)(e:pairOf h v=some k):k =(x.cps.toList,y.cps.toList):=by
 rw[z.key]at e;exact(BI e).symm
theorem keys_pairs{a:Addr}{vs:List Value}{h0:Heap}(hv:∀v∈vs,∃x y,PairAt h0 v x y)(hk:∀b o,h0.get? b=some o->b≠a/\s.heap.get? b=some o) :
  Keys prog w a s (pairKind h0) (tuples' true) vs:=by
 refine⟨fun A s' hE=>⟨fun x y k l Q E hx hy q=>?_⟩,fun v hvm=>?_,fun h2 A E s' Q hE q=>?_⟩
 .obtain⟨x1,x2,zx⟩:=Pt hx;obtain⟨y1,y2,zy⟩:=Pt hy;have ek:=Jv zx hx;have el:=Jv zy hy;subst ek el;obtain⟨px,ox,nx,t1,u1,rfl,e1,_,d1⟩:=zx;obtain⟨py,oy,ny,t2,u2,rfl,e2,_,d2⟩:=zy;have f1:=hE _ _ (hk _ _ e1).1 (hk _ _ e1).2;have f2:=hE _ _ (hk _ _ e2).1 (hk _ _ e2).2;refine PySem.W.kat_lt f1 d1 f2 d2 ?_;show PySem.W.KatLex prog w A true _ Q [(.str x1 t1,.str y1 t2),(.str x2 u1,.str y2 u2)] 0 s';refine PySem.W.kat_cons (GL (PySem.W.kat_go (fun he=>?_) fun he=>?_))
  .have he:x1=y1:=by simpa using he
   refine PySem.W.kat_yes (PySem.W.kat_cons (GL (PySem.W.kat_go (fun he2=>?_) fun he2=>?_)))
   .have he2:x2=y2:=by simpa using he2
    refine PySem.W.kat_yes (PySem.W.kat_nil ?_);have:pairLt (x1.cps.toList,x2.cps.toList) (y1.cps.toList,y2.cps.toList)=decide (2<2):=by
     rw[he,he2];exact(pairKind h0).irrefl (y1.cps.toList,y2.cps.toList)
    show Q (decide (2<2)) s';rw[<-this];exact q
   .refine PySem.W.kat_no (PySem.W.kat_one _ _ (lt_str ?_));have:pairLt (x1.cps.toList,x2.cps.toList) (y1.cps.toList,y2.cps.toList)=decide (x2.cps.toList<y2.cps.toList):=by
     rw[he];unfold pairLt;simp[FP]
    show Q (decide (x2.cps.toList<y2.cps.toList)) s';rw[<-this];exact q
  .have he:¬x1=y1:=by simpa using he
   refine PySem.W.kat_no (oneLt_str ?_);have hne:¬x1.cps.toList=y1.cps.toList:=fun z=>he (by cases x1;cases y1;simp at z;simp[z]);have:pairLt (x1.cps.toList,x2.cps.toList) (y1.cps.toList,y2.cps.toList)=decide (x1.cps.toList<y1.cps.toList):=by
    unfold pairLt;simp[hne]
   rw[<-this];exact q
 .obtain⟨x,y,z⟩:=hv v hvm;exact⟨_,z.key⟩
 .have hT:∀(us:List Value),(∀v∈us,∃x y,PairAt h0 v x y)->∃fs,PySem.W.KatTups s'.heap us fs/\fs.length=us.length/\∀v∈fs,∃x t,v = .str x t:=by
   intro us
   induction us with
   | nil=>exact fun _=>⟨[],.nil,rfl,fun v hv=>by simp at hv⟩
   | cons v r ih =>
    intro hus;obtain⟨fs,g1,g2,g3⟩:=ih fun u hu=>hus u (AX _ hu);obtain⟨x,y,p,o,n,t,u,rfl,e,c,d⟩:=hus v (BE ..);refine⟨.str x t::fs,.cons (hE _ _ (hk _ _ e).1 (hk _ _ e).2) c d rfl g1,by simp[g2],fun z hz=>?_⟩;rcases AV.mp hz with rfl | hz
    .exact⟨x,t,rfl⟩
    .exact g3 z hz
  obtain⟨fs,g1,g2,g3⟩:=hT vs hv;refine PySem.W.kat_kind (T:=.type "str") g1 (by omega) (fun v hv=>?_) (by rfl) q;obtain⟨x,t,rfl⟩:=g3 v hv;exact .now
end
end TS
set_option Elab.async false
namespace L2
open PySem PySem.Spec PyProof.Rows
abbrev Key:=Sum Int Str
def Cj:Key->Value->Bool
 | .inl k,v=>Value.isInt k v
 | .inr x,v=>Value.isStrOf x v
def zGb(w:World):Key->Int
 | .inl k=>hashInt k
 | .inr x=>hashStr w x
theorem D6:∀{k:Key} {v:Value},Cj k v=true->(∃i t,k=Sum.inl i/\v=Value.int i t)\/(∃x t,k=Sum.inr x/\v=Value.str x t)
 | .inl i,v,h=>by
  obtain⟨t,e⟩:=Value.isInt_shape (k:=i) (v:=v) h;exact .inl ⟨i,t,rfl,e⟩
 | .inr x,v,h=>by
  obtain⟨t,e⟩:=Value.isStrOf_shape (x:=x) (v:=v) h;exact .inr ⟨x,t,rfl,e⟩
theorem Mn(i:Int)(t:Tok):Cj (.inl i) (.int i t)=true:=by simp[Cj,Value.isInt]
theorem T7(x:Str)(t:Tok):Cj (.inr x) (.str x t)=true:=by simp[Cj,Value.isStrOf]
theorem zAn(a b:Int):decide ((Sum.inl a:Key)=Sum.inl b) =(a == b):=by
 by_cases e:a=b
 .subst e;simp
 .have h:¬(Sum.inl a:Key)=Sum.inl b:=fun q=>e (Sum.inl.inj q);rw[AN h];exact(beq_eq_false_iff_ne.mpr e).symm
theorem Zj(a b:Str):decide ((Sum.inr a:Key)=Sum.inr b)=decide (a=b):=by
 by_cases e:a=b
 .subst e;simp
 .have h:¬(Sum.inr a:Key)=Sum.inr b:=fun q=>e (Sum.inr.inj q);rw[AN h,AN e]
theorem zBw(a:Int)(b:Str):decide ((Sum.inl a:Key)=Sum.inr b)=false:=AN (fun q=>nomatch q)
theorem zAa(a:Str)(b:Int):decide ((Sum.inr a:Key)=Sum.inl b)=false:=AN (fun q=>nomatch q)
def B9(prog:Program)(w:World):PySem.KeyKind prog w Key where
 is:=Cj
 hash:=zGb w
 inj:=fun v a b ha hb=>by
  rcases D6 ha with⟨i,t,rfl,rfl⟩ | ⟨x,t,rfl,rfl⟩
  .rcases D6 hb with⟨j,u,rfl,e⟩ | ⟨y,u,rfl,e⟩
   .injection e with e1 _;rw[e1]
   .exact nomatch e
  .rcases D6 hb with⟨j,u,rfl,e⟩ | ⟨y,u,rfl,e⟩
   .exact nomatch e
   .injection e with e1 _;rw[e1]
 byValue:=fun k v h=>by
  rcases D6 h with⟨i,t,rfl,rfl⟩ | ⟨x,t,rfl,rfl⟩<;>rfl
 pyHash:=fun hv h=>by
  rcases D6 hv with⟨i,t,rfl,rfl⟩ | ⟨x,t,rfl,rfl⟩
  .exact wpAny_pyHash_int h
  .exact wpAny_pyHash_str h
 eqBool:=fun hu hv h=>by
  rcases D6 hu with⟨i,t,rfl,rfl⟩ | ⟨x,t,rfl,rfl⟩
  .rcases D6 hv with⟨j,u,rfl,rfl⟩ | ⟨y,u,rfl,rfl⟩
   .rw[zAn]at h;exact wpAny_eqBool_int h
   .rw[zBw]at h;exact SeqAt.EqAt.int_str i t y u _ _ _ _ h
  .rcases D6 hv with⟨j,u,rfl,rfl⟩ | ⟨y,u,rfl,rfl⟩
   .rw[zAa]at h;exact SeqAt.EqAt.str_int x t j u _ _ _ _ h
   .rw[Zj]at h;exact GL h
 «strs»:=fun k x t v h=>by
  rcases D6 h with⟨i,u,rfl,e⟩ | ⟨y,u,rfl,e⟩
  .exact nomatch e
  .injection e with e1 _;subst e1;cases v<;>rfl
theorem Gy(prog:Program)(w:World)(i:Int)(t:Tok):(B9 prog w).is (.inl i) (.int i t)=true:=Mn i t
theorem Hr(prog:Program)(w:World)(x:Str)(t:Tok):(B9 prog w).is (.inr x) (.str x t)=true:=T7 x t
inductive V where
 | non | bl (b:Bool) | int (i:Int) | str (x:Str) | byt (b:Array UInt8) | flt (b:UInt64) | ref (a:Addr) | ty (n:String)
 deriving DecidableEq
def RelV:V->Value->Prop
 | .non,u=>u=Value.none
 | .bl b,u=>u=Value.bool b
 | .int i,u=>∃t,u=Value.int i t
 | .str x,u=>∃t,u=Value.str x t
 | .byt b,u=>∃t,u=Value.bytes b t
 | .flt b,u=>∃t,u=Value.float b t
 | .ref a,u=>u=Value.ref a
 | .ty n,u=>u=Value.type n
abbrev Vals:List V->List Value->Prop:=Paired RelV
theorem Vals.length{xs:List V}{us:List Value}(r:Vals xs us):xs.length=us.length:=Paired.length r
theorem Vals.get:∀{xs:List V} {us:List Value} {i:Nat} {x:V},Vals xs us->xs[i]?=some x->∃u,us[i]?=some u/\RelV x u
 | _,_,_,_,.nil,e=>by simp at e
 | _,_,0,_,.cons r _,e=>by simp at e;subst e;exact⟨_,rfl,r⟩
 | _,_,i+1,x,.cons _ t,e=>by
  obtain⟨u,h1,h2⟩:=Vals.get (i:=i) (x:=x) t (by simpa using e);exact⟨u,by simpa using h1,h2⟩
theorem Vals.set{x:V}{u:Value}(r:RelV x u):∀{xs:List V} {us:List Value} (i:Nat),Vals xs us->Vals (xs.set i x) (us.set i u)
 | _,_,_,.nil=>.nil
 | _,_,0,.cons _ t=>.cons r t
 | _,_,i+1,.cons q t=>.cons q (Vals.set r i t)
theorem Vals.append:∀{xs ys:List V} {us ws:List Value},Vals xs us->Vals ys ws->Vals (xs++ys) (us++ws)
 | _,_,_,_,.nil,s=>s
 | _,_,_,_,.cons r t,s=>.cons r (Vals.append t s)
theorem Vals.take:∀{xs:List V} {us:List Value} (n:Nat),Vals xs us->Vals (xs.take n) (us.take n)
 | _,_,0,_=>.nil
 | _,_,_+1,.nil=>.nil
 | _,_,n+1,.cons r t=>.cons r (Vals.take n t)
theorem Vals.drop:∀{xs:List V} {us:List Value} (n:Nat),Vals xs us->Vals (xs.drop n) (us.drop n)
 | _,_,0,r=>r
 | _,_,_+1,.nil=>.nil
 | _,_,n+1,.cons _ t=>Vals.drop n t
def RelO:Option V->Option Value->Prop
 | some v,some u=>RelV v u
 | none,none=>True
 | _,_=>False
def KV{Z:Type}:List (Z×V)->List (Z×Value)->Prop:=Paired fun(p:Z×V) (q:Z×Value)=>p.1=q.1/\RelV p.2 q.2
def kV:Key->V
 | .inl i=>.int i
 | .inr x=>.str x
inductive HO where
 | lst (xs:List V)
 | tup (xs:List V)
 | dK (kvs:List (Key×V)) | dT (kvs:List (List Key×V))
 | set (S:Int->Bool) (n:Nat)
 | ins (C dx:Addr) (fs:List (Str×V))
 | own (x:Addr)
 | xd (fs:List (Str×V))
 | met (f x:Addr)
 | rng (lo hi:Int)
 | frz (o:Obj) (u:HO)
 | tbl (ps:Array Value)
 | ext (φ:Heap->Prop)
set_option genInjectivity false
abbrev Hp:=Addr->Option HO
def upd(H:Hp)(a:Addr)(o:HO):Hp:=fun b=>if b=a then some o else H b
theorem A7{H:Hp}{a:Addr}{o:HO}:upd H a o a=some o:=by unfold upd;rw[AO rfl]
theorem B5{H:Hp}{a b:Addr}{o:HO}(h:b≠a):upd H a o b=H b:=by unfold upd;rw[AK h]
theorem Wx{H:Hp}{a:Addr}{o u:HO}:upd (upd H a o) a u=upd H a u:=by
 funext b;unfold upd;split<;>rfl
theorem Y8{H:Hp}{a b:Addr}{o u:HO}(h:H a=some o)(h':H b=some u)(d:o≠u):a≠b:=by
 intro e;subst e;rw[h]at h';exact d (BI h')
theorem A9{H:Hp}{a b:Addr}{o:HO}(h:H a=some o)(h':H b=none):a≠b:=by
 intro e;subst e;rw[h]at h';cases h'
section
variable(P:Program)(w:World)
def ObjOk(H:Hp)(h:Heap)(a:Addr):HO->Prop
 | .lst xs=>xs.length<=sizeLine/\∃(its:List Value) (n:Nat),Vals xs its/\h.get? a=some { cls:=.type "list",data:=.seq its.toArray n }
 | .tup xs=>xs.length<=sizeLine/\∃its:List Value,Vals xs its/\IsTup h a its.toArray
 | .dK kvs=>kvs.length<=sizeLine/\(a == sysModules)=false/\∃vs,KV kvs vs/\h.DictOf (B9 P w) a vs
 | .dT kvs=>kvs.length<=sizeLine/\(a == sysModules)=false/\∃xs:List (List Key×Addr×Value),
   Paired (fun(p:List Key×V) (q:List Key×Addr×Value)=>p.1=q.1/\H q.2.1=some (.tup (p.1.map kV))/\RelV p.2 q.2.2) kvs xs /\
   ∃o es ep,h.get? a=some o/\o.ExactDict/\o.data = .dict es ep/\es.toList=xs.map (entryOfKey (tupleKind (B9 P w)))/\(xs.map (·.1)).Nodup
 | .set S n=>h.SetOf (intKind P w) a S n
 | .ins C dx fs=>H dx=some (.own a)/\fs.length<=1000/\dx≠a/\h.get? a=some (PySem.W.instObj C dx) /\
   ∃mA,h.Ns1 dx mA/\(∀f,RelO (fs.lookup f) (mA f))/\PySem.Within mA (fs.map (·.1))
 | .own _=>∃o,h.get? a=some o
 | .xd fs=>∃mA,h.Ns1 a mA/\∀f,RelO (fs.lookup f) (mA f)
 | .rng lo hi=>∃t u v,h.get? a=some { cls:=.type "range",data:=.fields #[.int lo t,.int hi u,.int 1 v] }
 | .frz o u=>h.get? a=some o/\ObjOk H h a u
 | .tbl ps=>h.get? a=some { cls:=.none,data:=.fields ps }
 | .met f x=>h.get? a=some (PySem.W.methodObj (.ref f) (.ref x))
 | .ext φ=>φ h/\(∃o,h.get? a=some o)/\∀h1 h2:Heap,φ h1->(∀o,h1.get? a=some o->h2.get? a=some o)->φ h2
def HOk(H:Hp)(h:Heap):Prop:=∀a o,H a=some o->ObjOk P w H h a o
end
section
variable{P:Program}{w:World}{H H':Hp}{h h':Heap}{a:Addr}{o:HO}
theorem ObjOk.lt(x:ObjOk P w H h a o):a<h.objs.size:=by
 cases o with
 | lst xs=>obtain⟨_,_,_,_,e⟩:=x;exact AG e
 | tup xs=>obtain⟨_,_,_,p⟩:=x;exact p.lt
 | dK kvs=>obtain⟨_,_,_,_,o,_,_,e,_⟩:=x;exact AG e
 | dT kvs=>obtain⟨_,_,_,_,o,_,_,e,_⟩:=x;exact AG e
 | set S n=>obtain⟨o,_,_,_,e,_⟩:=x;exact AG e
 | ins C dx fs=>obtain⟨_,_,_,e,_⟩:=x;exact AG e
 | own y=>obtain⟨_,e⟩:=x;exact AG e
 | xd fs=>obtain⟨_,⟨_,_,_,e,_⟩,_⟩:=x;exact AG e
 | rng lo hi=>obtain⟨_,_,_,e⟩:=x;exact AG e
 | frz ob u=>obtain⟨e,_⟩:=x;exact AG e
 | tbl ps=>exact AG (show h.get? a=some _ from x)
 | met f y=>exact AG (show h.get? a=some _ from x)
 | ext φ=>obtain⟨_,⟨_,e⟩,_⟩:=x;exact AG e
theorem Paired.mapP{α β:Type}{F G:α->β->Prop}:∀{l₁:List α} {l₂:List β},Paired F l₁ l₂->(∀a b,F a b->G a b)->Paired G l₁ l₂
 | _,_,.nil,_=>.nil
 | _,_,.cons r t,f=>.cons (f _ _ r) (Paired.mapP t f)
theorem ObjOk.stay(x:ObjOk P w H h a o)(k:∀b u,(b=a\/H b=some (.own a))->h.get? b=some u->h'.get? b=some u)
  (ho:∀b,H b=some (.own a)->H' b=some (.own a)) (ht:∀b xs,H b=some (.tup xs)->H' b=some (.tup xs)):ObjOk P w H' h' a o:=by
 induction o with
 | lst xs=>obtain⟨z,its,n,r,e⟩:=x;exact⟨z,its,n,r,k _ _ (.inl rfl) e⟩
 | tup xs=>obtain⟨z,its,r,ob,e,c⟩:=x;exact⟨z,its,r,ob,k _ _ (.inl rfl) e,c⟩
 | dK kvs=>obtain⟨z,y,vs,r,ob,es,ep,e,c⟩:=x;exact⟨z,y,vs,r,ob,es,ep,k _ _ (.inl rfl) e,c⟩
 | dT kvs =>
  obtain⟨z,y,xs,r,ob,es,ep,e,c⟩:=x;exact⟨z,y,xs,Paired.mapP r fun p q z=>⟨z.1,ht _ _ z.2.1,z.2.2⟩,ob,es,ep,k _ _ (.inl rfl) e,c⟩
 | set S n=>obtain⟨ob,es,ep,t,e,c⟩:=x;exact⟨ob,es,ep,t,k _ _ (.inl rfl) e,c⟩
 | ins C dx fs =>
  obtain⟨d,z,ne,e,mA,⟨od,es,ep,e2,c⟩,r⟩:=x;exact⟨ho _ d,z,ne,k _ _ (.inl rfl) e,mA,⟨od,es,ep,k _ _ (.inr d) e2,c⟩,r⟩
 | own y=>obtain⟨ob,e⟩:=x;exact⟨ob,k _ _ (.inl rfl) e⟩
 | xd fs=>obtain⟨mA,⟨od,es,ep,e,c⟩,r⟩:=x;exact⟨mA,⟨od,es,ep,k _ _ (.inl rfl) e,c⟩,r⟩
 | rng lo hi=>obtain⟨t,u,v,e⟩:=x;exact⟨t,u,v,k _ _ (.inl rfl) e⟩
 | frz ob u ih=>obtain⟨e,q⟩:=x;exact⟨k _ _ (.inl rfl) e,ih q⟩
 | tbl ps =>
  have e:h.get? a=some { cls:=.none,data:=.fields ps }:=x;show h'.get? a=some { cls:=.none,data:=.fields ps };exact k a _ (.inl rfl) e
 | met f y =>
  have e:h.get? a=some (PySem.W.methodObj (.ref f) (.ref y)):=x;show h'.get? a=some (PySem.W.methodObj (.ref f) (.ref y));exact k a _ (.inl rfl) e
 | ext φ=>obtain⟨p,⟨o,e⟩,st⟩:=x;exact⟨st _ _ p fun o q=>k _ _ (.inl rfl) q,⟨o,k _ _ (.inl rfl) e⟩,st⟩
theorem HOk.lt(x:HOk P w H h)(e:H a=some o):a<h.objs.size:=(x a o e).lt
theorem HOk.fresh(x:HOk P w H h)(e:h.objs.size<=a):H a=none:=by
 cases q:H a with
 | none=>rfl
 | some u=>exact absurd (BH (x.lt q) e) (DN _)
theorem HOk.kept(x:HOk P w H h)(k:∀b u,h.get? b=some u->h'.get? b=some u):HOk P w H h':=fun a o e =>
 (x a o e).stay (fun b u _ q=>k b u q) (fun _ q=>q) fun _ _ q=>q
theorem HOk.laid(x:HOk P w H h)(k:∀b u,h.get? b=some u->h'.get? b=some u)(hp:h.objs.size<=a)(new:ObjOk P w (upd H a o) h' a o):HOk P w (upd H a o) h':=fun b u e=>by
 have hn:=x.fresh hp;by_cases hb:b=a
 .subst hb;rw[A7]at e;cases e;exact new
 .rw[B5 hb]at e;exact(x b u e).stay (fun c v _ q=>k c v q) (fun c q=>by rw[B5 (A9 q hn)];exact q) fun c xs q=>by rw[B5 (A9 q hn)];exact q
end
def Rd(H:Hp)(a:Addr)(u:HO):Prop:=H a=some u\/∃o,H a=some (.frz o u)
theorem Rd.ok{P:Program}{w:World}{H:Hp}{h:Heap}{a:Addr}{u:HO}(r:Rd H a u)(x:HOk P w H h):ObjOk P w H h a u:=by
 rcases r with r | ⟨o,r⟩
 .exact x a u r
 .obtain⟨_,q⟩:=x a _ r;exact q
def Mut:Option HO->Prop
 | some (.lst _)=>True
 | some (.dK _)=>True
 | some (.dT _)=>True
 | some (.set _ _)=>True
 | some (.ins _ _ _)=>True
 | some (.ext _)=>True
 | _=>False
section
variable{P:Program}{w:World}{H:Hp}{h h':Heap}{x e:Addr}{o':HO}
theorem HOk.write(ok:HOk P w H h)(mu:Mut (H x))(he:e=x\/H e=some (.own x))(k:∀b u,b≠e->h.get? b=some u->h'.get? b=some u)(heo:∃u,h'.get? e=some u)
  (new:ObjOk P w (upd H x o') h' x o'):HOk P w (upd H x o') h':=fun b u q=>by
 have nown:∀c y,H c=some (.own y)->c≠x:=fun c y r z=>by subst z;rw[r]at mu;exact mu
 have ntup:∀c xs,H c=some (.tup xs)->c≠x:=fun c xs r z=>by subst z;rw[r]at mu;exact mu
 by_cases hb:b=x
 .subst hb;rw[A7]at q;cases q;exact new
 .rw[B5 hb]at q;by_cases hbe:b=e
  .have q':H b=some (.own x):=by
    rcases he with z | z
    .exact absurd (hbe.trans z) hb
    .rw[hbe];exact z
   rw[q]at q';cases q';obtain⟨v,hv⟩:=heo;exact⟨v,by rw[hbe];exact hv⟩
  .refine(ok b u q).stay (fun c v hc r=>k c v ?_ r) (fun c r=>by rw[B5 (nown c b r)];exact r) fun c xs r=>by rw[B5 (ntup c xs r)];exact r
   rcases hc with rfl | hc
   .exact hbe
   .rintro rfl;rcases he with z | z
    .exact nown c b hc z
    .rw[hc]at z;cases z;exact hb rfl
end
structure Un(fs ex:List Addr)(H H':Hp)(h h':Heap):Prop where
 keep:∀b o,h.get? b=some o->H b=none->b∉fs->b∉ex->h'.get? b=some o
 slot:∀b o,h.get? b=some o->H b=none->b∈fs->b∉ex->∃sl,h'.get? b=some { o with slots:=sl }
 free:∀b o,h.get? b=some o->H b=none->b∉ex->H' b=none
 there:∀b o,h.get? b=some o->b∉ex->∃o',h'.get? b=some o'
 tups:∀b xs,H b=some (.tup xs)->H' b=some (.tup xs)
 frzs:∀b o u,H b=some (.frz o u)->H' b=some (.frz o u)
 tbls:∀b ps,H b=some (.tbl ps)->∃more,H' b=some (.tbl (ps++more))
section
variable{fs fs' ex ex':List Addr}{H H1 H2:Hp}{h h1 h2 h':Heap}{a x e:Addr}{o:HO}
theorem Un.any(u:Un fs ex H H1 h h1){b:Addr}{ob:Obj}(q:h.get? b=some ob)(n:H b=none)(hx:b∉ex):∃sl,h1.get? b=some { ob with slots:=sl }:=by
 by_cases hb:b∈fs
 .exact u.slot b ob q n hb hx
 .exact⟨ob.slots,u.keep b ob q n hb hx⟩
theorem Un.kept(k:∀b u,h.get? b=some u->h'.get? b=some u):Un fs ex H H h h' :=
 ⟨fun b ob q _ _ _=>k b ob q,fun b ob q _ _ _=>⟨ob.slots,k b ob q⟩,fun _ _ _ n _=>n,fun b ob q _=>⟨ob,k b ob q⟩,fun _ _ q=>q,fun _ _ _ q=>q,fun _ ps q=>⟨#[],by rw[q];simp⟩⟩
theorem Un.refl:Un fs ex H H h h:=Un.kept fun _ _ q=>q
theorem Un.laid(k:∀b u,h.get? b=some u->h'.get? b=some u)(hp:h.objs.size<=a)(hn:H a=none):Un fs ex H (upd H a o) h h' where
 keep:=fun b u q _ _ _=>k b u q
 slot:=fun b u q _ _ _=>⟨u.slots,k b u q⟩
 free:=fun b u q n _=>by rw[B5 (A_ (BH (AG q) hp))];exact n
 there:=fun b u q _=>⟨u,k b u q⟩
 tups:=fun b xs q=>by rw[B5 (A9 q hn)];exact q
 frzs:=fun b u xs q=>by rw[B5 (A9 q hn)];exact q
 tbls:=fun b ps q=>⟨#[],by rw[B5 (A9 q hn),q];simp⟩
theorem Un.write(mu:Mut (H x))(he:e=x\/H e=some (.own x))(k:∀b u,b≠e->h.get? b=some u->h'.get? b=some u)(heo:∃u,h'.get? e=some u):Un fs ex H (upd H x o) h h':=by
 have hx:∀b,H b=none->b≠x:=fun b n z=>by subst z;rw[n]at mu;exact mu
 have hb:∀b,H b=none->b≠e:=fun b n z=>by
  subst z;rcases he with r | r
  .exact hx b n r
  .rw[n]at r;cases r
 have hm:∀b u,H b=some u->¬Mut (some u)->b≠x:=fun b u q nm z=>by subst z;rw[q]at mu;exact nm mu
 refine⟨fun b u q n _ _=>k b u (hb b n) q,fun b u q n _ _=>⟨u.slots,k b u (hb b n) q⟩,fun b u q n _=>by rw[B5 (hx b n)];exact n,fun b u q _=>?_,
  fun b xs q=>by rw[B5 (hm b _ q fun z=>z)];exact q,fun b u xs q=>by rw[B5 (hm b _ q fun z=>z)];exact q,fun b ps q=>⟨#[],by rw[B5 (hm b _ q fun z=>z),q];simp⟩⟩
 by_cases hbe:b=e
 .subst hbe;exact heo
 .exact⟨u,k b u hbe q⟩
end
def trk(h:Heap)(H:Hp):List Addr:=(List.range h.objs.size).filter fun a=>(H a).isSome
def Rx(h:Heap)(H:Hp):Heap:=PySem.W.hideAll h (trk h H)
theorem Py(h:Heap)(H:Hp):(Rx h H).objs.size=h.objs.size:=PySem.W.hideAll_size _ _
theorem Tk{h:Heap}{H:Hp}{b:Addr}{o:Obj}(e:h.get? b=some o)(n:H b=none):(Rx h H).get? b=some o :=
 PySem.W.hideAll_get _ e fun hm=>by
  have q:(H b).isSome=true:=(B_.mp hm).2;rw[n]at q;simp at q
theorem Xd{h:Heap}{H:Hp}{b:Addr}{o:Obj}(e:(Rx h H).get? b=some o):h.get? b=some o/\H b=none:=by
 have e':h.get? b=some o:=PySem.W.of_hideAll (trk h H) e;refine⟨e',?_⟩;cases q:H b with
 | none=>rfl
 | some x =>
  have hm:b∈trk h H:=B_.mpr ⟨BV.mpr (AG e'),by simp[q]⟩;have z:(Rx h H).get? b=none:=PySem.W.hideAll_none (trk h H) hm;rw[z]at e;cases e
structure Mod(K:PySem.W.Frag)(mg:Str->Option Value)(base:Heap):Prop where
 kin:K.In base
 glob:base.Ns mainGlobals mg
 blt:∃mb,base.Ns builtinsNs mb/\∀x:Str,x≠ "__name__"->mb x=bootBuiltins x
 nolimit:base.NoLimit
structure Cx where
 prog:Program
 w:World
 K:PySem.W.Frag
 mg:Str->Option Value
 base:Heap
 A:Around
 N:List Str
 s₀:Shared
 H₀:Hp
 env:Env
 outer:List Env
 stack:List Env
 ex:List Addr
 fn:Str->Bool
 calm:Bool
 pn:List (Addr×Obj)
 xe:Value->Shared->Prop
def frs(l:List Env):List Addr:=l.filterMap (·.frame)
abbrev Cx.fs(X:Cx):List Addr:=frs X.outer
def Vis(sc:Scope)(x:Str):Prop:=sc.names.lookup x=some .local\/sc.names.lookup x=some .cell\/sc.names.lookup x=some .free
def Loc(sc:Scope)(x:Str):Prop:=sc.names.lookup x=some .local\/sc.names.lookup x=some .cell
def zGg(env:Env)(h:Heap)(m:Str->Option Value)(x:Str)(u:Value):Prop :=
 (env.kindOf x=some .local/\m x=some u)\/((env.kindOf x=some .cell\/env.kindOf x=some .free)/\∃c,env.cells.lookup x=some c/\h.IsCell c (some u))
structure Cx.Ok(X:Cx):Prop where
 mod:Mod X.K X.mg X.base
 kind:X.env.scope.kind = .function
 glob:X.env.globals=mainGlobals
 blt:X.env.builtins=builtinsNs
 above:X.s₀.heap.objs.size<=X.env.locals
 inj:∀x y c,X.env.cells.lookup x=some c->X.env.cells.lookup y=some c->x=y
 has:∀x,(X.env.kindOf x=some .cell\/X.env.kindOf x=some .free)->∃c,X.env.cells.lookup x=some c
 cab:∀x c,X.fn x=true->X.env.cells.lookup x=some c->X.s₀.heap.objs.size<=c
 hd:X.calm=true->X.A.handled=none
 frames:X.A.frames=some X.stack
 stk:X.stack=X.outer\/(X.stack=X.env::X.outer/\X.env.frame=some X.env.locals)
 exf:∀b∈X.ex,b≠X.env.locals/\∀x c,X.env.cells.lookup x=some c->c≠b
 bs:∀b o,X.base.get? b=some o->X.s₀.heap.get? b=some o/\X.H₀ b=none
 bsz:X.base.objs.size<=X.s₀.heap.objs.size
 noex:∀b o,X.base.get? b=some o->b∉X.ex
 exfs:∀b∈X.ex,b∉X.fs
 funs:X.s₀.heap.FunFrames X.base X.outer
 frf:∀b∈X.fs,X.H₀ b=none
structure Inv(X:Cx)(pins:List (Addr×Obj))(σ:List (Option V))(H:Hp)(s:Shared):Prop where
 ok:X.Ok
 os:s.os=X.s₀.os
 bare:AllBare s.gens
 base:Un X.fs X.ex X.H₀ H X.s₀.heap s.heap
 loc:∃m,s.heap.Ns X.env.locals m/\∀(i:Nat) (x:Str) (v:V),X.N[i]?=some x->σ[i]?=some (some v)->Vis X.env.scope x->∃u,RelV v u/\zGg X.env s.heap m x u
 cell:∀x c,X.env.cells.lookup x=some c->∃v,s.heap.IsCell c v
 free:H X.env.locals=none
 freeC:∀x c,X.env.cells.lookup x=some c->H c=none
 pin:∀p∈X.pn++pins,s.heap.get? p.1=some p.2/\H p.1=none/\p.1≠X.env.locals/\p.1∉X.fs/\∀v,p.2.data≠ .cell v
 hok:HOk X.prog X.w H s.heap
 len:σ.length=X.N.length
section
variable{X:Cx}{pins:List (Addr×Obj)}{σ:List (Option V)}{H H':Hp}{s:Shared}{h':Heap}
theorem Cx.Ok.nofr(ok:X.Ok){b:Addr}{o:Obj}(e:X.base.get? b=some o):b∉X.fs:=fun hb=>by
 have:=(ok.funs.mem hb).1;rw[e]at this;cases this
theorem Inv.bs(I:Inv X pins σ H s):∀b o,X.base.get? b=some o->s.heap.get? b=some o/\H b=none:=fun b o e =>
 ⟨I.base.keep b o (I.ok.bs b o e).1 (I.ok.bs b o e).2 (I.ok.nofr e) (I.ok.noex b o e),I.base.free b o (I.ok.bs b o e).1 (I.ok.bs b o e).2 (I.ok.noex b o e)⟩
theorem Inv.bk(I:Inv X pins σ H s):∀b o,X.base.get? b=some o->s.heap.get? b=some o:=fun b o e=>(I.bs b o e).1
theorem Inv.mod(I:Inv X pins σ H s):Mod X.K X.mg X.base:=I.ok.mod
theorem Inv.kIn(I:Inv X pins σ H s):X.K.In s.heap:=I.ok.mod.kin.keeps I.bk
theorem Inv.lt(I:Inv X pins σ H s):X.env.locals<s.heap.objs.size:=let⟨_,hn,_⟩:=I.loc;hn.lt
theorem Inv.sz(I:Inv X pins σ H s):X.s₀.heap.objs.size<=s.heap.objs.size:=Nat.le_trans I.ok.above (EX I.lt)
theorem Inv.nofs(I:Inv X pins σ H s){a:Addr}(h:s.heap.objs.size<=a):a∉X.fs:=fun hb=>by
 obtain⟨_,o,ho,_⟩:=I.ok.funs.mem hb;exact absurd (BH (AG ho) (Nat.le_trans I.sz h)) (DN _)
theorem Inv.cne(I:Inv X pins σ H s):∀x c,X.env.cells.lookup x=some c->c≠X.env.locals:=fun x c e z=>by
 obtain⟨v,o,ho,hd⟩:=I.cell x c e;obtain⟨m,⟨o',es,ep,ho',hd',_⟩,_⟩:=I.loc;rw[z,ho']at ho;cases ho;rw[hd']at hd;cases hd
theorem Inv.funs(I:Inv X pins σ H s):s.heap.FunFrames X.base X.outer:=by
 have all:∀(l:List Env),(∀b∈frs l,b∈X.fs)->X.s₀.heap.FunFrames X.base l->s.heap.FunFrames X.base l:=by
  intro l
  induction l with
  | nil=>intro _ _;trivial
  | cons env r ih =>
   intro hs hl;obtain⟨hk,⟨L,o,hf,hn,ho,hd⟩,hr⟩:=hl;have hL:L∈X.fs:=hs L (by unfold frs;rw[ED,hf];exact BE);obtain⟨sl,e⟩:=I.base.slot L o ho (I.ok.frf L hL) hL fun z=>I.ok.exfs L z hL;exact⟨hk,⟨L,_,hf,hn,e,hd⟩,ih (fun b hb=>hs b (by unfold frs;rw[ED,hf];exact AX _ hb)) hr⟩
 exact all X.outer (fun _ hb=>hb) I.ok.funs
theorem Inv.stack(I:Inv X pins σ H s):s.heap.FunFrames X.base X.stack:=by
 rcases I.ok.stk with e | ⟨e,hf⟩
 .rw[e];exact I.funs
 .rw[e];obtain⟨m,hn,_⟩:=I.loc;refine .cons (by rw[I.ok.kind];decide) hf hn ?_ I.funs;exact Heap.get?_none_of_le (Nat.le_trans I.ok.bsz I.ok.above)
theorem Inv.stkSub(I:Inv X pins σ H s):∀b∈frs X.stack,b∈X.env.locals::X.fs:=fun b hb=>by
 rcases I.ok.stk with e | ⟨e,hf⟩
 .rw[e]at hb;exact AX _ hb
 .rw[e]at hb;unfold frs at hb;rw[ED,hf]at hb;exact hb
theorem Inv.stkFree(I:Inv X pins σ H s):∀b∈frs X.stack,H b=none:=fun b hb=>by
 rcases AV.mp (I.stkSub b hb)with e | hb
 .rw[e];exact I.free
 .obtain⟨_,o,ho,_⟩:=I.ok.funs.mem hb;exact I.base.free b o ho (I.ok.frf b hb) fun z=>I.ok.exfs b z hb
theorem Inv.step{g':Array GenState}{t':Nat}{d':Drawn}{ch:List Addr}(I:Inv X pins σ H s)
  (hch:∀b∈ch,(b∈X.ex\/X.s₀.heap.objs.size<=b)/\b≠X.env.locals/\(∀x c,X.env.cells.lookup x=some c->c≠b)/\∀p∈X.pn++pins,p.1≠b)
  (keep:∀b o,b≠X.env.locals->b∉X.fs->b∉ch->s.heap.get? b=some o->H b=none->h'.get? b=some o)
  (slot:∀b o,b≠X.env.locals->b∈X.fs->b∉ch->s.heap.get? b=some o->H b=none->∃sl,h'.get? b=some { o with slots:=sl }) (free:∀b o,b∉ch->s.heap.get? b=some o->H b=none->H' b=none)
  (there:∀b o,b∉ch->s.heap.get? b=some o->∃o',h'.get? b=some o')
  (tups:∀b xs,H b=some (.tup xs)->H' b=some (.tup xs)) (frzs:∀b o u,H b=some (.frz o u)->H' b=some (.frz o u)) (tbls:∀b ps,H b=some (.tbl ps)->∃more,H' b=some (.tbl (ps++more)))
  (ns:∀m,s.heap.Ns X.env.locals m->h'.Ns X.env.locals m) (hok:HOk X.prog X.w H' h') (hg:AllBare g') :
  Inv X pins σ H' { s with heap:=h',gens:=g',drawn:=d',toks:=t' }:=by
 have neL:∀b o,X.s₀.heap.get? b=some o->b≠X.env.locals:=fun b o e=>A_ (BH (AG e) I.ok.above);have neC:∀b o,X.s₀.heap.get? b=some o->b∉X.ex->b∉ch:=fun b o e hx hb=>by
  rcases(hch b hb).1 with z | z
  .exact hx z
  .exact absurd (BH (AG e) z) (DN _)
 have cellK:∀x c,X.env.cells.lookup x=some c->∀v,s.heap.IsCell c v->h'.IsCell c v:=fun x c e v ⟨o,ho,hd⟩=>by
  have nch:c∉ch:=fun z=>(hch c z).2.2.1 x c e rfl;by_cases hc:c∈X.fs
  .obtain⟨sl,q⟩:=slot c o (I.cne x c e) hc nch ho (I.freeC x c e);exact⟨_,q,hd⟩
  .exact⟨o,keep c o (I.cne x c e) hc nch ho (I.freeC x c e),hd⟩
 refine⟨I.ok,I.os,hg,⟨fun b o e n hb hx=>?_,fun b o e n hb hx=>?_,fun b o e n hx=>?_,fun b o e hx=>?_,fun b xs e=>tups b xs (I.base.tups b xs e),fun b o xs e=>frzs b o xs (I.base.frzs b o xs e),fun b ps e=>?_⟩,?_,fun x c e=>?_,?_,fun x c e=>?_,fun p hp=>?_,hok,I.len⟩
 .exact keep b o (neL b o e) hb (neC b o e hx) (I.base.keep b o e n hb hx) (I.base.free b o e n hx)
 .obtain⟨sl,e1⟩:=I.base.slot b o e n hb hx;obtain⟨sl',e2⟩:=slot b _ (neL b o e) hb (neC b o e hx) e1 (I.base.free b o e n hx);exact⟨sl',e2⟩
 .obtain⟨o',e1⟩:=I.base.there b o e hx;exact free b o' (neC b o e hx) e1 (I.base.free b o e n hx)
 .obtain⟨o',e1⟩:=I.base.there b o e hx;exact there b o' (neC b o e hx) e1
 .obtain⟨m1,e1⟩:=I.base.tbls b ps e;obtain⟨m2,e2⟩:=tbls b _ e1;exact⟨m1++m2,by rw[e2,Array.append_assoc]⟩
 .obtain⟨m,hn,hl⟩:=I.loc;refine⟨m,ns m hn,fun i x v e1 e2 e3=>?_⟩;obtain⟨u,r,l⟩:=hl i x v e1 e2 e3;refine⟨u,r,?_⟩;rcases l with l | ⟨k,c,e,z⟩
  .exact .inl l
  .exact .inr ⟨k,c,e,cellK x c e _ z⟩
 .obtain⟨v,z⟩:=I.cell x c e;exact⟨v,cellK x c e v z⟩
 .obtain⟨m,⟨o,_,_,ho,_⟩,_⟩:=I.loc;exact free _ o (fun z=>(hch _ z).2.1 rfl) ho I.free
 .obtain⟨v,o,ho,hd⟩:=I.cell x c e;exact free c o (fun z=>(hch c z).2.2.1 x c e rfl) ho (I.freeC x c e)
 .obtain⟨e,n,ne,nf,d⟩:=I.pin p hp;have nch:p.1∉ch:=fun z=>(hch p.1 z).2.2.2 p hp rfl;exact⟨keep p.1 p.2 ne nf nch e n,free p.1 p.2 nch e n,ne,nf,d⟩
theorem Inv.un{t':Nat}(I:Inv X pins σ H s)(u:Un X.fs [] H H' s.heap h')(hok:HOk X.prog X.w H' h'):Inv X pins σ H' { s with heap:=h',toks:=t' }:=by
 obtain⟨m,⟨o,es,ep,ho,r⟩,_⟩:=id I.loc;obtain⟨sl,hL⟩:=u.any ho I.free (by simp);exact I.step (g':=s.gens) (d':=s.drawn) (ch:=[]) (fun _ z=>nomatch z) (fun b o _ hb _ e n=>u.keep b o e n hb (by simp)) (fun b o _ hb _ e n=>u.slot b o e n hb (by simp)) (fun b o _ e n=>u.free b o e n (by simp)) (fun b o _ e=>u.there b o e (by simp)) u.tups u.frzs u.tbls (fun m' hm=>by
  obtain⟨o',es',ep',ho',r'⟩:=hm;rw[ho]at ho';cases ho';exact⟨_,es',ep',hL,r'⟩) hok I.bare
theorem Inv.call{g':Array GenState}{t':Nat}{d':Drawn}{ch:List Addr}(I:Inv X pins σ H s)(u:Un (frs X.stack) ch H H' s.heap h')(hok:HOk X.prog X.w H' h')(hg:AllBare g')
  (hch:∀b∈ch,(b∈X.ex\/X.s₀.heap.objs.size<=b)/\b≠X.env.locals/\(∀x c,X.env.cells.lookup x=some c->c≠b)/\∀p∈X.pn++pins,p.1≠b) :
  Inv X pins σ H' { s with heap:=h',gens:=g',drawn:=d',toks:=t' }:=by
 obtain⟨m,⟨o,es,ep,ho,r⟩,_⟩:=id I.loc;obtain⟨sl,hL⟩:=u.any ho I.free fun z=>(hch _ z).2.1 rfl;exact I.step (ch:=ch) hch (fun b o hL hb hc e n=>u.keep b o e n (fun z=>(AV.mp (I.stkSub b z)).elim hL hb) hc) (fun b o _ _ hc e n=>u.any e n hc) (fun b o hc e n=>u.free b o e n hc) (fun b o hc e=>u.there b o e hc) u.tups u.frzs u.tbls (fun m' hm=>by
  obtain⟨o',es',ep',ho',r'⟩:=hm;rw[ho]at ho';cases ho';exact⟨_,es',ep',hL,r'⟩) hok hg
theorem Inv.turned{t':Nat}{it:Addr}(I:Inv X pins σ H s)(k:∀b o,b≠it->s.heap.get? b=some o->h'.get? b=some o)(hn:H it=none)(hL:it≠X.env.locals)
  (h1:it∈X.ex\/X.s₀.heap.objs.size<=it) (h2:∀x c,X.env.cells.lookup x=some c->c≠it) (h3:∀p∈X.pn++pins,p.1≠it):Inv X pins σ H { s with heap:=h',toks:=t' }:=by
 have nit:∀b u,H b=some u->b≠it:=fun b u e z=>by rw[z,hn]at e;cases e
 refine I.step (g':=s.gens) (d':=s.drawn) (ch:=[it]) (fun b hb=>?_) (fun b o _ _ hc e _=>k b o (fun z=>hc (by simp[z])) e) (fun b o _ _ hc e _=>⟨o.slots,k b o (fun z=>hc (by simp[z])) e⟩) (fun _ _ _ _ n=>n)
  (fun b o hc e=>⟨o,k b o (fun z=>hc (by simp[z])) e⟩) (fun _ _ e=>e) (fun _ _ _ e=>e) (fun b ps e=>⟨#[],by rw[e];simp⟩) (fun m hm=>?_) (fun b u e=>?_) I.bare
 .have e:b=it:=by simpa using hb
  subst e;exact⟨h1,hL,h2,h3⟩
 .obtain⟨o,es,ep,ho,r⟩:=hm;exact⟨o,es,ep,k _ o (Ne.symm hL) ho,r⟩
 .refine(I.hok b u e).stay (fun c v hc q=>k c v ?_ q) (fun _ q=>q) fun _ _ q=>q;rcases hc with z | z
  .rw[z];exact nit b u e
  .exact nit c _ z
theorem Inv.tok(I:Inv X pins σ H s)(t:Nat):Inv X pins σ H { s with toks:=t }:=I.un (h':=s.heap) (t':=t) Un.refl I.hok
theorem Inv.kept{t':Nat}(I:Inv X pins σ H s)(k:∀b u,s.heap.get? b=some u->h'.get? b=some u):Inv X pins σ H { s with heap:=h',toks:=t' }:=I.un (Un.kept k) (I.hok.kept k)
theorem Inv.laid{a:Addr}{o:HO}{t':Nat}(I:Inv X pins σ H s)(k:∀b u,s.heap.get? b=some u->h'.get? b=some u)(hp:s.heap.objs.size<=a)(new:ObjOk X.prog X.w (upd H a o) h' a o) :
  Inv X pins σ (upd H a o) { s with heap:=h',toks:=t' }:=I.un (Un.laid k hp (I.hok.fresh hp)) (I.hok.laid k hp new)
theorem Inv.write{x e:Addr}{o:HO}{t':Nat}(I:Inv X pins σ H s)(mu:Mut (H x))(he:e=x\/H e=some (.own x))(k:∀b u,b≠e->s.heap.get? b=some u->h'.get? b=some u)(heo:∃u,h'.get? e=some u)
  (new:ObjOk X.prog X.w (upd H x o) h' x o):Inv X pins σ (upd H x o) { s with heap:=h',toks:=t' }:=I.un (Un.write mu he k heo) (I.hok.write mu he k heo new)
theorem Inv.pins_of{pins':List (Addr×Obj)}(I:Inv X pins σ H s)(h:∀p∈pins',s.heap.get? p.1=some p.2/\H p.1=none/\p.1≠X.env.locals/\p.1∉X.fs/\∀v,p.2.data≠ .cell v):Inv X pins' σ H s :=
 ⟨I.ok,I.os,I.bare,I.base,I.loc,I.cell,I.free,I.freeC,fun p hp=>(AU.mp hp).elim (fun z=>I.pin p (EI _ z)) (h p),I.hok,I.len⟩
theorem Bv{N:List Str}(hN:N.Nodup){i j:Nat}{x:Str}(a:N[i]?=some x)(b:N[j]?=some x):i=j:=by
 obtain⟨h1,e1⟩:=AH.mp a;obtain⟨h2,e2⟩:=AH.mp b;exact(List.getElem_inj hN).mp (e1.trans e2.symm)
theorem Eo{M:Model}{A:Around}{E:Value->Shared->Prop}{i:Nat}{x:Str}{v:V}{u:Value}{Q:Unit->Shared->Prop}(I:Inv X pins σ H s)(hN:X.N.Nodup)(hi:X.N[i]?=some x)(hx:Loc X.env.scope x)(r:RelV v u)
  (h:∀s',Inv X pins (σ.set i (some v)) H s'->(∃a,Heap.SameBut a s.heap s'.heap/\(a=X.env.locals\/X.env.cells.lookup x=some a))->Q () s') (hf:X.fn x=true\/X.env.scope.names.lookup x=some .local:=by first | exact .inl rfl | exact .inr rfl | assumption):wpAny M A (storeName X.env x u) Q E s:=by
 obtain⟨m,hn,hl⟩:=id I.loc;have hcls:(X.env.scope.kind == .class||(X.env.scope.kind == .module&&X.env.locals != X.env.globals))=false:=by rw[I.ok.kind];rfl
 have hiσ:i<σ.length:=by rw[I.len];exact(AH.mp hi).1
 have cne:=I.cne;have tracked:∀{a:Addr} {h':Heap},(∃o,s.heap.get? a=some o/\H a=none)->Heap.SameBut a s.heap h'->HOk X.prog X.w H h':=fun{a h'} ha hs b ob e=>by
  obtain⟨_,_,hfree⟩:=ha;refine(I.hok b ob e).stay (fun c w' hc q=>(hs.2 c ?_).trans q) (fun _ q=>q) fun _ _ q=>q;rintro rfl;rcases hc with rfl | hc
  .rw[hfree]at e;cases e
  .rw[hfree]at hc;cases hc
 rcases hx with hk | hk
 .refine wpAny_storeName_local hk hn (fun h' hn' hs=>?_) hcls;obtain⟨oL,_,_,hoL,_⟩:=id hn;refine h _ ⟨I.ok,I.os,I.bare,⟨fun b o e n hb hx=>?_,fun b o e n hb hx=>?_,I.base.free,fun b o e hx=>?_,I.base.tups,I.base.frzs,I.base.tbls⟩,⟨_,hn',fun j y v' e1 e2 e3=>?_⟩,fun y c e=>?_,I.free,I.freeC,fun p hp=>?_,tracked ⟨oL,hoL,I.free⟩ hs,by simpa using I.len⟩ ⟨_,hs,.inl rfl⟩
  .exact(hs.2 b (A_ (BH (AG e) I.ok.above))).trans (I.base.keep b o e n hb hx)
  .obtain⟨sl,e1⟩:=I.base.slot b o e n hb hx;exact⟨sl,(hs.2 b (A_ (BH (AG e) I.ok.above))).trans e1⟩
  .obtain⟨o',e1⟩:=I.base.there b o e hx;exact⟨o',(hs.2 b (A_ (BH (AG e) I.ok.above))).trans e1⟩
  .by_cases hj:j=i
   .subst hj;rw[hi]at e1;cases e1;rw[List.getElem?_set_self hiσ]at e2;cases e2;exact⟨u,r,.inl ⟨hk,by simp⟩⟩
   .rw[List.getElem?_set_ne (Ne.symm hj)]at e2;obtain⟨u',r',q⟩:=hl j y v' e1 e2 e3;refine⟨u',r',?_⟩;rcases q with⟨k,e⟩ | ⟨k,c,e,z⟩
    .refine .inl ⟨k,?_⟩;have:y≠x:=fun e=>hj (Bv hN e1 (e▸hi));simp[this,e]
    .exact .inr ⟨k,c,e,z.sameBut hs (cne y c e)⟩
  .obtain⟨w',z⟩:=I.cell y c e;exact⟨w',z.sameBut hs (cne y c e)⟩
  .obtain⟨e,n,ne,nf,d⟩:=I.pin p hp;exact⟨(hs.2 p.1 ne).trans e,n,ne,nf,d⟩
 .have hfn:X.fn x=true:=by
   rcases hf with z | z
   .exact z
   .rw[z]at hk;cases hk
  obtain⟨c,hc⟩:=I.ok.has x (.inl hk);obtain⟨w',z⟩:=I.cell x c hc;refine wpAny_storeName_cell I.ok.kind hk hc z (fun h' hc' hs=>?_);obtain⟨oc,hoc,hocd⟩:=id z;refine h { s with heap:=h' } ⟨I.ok,I.os,I.bare,⟨fun b o e n hb hx=>?_,fun b o e n hb hx=>?_,I.base.free,fun b o e hx=>?_,I.base.tups,I.base.frzs,I.base.tbls⟩,⟨m,hn.sameBut hs (Ne.symm (cne x c hc)),fun j y v' e1 e2 e3=>?_⟩,fun y c' e=>?_,I.free,I.freeC,fun p hp=>?_,tracked ⟨oc,hoc,I.freeC x c hc⟩ hs,by simpa using I.len⟩ ⟨c,hs,.inr hc⟩
  .exact(hs.2 b (A_ (BH (AG e) (I.ok.cab x c hfn hc)))).trans (I.base.keep b o e n hb hx)
  .obtain⟨sl,e1⟩:=I.base.slot b o e n hb hx;exact⟨sl,(hs.2 b (A_ (BH (AG e) (I.ok.cab x c hfn hc)))).trans e1⟩
  .obtain⟨o',e1⟩:=I.base.there b o e hx;exact⟨o',(hs.2 b (A_ (BH (AG e) (I.ok.cab x c hfn hc)))).trans e1⟩
  .by_cases hj:j=i
   .subst hj;rw[hi]at e1;cases e1;rw[List.getElem?_set_self hiσ]at e2;cases e2;exact⟨u,r,.inr ⟨.inl hk,c,hc,hc'⟩⟩
   .rw[List.getElem?_set_ne (Ne.symm hj)]at e2;obtain⟨u',r',q⟩:=hl j y v' e1 e2 e3;refine⟨u',r',?_⟩;rcases q with q | ⟨k,c',e,z'⟩
    .exact .inl q
    .refine .inr ⟨k,c',e,z'.sameBut hs ?_⟩;rintro rfl;exact hj (Bv hN e1 (I.ok.inj _ _ _ e hc▸hi))
  .by_cases hcc:c'=c
   .subst hcc;exact⟨_,hc'⟩
   .obtain⟨w2,z2⟩:=I.cell y c' e;exact⟨w2,z2.sameBut hs hcc⟩
  .obtain⟨e,n,ne,nf,d⟩:=I.pin p hp;refine⟨(hs.2 p.1 ?_).trans e,n,ne,nf,d⟩;intro q;rw[q,hoc]at e;have q':oc=p.2:=BI e;exact d w' (by rw[<-q'];exact hocd)
theorem T3{M:Model}{A:Around}{E:Value->Shared->Prop}{i:Nat}{x:Str}{v:V}{u:Value}{Q:Unit->Shared->Prop}(I:Inv X pins σ H s)(hN:X.N.Nodup)(hi:X.N[i]?=some x)(hx:Loc X.env.scope x)(r:RelV v u)
  (h:∀s',Inv X pins (σ.set i (some v)) H s'->Q () s') (hf:X.fn x=true\/X.env.scope.names.lookup x=some .local:=by first | exact .inl rfl | exact .inr rfl | assumption):wpAny M A (storeName X.env x u) Q E s :=
 Eo I hN hi hx r (fun s' I' _=>h s' I') hf
theorem Inv.call'{s':Shared}{ch:List Addr}(I:Inv X pins σ H s)(ho:s'.os=s.os)(u:Un (frs X.stack) ch H H' s.heap s'.heap)(hok:HOk X.prog X.w H' s'.heap)(hg:AllBare s'.gens)
  (hch:∀b∈ch,(b∈X.ex\/X.s₀.heap.objs.size<=b)/\b≠X.env.locals/\(∀x c,X.env.cells.lookup x=some c->c≠b)/\∀p∈X.pn++pins,p.1≠b):Inv X pins σ H' s':=by
 obtain⟨h',g',d',t',o'⟩:=s';have e:o'=s.os:=ho;subst e;exact I.call (g':=g') (t':=t') (d':=d') u hok hg hch
end
abbrev XK:=Value->Option Addr->Hp->Prop
abbrev St:=List (Option V)
abbrev VK:=V->Hp->Prop
abbrev TE:=St->Hp->VK->Prop
abbrev TT:=St->Hp->(Bool->Hp->Prop)->Prop
abbrev TA:=St->Hp->(List V->Hp->Prop)->Prop
structure Ends where
 nx:St->Hp->Prop
 rt:VK
 bk:St->Hp->Prop:=fun _ _=>False
 ct:St->Hp->Prop:=fun _ _=>False
abbrev TS:=Ends->St->Hp->Prop
def EP(X:Cx)(pins:List (Addr×Obj))(σ:St)(Q:VK)(u:Value)(s':Shared):Prop:=∃v H',Inv X pins σ H' s'/\RelV v u/\Q v H'
def TP(X:Cx)(pins:List (Addr×Obj))(σ:St)(Q:Bool->Hp->Prop)(b:Bool)(s':Shared):Prop:=∃H',Inv X pins σ H' s'/\Q b H'
def AP(X:Cx)(pins:List (Addr×Obj))(σ:St)(Q:List V->Hp->Prop)(us:List Value)(s':Shared):Prop:=∃vs H',Inv X pins σ H' s'/\Vals vs us/\Q vs H'
def SP(X:Cx)(pins:List (Addr×Obj))(D:Ends)(f:Flow)(s':Shared):Prop :=
 match f with
 | .next=>∃σ' H',Inv X pins σ' H' s'/\D.nx σ' H'
 | .brk=>∃σ' H',Inv X pins σ' H' s'/\D.bk σ' H'
 | .cont=>∃σ' H',Inv X pins σ' H' s'/\D.ct σ' H'
 | .ret u=>∃v σ' H',Inv X pins σ' H' s'/\RelV v u/\D.rt v H'
def PE(X:Cx)(e:Expr)(t:TE):Prop :=
 ∀(pins:List (Addr×Obj)) (s:Shared) (σ:St) (H:Hp) (Q:VK),Inv X pins σ H s->t σ H Q->wpAny (model X.prog X.w) X.A (eval e X.env) (EP X pins σ Q) X.xe s
def PT(X:Cx)(e:Expr)(t:TT):Prop :=
 ∀(pins:List (Addr×Obj)) (s:Shared) (σ:St) (H:Hp) (Q:Bool->Hp->Prop),Inv X pins σ H s->t σ H Q->wpAny (model X.prog X.w) X.A (isTrue e X.env (eval e X.env)) (TP X pins σ Q) X.xe s
def PW(X:Cx)(e:Expr)(t:TT):Prop :=
 ∀(whole:Sem Value) (pins:List (Addr×Obj)) (s:Shared) (σ:St) (H:Hp) (Q:Bool->Hp->Prop),Inv X pins σ H s->t σ H Q->wpAny (model X.prog X.w) X.A (isTrue e X.env whole) (TP X pins σ Q) X.xe s
theorem PW.pt{X:Cx}{e:Expr}{t:TT}(h:PW X e t):PT X e t:=h _
def PA(X:Cx)(es:List Expr)(t:TA):Prop :=
 ∀(pos:Pos) (pins:List (Addr×Obj)) (s:Shared) (σ:St) (H:Hp) (Q:List V->Hp->Prop),Inv X pins σ H s->t σ H Q->wpAny (model X.prog X.w) X.A (spliced (backTo pos (starEach es X.env))) (AP X pins σ Q) X.xe s
def PS(X:Cx)(st:Stmt)(t:TS):Prop :=
 ∀(pins:List (Addr×Obj)) (s:Shared) (σ:St) (H:Hp) (D:Ends),Inv X pins σ H s->t D σ H->wpAny (model X.prog X.w) X.A (exec st X.env) (SP X pins D) X.xe s
def PSs(X:Cx)(st:List Stmt)(t:TS):Prop :=
 ∀(pins:List (Addr×Obj)) (s:Shared) (σ:St) (H:Hp) (D:Ends),Inv X pins σ H s->t D σ H->wpAny (model X.prog X.w) X.A (execs st X.env) (SP X pins D) X.xe s
theorem thn{α:Type}{t:Sem α}{Q Q':α->Shared->Prop}{M:Model}{A:Around}{E:Value->Shared->Prop}{s:Shared}(h:wpAny M A t Q E s)(hQ:∀a s,Q a s->Q' a s):wpAny M A t Q' E s:=BR h hQ fun _ _ x=>x
section
variable{X:Cx}
def Y5(i:Nat):TE:=fun σ H Q=>∃v,σ[i]?=some (some v)/\Q v H
def tC(v:V):TE:=fun _ H Q=>Q v H
theorem Vq{i:Nat}{x:Str}{pos:Pos}(hN:X.N[i]?=some x)(hv:Vis X.env.scope x)(hd:(x ==("__debug__":Str))=false:=by decide)(hcd:(x ==("__classdict__":Str))=false:=by decide):PE X (.Name x pos) (Y5 i):=by
 intro pins s σ H Q I h;obtain⟨v,e,h⟩:=h;obtain⟨m,hn,hl⟩:=I.loc;obtain⟨u,r,l⟩:=hl i x v hN e hv;have fin:EP X pins σ Q u s:=⟨v,H,I,r,h⟩;rcases l with⟨hk,hm⟩ | ⟨hk,c,hc,hcell⟩
 .exact wpAny_Name (wpAny_loadName_local I.ok.kind hk hn hm fin) hd
 .rcases hk with hk | hk
  .exact wpAny_Name (wpAny_loadName_cell I.ok.kind hk hc hcell fin) hd
  .exact wpAny_Name (wpAny_loadName_free I.ok.kind hk hc hcell fin hcd) hd
theorem B1{i j pos}:PE X (.Constant (.int i) j pos) (tC (.int i)):=fun _ _ _ H _ I h=>wpAny_Constant_int ⟨.int i,H,I.tok _,⟨_,rfl⟩,h⟩
theorem U8{b j pos}:PE X (.Constant (.bool b) j pos) (tC (.bl b)):=fun _ _ _ H _ I h=>Constant_bool ⟨.bl b,H,I,rfl,h⟩
theorem Vm{j pos}:PE X (.Constant .none j pos) (tC .non):=fun _ _ _ H _ I h=>Constant_none ⟨.non,H,I,rfl,h⟩
theorem F3{x j pos}:PE X (.Constant (.str x) j pos) (tC (.str x)):=fun _ _ _ H _ I h=>Calls.Constant_str ⟨.str x,H,I.tok _,⟨_,rfl⟩,h⟩
def Gl(X:Cx)(x:Str):Prop:=X.env.kindOf x=some .globalImplicit
theorem S5{E:Value->Shared->Prop}{pins:List (Addr×Obj)}{s:Shared}{σ:St}{H:Hp}{x:Str}{u:Value}{pos:Pos}{Q:Value->Shared->Prop}(I:Inv X pins σ H s)(hg:Gl X x)(hm:X.mg x=some u)(h:Q u s)
  (hd:(x ==("__debug__":Str))=false:=by decide):wpAny (model X.prog X.w) X.A (eval (.Name x pos) X.env) Q E s :=
 Calls.Name_function_global I.ok.kind hg (Calls.loadGlobal_global (by rw[I.ok.glob];exact I.mod.glob.keeps I.bk) hm h) hd
theorem T1{E:Value->Shared->Prop}{pins:List (Addr×Obj)}{s:Shared}{σ:St}{H:Hp}{x:Str}{u:Value}{pos:Pos}{Q:Value->Shared->Prop}(I:Inv X pins σ H s)(hg:Gl X x)(hm:X.mg x=none)(hv:bootBuiltins x=some u)(h:Q u s)
  (hn:x≠ "__name__":=by decide) (hd:(x ==("__debug__":Str))=false:=by decide):wpAny (model X.prog X.w) X.A (eval (.Name x pos) X.env) Q E s:=by
 obtain⟨mb,h1,h2⟩:=I.mod.blt;exact Calls.Name_function_global I.ok.kind hg (Calls.loadGlobal_builtin (by rw[I.ok.glob];exact I.mod.glob.keeps I.bk) hm (by rw[I.ok.blt];exact h1.keeps I.bk) ((h2 x hn).trans hv) h) hd
theorem Gb{x:Str}{v:V}{u:Value}{pos:Pos}(hg:Gl X x)(hm:X.mg x=some u)(r:RelV v u)(hd:(x ==("__debug__":Str))=false:=by decide):PE X (.Name x pos) (tC v) :=
 fun _ _ _ H _ I h=>S5 I hg hm ⟨v,H,I,r,h⟩ hd
theorem Wl{x:Str}{v:V}{u:Value}{pos:Pos}(hg:Gl X x)(hm:X.mg x=none)(hv:bootBuiltins x=some u)(r:RelV v u)(hn:x≠ "__name__":=by decide)(hd:(x ==("__debug__":Str))=false:=by decide):PE X (.Name x pos) (tC v) :=
 fun _ _ _ H _ I h=>T1 I hg hm hv ⟨v,H,I,r,h⟩ hn hd
variable{a b:Expr}{ta tb:TE}{pos:Pos}
def tB(t:TE):TT:=fun σ H Q=>t σ H fun x H1=>∃c,x = .bl c/\Q c H1
theorem J6{e:Expr}{t:TE}(h:PE X e t)(he:∀whole,isTrue e X.env whole =(do let v <-whole;standAt e.pos;holding [v] (truthy v)):=by intro _;rfl):PT X e (tB t):=by
 intro pins s σ H Q I hw;refine isTrue_plain (thn (h pins s σ H _ I hw) fun v s1 ⟨x,H1,I1,r1,q1⟩=>?_) (he _);obtain⟨d,rfl,q⟩:=q1;cases r1;exact DJ ⟨H1,I1,q⟩
variable{tA tB':TT}{rest:List Expr}
def zFq(t u:TT):TT:=fun σ H Q=>t σ H fun c H1=>if c=true then u σ H1 Q else Q false H1
def tOr(t u:TT):TT:=fun σ H Q=>t σ H fun c H1=>if c=true then Q true H1 else u σ H1 Q
def zFy(t:TT):TT:=fun σ H Q=>t σ H fun c H1=>Q (!c) H1
theorem Ha(ha:PT X a tA):PW X (.BoolOp .And [a] pos) tA:=by
 intro wh pins s σ H Q I h;refine isTrue_and (thn (ha pins s σ H Q I h) fun c s1 e=>?_);cases c with
 | true=>exact isTrue_and_nil e
 | false=>exact e
theorem t9(ha:PT X a tA):PW X (.BoolOp .Or [a] pos) tA:=by
 intro wh pins s σ H Q I h;refine isTrue_or (thn (ha pins s σ H Q I h) fun c s1 e=>?_);cases c with
 | false=>exact isTrue_or_nil e
 | true=>exact e
theorem Oh(ha:PT X a tA)(hb:PW X (.BoolOp .And (b::rest) pos) tB'):PW X (.BoolOp .And (a::b::rest) pos) (zFq tA tB'):=by
 intro wh pins s σ H Q I h;refine isTrue_and (thn (ha pins s σ H _ I h) fun c s1 ⟨H1,I1,q1⟩=>?_);cases c with
 | true=>exact hb wh pins s1 σ H1 Q I1 q1
 | false=>exact⟨H1,I1,q1⟩
theorem Gv(ha:PT X a tA)(hb:PW X (.BoolOp .Or (b::rest) pos) tB'):PW X (.BoolOp .Or (a::b::rest) pos) (tOr tA tB'):=by
 intro wh pins s σ H Q I h;refine isTrue_or (thn (ha pins s σ H _ I h) fun c s1 ⟨H1,I1,q1⟩=>?_);cases c with
 | true=>exact⟨H1,I1,q1⟩
 | false=>exact hb wh pins s1 σ H1 Q I1 q1
theorem S3(ha:PT X a tA):PT X (.UnaryOp .Not a pos) (zFy tA):=by
 intro pins s σ H Q I h;exact isTrue_not (ha pins s σ H (fun c H1=>Q (!c) H1) I h)
def zEh(ta tb:TE):TE:=fun σ H Q=>ta σ H fun x H1=>∃c,x = .bl c/\if c=true then tb σ H1 Q else Q (.bl false) H1
theorem Uw{op}{t:TE}(h:PE X a t):PE X (.BoolOp op [a] pos) t:=fun pins s σ H Q I hw=>BoolOp_one (h pins s σ H Q I hw)
theorem Ve(ha:PE X a ta)(hb:PE X (.BoolOp .And (b::rest) pos) tb):PE X (.BoolOp .And (a::b::rest) pos) (zEh ta tb):=by
 intro pins s σ H Q I h;refine BoolOp_and (thn (ha pins s σ H _ I h) fun v s1 ⟨x,H1,I1,r1,q1⟩=>?_);obtain⟨c,rfl,q1⟩:=q1;cases r1;refine DJ ?_;cases c with
 | true=>exact hb pins s1 σ H1 Q I1 q1
 | false=>exact⟨.bl false,H1,I1,rfl,q1⟩
def tIf(t:TT)(ta tb:TE):TE:=fun σ H Q=>t σ H fun c H1=>if c=true then ta σ H1 Q else tb σ H1 Q
theorem Jz{c:Expr}(hc:PT X c tA)(ha:PE X a ta)(hb:PE X b tb):PE X (.IfExp c a b pos) (tIf tA ta tb):=by
 intro pins s σ H Q I h;refine wpAny_IfExp (thn (hc pins s σ H _ I h) fun d s1 ⟨H1,I1,q1⟩=>?_);cases d with
 | true=>exact ha pins s1 σ H1 Q I1 q1
 | false=>exact hb pins s1 σ H1 Q I1 q1
end
def SqL(K:PySem.W.Frag)(H:Hp)(a:Addr)(xs:List V):Prop :=
 Rd H a (.lst xs) \/
  ∃(o:Obj) (its:Array Value) (n:Nat),K.lookup a=some o/\o.cls = .type "list"/\o.dict=none/\o.data = .seq its n/\its.size<=sizeLine/\Vals xs its.toList
def SqT(K:PySem.W.Frag)(H:Hp)(a:Addr)(xs:List V):Prop :=
 Rd H a (.tup xs) \/
  ∃(o:Obj) (its:Array Value) (n:Nat),K.lookup a=some o/\o.cls = .type "tuple"/\o.data = .seq its n/\its.size<=sizeLine/\Vals xs its.toList
def zGe:Value->Option V
 | .none=>some .non
 | .bool b=>some (.bl b)
 | .int i _=>some (.int i)
 | .str x _=>some (.str x)
 | .bytes b _=>some (.byt b)
 | .float b _=>some (.flt b)
 | .ref a=>some (.ref a)
 | .type n=>some (.ty n)
 | _=>none
theorem RelV.abs{x:V}{u:Value}(r:RelV x u):zGe u=some x:=by
 cases x with
 | non=>cases r;rfl
 | bl _=>cases r;rfl
 | int _=>obtain⟨t,rfl⟩:=r;rfl
 | str _=>obtain⟨t,rfl⟩:=r;rfl
 | byt _=>obtain⟨t,rfl⟩:=r;rfl
 | flt _=>obtain⟨t,rfl⟩:=r;rfl
 | ref _=>cases r;rfl
 | ty _=>cases r;rfl
theorem RelV.inj{x y:V}{u:Value}(r:RelV x u)(q:RelV y u):x=y:=BI (r.abs.symm.trans q.abs)
theorem Vals.inj:∀{xs ys:List V} {us:List Value},Vals xs us->Vals ys us->xs=ys
 | _,_,_,.nil,.nil=>rfl
 | _,_,_,.cons r t,.cons r' t'=>by rw[r.inj r',Vals.inj t t']
section
variable{X:Cx}{pins:List (Addr×Obj)}{σ:St}{H:Hp}{s:Shared}{a:Addr}{xs ys:List V}
theorem SqL.of{K:PySem.W.Frag}(h:H a=some (.lst xs)):SqL K H a xs:=.inl (.inl h)
theorem SqT.of{K:PySem.W.Frag}(h:H a=some (.tup xs)):SqT K H a xs:=.inl (.inl h)
theorem Inv.list(I:Inv X pins σ H s)(h:SqL X.K H a xs):∃its:List Value,Vals xs its/\PlainL s.heap a its.toArray/\xs.length<=sizeLine:=by
 rcases h with h | ⟨o,its,n,hk,hc,hd,hs,hz,r⟩
 .obtain⟨z,its,n,r,e⟩:=h.ok I.hok;exact⟨its,r,⟨_,n,e,rfl,rfl,rfl⟩,z⟩
 .refine⟨its.toList,r,⟨o,n,I.kIn a o hk,hc,hd,by simpa using hs⟩,?_⟩;have e:=r.length;simp only[AQ]at e;omega
theorem Inv.tuple(I:Inv X pins σ H s)(h:SqT X.K H a xs):∃its:List Value,Vals xs its/\IsTup s.heap a its.toArray/\xs.length<=sizeLine:=by
 rcases h with h | ⟨o,its,n,hk,hc,hs,hz,r⟩
 .obtain⟨z,its,r,p⟩:=h.ok I.hok;exact⟨its,r,p,z⟩
 .refine⟨its.toList,r,⟨o,I.kIn a o hk,hc,n,by simpa using hs⟩,?_⟩;have e:=r.length;simp only[AQ]at e;omega
theorem Inv.list_inj(I:Inv X pins σ H s)(h:SqL X.K H a xs)(h':SqL X.K H a ys):xs=ys:=by
 obtain⟨its,r,⟨o,n,e,_,_,d⟩,_⟩:=I.list h;obtain⟨its',r',⟨o',n',e',_,_,d'⟩,_⟩:=I.list h';rw[e]at e';cases e';rw[d]at d';injection d' with d1 _;have:its=its':=by simpa using congrArg Array.toList d1
 subst this;exact r.inj r'
theorem Inv.tuple_inj(I:Inv X pins σ H s)(h:SqT X.K H a xs)(h':SqT X.K H a ys):xs=ys:=by
 obtain⟨its,r,⟨o,e,_,n,d⟩,_⟩:=I.tuple h;obtain⟨its',r',⟨o',e',_,n',d'⟩,_⟩:=I.tuple h';rw[e]at e';cases e';rw[d]at d';injection d' with d1 _;have:its=its':=by simpa using congrArg Array.toList d1
 subst this;exact r.inj r'
end
abbrev Cx.wish(X:Cx)(E:Value->Shared->Prop):Cx:={ X with xe:=E }
abbrev Cx.nox(X:Cx):Cx:=X.wish fun _ _=>False
theorem Cx.Ok.wish{X:Cx}(ok:X.Ok)(E:Value->Shared->Prop):(X.wish E).Ok :=
 ⟨ok.mod,ok.kind,ok.glob,ok.blt,ok.above,ok.inj,ok.has,ok.cab,ok.hd,ok.frames,ok.stk,ok.exf,ok.bs,ok.bsz,ok.noex,ok.exfs,ok.funs,ok.frf⟩
theorem Cx.Ok.unwish{X:Cx}{E:Value->Shared->Prop}(ok:(X.wish E).Ok):X.Ok :=
 ⟨ok.mod,ok.kind,ok.glob,ok.blt,ok.above,ok.inj,ok.has,ok.cab,ok.hd,ok.frames,ok.stk,ok.exf,ok.bs,ok.bsz,ok.noex,ok.exfs,ok.funs,ok.frf⟩
section
variable{X:Cx}{pins:List (Addr×Obj)}{σ:St}{H:Hp}{s:Shared}{E:Value->Shared->Prop}
theorem Inv.wish(I:Inv X pins σ H s)(E:Value->Shared->Prop):Inv (X.wish E) pins σ H s:=⟨I.ok.wish E,I.os,I.bare,I.base,I.loc,I.cell,I.free,I.freeC,I.pin,I.hok,I.len⟩
theorem Inv.unwish(I:Inv (X.wish E) pins σ H s):Inv X pins σ H s:=⟨I.ok.unwish,I.os,I.bare,I.base,I.loc,I.cell,I.free,I.freeC,I.pin,I.hok,I.len⟩
theorem SP.unwish{D:Ends}{f:Flow}{s':Shared}(h:SP (X.wish E) pins D f s'):SP X pins D f s':=by
 cases f with
 | next=>obtain⟨σ',H',I,q⟩:=h;exact⟨σ',H',I.unwish,q⟩
 | brk=>obtain⟨σ',H',I,q⟩:=h;exact⟨σ',H',I.unwish,q⟩
 | cont=>obtain⟨σ',H',I,q⟩:=h;exact⟨σ',H',I.unwish,q⟩
 | ret u=>obtain⟨v,σ',H',I,r,q⟩:=h;exact⟨v,σ',H',I.unwish,r,q⟩
theorem PSs.nox{st:List Stmt}{t:TS}(h:PSs X.nox st t):PSs X st t:=fun pins s σ H D I hw =>
 BR (h pins s σ H D (I.wish _) hw) (fun _ _ q=>q.unwish) fun _ _ z=>False.elim z
end
section
variable{X:Cx}{st:Stmt}{rest:List Stmt}{t u:TS}{e:Expr}{te:TE}{pos:Pos}
def zCg:TS:=fun D σ H=>D.nx σ H
def zBn(t u:TS):TS:=fun D σ H=>t { D with nx:=u D } σ H
theorem C7:PSs X [] zCg:=fun _ _ σ H _ I h=>GT ⟨σ,H,I,h⟩
theorem B0(h1:PS X st t)(h2:PSs X rest u):PSs X (st::rest) (zBn t u):=by
 intro pins s σ H D I h;refine wpAny_execs_cons (thn (h1 pins s σ H { D with nx:=u D } I h) fun f s1 q=>?_);cases f with
 | next =>
  obtain⟨σ',H',I',q⟩:=q;exact h2 pins s1 σ' H' D I' q
 | ret v=>exact q
 | brk=>exact q
 | cont=>exact q
theorem B2(h1:PS X st t):PSs X [st] t:=by
 intro pins s σ H D I h;refine wpAny_execs_cons (thn (h1 pins s σ H D I h) fun f s1 q=>?_);cases f with
 | next=>exact GT q
 | ret v=>exact q
 | brk=>exact q
 | cont=>exact q
theorem Inv.quiet{pins:List (Addr×Obj)}{σ:St}{H:Hp}{s:Shared}(I:Inv X pins σ H s):interactive X.env=false:=by simp[interactive,I.ok.kind]
def Xt(te:TE):TS:=fun D σ H=>te σ H fun _ H1=>D.nx σ H1
theorem D9(he:PE X e te)(hs:swapsWith e none pos.line X.env=pure false:=by rfl):PS X (.Expr e pos) (Xt te):=by
 intro pins s σ H D I h;exact wpAny_Expr_any (thn (he pins s σ H _ I h) fun v s1 ⟨x,H1,I1,r1,q1⟩=>⟨σ,H1,I1,q1⟩) I.quiet hs
def Zt(te:TE):TS:=fun D σ H=>te σ H D.rt
theorem C0(he:PE X e te):PS X (.Return (some e) pos) (Zt te):=by
 intro pins s σ H D I h;exact wpAny_Return_some (thn (he pins s σ H _ I h) fun v s1 ⟨x,H1,I1,r1,q1⟩=>⟨x,σ,H1,I1,r1,q1⟩)
def zDl:TS:=fun D _ H=>D.rt .non H
theorem W9:PS X (.Return none pos) zDl:=fun _ _ σ H _ I h=>wpAny_Return_none ⟨.non,σ,H,I,rfl,h⟩
def zFp(c:TT)(t u:TS):TS:=fun D σ H=>c σ H fun b H1=>if b=true then t D σ H1 else u D σ H1
theorem F4{c:Expr}{a b:List Stmt}{tc:TT}(hc:PT X c tc)(ha:PSs X a t)(hb:PSs X b u):PS X (.If c a b pos) (zFp tc t u):=by
 intro pins s σ H D I h;refine wpAny_If (thn (hc pins s σ H _ I h) fun d s1 ⟨H1,I1,q1⟩=>?_);cases d with
 | true=>exact ha pins s1 σ H1 D I1 q1
 | false=>exact hb pins s1 σ H1 D I1 q1
def Yu:TS:=fun _ _ _=>False
theorem Bc:PS X st Yu:=fun _ _ _ _ _ _ h=>h.elim
end
abbrev TG:=V->St->Hp->(St->Hp->Prop)->Prop
abbrev TGs:=List V->St->Hp->(St->Hp->Prop)->Prop
def PG(X:Cx)(target:Expr)(t:TG):Prop :=
 ∀(pins:List (Addr×Obj)) (s:Shared) (σ:St) (H:Hp) (v:V) (u:Value) (Q:St->Hp->Prop),Inv X pins σ H s->RelV v u->t v σ H Q ->
  wpAny (model X.prog X.w) X.A (assign target X.env u) (fun _ s'=>∃σ' H',Inv X pins σ' H' s'/\Q σ' H') X.xe s
def PGs(X:Cx)(ts:List Expr)(t:TGs):Prop :=
 ∀(pins:List (Addr×Obj)) (s:Shared) (σ:St) (H:Hp) (vs:List V) (us:List Value) (Q:St->Hp->Prop),Inv X pins σ H s->Vals vs us->t vs σ H Q ->
  wpAny (model X.prog X.w) X.A (assignInOrder ((assignEach ts X.env).map (·.2)) us) (fun _ s'=>∃σ' H',Inv X pins σ' H' s'/\Q σ' H') X.xe s
abbrev TSet:=V->V->V->Hp->(Hp->Prop)->Prop
def zEw(X:Cx)(t:TSet):Prop :=
 ∀(pins:List (Addr×Obj)) (s:Shared) (σ:St) (H:Hp) (o i v:V) (ov iv u:Value) (Q:Hp->Prop),Inv X pins σ H s->RelV o ov->RelV i iv->RelV v u->t o i v H Q ->
  wpAny (model X.prog X.w) X.A (setItem ov iv u) (fun _ s'=>∃H',Inv X pins σ H' s'/\Q H') X.xe s
abbrev TIp:=V->V->Hp->VK->Prop
def PIp(X:Cx)(op:Operator)(t:TIp):Prop :=
 ∀(pins:List (Addr×Obj)) (s:Shared) (σ:St) (H:Hp) (x y:V) (v u:Value) (Q:VK),Inv X pins σ H s->RelV x v->RelV y u->t x y H Q ->
  wpAny (model X.prog X.w) X.A (inplaceOp op v u) (EP X pins σ Q) X.xe s
section
variable{X:Cx}{pos:Pos}
def K9(i:Nat):TG:=fun v σ H Q=>Q (σ.set i (some v)) H
theorem C3{i:Nat}{x:Str}(hN:X.N.Nodup)(hi:X.N[i]?=some x)(hx:Loc X.env.scope x)(hf:X.fn x=true\/X.env.scope.names.lookup x=some .local:=by first | exact .inl rfl | exact .inr rfl | assumption):PG X (.Name x pos) (K9 i):=by
 intro pins s σ H v u Q I r h;exact wpAny_assign_Name (T3 I hN hi hx r (fun s' I'=>⟨_,H,I',h⟩) hf)
def zEj:TGs:=fun vs σ H Q=>vs = []/\Q σ H
def Mr(t:TG)(u:TGs):TGs:=fun vs σ H Q=>∃v r,vs=v::r/\t v σ H fun σ' H'=>u r σ' H' Q
theorem F1:PGs X [] zEj:=by
 intro pins s σ H vs us Q I r h;obtain⟨e,h⟩:=h;subst e;cases r;exact assignInOrder_nil ⟨σ,H,I,h⟩
theorem B8{e:Expr}{es:List Expr}{t:TG}{u:TGs}(h1:PG X e t)(h2:PGs X es u)
  (hs:(assignEach (e::es) X.env).map (·.2)=assign e X.env ::(assignEach es X.env).map (·.2):=by rfl):PGs X (e::es) (Mr t u):=by
 intro pins s σ H vs us Q I r h;obtain⟨v,vr,e1,h⟩:=h;subst e1;cases r with
 | cons r rr =>
  rw[hs];refine assignInOrder_cons (thn (h1 pins s σ H _ _ _ I r h) fun _ s1 ⟨σ1,H1,I1,q1⟩=>?_);exact h2 pins s1 σ1 H1 _ _ Q I1 rr q1
def zCq(K:PySem.W.Frag)(n:Nat)(t:TGs):TG:=fun v σ H Q=>∃a xs,v = .ref a/\SqT K H a xs/\xs.length=n/\t xs σ H Q
theorem Zk{es:List Expr}{k:Nat}{t:TGs}{n:Nat}(hc:X.calm=true)(h:PGs X es t)
  (hn:(assignEach es X.env).length=n:=by rfl) (hst:(assignEach es X.env).findIdx? (·.1)=none:=by rfl):PG X (.Tuple es k pos) (zCq X.K n t):=by
 intro pins s σ H v u Q I r hw;obtain⟨a,xs,e1,hq,hl,hw⟩:=hw;subst e1;cases r;obtain⟨its,rv,ht,hz⟩:=I.tuple hq;refine assign_Tuple_tuple (I.ok.hd hc) ht (by simp[hn,<-hl,rv.length]) hst fun h' hx=>?_;have I1:Inv X pins σ H { s with heap:=h' }:=I.kept (t':=s.toks) fun b o e=>hx b o (A_ (AG e)) e;exact h pins _ σ H xs _ Q I1 (by simpa using rv) hw
def zFz(to ti:TE)(t:TSet):TG:=fun v σ H Q=>to σ H fun o H1=>ti σ H1 fun i H2=>t o i v H2 fun H3=>Q σ H3
theorem Vh{o i:Expr}{to ti:TE}{t:TSet}(ho:PE X o to)(hi:PE X i ti)(hs:zEw X t)
  (ha:∀v,assign (.Subscript o i pos) X.env v =(do
   let ov <-holding [v] (eval o X.env)
   let iv <-holding [v,ov] (eval i X.env)
   standAt pos
   holding [v,ov,iv] (setItem ov iv v)
   release [v,ov,iv] []):=by intro _;rfl):PG X (.Subscript o i pos) (zFz to ti t):=by
 intro pins s σ H v u Q I r h;rw[ha];refine AA (BT (thn (ho pins s σ H _ I h) fun ov s1 ⟨x,H1,I1,r1,q1⟩=>?_));refine AA (BT (thn (hi pins s1 σ H1 _ I1 q1) fun iv s2 ⟨y,H2,I2,r2,q2⟩=>?_));refine AA (EZ (AA (BT (thn (hs pins s2 σ H2 x y v ov iv u _ I2 r1 r2 r q2) fun _ s3 ⟨H3,I3,q3⟩=>?_))));exact wpAny_release ⟨σ,H3,I3,q3⟩
def Zg(te:TE)(g:TG):TS:=fun D σ H=>te σ H fun x H1=>g x σ H1 D.nx
theorem X5{tg e:Expr}{te:TE}{g:TG}(he:PE X e te)(hg:PG X tg g)(hs:swapsWithSole [tg] e pos.line X.env=pure false:=by rfl)(hw:swappedStores [tg] e X.env=pure none:=by rfl)
  (h1:(assignEach [tg] X.env).map (·.2) = [assign tg X.env]:=by rfl):PS X (.Assign [tg] e pos) (Zg te g):=by
 intro pins s σ H D I h;refine wpAny_Assign_stores (thn (he pins s σ H _ I h) fun v s1 ⟨x,H1,I1,r1,q1⟩=>?_) hs hw;rw[h1];exact thn (hg pins s1 σ H1 x v _ I1 r1 q1) fun _ s2 q=>q
theorem C5{i:Nat}{x:Str}{e:Expr}{te:TE}{pos':Pos}(hN:X.N.Nodup)(hi:X.N[i]?=some x)(hx:Loc X.env.scope x)(he:PE X e te)(hs:swapsWith e (some (.Name x pos')) pos.line X.env=pure false:=by rfl)(hf:X.fn x=true\/X.env.scope.names.lookup x=some .local:=by first | exact .inl rfl | exact .inr rfl | assumption) :
  PS X (.Assign [.Name x pos'] e pos) (Zg te (K9 i)):=by
 intro pins s σ H D I h;refine wpAny_Assign_Name (thn (he pins s σ H _ I h) fun v s1 ⟨y,H1,I1,r1,q1⟩=>?_) hs;exact T3 I1 hN hi hx r1 (fun s2 I2=>⟨_,H1,I2,q1⟩) hf
def zFw(i:Nat)(te:TE)(ti:TIp):TS:=fun D σ H=>∃x,σ[i]?=some (some x)/\te σ H fun y H1=>ti x y H1 fun z H2=>D.nx (σ.set i (some z)) H2
theorem zBk{i:Nat}{x:Str}{e:Expr}{te:TE}{op:Operator}{ti:TIp}{pos':Pos}(hN:X.N.Nodup)(hi:X.N[i]?=some x)(hx:Loc X.env.scope x)(he:PE X e te)(ho:PIp X op ti)(hf:X.fn x=true\/X.env.scope.names.lookup x=some .local:=by first | exact .inl rfl | exact .inr rfl | assumption) :
  PS X (.AugAssign (.Name x pos') op e pos) (zFw i te ti):=by
 intro pins s σ H D I h;obtain⟨v,e1,h⟩:=h;obtain⟨m,hn,hl⟩:=I.loc;have vis:Vis X.env.scope x:=by rcases hx with k | k;exact .inl k;exact .inr (.inl k)
 obtain⟨u,r,l⟩:=hl i x v hi e1 vis;refine wpAny_AugAssign_Name ?_;have go:wpAny (model X.prog X.w) X.A (eval e X.env) (fun w s₂=>wpAny (model X.prog X.w) X.A (inplaceOp op u w) (fun r s₃=>wpAny (model X.prog X.w) X.A (storeName X.env x r) (fun _=>SP X pins D .next) X.xe s₃) X.xe s₂) X.xe s:=by
  refine thn (he pins s σ H _ I h) fun w s1 ⟨y,H1,I1,r1,q1⟩=>?_;refine thn (ho pins s1 σ H1 v y u w _ I1 r r1 q1) fun z s2 ⟨zv,H2,I2,r2,q2⟩=>?_;exact T3 I2 hN hi hx r2 (fun s3 I3=>⟨_,H2,I3,q2⟩) hf
 rcases l with⟨hk,hm⟩ | ⟨hk,c,hc,hcell⟩
 .exact wpAny_loadName_local I.ok.kind hk hn hm go
 .rcases hk with hk | hk
  .exact wpAny_loadName_cell I.ok.kind hk hc hcell go
  .rcases hx with k | k
   .have:X.env.scope.names.lookup x=some .free:=hk;rw[k]at this;cases this
   .have:X.env.scope.names.lookup x=some .free:=hk;rw[k]at this;cases this
def ipI(f:Int->Int->Int):TIp:=fun x y H Q=>∃i j,x = .int i/\y = .int j/\Q (.int (f i j)) H
def Yw(c:TT)(tb:TS):TS:=fun D σ H=>∃W:Nat->St->Hp->Prop,(∃m,W m σ H)/\∀m σ H,W m σ H ->
 c σ H fun b H1=>if b=true then ∃N:St->Hp->Prop,(∀σ' H',N σ' H'->∃m',m' < m/\W m' σ' H')/\tb { D with nx:=N,ct:=N,bk:=D.nx } σ H1 else D.nx σ H1
theorem Bs{c:Expr}{body:List Stmt}{tc:TT}{tb:TS}(hp:PassesOwn (model X.prog X.w) X.A X.env X.xe)(hc:PT X c tc)(hb:PSs X body tb):PS X (.While c body [] pos) (Yw tc tb):=by
 intro pins s σ H D I h;obtain⟨W,⟨m0,w0⟩,turn⟩:=h;refine wpAny_While (codeAny_whileLoop (fun n s'=>∃σ' H',Inv X pins σ' H' s'/\W n σ' H') ?_ m0 ⟨σ,H,I,w0⟩);rintro n s1 ⟨σ1,H1,I1,w1⟩;refine FY hp (thn (hc pins s1 σ1 H1 _ I1 (turn n σ1 H1 w1)) fun b s2 ⟨H2,I2,q2⟩=>?_);cases b with
 | true =>
  obtain⟨N,hN,q2⟩:=q2;rw[AO rfl];refine FY hp (thn (hb pins s2 σ1 H2 _ I2 q2) fun f s3 q3=>?_);cases f with
  | next =>
   obtain⟨σ3,H3,I3,n3⟩:=q3;obtain⟨m',hm,w3⟩:=hN σ3 H3 n3;exact⟨m',hm,σ3,H3,I3,w3⟩
  | cont =>
   obtain⟨σ3,H3,I3,n3⟩:=q3;obtain⟨m',hm,w3⟩:=hN σ3 H3 n3;exact⟨m',hm,σ3,H3,I3,w3⟩
  | brk=>exact q3
  | ret v=>exact q3
 | false =>
  rw[AK BB];exact GT ⟨σ1,H2,I2,q2⟩
end
structure It where
 go:Nat->Hp->Prop
 yld:Nat->Hp->V->Hp->Prop
 stop:Nat->Hp->Prop
def Bu(X:Cx)(pins:List (Addr×Obj))(H:Hp)(b:Addr):Prop :=
 H b=none/\b≠X.env.locals/\b∉X.fs/\(b∈X.ex\/X.s₀.heap.objs.size<=b)/\(∀x c,X.env.cells.lookup x=some c->c≠b)/\∀p∈X.pn++pins,p.1≠b
theorem Inv.fpOk{X:Cx}{pins:List (Addr×Obj)}{σ:St}{H H':Hp}{s:Shared}{b:Addr}(I:Inv X pins σ H s)(hb:s.heap.objs.size<=b)(hn:H' b=none):Bu X pins H' b:=by
 refine⟨hn,Nat.ne_of_gt (BH I.lt hb),I.nofs hb,.inr (Nat.le_trans I.sz hb),fun x c e z=>?_,fun p hp z=>?_⟩
 .obtain⟨v,q⟩:=I.cell x c e;exact absurd (BH q.lt (by rw[z];exact hb)) (DN _)
 .exact absurd (BH (AG (I.pin p hp).1) (by rw[z];exact hb)) (DN _)
structure Turn(P:Program)(w:World)(K:PySem.W.Frag)(tg:Expr)(J:It)(fp:List Addr)(it:Addr)(tn:Nat->Heap->Prop):Prop where
 mem:it∈fp
 obj:∀i h,tn i h->∀b∈fp,∃o,h.get? b=some o/\∀v,o.data≠ .cell v
 keep:∀i h h',tn i h->(∀b∈fp,∀o,h.get? b=some o->h'.get? b=some o)->tn i h'
 item:∀(X:Cx),X.prog=P->X.w=w->X.K=K->X.calm=true->∀(i:Nat) (pins:List (Addr×Obj)) (s:Shared) (σ:St) (H:Hp) (E:Value->Shared->Prop),Inv X pins σ H s->(∀b∈fp,Bu X pins H b)->tn i s.heap->J.go i H ->
  wpAny (model P w) X.A (pyNext (.ref it)) (fun r s1=>∃u,r=some u /\
   wpAny (model P w) X.A (letOwnedTupleGo tg (.ref it) u) (fun _ s2=>∃x H',Inv X pins σ H' s2/\RelV x u/\J.yld i H x H'/\tn (i+1) s2.heap/\∀b∈fp,H' b=none) E s1) E s
 done:∀(X:Cx),X.prog=P->X.w=w->X.K=K->X.calm=true->∀(i:Nat) (pins:List (Addr×Obj)) (s:Shared) (σ:St) (H:Hp) (E:Value->Shared->Prop),Inv X pins σ H s->(∀b∈fp,Bu X pins H b)->tn i s.heap->J.stop i H ->
  wpAny (model P w) X.A (pyNext (.ref it)) (fun r s1=>r=none/\Inv X pins σ H s1) E s
 self:∀(A:Around) (i:Nat) (s:Shared) (Q:Value->Shared->Prop) (E:Value->Shared->Prop),tn i s.heap->Q (.ref it) s->wpAny (model P w) A (pyIter (.ref it)) Q E s
abbrev TI:=St->Hp->(It->Hp->Prop)->Prop
def PIE(X:Cx)(pins:List (Addr×Obj))(σ:St)(tg:Expr)(R:It->Hp->Prop)(itv:Value)(s2:Shared):Prop :=
 ∃(it:Addr) (fp:List Addr) (tn:Nat->Heap->Prop) (J:It) (H':Hp),itv = .ref it/\Inv X pins σ H' s2/\Turn X.prog X.w X.K tg J fp it tn/\tn 0 s2.heap/\(∀b∈fp,Bu X pins H' b)/\R J H'
def PI(X:Cx)(tg iter:Expr)(wi:TI):Prop :=
 ∀(pins:List (Addr×Obj)) (s:Shared) (σ:St) (H:Hp) (R:It->Hp->Prop),Inv X pins σ H s->wi σ H R ->
  wpAny (model X.prog X.w) X.A (eval iter X.env) (fun v s1=>wpAny (model X.prog X.w) X.A (pyIter v) (PIE X pins σ tg R) X.xe s1) X.xe s
theorem Kf{M:Model}{A:Around}{E:Value->Shared->Prop}{s:Shared}{tg:Expr}{it:Addr}{u:Value}{o:Obj}{n:String}{vs:Array Value}{Q:Unit->Shared->Prop}(ho:s.heap.get? it=some o)(hc:o.cls = .type n)(hd:o.data = .fields vs)
    (hn:["enumerate", "zip", "dict_itemiterator", "dict_reverseitemiterator", "odict_iterator", "itertools.zip_longest", "itertools.pairwise"].contains n=false) (hQ:Q () s):wpAny M A (letOwnedTupleGo tg (.ref it) u) Q E s:=by
  unfold letOwnedTupleGo;cases tg<;>first
    | exact AD hQ
    | (cases u<;>first
        | exact AD hQ
        | (refine AA (wpAny_load ho ?_)
           rw[hc,hd];show wpAny M A (if(["enumerate", "zip", "dict_itemiterator", "dict_reverseitemiterator", "odict_iterator", "itertools.zip_longest", "itertools.pairwise"].contains n&&vs[0]? == some (rawInt _))=true then _ else _) Q E s;rw[AK (by intro h;rw[hn,DX]at h;cases h)];exact AD hQ))
def Itl(K:PySem.W.Frag)(a:Addr):It :=
 ⟨fun i H=>∃xs x,SqL K H a xs/\xs[i]?=some x,fun i H x H'=>H'=H/\∀xs,SqL K H a xs->xs[i]?=some x,fun i H=>∃xs,SqL K H a xs/\xs.length<=i⟩
def Itt(K:PySem.W.Frag)(a:Addr):It :=
 ⟨fun i H=>∃xs x,SqT K H a xs/\xs[i]?=some x,fun i H x H'=>H'=H/\∀xs,SqT K H a xs->xs[i]?=some x,fun i H=>∃xs,SqT K H a xs/\xs.length<=i⟩
def Itr(lo:Int)(n:Nat):It:=⟨fun i _=>i<n,fun i H x H'=>H'=H/\x = .int (lo+i),fun i _=>n<=i⟩
theorem Fu{P:Program}{w:World}{K:PySem.W.Frag}{tg:Expr}(a it:Addr):Turn P w K tg (Itl K a) [it] it (fun i h=>h.IsListIter it a i) where
 mem:=by simp
 obj:=fun i h st b hb=>by
  have e:b=it:=by simpa using hb
  subst e;obtain⟨o,e,c,d⟩:=st;exact⟨o,e,fun v z=>by rw[d]at z;cases z⟩
 keep:=fun i h h' st k=>st.at fun o e=>k it (by simp) o e
 item:=by
  intro X hP hw hK hc i pins s σ H E I hf st hg;subst hP hw hK;obtain⟨xs,x,hq,hx⟩:=hg;obtain⟨its,rv,p,hz⟩:=I.list hq;obtain⟨u,hu,ru⟩:=rv.get hx;obtain⟨f0,f1,f2,f3,f4,f5⟩:=hf it (by simp);refine wpAny_pyNext_list_item st p.isList (x:=u) (by simpa using hu) fun h' st' sb=>?_;have I1:Inv X pins σ H { s with heap:=h' }:=I.turned (t':=s.toks) (fun b o hb e=>(sb.2 b hb).trans e) f0 f1 f3 f4 f5;obtain⟨o,e,c,d⟩:=id st';exact⟨u,rfl,Kf (s:={ s with heap:=h' }) e c d (by decide) ⟨x,H,I1,ru,⟨rfl,fun ys hy=>by rw[I.list_inj hy hq];exact hx⟩,st',fun b hb=>(hf b hb).1⟩⟩
 done:=by
  intro X hP hw hK hc i pins s σ H E I hf st hg;subst hP hw hK;obtain⟨xs,hq,hx⟩:=hg;obtain⟨its,rv,p,hz⟩:=I.list hq;obtain⟨f0,f1,f2,f3,f4,f5⟩:=hf it (by simp);have hl:=rv.length;exact wpAny_pyNext_list_end (I.ok.hd hc) st p.isList (by simp;omega) fun h' eb=>⟨rfl,I.turned (t':=s.toks) (fun b o hb e=>eb b o hb e) f0 f1 f3 f4 f5⟩
 self:=fun _ _ _ _ _ st h=>wpAny_pyIter_listiter st h
theorem Ko{P:Program}{w:World}{K:PySem.W.Frag}{tg:Expr}(a it:Addr):Turn P w K tg (Itt K a) [it] it (fun i h=>h.IsTupleIter it a i) where
 mem:=by simp
 obj:=fun i h st b hb=>by
  have e:b=it:=by simpa using hb
  subst e;obtain⟨o,e,c,d⟩:=st;exact⟨o,e,fun v z=>by rw[d]at z;cases z⟩
 keep:=fun i h h' st k=>st.at fun o e=>k it (by simp) o e
 item:=by
  intro X hP hw hK hc i pins s σ H E I hf st hg;subst hP hw hK;obtain⟨xs,x,hq,hx⟩:=hg;obtain⟨its,rv,p,hz⟩:=I.tuple hq;obtain⟨u,hu,ru⟩:=rv.get hx;obtain⟨f0,f1,f2,f3,f4,f5⟩:=hf it (by simp);refine wpAny_pyNext_tuple_item st (show s.heap.IsTuple a its.toArray from p) (x:=u) (by simpa using hu) fun h' st' sb=>?_;have I1:Inv X pins σ H { s with heap:=h' }:=I.turned (t':=s.toks) (fun b o hb e=>(sb.2 b hb).trans e) f0 f1 f3 f4 f5;obtain⟨o,e,c,d⟩:=id st';exact⟨u,rfl,Kf (s:={ s with heap:=h' }) e c d (by decide) ⟨x,H,I1,ru,⟨rfl,fun ys hy=>by rw[I.tuple_inj hy hq];exact hx⟩,st',fun b hb=>(hf b hb).1⟩⟩
 done:=by
  intro X hP hw hK hc i pins s σ H E I hf st hg;subst hP hw hK;obtain⟨xs,hq,hx⟩:=hg;obtain⟨its,rv,p,hz⟩:=I.tuple hq;obtain⟨f0,f1,f2,f3,f4,f5⟩:=hf it (by simp);have hl:=rv.length;exact wpAny_pyNext_tuple_end (I.ok.hd hc) st (show s.heap.IsTuple a its.toArray from p) (by simp;omega) fun h' eb=>⟨rfl,I.turned (t':=s.toks) (fun b o hb e=>eb b o hb e) f0 f1 f3 f4 f5⟩
 self:=fun _ _ _ _ _ st h=>wpAny_pyIter_tupleiter st h
theorem Kr{P:Program}{w:World}{K:PySem.W.Frag}{tg:Expr}(it:Addr)(lo:Int)(n:Nat):Turn P w K tg (Itr lo n) [it] it (fun i h=>IsRangeIter h it (lo +(i:Nat)*1) ((n:Int)-(i:Nat)) 1) where
 mem:=by simp
 obj:=fun i h st b hb=>by
  have e:b=it:=by simpa using hb
  subst e;exact⟨_,st,fun v z=>by
   have z':Data.fields _=Data.cell v:=z;cases z'⟩
 keep:=fun i h h' st k=>k it (by simp) _ st
 item:=by
  intro X hP hw hK hc i pins s σ H E I hf st hg;subst hP hw hK;obtain⟨f0,f1,f2,f3,f4,f5⟩:=hf it (by simp);have W:=Walks.range (prog:=X.prog) (w:=X.w) (I.ok.hd hc) it lo 1 n;refine W.item i s _ _ hg st fun v h' tk hv st' kk=>?_;obtain⟨t,rfl⟩:=hv;have I1:Inv X pins σ H { s with heap:=h',toks:=tk }:=I.turned (fun b o hb e=>kk b o (by simpa using hb) e) f0 f1 f3 f4 f5;refine⟨_,rfl,Kf (s:={ s with heap:=h',toks:=tk }) (n := "range_iterator") st' rfl rfl (by decide) ⟨.int (lo+i),H,I1,⟨t,?_⟩,⟨rfl,rfl⟩,st',fun b hb=>(hf b hb).1⟩⟩;rw[Int.mul_one]
 done:=by
  intro X hP hw hK hc i pins s σ H E I hf st hg;subst hP hw hK;obtain⟨f0,f1,f2,f3,f4,f5⟩:=hf it (by simp);exact wpAny_pyNext_range_end (I.ok.hd hc) st (by have:n<=i:=hg;omega) fun h' eb=>⟨rfl,I.turned (t':=s.toks) (fun b o hb e=>eb b o hb e) f0 f1 f3 f4 f5⟩
 self:=fun _ _ _ _ _ st h=>wpAny_pyIter_rangeiter st h
section
variable{X:Cx}{tg:Expr}
def zCi(K:PySem.W.Frag)(tl:TE):TI:=fun σ H R=>tl σ H fun x H1=>∃a,x = .ref a/\(∃xs,SqL K H1 a xs)/\R (Itl K a) H1
theorem Wr{l:Expr}{tl:TE}(hl:PE X l tl):PI X tg l (zCi X.K tl):=by
 intro pins s σ H R I h;refine thn (hl pins s σ H _ I h) fun v s1 ⟨x,H1,I1,r1,q1⟩=>?_;obtain⟨a,e,⟨xs,hq⟩,q⟩:=q1;subst e;cases r1;obtain⟨its,rv,p,hz⟩:=I1.list hq;refine GZ p.isList ?_;refine⟨s1.heap.objs.size,[s1.heap.objs.size],_,_,H1,rfl,I1.kept (t':=s1.toks) fun b o e=>AE _ e,Fu a _,⟨_,AM _ rfl,rfl,rfl⟩,fun b hb=>?_,q⟩;have e:b=s1.heap.objs.size:=by simpa using hb
 subst e;exact I1.fpOk (Nat.le_refl _) (I1.hok.fresh (Nat.le_refl _))
theorem Ud{pins:List (Addr×Obj)}{σ:St}{H:Hp}{s:Shared}{R:It->Hp->Prop}{E:Value->Shared->Prop}{lo hi:Int}{t u v:Tok}{tk:Nat}(I:Inv X pins σ H s)(h1:-(2^62)<=lo)(h2:lo<2^62)(h3:-(2^62)<=hi)(h4:hi<2^62)
  (q:R (Itr lo (hi-lo).toNat) H):wpAny (model X.prog X.w) X.A (pyIter (.ref s.heap.objs.size)) (PIE X pins σ tg R) E { s with heap:=s.heap.push { cls:=.type "range",data:=.fields #[.int lo t,.int hi u,.int 1 v] },toks:=tk }:=by
 refine wpAny_pyIter_range (IsRange.new ..) (small_one h1 h2 h3 h4) ?_;have I1:Inv X pins σ H { s with heap:=s.heap.push { cls:=.type "range",data:=.fields #[.int lo t,.int hi u,.int 1 v] },toks:=tk }:=I.kept fun b o e=>AE _ e;refine⟨(s.heap.push { cls:=.type "range",data:=.fields #[.int lo t,.int hi u,.int 1 v] }).objs.size,[(s.heap.push { cls:=.type "range",data:=.fields #[.int lo t,.int hi u,.int 1 v] }).objs.size],_,_,H,rfl,
  I1.kept (t':=tk) fun b o e=>AE _ e,Kr _ lo (hi-lo).toNat,?_,fun b hb=>?_,q⟩
 .have e1:lo +((0:Nat):Int)*1=lo:=by simp
  have e2:(((hi-lo).toNat:Nat):Int)-((0:Nat):Int)=Builtin.Range.rangeSize lo hi 1:=by rw[rangeSize_one];split<;>omega
  show IsRangeIter _ _ (lo +((0:Nat):Int)*1) ((((hi-lo).toNat:Nat):Int)-((0:Nat):Int)) 1;rw[e1,e2];exact AM _ rfl
 .have e:b =(s.heap.push { cls:=.type "range",data:=.fields #[.int lo t,.int hi u,.int 1 v] }).objs.size:=by simpa using hb
  subst e;exact I1.fpOk (Nat.le_refl _) (I1.hok.fresh (Nat.le_refl _))
def Yt(ta:TA):TI:=fun σ H R=>ta σ H fun vs H1=>∃j:Int,vs = [.int j]/\-(2^62)<=j/\j<2^62/\R (Itr 0 j.toNat) H1
theorem Qx{a:Expr}{ta:TA}{p pos:Pos}(hg:Gl X "range")(hm:X.mg "range" = none)(ha:PA X [a] ta)(hs:starEach [a] X.env = [(false,eval a X.env)]:=by rfl):PI X tg (.Call (.Name "range" p) [a] [] pos) (Yt ta):=by
 intro pins s σ H R I h;refine Call_ (T1 I hg hm boot_range (PyProof.Rows.callWith_type1 (thn (ha pos pins s σ H _ I h) fun us s1 ⟨vs,H1,I1,r1,q1⟩=>?_) hs rfl));obtain⟨j,e,q1,q2,q⟩:=q1;subst e;cases r1 with
 | cons r rr =>
  cases rr;obtain⟨t,rfl⟩:=r;exact call_range_1 (Ud I1 (by omega) (by omega) q1 q2 (by simpa using q))
def zFu(wi:TI)(g:TG)(tb:TS):TS:=fun D σ H=>wi σ H fun J H1=>∃W:Nat->Nat->St->Hp->Prop,(∃m,W 0 m σ H1)/\∀i m σ H,W i m σ H ->
 (J.stop i H/\D.nx σ H)\/(J.go i H/\∃N:St->Hp->Prop,(∀σ' H',N σ' H'->∃m',m' < m/\W (i+1) m' σ' H')/\∀x H',J.yld i H x H'->g x σ H' fun σ2 H2=>tb { D with nx:=N,ct:=N,bk:=D.nx } σ2 H2)
def Ej(fp:List Addr)(h:Heap):List (Addr×Obj):=fp.filterMap fun b=>(h.get? b).map fun o=>(b,o)
theorem Q5{fp:List Addr}{h:Heap}{b:Addr}{o:Obj}(hb:b∈fp)(e:h.get? b=some o):(b,o)∈Ej fp h:=List.mem_filterMap.mpr ⟨b,hb,by rw[e];rfl⟩
theorem Mq{fp:List Addr}{h:Heap}{p:Addr×Obj}(hp:p∈Ej fp h):p.1∈fp/\h.get? p.1=some p.2:=by
 obtain⟨b,hb,e⟩:=List.mem_filterMap.mp hp;cases q:h.get? b with
 | none=>rw[q]at e;cases e
 | some o =>
  rw[q]at e;have e':(b,o)=p:=BI e;subst e';exact⟨hb,q⟩
theorem Inv.pinned{pins:List (Addr×Obj)}{σ:St}{H:Hp}{s:Shared}{fp:List Addr}(I:Inv X pins σ H s)(hf:∀b∈fp,Bu X pins H b)(ho:∀b∈fp,∃o,s.heap.get? b=some o/\∀v,o.data≠ .cell v):Inv X (pins++Ej fp s.heap) σ H s :=
 I.pins_of fun p hp=>(AU.mp hp).elim (fun z=>I.pin p (CA _ z)) fun z=>by
  obtain⟨hb,e⟩:=Mq z;obtain⟨f0,f1,f2,_⟩:=hf p.1 hb;obtain⟨o,e',d⟩:=ho p.1 hb;rw[e]at e';cases e';exact⟨e,f0,f1,f2,d⟩
theorem Inv.unpinned{pins pl:List (Addr×Obj)}{σ:St}{H:Hp}{s:Shared}(I:Inv X (pins++pl) σ H s):Inv X pins σ H s:=I.pins_of fun p hp=>I.pin p (CA _ (EI _ hp))
theorem R9{iter:Expr}{body:List Stmt}{wi:TI}{g:TG}{tb:TS}{pos:Pos}(hp:PassesOwn (model X.prog X.w) X.A X.env X.xe)(hc:X.calm=true)(hi:PI X tg iter wi)(hg:PG X tg g)(hb:PSs X body tb)
  (hs:∀x,foldedSetIterable iter X.env x=pure x:=by intro _;rfl):PS X (.For tg iter body [] pos) (zFu wi g tb):=by
 intro pins s σ H D I h;refine wpAny_For (thn (hi pins s σ H _ I h) fun v s1 h1=>thn h1 fun itv s2 h2=>?_) hs;obtain⟨it,fp,tn,J,H2,e,I2,T,st2,f2,W,⟨m0,w0⟩,turn⟩:=h2;subst e;have stat:∀{H':Hp},(∀b∈fp,H' b=none)->∀b∈fp,Bu X pins H' b:=fun hn b hb=>⟨hn b hb,(f2 b hb).2⟩;refine codeAny_forLoop_any (fun n s'=>∃i σ' H',Inv X pins σ' H' s'/\tn i s'.heap/\(∀b∈fp,H' b=none)/\W i n σ' H') ?_ m0 ⟨0,σ,H2,I2,st2,fun b hb=>(f2 b hb).1,w0⟩;rintro n s3 ⟨i,σ3,H3,I3,st3,fr3,w3⟩;rcases turn i n σ3 H3 w3 with⟨stop,qn⟩ | ⟨go,N,hN,step⟩
 .refine FY hp (thn (T.done X rfl rfl rfl hc i pins s3 σ3 H3 X.xe I3 (stat fr3) st3 stop) fun r s4 ⟨hr,I4⟩=>?_);subst hr;exact GT ⟨σ3,H3,I4,qn⟩
 .refine FY hp (thn (T.item X rfl rfl rfl hc i pins s3 σ3 H3 X.xe I3 (stat fr3) st3 go) fun r s4 ⟨u,hr,h4⟩=>?_);subst hr;refine FY hp (thn h4 fun _ s5 ⟨x,H5,I5,r5,y5,st5,fr5⟩=>?_);have I5':=I5.pinned (stat fr5) (T.obj _ _ st5);refine FY hp (thn (hg _ s5 σ3 H5 x u _ I5' r5 (step x H5 y5)) fun _ s6 ⟨σ6,H6,I6,q6⟩=>?_);refine FY hp (thn (hb _ s6 σ6 H6 _ I6 q6) fun f s7 q7=>?_);have again:∀{σ7:St} {H7:Hp},Inv X (pins++Ej fp s5.heap) σ7 H7 s7->N σ7 H7->∃m,m<n/\∃i σ' H',Inv X pins σ' H' s7/\tn i s7.heap/\(∀b∈fp,H' b=none)/\W i m σ' H':=fun{σ7 H7} I7 n7=>by
   obtain⟨m',hm,w7⟩:=hN σ7 H7 n7;refine⟨m',hm,i+1,σ7,H7,I7.unpinned,T.keep _ _ _ st5 fun b hb o e=>(I7.pin (b,o) (CA _ (CA _ (Q5 hb e)))).1,fun b hb=>?_,w7⟩;obtain⟨o,e,d⟩:=T.obj _ _ st5 b hb;exact(I7.pin (b,o) (CA _ (CA _ (Q5 hb e)))).2.1
  cases f with
  | next=>obtain⟨σ7,H7,I7,n7⟩:=q7;exact again I7 n7
  | cont=>obtain⟨σ7,H7,I7,n7⟩:=q7;exact again I7 n7
  | brk=>obtain⟨σ7,H7,I7,q7⟩:=q7;exact⟨σ7,H7,I7.unpinned,q7⟩
  | ret v=>obtain⟨x7,σ7,H7,I7,r7,q7⟩:=q7;exact⟨x7,σ7,H7,I7.unpinned,r7,q7⟩
end
theorem Ni{lo:Int}{n:Nat}{g:TG}{tb:TS}{D:Ends}{σ:St}{H:Hp}(Pv:Nat->St->Hp->Prop)(h0:Pv 0 σ H)
  (hs:∀i σ H,i<n->Pv i σ H->g (.int (lo+i)) σ H fun σ2 H2=>tb { D with nx:=Pv (i+1),ct:=Pv (i+1),bk:=D.nx } σ2 H2) (hd:∀σ H,Pv n σ H->D.nx σ H) :
  ∃W:Nat->Nat->St->Hp->Prop,(∃m,W 0 m σ H)/\∀i m σ H,W i m σ H ->
   ((Itr lo n).stop i H/\D.nx σ H)\/((Itr lo n).go i H/\∃N:St->Hp->Prop,(∀σ' H',N σ' H'->∃m',m' < m/\W (i+1) m' σ' H')/\∀x H',(Itr lo n).yld i H x H'->g x σ H' fun σ2 H2=>tb { D with nx:=N,ct:=N,bk:=D.nx } σ2 H2):=by
 refine⟨fun i m σ H=>m=n-i/\i<=n/\Pv i σ H,⟨n,by simp,CD _,h0⟩,?_⟩;rintro i m σ H ⟨rfl,hi,p⟩;by_cases hlt:i<n
 .refine .inr ⟨hlt,Pv (i+1),fun σ' H' p'=>⟨n-(i+1),by omega,rfl,hlt,p'⟩,fun x H' y=>?_⟩;obtain⟨e,y⟩:=y;subst e y;exact hs i σ _ hlt p
 .have e:i=n:=by omega
  subst e;exact .inl ⟨Nat.le_refl _,hd σ H p⟩
abbrev R2:=V->V->Hp->VK->Prop
def OpR(X:Cx)(f:Value->Value->Sem Value)(r:R2):Prop :=
 ∀(pins:List (Addr×Obj)) (s:Shared) (σ:St) (H:Hp) (x y:V) (v u:Value) (Q:VK),Inv X pins σ H s->RelV x v->RelV y u->r x y H Q ->
  wpAny (model X.prog X.w) X.A (f v u) (EP X pins σ Q) X.xe s
def UnR(X:Cx)(f:Value->Sem Value)(r:V->Hp->VK->Prop):Prop :=
 ∀(pins:List (Addr×Obj)) (s:Shared) (σ:St) (H:Hp) (x:V) (v:Value) (Q:VK),Inv X pins σ H s->RelV x v->r x H Q ->
  wpAny (model X.prog X.w) X.A (f v) (EP X pins σ Q) X.xe s
def E3(X:Cx)(f:Value)(r:List V->Hp->VK->Prop):Prop :=
 ∀(pins:List (Addr×Obj)) (s:Shared) (σ:St) (H:Hp) (xs:List V) (us:List Value) (Q:VK),Inv X pins σ H s->Vals xs us->r xs H Q ->
  wpAny (model X.prog X.w) X.A (call f us) (EP X pins σ Q) X.xe s
def zGa(X:Cx)(r:V->Hp->(Bool->Hp->Prop)->Prop):Prop :=
 ∀(pins:List (Addr×Obj)) (s:Shared) (σ:St) (H:Hp) (x:V) (v:Value) (Q:Bool->Hp->Prop),Inv X pins σ H s->RelV x v->r x H Q ->
  wpAny (model X.prog X.w) X.A (truthy v) (TP X pins σ Q) X.xe s
def tOp(r:R2)(ta tb:TE):TE:=fun σ H Q=>ta σ H fun x H1=>tb σ H1 fun y H2=>r x y H2 Q
def tUn(r:V->Hp->VK->Prop)(ta:TE):TE:=fun σ H Q=>ta σ H fun x H1=>r x H1 Q
def rI(C:Int->Int->Prop)(g:Int->Int->V):R2:=fun x y H Q=>∃i j,x = .int i/\y = .int j/\C i j/\Q (g i j) H
def rI0(g:Int->Int->V):R2:=fun x y H Q=>∃i j,x = .int i/\y = .int j/\Q (g i j) H
def rU(g:Int->V):V->Hp->VK->Prop:=fun x H Q=>∃i,x = .int i/\Q (g i) H
section
variable{X:Cx}{a b c:Expr}{ta tb tc:TE}{pos:Pos}
theorem zEo(ha:PE X a ta)(hb:PE X b tb){pins:List (Addr×Obj)}{s:Shared}{σ:St}{H:Hp}{R:V->V->Hp->Prop}(I:Inv X pins σ H s)
  (h:ta σ H fun x H1=>tb σ H1 fun y H2=>R x y H2) {Q:Value->Shared->Prop} {f:Value->Value->Sem Value}
  (hf:∀v u s2 x y H2,Inv X pins σ H2 s2->RelV x v->RelV y u->R x y H2->wpAny (model X.prog X.w) X.A (f v u) Q X.xe s2) :
  wpAny (model X.prog X.w) X.A (eval a X.env) (fun v s₁=>wpAny (model X.prog X.w) X.A (eval b X.env) (fun u s₂=>wpAny (model X.prog X.w) X.A (f v u) Q X.xe s₂) X.xe s₁) X.xe s:=by
 refine thn (ha pins s σ H _ I h) fun v s1 ⟨x,H1,I1,r1,q1⟩=>?_;refine thn (hb pins s1 σ H1 _ I1 q1) fun u s2 ⟨y,H2,I2,r2,q2⟩=>?_;exact hf v u s2 x y H2 I2 r1 r2 q2
theorem C4{op:Operator}{r:R2}(ho:OpR X (binaryOp op) r)(ha:PE X a ta)(hb:PE X b tb):PE X (.BinOp a op b pos) (tOp r ta tb):=by
 intro pins s σ H Q I h;exact wpAny_BinOp (zEo ha hb I h fun v u s2 x y H2 I2 rx ry q=>ho pins s2 σ H2 x y v u Q I2 rx ry q)
theorem zDn{op:UnaryOp}{r:V->Hp->VK->Prop}(ho:UnR X (unaryOp op) r)(ha:PE X a ta):PE X (.UnaryOp op a pos) (tUn r ta):=by
 intro pins s σ H Q I h;exact UnaryOp_ (thn (ha pins s σ H _ I h) fun v s1 ⟨x,H1,I1,r1,q1⟩=>ho pins s1 σ H1 x v Q I1 r1 q1)
theorem opI{f:Value->Value->Sem Value}{C:Int->Int->Prop}{g:Int->Int->Int}
  (rule:∀(i j:Int) (t u:Tok) (s:Shared) (Q:Value->Shared->Prop) (E:Value->Shared->Prop),C i j->Q (.int (g i j) s.toks) { s with toks:=s.toks+1 }->wpAny (model X.prog X.w) X.A (f (.int i t) (.int j u)) Q E s) :
  OpR X f (rI C fun i j=>.int (g i j)):=by
 intro pins s σ H x y v u Q I rx ry h;obtain⟨i,j,rfl,rfl,hc,q⟩:=h;obtain⟨t,rfl⟩:=rx;obtain⟨t',rfl⟩:=ry;exact rule i j t t' s _ _ hc ⟨.int (g i j),H,I.tok _,⟨_,rfl⟩,q⟩
theorem zCr{f:Value->Value->Sem Value}{g:Int->Int->Int}
  (rule:∀(i j:Int) (t u:Tok) (s:Shared) (Q:Value->Shared->Prop) (E:Value->Shared->Prop),Q (.int (g i j) s.toks) { s with toks:=s.toks+1 }->wpAny (model X.prog X.w) X.A (f (.int i t) (.int j u)) Q E s) :
  OpR X f (rI0 fun i j=>.int (g i j)):=by
 intro pins s σ H x y v u Q I rx ry h;obtain⟨i,j,rfl,rfl,q⟩:=h;obtain⟨t,rfl⟩:=rx;obtain⟨t',rfl⟩:=ry;exact rule i j t t' s _ _ ⟨.int (g i j),H,I.tok _,⟨_,rfl⟩,q⟩
theorem zCn{f:Value->Value->Sem Value}{g:Int->Int->Bool}
  (rule:∀(i j:Int) (t u:Tok) (s:Shared) (Q:Value->Shared->Prop) (E:Value->Shared->Prop),Q (.bool (g i j)) s->wpAny (model X.prog X.w) X.A (f (.int i t) (.int j u)) Q E s) :
  OpR X f (rI0 fun i j=>.bl (g i j)):=by
 intro pins s σ H x y v u Q I rx ry h;obtain⟨i,j,rfl,rfl,q⟩:=h;obtain⟨t,rfl⟩:=rx;obtain⟨t',rfl⟩:=ry;exact rule i j t t' s _ _ ⟨.bl (g i j),H,I,rfl,q⟩
def zFn(i j:Int):Prop:=0<j/\j<1073741824
def zEt(i j:Int):Prop:=0<=j/\j<=1000000/\i.natAbs<2^64
def CMul(i j:Int):Prop:=(-(2^64)<i/\i<2^64)\/(-(2^64)<j/\j<2^64)
theorem CMul.ok{i j:Int}(h:CMul i j):IntMulOk i j:=by
 rcases h with⟨h1,h2⟩ | ⟨h1,h2⟩
 .exact .of_left (intBits_le_64 h1 h2)
 .exact .of_right (intBits_le_64 h1 h2)
theorem X9:OpR X (binaryOp .Add) (rI0 fun i j=>.int (i+j)):=zCr fun _ _ _ _ _ _ _ q=>add_int q
theorem w6:OpR X (binaryOp .Mult) (rI CMul fun i j=>.int (i*j)):=opI fun _ _ _ _ _ _ _ hc q=>mul_int q hc.ok
theorem Hd:OpR X (binaryOp .FloorDiv) (rI zFn fun i j=>.int (i / j)):=opI fun i j _ _ _ _ _ hc q=>by
 have h1:(0:Int)<j:=hc.1;have h2:j<1073741824:=hc.2;exact floordiv_int (by omega) (by rw[Int.fdiv_eq_ediv_of_nonneg i (by omega)];exact q) (.inl (PyProof.noPylong_small (by omega)))
theorem Au:OpR X (binaryOp .Mod) (rI (fun _ j=>0<j) fun i j=>.int (i % j)):=opI fun i j _ _ _ _ _ hc q=>by
 have h1:(0:Int)<j:=hc;exact mod_int' (by omega) (by rw[Int.fmod_eq_emod_of_nonneg i (by omega)];exact q)
theorem zBe:OpR X (binaryOp .Pow) (rI zEt fun i j=>.int (i^j.toNat)):=opI fun _ _ _ _ _ _ _ hc q=>pow_int_small hc.1 hc.2.1 hc.2.2 q
theorem zAi:OpR X (binaryOp .LShift) (rI zEt fun i j=>.int (i*2^j.toNat)):=opI fun _ _ _ _ _ _ _ hc q=>lshift_int_small hc.1 hc.2.1 hc.2.2 q
theorem S0:OpR X (binaryOp .BitAnd) (rI0 fun i j=>.int (Builtin.bitAnd i j)):=zCr fun _ _ _ _ _ _ _ q=>and_int q
theorem W7:OpR X (binaryOp .BitOr) (rI0 fun i j=>.int (Builtin.bitOr i j)):=zCr fun _ _ _ _ _ _ _ q=>or_int q
theorem Bb:OpR X (binaryOp .BitXor) (rI0 fun i j=>.int (Builtin.bitXor i j)):=zCr fun _ _ _ _ _ _ _ q=>xor_int q
theorem unI{f:Value->Sem Value}{g:Int->Int}
  (rule:∀(i:Int) (t:Tok) (s:Shared) (Q:Value->Shared->Prop) (E:Value->Shared->Prop),Q (.int (g i) s.toks) { s with toks:=s.toks+1 }->wpAny (model X.prog X.w) X.A (f (.int i t)) Q E s) :
  UnR X f (rU fun i=>.int (g i)):=by
 intro pins s σ H x v Q I rx h;obtain⟨i,rfl,q⟩:=h;obtain⟨t,rfl⟩:=rx;exact rule i t s _ _ ⟨.int (g i),H,I.tok _,⟨_,rfl⟩,q⟩
theorem Yx:UnR X (unaryOp .USub) (rU fun i=>.int (-i)):=unI fun _ _ _ _ _ q=>neg_int q
end
def zFi:V->V->Bool
 | .non,.non=>true | .non,.int _=>true | .int _,.non=>true | .non,.bl _=>true | .bl _,.non=>true | .non,.str _=>true | .str _,.non=>true
 | .int _,.int _=>true | .bl _,.bl _=>true | .str _,.str _=>true | .byt _,.byt _=>true
 | .int _,.str _=>true | .str _,.int _=>true | .bl _,.str _=>true | .str _,.bl _=>true
 | _,_=>false
def rEq:R2:=fun x y H Q=>zFi x y=true/\Q (.bl (decide (x=y))) H
def rNe:R2:=fun x y H Q=>zFi x y=true/\Q (.bl (!decide (x=y))) H
theorem Ph{i j:Int}:decide (V.int i=V.int j) =(i == j):=by
 rw[C_];simp
theorem Vj{i j:Bool}:decide (V.bl i=V.bl j) =(i == j):=by
 rw[C_];simp
theorem Of{i j:Str}:decide (V.str i=V.str j) =(i == j):=by
 rw[C_];simp
theorem Po{i j:Array UInt8}:decide (V.byt i=V.byt j) =(i.toList == j.toList):=by
 rw[C_];cases i;cases j;simp
section
variable{X:Cx}{a b c:Expr}{ta tb tc:TE}{pos:Pos}
theorem C9{pins:List (Addr×Obj)}{σ:St}{H:Hp}{s:Shared}{Q:VK}{k k':Bool}(I:Inv X pins σ H s)(q:Q (.bl k) H)(e:k=k'):EP X pins σ Q (.bool k') s:=by
 subst e;exact⟨.bl k,H,I,rfl,q⟩
theorem d6:OpR X (compareOp .Eq) rEq:=by
 intro pins s σ H x y v u Q I rx ry h;obtain⟨hs,q⟩:=h;cases x with
 | non =>
  cases rx;cases y with
  | non=>cases ry;exact PySem.EqNone.eq_none_none (C9 I q (by simp))
  | bl j=>cases ry;exact PySem.EqNone.eq_none_bool (C9 I q (by simp))
  | int j=>obtain⟨t',rfl⟩:=ry;exact PySem.EqNone.eq_none_int (C9 I q (by simp))
  | str j=>obtain⟨t',rfl⟩:=ry;exact PySem.EqNone.eq_none_str (C9 I q (by simp))
  | _=>exact absurd (show false=true from hs) BB
 | bl i =>
  cases rx;cases y with
  | non=>cases ry;exact PySem.EqNone.eq_bool_none (C9 I q (by simp))
  | bl j=>cases ry;exact eq_bool (C9 I q Vj)
  | str j=>obtain⟨t',rfl⟩:=ry;exact PySem.EqMixed.eq_bool_str (C9 I q (by simp))
  | _=>exact absurd (show false=true from hs) BB
 | int i =>
  obtain⟨t,rfl⟩:=rx;cases y with
  | non=>cases ry;exact PySem.EqNone.eq_int_none (C9 I q (by simp))
  | int j=>obtain⟨t',rfl⟩:=ry;exact eq_int (C9 I q Ph)
  | str j=>obtain⟨t',rfl⟩:=ry;exact PySem.EqMixed.eq_int_str (C9 I q (by simp))
  | _=>exact absurd (show false=true from hs) BB
 | str i =>
  obtain⟨t,rfl⟩:=rx;cases y with
  | non=>cases ry;exact PySem.EqNone.eq_str_none (C9 I q (by simp))
  | bl j=>cases ry;exact PySem.EqMixed.eq_str_bool (C9 I q (by simp))
  | int j=>obtain⟨t',rfl⟩:=ry;exact PySem.EqMixed.eq_str_int (C9 I q (by simp))
  | str j=>obtain⟨t',rfl⟩:=ry;exact eq_str (C9 I q Of)
  | _=>exact absurd (show false=true from hs) BB
 | byt i =>
  obtain⟨t,rfl⟩:=rx;cases y with
  | byt j=>obtain⟨t',rfl⟩:=ry;exact PySem.W.eq_bytes (C9 I q Po)
  | _=>exact absurd (show false=true from hs) BB
 | _=>cases y<;>exact absurd (show false=true from hs) BB
theorem zEe:OpR X (compareOp .NotEq) rNe:=by
 intro pins s σ H x y v u Q I rx ry h;obtain⟨hs,q⟩:=h;cases x with
 | non =>
  cases rx;cases y with
  | non=>cases ry;exact PySem.EqNone.ne_none_none (C9 I q (by simp))
  | bl j=>cases ry;exact PySem.EqNone.ne_none_bool (C9 I q (by simp))
  | int j=>obtain⟨t',rfl⟩:=ry;exact PySem.EqNone.ne_none_int (C9 I q (by simp))
  | str j=>obtain⟨t',rfl⟩:=ry;exact PySem.EqNone.ne_none_str (C9 I q (by simp))
  | _=>exact absurd (show false=true from hs) BB
 | bl i =>
  cases rx;cases y with
  | non=>cases ry;exact PySem.EqNone.ne_bool_none (C9 I q (by simp))
  | bl j=>cases ry;exact ne_bool (C9 I q (congrArg not Vj))
  | str j=>obtain⟨t',rfl⟩:=ry;exact PySem.EqMixed.ne_bool_str (C9 I q (by simp))
  | _=>exact absurd (show false=true from hs) BB
 | int i =>
  obtain⟨t,rfl⟩:=rx;cases y with
  | non=>cases ry;exact PySem.EqNone.ne_int_none (C9 I q (by simp))
  | int j=>obtain⟨t',rfl⟩:=ry;exact ne_int (C9 I q (congrArg not Ph))
  | str j=>obtain⟨t',rfl⟩:=ry;exact PySem.EqMixed.ne_int_str (C9 I q (by simp))
  | _=>exact absurd (show false=true from hs) BB
 | str i =>
  obtain⟨t,rfl⟩:=rx;cases y with
  | non=>cases ry;exact PySem.EqNone.ne_str_none (C9 I q (by simp))
  | bl j=>cases ry;exact PySem.EqMixed.ne_str_bool (C9 I q (by simp))
  | int j=>obtain⟨t',rfl⟩:=ry;exact PySem.EqMixed.ne_str_int (C9 I q (by simp))
  | str j=>obtain⟨t',rfl⟩:=ry;exact ne_str (C9 I q (congrArg not Of))
  | _=>exact absurd (show false=true from hs) BB
 | byt i =>
  obtain⟨t,rfl⟩:=rx;cases y with
  | byt j=>obtain⟨t',rfl⟩:=ry;exact PySem.W.ne_bytes (C9 I q (congrArg not Po))
  | _=>exact absurd (show false=true from hs) BB
 | _=>cases y<;>exact absurd (show false=true from hs) BB
theorem zBa:OpR X (compareOp .Lt) (rI0 fun i j=>.bl (decide (i<j))):=zCn fun _ _ _ _ _ _ _ q=>lt_int q
theorem Xg:OpR X (compareOp .LtE) (rI0 fun i j=>.bl (decide (i<=j))):=zCn fun _ _ _ _ _ _ _ q=>le_int q
theorem zBj:OpR X (compareOp .Gt) (rI0 fun i j=>.bl (decide (j<i))):=zCn fun _ _ _ _ _ _ _ q=>gt_int q
theorem zDo:OpR X (compareOp .GtE) (rI0 fun i j=>.bl (decide (j<=i))):=zCn fun _ _ _ _ _ _ _ q=>ge_int q
theorem Qd:OpR X (compareOp .In) (fun x y H Q=>∃i j,x = .str i/\y = .str j/\Q (.bl (!(Builtin.Str.occurrences j i 0 j.length 1).isEmpty)) H):=by
 intro pins s σ H x y v u Q I rx ry h;obtain⟨i,j,rfl,rfl,q⟩:=h;obtain⟨t,rfl⟩:=rx;obtain⟨t',rfl⟩:=ry;exact in_str (C9 I q rfl)
theorem Ys:OpR X (compareOp .Is) (fun x y H Q=>y = .non/\Q (.bl (decide (x = .non))) H):=by
 intro pins s σ H x y v u Q I rx ry h;obtain⟨rfl,q⟩:=h;cases ry;refine is_none_gen (C9 I q ?_);cases x<;>first
  | (cases rx;rfl)
  | (obtain⟨t,rfl⟩:=rx;rfl)
theorem F0(b:Expr){op:CmpOp}(h:op≠ .In:=by decide)(h2:op≠ .NotIn:=by decide):behindInMarks op b=false:=by
 have e1:(op == CmpOp.In)=false:=by cases op<;>first | rfl | exact absurd rfl h
 have e2:(op == CmpOp.NotIn)=false:=by cases op<;>first | rfl | exact absurd rfl h2
 cases b<;>simp[behindInMarks,e1,e2]
theorem S7{op:CmpOp}{r:R2}(ho:OpR X (compareOp op) r)(ha:PE X a ta)(hb:PE X b tb)(hm:behindInMarks op b=false):PE X (.Compare a [op] [b] pos) (tOp r ta tb):=by
 intro pins s σ H Q I h;exact wpAny_Compare1 (zEo ha hb I h fun v u s2 x y H2 I2 rx ry q=>ho pins s2 σ H2 x y v u Q I2 rx ry q) hm
def zAm(t:TE):TT:=fun σ H Q=>t σ H fun x H'=>∃k,x = .bl k/\Q k H'
theorem D4{op:CmpOp}{r:R2}(ho:OpR X (compareOp op) r)(ha:PE X a ta)(hb:PE X b tb)(hm:behindInMarks op b=false):PT X (.Compare a [op] [b] pos) (zAm (tOp r ta tb)):=by
 intro pins s σ H Q I h;refine wpAny_isTrue_Compare1 (thn (ha pins s σ H _ I h) fun v s1 ⟨x,H1,I1,r1,q1⟩=>thn (hb pins s1 σ H1 _ I1 q1) fun u s2 ⟨y,H2,I2,r2,q2⟩ =>
  thn (ho pins s2 σ H2 x y v u _ I2 r1 r2 q2) fun c s3 ⟨z,H3,I3,r3,k,e,q3⟩=>?_) hm
 subst e;cases r3;exact DJ ⟨H3,I3,q3⟩
def zCl(r r':R2)(ta tb tc:TE):TE:=fun σ H Q=>ta σ H fun x H1=>tb σ H1 fun y H2=>r x y H2 fun z H3=>∃k,z = .bl k /\
 (if k=true then tc σ H3 fun w' H4=>r' y w' H4 Q else Q (.bl false) H3)
theorem Tf{op op':CmpOp}{r r':R2}(ho:OpR X (compareOp op) r)(ho':OpR X (compareOp op') r')(ha:PE X a ta)(hb:PE X b tb)(hc:PE X c tc)
  (hm:lastMarks [op,op'] [b,c]=false:=by with_unfolding_all rfl):PT X (.Compare a [op,op'] [b,c] pos) (zAm (zCl r r' ta tb tc)):=by
 intro pins s σ H Q I h;refine isTrue_chain (thn (ha pins s σ H _ I h) fun v s1 ⟨x,H1,I1,r1,q1⟩=>test_link (thn (hb pins s1 σ H1 _ I1 q1) fun u s2 ⟨y,H2,I2,r2,q2⟩ =>
  thn (ho pins s2 σ H2 x y v u _ I2 r1 r2 q2) fun d s3 ⟨z,H3,I3,r3,k,e,q3⟩=>?_)) hm
 subst e;cases r3;refine DJ ?_;cases k with
 | false =>
  obtain⟨k',e',q'⟩:=q3;cases e';exact ite_ff ⟨H3,I3,q'⟩
 | true =>
  refine ite_tt (test_last (thn (hc pins s3 σ H3 _ I3 q3) fun w' s4 ⟨z',H4,I4,r4,q4⟩=>thn (ho' pins s4 σ H4 y z' u w' _ I4 r2 r4 q4) fun d' s5 ⟨z2,H5,I5,r5,k2,e2,q5⟩=>?_));subst e2;cases r5;exact DJ ⟨H5,I5,q5⟩
def zDm(K:PySem.W.Frag)(x:V)(H:Hp)(k:Bool):Prop :=
 match x with
 | .non=>k=false
 | .bl b=>k=b
 | .int i=>k =(i != 0)
 | .str y=>y.length<=sizeLine/\k =((y.length:Int) != 0)
 | .byt y=>y.size<=sizeLine/\k =((y.size:Int) != 0)
 | .ref p=>(∃xs,SqL K H p xs/\k=!xs.isEmpty)\/(∃xs,SqT K H p xs/\k=!xs.isEmpty)\/∃kvs,H p=some (.dK kvs)/\k=!kvs.isEmpty
 | _=>False
theorem Kg{Z:Type}{kvs:List (Z×V)}{vs:List (Z×Value)}(r:KV kvs vs):(!vs.isEmpty)=!kvs.isEmpty:=by
 cases r<;>rfl
theorem Ap{xs:List V}{its:List Value}(r:Vals xs its):(!its.toArray.isEmpty)=!xs.isEmpty:=by
 cases r<;>simp
theorem j9:(sizeLine:Nat)<2^63:=by rw[sizeLine_eq];decide
theorem Zn:zGa X (fun x H Q=>∃k,zDm X.K x H k/\Q k H):=by
 intro pins s σ H x v Q I rx h;obtain⟨k,e,q⟩:=h;have hl:=j9;have hs:sizeLine=16777216:=sizeLine_eq;cases x with
 | non =>
  cases rx;have e':k=false:=e;subst e';exact truthy_none ⟨H,I,q⟩
 | bl b =>
  cases rx;have e':k=b:=e;subst e';exact DJ ⟨H,I,q⟩
 | int i =>
  obtain⟨t,rfl⟩:=rx;have e':k =(i != 0):=e;subst e';exact PySem.P.truthy_int ⟨H,I,q⟩
 | str y =>
  obtain⟨t,rfl⟩:=rx;obtain⟨hy,e'⟩:y.length<=sizeLine/\k =((y.length:Int) != 0):=e;subst e';exact PySem.P.truthy_str (by omega) ⟨H,I.tok _,q⟩
 | byt y =>
  obtain⟨t,rfl⟩:=rx;obtain⟨hy,e'⟩:y.size<=sizeLine/\k =((y.size:Int) != 0):=e;subst e';exact PySem.W.truthy_bytes (by omega) ⟨H,I.tok _,q⟩
 | ref p =>
  cases rx;have e':(∃xs,SqL X.K H p xs/\k=!xs.isEmpty)\/(∃xs,SqT X.K H p xs/\k=!xs.isEmpty)\/∃kvs,H p=some (.dK kvs)/\k=!kvs.isEmpty:=e;rcases e' with⟨xs,hx,e'⟩ | ⟨xs,hx,e'⟩ | ⟨kvs,hx,e'⟩
  .subst e';obtain⟨its,r,pl,hz⟩:=I.list hx;have hlen:=r.length;exact wpAny_truthy_list pl.isList (by simp only[AR];omega) ⟨H,I.tok _,by rw[Ap r];exact q⟩
  .subst e';obtain⟨its,r,pl,hz⟩:=I.tuple hx;have hlen:=r.length;exact truthy_tuple pl (by simp only[AR];omega) ⟨H,I.tok _,by rw[Ap r];exact q⟩
  .subst e';obtain⟨hz,hS,vs,r,m⟩:kvs.length<=sizeLine/\(p == sysModules)=false/\∃vs,KV kvs vs/\s.heap.DictOf (B9 X.prog X.w) p vs:=I.hok p _ hx;have hlen:kvs.length=vs.length:=Paired.length r;exact wpAny_truthy_dict hS m (by omega) ⟨H,I.tok _,by rw[Kg r];exact q⟩
 | _=>exact(show False from e).elim
theorem So(ha:PE X a ta)(he:∀whole,isTrue a X.env whole =(do let v <-whole;standAt a.pos;holding [v] (truthy v))) :
  PT X a (fun σ H Q=>ta σ H fun x H'=>∃k,zDm X.K x H' k/\Q k H'):=by
 intro pins s σ H Q I h;exact isTrue_plain (thn (ha pins s σ H _ I h) fun v s1 ⟨x,H1,I1,r1,q1⟩=>Zn pins s1 σ H1 x v Q I1 r1 q1) (he _)
theorem Q8{x:V}{us:List Value}(r:Vals [x] us):∃u,us = [u]/\RelV x u:=by
 cases r with
 | cons r1 r2=>cases r2;exact⟨_,rfl,r1⟩
theorem zAr{x y:V}{us:List Value}(r:Vals [x,y] us):∃u w',us = [u,w']/\RelV x u/\RelV y w':=by
 cases r with
 | cons r1 r2 =>
  cases r2 with
  | cons r3 r4=>cases r4;exact⟨_,_,rfl,r1,r3⟩
theorem Jn:E3 X (.builtin "abs") (fun xs H Q=>∃i,xs = [.int i]/\Q (.int (if i<0 then -i else i)) H):=by
 intro pins s σ H xs us Q I r h;obtain⟨i,rfl,q⟩:=h;obtain⟨u,rfl,t,rfl⟩:=Q8 r;exact call_abs_int fun u tk=>⟨.int (if i<0 then -i else i),H,I.tok _,⟨_,rfl⟩,q⟩
theorem Op(hc:X.calm=true):E3 X (.builtin "max") (fun xs H Q=>∃i j,xs = [.int i,.int j]/\Q (.int (if j>i then j else i)) H):=by
 intro pins s σ H xs us Q I r h;obtain⟨i,j,rfl,q⟩:=h;obtain⟨u,w',rfl,⟨t,rfl⟩,⟨t',rfl⟩⟩:=zAr r;refine max_two_ints (I.ok.hd hc) fun h' tk k=>⟨_,H,I.kept k,?_,q⟩;by_cases hj:j>i
 .rw[AO hj,AO hj];exact⟨_,rfl⟩
 .rw[AK hj,AK hj];exact⟨_,rfl⟩
theorem Mp(hc:X.calm=true):E3 X (.builtin "min") (fun xs H Q=>∃i j,xs = [.int i,.int j]/\Q (.int (if j<i then j else i)) H):=by
 intro pins s σ H xs us Q I r h;obtain⟨i,j,rfl,q⟩:=h;obtain⟨u,w',rfl,⟨t,rfl⟩,⟨t',rfl⟩⟩:=zAr r;refine min_two_ints (I.ok.hd hc) fun h' tk k=>⟨_,H,I.kept k,?_,q⟩;by_cases hj:j<i
 .rw[AO hj,AO hj];exact⟨_,rfl⟩
 .rw[AK hj,AK hj];exact⟨_,rfl⟩
theorem m9:E3 X (.type "int") (fun xs H Q=>(∃i,xs = [.int i]/\Q (.int i) H)\/∃k,xs = [.bl k]/\Q (.int (if k then 1 else 0)) H):=by
 intro pins s σ H xs us Q I r h;rcases h with⟨i,rfl,q⟩ | ⟨k,rfl,q⟩
 .obtain⟨u,rfl,t,rfl⟩:=Q8 r;exact call_int_int ⟨.int i,H,I,⟨_,rfl⟩,q⟩
 .obtain⟨u,rfl,r1⟩:=Q8 r;cases r1;exact call_int_bool ⟨.int (if k then 1 else 0),H,I.tok _,⟨_,rfl⟩,q⟩
end
structure ObjM(h:Heap)(x dx C:Addr)(mA:Str->Option Value):Prop where
 obj:h.get? x=some (PySem.W.instObj C dx)
 ns:h.Ns1 dx mA
 ne:dx≠x
theorem Md{h:Heap}{dx:Addr}{mA:Str->Option Value}(n:h.Ns1 dx mA):∃od,h.get? dx=some od/\∀name,PySem.W.lookIn name od=some (mA name):=by
 obtain⟨o,es,ep,ho,hd,hk,_,hm⟩:=n;refine⟨o,ho,fun name=>?_⟩;have e:=hm name;unfold nsFind findBy at e;rw[<-Array.find?_toList]at e;unfold PySem.W.lookIn;rw[hd];dsimp only;split
 .rename_i y q;rw[q]at e;exact congrArg some e
 .rename_i q;rw[q]at e;have a:es.toList.any (·.refKey)=false:=by
   rw[List.any_eq_false];intro y hy;obtain⟨z,t,hkey⟩:=hk y (Array.mem_toList_iff.mp hy);simp[DictEntry.refKey,hkey]
  have a':¬es.toList.any (·.refKey)=true:=by rw[a];exact BB
  rw[AK a'];exact congrArg some e
theorem ObjM.look{h:Heap}{x dx C:Addr}{mA:Str->Option Value}(I:ObjM h x dx C mA):∃od,PySem.W.InstAt h x (PySem.W.instObj C dx) C (some od)/\∀name,PySem.W.lookIn name od=some (mA name) :=
 let⟨od,ho,hl⟩:=Md I.ns
 ⟨od,⟨I.obj,rfl,rfl,ho⟩,hl⟩
section
variable{prog:Program}{w:World}{A:Around}{E:Value->Shared->Prop}{s:Shared}{K:PySem.W.Frag}{x dx C f:Addr}{mA:Str->Option Value}{name:Str}{v:Value}
theorem Wc{expr:Bool}{Q:Value->Shared->Prop}(X:K.In s.heap)(I:ObjM s.heap x dx C mA)(hg:PySem.W.plainGet K C name=true)(hh:PySem.W.hasDictIn K C=true)
  (ha:PySem.W.findIn K (.ref C) name=some none) (hv:mA name=some v) (hv':PySem.W.handedIn v=true) (h:Q v { s with toks:=s.toks+1 }) :
  wpAny (model prog w) A (getAttr (.ref x) name expr) Q E s:=by
 obtain⟨od,J,hl⟩:=I.look;exact PySem.W.get_value X J (PySem.W.plainGet_of hg).1 (PySem.W.findObj_own hh ha rfl (by rw[hl,hv])) hv' h
theorem Uf{pl:Sem Bool}{Q:Value×List Value->Shared->Prop}(X:K.In s.heap)(I:ObjM s.heap x dx C mA)(hg:PySem.W.plainGet K C name=true)
  (hf:PySem.W.findIn K (.ref C) name=some (some (.ref f))) (ht:PySem.W.isFn K (.ref f)=true) (hv:mA name=none) (h:Q (.ref f,[.ref x]) s) :
  wpAny (model prog w) A (getMethod (.ref x) name pl) Q E s:=by
 obtain⟨od,J,hl⟩:=I.look;exact PySem.W.method_fn X J (PySem.W.plainGet_of hg).1 (PySem.W.plainGet_of hg).2 hf (beq_iff_eq.mp ht) (by show(PySem.W.lookIn name od).map (·.isSome)=some false;rw[hl,hv];rfl) h
theorem Yd{ns:List Str}{Q:Unit->Shared->Prop}(X:K.In s.heap)(I:ObjM s.heap x dx C mA)
  (hs:PySem.W.findIn K (.ref C) "__setattr__" = some (some (.builtin "object.__setattr__"))) (hp:PySem.W.plainOver K C=true) (ht:PySem.W.takerIn K C name=some none) (hh:PySem.W.hasDictIn K C=true)
  (hw:PySem.Within mA ns) (hsz:ns.length<=sizeLine)
  (h:∀h',ObjM h' x dx C (fun y=>if y=name then some v else mA y)->Heap.SameBut dx s.heap h'->Q () { s with heap:=h',toks:=s.toks+2 }) :
  wpAny (model prog w) A (setAttr (.ref x) name v) Q E s:=by
 obtain⟨od,J,hl⟩:=I.look;refine PySem.W.set_plain X J hs (PySem.W.osa_open (s:={ s with toks:=s.toks+1 }) (r:=none) X J hp ht fun b=>?_);obtain⟨cd,hc,hd'⟩:=PySem.W.any_some hh;have hx:s.heap.get? x=some ⟨.ref C,some dx,.plain,#[]⟩:=I.obj;refine AA (AD (AA (AA (wpAny_loadPart hx (AA (PySem.W.Looks.here (s:={ s with toks:=s.toks+1 }) (PySem.W.looks_clsIn X hc) ?_))))));rw[hd'];refine AD (a:=some dx) (AA (AD (AA ?_)));refine wpAny_nsSet1 (s:={ s with toks:=s.toks+1 }) I.ns fun h' hn2 hs2=>?_;obtain⟨oD,esD,epD,hoD,hdD,hcD⟩:=hn2.count (PySem.Within.cons name v hw);refine AA (wpAny_lookBehind hoD (by rw[hdD];exact pastItsLine_dict (Nat.le_trans hcD (by rw[BL];omega))) ?_);exact AD (h _ ⟨(hs2.2 _ (Ne.symm I.ne)).trans I.obj,hn2,I.ne⟩ hs2)
theorem Rs{R:Result->Shared->Prop}{vs:List Value}{kw:List (Str×Value)}(X:K.In s.heap)(hm:PySem.W.makesIn K C=true)
  (hi:PySem.W.findIn K (.ref C) "__init__" = some (some (.ref f))) (hf:PySem.W.typeIn K (.ref f)=some (.type "function"))
  (h:codeAny (model prog w) (A.under (.builtin "type.__call__" ⟨.ref C::vs,kw⟩)) (.call (.ref f) ⟨.ref (s.heap.objs.size+1)::vs,kw⟩) (PySem.W.InitBack (s.heap.objs.size+1) R)
   { s with heap:=(s.heap.push PySem.W.emptyDict).push (PySem.W.instObj C s.heap.objs.size) }) :
  codeAny (model prog w) A (.call (.ref C) ⟨vs,kw⟩) R s:=by
 obtain⟨hh,g,d,t,os⟩:=s;exact PySem.W.make_core (PySem.W.makes_of X hm) (PySem.W.looks_findIn X hi) (fun self=>PySem.W.bind_fn X self hf) (.inl rfl) h
end
def J4(f:Str)(v:V):List (Str×V)->List (Str×V)
 | []=>[(f,v)]
 | (g,x)::r=>if g=f then(g,v)::r else(g,x)::J4 f v r
theorem v9(f g:Str)(v:V):∀fs:List (Str×V),(J4 f v fs).lookup g=if g=f then some v else fs.lookup g
 | []=>by
  show List.lookup g [(f,v)]=_;by_cases h:g=f
  .have hb:(g == f)=true:=beq_iff_eq.mpr h;simp only[List.lookup,hb,AO h]
  .have hb:(g == f)=false:=beq_eq_false_iff_ne.mpr h;simp only[List.lookup,hb,AK h]
 | (k,x)::r=>by
  have ih:=v9 f g v r;rw[show J4 f v ((k,x)::r) =(if k=f then(k,v)::r else(k,x)::J4 f v r)from rfl];by_cases hk:k=f
  .rw[AO hk];by_cases h:g=k
   .have hb:(g == k)=true:=beq_iff_eq.mpr h;simp only[List.lookup,hb,AO (h.trans hk)]
   .have hb:(g == k)=false:=beq_eq_false_iff_ne.mpr h;simp only[List.lookup,hb,AK (fun e:g=f=>h (e.trans hk.symm))]
  .rw[AK hk];by_cases h:g=k
   .have hb:(g == k)=true:=beq_iff_eq.mpr h;simp only[List.lookup,hb,AK (fun e:g=f=>hk (h.symm.trans e))]
   .have hb:(g == k)=false:=beq_eq_false_iff_ne.mpr h;simp only[List.lookup,hb];exact ih
theorem i9(f:Str)(v:V):∀fs:List (Str×V),f∈(J4 f v fs).map (·.1)/\∀g,g∈fs.map (·.1)->g∈(J4 f v fs).map (·.1)
 | []=>⟨by simp[J4],fun g h=>by simp at h⟩
 | (k,x)::r=>by
  obtain⟨i1,i2⟩:=i9 f v r;rw[show J4 f v ((k,x)::r) =(if k=f then(k,v)::r else(k,x)::J4 f v r)from rfl];by_cases hk:k=f
  .rw[AO hk];subst hk;exact⟨by simp,fun g h=>by simpa using h⟩
  .rw[AK hk];refine⟨?_,fun g h=>?_⟩
   .rw[AW];exact AX _ i1
   .rw[AW]at h⊢;rcases AV.mp h with e | e
    .exact AV.mpr (.inl e)
    .exact AX _ (i2 g e)
theorem l8(f:Str)(v:V):∀fs:List (Str×V),(J4 f v fs).length<=fs.length+1
 | []=>by simp[J4]
 | (k,x)::r=>by
  have ih:=l8 f v r;rw[show J4 f v ((k,x)::r) =(if k=f then(k,v)::r else(k,x)::J4 f v r)from rfl];by_cases hk:k=f
  .rw[AO hk,BL,BL];omega
  .rw[AK hk,BL,BL];omega
theorem RelO.some_of{v:V}{o:Option Value}(r:RelO (some v) o):∃u,o=some u/\RelV v u:=by
 cases o with
 | none=>exact(show False from r).elim
 | some u=>exact⟨u,rfl,r⟩
theorem RelO.none_of{o:Option Value}(r:RelO none o):o=none:=by
 cases o with
 | none=>rfl
 | some u=>exact(show False from r).elim
theorem Qo{v:V}{u:Value}(r:RelV v u):PySem.W.handedIn u=true:=by
 cases v with
 | non=>cases(show u=Value.none from r);rfl
 | bl b=>cases(show u=Value.bool b from r);rfl
 | int i=>obtain⟨t,e⟩:=(show ∃t,u=Value.int i t from r);cases e;rfl
 | str x=>obtain⟨t,e⟩:=(show ∃t,u=Value.str x t from r);cases e;rfl
 | byt b=>obtain⟨t,e⟩:=(show ∃t,u=Value.bytes b t from r);cases e;rfl
 | flt b=>obtain⟨t,e⟩:=(show ∃t,u=Value.float b t from r);cases e;rfl
 | ref a=>cases(show u=Value.ref a from r);rfl
 | ty n=>cases(show u=Value.type n from r);rfl
section
variable{P:Program}{w:World}{H H':Hp}{h h':Heap}{a C dx:Addr}{fs fs':List (Str×V)}
theorem Cn(hok:HOk P w H h)(e:H a=some (.ins C dx fs)):∃mA,ObjM h a dx C mA/\(∀f,RelO (fs.lookup f) (mA f))/\PySem.Within mA (fs.map (·.1))/\fs.length<=1000/\H dx=some (.own a):=by
 obtain⟨d,z,ne,ob,mA,n,r,q⟩:=(show ObjOk P w H h a (.ins C dx fs)from hok a _ e);exact⟨mA,⟨ob,n,ne⟩,r,q,z,d⟩
end
structure Cls(K:PySem.W.Frag)(C:Addr):Prop where
 pg:PySem.W.plainGet K C Str.empty=true
 hd:PySem.W.hasDictIn K C=true
 po:PySem.W.plainOver K C=true
 sa:PySem.W.findIn K (.ref C) "__setattr__" = some (some (.builtin "object.__setattr__"))
theorem Cls.get{K:PySem.W.Frag}{C:Addr}(c:Cls K C)(f:Str):PySem.W.plainGet K C f=true:=c.pg
def NoAttr(K:PySem.W.Frag)(C:Addr)(f:Str):Prop:=PySem.W.findIn K (.ref C) f=some none
theorem NoAttr.taker{K:PySem.W.Frag}{C:Addr}{f:Str}(n:NoAttr K C f):PySem.W.takerIn K C f=some none:=by
 unfold PySem.W.takerIn;rw[show PySem.W.findIn K (.ref C) f=some none from n];rfl
structure Meth(K:PySem.W.Frag)(C:Addr)(m:Str)(f:Addr):Prop where
 at_:PySem.W.findIn K (.ref C) m=some (some (.ref f))
 fn:PySem.W.isFn K (.ref f)=true
 kp:PySem.W.keepIn K (.ref f)=true
section
variable{X:Cx}{pins:List (Addr×Obj)}{σ:St}{H:Hp}{s:Shared}{a C dx:Addr}{fs:List (Str×V)}{f:Str}{v:V}{A:Around}{E:Value->Shared->Prop}
theorem Kz{b:Bool}{Q:Value->Shared->Prop}(I:Inv X pins σ H s)(e:H a=some (.ins C dx fs))(c:Cls X.K C)(n:NoAttr X.K C f)(l:fs.lookup f=some v)
  (h:∀u s',Inv X pins σ H s'->RelV v u->Q u s'):wpAny (model X.prog X.w) A (getAttr (.ref a) f b) Q E s:=by
 obtain⟨mA,O,r,_,_,_⟩:=Cn I.hok e;obtain⟨u,hu,ru⟩:=RelO.some_of (v:=v) (o:=mA f) (by rw[<-l];exact r f);exact Wc I.kIn O (c.get f) c.hd n hu (Qo ru) (h u _ (I.tok _) ru)
theorem Ad{m:Str}{g:Addr}{pl:Sem Bool}{Q:Value×List Value->Shared->Prop}(I:Inv X pins σ H s)(e:H a=some (.ins C dx fs))(c:Cls X.K C)(k:Meth X.K C m g)(l:fs.lookup m=none)
  (h:Q (.ref g,[.ref a]) s):wpAny (model X.prog X.w) A (getMethod (.ref a) m pl) Q E s:=by
 obtain⟨mA,O,r,_,_,_⟩:=Cn I.hok e;have hn:mA m=none:=RelO.none_of (by rw[<-l];exact r m);exact Uf I.kIn O (c.get m) k.at_ k.fn hn h
theorem Kk{y:V}{u:Value}{Q:Unit->Shared->Prop}(I:Inv X pins σ H s)(e:H a=some (.ins C dx fs))(c:Cls X.K C)(n:NoAttr X.K C f)(hl:fs.length<1000)(ry:RelV y u)
  (h:∀s',Inv X pins σ (upd H a (.ins C dx (J4 f y fs))) s'->Q () s'):wpAny (model X.prog X.w) A (setAttr (.ref a) f u) Q E s:=by
 obtain⟨mA,O,r,wi,_,ho⟩:=Cn I.hok e;have hz:(fs.map (·.1)).length<=sizeLine:=by rw[AB,sizeLine_eq];omega
 refine Yd I.kIn O c.sa c.po n.taker c.hd wi hz fun h' O' sb=>h _ ?_;have hd:∃o,h'.get? dx=some o:=let⟨o,_,_,e',_⟩:=O'.ns;⟨o,e'⟩;refine I.write (x:=a) (e:=dx) (by rw[e];exact True.intro) (.inr ho) (fun b q hb z=>(sb.2 b hb).trans z) hd ?_;refine⟨by rw[B5 O.ne];exact ho,?_,O.ne,O'.obj,_,O'.ns,fun g=>?_,fun g hg=>?_⟩
 .have:=l8 f y fs;omega
 .show RelO ((J4 f y fs).lookup g) (if g=f then some u else mA g);rw[v9];by_cases q:g=f
  .rw[AO q,AO q];exact ry
  .rw[AK q,AK q];exact r g
 .by_cases q:g=f
  .rw[q];exact(i9 f y fs).1
  .refine(i9 f y fs).2 g (wi g fun z=>hg ?_);show(if g=f then some u else mA g)=none;rw[AK q];exact z
theorem Inv.made(I:Inv X pins σ H s):Inv X pins σ (upd (upd H s.heap.objs.size (.own (s.heap.objs.size+1))) (s.heap.objs.size+1) (.ins C s.heap.objs.size []))
  { s with heap:=(s.heap.push PySem.W.emptyDict).push (PySem.W.instObj C s.heap.objs.size) }:=by
 have e1:(s.heap.push PySem.W.emptyDict).get? s.heap.objs.size=some PySem.W.emptyDict:=AM s.heap rfl;have e2:((s.heap.push PySem.W.emptyDict).push (PySem.W.instObj C s.heap.objs.size)).get? (s.heap.objs.size+1)=some (PySem.W.instObj C s.heap.objs.size):=by
  have:=AM (s.heap.push PySem.W.emptyDict) (o:=PySem.W.instObj C s.heap.objs.size) rfl
  rwa [DK]at this
 have e3:(s.heap.push PySem.W.emptyDict).Ns s.heap.objs.size (fun _=>none):=⟨PySem.W.emptyDict,#[],_,e1,rfl,(fun e he=>absurd he (by simp)),fun _=>rfl⟩;have I1:=I.laid (a:=s.heap.objs.size) (o:=.own (s.heap.objs.size+1)) (h':=s.heap.push PySem.W.emptyDict) (t':=s.toks) (fun b u q=>AE _ q) (Nat.le_refl _) ⟨_,e1⟩;refine I1.laid (a:=s.heap.objs.size+1) (o:=.ins C s.heap.objs.size []) (t':=s.toks) (fun b u q=>AE _ q) (Nat.le_of_eq (DK _ _)) ?_;have ne:s.heap.objs.size≠s.heap.objs.size+1:=A_ (FM _);refine⟨by rw[B5 ne,A7],CD _,ne,e2,fun _=>none,(Heap.Ns1.of_empty e3).at fun o q=>AE _ q,fun _=>True.intro,fun y hy=>absurd rfl hy⟩
theorem Vz{prog:Program}{w:World}{env:Env}{e:Expr}{f:Str}{pos:Pos}{s:Shared}{Q:Value->Shared->Prop}(hb:attributeBase e f env (eval e env)=eval e env)
  (h:wpAny (model prog w) A (eval e env) (fun o s₁=>wpAny (model prog w) A (getAttr o f true) Q E s₁) E s):wpAny (model prog w) A (eval (.Attribute e f pos) env) Q E s :=
 Attribute_any_ h (by rw[arm_eval_Attribute,hb])
end
def zEy(K:PySem.W.Frag)(ta:TE)(f:Str):TE:=fun σ H Q=>ta σ H fun x H1=>∃a C dx fs v,x = .ref a/\H1 a=some (.ins C dx fs)/\Cls K C/\NoAttr K C f/\fs.lookup f=some v/\Q v H1
def zEu(K:PySem.W.Frag)(ta tv:TE)(f:Str):TS:=fun D σ H=>tv σ H fun y H1=>ta σ H1 fun x H2=>∃a C dx fs,x = .ref a/\H2 a=some (.ins C dx fs)/\Cls K C/\NoAttr K C f/\fs.length<1000 /\
 D.nx σ (upd H2 a (.ins C dx (J4 f y fs)))
section
variable{X:Cx}{o e value:Expr}{f:Str}{pos pos' tpos:Pos}{ta tv:TE}
theorem zAj(he:PE X e ta)(hb:attributeBase e f X.env (eval e X.env)=eval e X.env):PE X (.Attribute e f pos) (zEy X.K ta f):=by
 intro pins s σ H Q I h;refine Vz hb (thn (he pins s σ H _ I h) fun u s1 ⟨x,H1,I1,rx,a,C,dx,fs,v,ex,ea,c,n,l,q⟩=>?_);subst ex;obtain rfl:u=Value.ref a:=rx;exact Kz I1 ea c n l fun u' s2 I2 ru=>⟨v,H1,I2,ru,q⟩
theorem Zr(ha:PE X o ta)(hv:PE X value tv)(hs:swapsWith value (some (.Attribute o f pos')) pos.line X.env=pure false):PS X (.Assign [.Attribute o f pos'] value pos) (zEu X.K ta tv f):=by
 intro pins s σ H D I h;refine plainObj_wpAny_Assign_Attribute (thn (hv pins s σ H _ I h) fun u s1 ⟨y,H1,I1,ry,q⟩=>thn (ha pins s1 σ H1 _ I1 q) fun ov s2 ⟨x,H2,I2,rx,a,C,dx,fs,ex,ea,c,n,l,q2⟩=>?_) hs;subst ex;obtain rfl:ov=Value.ref a:=rx;exact Kk I2 ea c n l ry fun s3 I3=>⟨σ,_,I3,q2⟩
end
section
variable{X:Cx}{pins:List (Addr×Obj)}{σ:St}{H:Hp}{s:Shared}{A:Around}{E:Value->Shared->Prop}{Q:Value->Shared->Prop}{c:Value}{b:Bool}
inductive TyOf(K:PySem.W.Frag)(H:Hp):V->Value->Prop where
 | non:TyOf K H .non (.type "NoneType")
 | bl (x:Bool):TyOf K H (.bl x) (.type "bool")
 | int (i:Int):TyOf K H (.int i) (.type "int")
 | str (x:Str):TyOf K H (.str x) (.type "str")
 | flt (x:UInt64):TyOf K H (.flt x) (.type "float")
 | lst {a:Addr} {xs:List V} (e:H a=some (.lst xs)):TyOf K H (.ref a) (.type "list")
 | frz {a:Addr} {o:Obj} {xs:List V} (e:H a=some (.frz o (.lst xs))):TyOf K H (.ref a) (.type "list")
 | tup {a:Addr} {xs:List V} (e:H a=some (.tup xs)):TyOf K H (.ref a) (.type "tuple")
 | dK {a:Addr} {kvs:List (Key×V)} (e:H a=some (.dK kvs)):TyOf K H (.ref a) (.type "dict")
 | dT {a:Addr} {kvs:List (List Key×V)} (e:H a=some (.dT kvs)):TyOf K H (.ref a) (.type "dict")
 | ins {a C dx:Addr} {fs:List (Str×V)} (e:H a=some (.ins C dx fs)) (cl:Cls K C) (ha:PySem.W.findIn K (.ref C) "__class__" = some (some (.builtin "object.__class__")))
   (hn:PySem.W.specialIn K (.builtin "object.__class__") "__get__" = some (some (.builtin "getset_descriptor.__get__"))) (htk:PySem.W.takesIn K (.builtin "object.__class__")=some true)
   (hm:PySem.W.mroIn K C (.type "object")=some true):TyOf K H (.ref a) (.ref C)
theorem Ov{x:V}{u t:Value}(I:Inv X pins σ H s)(rx:RelV x u)(ty:TyOf X.K H x t)(e:PySem.W.kitOne X.K t c=some b)(h:∀tk,Q (.bool b) { s with toks:=tk }) :
  wpAny (model X.prog X.w) A (call (.builtin "isinstance") [u,c]) Q E s:=by
 cases ty with
 | non=>cases(show u=Value.none from rx);exact PySem.W.kia_one PySem.W.kitx_none I.kIn True.intro e (fun z=>nomatch z) h
 | bl y=>cases(show u=Value.bool y from rx);exact PySem.W.kia_one PySem.W.kitx_bool I.kIn True.intro e (fun z=>nomatch z) h
 | int i=>obtain⟨t,q⟩:=(show ∃t,u=Value.int i t from rx);cases q;exact PySem.W.kia_one PySem.W.kitx_int I.kIn True.intro e (fun z=>nomatch z) h
 | str y=>obtain⟨t,q⟩:=(show ∃t,u=Value.str y t from rx);cases q;exact PySem.W.kia_one PySem.W.kitx_str I.kIn True.intro e (fun z=>nomatch z) h
 | flt y=>obtain⟨t,q⟩:=(show ∃t,u=Value.float y t from rx);cases q;exact PySem.W.kia_one PySem.W.kitx_float I.kIn True.intro e (fun z=>nomatch z) h
 | @lst a xs ea =>
  cases(show u=Value.ref a from rx);obtain⟨_,_,n,_,h1⟩:=(show ObjOk X.prog X.w H s.heap a (.lst xs)from I.hok a _ ea);exact PySem.W.kia_one PySem.W.kitx_list I.kIn ⟨_,h1,rfl⟩ e (fun z=>nomatch z) h
 | @frz a ob xs ea =>
  cases(show u=Value.ref a from rx);obtain⟨_,_,_,n,_,h1⟩:=(show ObjOk X.prog X.w H s.heap a (.frz ob (.lst xs))from I.hok a _ ea);exact PySem.W.kia_one PySem.W.kitx_list I.kIn ⟨_,h1,rfl⟩ e (fun z=>nomatch z) h
 | @tup a xs ea =>
  cases(show u=Value.ref a from rx);obtain⟨_,_,_,p⟩:=(show ObjOk X.prog X.w H s.heap a (.tup xs)from I.hok a _ ea);obtain⟨o,h1,h2,_⟩:=p;exact PySem.W.kia_one PySem.W.kitx_tuple I.kIn ⟨o,h1,h2⟩ e (fun z=>nomatch z) h
 | @dK a kvs ea =>
  cases(show u=Value.ref a from rx);obtain⟨_,_,vs,_,p⟩:=(show ObjOk X.prog X.w H s.heap a (.dK kvs)from I.hok a _ ea);obtain⟨o,es,ep,h1,h2,_⟩:=p;exact PySem.W.kia_one PySem.W.kitx_dict I.kIn ⟨o,h1,h2.1⟩ e (fun z=>nomatch z) h
 | @dT a kvs ea =>
  cases(show u=Value.ref a from rx);obtain⟨_,_,xs,_,o,es,ep,h1,h2,_⟩:=(show ObjOk X.prog X.w H s.heap a (.dT kvs)from I.hok a _ ea);exact PySem.W.kia_one PySem.W.kitx_dict I.kIn ⟨o,h1,h2.1⟩ e (fun z=>nomatch z) h
 | @ins a C dx fs ea cl ha hn htk hm =>
  cases(show u=Value.ref a from rx);obtain⟨mA,O,_⟩:=Cn I.hok ea;obtain⟨od,J,_⟩:=O.look;exact PySem.W.kia_one (PySem.W.kitx_own (cl.get _) cl.hd ha hn htk hm) I.kIn J e (fun z=>nomatch z) h
end
structure Room(k:Nat)(A:Around):Prop where
 hd:A.handled=none
 dp:A.depth+3*k+5<recursionLimit
 un:A.units+16*k+200<cLine
theorem Room.mono{j k:Nat}{A:Around}(r:Room k A)(h:j<=k):Room j A:=⟨r.hd,by have:=r.dp;omega,by have:=r.un;omega⟩
theorem Room.deeper{k:Nat}{A:Around}(r:Room (k+1) A)(env:Env):Room k (A.deeper env) :=
 ⟨r.hd,by have:=r.dp;show A.depth+1+3*k+5<_;omega,by have:=r.un;show A.units+3+16*k+200<_;omega⟩
theorem Kq{A:Around}{C:Addr}{us:List Value}{kw:List (Str×Value)}:(A.under (.builtin "type.__call__" ⟨.ref C::us,kw⟩)).depth=A.depth+1:=by
 first | rfl | simp[Around.under,Code.weight,Code.isCreation,Code.isGuard,Code.isCaller,Code.frames,Code.isFrame,guardIds]
theorem Ln{A:Around}{C:Addr}{us:List Value}{kw:List (Str×Value)}:(A.under (.builtin "type.__call__" ⟨.ref C::us,kw⟩)).units=A.units+1:=by
 first | rfl | simp[Around.under,Code.cUnits,Code.frames,Code.isFrame]
theorem Room.make{k:Nat}{A:Around}(r:Room (k+1) A)(C:Addr)(us:List Value)(kw:List (Str×Value)):Room k (A.under (.builtin "type.__call__" ⟨.ref C::us,kw⟩)) :=
 ⟨r.hd,by have:=r.dp;rw[Kq];omega,by have:=r.un;rw[Ln];omega⟩
theorem Room.depth{k:Nat}{A:Around}(r:Room k A):A.depth<recursionLimit:=by have:=r.dp;omega
theorem Room.units{k:Nat}{A:Around}(r:Room k A):A.units+64<cLine:=by have:=r.un;omega
def Cr:TA:=fun _ H Q=>Q [] H
def K1(ta:TE)(tr:TA):TA:=fun σ H Q=>ta σ H fun x H1=>tr σ H1 fun xs H2=>Q (x::xs) H2
section
variable{X:Cx}{e:Expr}{es:List Expr}{te:TE}{t:TA}{pos:Pos}
theorem A8:PA X [] Cr:=fun _ _ _ _ H Q I h=>Calls.spliced_nil ⟨[],H,I,.nil,h⟩
theorem A6(ha:PE X e te)(hr:PA X es t)(hs:starEach (e::es) X.env =(false,eval e X.env)::starEach es X.env:=by rfl):PA X (e::es) (K1 te t):=by
 intro pos pins s σ H Q I h;rw[hs];show wpAny _ _ (spliced ((false,eval e X.env)::backTo pos (starEach es X.env))) _ _ s;refine Calls.spliced_cons (thn (ha pins s σ H _ I h) fun u s1 ⟨x,H1,I1,r1,q1⟩=>?_);exact thn (hr pos pins s1 σ H1 _ I1 q1) fun us s2 ⟨xs,H2,I2,r2,q2⟩=>⟨x::xs,H2,I2,.cons r1 r2,q2⟩
def Ur(t:TA):TE:=fun σ H Q=>t σ H fun xs H1=>xs.length<=sizeLine/\∀p,H1 p=none->Q (.ref p) (upd H1 p (.tup xs))
def Om(t:TA):TE:=fun σ H Q=>t σ H fun xs H1=>xs.length<=sizeLine/\∀p,H1 p=none->Q (.ref p) (upd H1 p (.lst xs))
theorem C2{x1}(h:PA X es t):PE X (.Tuple es x1 pos) (Ur t):=by
 intro pins s σ H Q I hq;refine wpAny_Tuple_spliced (thn (h pos pins s σ H _ I hq) fun us s1 ⟨xs,H1,I1,r,z,q⟩=>⟨by rw[<-r.length];exact z,?_⟩);have hf:H1 s1.heap.objs.size=none:=I1.hok.fresh (Nat.le_refl _);refine⟨.ref s1.heap.objs.size,upd H1 s1.heap.objs.size (.tup xs),I1.laid (t':=s1.toks) (fun b u e=>AE _ e) (Nat.le_refl _) ?_,rfl,q _ hf⟩;exact⟨z,us,r,⟨_,AM _ rfl,rfl,_,rfl⟩⟩
theorem D0(h:PA X es t):PE X (.List es pos) (Om t):=by
 intro pins s σ H Q I hq;refine wpAny_List_spliced (thn (h pos pins s σ H _ I hq) fun us s1 ⟨xs,H1,I1,r,z,q⟩=>⟨by rw[<-r.length];exact z,?_⟩);have hf:H1 s1.heap.objs.size=none:=I1.hok.fresh (Nat.le_refl _);refine⟨.ref s1.heap.objs.size,upd H1 s1.heap.objs.size (.lst xs),I1.laid (t':=s1.toks) (fun b u e=>AE _ e) (Nat.le_refl _) ?_,rfl,q _ hf⟩;exact⟨z,us,0,r,AM _ rfl⟩
end
abbrev Sp:=List V->Hp->VK->XK->Prop
abbrev CXT:=List Env->Hp->Shared->XK->Value->Shared->Prop
structure Env0(P:Program)(w:World)(K:PySem.W.Frag)(mg:Str->Option Value)(base:Heap)(A:Around)(outer:List Env)(s:Shared)(H:Hp):Prop where
 frames:A.frames=some outer
 mod:Mod K mg base
 bs:∀b o,base.get? b=some o->s.heap.get? b=some o/\H b=none
 bsz:base.objs.size<=s.heap.objs.size
 funs:s.heap.FunFrames base outer
 frf:∀b∈frs outer,H b=none
 hok:HOk P w H s.heap
 bare:AllBare s.gens
def CE(outer:List Env)(P:Program)(w:World)(H:Hp)(s:Shared)(Q:VK)(u:Value)(s':Shared):Prop :=
 ∃v H',s'.os=s.os/\AllBare s'.gens/\Un (frs outer) [] H H' s.heap s'.heap/\HOk P w H' s'.heap/\RelV v u/\Q v H'
def CR(CX:CXT)(outer:List Env)(P:Program)(w:World)(H:Hp)(s:Shared)(Q:VK)(E:XK)(r:Result)(s':Shared):Prop :=
 match r with
 | .ok (.ret u)=>CE outer P w H s Q u s'
 | .ok _=>False
 | .error e=>CX outer H s E e s'
structure FnOk(P:Program)(w:World)(K:PySem.W.Frag)(mg:Str->Option Value)(base:Heap)(CX:CXT)(k:Nat)(f:Addr)(fd:FuncData)(ps:List Str)(sp:Sp):Prop where
 len:∀vs H Q E,sp vs H Q E->vs.length=ps.length
 run:∀(A:Around) (outer:List Env) (s:Shared) (H:Hp) (args:Args) (us:List Value) (vs:List V) (Q:VK) (E:XK),Room k A->Env0 P w K mg base A outer s H->BindsTo s fd args (ps.zip us)->Vals vs us->sp vs H Q E ->
  codeAny (model P w) A (.call (.ref f) args) (CR CX outer P w H s Q E) s
theorem FnOk.mono{P:Program}{w:World}{K:PySem.W.Frag}{mg:Str->Option Value}{base:Heap}{CX:CXT}{j k:Nat}{f:Addr}{fd:FuncData}{ps:List Str}{sp:Sp}(F:FnOk P w K mg base CX j f fd ps sp)(h:j<=k) :
  FnOk P w K mg base CX k f fd ps sp:=⟨F.len,fun A outer s H args us vs Q E hr=>F.run A outer s H args us vs Q E (hr.mono h)⟩
theorem FnOk.imp{P:Program}{w:World}{K:PySem.W.Frag}{mg:Str->Option Value}{base:Heap}{CX:CXT}{k:Nat}{f:Addr}{fd:FuncData}{ps:List Str}{sp sp':Sp}(F:FnOk P w K mg base CX k f fd ps sp)
  (h:∀vs H Q E,sp' vs H Q E->sp vs H Q E):FnOk P w K mg base CX k f fd ps sp' :=
 ⟨fun vs H Q E q=>F.len vs H Q E (h _ _ _ _ q),fun A outer s H args us vs Q E hr he hb hv hs=>F.run A outer s H args us vs Q E hr he hb hv (h _ _ _ _ hs)⟩
theorem Env0.make{P:Program}{w:World}{K:PySem.W.Frag}{mg:Str->Option Value}{base:Heap}{A:Around}{outer:List Env}{s:Shared}{H:Hp}(e:Env0 P w K mg base A outer s H)(C:Addr)(us:List Value)(kw:List (Str×Value)) :
  Env0 P w K mg base (A.under (.builtin "type.__call__" ⟨.ref C::us,kw⟩)) outer s H:=⟨by first | exact e.frames | (simpa [Around.under,Code.envs,Code.isFrame,pushEnvs] using e.frames),e.mod,e.bs,e.bsz,e.funs,e.frf,e.hok,e.bare⟩
section
variable{X:Cx}{pins:List (Addr×Obj)}{σ:St}{H:Hp}{s s':Shared}
theorem Inv.env0(I:Inv X pins σ H s):Env0 X.prog X.w X.K X.mg X.base X.A X.stack s H :=
 ⟨I.ok.frames,I.ok.mod,I.bs,Nat.le_trans I.ok.bsz I.sz,I.stack,I.stkFree,I.hok,I.bare⟩
theorem Inv.after{Q:VK}{u:Value}(I:Inv X pins σ H s)(h:CE X.stack X.prog X.w H s Q u s'):EP X pins σ Q u s':=by
 obtain⟨v,H',os,bare,un,hok,r,q⟩:=h;obtain⟨hh,g,d,t,os'⟩:=s';obtain rfl:os'=s.os:=os;exact⟨v,H',I.call (h':=hh) (g':=g) (d':=d) (t':=t) (ch:=[]) un hok bare (fun b z=>absurd z (by simp)),r,q⟩
end
def Lg(sp:Sp)(dvs:List V)(E:XK)(t:TA):TE:=fun σ H Q=>t σ H fun vs H1=>sp (vs++dvs) H1 Q E
def zAl(C:Addr)(m:Str)(sp:Sp)(dvs:List V)(E:XK)(ta:TE)(t:TA):TE:=fun σ H Q=>ta σ H fun x H1=>∃a dx fs,x = .ref a/\H1 a=some (.ins C dx fs)/\fs.lookup m=none /\
 t σ H1 fun vs H2=>sp (x ::(vs++dvs)) H2 Q E
def zEb(C:Addr)(sp:Sp)(dvs:List V)(E:XK)(t:TA):TE:=fun σ H Q=>t σ H fun vs H1=>∀x dx,H1 x=none->H1 dx=none->dx≠x ->
 sp (.ref x ::(vs++dvs)) (upd (upd H1 dx (.own x)) x (.ins C dx [])) (fun v H2=>v = .non/\Q (.ref x) H2) E
def Binds(K:PySem.W.Frag)(fd:FuncData)(ps:List Str)(ds:List Value):Prop :=
 ∀(s:Shared) (us:List Value),K.In s.heap->(us++ds).length=ps.length->BindsTo s fd ⟨us,[]⟩ (ps.zip (us++ds))
theorem Binds.all{K:PySem.W.Frag}{fd:FuncData}{ps:List Str}(h:∀us:List Value,us.length=ps.length->bindArgs fd ⟨us,[]⟩=pure (ps.zip us)):Binds K fd ps []:=fun s us _ hl=>by
 rw[DA]at hl⊢;exact .of_eq (h us hl)
def S2(CX:CXT)(X:Cx)(E:XK):Prop:=∀(pins:List (Addr×Obj)) (σ:St) (H:Hp) (s:Shared) (e:Value) (s':Shared),Inv X pins σ H s->CX X.stack H s E e s'->X.xe e s'
section
variable{X:Cx}{CX:CXT}{k:Nat}{f C:Addr}{fd:FuncData}{ps:List Str}{sp:Sp}{dvs:List V}{ds:List Value}{E:XK}{x m:Str}{p pos apos:Pos}{e o:Expr}{es:List Expr}{ta:TE}{t:TA}
theorem Fg{pins:List (Addr×Obj)}{σ:St}{H:Hp}{s:Shared}{Q:VK}{us:List Value}{vs:List V}(F:FnOk X.prog X.w X.K X.mg X.base CX k f fd ps sp)(hr:Room k X.A)(hb:Binds X.K fd ps ds)(hd:Vals dvs ds)(hx:S2 CX X E)
  (I:Inv X pins σ H s) (r:Vals vs us) (h:sp (vs++dvs) H Q E):wpAny (model X.prog X.w) X.A (call (.ref f) us) (EP X pins σ Q) X.xe s:=by
 have r2:Vals (vs++dvs) (us++ds):=r.append hd;have hl:(us++ds).length=ps.length:=by rw[<-r2.length];exact F.len _ _ _ _ h
 refine IJ (H_ (F.run X.A X.stack s H ⟨us,[]⟩ (us++ds) (vs++dvs) Q E hr I.env0 (hb s us I.kIn hl) r2 h) fun r s' hq=>?_);cases r with
 | error e=>exact hx pins σ H s e s' I hq
 | ok fl =>
  cases fl with
  | ret u=>exact I.after hq
  | next=>exact False.elim hq
  | brk=>exact False.elim hq
  | cont=>exact False.elim hq
theorem Oy(F:FnOk X.prog X.w X.K X.mg X.base CX k f fd ps sp)(hr:Room k X.A)(hg:Gl X x)(hm:X.mg x=some (.ref f))(hk:PySem.W.keepIn X.K (.ref f)=true)(hb:Binds X.K fd ps ds)(hd:Vals dvs ds)(hx:S2 CX X E)
  (ha:PA X (e::es) t) (hdb:(x ==("__debug__":Str))=false:=by decide) (he:starEach (e::es) X.env =(false,eval e X.env)::starEach es X.env:=by rfl) (hpl:(backTo pos (starEach es X.env)).any (·.1)=false:=by rfl) :
  PE X (.Call (.Name x p) (e::es) [] pos) (Lg sp dvs E t):=by
 intro pins s σ H Q I h;refine DE (S5 I hg hm ?_ hdb);refine PySem.W.callWith_K (h₀:=X.base) I.ok.mod.kin hk (thn (ha pos pins s σ H _ I h) fun us s1 ⟨vs,H1,I1,r,q⟩=>⟨I1.kIn,?_⟩) he hpl;exact Fg F hr hb hd hx I1 r q
theorem Ij(F:FnOk X.prog X.w X.K X.mg X.base CX k f fd ps sp)(hr:Room k X.A)(hg:Gl X x)(hm:X.mg x=some (.ref f))(hk:PySem.W.keepIn X.K (.ref f)=true)(hb:Binds X.K fd ps ds)(hd:Vals dvs ds)(hx:S2 CX X E)
  (hdb:(x ==("__debug__":Str))=false:=by decide):PE X (.Call (.Name x p) [] [] pos) (Lg sp dvs E Cr):=by
 intro pins s σ H Q I h;refine DE (S5 I hg hm ?_ hdb);exact PySem.W.callWith_K0 I.kIn hk (Fg (us:=[]) F hr hb hd hx I .nil h)
theorem E4{pl:Sem Bool}(he:PE X o ta)(c:Cls X.K C)(hm:Meth X.K C m f)(F:FnOk X.prog X.w X.K X.mg X.base CX k f fd ps sp)(hr:Room k X.A)(hb:Binds X.K fd ps ds)(hd:Vals dvs ds)(hx:S2 CX X E)(ha:PA X (e::es) t)
  (hst:starEach (e::es) X.env =(false,eval e X.env)::starEach es X.env:=by rfl) (hpl:(backTo pos (starEach es X.env)).any (·.1)=false:=by rfl)
  (ht:eval (.Call (.Attribute o m apos) (e::es) [] pos) X.env =(do
   let ov <-eval o X.env
   standAt apos.atName
   let(f,first) <-holding [ov] (getMethod ov m pl)
   callWith pos f first (backTo pos (starEach (e::es) X.env)) (backToKw pos (keywordEach [] X.env))):=by rfl) :
  PE X (.Call (.Attribute o m apos) (e::es) [] pos) (zAl C m sp dvs E ta t):=by
 intro pins s σ H Q I h;refine PySem.W.methodCall_KW (pl:=pl) (thn (he pins s σ H _ I h) fun u s1 ⟨x,H1,I1,rx,a,dx,fs,ex,ea,l,q⟩=>?_) ht;subst ex;obtain rfl:u=Value.ref a:=rx;refine Ad I1 ea c hm l ?_;refine PySem.W.callWith_K (first:=[.ref a]) (h₀:=X.base) I.ok.mod.kin hm.kp (thn (ha pos pins s1 σ H1 _ I1 q) fun us s2 ⟨vs,H2,I2,r,q2⟩=>⟨I2.kIn,?_⟩) hst hpl;exact Fg (us:=.ref a::us) (vs:=.ref a::vs) F hr hb hd hx I2 (.cons rfl r) q2
theorem Jk{pl:Sem Bool}(he:PE X o ta)(c:Cls X.K C)(hm:Meth X.K C m f)(F:FnOk X.prog X.w X.K X.mg X.base CX k f fd ps sp)(hr:Room k X.A)(hb:Binds X.K fd ps ds)(hd:Vals dvs ds)(hx:S2 CX X E)
  (ht:eval (.Call (.Attribute o m apos) [] [] pos) X.env =(do
   let ov <-eval o X.env
   standAt apos.atName
   let(f,first) <-holding [ov] (getMethod ov m pl)
   callWith pos f first (backTo pos (starEach [] X.env)) (backToKw pos (keywordEach [] X.env))):=by rfl) :
  PE X (.Call (.Attribute o m apos) [] [] pos) (zAl C m sp dvs E ta Cr):=by
 intro pins s σ H Q I h;refine PySem.W.methodCall_KW (pl:=pl) (thn (he pins s σ H _ I h) fun u s1 ⟨x,H1,I1,rx,a,dx,fs,ex,ea,l,q⟩=>?_) ht;subst ex;obtain rfl:u=Value.ref a:=rx;refine Ad I1 ea c hm l ?_;exact PySem.W.callWith_K0 (first:=[.ref a]) I1.kIn hm.kp (Fg (us:=[.ref a]) (vs:=[.ref a]) F hr hb hd hx I1 (.cons rfl .nil) q)
structure Mk(K:PySem.W.Frag)(C f:Addr):Prop where
 makes:PySem.W.makesIn K C=true
 init:PySem.W.findIn K (.ref C) "__init__" = some (some (.ref f))
 fn:PySem.W.isFn K (.ref f)=true
 kp:PySem.W.keepIn K (.ref C)=true
theorem Ts{pins:List (Addr×Obj)}{σ:St}{H:Hp}{s:Shared}{Q:VK}{us:List Value}{vs:List V}(M:Mk X.K C f)(F:FnOk X.prog X.w X.K X.mg X.base CX k f fd ps sp)(hr:Room (k+1) X.A)(hb:Binds X.K fd ps ds)(hd:Vals dvs ds)
  (hx:S2 CX X E) (I:Inv X pins σ H s) (r:Vals vs us)
  (h:∀x dx,H x=none->H dx=none->dx≠x->sp (.ref x ::(vs++dvs)) (upd (upd H dx (.own x)) x (.ins C dx [])) (fun v H2=>v = .non/\Q (.ref x) H2) E) :
  wpAny (model X.prog X.w) X.A (call (.ref C) us) (EP X pins σ Q) X.xe s:=by
 have hq:=h (s.heap.objs.size+1) s.heap.objs.size (I.hok.fresh (CV _)) (I.hok.fresh (Nat.le_refl _)) (A_ (FM _));have I2:=Inv.made (C:=C) I;have r2:Vals (V.ref (s.heap.objs.size+1) ::(vs++dvs)) (Value.ref (s.heap.objs.size+1) ::(us++ds)):=.cons rfl (r.append hd);have hl:(Value.ref (s.heap.objs.size+1)::us++ds).length=ps.length:=by
  have e:=r2.length;rw[F.len _ _ _ _ hq]at e;exact e.symm
 refine IJ (Rs (f:=f) I.kIn M.makes M.init (beq_iff_eq.mp M.fn) (H_ (F.run _ X.stack _ _ ⟨Value.ref (s.heap.objs.size+1)::us,[]⟩ (Value.ref (s.heap.objs.size+1) ::(us++ds)) _ _ E (hr.make C us [])
  (I2.env0.make C us []) (hb _ (Value.ref (s.heap.objs.size+1)::us) I2.kIn hl) r2 hq) fun r s' hq'=>?_))
 cases r with
 | error e=>exact hx pins σ _ _ e s' I2 hq'
 | ok fl =>
  cases fl with
  | ret u =>
   obtain⟨v,H',I3,rv,ev,q3⟩:=I2.after hq';subst ev;exact⟨rv,⟨V.ref (s.heap.objs.size+1),H',I3,rfl,q3⟩⟩
  | next=>exact False.elim hq'
  | brk=>exact False.elim hq'
  | cont=>exact False.elim hq'
theorem Gs(M:Mk X.K C f)(F:FnOk X.prog X.w X.K X.mg X.base CX k f fd ps sp)(hr:Room (k+1) X.A)(hg:Gl X x)(hm:X.mg x=some (.ref C))(hb:Binds X.K fd ps ds)(hd:Vals dvs ds)(hx:S2 CX X E)
  (ha:PA X (e::es) t) (hdb:(x ==("__debug__":Str))=false:=by decide) (he:starEach (e::es) X.env =(false,eval e X.env)::starEach es X.env:=by rfl) (hpl:(backTo pos (starEach es X.env)).any (·.1)=false:=by rfl) :
  PE X (.Call (.Name x p) (e::es) [] pos) (zEb C sp dvs E t):=by
 intro pins s σ H Q I h;refine DE (S5 I hg hm ?_ hdb);refine PySem.W.callWith_K (h₀:=X.base) I.ok.mod.kin M.kp (thn (ha pos pins s σ H _ I h) fun us s1 ⟨vs,H1,I1,r,q⟩=>⟨I1.kIn,?_⟩) he hpl;exact Ts M F hr hb hd hx I1 r q
end
structure FnScope(N P:List Str)(sc:Scope):Prop where
 kind:sc.kind = .function
 co:sc.isCoroutine=false
 gen:sc.isGenerator=false
 nd:N.Nodup
 pre:N.take P.length=P
 par:∀x∈P,sc.names.lookup x=some .local\/sc.names.lookup x=some .cell
 nofree:∀y∈sc.names,y.2≠ .free
theorem Ex{kindOf:Str->Option NameKind}{x:Str}:∀{binds:List (Str×Value)} {m:Str->Option Value},(∀v,(x,v)∉binds)->bindL kindOf binds m x=m x
 | [],_,_=>rfl
 | (n,v)::r,m,h=>by
  unfold bindL;rw[Ex fun w hw=>h w (AX _ hw)];split
  .have:x≠n:=by rintro rfl;exact h v BE
   simp[this]
  .rfl
theorem Ep{kindOf:Str->Option NameKind}{x:Str}:∀{binds:List (Str×Value)} {m:Str->Option Value},(∀v,(x,v)∉binds)->bindC kindOf binds m x=m x
 | [],_,_=>rfl
 | (n,v)::r,m,h=>by
  unfold bindC;rw[Ep fun w hw=>h w (AX _ hw)];split
  .rfl
  .have:x≠n:=by rintro rfl;exact h v BE
   simp[this]
theorem Ef{kindOf:Str->Option NameKind}{x:Str}{v:Value}:∀{P:List Str} {vs:List Value} {i:Nat} {m:Str->Option Value},P.Nodup->P[i]?=some x->vs[i]?=some v->kindOf x=some .local ->
  bindL kindOf (P.zip vs) m x=some v
 | [],_,_,_,_,h,_,_=>by simp at h
 | _::_,[],_,_,_,_,h,_=>by simp at h
 | p::P,w::vs,0,m,nd,h1,h2,hk=>by
  simp at h1 h2;subst h1;subst h2;show bindL kindOf ((p,w)::P.zip vs) m p=_;unfold bindL;rw[Ex fun v hv=>(FH.mp nd).1 (List.of_mem_zip hv).1,AO hk];simp
 | p::P,w::vs,i+1,m,nd,h1,h2,hk=>by
  show bindL kindOf ((p,w)::P.zip vs) m x=_;unfold bindL;exact Ef (i:=i) (FH.mp nd).2 (by simpa using h1) (by simpa using h2) hk
theorem Fk{kindOf:Str->Option NameKind}{x:Str}{v:Value}:∀{P:List Str} {vs:List Value} {i:Nat} {m:Str->Option Value},P.Nodup->P[i]?=some x->vs[i]?=some v->kindOf x≠some .local ->
  bindC kindOf (P.zip vs) m x=some v
 | [],_,_,_,_,h,_,_=>by simp at h
 | _::_,[],_,_,_,_,h,_=>by simp at h
 | p::P,w::vs,0,m,nd,h1,h2,hk=>by
  simp at h1 h2;subst h1;subst h2;show bindC kindOf ((p,w)::P.zip vs) m p=_;unfold bindC;rw[Ep fun v hv=>(FH.mp nd).1 (List.of_mem_zip hv).1,AK hk];simp
 | p::P,w::vs,i+1,m,nd,h1,h2,hk=>by
  show bindC kindOf ((p,w)::P.zip vs) m x=_;unfold bindC;exact Fk (i:=i) (FH.mp nd).2 (by simpa using h1) (by simpa using h2) hk
def Cd(N:List Str)(vs:List V):St:=vs.map some++List.replicate (N.length-vs.length) none
def Vl(CX:CXT)(P:Program)(w:World)(K:PySem.W.Frag)(mg:Str->Option Value)(base:Heap)(N:List Str)(qual:Str)(scope:Scope)(f:Addr)(cd:Value)(A:Around)(outer:List Env)(s:Shared)(H:Hp)(E:XK):Cx where
 prog:=P
 w:=w
 K:=K
 mg:=mg
 base:=base
 A:=A.deeper (envOfC qual scope s.heap.objs.size f cd)
 N:=N
 s₀:=s
 H₀:=H
 env:=envOfC qual scope s.heap.objs.size f cd
 outer:=outer
 stack:=envOfC qual scope s.heap.objs.size f cd::outer
 ex:=[]
 calm:=true
 fn:=fun _=>true
 pn:=[]
 xe:=fun e s'=>wpAny (model P w) (A.deeper (envOfC qual scope s.heap.objs.size f cd)) (leaving (envOfC qual scope s.heap.objs.size f cd) e) (fun _ s''=>CX outer H s E e s'') (fun e' s''=>CX outer H s E e' s'') s'
theorem Ig{sc:Scope}{n:Nat}{x:Str}(h:sc.names.lookup x=some .cell):∃c,(cellsFrom n sc.names []).lookup x=some c:=by
 have q:=PySem.W.cellsFrom_some sc.names n [] (.inl h);exact GD.mp q
theorem Ot{CX:CXT}{P:Program}{w:World}{K:PySem.W.Frag}{mg:Str->Option Value}{base:Heap}{N ps:List Str}{qual:Str}{scope:Scope}{f:Addr}{cd:Value}{A:Around}{outer:List Env}{s s1:Shared}{H:Hp}{E:XK}{us:List Value}{vs:List V}
  (S:FnScope N ps scope) (hd:A.handled=none) (e0:Env0 P w K mg base A outer s H) (hl:vs.length=ps.length) (r:Vals vs us)
  (x:InCallC s s.heap.objs.size (bindL (envOfC qual scope s.heap.objs.size f cd).kindOf (ps.zip us) fun _=>none) (cellsFrom (s.heap.objs.size+1) scope.names []) (bindC (envOfC qual scope s.heap.objs.size f cd).kindOf (ps.zip us) fun _=>none) s1) :
  Inv (Vl CX P w K mg base N qual scope f cd A outer s H E) [] (Cd N vs) H s1:=by
 have hpl:ps.length<=N.length:=by have:=congrArg List.length S.pre;rw[AY]at this;omega
 obtain⟨h1,tk,rfl,hk⟩:=x.done;have noA:∀b:Addr,b∉(Vl CX P w K mg base N qual scope f cd A outer s H E).ex:=fun b z=>absurd (show b∈([]:List Addr)from z) (by simp);refine⟨⟨e0.mod,S.kind,rfl,rfl,Nat.le_refl _,fun y z c h1 h2=>?_,fun y hy=>?_,fun y c _ h=>?_,fun _=>hd,Around.frames_deeper e0.frames,.inr ⟨rfl,rfl⟩,fun b z=>absurd z (noA b),e0.bs,e0.bsz,fun b _ _=>noA b,fun b z=>absurd z (noA b),e0.funs,e0.frf⟩,
  rfl,e0.bare,Un.kept hk,⟨_,x.toInCall.ns,fun i y v h1 h2 h3=>?_⟩,fun y c h=>⟨_,x.cell y c h⟩,e0.hok.fresh (Nat.le_refl _),fun y c h=>?_,fun p hp=>absurd (show p∈([]:List (Addr×Obj))from hp) (by simp),e0.hok.kept hk,?_⟩
 .exact name_of_addr x.apart (PySem.mem_of_lookup h1) (PySem.mem_of_lookup h2)
 .have hy:scope.names.lookup y=some .cell\/scope.names.lookup y=some .free:=hy;rcases hy with hy | hy
  .exact Ig hy
  .exact absurd rfl (S.nofree _ (PySem.mem_of_lookup hy))
 .exact EX (x.above y c (PySem.mem_of_lookup h))
 .have hi:i<vs.length:=by
   unfold Cd at h2;by_cases hi:i<vs.length
   .exact hi
   .rw[DW (by simpa using hi)]at h2;rw[List.getElem?_replicate]at h2;split at h2<;>cases h2
  have ha:vs[i]?=some v:=by
   unfold Cd at h2;rw[EC (by simpa using hi),AJ]at h2;cases e:vs[i]? with
   | none=>rw[e]at h2;cases h2
   | some a=>rw[e]at h2;cases h2;rfl
  obtain⟨u,hu,rv⟩:=r.get ha;have hp:ps[i]?=some y:=by
   rw[<-S.pre,DM (by omega)];exact h1
  have ndP:ps.Nodup:=by rw[<-S.pre];exact S.nd.sublist (FE _ _)
  refine⟨u,rv,?_⟩;rcases S.par y (BJ hp)with k | k
  .exact .inl ⟨k,Ef ndP hp hu k⟩
  .obtain⟨c,e⟩:=Ig (n:=s.heap.objs.size+1) k;refine .inr ⟨.inl k,c,e,?_⟩;have q:=x.cell y c e;rw[Fk ndP hp hu (by show scope.names.lookup y≠_;rw[k];decide)]at q;exact q
 .exact e0.hok.fresh (EX (x.above y c (PySem.mem_of_lookup h)))
 .unfold Cd;show _=N.length;rw[BC,AB,List.length_replicate];omega
theorem zAk{CX:CXT}{P:Program}{w:World}{K:PySem.W.Frag}{mg:Str->Option Value}{base:Heap}{k:Nat}{f:Addr}{name qual:Str}{params:Arguments}{body:List Stmt}{scope:Scope}{dV kV doc pm cdv ct oc:Value}{an od:Option Addr}
  {osl:Array (Option Value)} {N ps:List Str} {sp:Sp} (lk:K.lookup f=some ⟨oc,od,.func (PySem.W.fnOf name qual params body scope dV kV doc pm an cdv ct),osl⟩) (hcd:PySem.W.codeIn K cdv qual=true) (S:FnScope N ps scope)
  (len:∀vs H Q E,sp vs H Q E->vs.length=ps.length)
  (hbody:∀(A:Around) (outer:List Env) (s:Shared) (H:Hp) (vs:List V) (Q:VK) (E:XK),Room k (A.deeper (envOfC qual scope s.heap.objs.size f cdv))->sp vs H Q E ->
   ∃t,PSs (Vl CX P w K mg base N qual scope f cdv A outer s H E) body t/\t { nx:=fun _ H'=>Q .non H',rt:=Q } (Cd N vs) H) :
  FnOk P w K mg base CX (k+1) f (PySem.W.fnOf name qual params body scope dV kV doc pm an cdv ct) ps sp:=by
 refine⟨len,fun A outer s H args us vs Q E hr e0 hb r hsp=>?_⟩;have hl:=len _ _ _ _ hsp;have KX:K.In s.heap:=e0.mod.kin.keeps fun b o e=>(e0.bs b o e).1;have lim:s.heap.NoLimit:=e0.mod.nolimit.keeps fun b o e=>(e0.bs b o e).1;have hkind:∀y∈ps.zip us,scope.names.lookup y.1=some .local\/(scope.names.lookup y.1=some .cell/\((cellsFrom (s.heap.objs.size+1) scope.names []).lookup y.1).isSome=true):=fun⟨n,v⟩ hy=>by
  rcases S.par n (List.of_mem_zip hy).1 with q | q
  .exact .inl q
  .exact .inr ⟨q,PySem.W.cellsFrom_some _ _ _ (.inl q)⟩
 refine codeAny_call_function hr.depth (KX _ _ lk) rfl S.co S.gen rfl (PySem.W.codeRec_of KX hcd) (hb _ _ _ _ ?_);refine wpAny_newFunctionEnv_cells S.kind hkind fun env he s1 x=>?_;subst he;refine⟨lim.keeps x.toInCall.keep,codeAny_func ?_⟩;obtain⟨t,ht,hq⟩:=hbody A outer s H vs Q E (hr.deeper _) hsp;have I:Inv (Vl CX P w K mg base N qual scope f cdv A outer s H E) [] (Cd N vs) H s1:=Ot S hr.hd e0 hl r x;refine BR (ht [] s1 (Cd N vs) H _ I hq) (fun fl s' hs=>?_) fun e s' hs=>hs;have fin:∀{σ':St} {H':Hp} {v:V} {u:Value},Inv (Vl CX P w K mg base N qual scope f cdv A outer s H E) [] σ' H' s'->RelV v u->Q v H'->CE outer P w H s Q u s' :=
  fun{σ' H' v u} J rv q=>⟨v,H',J.os,J.bare,J.base,J.hok,rv,q⟩
 cases fl with
 | ret u =>
  obtain⟨v,σ',H',J,rv,q⟩:=hs;exact fin J rv q
 | next =>
  obtain⟨σ',H',J,q⟩:=hs;exact fin (v:=V.non) (u:=Value.none) J rfl q
 | brk =>
  obtain⟨_,_,_,q⟩:=hs;exact False.elim q
 | cont =>
  obtain⟨_,_,_,q⟩:=hs;exact False.elim q
section
variable{X:Cx}{x:Str}{p pos:Pos}{e:Expr}{es:List Expr}{t:TA}{id T:String}{r:List V->Hp->VK->Prop}
def tCB(r:List V->Hp->VK->Prop)(t:TA):TE:=fun σ H Q=>t σ H fun vs H1=>r vs H1 Q
theorem Rg(hc:E3 X (.builtin id) r)(hg:Gl X x)(hm:X.mg x=none)(hv:bootBuiltins x=some (.builtin id))(ha:PA X (e::es) t)(hn:x≠ "__name__":=by decide)(hdb:(x ==("__debug__":Str))=false:=by decide)
  (he:starEach (e::es) X.env =(false,eval e X.env)::starEach es X.env:=by rfl) (hpl:(backTo pos (starEach es X.env)).any (·.1)=false:=by rfl):PE X (.Call (.Name x p) (e::es) [] pos) (tCB r t):=by
 intro pins s σ H Q I h;refine DE (T1 I hg hm hv ?_ hn hdb);exact PyProof.Rows.callWith_builtin1 (thn (ha pos pins s σ H _ I h) fun us s1 ⟨vs,H1,I1,r1,q1⟩=>hc pins s1 σ H1 vs us Q I1 r1 q1) he hpl
theorem Oq(hc:E3 X (.type T) r)(hg:Gl X x)(hm:X.mg x=none)(hv:bootBuiltins x=some (.type T))(ha:PA X (e::es) t)(hn:x≠ "__name__":=by decide)(hdb:(x ==("__debug__":Str))=false:=by decide)
  (he:starEach (e::es) X.env =(false,eval e X.env)::starEach es X.env:=by rfl) (hpl:(backTo pos (starEach es X.env)).any (·.1)=false:=by rfl):PE X (.Call (.Name x p) (e::es) [] pos) (tCB r t):=by
 intro pins s σ H Q I h;refine DE (T1 I hg hm hv ?_ hn hdb);exact PyProof.Rows.callWith_type1 (thn (ha pos pins s σ H _ I h) fun us s1 ⟨vs,H1,I1,r1,q1⟩=>hc pins s1 σ H1 vs us Q I1 r1 q1) he hpl
theorem Aq(hc:E3 X (.type T) r)(hg:Gl X x)(hm:X.mg x=none)(hv:bootBuiltins x=some (.type T))(hn:x≠ "__name__":=by decide)(hdb:(x ==("__debug__":Str))=false:=by decide) :
  PE X (.Call (.Name x p) [] [] pos) (tCB r Cr):=by
 intro pins s σ H Q I h;refine DE (T1 I hg hm hv ?_ hn hdb);exact PyProof.Rows.callWith_type0 (hc pins s σ H [] [] Q I .nil h)
end
end L2
namespace HT
open PySem PyProof.Rows
section
variable{prog:Program}{w:World}{A:Around}{E:Value->Shared->Prop}{s:Shared}
def sIx(n d:Nat):Option Int->Nat
 | none=>d
 | some v=>if v<0 then(v +(n:Int)).toNat else min v.toNat n
theorem sIx_none(n d:Nat):sIx n d none=d:=rfl
theorem sIx_nat(n d k:Nat):sIx n d (some (k:Int))=min k n:=by
 show(if(k:Int)<0 then((k:Int) +(n:Int)).toNat else min (k:Int).toNat n)=min k n;rw[AK (by omega),FG]
theorem zAf(n d:Nat)(hd:d<=n)(o:Option Int):sIx n d o<=n:=by
 cases o with
 | none=>exact hd
 | some v =>
  show(if v<0 then(v +(n:Int)).toNat else min v.toNat n)<=n;by_cases hv:v<0
  .rw[AO hv];omega
  .rw[AK hv];exact Nat.min_le_right _ _
theorem Na(v:Int)(n d:Nat):(if v<0 then max (v +(n:Int)) 0 else min v (n:Int)) =((sIx n d (some v):Nat):Int):=by
 show(if v<0 then max (v +(n:Int)) 0 else min v (n:Int)) =(((if v<0 then(v +(n:Int)).toNat else min v.toNat n):Nat):Int);by_cases hv:v<0
 .simp only[AO hv];omega
 .simp only[AK hv];omega
theorem Ki(lo hi:Option Int)(n:Nat):Builtin.Slice.sliceAdjust lo hi 1 (n:Int) =(((sIx n 0 lo:Nat):Int),((sIx n n hi:Nat):Int)):=by
 have h1:¬((1:Int)<0):=by omega
 unfold Builtin.Slice.sliceAdjust;simp only[h1,CQ];refine Prod.ext ?_ ?_
 .cases lo with
  | none=>rfl
  | some v=>exact Na v n 0
 .cases hi with
  | none=>rfl
  | some v=>exact Na v n n
theorem Lw(i j:Nat):Builtin.Slice.slicePlaces (i:Int) (j:Int) 1=j-i:=by
 unfold Builtin.Slice.slicePlaces;have h1:(1:Int)>0:=by omega
 simp only[h1,FD,Int.ediv_one];split<;>omega
theorem Al{v:Value}{o:Option Int}{Q:Option Int->Shared->Prop}(p:IsPart v o)(h:Q o s):wpAny (model prog w) A (Builtin.Slice.slicePartIndex v) Q E s:=by
 cases p with
 | none=>exact slicePart_none h
 | int i t=>exact slicePart_int h
theorem Y9{sl:Addr}{vl vu:Value}{lo hi:Option Int}{n:Nat}{Q:Int×Int×Nat->Shared->Prop}(hs:s.heap.IsSliceOf sl vl vu .none)(pl:IsPart vl lo)(pu:IsPart vu hi)
  (h:Q (((sIx n 0 lo:Nat):Int),1,sIx n n hi-sIx n 0 lo) s):wpAny (model prog w) A (Builtin.Slice.sliceApplied (.ref sl) (pure (n:Int))) Q E s:=by
 obtain⟨os,hos,hcs,hds⟩:=id hs;unfold Builtin.Slice.sliceApplied Builtin.Slice.sliceFields;refine AA (AA (DG hos hds (x:=vl) rfl (AA (DG hos hds (x:=vu) rfl (AA (DG hos hds (x:=.none) rfl (AD ?_)))))));refine AA (slicePart_none ?_);show wpAny _ _ (if((1:Int) == 0)=true then _ else _) _ _ s;rw[AK (by decide)];refine AA (Al pl (AA (Al pu (AA (AD ?_)))));show wpAny _ _ (match Builtin.Slice.sliceAdjust lo hi 1 (n:Int)with | (lo,hi)=>pure (lo,(1:Int),Builtin.Slice.slicePlaces lo hi 1)) _ _ s;rw[Ki lo hi n];show wpAny _ _ (pure (((sIx n 0 lo:Nat):Int),(1:Int),Builtin.Slice.slicePlaces ((sIx n 0 lo:Nat):Int) ((sIx n n hi:Nat):Int) 1)) _ _ s;rw[Lw];exact AD h
theorem Tw(xs:Array Value)(i k:Nat):((List.range k).filterMap fun(m:Nat)=>xs[((i:Int) +(m:Int)*1).toNat]?).toArray =((xs.toList.drop i).take k).toArray:=by
 have e:(fun(m:Nat)=>xs[((i:Int) +(m:Int)*1).toNat]?)=fun m=>xs[i+m]?:=by
  funext m;have:((i:Int) +(m:Int)*1).toNat=i+m:=by omega
  rw[this]
 rw[e];have:=pick_run xs i k;rw[List.filterMap_map]at this;have e2:((fun x=>xs[x]?)∘fun x=>i+x)=fun m=>xs[i+m]?:=rfl;rw[e2]at this;rw[this]
theorem getItem_tuple_cut{t sl:Addr}{items:Array Value}{vl vu:Value}{lo hi:Option Int}{Q:Value->Shared->Prop}(ht:IsTup s.heap t items)(hs:s.heap.IsSliceOf sl vl vu .none)(pl:IsPart vl lo)(pu:IsPart vu hi)
  (hw:¬(sIx items.size 0 lo=0/\sIx items.size items.size hi=items.size))
  (h:Q (.ref s.heap.objs.size) { s with heap:=s.heap.push { cls:=.type "tuple",data:=.seq ((items.toList.drop (sIx items.size 0 lo)).take (sIx items.size items.size hi-sIx items.size 0 lo)).toArray } })
  (hsz:items.size<=sizeLine):wpAny (model prog w) A (getItem (.ref t) (.ref sl)) Q E s:=by
 have htake:sizeOk (.seq ((items.toList.drop (sIx items.size 0 lo)).take (sIx items.size items.size hi-sIx items.size 0 lo)).toArray):=by
  show((items.toList.drop (sIx items.size 0 lo)).take (sIx items.size items.size hi-sIx items.size 0 lo)).toArray.size<=sizeLine;rw[AR,AY,DL,AQ];omega
 have hj:sIx items.size items.size hi<=items.size:=zAf _ _ (Nat.le_refl _) hi;obtain⟨os,hos,hcs,hds⟩:=id hs;have hTs:s.TypeIs (.ref sl) "slice":=⟨os,hos,hcs⟩;unfold getItem
 try with_reducible refine BT ?_
 first | refine AA (AD ?_) | skip
 refine AA (wpAny_sequenceKey ht.typeIs (by decide) ?_);refine AA (EJ (name:=Str.ofString "__getitem__") ht.typeIs PyProof.Rows.slot_tuple_getitem
  (CZ PyProof.Rows.slot_tuple_getitem ht.typeIs entry_tuple_getitem ?_ (args_tuple_getitem _ _)))
 show wpAny _ _ (Builtin.Tuple.tupleItemsOf (.ref t) >>= _) _ _ s;refine AA (tupleItemsOf_ ht ?_);refine AA (wpAny_typeOf hTs ?_);rw[AO (by decide)];refine AA (Y9 hs pl pu ?_);have hno:¬((((sIx items.size 0 lo:Nat):Int) == 0 &&(1:Int) == 1 &&(sIx items.size items.size hi-sIx items.size 0 lo) == items.size)=true):=by
  intro q;rw[BG,BG]at q;have q1:((sIx items.size 0 lo:Nat):Int)=0:=eq_of_beq q.1.1;have q2:sIx items.size items.size hi-sIx items.size 0 lo=items.size:=eq_of_beq q.2;exact hw ⟨by omega,by omega⟩
 show wpAny _ _ (if(((sIx items.size 0 lo:Nat):Int) == 0 &&(1:Int) == 1 &&(sIx items.size items.size hi-sIx items.size 0 lo) == items.size)=true then _ else _) _ _ s;rw[AK hno,Tw]
 first
  | exact AA (m:=Builtin.Tuple.tupleExact _) (CP (AD ⟨_,rfl,AD h⟩) htake)
  | exact AA (m:=Builtin.Tuple.tupleExact _) (CP (AA (AD (AD ⟨_,rfl,AD h⟩))) htake)
  | exact AA (AA (m:=Builtin.Tuple.tupleExact _) (CP (AD (AD ⟨_,rfl,AD h⟩)) htake))
  | exact AA (AA (m:=Builtin.Tuple.tupleExact _) (CP (AD ⟨_,rfl,AD h⟩) htake))
end
end HT
namespace L2
open PySem PySem.Spec PyProof.Rows
abbrev TO:=St->Hp->(Option Int->Hp->Prop)->Prop
def PO(X:Cx)(e:Option Expr)(t:TO):Prop :=
 ∀(pins:List (Addr×Obj)) (s:Shared) (σ:St) (H:Hp) (Q:Option Int->Hp->Prop),Inv X pins σ H s->t σ H Q ->
  wpAny (model X.prog X.w) X.A (evalPart e X.env) (fun u s'=>∃o H',Inv X pins σ H' s'/\IsPart u o/\Q o H') X.xe s
def Wm:TO:=fun _ H Q=>Q none H
def zEp(t:TE):TO:=fun σ H Q=>t σ H fun x H1=>∃i,x = .int i/\Q (some i) H1
theorem Kw{ns:List Int}:∀{us:List Value},Vals (ns.map V.int) us->IntsAre us ns:=by
 induction ns with
 | nil=>intro us r;rw[IA]at r;cases r;exact .nil
 | cons n ns ih =>
  intro us r;rw[AW]at r;cases r with
  | cons r1 r2 =>
   obtain⟨t,e⟩:=r1;subst e;exact .cons n t (ih r2)
section
variable{X:Cx}{e:Expr}{te:TE}{lo hi:Option Expr}{tl th:TO}{pos p2:Pos}
theorem Pu:PO X none Wm:=by
 intro pins s σ H Q I h;rw[evalPart_none];exact AD ⟨none,H,I,.none,h⟩
theorem On(h:PE X e te):PO X (some e) (zEp te):=by
 intro pins s σ H Q I hw;rw[evalPart_some];refine thn (h pins s σ H _ I hw) fun u s1 ⟨x,H1,I1,r1,q1⟩=>?_;obtain⟨i,rfl,q⟩:=q1;obtain⟨t,rfl⟩:=r1;exact⟨some i,H1,I1,.int i t,q⟩
def SlR(X:Cx)(r:V->Option Int->Option Int->Hp->VK->Prop):Prop :=
 ∀(pins:List (Addr×Obj)) (s:Shared) (σ:St) (H:Hp) (x:V) (v vl vu:Value) (lo hi:Option Int) (sl:Addr) (Q:VK),Inv X pins σ H s->RelV x v->s.heap.IsSliceOf sl vl vu .none->IsPart vl lo->IsPart vu hi->r x lo hi H Q ->
  ∃T id,typeLookup (.type T) "__getitem__" = pure (some (.builtin id))/\s.TypeIs v T/\wpAny (model X.prog X.w) X.A (getItem v (.ref sl)) (EP X pins σ Q) X.xe s
def tSl(r:V->Option Int->Option Int->Hp->VK->Prop)(te:TE)(tl th:TO):TE:=fun σ H Q=>te σ H fun x H1=>tl σ H1 fun l H2=>th σ H2 fun u H3=>r x l u H3 Q
theorem Io{r:V->Option Int->Option Int->Hp->VK->Prop}(hr:SlR X r)(he:PE X e te)(hl:PO X lo tl)(hu:PO X hi th):PE X (.Subscript e (.Slice lo hi none p2) pos) (tSl r te tl th):=by
 intro pins s σ H Q I h;refine Subscript_ (thn (he pins s σ H _ I h) fun v s1 ⟨x,H1,I1,r1,q1⟩=>?_);refine wpAny_Slice (thn (hl pins s1 σ H1 _ I1 q1) fun vl s2 ⟨l,H2,I2,pl,q2⟩=>thn (hu pins s2 σ H2 _ I2 q2) fun vu s3 ⟨u,H3,I3,pu,q3⟩=>?_);rw[evalPart_none];refine AD ?_;have I4:Inv X pins σ H3 { s3 with heap:=s3.heap.push { cls:=.type "slice",data:=.fields #[vl,vu,.none] } }:=I3.kept (t':=s3.toks) fun b ob q=>AE _ q;obtain⟨T,id,hT,ht,hg⟩:=hr pins { s3 with heap:=s3.heap.push { cls:=.type "slice",data:=.fields #[vl,vu,.none] } } σ H3 x v vl vu l u s3.heap.objs.size Q I4 r1 (Heap.IsSliceOf.new ..) pl pu q3;show wpAny (model X.prog X.w) X.A (subscriptTail e (.Slice lo hi none p2) v (.ref s3.heap.objs.size)) (EP X pins σ Q) X.xe { s3 with heap:=s3.heap.push { cls:=.type "slice",data:=.fields #[vl,vu,.none] } };exact tail_any (ops:=[.ref s3.heap.objs.size,v]) ht hT hg (by with_unfolding_all rfl)
def Lq(xs:List V)(lo hi:Option Int):List V:=(xs.drop (HT.sIx xs.length 0 lo)).take (HT.sIx xs.length xs.length hi-HT.sIx xs.length 0 lo)
theorem j4(xs:List V)(lo hi:Option Int):(Lq xs lo hi).length<=xs.length:=by
 unfold Lq;rw[AY,DL];omega
def zFf(K:PySem.W.Frag):V->Option Int->Option Int->Hp->VK->Prop:=fun x lo hi H Q=>∃a xs,x = .ref a/\SqT K H a xs /\
 ¬(HT.sIx xs.length 0 lo=0/\HT.sIx xs.length xs.length hi=xs.length)/\∀p,H p=none->Q (.ref p) (upd H p (.tup (Lq xs lo hi)))
theorem zAt:SlR X (zFf X.K):=by
 intro pins s σ H x v vl vu lo hi sl Q I rx hs pl pu h;obtain⟨a,xs,rfl,hx,hw,q⟩:=h;cases rx;obtain⟨its,r,ht,hz⟩:=I.tuple hx;have hlen:its.toArray.size=xs.length:=by rw[AR];exact r.length.symm
 refine⟨"tuple",_,PyProof.Rows.slot_tuple_getitem.lookup,ht.typeIs,?_⟩;refine HT.getItem_tuple_cut ht hs pl pu (by rw[hlen];exact hw) ?_ (by rw[hlen];exact hz);rw[hlen];refine⟨.ref s.heap.objs.size,_,I.laid (t':=s.toks) (o:=.tup (Lq xs lo hi)) (fun b ob q=>AE _ q) (Nat.le_refl _) ?_,rfl,q _ (I.hok.fresh (Nat.le_refl _))⟩;exact⟨Nat.le_trans (j4 xs lo hi) hz,_,(r.drop (HT.sIx xs.length 0 lo)).take (HT.sIx xs.length xs.length hi-HT.sIx xs.length 0 lo),IsTup.new _ _⟩
end
def ixN(n:Nat)(i:Int):Option Nat:=if 0<=i then(if i<n then some i.toNat else none)else if -(n:Int)<=i then some (i+n).toNat else none
def atI{α:Type}(xs:List α)(i:Int):Option α:=(ixN xs.length i).bind fun j=>xs[j]?
theorem My{n:Nat}{i:Int}{j:Nat}(h:ixN n i=some j):seqIndex? i n=some j/\j<n/\-(n:Int)<=i/\i<n:=by
 unfold ixN at h;by_cases h0:0<=i
 .rw[AO h0]at h;by_cases h1:i<n
  .rw[AO h1]at h;have e:i.toNat=j:=BI h;exact⟨by rw[seqIndex_of h0 h1,e],by omega,by omega,h1⟩
  .rw[AK h1]at h;cases h
 .rw[AK h0]at h;by_cases h1:-(n:Int)<=i
  .rw[AO h1]at h;have e:(i+n).toNat=j:=BI h;exact⟨by rw[seqIndex_neg (by omega) h1,e],by omega,h1,by omega⟩
  .rw[AK h1]at h;cases h
theorem Gi{α:Type}{xs:List α}{i:Int}{v:α}(h:atI xs i=some v):∃j,seqIndex? i xs.length=some j/\xs[j]?=some v/\j<xs.length/\-(xs.length:Int)<=i/\i<xs.length:=by
 unfold atI at h;cases e:ixN xs.length i with
 | none=>rw[e]at h;cases h
 | some j =>
  rw[e]at h;obtain⟨h1,h2,h3,h4⟩:=My e;exact⟨j,h1,h,h2,h3,h4⟩
theorem M6{α:Type}{xs:List α}{j:Nat}{v:α}(h:xs[j]?=some v):atI xs (j:Int)=some v:=by
 have hj:j<xs.length:=(AH.mp h).1;have e:ixN xs.length (j:Int)=some j:=by
  unfold ixN;rw[AO (by omega),AO (by omega)];simp
 unfold atI;rw[e];exact h
def Wv(b:Expr):Prop:=∀o i,subscripted b false o i=operate [o,i] (getItem o i)
def IxR(X:Cx)(r:R2):Prop :=
 ∀(value slice:Expr) (pins:List (Addr×Obj)) (s:Shared) (σ:St) (H:Hp) (x y:V) (v u:Value) (Q:VK),Inv X pins σ H s->RelV x v->RelV y u->r x y H Q ->
  subscripted slice false v u=operate [v,u] (getItem v u)->wpAny (model X.prog X.w) X.A (subscriptTail value slice v u) (EP X pins σ Q) X.xe s
def MtR(X:Cx)(id:String)(r:V->List V->Hp->VK->Prop):Prop :=
 ∀(pins:List (Addr×Obj)) (s:Shared) (σ:St) (H:Hp) (x:V) (xs:List V) (v:Value) (us:List Value) (Q:VK),Inv X pins σ H s->RelV x v->Vals xs us->r x xs H Q ->
  wpAny (model X.prog X.w) X.A (call (.builtin id) (v::us)) (EP X pins σ Q) X.xe s
section
variable{X:Cx}{a b:Expr}{ta tb:TE}{pos:Pos}
theorem E6{r:R2}(hr:IxR X r)(ha:PE X a ta)(hb:PE X b tb)(hs:Wv b):PE X (.Subscript a b pos) (tOp r ta tb):=by
 intro pins s σ H Q I h;exact Subscript_ (zEo ha hb I h fun v u s2 x y H2 I2 rx ry q=>hr a b pins s2 σ H2 x y v u Q I2 rx ry q (hs _ _))
def Zm(K:PySem.W.Frag):R2:=fun x y H Q=>∃p xs i v,x = .ref p/\y = .int i/\SqL K H p xs/\atI xs i=some v/\Q v H
def zEz(K:PySem.W.Frag):R2:=fun x y H Q=>∃p xs i v,x = .ref p/\y = .int i/\SqT K H p xs/\atI xs i=some v/\Q v H
def zFm:R2:=fun x y H Q=>∃z i c,x = .str z/\y = .int i/\z.length<=sizeLine/\atI z.cps.toList i=some c/\Q (.str ⟨#[c]⟩) H
theorem Xl:IxR X (Zm X.K):=by
 intro value slice pins s σ H x y v u Q I rx ry h hs;obtain⟨p,xs,i,z,rfl,rfl,hq,he,q⟩:=h;cases rx;obtain⟨t,rfl⟩:=ry;obtain⟨its,r,pl,hz⟩:=I.list hq;obtain⟨j,h1,h2,h3,h4,h5⟩:=Gi he;obtain⟨w,ew,rw'⟩:=r.get h2;have hl:=r.length;have hn:=j9;have fin:EP X pins σ Q w s:=⟨z,H,I,rw',q⟩;by_cases h0:0<=i
 .have hj:i.toNat=j:=by
   rw[seqIndex_of h0 h5]at h1;exact BI h1
  exact item_listR pl.isList h0 (by omega) (by rw[hj];simpa using ew) fin hs
 .have hj:(i +(its.toArray.size:Int)).toNat=j:=by
   rw[seqIndex_neg (by omega) h4]at h1;rw[AR,<-hl];exact BI h1
  exact subscriptTail_builtinR (x:=w) pl.isList.typeIs slot_list_getitem.lookup
   (wpAny_getItem_list_neg (Q:=fun r s'=>r=w/\EP X pins σ Q r s') pl.isList (by omega) (by rw[AR]<;>omega) (by omega) (by rw[hj];simpa using ew) ⟨rfl,fin⟩) hs
theorem zAv:IxR X (zEz X.K):=by
 intro value slice pins s σ H x y v u Q I rx ry h hs;obtain⟨p,xs,i,z,rfl,rfl,hq,he,q⟩:=h;cases rx;obtain⟨t,rfl⟩:=ry;obtain⟨its,r,pl,hz⟩:=I.tuple hq;obtain⟨j,h1,h2,h3,h4,h5⟩:=Gi he;obtain⟨w,ew,rw'⟩:=r.get h2;have hl:=r.length;have hn:=j9;have fin:EP X pins σ Q w s:=⟨z,H,I,rw',q⟩;exact subscriptTail_builtinR (x:=w) pl.typeIs slot_tuple_getitem.lookup
  (getItem_tuple (j:=j) (Q:=fun r s'=>r=w/\EP X pins σ Q r s') pl (by omega) (by omega) (by rw[AR,<-hl];exact h1) (by simpa using ew) ⟨rfl,fin⟩) hs
theorem zBr:IxR X zFm:=by
 intro value slice pins s σ H x y v u Q I rx ry h hs;obtain⟨z,i,c,rfl,rfl,hz,he,q⟩:=h;obtain⟨t,rfl⟩:=rx;obtain⟨t',rfl⟩:=ry;obtain⟨j,h1,h2,h3,h4,h5⟩:=Gi he;have hl:z.cps.toList.length=z.length:=by simp[Str.length]
 rw[hl]at h1 h4 h5;have hn:=j9;exact tail_any (typeIs_str s z t) slot_str_getitem.lookup (getItem_str (c:=c) (by
  have e1:decide (i < -(2^63:Int))=false:=AN (by omega);have e2:decide (i ≥ 2^63)=false:=AN (by omega);rw[e1,e2,IP]) (by rw[h1];simpa using h2) ⟨.str ⟨#[c]⟩,H,I.tok _,⟨_,rfl⟩,q⟩) hs
theorem Lb(its:List Value)(n j:Nat)(u:Value):Obj.mapSeq (·.setIfInBounds j u) { cls:=.type "list",data:=.seq its.toArray n } ={ cls:=.type "list",data:=.seq (its.set j u).toArray n }:=by
 simp[Obj.mapSeq]
theorem Inv.lst{pins:List (Addr×Obj)}{σ:St}{H:Hp}{s:Shared}{p:Addr}{xs:List V}(I:Inv X pins σ H s)(h:H p=some (.lst xs)) :
  ∃(its:List Value) (n:Nat),Vals xs its/\s.heap.get? p=some { cls:=.type "list",data:=.seq its.toArray n }/\xs.length<=sizeLine:=by
 obtain⟨z,its,n,r,e⟩:=I.hok p _ h;exact⟨its,n,r,e,z⟩
theorem Inv.lstUpd{pins:List (Addr×Obj)}{σ:St}{H:Hp}{s:Shared}{p:Addr}{xs ys:List V}{its its':List Value}{n n':Nat}{f:Obj->Obj}(I:Inv X pins σ H s)(h:H p=some (.lst xs))
  (ho:s.heap.get? p=some { cls:=.type "list",data:=.seq its.toArray n }) (hf:f { cls:=.type "list",data:=.seq its.toArray n } ={ cls:=.type "list",data:=.seq its'.toArray n' }) (r:Vals ys its') (hz:ys.length<=sizeLine) (t:Nat) :
  Inv X pins σ (upd H p (.lst ys)) { s with heap:=s.heap.update p f,toks:=t }:=by
 have e:(s.heap.update p f).get? p=some { cls:=.type "list",data:=.seq its'.toArray n' }:=by
  rw[CB f ho (by rw[hf]<;>rfl),hf]
 refine I.write (x:=p) (e:=p) (by rw[h];trivial) (.inl rfl) (fun b u hb q=>(BP _ _ (Ne.symm hb)).trans q) ⟨_,e⟩ ?_;exact⟨hz,its',n',r,e⟩
def zDp:V->V->V->Hp->(Hp->Prop)->Prop:=fun o i v H Q=>∃p xs k j,o = .ref p/\i = .int k/\H p=some (.lst xs)/\ixN xs.length k=some j/\Q (upd H p (.lst (xs.set j v)))
theorem Im:zEw X zDp:=by
 intro pins s σ H o i v ov iv u Q I ro ri rv h;obtain⟨p,xs,k,j,rfl,rfl,hp,hj,q⟩:=h;cases ro;obtain⟨t,rfl⟩:=ri;obtain⟨its,n,r,ho,hz⟩:=I.lst hp;obtain⟨h1,h2,h3,h4⟩:=My hj;have hl:=r.length;have hn:=j9;have I':Inv X pins σ (upd H p (.lst (xs.set j v))) { s with heap:=s.heap.update p (Obj.mapSeq (·.setIfInBounds j u)) } :=
  I.lstUpd hp ho (Lb its n j u) (r.set rv j) (by rw[List.length_set];exact hz) s.toks
 by_cases h0:0<=k
 .have hk:k.toNat=j:=by
   rw[seqIndex_of h0 h4]at h1;exact BI h1
  exact PySem.W.ki_setAt ho h0 (by omega) (by rw[AR,<-hl];exact h4) (by rw[hk];exact⟨_,I',q⟩)
 .have hk:(k +(its.toArray.size:Int)).toNat=j:=by
   rw[seqIndex_neg (by omega) h3]at h1;rw[AR,<-hl];exact BI h1
  exact PySem.W.ki_setBack ho (by omega) (by rw[AR,<-hl];exact h3) (by omega) (by rw[hk];exact⟨_,I',q⟩)
theorem Dp(lo hi:Option Int)(n:Nat):(sliceBounds lo hi none n).1 =((HT.sIx n 0 lo:Nat):Int)/\(sliceBounds lo hi none n).2.1 =((HT.sIx n n hi:Nat):Int)/\(sliceBounds lo hi none n).2.2=1:=by
 refine⟨?_,?_,rfl⟩
 .cases lo with
  | none=>simp[sliceBounds,HT.sIx]
  | some i =>
   simp only[sliceBounds,HT.sIx,Option.getD_none,show(1:Int)>0 by decide,FD];by_cases h:i<0
   .simp only[h,FD]<;>omega
   .simp only[h,CQ]<;>omega
 .cases hi with
  | none=>simp[sliceBounds,HT.sIx]
  | some i =>
   simp only[sliceBounds,HT.sIx,Option.getD_none,show(1:Int)>0 by decide,FD];by_cases h:i<0
   .simp only[h,FD]<;>omega
   .simp only[h,CQ]<;>omega
theorem Bw(its:List Value)(lo hi:Option Int):slicePick its.toArray lo hi none =((its.drop (HT.sIx its.length 0 lo)).take (HT.sIx its.length its.length hi-HT.sIx its.length 0 lo)).toArray:=by
 obtain⟨h1,h2,h3⟩:=Dp lo hi its.toArray.size;unfold slicePick;rw[h1,h2,h3];simp only[sliceRange_one,pick_run,AR]<;>rfl
def zFd(K:PySem.W.Frag):V->Option Int->Option Int->Hp->VK->Prop:=fun x lo hi H Q=>∃a xs,x = .ref a/\SqL K H a xs/\∀p,H p=none->Q (.ref p) (upd H p (.lst (Lq xs lo hi)))
theorem Xs:SlR X (zFd X.K):=by
 intro pins s σ H x v vl vu lo hi sl Q I rx hs pl pu h;obtain⟨a,xs,rfl,hx,q⟩:=h;cases rx;obtain⟨its,r,ht,hz⟩:=I.list hx;have hlen:=r.length;refine⟨"list",_,slot_list_getitem.lookup,ht.isList.typeIs,?_⟩;refine wpAny_getItem_list_slice ht.isList hs pl pu .none (by simp) ?_ (by rw[AR]<;>omega);rw[Bw,<-hlen];refine⟨.ref s.heap.objs.size,_,I.laid (t':=s.toks) (o:=.lst (Lq xs lo hi)) (fun b ob q=>AE _ q) (Nat.le_refl _) ?_,rfl,q _ (I.hok.fresh (Nat.le_refl _))⟩;exact⟨Nat.le_trans (j4 xs lo hi) hz,_,0,(r.drop (HT.sIx xs.length 0 lo)).take (HT.sIx xs.length xs.length hi-HT.sIx xs.length 0 lo),AM _ rfl⟩
def Cb:V->Bool
 | .non=>true
 | .bl _=>true
 | .int _=>true
 | .str _=>true
 | _=>false
def eqV:V->V->Bool
 | .non,.non=>true
 | .bl a,.bl b=>a == b
 | .bl a,.int b=>(if a then 1 else 0) == b
 | .int a,.bl b=>a ==(if b then 1 else 0)
 | .int a,.int b=>a == b
 | .str a,.str b=>a == b
 | _,_=>false
theorem zCm{A:Around}{s:Shared}{y x:V}{u v:Value}(ry:RelV y u)(rx:RelV x v)(fy:Cb y=true)(fx:Cb x=true):SeqAt.EqAt A s u v (eqV y x):=by
 cases y with
 | non =>
  cases ry;cases x with
  | non=>cases rx;exact SeqAt.EqAt.same _
  | bl b=>cases rx;exact SeqAt.EqAt.none_bool b
  | int b=>obtain⟨t,rfl⟩:=rx;exact SeqAt.EqAt.none_int b t
  | str b=>obtain⟨t,rfl⟩:=rx;exact SeqAt.EqAt.none_str b t
  | _=>exact absurd (show false=true from fx) BB
 | bl a =>
  cases ry;cases x with
  | non=>cases rx;exact SeqAt.EqAt.bool_none a
  | bl b=>cases rx;exact SeqAt.EqAt.bool_bool a b
  | int b=>obtain⟨t,rfl⟩:=rx;exact SeqAt.EqAt.bool_int a b t
  | str b=>obtain⟨t,rfl⟩:=rx;exact SeqAt.EqAt.bool_str a b t
  | _=>exact absurd (show false=true from fx) BB
 | int a =>
  obtain⟨t',rfl⟩:=ry;cases x with
  | non=>cases rx;exact SeqAt.EqAt.int_none a t'
  | bl b=>cases rx;exact SeqAt.EqAt.int_bool a t' b
  | int b=>obtain⟨t,rfl⟩:=rx;exact SeqAt.EqAt.int_int a t' b t
  | str b=>obtain⟨t,rfl⟩:=rx;exact SeqAt.EqAt.int_str a t' b t
  | _=>exact absurd (show false=true from fx) BB
 | str a =>
  obtain⟨t',rfl⟩:=ry;cases x with
  | non=>cases rx;exact SeqAt.EqAt.str_none a t'
  | bl b=>cases rx;exact SeqAt.EqAt.str_bool a t' b
  | int b=>obtain⟨t,rfl⟩:=rx;exact SeqAt.EqAt.str_int a t' b t
  | str b=>obtain⟨t,rfl⟩:=rx;exact SeqAt.EqAt.str_str a t' b t
  | _=>exact absurd (show false=true from fx) BB
 | _=>exact absurd (show false=true from fy) BB
def eqU(x:V)(u:Value):Bool:=match u with
 | .none=>eqV .non x
 | .bool b=>eqV (.bl b) x
 | .int i _=>eqV (.int i) x
 | .str z _=>eqV (.str z) x
 | _=>false
theorem Ut{x y:V}{u:Value}(r:RelV y u)(f:Cb y=true):eqU x u=eqV y x:=by
 cases y with
 | non=>cases r;rfl
 | bl b=>cases r;rfl
 | int i=>obtain⟨t,rfl⟩:=r;rfl
 | str z=>obtain⟨t,rfl⟩:=r;rfl
 | _=>exact absurd (show false=true from f) BB
theorem t7{x:V}:∀{xs:List V} {us:List Value},Vals xs us->xs.all Cb=true->us.any (eqU x)=xs.any fun y=>eqV y x
 | _,_,.nil,_=>rfl
 | y::xs,u::us,.cons r t,f=>by
  rw[List.all_cons,BG]at f;rw[HM,HM,Ut r f.1,t7 t f.2]
theorem U1{A:Around}{s:Shared}{x:V}{v:Value}(rx:RelV x v)(fx:Cb x=true):∀{xs:List V} {us:List Value},Vals xs us->xs.all Cb=true->∀u∈us,SeqAt.EqAt A s u v (eqU x u)
 | _,_,.nil,_=>fun u hu=>by cases hu
 | y::xs,u::us,.cons r t,f=>fun u' hu=>by
  rw[List.all_cons,BG]at f;rcases AV.mp hu with rfl | hu
  .rw[Ut r f.1];exact zCm r rx f.1 fx
  .exact U1 rx fx t f.2 u' hu
def inV(x:V)(xs:List V):Bool:=xs.any fun y=>eqV y x
def rIn(K:PySem.W.Frag)(neg:Bool):R2:=fun x y H Q=>∃p xs,y = .ref p/\(SqL K H p xs\/SqT K H p xs)/\Cb x=true/\xs.all Cb=true/\Q (.bl (if neg then !inV x xs else inV x xs)) H
theorem Oi:OpR X (compareOp .In) (rIn X.K false):=by
 intro pins s σ H x y v u Q I rx ry h;obtain⟨p,xs,rfl,hq,fx,fs,q⟩:=h;cases ry;rcases hq with hq | hq
 .obtain⟨its,r,pl,hz⟩:=I.list hq;refine SeqAt.in_listAt (eqU x) pl.isList (fun w hw=>U1 rx fx r fs w (by simpa using hw)) ⟨.bl _,H,I,rfl,?_⟩;rw[show its.toArray.any (eqU x)=its.any (eqU x) by simp,t7 r fs];exact q
 .obtain⟨its,r,pl,hz⟩:=I.tuple hq;refine SeqAt.in_tupleAt (eqU x) pl (fun w hw=>U1 rx fx r fs w (by simpa using hw)) ⟨.bl _,H,I,rfl,?_⟩;rw[show its.toArray.any (eqU x)=its.any (eqU x) by simp,t7 r fs];exact q
theorem Dt:OpR X (compareOp .NotIn) (rIn X.K true):=by
 intro pins s σ H x y v u Q I rx ry h;obtain⟨p,xs,rfl,hq,fx,fs,q⟩:=h;cases ry;rcases hq with hq | hq
 .obtain⟨its,r,pl,hz⟩:=I.list hq;refine SeqAt.notIn_listAt (eqU x) pl.isList (fun w hw=>U1 rx fx r fs w (by simpa using hw)) ⟨.bl _,H,I,rfl,?_⟩;rw[show its.toArray.any (eqU x)=its.any (eqU x) by simp,t7 r fs];exact q
 .obtain⟨its,r,pl,hz⟩:=I.tuple hq;refine SeqAt.notIn_tupleAt (eqU x) pl (fun w hw=>U1 rx fx r fs w (by simpa using hw)) ⟨.bl _,H,I,rfl,?_⟩;rw[show its.toArray.any (eqU x)=its.any (eqU x) by simp,t7 r fs];exact q
theorem Fa:E3 X (.builtin "len") (fun xs H Q=>∃p ys,xs = [.ref p]/\(SqL X.K H p ys\/SqT X.K H p ys)/\Q (.int ys.length) H):=by
 intro pins s σ H xs us Q I r h;obtain⟨p,ys,rfl,hq,q⟩:=h;obtain⟨u,rfl,rx⟩:=Q8 r;cases rx;have hn:=j9;rcases hq with hq | hq
 .obtain⟨its,r',pl,hz⟩:=I.list hq;have hlen:=r'.length;exact Calls.call_len_list pl.isList (by simp only[AR]<;>omega) ⟨.int ys.length,H,I.tok _,⟨s.toks+1,by rw[AR,hlen]⟩,q⟩
 .obtain⟨its,r',pl,hz⟩:=I.tuple hq;have hlen:=r'.length;exact len_tuple pl (by simp only[AR]<;>omega) ⟨.int ys.length,H,I.tok _,⟨s.toks+1,by rw[AR,hlen]⟩,q⟩
theorem Ff:E3 X (.builtin "len") (fun xs H Q=>∃z,xs = [.str z]/\z.length<=sizeLine/\Q (.int z.length) H):=by
 intro pins s σ H xs us Q I r h;obtain⟨z,rfl,hz,q⟩:=h;obtain⟨u,rfl,t,rfl⟩:=Q8 r;have hn:=j9;exact len_str (by omega) ⟨.int z.length,H,I.tok _,⟨_,rfl⟩,q⟩
theorem Cw:E3 X (.type "list") (fun xs H Q=>∃p ys,xs = [.ref p]/\(SqL X.K H p ys\/SqT X.K H p ys)/\∀l,H l=none->Q (.ref l) (upd H l (.lst ys))):=by
 intro pins s σ H xs us Q I r h;obtain⟨p,ys,rfl,hq,q⟩:=h;obtain⟨u,rfl,rx⟩:=Q8 r;cases rx;have fin:∀(its:List Value),Vals ys its->ys.length<=sizeLine->∀(h':Heap) (c':Nat),(∀b o',s.heap.get? b=some o'->h'.get? b=some o') ->
   h'.get? s.heap.objs.size=some { cls:=.type "list",dict:=none,data:=.seq its.toArray c',slots:=#[] }->EP X pins σ Q (.ref s.heap.objs.size) { s with heap:=h' }:=fun its r' hz h' c' kp e =>
  ⟨.ref s.heap.objs.size,_,I.laid (t':=s.toks) kp (Nat.le_refl _) (show ObjOk X.prog X.w _ h' _ (.lst ys)from⟨hz,its,c',r',e⟩),rfl,q _ (I.hok.fresh (Nat.le_refl _))⟩
 rcases hq with hq | hq
 .obtain⟨its,r',pl,hz⟩:=I.list hq;have hlen:=r'.length;obtain⟨o,ho,hc,n,hd⟩:=pl.isList;exact call_list_seq p (.inl rfl) ho hc hd (fun h' c' kp e=>fin its r' hz h' c' kp e) (by simp only[AR]<;>omega)
 .obtain⟨its,r',pl,hz⟩:=I.tuple hq;have hlen:=r'.length;obtain⟨o,ho,hc,n,hd⟩:=pl;exact call_list_seq p (.inr rfl) ho hc hd (fun h' c' kp e=>fin its r' hz h' c' kp e) (by simp only[AR]<;>omega)
def tyV(K:PySem.W.Frag)(T:String)(x:V)(H:Hp):Prop:=match x with
 | .str _=>T = "str"
 | .int _=>T = "int"
 | .ref p=>(T = "list"/\∃xs,SqL K H p xs)\/(T = "tuple"/\∃o,K.lookup p=some o/\o.cls = .type "tuple"/\o.dict=none) \/
   (T = "dict"/\((∃kvs,H p=some (.dK kvs))\/∃kvs,H p=some (.dT kvs)))\/(T = "set"/\∃S n,H p=some (.set S n))
 | _=>False
theorem Zh{pins:List (Addr×Obj)}{σ:St}{H:Hp}{s:Shared}{T:String}{x:V}{v:Value}(I:Inv X pins σ H s)(r:RelV x v)(ty:tyV X.K T x H) :
  s.TypeIs v T/\∀a,v = .ref a->∃ob,s.heap.get? a=some ob/\ob.dict=none:=by
 cases x with
 | str z =>
  obtain⟨t,rfl⟩:=r;cases(show T = "str" from ty);exact⟨typeIs_str s z t,fun _ e=>nomatch e⟩
 | int i =>
  obtain⟨t,rfl⟩:=r;cases(show T = "int" from ty);exact⟨typeIs_int s i t,fun _ e=>nomatch e⟩
 | ref p =>
  cases r;rcases ty with⟨rfl,xs,hq⟩ | ⟨rfl,o,hk,hc,hd⟩ | ⟨rfl,hk⟩ | ⟨rfl,S,n,hk⟩
  .obtain⟨its,_,pl,_⟩:=I.list hq;refine⟨pl.isList.typeIs,fun a e=>?_⟩;cases e;obtain⟨o,n,e,c,hd,_⟩:=pl;exact⟨o,e,hd⟩
  .refine⟨⟨o,I.kIn p o hk,hc⟩,fun a e=>?_⟩;cases e;exact⟨o,I.kIn _ o hk,hd⟩
  .have z:∃o,s.heap.get? p=some o/\o.ExactDict:=by
    rcases hk with⟨kvs,hk⟩ | ⟨kvs,hk⟩
    .obtain⟨_,_,_,_,o,_,_,e,ex,_⟩:=I.hok p _ hk;exact⟨o,e,ex⟩
    .obtain⟨_,_,_,_,o,_,_,e,ex,_⟩:=I.hok p _ hk;exact⟨o,e,ex⟩
   obtain⟨o,e,ex⟩:=z;refine⟨⟨o,e,ex.1⟩,fun a e2=>?_⟩;cases e2;exact⟨o,e,ex.2.1⟩
  .obtain⟨o,_,_,_,e,ex,_⟩:=I.hok p _ hk;refine⟨⟨o,e,ex.1⟩,fun a e2=>?_⟩;cases e2;exact⟨o,e,ex.2.1⟩
 | _=>exact False.elim ty
def tBM(K:PySem.W.Frag)(T:String)(r:V->List V->Hp->VK->Prop)(to:TE)(t:TA):TE:=fun σ H Q=>to σ H fun x H1=>tyV K T x H1/\t σ H1 fun xs H2=>r x xs H2 Q
variable{o e:Expr}{es:List Expr}{to:TE}{t:TA}{name:Str}{apos cpos:Pos}{T id:String}{r:V->List V->Hp->VK->Prop}
theorem zDv(pa:PlainAttrs T)(slot:Slot T name id)(hty:typeOf (.builtin id)=pure (.type "method_descriptor"))(hm:MtR X id r)(ho:PE X o to)(ha:PA X (e::es) t)
  (hbase:attributeBase o name X.env (eval o X.env)=eval o X.env:=by rfl)
  (hfew:((backTo cpos (starEach (e::es) X.env)).all (fun x=>!x.1) &&(backToKw cpos (keywordEach [] X.env)).all (fun x=>x.1.isSome)
   && decide ((e::es).length +([]:List Keyword).length +(if([]:List Keyword).isEmpty then 0 else 1)<30))=true:=by rfl)
  (hline:(apos.endLine == cpos.line)=true:=by rfl) (hs:starEach (e::es) X.env =(false,eval e X.env)::starEach es X.env:=by rfl) (hplain:(backTo cpos (starEach es X.env)).any (·.1)=false:=by rfl) :
  PE X (.Call (.Attribute o name apos) (e::es) [] cpos) (tBM X.K T r to t):=by
 intro pins s σ H Q I h;refine wpAny_Call_method_late hbase hfew hline rfl (thn (ho pins s σ H _ I h) fun v s1 ⟨x,H1,I1,r1,ty,q1⟩=>?_);obtain⟨h1,h2⟩:=Zh I1 r1 ty;refine⟨T,id,pa,slot,hty,h1,h2,?_⟩;have hA:=ha cpos pins s1 σ H1 _ I1 q1;rw[hs]at hA⊢;refine Calls.callWith_builtin (by show(false||(backTo cpos (starEach es X.env)).any (·.1))=false;rw[hplain]<;>rfl) (Calls.evalArgs_plain ?_);exact thn hA fun us s2 ⟨vs,H2,I2,r2,q2⟩=>hm pins s2 σ H2 x vs v us Q I2 r1 r2 q2
end
def MtM(X:Cx)(id:String)(r:V->List V->Hp->VK->Prop):Prop :=
 ∀(pins:List (Addr×Obj)) (s:Shared) (σ:St) (H:Hp) (x:V) (xs:List V) (v:Value) (us:List Value) (Q:VK),Inv X pins σ H s->RelV x v->Vals xs us->r x xs H Q ->
  wpAny (model X.prog X.w) X.A (call (.builtin id) (v::us)) (EP X pins σ Q) X.xe s
theorem Vals.one:∀{x:V} {us:List Value},Vals [x] us->∃u,us = [u]/\RelV x u
 | _,_,.cons r .nil=>⟨_,rfl,r⟩
theorem Vals.two:∀{x y:V} {us:List Value},Vals [x,y] us->∃u v,us = [u,v]/\RelV x u/\RelV y v
 | _,_,_,.cons r (.cons q .nil)=>⟨_,_,rfl,r,q⟩
theorem Vals.reverse{xs:List V}{us:List Value}(h:Vals xs us):Vals xs.reverse us.reverse:=by
 induction h with
 | nil=>exact .nil
 | cons r t ih=>rw[List.reverse_cons,List.reverse_cons];exact Vals.append ih (.cons r .nil)
theorem Vals.rep{xs:List V}{us:List Value}(h:Vals xs us):∀k:Nat,Vals (List.replicate k xs).flatten (List.replicate k us).flatten
 | 0=>.nil
 | k+1=>by
  rw[EO,EO,IB,IB];exact Vals.append h (Vals.rep h k)
theorem Ds(its:List Value):∀(k:Nat) (acc:List Value),
  List.foldl (fun x1 x2=>x1++x2) acc.toArray (List.replicate k its.toArray) =(acc ++(List.replicate k its).flatten).toArray
 | 0,acc=>by simp
 | k+1,acc=>by
  have e:acc.toArray++its.toArray =(acc++its).toArray:=by simp
  have e2:(acc++its) ++(List.replicate k its).flatten=acc ++(List.replicate (k+1) its).flatten:=by
   rw[EO,IB,BK]
  rw[<-e2,<-Ds its k (acc++its),<-e,EO,FX]
section
variable{X:Cx}{pins:List (Addr×Obj)}{σ:St}{H:Hp}{s:Shared}{l b:Addr}{xs ys zs:List V}
theorem Inv.lset{its its':List Value}{n:Nat}{f:Array Value->Array Value}{t':Nat}(I:Inv X pins σ H s)(hH:H l=some (.lst xs))
  (e:s.heap.get? l=some { cls:=.type "list",data:=.seq its.toArray n }) (hf:f its.toArray=its'.toArray) (hv:Vals ys its') (hz:ys.length<=sizeLine) :
  Inv X pins σ (upd H l (.lst ys)) { s with heap:=s.heap.update l (Obj.mapSeq f),toks:=t' }:=by
 have q:=PySem.IsL.update e f;rw[hf]at q;refine I.write (x:=l) (e:=l) (by rw[hH];exact trivial) (.inl rfl) (fun b' u hb hu=>(BP s.heap (Obj.mapSeq f) (Ne.symm hb)).trans hu) ⟨_,q⟩ ?_;exact⟨hz,its',_,hv,q⟩
theorem Inv.lnew{its:List Value}{t':Nat}(I:Inv X pins σ H s)(hv:Vals ys its)(hz:ys.length<=sizeLine) :
  Inv X pins σ (upd H s.heap.objs.size (.lst ys)) { s with heap:=s.heap.push { cls:=.type "list",data:=.seq its.toArray },toks:=t' } :=
 I.laid (fun _ _ q=>AE _ q) (Nat.le_refl _) ⟨hz,its,0,hv,AM _ rfl⟩
theorem Inv.fresh(I:Inv X pins σ H s):H s.heap.objs.size=none:=I.hok.fresh (Nat.le_refl _)
theorem Inv.lstM(I:Inv X pins σ H s)(hH:H l=some (.lst xs)):xs.length<=sizeLine/\∃(its:List Value) (n:Nat),Vals xs its/\xs.length=its.length/\s.heap.get? l=some { cls:=.type "list",data:=.seq its.toArray n }:=by
 obtain⟨z,its,n,r,e⟩:=I.hok l _ hH;exact⟨z,its,n,r,r.length,e⟩
theorem Su{n:Nat}(h:n<=sizeLine):Builtin.List.listTooLong n=false:=by
 unfold Builtin.List.listTooLong;exact AN (by omega)
end
section
variable{X:Cx}
def Gr:V->List V->Hp->VK->Prop:=fun x vs H Q=>∃l xs y,x = .ref l/\vs = [y]/\H l=some (.lst xs)/\xs.length<sizeLine/\Q .non (upd H l (.lst (xs ++ [y])))
theorem E8:MtM X "list.append" Gr:=by
 intro pins s σ H x vs v us Q I rx rv h;obtain⟨l,xs,y,rfl,rfl,hH,hz,q⟩:=h;cases rx;obtain⟨u,rfl,ru⟩:=rv.one;obtain⟨z,its,n,r,hl,e⟩:=I.lstM hH;refine call_meets F.slot_list_append ⟨_,e,rfl⟩ F.entry_list_append (F.args_list_append_2 _ _) (PySem.list_append l its.toArray n u (by rw[AR];omega)) ⟨e,?_⟩;refine⟨.non,_,I.lset (its':=its ++ [u]) hH e (by simp) (r.append (.cons ru .nil)) ?_,rfl,q⟩;rw[BC,DT];omega
def zCo:R2:=fun x y H Q=>∃l b xs zs,x = .ref l/\y = .ref b/\H l=some (.lst xs)/\H b=some (.lst zs)/\xs.length+zs.length<=sizeLine/\∀p,H p=none->Q (.ref p) (upd H p (.lst (xs++zs)))
theorem Av:OpR X (binaryOp .Add) zCo:=by
 intro pins s σ H x y v u Q I rx ry h;obtain⟨l,b,xs,zs,rfl,rfl,hH,hB,hz,q⟩:=h;cases rx;cases ry;obtain⟨z,its,n,r,hl,e⟩:=I.lstM hH;obtain⟨z2,its2,n2,r2,hl2,e2⟩:=I.lstM hB;refine PySem.P.add_list e e2 ?_ (by rw[AR,AR];omega);have ea:its.toArray++its2.toArray =(its++its2).toArray:=by simp
 rw[ea];exact⟨.ref _,_,I.lnew (t':=s.toks) (r.append r2) (by rw[BC];omega),rfl,q _ I.fresh⟩
def zFr:R2:=fun x y H Q=>∃l k xs,x = .ref l/\y = .int k/\H l=some (.lst xs)/\-(2^63)<=k/\k<2^63/\xs.length*k.toNat<=sizeLine /\
 ∀p,H p=none->Q (.ref p) (upd H p (.lst (List.replicate k.toNat xs).flatten))
theorem Ym{α:Type}(xs:List α)(k:Nat):(List.replicate k xs).flatten.length=k*xs.length:=by
 induction k with
 | zero=>simp
 | succ k ih=>rw[EO,IB,BC,ih,Nat.succ_mul,Nat.add_comm]
theorem Yv:OpR X (binaryOp .Mult) zFr:=by
 intro pins s σ H x y v u Q I rx ry h;obtain⟨l,k,xs,rfl,rfl,hH,h1,h2,hz,q⟩:=h;cases rx;obtain⟨t,rfl⟩:=ry;obtain⟨z,its,n,r,hl,e⟩:=I.lstM hH;have hlen:its.toArray.size*k.toNat<=sizeLine:=by rw[AR,<-hl];exact hz
 have hcap:¬its.toArray.size*k.toNat >(2^63-1) / 8:=by
  have:(sizeLine:Nat)<=(2^63-1) / 8:=by decide
  omega
 have hfit:¬(!Builtin.List.listFitsIndex k)=true:=by
  rw[fitsIndex_both h1 h2];exact BB
 have hlong:¬Builtin.List.listTooLong (its.toArray.size*k.toNat)=true:=by
  rw[Su hlen];exact BB
 have hnew:List.foldl (fun x1 x2=>x1++x2) #[] (List.replicate (if its.toArray.isEmpty=true then 0 else k.toNat) its.toArray) =(List.replicate k.toNat its).flatten.toArray:=by
  have f0:∀m:Nat,List.foldl (fun x1 x2=>x1++x2) #[] (List.replicate m its.toArray) =(List.replicate m its).flatten.toArray:=fun m=>by
   have:=Ds its m [];rw[GS]at this;exact this
  rw[f0];cases its with
  | nil=>simp
  | cons a r'=>rw[AK (by simp)]
 refine wpAny_binaryOp_repeat_ref (T := "list") (U := "int") (by decide) ⟨_,e,rfl⟩ (fun s'=>typeIs_int s' k t) noFill_list_mul F.fills_int_mul F.slot_int_rmul repeat_list F.slot_int_index.lookup
  (call_meets F.slot_int_rmul (typeIs_int s k t) F.entry_int_rmul (F.args_int_rmul_2 _ _) (int___rmul___int_list k t l its.toArray n)
   ⟨e,rfl,⟨_,e,rfl⟩,call_meets F.slot_list_mul ⟨_,e,rfl⟩ F.entry_list_mul (F.args_list_mul_2 _ _) (AutoListH.list___mul___list_int_3 l its.toArray n k t hfit hcap hlong) ⟨e,?_⟩⟩)
 rw[hnew];exact⟨.ref _,_,I.lnew (t':=s.toks) (r.rep k.toNat) (by rw[Ym,Nat.mul_comm];exact hz),rfl,q _ I.fresh⟩
end
section
variable{Z:Type}[DecidableEq Z]
def Q3(kvs:List (Z×V))(k:Z):Option V:=(kvs.find? fun kv=>decide (kv.1=k)).map (·.2)
def Ik(kvs:List (Z×V))(k:Z)(v:V):List (Z×V) :=
 if(kvs.any fun kv=>decide (kv.1=k))=true then kvs.map (fun kv=>if kv.1=k then(kv.1,v)else kv)else kvs ++ [(k,v)]
theorem F9{p:Z×V}{r:List (Z×V)}{k:Z}(e:p.1=k):Q3 (p::r) k=some p.2:=by simp[Q3,FI,e]
theorem F8{p:Z×V}{r:List (Z×V)}{k:Z}(e:¬p.1=k):Q3 (p::r) k=Q3 r k:=by simp[Q3,FI,e]
theorem i5(k:Z):∀kvs:List (Z×V),(kvs.any fun kv=>decide (kv.1=k)) =(Q3 kvs k).isSome
 | []=>rfl
 | p::r=>by
  rw[HM];by_cases e:p.1=k
  .simp only[F9 e,AZ e,Bool.true_or,Option.isSome_some]
  .rw[F8 e,AN e,Bool.false_or];exact i5 k r
theorem Jp(k j:Z)(y:V):∀kvs:List (Z×V),Q3 (kvs.map fun kv=>if kv.1=k then(kv.1,y)else kv) j =(Q3 kvs j).map fun x=>if j=k then y else x
 | []=>rfl
 | p::r=>by
  have ih:=Jp k j y r;rw[AW];by_cases h:p.1=k
  .rw[AO h];by_cases e:p.1=j
   .rw[F9 (p:=(p.1,y)) e,F9 e,HR,AO (e.symm.trans h)]
   .rw[F8 (p:=(p.1,y)) e,F8 e,ih]
  .rw[AK h];by_cases e:p.1=j
   .rw[F9 (p:=p) e,F9 e,HR,AK (fun z=>h (e.trans z))]
   .rw[F8 (p:=p) e,F8 e,ih]
theorem Du(k j:Z)(y:V):∀kvs:List (Z×V),Q3 kvs k=none->Q3 (kvs ++ [(k,y)]) j=if j=k then some y else Q3 kvs j
 | [],_=>by
  by_cases e:k=j
  .rw[AO e.symm];exact F9 (p:=(k,y)) e
  .rw[AK (fun z=>e z.symm)];exact F8 (p:=(k,y)) e
 | p::r,hn=>by
  rw[List.cons_append];have hk:¬p.1=k:=fun z=>by rw[F9 z]at hn;cases hn
  rw[F8 hk]at hn;have ih:=Du k j y r hn;by_cases e:p.1=j
  .rw[F9 e,F9 e,AK (fun z=>hk (e.trans z))]
  .rw[F8 e,F8 e,ih]
theorem Rc(kvs:List (Z×V))(k j:Z)(y:V):Q3 (Ik kvs k y) j=if j=k then some y else Q3 kvs j:=by
 unfold Ik;by_cases a:(kvs.any fun kv=>decide (kv.1=k))=true
 .rw[AO a,Jp];rw[i5]at a;by_cases e:j=k
  .obtain⟨x,hx⟩:=GD.mp a;rw[AO e,e,hx,HR,AO rfl]
  .rw[AK e];cases Q3 kvs j with
   | none=>rfl
   | some x=>rw[HR,AK e]
 .rw[AK a];refine Du k j y kvs ?_;rw[i5]at a;cases q:Q3 kvs k with
  | none=>rfl
  | some x=>rw[q]at a;exact(a rfl).elim
theorem w9(kvs:List (Z×V))(k:Z)(v:V):(Ik kvs k v).length<=kvs.length+1:=by
 unfold Ik;split
 .rw[AB];omega
 .rw[BC,BL,GR];omega
theorem Ue{kvs:List (Z×V)}{k:Z}(v:V)(h:Q3 kvs k=none):Ik kvs k v=kvs ++ [(k,v)]:=by
 unfold Ik;rw[i5,h];exact AK (by decide)
theorem KV.val{kvs:List (Z×V)}{vs:List (Z×Value)}(r:KV kvs vs)(k:Z):RelO (Q3 kvs k) (valueAt vs k):=by
 unfold KV at r
 induction r with
 | nil=>exact True.intro
 | @cons p q ps qs h t ih =>
  obtain⟨h1,h2⟩:=h;by_cases e:p.1=k
  .have e':q.1=k:=h1.symm.trans e;have b:valueAt (q::qs) k=some q.2:=by simp[valueAt,FI,e']
   rw[F9 e,b];exact h2
  .have e':¬q.1=k:=fun z=>e (h1.trans z);have b:valueAt (q::qs) k=valueAt qs k:=by simp[valueAt,FI,e']
   rw[F8 e,b];exact ih
theorem KV.any{kvs:List (Z×V)}{vs:List (Z×Value)}(r:KV kvs vs)(k:Z):(kvs.any fun kv=>decide (kv.1=k))=vs.any fun kv=>decide (kv.1=k):=by
 unfold KV at r
 induction r with
 | nil=>rfl
 | cons h t ih=>rw[HM,HM,ih,h.1]
theorem KV.repl{kvs:List (Z×V)}{vs:List (Z×Value)}(r:KV kvs vs)(k:Z){y:V}{u:Value}(ry:RelV y u) :
  KV (kvs.map fun kv=>if kv.1=k then(kv.1,y)else kv) (vs.map fun kv=>if kv.1=k then(kv.1,u)else kv):=by
 unfold KV at r⊢
 induction r with
 | nil=>exact .nil
 | @cons p q ps qs h t ih =>
  rw[AW,AW];refine .cons ?_ ih;obtain⟨h1,h2⟩:=h;by_cases e:p.1=k
  .rw[AO e,AO (h1.symm.trans e)];exact⟨h1,ry⟩
  .rw[AK e,AK (fun z=>e (h1.trans z))];exact⟨h1,h2⟩
theorem KV.put{kvs:List (Z×V)}{vs:List (Z×Value)}(r:KV kvs vs)(k:Z){y:V}{u:Value}(ry:RelV y u):KV (Ik kvs k y) (stored vs k u):=by
 unfold Ik stored;rw[r.any k];by_cases e:(vs.any fun kv=>decide (kv.1=k))=true
 .rw[AO e,AO e];exact r.repl k ry
 .rw[AK e,AK e];exact Paired.snoc r ⟨rfl,ry⟩
theorem KV.length{kvs:List (Z×V)}{vs:List (Z×Value)}(r:KV kvs vs):kvs.length=vs.length:=Paired.length r
end
theorem Qs{P:Program}{w:World}{k:Key}{u:Value}(r:RelV (kV k) u):(B9 P w).is k u=true:=by
 cases k with
 | inl i=>obtain⟨t,e⟩:=(show ∃t,u=Value.int i t from r);subst e;exact Gy P w i t
 | inr x=>obtain⟨t,e⟩:=(show ∃t,u=Value.str x t from r);subst e;exact Hr P w x t
theorem Eb{P:Program}{w:World}:∀{ks:List Key} {us:List Value},Vals (ks.map kV) us->ItemsAre (B9 P w) ks us
 | [],_,r=>by rw[IA]at r;cases r;exact .nil
 | k::ks,_,r=>by
  rw[AW]at r;cases r with
  | cons h t=>exact .cons (Qs h) (Eb t)
abbrev KT(H:Hp):List (List Key×V)->List (List Key×Addr×Value)->Prop:=Paired fun p q=>p.1=q.1/\H q.2.1=some (.tup (p.1.map kV))/\RelV p.2 q.2.2
theorem KT.val{H:Hp}{kvs:List (List Key×V)}{xs:List (List Key×Addr×Value)}(r:KT H kvs xs)(k:List Key):RelO (Q3 kvs k) ((atKey xs k).map (·.2)):=by
 induction r with
 | nil=>exact True.intro
 | @cons p q ps qs h t ih =>
  obtain⟨h1,_,h2⟩:=h;by_cases e:p.1=k
  .have e':q.1=k:=h1.symm.trans e;have b:atKey (q::qs) k=some q.2:=by simp[atKey,FI,e']
   rw[F9 e,b];exact h2
  .have e':¬q.1=k:=fun z=>e (h1.trans z);have b:atKey (q::qs) k=atKey qs k:=by simp[atKey,FI,e']
   rw[F8 e,b];exact ih
section
variable{P:Program}{w:World}{H:Hp}{h:Heap}{a:Addr}
theorem Zd{u:HO}(ok:HOk P w H h)(e:Rd H a u):ObjOk P w H h a u:=e.ok ok
theorem Ua{kvs:List (Key×V)}(ok:HOk P w H h)(e:Rd H a (.dK kvs)):kvs.length<=sizeLine/\(a == sysModules)=false/\∃vs,KV kvs vs/\h.DictOf (B9 P w) a vs :=
 show ObjOk P w H h a (.dK kvs)from Zd ok e
theorem zCd{kvs:List (Key×V)}(ok:HOk P w H h)(e:H a=some (.dK kvs)):kvs.length<=sizeLine/\(a == sysModules)=false/\∃vs,KV kvs vs/\h.DictOf (B9 P w) a vs:=Ua ok (.inl e)
theorem Ak{ks:List Key}(ok:HOk P w H h)(e:H a=some (.tup (ks.map kV))):(tupleKind (B9 P w)).is h ks a:=by
 obtain⟨_,its,r,o,h1,h2,n,h3⟩:=(show ObjOk P w H h a (.tup (ks.map kV))from ok a _ e);exact⟨o,its.toArray,n,h1,h2,h3,by simpa using Eb r⟩
theorem Wz{kvs:List (List Key×V)}(ok:HOk P w H h)(e:Rd H a (.dT kvs)):kvs.length<=sizeLine/\(a == sysModules)=false /\
  ∃xs,KT H kvs xs/\h.DictOfH (tupleKind (B9 P w)) a xs:=by
 obtain⟨z,y,xs,r,o,es,ep,h1,h2,h3,h4,h5⟩:=(show ObjOk P w H h a (.dT kvs)from Zd ok e);refine⟨z,y,xs,r,o,es,ep,h1,h2,h3,h4,fun x hx=>?_,h5⟩;have all:∀{l:List (List Key×V)} {m:List (List Key×Addr×Value)},KT H l m->∀x∈m,(tupleKind (B9 P w)).is h x.1 x.2.1:=by
  intro l m q
  induction q with
  | nil=>intro x hx;exact nomatch hx
  | @cons p q ps qs hq t ih =>
   intro x hx;rcases AV.mp hx with e | hx
   .subst e;exact Ak ok (by rw[<-hq.1];exact hq.2.1)
   .exact ih x hx
 exact all r x hx
end
def DGet(H:Hp)(a:Addr)(y:V)(r:Option V):Prop :=
 (∃kvs k,Rd H a (.dK kvs)/\y=kV k/\r=Q3 kvs k)\/∃kvs k b,Rd H a (.dT kvs)/\y = .ref b/\H b=some (.tup (k.map kV))/\r=Q3 kvs k
theorem DGet.k{H:Hp}{a:Addr}{kvs:List (Key×V)}{k:Key}(e:H a=some (.dK kvs)):DGet H a (kV k) (Q3 kvs k):=.inl ⟨kvs,k,.inl e,rfl,rfl⟩
section
variable{X:Cx}{pins:List (Addr×Obj)}{σ:St}{H:Hp}{s:Shared}{a:Addr}{y v:V}{u r:Value}{o:Option V}{A:Around}{E:Value->Shared->Prop}
theorem Inv.big(I:Inv X pins σ H s):sysModules<s.heap.objs.size:=by
 have h:mainGlobals<s.heap.objs.size:=(I.mod.glob.keeps I.bk).lt;exact Nat.lt_trans (by decide) h
theorem Nb{Q:Value->Shared->Prop}(hu:A.units+1<cLine)(I:Inv X pins σ H s)(g:DGet H a y (some v))(ry:RelV y u)(h:∀w' s',Inv X pins σ H s'->RelV v w'->Q w' s') :
  wpAny (model X.prog X.w) A (getItem (.ref a) u) Q E s:=by
 rcases g with⟨kvs,k,e,ey,l⟩ | ⟨kvs,k,b,e,ey,eb,l⟩
 .subst ey;obtain⟨z,hd,vs,rel,dd⟩:=Ua I.hok e;obtain⟨w',hw,rw'⟩:=RelO.some_of (v:=v) (o:=valueAt vs k) (by rw[l];exact rel.val k);exact wpAny_getItem_of (Qs ry) dd.mapOf hw (h w' _ (I.tok _) rw')
 .subst ey;cases(show u=Value.ref b from ry);obtain⟨z,hd,xs,rel,dd⟩:=Wz I.hok e;obtain⟨w',hw,rw'⟩:=RelO.some_of (v:=v) (o:=(atKey xs k).map (·.2)) (by rw[l];exact rel.val k);obtain⟨p,hp,hp2⟩:=BU.mp hw;refine wpAny_getItem_heap (tupleKind_room_in1 hu) (Ak I.hok eb) dd hp ?_;rw[hp2];exact h w' _ (I.tok _) rw'
theorem Vt{h':Heap}{t':Nat}{ob:HO}(I:Inv X pins σ H s)(mu:Mut (H a))(hs:Heap.SameBut a s.heap h')(he:∃q,h'.get? a=some q)(new:ObjOk X.prog X.w (upd H a ob) h' a ob) :
  Inv X pins σ (upd H a ob) { s with heap:=h',toks:=t' } :=
 I.write (x:=a) (e:=a) mu (.inl rfl) (fun b q hb z=>(hs.2 b hb).trans z) he new
theorem zBb{P:Program}{w:World}{H':Hp}{h':Heap}{kvs:List (Key×V)}{vs:List (Key×Value)}(z:kvs.length<=sizeLine)(hd:(a == sysModules)=false)(rel:KV kvs vs)(dd:h'.DictOf (B9 P w) a vs) :
  ObjOk P w H' h' a (.dK kvs):=⟨z,hd,vs,rel,dd⟩
end
def zFj(i:Expr):Prop:=∀ov iv,subscripted i false ov iv=operate [ov,iv] (getItem ov iv)
theorem Vy{prog:Program}{w:World}{A:Around}{E:Value->Shared->Prop}{s:Shared}{env:Env}{value slice:Expr}{pos:Pos}{T id:String}{Q:Value->Shared->Prop}
  (hl:typeLookup (.type T) "__getitem__" = pure (some (.builtin id))) (hs:zFj slice)
  (h:wpAny (model prog w) A (eval value env) (fun o s₁=>wpAny (model prog w) A (eval slice env) (fun i s₂=>s₂.TypeIs o T/\wpAny (model prog w) A (getItem o i) Q E s₂) E s₁) E s) :
  wpAny (model prog w) A (eval (.Subscript value slice pos) env) Q E s:=by
 refine Subscript_ (BR h (fun o s₁ h₁=>BR h₁ (fun i s₂ h₂=>?_) fun _ _ x=>x) fun _ _ x=>x);obtain⟨hT,h₂⟩:=h₂;unfold subscriptTail;refine AA ?_;rw[getitemInPython_of_ne hT.not_modules];refine AA (GU hT hl ?_);have fin:wpAny (model prog w) A (subscripted slice false o i) (fun r s₃=>wpAny (model prog w) A (letTemporaryGo value o r >>= fun _=>pure r) Q E s₃) E s₂:=by
  rw[hs o i];exact wpAny_operating (BR h₂ (fun r s₃ h₃=>AA (wpAny_letTemporaryGo (AD h₃))) fun _ _ x=>x)
 first
  | exact AD (AA fin)
  | exact AA (AD (AA fin))
  | exact AA fin
theorem Gz{X:Cx}{pins:List (Addr×Obj)}{σ:St}{H:Hp}{s:Shared}{a:Addr}{y:V}{o:Option V}(I:Inv X pins σ H s)(g:DGet H a y o):s.TypeIs (.ref a) "dict":=by
 rcases g with⟨kvs,k,e,_,_⟩ | ⟨kvs,k,b,e,_,_,_⟩
 .obtain⟨_,_,vs,_,dd⟩:=Ua I.hok e;exact dd.typeIs
 .obtain⟨_,_,xs,_,dd⟩:=Wz I.hok e;exact dd.typeIs
def Zf(td ty:TE):TE:=fun σ H Q=>td σ H fun x H1=>ty σ H1 fun y H2=>∃a v,x = .ref a/\DGet H2 a y (some v)/\Q v H2
section
variable{X:Cx}{o i e value:Expr}{pos pos' tpos:Pos}{td ty tv:TE}
theorem I9(hu:X.A.units+1<cLine)(ho:PE X o td)(hi:PE X i ty)(hs:zFj i):PE X (.Subscript o i pos) (Zf td ty):=by
 intro pins s σ H Q I h;refine Vy PySem.F.slot_dict_getitem.lookup hs (thn (ho pins s σ H _ I h) fun u s1 ⟨x,H1,I1,rx,q1⟩=>thn (hi pins s1 σ H1 _ I1 q1) fun iv s2 ⟨y,H2,I2,ry,a,v,ex,g,q2⟩=>?_);subst ex;obtain rfl:u=Value.ref a:=rx;exact⟨Gz I2 g,Nb hu I2 g ry fun w' s3 I3 rw'=>⟨v,H2,I3,rw',q2⟩⟩
end
theorem Rt{P:Program}{w:World}{H:Hp}(h:Heap)(hb:sysModules<h.objs.size):ObjOk P w H (h.push { cls:=.type "dict",data:=.dict #[] }) h.objs.size (.dK []) :=
 ⟨CD _,beq_eq_false_iff_ne.mpr (Ne.symm (A_ hb)),[],.nil,Heap.DictOf.new h⟩
def IsD(H:Hp)(a:Addr):Prop:=(∃kvs,Rd H a (.dK kvs))\/∃kvs,Rd H a (.dT kvs)
theorem zCf{X:Cx}{pins:List (Addr×Obj)}{σ:St}{H:Hp}{s:Shared}{a:Addr}(I:Inv X pins σ H s)(d:IsD H a) :
  s.TypeIs (.ref a) "dict"/\(∀b,Value.ref a = .ref b->∃ob,s.heap.get? b=some ob/\ob.dict=none)/\(a == sysModules)=false:=by
 rcases d with⟨kvs,e⟩ | ⟨kvs,e⟩
 .obtain⟨_,hd,vs,_,dd⟩:=Ua I.hok e;refine⟨dd.typeIs,fun b q=>?_,hd⟩;cases q;obtain⟨ob,_,_,h1,h2,_⟩:=dd;exact⟨ob,h1,h2.2.1⟩
 .obtain⟨_,hd,xs,_,dd⟩:=Wz I.hok e;refine⟨dd.typeIs,fun b q=>?_,hd⟩;cases q;obtain⟨ob,_,_,h1,h2,_⟩:=dd;exact⟨ob,h1,h2.2.1⟩
end L2
namespace Att
open PySem PySem.W PySem.Calls PyProof.Rows
theorem j8{P:Params}{h:Heap}:∀(ns:List Int) (vs:List Value),WellAll P h vs (ns.map WData.int)->IntsAre vs ns:=by
 intro ns
 induction ns with
 | nil =>
  intro vs w;rw[IA]at w;cases w;exact .nil
 | cons n ns ih =>
  intro vs w;rw[AW]at w;cases w with
  | cons a b =>
   cases a;exact .cons _ _ (ih _ b)
theorem Mw{l:OpenLaw}{n:Nat}(hn:l.most=some n){P:Params}{h:Heap}{args:List WData}{vals:List Value}
  (hpre:l.row.toRowW.claim.pre args=true) (hwl:WellAll P h vals args) :
  ∃a vs ns,vals = [Value.ref a]/\args = [WData.list (ns.map WData.int)]/\h.get? a=some { cls:=.type "list",data:=.seq vs.toArray }/\IntsAre vs ns/\ns.length<=n:=by
 have hsh:WShape.hasAll [] args [.list .int]=true:=(pre_splitW hpre).1;have hc:l.pre.holds [] { args:=args }=true:=(pre_splitW hpre).2;obtain⟨d,r,rfl,h1,h2⟩:=hasAllW_cons hsh;obtain rfl:=hasAllW_nil h2;obtain⟨xs,rfl,h3⟩:=hasW_list h1;obtain⟨ns,rfl⟩:=items_int h3;have hlen:ns.length<=n:=by
  unfold OpenLaw.pre at hc;have h4:(WTm.not (.lt (.lit (.int (n:Int))) (.len (.arg 0)))).holds [] { args:=[.list (ns.map .int)] }=true:=by
   have h4:=(holds_andW hc).1;rw[hn]at h4;exact h4
  have h5:=condW_of h4 (w_not (w_lt w_lit (w_len_list (w_arg rfl))));rw[AB]at h5;refine Nat.le_of_not_lt fun q=>?_;have q':(n:Int) <((ns.length:Nat):Int):=by omega
  first
   | (rw[AZ q']at h5;exact absurd h5 (by decide))
   | (simp at h5;omega)
 cases hwl with
 | cons w1 w2 =>
  cases w2;cases w1 with
  | list ho hall=>exact⟨_,_,ns,rfl,rfl,ho,j8 ns _ hall,hlen⟩
theorem Qe(l:OpenLaw)(args:List WData):l.row.toRowW.claim.post args (.bool true) args=true :=
 postW_of (r:=l.row.toRowW) (X:=(true == true))
  (show WShape.has [] (.bool true) .bool=true by first | rfl | decide | simp[WShape.has,WShape.arms,WShape.armsAll])
  (show(WTm.eq .res (.lit (.bool true))).value [] { args:=args,res:=some (.bool true),after:=args }=some (.bool (true == true))from w_eq_bool (w_res rfl) w_lit) rfl
theorem attach_call{l:OpenLaw}{n:Nat}{q:Program}{loose:List Str}{XP:(Str->Option Value)->Heap->Prop}{YP:World->Heap->Prop}{d:DefRec}
  (hn:l.most=some n) (hdf:d.params.defaults = [])
  (call:∀(w:World) (s₀ s₁:Shared) (mg mb:Str->Option Value) (fa:Addr) (o:Obj) (pm cd doc:Value) (a:Addr) (vs:List Value) (ns:List Int),
   Ground q loose [] XP w s₀ mg mb s₁.heap->YP w s₁.heap ->
   s₁.heap.get? fa=some o->o.data = .func (docDef d.name d.params d.body d.scope pm cd doc)->s₁.heap.CodeRec cd d.name->mg d.name=some (.ref fa) ->
   s₁.heap.get? a=some { cls:=.type "list",data:=.seq vs.toArray }->IntsAre vs ns->ns.length<=n->s₁.gens = #[] ->
   codeAny (model l.prog w) callerA (.call (.ref fa) ⟨[.ref a],[]⟩) (fun r s'=>r = .ok (.ret (.bool true))/\OldK s₁.heap s'.heap/\s'.os=s₁.os/\AllBare s'.gens) s₁) :
  WalkO q loose XP YP l.row.toRowW d [] (fun f vs=>PySem.call f vs):=by
 intro w s₀ s₁ mg mb G Y fa o pm cd doc dV kV ho hd hcd hD hmg hg args vals as hpre hlay hrd hwl hlo;obtain rfl:dV = .none:=Dflts.none hD hdf;obtain rfl:kV = .none:=Dflts.noKw hD;obtain⟨a,vs,ns,rfl,rfl,hobj,hints,hlen⟩:=Mw hn hpre hwl;refine enter_call (H_ (call w s₀ s₁ mg mb fa o pm cd doc a vs ns G Y ho (fd_plain hd) hcd hmg hobj hints hlen hg) fun r s' hq=>?_);obtain⟨rfl,h2,h3,h4⟩:=hq;exact⟨.inl ⟨.bool true,.bool true,[],rfl,fun _=>rfl,.bool true,Qe l _,fun _=>⟨List.Pairwise.nil,fun _ hm=>(nomatch hm)⟩⟩,h2,h3,h4⟩
end Att
namespace L2
open PySem PySem.Spec PyProof.Rows
theorem Ek:∀{vs:List Value} {ns:List Int},IntsAre vs ns->Vals (ns.map V.int) vs
 | _,_,.nil=>.nil
 | _,_,.cons n t h=>.cons ⟨t,rfl⟩ (Ek h)
def zEl(H:Hp):Prop:=∀b,H b=none\/∃o xs,H b=some (.frz o (.lst xs))
theorem Sa{P:Program}{w:World}{K:PySem.W.Frag}{mg mb:Str->Option Value}{CX:CXT}{k:Nat}{fa a:Addr}{fd:FuncData}{x:Str}{sp:Sp}{s₁:Shared}{vs:List Value}{ns:List Int}
  (KX:K.In s₁.heap) (hns:s₁.heap.Ns mainGlobals mg) (hb:s₁.heap.Ns builtinsNs mb) (hbb:∀x:Str,x≠ "__name__"->mb x=bootBuiltins x) (hlim:s₁.heap.NoLimit) (hg:s₁.gens = #[])
  (ha:s₁.heap.get? a=some { cls:=.type "list",data:=.seq vs.toArray }) (hi:IntsAre vs ns) (hl:ns.length<=sizeLine) (hr:Room k callerA)
  (F:∀base:Heap,K.In base->base.Ns mainGlobals mg->FnOk P w K mg base CX k fa fd [x] sp) (hbind:∀(s:Shared) (u:Value),BindsTo s fd ⟨[u],[]⟩ [(x,u)])
  (hsp:∀H:Hp,zEl H->SqL K H a (ns.map V.int)->sp [.ref a] H (fun v _=>v = .bl true) fun _ _ _=>False)
  (hCX:∀H e s',CX [] H s₁ (fun _ _ _=>False) e s'->False) :
  codeAny (model P w) callerA (.call (.ref fa) ⟨[.ref a],[]⟩) (fun r s'=>r = .ok (.ret (.bool true))/\OldK s₁.heap s'.heap/\s'.os=s₁.os/\AllBare s'.gens) s₁:=by
 have rv:=Ek hi;have lenV:=hi.length;have core:∀H:Hp,zEl H->SqL K H a (ns.map V.int)->HOk P w H s₁.heap->(∀b,H b≠none->b=a)->(H a≠none->K.lookup a=none) ->
   codeAny (model P w) callerA (.call (.ref fa) ⟨[.ref a],[]⟩) (fun r s'=>r = .ok (.ret (.bool true))/\OldK s₁.heap s'.heap/\s'.os=s₁.os/\AllBare s'.gens) s₁:=by
  intro H hO hS hok hA hK;have base_of:∀{b:Addr} {o:Obj},s₁.heap.get? b=some o->H b=none->(Rx s₁.heap H).get? b=some o:=fun e n=>Tk e n;have noA:∀{b:Addr} {o:Obj} {es:Array DictEntry} {ep:Nat},s₁.heap.get? b=some o->o.data = .dict es ep->H b=none:=fun{b o es ep} e d=>by
   cases q:H b with
   | none=>rfl
   | some u =>
    have e':b=a:=hA b (by rw[q];simp);subst e';rw[ha]at e;cases e;have d':Data.seq vs.toArray _=Data.dict es ep:=d;cases d'
  have nsK:∀{b:Addr} {m:Str->Option Value},s₁.heap.Ns b m->(Rx s₁.heap H).Ns b m:=fun{b m} ⟨o,es,ep,e,d,r⟩=>⟨o,es,ep,base_of e (noA e d),d,r⟩;have hKb:K.In (Rx s₁.heap H):=fun b o e=>base_of (KX b o e) (by
   cases q:H b with
   | none=>rfl
   | some u =>
    have e':b=a:=hA b (by rw[q];simp);subst e';rw[hK (by rw[q];simp)]at e;cases e)
  have hM:Mod K mg (Rx s₁.heap H):=⟨hKb,nsK hns,⟨mb,nsK hb,hbb⟩,let⟨mc,h1,h2⟩:=hlim;⟨mc,nsK h1,h2⟩⟩;have e0:Env0 P w K mg (Rx s₁.heap H) callerA [] s₁ H:=⟨rfl,hM,fun b o e=>Xd e,Nat.le_of_eq (Py _ _),trivial,fun b hb=>absurd (show b∈([]:List Addr)from hb) (by simp),hok,.of_eq hg⟩;refine H_ ((F _ hKb (nsK hns)).run callerA [] s₁ H ⟨[.ref a],[]⟩ [.ref a] [.ref a] _ _ hr e0 (hbind s₁ (.ref a)) (.cons rfl .nil) (hsp H hO hS)) fun r s' h=>?_;cases r with
  | error e=>exact(hCX H e s' h).elim
  | ok fl =>
   cases fl with
   | next=>exact False.elim h
   | brk=>exact False.elim h
   | cont=>exact False.elim h
   | ret u =>
    obtain⟨v,H',os,bare,un,hok',r',q⟩:=h;have q':v = .bl true:=q;subst q';obtain rfl:u=Value.bool true:=r';refine⟨rfl,OldK.of_keep fun b o e=>?_,os,bare⟩;cases q:H b with
    | none=>exact un.keep b o e q (by intro z;exact absurd (show b∈([]:List Addr)from z) (by simp)) (by simp)
    | some u =>
     rcases hO b with z | ⟨ob,xs,z⟩
     .rw[q]at z;cases z
     .have z2:=un.frzs b ob _ z;obtain⟨e1,_⟩:=hok b _ z;obtain⟨e2,_⟩:=hok' b _ z2;rw[e]at e1;cases e1;exact e2
 cases hk:K.lookup a with
 | some o =>
  have e:=KX a o hk;rw[ha]at e;cases e;refine core (fun _=>none) (fun _=>.inl rfl) (.inr ⟨_,vs.toArray,_,hk,rfl,rfl,rfl,by rw[AR,lenV];exact hl,by simpa using rv⟩) (fun b u z=>by have z':(none:Option HO)=some u:=z;cases z') (fun b z=>absurd rfl z) fun z=>absurd rfl z
 | none =>
  refine core (fun b=>if b=a then some (.frz { cls:=.type "list",data:=.seq vs.toArray } (.lst (ns.map V.int)))else none) (fun b=>?_) (.inl (.inr ⟨{ cls:=.type "list",data:=.seq vs.toArray },AO rfl⟩)) (fun b u z=>?_) (fun b z=>?_) fun _=>hk
  .by_cases hb:b=a
   .exact .inr ⟨_,_,AO hb⟩
   .exact .inl (AK hb)
  .by_cases hb:b=a
   .have z':=(AO hb).symm.trans z;cases z';subst hb;exact⟨ha,by rw[AB];exact hl,vs,_,rv,ha⟩
   .have z':=(AK hb).symm.trans z;cases z'
  .by_cases hb:b=a
   .exact hb
   .exact absurd (AK hb) z
theorem walk_of{l:PySem.W.OpenLaw}{n k:Nat}{q:Program}{loose:List Str}{XP:(Str->Option Value)->Heap->Prop}{YP:World->Heap->Prop}{d:DefRec}{K:Params->PySem.W.Frag}{CX:World->CXT}{sp:World->Sp}{x:Str}
  (hn:l.most=some n) (hn2:n<=sizeLine) (hdf:d.params.defaults = []) (hr:Room k callerA)
  (hY:∀(w:World) (h:Heap),YP w h->(K w.params).In h)
  (F:∀(w:World) (mg:Str->Option Value) (fa:Addr) (h:Heap),(K w.params).In h->h.Ns mainGlobals mg->mg d.name=some (.ref fa) ->
   ∃fd:FuncData,(∀(s:Shared) (u:Value),BindsTo s fd ⟨[u],[]⟩ [(x,u)]) /\
    ∀base:Heap,(K w.params).In base->base.Ns mainGlobals mg->FnOk l.prog w (K w.params) mg base (CX w) k fa fd [x] (sp w))
  (hsp:∀(w:World) (H:Hp) (a:Addr) (ns:List Int),ns.length<=n->zEl H->SqL (K w.params) H a (ns.map V.int)->sp w [.ref a] H (fun v _=>v = .bl true) fun _ _ _=>False)
  (hCX:∀(w:World) (H:Hp) (s:Shared) (e:Value) (s':Shared),CX w [] H s (fun _ _ _=>False) e s'->False) :
  PySem.W.WalkO q loose XP YP l.row.toRowW d [] (fun f vs=>PySem.call f vs):=by
 refine Att.attach_call hn hdf fun w s₀ s₁ mg mb fa o pm cd doc a vs ns G Y ho hd hcd hmg hobj hints hlen hg=>?_;have KX:=hY w _ Y;obtain⟨fd,hb,hF⟩:=F w mg fa _ KX G.T.g hmg;exact Sa KX G.T.g G.T.b G.T.builtins G.T.nolimit hg hobj hints (Nat.le_trans hlen hn2) hr hF hb (fun H hO hS=>hsp w H a ns hlen hO hS) fun H e s'=>hCX w H s₁ e s'
def E7(s:Stmt)(j:Nat):Stmt:=match s with
 | .ClassDef _ _ _ body _ _ _ _ _ _ _=>body.getD j (.Pass ⟨0,0,0,0⟩)
 | _=>.Pass ⟨0,0,0,0⟩
def K7(s:Stmt):Arguments:=match s with
 | .FunctionDef _ a _ _ _ _ _ _ _ _=>a
 | _=>{ posonlyargs:=[],args:=[],vararg:=none,kwonlyargs:=[],kw_defaults:=[],kwarg:=none,defaults:=[] }
def I0(s:Stmt):List Stmt:=match s with
 | .FunctionDef _ _ b _ _ _ _ _ _ _=>b
 | _=>[]
def B4(s:Stmt):Scope:=match s with
 | .FunctionDef _ _ _ _ _ _ sc _ _ _=>sc
 | _=>{ kind:=.function,names:=[],isGenerator:=false,isCoroutine:=false }
abbrev CX0:CXT:=fun _ _ _ _ _ _=>False
abbrev E0:XK:=fun _ _ _=>False
theorem G6{X:Cx}:S2 CX0 X E0:=fun _ _ _ _ _ _ _ h=>h.elim
structure Fun(K:PySem.W.Frag)(x qual:Str)(st:Stmt)(f:Addr)(fd:FuncData):Prop where
 ex:∃(oc:Value) (od:Option Addr) (kV doc pm:Value) (an:Option Addr) (cdv ct:Value) (osl:Array (Option Value)),
  fd=PySem.W.fnOf x qual (K7 st) (I0 st) (B4 st) .none kV doc pm an cdv ct/\K.lookup f=some ⟨oc,od,.func fd,osl⟩/\PySem.W.codeIn K cdv qual=true
 kp:PySem.W.keepIn K (.ref f)=true
section
variable{P:Program}{w:World}{K:PySem.W.Frag}{mg:Str->Option Value}{base:Heap}
theorem Fun.ok{x qual:Str}{st:Stmt}{f:Addr}{fd:FuncData}{N ps:List Str}{k:Nat}{sp:Sp}(F:Fun K x qual st f fd)(S:FnScope N ps (B4 st))(len:∀vs H Q E,sp vs H Q E->vs.length=ps.length)
  (hbody:∀(cdv:Value) (A:Around) (outer:List Env) (s:Shared) (H:Hp) (vs:List V) (Q:VK) (E:XK),Room k (A.deeper (envOfC qual (B4 st) s.heap.objs.size f cdv))->sp vs H Q E ->
   ∃t,PSs (Vl CX0 P w K mg base N qual (B4 st) f cdv A outer s H E).nox (I0 st) t/\t { nx:=fun _ H'=>Q .non H',rt:=Q } (Cd N vs) H):FnOk P w K mg base CX0 (k+1) f fd ps sp:=by
 obtain⟨oc,od,kV,doc,pm,an,cdv,ct,osl,rfl,lk,hcd⟩:=F.ex;refine zAk lk hcd S len fun A outer s H vs Q E hr hsp=>?_;obtain⟨t,h,q⟩:=hbody cdv A outer s H vs Q E hr hsp;exact⟨t,h.nox,q⟩
theorem Fun.binds{x qual:Str}{st:Stmt}{f:Addr}{fd:FuncData}{ps:List Str}(F:Fun K x qual st f fd)
  (h:∀(kV doc pm:Value) (an:Option Addr) (cdv ct:Value) (us:List Value),us.length=ps.length->bindArgs (PySem.W.fnOf x qual (K7 st) (I0 st) (B4 st) .none kV doc pm an cdv ct) ⟨us,[]⟩=pure (ps.zip us)):Binds K fd ps []:=by
 obtain⟨oc,od,kV,doc,pm,an,cdv,ct,osl,rfl,lk,hcd⟩:=F.ex;exact .all (h kV doc pm an cdv ct)
theorem fun_mk{x qual:Str}{st:Stmt}{f:Addr}{oc:Value}{od an:Option Addr}{osl:Array (Option Value)}{kV doc pm cdv ct:Value}(l:K.lookup f=some ⟨oc,od,.func (PySem.W.fnOf x qual (K7 st) (I0 st) (B4 st) .none kV doc pm an cdv ct),osl⟩)
  (c:PySem.W.codeIn K cdv qual=true) (k:PySem.W.keepIn K (.ref f)=true):Fun K x qual st f (PySem.W.fnOf x qual (K7 st) (I0 st) (B4 st) .none kV doc pm an cdv ct):=⟨⟨oc,od,kV,doc,pm,an,cdv,ct,osl,rfl,l,c⟩,k⟩
end
theorem y6{A:Around}{k:Nat}(hr:Room k A):A.units+1<cLine:=Nat.lt_of_le_of_lt (GF (by decide:1<=64) _) hr.units
section
variable{X:Cx}
theorem pv(i:Nat){x:Str}{pos:Pos}(hN:X.N[i]?=some x:=by rfl)(hv:Vis X.env.scope x:=by first | exact Or.inl rfl | exact Or.inr (Or.inl rfl) | exact Or.inr (Or.inr rfl))(hd:(x ==("__debug__":Str))=false:=by decide)
  (hcd:(x ==("__classdict__":Str))=false:=by decide):PE X (.Name x pos) (Y5 i):=Vq hN hv hd hcd
end
theorem T0{A B:Prop}(h:B):if false=true then A else B:=by
 rw[AK BB];exact h
theorem Ht{A B:Prop}(h:A):if true=true then A else B:=by
 rw[AO rfl];exact h
theorem g9{c A B:Prop}[Decidable c](h1:c->A)(h2:¬c->B):if c then A else B:=by
 by_cases h:c
 .rw[AO h];exact h1 h
 .rw[AK h];exact h2 h
def Same(H H':Hp):Prop:=∀b o,H b=some o->H' b=some o
theorem Same.refl(H:Hp):Same H H:=fun _ _ h=>h
theorem Same.trans{H H1 H2:Hp}(a:Same H H1)(b:Same H1 H2):Same H H2:=fun c o h=>b c o (a c o h)
theorem Same.free{H H':Hp}(e:Same H H'){l:Addr}(h:H' l=Option.none):H l=Option.none:=by
 cases q:H l with
 | none=>rfl
 | some o =>
  rw[e l o q]at h;cases h
section
variable{Z:Type}[DecidableEq Z]
theorem Mi:∀{l:List Z} {k:Z},l.Nodup->¬k∈l->(l ++ [k]).Nodup
 | [],k,_,_=>by simp
 | a::r,k,h,hk=>by
  obtain⟨h1,h2⟩:=FH.mp h;show(a ::(r ++ [k])).Nodup;refine FH.mpr ⟨fun m=>?_,Mi h2 fun m=>hk (AV.mpr (Or.inr m))⟩;rcases AU.mp m with q | q
  .exact h1 q
  .exact hk (AV.mpr (Or.inl (AF.mp q).symm))
end
def cxC(X:Cx)(scope:Scope)(cl:List (Str×Addr))(N':List Str)(pins:List (Addr×Obj))(ex:List Addr)(s3:Shared)(H3:Hp):Cx where
 prog:=X.prog
 w:=X.w
 K:=X.K
 mg:=X.mg
 base:=X.base
 A:=X.A
 N:=N'
 s₀:=s3
 H₀:=H3
 env:=compEnvC scope cl s3.heap.objs.size X.env
 outer:=X.stack
 stack:=X.stack
 ex:=ex
 fn:=fun _=>false
 calm:=X.calm
 pn:=X.pn++pins
 xe:=fun _ _=>False
def Caps(X:Cx)(scope:Scope)(cl:List (Str×Addr)):List Str->List (Option Nat)->Prop
 | [],[]=>True
 | _::N,none::c=>Caps X scope cl N c
 | x::N,some j::c=>(X.N[j]?=some x/\X.env.scope.names.lookup x=some .cell/\(relabel scope X.env).names.lookup x=some .cell/\cl.lookup x=X.env.cells.lookup x)/\Caps X scope cl N c
 | _,_=>False
def ClIn(X:Cx):List (Str×Addr)->Prop
 | []=>True
 | p::r=>X.env.cells.lookup p.1=some p.2/\ClIn X r
structure CScope(X:Cx)(scope:Scope)(cl:List (Str×Addr))(N':List Str)(cap:List (Option Nat)):Prop where
 kind:scope.kind = .function
 nocell:∀y∈scope.names,y.2≠ .cell
 loc:∀y∈scope.names,y.2 = .local->scope.names.lookup y.1=some .local
 clos:closureFor scope X.env=pure cl
 cin:ClIn X cl
 has:((relabel scope X.env).names.all fun y=>!(y.2 == .cell||y.2 == .free)||(cl.lookup y.1).isSome)=true
 caps:Caps X scope cl N' cap
def Ru(cap:List (Option Nat))(σ:St):St:=cap.map fun o=>o.bind fun j=>(σ[j]?).join
theorem ClIn.get{X:Cx}:∀{cl:List (Str×Addr)} {x:Str} {c:Addr},ClIn X cl->cl.lookup x=some c->X.env.cells.lookup x=some c
 | [],_,_,_,h=>by simp at h
 | (y,d)::r,x,c,⟨h1,h2⟩,h=>by
  rw[List.lookup_cons]at h;cases e:x == y with
  | true =>
   rw[e]at h;cases h;rw[beq_iff_eq.mp e];exact h1
  | false =>
   rw[e]at h;exact ClIn.get h2 h
theorem Caps.len{X:Cx}{scope:Scope}{cl:List (Str×Addr)}:∀{N:List Str} {cap:List (Option Nat)},Caps X scope cl N cap->cap.length=N.length
 | [],[],_=>rfl
 | _::N,none::c,h=>by rw[BL,BL,Caps.len (N:=N) (cap:=c) h]
 | _::N,some j::c,h=>by rw[BL,BL,Caps.len h.2]
 | [],_::_,h=>h.elim
 | _::_,[],h=>h.elim
theorem Caps.get{X:Cx}{scope:Scope}{cl:List (Str×Addr)}{j:Nat}{x:Str}:∀{N:List Str} {cap:List (Option Nat)} {i:Nat},Caps X scope cl N cap->N[i]?=some x->cap[i]?=some (some j) ->
  X.N[j]?=some x/\X.env.scope.names.lookup x=some .cell/\(relabel scope X.env).names.lookup x=some .cell/\cl.lookup x=X.env.cells.lookup x
 | [],_,_,_,h,_=>by simp at h
 | _::_,[],_,_,_,h=>by simp at h
 | y::N,none::c,0,_,_,h=>by simp at h
 | y::N,none::c,i+1,h,h1,h2=>Caps.get (N:=N) (cap:=c) (i:=i) h (by simpa using h1) (by simpa using h2)
 | y::N,some k::c,0,h,h1,h2=>by
  simp at h1 h2;subst h1;subst h2;exact h.1
 | y::N,some k::c,i+1,h,h1,h2=>Caps.get (N:=N) (cap:=c) (i:=i) h.2 (by simpa using h1) (by simpa using h2)
section
variable{X:Cx}{scope:Scope}{cl:List (Str×Addr)}{N':List Str}{cap:List (Option Nat)}{pins:List (Addr×Obj)}{σ:St}{H3:Hp}{s3:Shared}{ex:List Addr}
theorem Ba{p:NameKind->Bool}:∀{names:List (Str×NameKind)} {q:Str->NameKind->Bool} {x:Str} {k:NameKind},(names.all fun y=>q y.1 y.2)=true->names.lookup x=some k->q x k=true
 | [],_,_,_,_,h=>by simp at h
 | (y,d)::r,q,x,k,ha,h=>by
  rw[List.all_cons,BG]at ha;rw[List.lookup_cons]at h;cases e:x == y with
  | true =>
   rw[e]at h;cases h;rw[beq_iff_eq.mp e];exact ha.1
  | false =>
   rw[e]at h;exact Ba (p:=p) (names:=r) (q:=q) ha.2 h
theorem Inv.block(I:Inv X pins σ H3 s3)(S:CScope X scope cl N' cap)(hc:X.calm=true)(hex:∀b∈ex,Bu X pins H3 b/\∃o,s3.heap.get? b=some o){h1:Heap}{tk:Nat}
  (hns:h1.Ns s3.heap.objs.size (fun _=>none)) (hk:∀b o,s3.heap.get? b=some o->h1.get? b=some o) :
  Inv (cxC X scope cl N' pins ex s3 H3) [] (Ru cap σ) H3 { s3 with heap:=h1,toks:=tk }:=by
 have lt3:∀b o,s3.heap.get? b=some o->b≠s3.heap.objs.size:=fun b o e=>A_ (AG e);have hcell:∀x c,cl.lookup x=some c->∃v,s3.heap.IsCell c v:=fun x c e=>I.cell x c (S.cin.get e);have hfree:H3 s3.heap.objs.size=none:=I.hok.fresh (Nat.le_refl _);refine⟨⟨I.ok.mod,?_,I.ok.glob,I.ok.blt,Nat.le_refl _,fun x y c e1 e2=>I.ok.inj x y c (S.cin.get e1) (S.cin.get e2),fun x hx=>?_,fun x c h _=>absurd h BB,I.ok.hd,I.ok.frames,.inl rfl,fun b hb=>?_,I.bs,Nat.le_trans I.ok.bsz I.sz,fun b o e hb=>?_,fun b hb=>?_,I.stack,I.stkFree⟩,
  rfl,I.bare,Un.kept hk,⟨_,hns,fun i x v e1 e2 e3=>?_⟩,fun x c e=>?_,hfree,fun x c e=>I.freeC x c (S.cin.get e),fun p hp=>?_,I.hok.kept hk,?_⟩
 .exact S.kind
 .have q:∀k,(relabel scope X.env).names.lookup x=some k->(!(k == .cell||k == .free)||(cl.lookup x).isSome)=true:=fun k e=>Ba (p:=fun _=>true) (q:=fun a k=>!(k == .cell||k == .free)||(cl.lookup a).isSome) S.has e;have hx':(relabel scope X.env).names.lookup x=some .cell\/(relabel scope X.env).names.lookup x=some .free:=hx;have:(cl.lookup x).isSome=true:=by
   rcases hx' with e | e
   .exact q _ e
   .exact q _ e
  exact GD.mp this
 .obtain⟨⟨_,_,_,_,f4,_⟩,o,e⟩:=hex b hb;exact⟨lt3 b o e,fun x c ec=>f4 x c (S.cin.get ec)⟩
 .obtain⟨⟨f0,f1,f2,f3,_⟩,_⟩:=hex b hb;rcases f3 with f3 | f3
  .exact I.ok.noex b o e f3
  .have:=(I.ok.bs b o e).1;exact absurd (BH (AG this) f3) (DN _)
 .intro hf;obtain⟨⟨_,f1,f2,_⟩,_⟩:=hex b hb;rcases AV.mp (I.stkSub b hf)with z | z
  .exact f1 z
  .exact f2 z
 .unfold Ru at e2;rw[AJ]at e2;cases ec:cap[i]? with
  | none=>rw[ec]at e2;cases e2
  | some o =>
   rw[ec]at e2;cases o with
   | none=>cases e2
   | some j =>
    have e2':(σ[j]?).join=some v:=BI e2;obtain⟨c1,c2,c3,c4⟩:=S.caps.get e1 ec;have ej:σ[j]?=some (some v):=by
     cases ej:σ[j]? with
     | none=>rw[ej]at e2';cases e2'
     | some z=>rw[ej]at e2';cases z with
      | none=>cases e2'
      | some z=>cases e2';rfl
    obtain⟨m,hn,hl⟩:=I.loc;obtain⟨u,r,l⟩:=hl j x v c1 ej (.inr (.inl c2));refine⟨u,r,?_⟩;rcases l with⟨k,_⟩ | ⟨_,c,hc',hcell'⟩
    .have:X.env.scope.names.lookup x=some .local:=k;rw[c2]at this;cases this
    .exact .inr ⟨.inl c3,c,c4.trans hc',let⟨o,ho,hd⟩:=hcell';⟨o,hk _ _ ho,hd⟩⟩
 .obtain⟨v,o,ho,hd⟩:=hcell x c e;exact⟨v,o,hk _ _ ho,hd⟩
 .have hp':p∈X.pn++pins:=by simpa [cxC] using hp
  obtain⟨e,n,ne,nf,d⟩:=I.pin p hp';refine⟨hk _ _ e,n,lt3 _ _ e,fun hf=>?_,d⟩;rcases AV.mp (I.stkSub p.1 hf)with z | z
  .exact ne z
  .exact nf z
 .unfold Ru;rw[AB];exact S.caps.len
theorem Inv.unblock{σ':St}{H':Hp}{s':Shared}{h':Heap}(I:Inv X pins σ H3 s3)(hex:∀b∈ex,Bu X pins H3 b)(J:Inv (cxC X scope cl N' pins ex s3 H3) [] σ' H' s')(hb:Heap.SameBut s3.heap.objs.size s'.heap h') :
  Inv X pins σ H' { s' with heap:=h' }:=by
 have hfr:H' s3.heap.objs.size=none:=J.free;refine I.call' (ch:=ex) J.os ⟨fun b o e n h1 h2=>?_,fun b o e n h1 h2=>?_,fun b o e n h2=>?_,fun b o e h2=>?_,J.base.tups,J.base.frzs,J.base.tbls⟩ (fun b ob e=>?_) J.bare fun b hbx=>?_
 .exact(hb.2 b (A_ (AG e))).trans (J.base.keep b o e n h1 h2)
 .obtain⟨sl,q⟩:=J.base.slot b o e n h1 h2;exact⟨sl,(hb.2 b (A_ (AG e))).trans q⟩
 .exact J.base.free b o e n h2
 .obtain⟨o',q⟩:=J.base.there b o e h2;exact⟨o',(hb.2 b (A_ (AG e))).trans q⟩
 .refine(J.hok b ob e).stay (fun c w' hc q=>(hb.2 c ?_).trans q) (fun _ q=>q) fun _ _ q=>q;rintro rfl;rcases hc with z | z
  .rw[<-z,hfr]at e;cases e
  .rw[hfr]at z;cases z
 .obtain⟨_,f1,_,f3,f4,f5⟩:=hex b hbx;exact⟨f3,f1,f4,f5⟩
end
def Am(e:Expr)(d:Nat)(iter tg:Expr)(ifs:List Expr)(emit:Sem Fin->Sem Fin)(it acc:Value)(env:Env):Sem Fin:=do
 standAt iter.pos
 match <-pyNext it with
 | none=>pure (.done .next)
 | some v =>
  letOwnedTupleGo tg it v
  assign tg env v
  let mut ok:=true
  for c in ifs do
   if ok then ok <-isTrue c env (eval c env)
  if ok then emit (again (.compLoop e d it acc env))else again (.compLoop e d it acc env)
def emL(elt:Expr)(acc:Value)(env:Env)(k:Sem Fin):Sem Fin:=(do let _ <-call (.builtin "list.append") [acc,<-eval elt env]:Sem Unit) >>= fun _=>k
def emD(a b:Expr)(D:Addr)(env:Env)(k:Sem Fin):Sem Fin:=(do
   let kv <-eval a env
   let vv <-holding [kv] (eval b env)
   standAt { a.pos with endLine:=b.pos.endLine,endCol:=b.pos.endCol }
   holding [kv,vv] (dictSet D kv vv):Sem Unit) >>= fun _=>k
def emS(elt:Expr)(acc:Value)(env:Env)(k:Sem Fin):Sem Fin:=(do let v <-eval elt env;standAt elt.pos;let _ <-call (.builtin "set.add") [acc,v]:Sem Unit) >>= fun _=>k
def emN(e iter2:Expr)(d:Nat)(acc:Value)(env:Env)(k:Sem Fin):Sem Fin:=do
    let x <-eval iter2 env
    standAt iter2.pos
    let x <-foldedSetIterable iter2 env x
    let _ <-runOwn (.compStart e d (<-holding [x] (pyIter x)) acc env) env
    k
theorem Ao(elt tg iter:Expr)(ifs:List Expr)(scope:Scope)(pos:Pos)(it acc:Value)(env:Env) :
  compTurn (.ListComp elt [⟨tg,iter,ifs,0⟩] scope pos) 0 it acc env=Am (.ListComp elt [⟨tg,iter,ifs,0⟩] scope pos) 0 iter tg ifs (emL elt acc env) it acc env:=rfl
theorem Kv(k v tg iter:Expr)(ifs:List Expr)(scope:Scope)(pos:Pos)(it:Value)(D:Addr)(env:Env) :
  compTurn (.DictComp k v [⟨tg,iter,ifs,0⟩] scope pos) 0 it (.ref D) env=Am (.DictComp k v [⟨tg,iter,ifs,0⟩] scope pos) 0 iter tg ifs (emD k v D env) it (.ref D) env:=rfl
theorem Kx(elt tg iter tg2 iter2:Expr)(ifs ifs2:List Expr)(scope:Scope)(pos:Pos)(it acc:Value)(env:Env) :
  compTurn (.SetComp elt [⟨tg,iter,ifs,0⟩,⟨tg2,iter2,ifs2,0⟩] scope pos) 1 it acc env=Am (.SetComp elt [⟨tg,iter,ifs,0⟩,⟨tg2,iter2,ifs2,0⟩] scope pos) 1 iter2 tg2 ifs2 (emS elt acc env) it acc env:=rfl
theorem Kj(elt tg iter tg2 iter2:Expr)(ifs ifs2:List Expr)(scope:Scope)(pos:Pos)(it acc:Value)(env:Env) :
  compTurn (.SetComp elt [⟨tg,iter,ifs,0⟩,⟨tg2,iter2,ifs2,0⟩] scope pos) 0 it acc env=Am (.SetComp elt [⟨tg,iter,ifs,0⟩,⟨tg2,iter2,ifs2,0⟩] scope pos) 0 iter tg ifs
   (emN (.SetComp elt [⟨tg,iter,ifs,0⟩,⟨tg2,iter2,ifs2,0⟩] scope pos) iter2 1 acc env) it acc env:=rfl
abbrev TEm:=St->Hp->(St->Hp->Prop)->Prop
def PEm(X:Cx)(emit:Sem Fin->Sem Fin)(t:TEm):Prop :=
 ∀(pins:List (Addr×Obj)) (s:Shared) (σ:St) (H:Hp) (Q:St->Hp->Prop) (k:Sem Fin) (F:Fin->Shared->Prop) (E:Value->Shared->Prop),Inv X pins σ H s->t σ H Q ->
  (∀s' σ' H',Inv X pins σ' H' s'->Q σ' H'->wpAny (model X.prog X.w) X.A k F E s')->wpAny (model X.prog X.w) X.A (emit k) F E s
def PTs(X:Cx)(ifs:List Expr)(t:TT):Prop :=
 ∀(pins:List (Addr×Obj)) (s:Shared) (σ:St) (H:Hp) (Q:Bool->Hp->Prop),Inv X pins σ H s->t σ H Q ->
  wpAny (model X.prog X.w) X.A (forIn ifs true fun c r=>if r=true then do let ok <-isTrue c X.env (eval c X.env);pure (ForInStep.yield ok)else pure (ForInStep.yield r)) (TP X pins σ Q) X.xe s
def V0:TT:=fun _ H Q=>Q true H
theorem E1{X:Cx}:PTs X [] V0:=fun _ _ _ H _ I h=>wpAny_tests_nil ⟨H,I,h⟩
theorem Gx{X:Cx}{c:Expr}{t:TT}(h:PT X c t):PTs X [c] t:=fun pins s σ H Q I q=>wpAny_tests_one (h pins s σ H Q I q)
def o9(g:TG)(tc:TT)(em:TEm)(J:It)(σ:St)(H:Hp)(Q:St->Hp->Prop):Prop :=
 ∃W:Nat->Nat->St->Hp->Prop,(∃m,W 0 m σ H)/\∀i m σ H,W i m σ H->(J.stop i H/\Q σ H)\/(J.go i H/\∀x H',J.yld i H x H'->g x σ H' fun σ2 H2=>tc σ2 H2 fun b H3 =>
  if b=true then em σ2 H3 fun σ3 H4=>∃m',m' < m/\W (i+1) m' σ3 H4 else ∃m',m' < m/\W (i+1) m' σ2 H3)
section
variable{X:Cx}{e tg iter:Expr}{d:Nat}{ifs:List Expr}{emit:Sem Fin->Sem Fin}{it:Addr}{acc:Value}{g:TG}{tc:TT}{em:TEm}{J:It}{fp:List Addr}{tn:Nat->Heap->Prop}{R:Result->Shared->Prop}
theorem P3(hun:X.A.under (.compLoop e d (.ref it) acc X.env)=X.A)(hden:(model X.prog X.w).den (.compLoop e d (.ref it) acc X.env) =(compTurn e d (.ref it) acc X.env).onRaise (fun x=>do noteFrame x X.env;theTreesLotGoes x))(hc:X.calm=true)(hxe:X.xe=fun _ _=>False)(hct:compTurn e d (.ref it) acc X.env=Am e d iter tg ifs emit (.ref it) acc X.env)(hg:PG X tg g)(ht:PTs X ifs tc)(hem:PEm X emit em)
  (T:Turn X.prog X.w X.K tg J fp it tn) {pins:List (Addr×Obj)} {s:Shared} {σ:St} {H:Hp} {Q:St->Hp->Prop} (I:Inv X pins σ H s) (st:tn 0 s.heap) (hf:∀b∈fp,Bu X pins H b) (h:o9 g tc em J σ H Q)
  (hR:∀s' σ' H',Inv X pins σ' H' s'->Q σ' H'->R (.ok .next) s'):codeAny (model X.prog X.w) X.A (.compLoop e d (.ref it) acc X.env) R s:=by
 obtain⟨W,⟨m0,w0⟩,turn⟩:=h;have stat:∀{H':Hp},(∀b∈fp,H' b=none)->∀b∈fp,Bu X pins H' b:=fun hn b hb=>⟨hn b hb,(hf b hb).2⟩;have no:∀{α:Type} {m:Sem α} {P:α->Shared->Prop} {E:Value->Shared->Prop} {s:Shared},wpAny (model X.prog X.w) X.A m P X.xe s->wpAny (model X.prog X.w) X.A m P E s:=fun q=>by
  rw[hxe]at q;exact BR q (fun _ _ z=>z) fun _ _ z=>z.elim
 refine codeAny_loop rfl (fun n s'=>∃i σ' H',Inv X pins σ' H' s'/\tn i s'.heap/\(∀b∈fp,H' b=none)/\W i n σ' H') (fun n s3 hI=>?_) m0 ⟨0,σ,H,I,st,fun b hb=>(hf b hb).1,w0⟩;obtain⟨i,σ3,H3,I3,st3,fr3,w3⟩:=hI;rw[hun,hden];refine wpAny_noted ?_;rw[hct];unfold Am;refine AA (EZ (AA ?_));rcases turn i n σ3 H3 w3 with⟨stop,qn⟩ | ⟨go,step⟩
 .refine BR (T.done X rfl rfl rfl hc i pins s3 σ3 H3 _ I3 (stat fr3) st3 stop) (fun r s4 ⟨hr,I4⟩=>?_) fun _ _ z=>z;subst hr;exact AD (hR s4 σ3 H3 I4 qn)
 .refine BR (T.item X rfl rfl rfl hc i pins s3 σ3 H3 _ I3 (stat fr3) st3 go) (fun r s4 ⟨u,hr,h4⟩=>?_) fun _ _ z=>z;subst hr;refine AA (BR h4 (fun _ s5 ⟨x,H5,I5,r5,y5,st5,fr5⟩=>?_) fun _ _ z=>z);have I5':=I5.pinned (stat fr5) (T.obj _ _ st5);have again:∀{σ7:St} {H7:Hp} {s7:Shared},Inv X (pins++Ej fp s5.heap) σ7 H7 s7->(∃m',m' < n/\W (i+1) m' σ7 H7)->∃m,m<n/\∃i σ' H',Inv X pins σ' H' s7/\tn i s7.heap/\(∀b∈fp,H' b=none)/\W i m σ' H':=fun{σ7 H7 s7} I7 n7=>by
   obtain⟨m',hm,w7⟩:=n7;refine⟨m',hm,i+1,σ7,H7,I7.unpinned,T.keep _ _ _ st5 fun b hb o e=>(I7.pin (b,o) (CA _ (CA _ (Q5 hb e)))).1,fun b hb=>?_,w7⟩;obtain⟨o,e,d⟩:=T.obj _ _ st5 b hb;exact(I7.pin (b,o) (CA _ (CA _ (Q5 hb e)))).2.1
  refine AA (BR (no (hg _ s5 σ3 H5 x u _ I5' r5 (step x H5 y5))) (fun _ s6 ⟨σ6,H6,I6,q6⟩=>?_) fun _ _ z=>z);refine AA (BR (no (ht _ s6 σ6 H6 _ I6 q6)) (fun ok s7 ⟨H7,I7,q7⟩=>?_) fun _ _ z=>z);cases ok with
  | false=>exact AD ⟨rfl,again I7 q7⟩
  | true =>
   exact hem _ s7 σ6 H7 _ _ _ _ I7 q7 fun s8 σ8 H8 I8 q8=>AD ⟨rfl,again I8 q8⟩
theorem V9(hun:X.A.under (.compStart e d (.ref it) acc X.env)=X.A)(hden:(model X.prog X.w).den (.compStart e d (.ref it) acc X.env) =(compStart e d (.ref it) acc X.env).onRaise (fun x=>do noteFrame x X.env;standAt theWindowsPlace)){gs:List Comprehension}(hgs:clausesOf e=gs)(hd:gs[d]?=some ⟨tg,iter,ifs,0⟩){s:Shared}(T:Turn X.prog X.w X.K tg J fp it tn)(st:tn 0 s.heap)
  (h:codeAny (model X.prog X.w) X.A (.compLoop e d (.ref it) acc X.env) R s):codeAny (model X.prog X.w) X.A (.compStart e d (.ref it) acc X.env) R s:=by
 refine codeAny_of_tree ?_;rw[hun,hden];refine wpAny_notedAt ?_;unfold compStart;rw[hgs,hd];show wpAny _ X.A (ask >>= _) _ _ s;refine AA (HB (wpAny_ite ?_));have h1:=T.self X.A 0 s (fun it' s'=>codeAny (model X.prog X.w) X.A (.compLoop e d it' acc X.env) R s') (notedBy (model X.prog X.w) X.A X.env fun x s'=>R (.error x) s') st h;split
 .first
   | exact AA (AD (AD (And.intro rfl h)))
   | exact AD (And.intro rfl h)
 .first
   | exact AA (ET (AA (EZ (AA (BR h1 (fun it' s' h'=>AD (And.intro rfl h')) fun _ _ x=>x)))))
   | (refine AA (ET ?_);show wpAny _ _ (standAt iter.pos >>= _) _ _ s;exact AA (EZ (AA (BR h1 (fun it' s' h'=>AD (And.intro rfl h')) fun _ _ x=>x))))
end
section
variable{X:Cx}{tg iter:Expr}{ifs:List Expr}{g:TG}{tc:TT}{em:TEm}{scope:Scope}{cl:List (Str×Addr)}{N':List Str}{cap:List (Option Nat)}{pos:Pos}{wi:TI}
def Ea(wi:TI)(o:Addr->HO)(cap:List (Option Nat))(lp:Addr->It->St->Hp->(St->Hp->Prop)->Prop):TE:=fun σ H Q=>wi σ H fun J H1=>∀D,H1 D=none->lp D J (Ru cap σ) (upd H1 D (o D)) fun _ H2=>Q (.ref D) H2
theorem Co{e:Expr}{gs:List Comprehension}{newAcc:Sem Value}{p2:Pos}(hcl:clausesOf e =⟨tg,iter,ifs,0⟩::gs)(o:Addr->HO)(hs:∀x,foldedSetIterable iter X.env x=pure x)(S:CScope X scope cl N' cap)(hc:X.calm=true)(hi:PI X tg iter wi)
  {lp:Addr->It->St->Hp->(St->Hp->Prop)->Prop}
  (hnew:∀(pins:List (Addr×Obj)) (s:Shared) (σ:St) (H:Hp) (Q:Value->Shared->Prop) (E:Value->Shared->Prop),Inv X pins σ H s->(∀s',Inv X pins σ (upd H s.heap.objs.size (o s.heap.objs.size)) s'->(∀b ob,s.heap.get? b=some ob->s'.heap.get? b=some ob)->Q (.ref s.heap.objs.size) s')->wpAny (model X.prog X.w) X.A newAcc Q E s)
  (hlp:∀(pins:List (Addr×Obj)) (ex:List Addr) (s3:Shared) (H3:Hp) (D it:Addr) (fp:List Addr) (tn:Nat->Heap->Prop) (J:It) (σ:St) (s:Shared) (H:Hp) (Q:St->Hp->Prop) (R:Result->Shared->Prop),
   Turn X.prog X.w X.K tg J fp it tn->Inv (cxC X scope cl N' pins ex s3 H3) [] σ H s->tn 0 s.heap->(∀b∈fp,Bu (cxC X scope cl N' pins ex s3 H3) [] H b)->lp D J σ H Q ->
   (∀s' σ' H',Inv (cxC X scope cl N' pins ex s3 H3) [] σ' H' s'->Q σ' H'->R (.ok .next) s') ->
   codeAny (model X.prog X.w) X.A (.compLoop e 0 (.ref it) (.ref D) (compEnvC scope cl s3.heap.objs.size X.env)) R s)
  (hun:∀it D env,X.A.under (.compStart e 0 (.ref it) (.ref D) env)=X.A) (hden:∀it D env,(model X.prog X.w).den (.compStart e 0 (.ref it) (.ref D) env) =(compStart e 0 (.ref it) (.ref D) env).onRaise (fun x=>do noteFrame x env;standAt theWindowsPlace))
  (hev:∀E Q s,wpAny (model X.prog X.w) X.A (comprehension e scope X.env p2 newAcc false (eval iter X.env)) Q E s->wpAny (model X.prog X.w) X.A (eval e X.env) Q E s) :
  PE X e (Ea wi o cap lp):=by
 intro pins s σ H Q I h;refine hev _ _ _ (wpAny_comprehension_free (use:=none) hcl hs S.clos S.kind S.loc (thn (hi pins s σ H _ I h) fun v s1 h1=>thn h1 fun itv s2 h2=>?_));obtain⟨it,fp,tn,J,H2,eit,I2,T,st2,f2,R2⟩:=h2;subst eit;refine hnew pins s2 σ H2 _ _ I2 fun s3 I3 k3=>?_;have hD:H2 s2.heap.objs.size=none:=I2.hok.fresh (Nat.le_refl _);have fok:∀b∈fp,Bu X pins (upd H2 s2.heap.objs.size (o s2.heap.objs.size)) b/\∃ob,s3.heap.get? b=some ob:=fun b hb=>by
  obtain⟨ob,e,_⟩:=T.obj _ _ st2 b hb;obtain⟨f0,fr⟩:=f2 b hb;exact⟨⟨by rw[B5 (A_ (AG e))];exact f0,fr⟩,ob,k3 b ob e⟩
 refine wpAny_newFunctionEnv S.nocell (by intro y hy;simp at hy) (fun h1 hns hsb=>?_) S.kind;have hk:∀b ob,s3.heap.get? b=some ob->h1.get? b=some ob:=fun b ob e=>(hsb.2 b (A_ (AG e))).trans (AE _ e);have I4:Inv (cxC X scope cl N' pins fp s3 (upd H2 s2.heap.objs.size (o s2.heap.objs.size))) [] (Ru cap σ) (upd H2 s2.heap.objs.size (o s2.heap.objs.size)) { s3 with heap:=h1,toks:=s3.toks +([]:List (Str×Value)).length } :=
  I3.block S hc fok hns hk
 have st4:tn 0 h1:=T.keep 0 _ _ st2 fun b hb ob e=>hk b ob (k3 b ob e);refine V9 (X:=cxC X scope cl N' pins fp s3 (upd H2 s2.heap.objs.size (o s2.heap.objs.size))) (gs:=⟨tg,iter,ifs,0⟩::gs) (e:=e) (d:=0) (tg:=tg) (iter:=iter) (ifs:=ifs) (hun _ _ _) (hden _ _ _) hcl rfl T st4 ?_;refine hlp pins fp s3 _ s2.heap.objs.size it fp tn J (Ru cap σ) _ _ _ _ T I4 st4 (fun b hb=>?_) (R2 _ hD) fun s' σ' H' I' q'=>?_
 .obtain⟨⟨f0,f1,f2',f3,f4,f5⟩,ob,eo⟩:=fok b hb;refine⟨f0,A_ (AG eo),fun hf=>?_,.inl hb,fun x c e=>f4 x c (S.cin.get e),fun p hp=>f5 p (by simpa [cxC] using hp)⟩;rcases AV.mp (I3.stkSub b hf)with z | z
  .exact f1 z
  .exact f2' z
 .obtain⟨m,hn,_⟩:=I'.loc;exact⟨m,hn,fun h' hb=>⟨.ref _,H',I3.unblock (fun b hb=>(fok b hb).1) I' hb,rfl,q'⟩⟩
end
section
variable{X:Cx}{tg iter elt:Expr}{ifs:List Expr}{g:TG}{tc:TT}{te:TE}{scope:Scope}{cl:List (Str×Addr)}{N':List Str}{cap:List (Option Nat)}{pos:Pos}{wi:TI}
def o8(D:Addr)(te:TE):TEm:=fun σ H Q=>te σ H fun y H1=>∃ys,H1 D=some (.lst ys)/\ys.length<sizeLine/\Q σ (upd H1 D (.lst (ys ++ [y])))
theorem Ax{α:Type}{X:Cx}(hxe:X.xe=fun _ _=>False){m:Sem α}{P:α->Shared->Prop}{E:Value->Shared->Prop}{s:Shared}(q:wpAny (model X.prog X.w) X.A m P X.xe s):wpAny (model X.prog X.w) X.A m P E s:=by
 rw[hxe]at q;exact BR q (fun _ _ z=>z) fun _ _ z=>z.elim
theorem Je{D:Addr}(hxe:X.xe=fun _ _=>False)(he:PE X elt te):PEm X (emL elt (.ref D) X.env) (o8 D te):=by
 intro pins s σ H Q k F E I h hk;unfold emL;refine AA (AA (BR (Ax hxe (he pins s σ H _ I h)) (fun u s1 ⟨y,H1,I1,r1,ys,e1,z1,q1⟩=>?_) fun _ _ z=>z));refine AA (BR (Ax hxe (E8 pins s1 σ H1 (.ref D) [y] (.ref D) [u] (fun v H2=>v = .non/\Q σ H2) I1 rfl (.cons r1 .nil) ⟨D,ys,y,rfl,rfl,e1,z1,rfl,q1⟩)) (fun v s2 ⟨y2,H2,I2,r2,_,q2⟩=>?_) fun _ _ z=>z);exact AD (hk s2 σ H2 I2 q2)
theorem Q9(S:CScope X scope cl N' cap)(hc:X.calm=true)(hi:PI X tg iter wi)
  (hb:∀(pins:List (Addr×Obj)) (ex:List Addr) (s3:Shared) (H3:Hp),PG (cxC X scope cl N' pins ex s3 H3) tg g/\PTs (cxC X scope cl N' pins ex s3 H3) ifs tc/\PE (cxC X scope cl N' pins ex s3 H3) elt te)
  (hs:∀x,foldedSetIterable iter X.env x=pure x:=by intro _;rfl) :
  PE X (.ListComp elt [⟨tg,iter,ifs,0⟩] scope pos) (Ea wi (fun _=>.lst []) cap fun D J σ H Q=>o9 g tc (o8 D te) J σ H Q):=by
 refine Co (newAcc:=newList []) (p2:=firstIterPos [⟨tg,iter,ifs,0⟩] pos) rfl (fun _=>.lst []) hs S hc hi (fun pins s σ H Q E I h=>?_) (fun pins ex s3 H3 D it fp tn J σ s H Q R T I st hf h hR=>?_) (fun _ _ _=>rfl) (fun _ _ _=>rfl) (fun E Q s h=>h)
 .refine HK ?_;exact h _ (I.lnew (t':=s.toks) (its:=[]) .nil (CD _)) fun b ob e=>AE _ e
 .obtain⟨b1,b2,b3⟩:=hb pins ex s3 H3;exact P3 (X:=cxC X scope cl N' pins ex s3 H3) rfl rfl hc rfl (Ao elt tg iter ifs scope pos _ _ _) b1 b2 (Je rfl b3) T I st hf h hR
def Sk(D:Addr)(tk tv:TE):TEm:=fun σ H Q=>tk σ H fun y H1=>tv σ H1 fun v H2=>∃kvs k,H2 D=some (.dK kvs)/\y=kV k/\kvs.length<sizeLine/\Q σ (upd H2 D (.dK (Ik kvs k v)))
theorem Sb{D:Addr}{a b:Expr}{ta tb:TE}(hxe:X.xe=fun _ _=>False)(ha:PE X a ta)(hb:PE X b tb):PEm X (emD a b D X.env) (Sk D ta tb):=by
 intro pins s σ H Q k F E I h hk;unfold emD;refine AA (AA (BR (Ax hxe (ha pins s σ H _ I h)) (fun u s1 ⟨y,H1,I1,r1,q1⟩=>?_) fun _ _ z=>z));refine AA (BT (BR (Ax hxe (hb pins s1 σ H1 _ I1 q1)) (fun r s2 ⟨v,H2,I2,rv,kvs,kk,e,ey,l,q2⟩=>?_) fun _ _ z=>z));refine AA (EZ (BT ?_));subst ey;obtain⟨z,hd,vs,rel,dd⟩:=zCd I2.hok e;have hz:vs.length<=sizeLine:=by rw[<-rel.length];exact z
 have hl:(Ik kvs kk v).length<=sizeLine:=by have:=w9 kvs kk v;omega
 refine wpAny_dictSet_pairs (hsz:=hz) (Qs r1) dd fun h' dd' hs=>?_;have he:∃q,h'.get? D=some q:=let⟨q,_,_,hq,_⟩:=dd';⟨q,hq⟩;exact hk _ σ _ (Vt (t':=s2.toks+1) I2 (by rw[e];exact True.intro) hs he (zBb hl hd (rel.put kk rv) dd')) q2
theorem Nv{a b:Expr}{ta tb:TE}(S:CScope X scope cl N' cap)(hc:X.calm=true)(hi:PI X tg iter wi)
  (hb:∀(pins:List (Addr×Obj)) (ex:List Addr) (s3:Shared) (H3:Hp),PG (cxC X scope cl N' pins ex s3 H3) tg g/\PTs (cxC X scope cl N' pins ex s3 H3) ifs tc/\PE (cxC X scope cl N' pins ex s3 H3) a ta/\PE (cxC X scope cl N' pins ex s3 H3) b tb)
  (hs:∀x,foldedSetIterable iter X.env x=pure x:=by intro _;rfl) :
  PE X (.DictComp a b [⟨tg,iter,ifs,0⟩] scope pos) (Ea wi (fun _=>.dK []) cap fun D J σ H Q=>o9 g tc (Sk D ta tb) J σ H Q):=by
 refine Co (newAcc:=newDict) (p2:=firstIterPos [⟨tg,iter,ifs,0⟩] pos) rfl (fun _=>.dK []) hs S hc hi (fun pins s σ H Q E I h=>?_) (fun pins ex s3 H3 D it fp tn J σ s H Q R T I st hf h hR=>?_) (fun _ _ _=>rfl) (fun _ _ _=>rfl) (fun E Q s h=>h)
 .refine CP ?_;exact h _ (I.laid (a:=s.heap.objs.size) (o:=.dK []) (t':=s.toks) (fun _ _ q=>AE _ q) (Nat.le_refl _) (Rt s.heap I.big)) fun b ob e=>AE _ e
 .obtain⟨b1,b2,b3,b4⟩:=hb pins ex s3 H3;exact P3 (X:=cxC X scope cl N' pins ex s3 H3) rfl rfl hc rfl (Kv a b tg iter ifs scope pos _ _ _) b1 b2 (Sb rfl b3 b4) T I st hf h hR
end
instance:LawfulBEq Key where
 rfl {a}:=by cases a with
  | inl i=>show(i == i)=true;simp
  | inr x=>show(x == x)=true;simp
 eq_of_beq {a b} h:=by
  cases a with
  | inl i=>cases b with
   | inl j=>exact congrArg Sum.inl (eq_of_beq (show(i == j)=true from h))
   | inr j=>exact absurd h (by intro z;cases z)
  | inr i=>cases b with
   | inl j=>exact absurd h (by intro z;cases z)
   | inr j=>exact congrArg Sum.inr (eq_of_beq (show(i == j)=true from h))
def Ma(P:Program)(w:World)(a:Addr)(l:List Key):HO:=.ext fun h=>h.SetOf (B9 P w) a (fun k=>decide (k∈l)) l.length
section
variable{X:Cx}{pins:List (Addr×Obj)}{σ:St}{H:Hp}{s:Shared}{a:Addr}{l:List Key}
theorem zAs{P:Program}{w:World}{H:Hp}{h:Heap}(z:h.SetOf (B9 P w) a (fun k=>decide (k∈l)) l.length):ObjOk P w H h a (Ma P w a l) :=
 ⟨z,let⟨o,_,_,_,e,_⟩:=z;⟨o,e⟩,fun h1 h2 ⟨o,es,ep,t,e,r⟩ k=>⟨o,es,ep,t,k o e,r⟩⟩
theorem Inv.set(I:Inv X pins σ H s)(e:H a=some (Ma X.prog X.w a l)):s.heap.SetOf (B9 X.prog X.w) a (fun k=>decide (k∈l)) l.length:=by
 obtain⟨z,_⟩:=(show ObjOk X.prog X.w H s.heap a (Ma X.prog X.w a l)from I.hok a _ e);exact z
theorem Jb{k:Key}{u:Value}(r:RelV (kV k) u):u.scannable=true:=by
 cases k with
 | inl i=>obtain⟨t,rfl⟩:=r;rfl
 | inr x=>obtain⟨t,rfl⟩:=r;rfl
def zCp(l:List Key)(k:Key):List Key:=if k∈l then l else l ++ [k]
theorem Gk{P:Program}{w:World}{h:Heap}{S S':Key->Bool}{n n':Nat}(z:h.SetOf (B9 P w) a S n)(e:∀k,S' k=S k)(en:n'=n):h.SetOf (B9 P w) a S' n':=by
 have:S'=S:=funext e;subst this;subst en;exact z
theorem Pk:E3 X (.type "set") (fun xs H Q=>xs = []/\∀p,H p=none->Q (.ref p) (upd H p (Ma X.prog X.w p []))):=by
 intro pins s σ H xs us Q I r h;obtain⟨rfl,q⟩:=h;cases r;refine call_set_0 fun led=>⟨.ref s.heap.objs.size,_,I.laid (t':=s.toks) (fun b o e=>AE _ e) (Nat.le_refl _) (zAs ?_),rfl,q _ (I.hok.fresh (Nat.le_refl _))⟩;exact(setObjOf_fresh led).setOf (AM _ rfl) (by decide)
def Zv(P:Program)(w:World):V->List V->Hp->VK->Prop:=fun x vs H Q=>∃a l k,x = .ref a/\vs = [kV k]/\H a=some (Ma P w a l)/\l.length+1<4096/\Q .non (upd H a (Ma P w a (zCp l k)))
theorem Zc:MtM X "set.add" (Zv X.prog X.w):=by
 intro pins s σ H x vs v us Q I rx rv h;obtain⟨a,l,k,rfl,rfl,hH,hz,q⟩:=h;cases rx;obtain⟨u,rfl,ru⟩:=rv.one;refine call_set_add (Qs ru) (Jb ru) (I.set hH) hz fun h' hs z=>?_;refine⟨.non,_,I.write (x:=a) (e:=a) (t':=s.toks+1) (by rw[hH];exact True.intro) (.inl rfl) (fun b q hb e=>(hs.2 b hb).trans e) (let⟨o,_,_,_,e,_⟩:=z;⟨o,e⟩) (zAs (Gk z (fun k'=>?_) ?_)),rfl,q⟩
 .unfold zCp;by_cases e:k∈l
  .rw[AO e];by_cases ek:k'=k
   .subst ek;simp[e]
   .simp[ek]
  .rw[AK e];simp
 .unfold zCp;by_cases e:k∈l
  .rw[AO e];simp[e]
  .rw[AK e];simp[e]
def zFg(P:Program)(w:World)(neg:Bool):R2:=fun x y H Q=>∃a l k,y = .ref a/\x=kV k/\H a=some (Ma P w a l)/\Q (.bl (if neg then !decide (k∈l)else decide (k∈l))) H
theorem Np:OpR X (compareOp .In) (zFg X.prog X.w false):=by
 intro pins s σ H x y v u Q I rx ry h;obtain⟨a,l,k,rfl,rfl,hH,q⟩:=h;cases ry;exact wpAny_inSet_of (Qs rx) (Jb rx) (I.set hH) ⟨.bl (decide (k∈l)),H,I.tok _,rfl,q⟩
end
section
variable{X:Cx}{tg iter elt tg2 iter2:Expr}{g g2:TG}{tc tc2:TT}{te:TE}{ifs ifs2:List Expr}{scope:Scope}{cl:List (Str×Addr)}{N':List Str}{cap:List (Option Nat)}{pos:Pos}{wi wi2:TI}
def zEf(wi:TI)(lp:It->St->Hp->(St->Hp->Prop)->Prop):TEm:=fun σ H Q=>wi σ H fun J H1=>lp J σ H1 Q
end
def Its(x:Str):It:=⟨fun i _=>i<x.cps.size,fun i H v H'=>H'=H/\∃c,x.cps[i]?=some c/\v = .str ⟨#[c]⟩,fun i _=>i=x.cps.size⟩
theorem Ib{P:Program}{w:World}{K:PySem.W.Frag}{tg:Expr}(it:Addr)(x:Str)(t:Tok)(ty:String)(hty:["enumerate", "zip", "dict_itemiterator", "dict_reverseitemiterator", "odict_iterator", "itertools.zip_longest", "itertools.pairwise"].contains ty=false)
  (W:∀A':Around,A'.handled=none->Walks P w A' it [it] [it] x.cps.size (SignAt x) (fun i h=>h.IsStrIter it ty x t i))
  (hself:∀(A:Around) (i:Nat) (s:Shared) (Q:Value->Shared->Prop) (E:Value->Shared->Prop),s.heap.IsStrIter it ty x t i->Q (.ref it) s->wpAny (model P w) A (pyIter (.ref it)) Q E s):Turn P w K tg (Its x) [it] it (fun i h=>h.IsStrIter it ty x t i) where
 mem:=by simp
 obj:=fun i h st b hb=>by
  have e:b=it:=by simpa using hb
  subst e;obtain⟨o,e,c,d⟩:=st;exact⟨o,e,fun v z=>by rw[d]at z;cases z⟩
 keep:=fun i h h' st k=>let⟨o,e,r⟩:=st;⟨o,k it (by simp) o e,r⟩
 item:=by
  intro X hP hw hK hc i pins s σ H E I hf st hg;subst hP hw hK;obtain⟨f0,f1,f2,f3,f4,f5⟩:=hf it (by simp);refine(W X.A (I.ok.hd hc)).item i s _ _ hg st fun v h' tk hv st' k=>?_;obtain⟨c,u,ec,ev⟩:=hv;have I1:Inv X pins σ H { s with heap:=h',toks:=tk }:=I.turned (fun b o hb e=>k b o (by simpa using hb) e) f0 f1 f3 f4 f5;obtain⟨o,e,c',d⟩:=id st';exact⟨v,rfl,Kf (s:={ s with heap:=h',toks:=tk }) e c' d hty ⟨.str ⟨#[c]⟩,H,I1,⟨u,ev⟩,⟨rfl,c,ec,rfl⟩,st',fun b hb=>(hf b hb).1⟩⟩
 done:=by
  intro X hP hw hK hc i pins s σ H E I hf st hg;subst hP hw hK;obtain⟨f0,f1,f2,f3,f4,f5⟩:=hf it (by simp);have hg':i=x.cps.size:=hg;subst hg';exact(W X.A (I.ok.hd hc)).done s _ _ st fun h' tk k=>⟨rfl,I.turned (fun b o hb e=>k b o (by simpa using hb) e) f0 f1 f3 f4 f5⟩
 self:=fun A i s Q E st h=>hself A i s Q E st h
section
variable{X:Cx}{tg:Expr}
def zFs(te:TE):TI:=fun σ H R=>te σ H fun x H1=>∃z,x = .str z/\R (Its z) H1
theorem zAb{l:Expr}{tl:TE}(hl:PE X l tl):PI X tg l (zFs tl):=by
 intro pins s σ H R I h;refine thn (hl pins s σ H _ I h) fun v s1 ⟨x,H1,I1,r1,q1⟩=>?_;obtain⟨z,e,q⟩:=q1;subst e;obtain⟨t,rfl⟩:=r1;have fin:∀(o:Obj) (ty:String),o.cls = .type ty->o.data = .fields #[.str z t,.int (0:Nat) 0]->o.isFreed=false->Turn X.prog X.w X.K tg (Its z) [s1.heap.objs.size] s1.heap.objs.size (fun i h=>h.IsStrIter s1.heap.objs.size ty z t i) ->
   PIE X pins σ tg R (.ref s1.heap.objs.size) { s1 with heap:=s1.heap.push o }:=fun o ty c d hf T=>by
  refine⟨s1.heap.objs.size,[s1.heap.objs.size],_,_,H1,rfl,I1.kept (t':=s1.toks) fun b o e=>AE _ e,T,⟨o,AM _ hf,c,d⟩,fun b hb=>?_,q⟩;have e:b=s1.heap.objs.size:=by simpa using hb
  subst e;exact I1.fpOk (Nat.le_refl _) (I1.hok.fresh (Nat.le_refl _))
 cases ha:z.cps.all (· < 128)
 .exact wpAny_pyIter_wide ha (fin _ _ rfl rfl rfl (Ib _ z t "str_iterator" (by decide) (fun A' hA=>Walks.strWide hA _ z t) fun A i s Q E st h=>wpAny_pyIter_striter_wide st h))
 .exact wpAny_pyIter_ascii ha (fin _ _ rfl rfl rfl (Ib _ z t "str_ascii_iterator" (by decide) (fun A' hA=>Walks.strAscii hA _ z t) fun A i s Q E st h=>wpAny_pyIter_striter_ascii st h))
end
section
variable{X:Cx}
theorem Sh(hc:X.calm=true):E3 X (.builtin "all") (fun xs H Q=>∃(p:Addr) (bs:List Bool),xs = [.ref p]/\SqL X.K H p (bs.map V.bl)/\Q (.bl (bs.all id)) H):=by
 intro pins s σ H xs us Q I r h;obtain⟨p,bs,rfl,hq,q⟩:=h;obtain⟨u,rfl,ru⟩:=Q8 r;cases ru;obtain⟨its,rv,pl,hz⟩:=I.list hq;refine call_all_walk (GZ pl.isList ?_);have hne:p≠s.heap.objs.size:=by
  obtain⟨o,n,e,_⟩:=pl;exact A_ (AG e)
 refine⟨s.heap.objs.size,_,_,_,_,_,fun i=>bs.getD i true,rfl,Walks.list (A:=X.A.in1) (show X.A.in1.handled=none from I.ok.hd hc) _ p hne its.toArray,⟨⟨_,AM _ rfl,rfl,rfl⟩,?_⟩,fun i v s' Q' E' hv q'=>?_,fun h' tk k=>?_⟩
 .obtain⟨o,n,e,c,d,e2⟩:=pl;exact⟨o,AE _ e,c,n,e2⟩
 .have hb:(bs.map V.bl)[i]?=some (V.bl (bs.getD i true))/\RelV (V.bl (bs.getD i true)) v:=by
   have hv':its[i]?=some v:=by simpa using hv
   have hi:i<its.length:=(AH.mp hv').1;have hl:=rv.length;rw[AB]at hl;have e:(bs.map V.bl)[i]?=some (V.bl (bs.getD i true)):=by
    rw[AJ,AC (by omega)];simp[AS,AC (show i<bs.length by omega)]
   obtain⟨u,hu,ru⟩:=rv.get e;rw[hv']at hu;cases hu;exact⟨e,ru⟩
  cases hb.2;exact DJ q'
 .have hl:=rv.length;rw[AB]at hl;have e:(List.range its.toArray.size).all (fun i=>bs.getD i true)=bs.all id:=by
   rw[AR,<-hl];rw[C_,EA,EA];constructor
   .intro z b hb;obtain⟨i,hi,rfl⟩:=F_.mp hb;have:=z i (BV.mpr hi);simpa [AS,AC hi] using this
   .intro z i hi;have hi':=BV.mp hi;have:=z bs[i] (EB hi');simpa [AS,AC hi'] using this
  rw[e];exact⟨.bl (bs.all id),H,I.kept fun b o eb=>k b o (by
   intro hb;have:b=s.heap.objs.size:=by simpa using hb
   exact absurd (AG eb) (by rw[this];exact DN _)) (AE _ eb),rfl,q⟩
theorem Aj:∀{ss:List Str} {us:List Value},Vals (ss.map V.str) us->StrsAre us ss
 | [],_,.nil=>.nil
 | _::_,_,.cons ⟨t,e⟩ r=>by subst e;exact .cons _ _ (Aj r)
def leS(a b:Str):Prop:=¬b.cps.toList<a.cps.toList
theorem Dm:E3 X (.builtin "sorted") (fun xs H Q=>∃(p:Addr) (ss:List Str),xs = [.ref p]/\SqL X.K H p (ss.map V.str)/\∀(l:Addr) (ss':List Str),H l=none->ss'.Perm ss->ss'.Pairwise leS->Q (.ref l) (upd H l (.lst (ss'.map V.str)))):=by
 intro pins s σ H xs us Q I r h;obtain⟨p,ss,rfl,hq,q⟩:=h;obtain⟨u,rfl,ru⟩:=Q8 r;cases ru;obtain⟨its,rv,pl,hz⟩:=I.list hq;have hS:=Aj rv;have hl:=rv.length;refine TS.sorted_gen (collect_list (vs:=its) pl.isList ?_ (by omega));refine⟨rfl,by omega,strKind,oneType',fun s2 _=>TS.keys_strs hS,fun out h' e ho k hg=>?_⟩;have hsz:((s.heap.push (seqObj "list" #[] 0)).update s.heap.objs.size (Obj.mapSeq (· ++ its.toArray))).objs.size=s.heap.objs.size+1:=by rw[EU,size_push']
 obtain⟨hp,hs⟩:=ho;have hm:∀v∈out.toList,∃x t,v = .str x t:=fun v hv=>hS.all v (hp.mem_iff.mp hv);have hv:Vals ((out.toList.map strOf).map V.str) out.toList:=by
  have:∀us:List Value,(∀v∈us,∃x t,v = .str x t)->Vals ((us.map strOf).map V.str) us:=by
   intro us
   induction us with
   | nil=>exact fun _=>.nil
   | cons v r ih =>
    intro h;obtain⟨x,t,rfl⟩:=h v (BE ..);exact .cons ⟨t,rfl⟩ (ih fun u hu=>h u (AX _ hu))
  exact this _ hm
 have hperm:(out.toList.map strOf).Perm ss:=by
  have:=hp.map strOf
  rwa [hS.strs]at this
 have hpw:(out.toList.map strOf).Pairwise leS:=by
  rw[BQ];refine(DH.mp hs).imp fun{u v} ⟨hu,hv',q⟩=>?_;obtain⟨x,t,rfl⟩:=hm u hu;obtain⟨y,t',rfl⟩:=hm v hv';have q':decide (y.cps.toList<x.cps.toList)=false:=q;exact of_decide_eq_false q'
 have hk0:∀b o,s.heap.get? b=some o->h'.get? b=some o:=fun b o eb=>k b o (by
  rw[HH _ _ _ _ (A_ (AG eb))];exact AE _ eb)
 have hn:H (s.heap.objs.size+1)=none:=I.hok.fresh (CV _);have hg':h'.get? (s.heap.objs.size+1)=some (seqObj "list" out e):=by rw[<-hsz];exact hg
 refine⟨.ref (s.heap.objs.size+1),upd H (s.heap.objs.size+1) (.lst ((out.toList.map strOf).map V.str)),?_,by show Value.ref _=_;rw[<-hsz],q _ _ hn hperm hpw⟩;refine I.laid (t':=s.toks) hk0 (CV _) ⟨?_,out.toList,e,hv,by simpa using hg'⟩;rw[AB,AB,hp.length_eq];omega
end
theorem P4{α β:Type}(f:α->β){l m:List β}(h:l.Perm m):∀ps:List α,m=ps.map f->∃ps':List α,ps'.Perm ps/\l=ps'.map f:=by
 induction h with
 | nil=>intro ps e;exact⟨ps,.refl _,e⟩
 | cons x _ ih =>
  intro ps e;cases ps with
  | nil=>cases e
  | cons p ps =>
   rw[AW]at e;obtain⟨rfl,e2⟩:=IM e;obtain⟨ps',h1,h2⟩:=ih ps e2;exact⟨p::ps',.cons _ h1,by rw[AW,h2]⟩
 | swap x y l =>
  intro ps e
  match ps,e with
  | p::q::ps,e =>
   rw[AW,AW]at e;obtain⟨rfl,e2⟩:=IM e;obtain⟨rfl,e3⟩:=IM e2;exact⟨q::p::ps,.swap _ _ _,by rw[AW,AW,e3]⟩
 | trans _ _ ih1 ih2 =>
  intro ps e;obtain⟨ps1,h1,h2⟩:=ih2 ps e;obtain⟨ps2,h3,h4⟩:=ih1 ps1 h2;exact⟨ps2,h3.trans h1,h4⟩
abbrev PA2:=Addr×Str×Str
def zFe(q:PA2):List Nat×List Nat:=(q.2.1.cps.toList,q.2.2.cps.toList)
def leP(q r:PA2):Prop:=TS.pairLt (zFe r) (zFe q)=false
def E2(H:Hp)(q:PA2):Prop:=H q.1=some (.tup [.str q.2.1,.str q.2.2])
theorem l7:∀{ps:List PA2} {us:List Value},Vals (ps.map fun q=>V.ref q.1) us->us=ps.map fun q=>Value.ref q.1
 | [],_,.nil=>rfl
 | _::_,_,.cons r t=>by rw[AW,l7 t];cases r;rfl
theorem Dv:∀(ps:List PA2),Vals (ps.map fun q=>V.ref q.1) (ps.map fun q=>Value.ref q.1)
 | []=>.nil
 | _::ps=>.cons rfl (Dv ps)
section
variable{X:Cx}
theorem Inv.pairAt{pins:List (Addr×Obj)}{σ:St}{H:Hp}{s:Shared}{q:PA2}(I:Inv X pins σ H s)(h:E2 H q):TS.PairAt s.heap (.ref q.1) q.2.1 q.2.2:=by
 obtain⟨its,rv,⟨o,e,c,n,d⟩,_⟩:=I.tuple (SqT.of h);obtain⟨u1,u2,rfl,⟨t,rfl⟩,⟨t',rfl⟩⟩:=rv.two;exact⟨q.1,o,n,t,t',rfl,e,c,d⟩
theorem Fp:E3 X (.builtin "sorted") (fun xs H Q=>∃(p:Addr) (ps:List PA2),xs = [.ref p]/\SqL X.K H p (ps.map fun q=>V.ref q.1)/\(∀q∈ps,E2 H q) /\
  ∀(l:Addr) (ps':List PA2),H l=none->ps'.Perm ps->ps'.Pairwise leP->Q (.ref l) (upd H l (.lst (ps'.map fun q=>V.ref q.1)))):=by
 intro pins s σ H xs us Q I r h;obtain⟨p,ps,rfl,hq,hpi,q⟩:=h;obtain⟨u,rfl,ru⟩:=Q8 r;cases ru;obtain⟨its,rv,pl,hz⟩:=I.list hq;have ei:=l7 rv;have hl:=rv.length;refine TS.sorted_gen (collect_list (vs:=its) pl.isList ?_ (by omega));have hsz:((s.heap.push (seqObj "list" #[] 0)).update s.heap.objs.size (Obj.mapSeq (· ++ its.toArray))).objs.size=s.heap.objs.size+1:=by rw[EU,size_push']
 have hk1:∀b o,s.heap.get? b=some o->((s.heap.push (seqObj "list" #[] 0)).update s.heap.objs.size (Obj.mapSeq (· ++ its.toArray))).get? b=some o:=fun b o eb=>by
  rw[HH _ _ _ _ (A_ (AG eb))];exact AE _ eb
 have hpa:∀q∈ps,TS.PairAt s.heap (.ref q.1) q.2.1 q.2.2:=fun q hq=>I.pairAt (hpi q hq);refine⟨rfl,by omega,TS.pairKind s.heap,tuples' true,fun s2 hE=>TS.keys_pairs (fun v hv=>?_) (fun b o eb=>?_),fun out h' e ho k hg=>?_⟩
 .rw[ei]at hv;obtain⟨q,hq,rfl⟩:=AI.mp hv;exact⟨_,_,hpa q hq⟩
 .have hne:b≠((s.heap.push (seqObj "list" #[] 0)).update s.heap.objs.size (Obj.mapSeq (· ++ its.toArray))).objs.size:=by
   rw[hsz];exact A_ (DV (AG eb))
  exact⟨hne,hE b o hne (hk1 b o eb)⟩
 .obtain⟨hp,hs⟩:=ho;rw[ei]at hp;obtain⟨ps',h1,h2⟩:=P4 (fun q:PA2=>Value.ref q.1) hp ps rfl;have hpw:ps'.Pairwise leP:=by
   rw[h2,BQ]at hs;refine(DH.mp hs).imp fun{a b} ⟨ha,hb,z⟩=>?_;have ka:=(hpa a (h1.mem_iff.mp ha)).key;have kb:=(hpa b (h1.mem_iff.mp hb)).key;have z':TS.pairLt ((TS.pairOf s.heap (.ref b.1)).getD ([],[])) ((TS.pairOf s.heap (.ref a.1)).getD ([],[]))=false:=z;rw[ka,kb]at z';exact z'
  have hn:H (s.heap.objs.size+1)=none:=I.hok.fresh (CV _);have hg':h'.get? (s.heap.objs.size+1)=some (seqObj "list" out e):=by rw[<-hsz];exact hg
  refine⟨.ref (s.heap.objs.size+1),upd H (s.heap.objs.size+1) (.lst (ps'.map fun q=>V.ref q.1)),?_,by show Value.ref _=_;rw[<-hsz],q _ _ hn h1 hpw⟩;refine I.laid (t':=s.toks) (fun b o eb=>k b o (hk1 b o eb)) (CV _) ⟨?_,out.toList,e,by rw[h2];exact Dv ps',by simpa using hg'⟩;rw[AB,h1.length_eq];rw[AB]at hz;exact hz
end
theorem Inv.turnLaid{X:Cx}{pins:List (Addr×Obj)}{σ:St}{H:Hp}{s:Shared}{h':Heap}{t':Nat}{fp:List Addr}{T:Addr}{o:HO}(I:Inv X pins σ H s)(k:∀b ob,b∉fp->s.heap.get? b=some ob->h'.get? b=some ob)
  (hf:∀b∈fp,Bu X pins H b) (hfo:∀b∈fp,∃ob,s.heap.get? b=some ob) (hT:s.heap.objs.size<=T) (new:ObjOk X.prog X.w (upd H T o) h' T o):Inv X pins σ (upd H T o) { s with heap:=h',toks:=t' }:=by
 have hn:=I.hok.fresh hT;have nT:∀b ob,s.heap.get? b=some ob->b≠T:=fun b ob e=>A_ (BH (AG e) hT);have nf:∀b u,H b=some u->b∉fp:=fun b u e hb=>by rw[(hf b hb).1]at e;cases e
 refine I.step (g':=s.gens) (d':=s.drawn) (ch:=fp) (fun b hb=>let⟨_,f1,_,f3,f4,f5⟩:=hf b hb;⟨f3,f1,f4,f5⟩) (fun b ob _ _ hc e _=>k b ob hc e) (fun b ob _ _ hc e _=>⟨ob.slots,k b ob hc e⟩) (fun b ob _ e n=>by rw[B5 (nT b ob e)];exact n)
  (fun b ob hc e=>⟨ob,k b ob hc e⟩) (fun b xs e=>by rw[B5 (A9 e hn)];exact e) (fun b u xs e=>by rw[B5 (A9 e hn)];exact e) (fun b ps e=>⟨#[],by rw[B5 (A9 e hn),e];simp⟩) (fun m hm=>?_) (fun b u e=>?_) I.bare
 .obtain⟨ob,es,ep,ho,r⟩:=hm;exact⟨ob,es,ep,k _ ob (fun hb=>(hf _ hb).2.1 rfl) ho,r⟩
 .by_cases hb:b=T
  .subst hb;rw[A7]at e;cases e;exact new
  .rw[B5 hb]at e;refine(I.hok b u e).stay (fun c v hc q=>k c v ?_ q) (fun c q=>by rw[B5 (A9 q hn)];exact q) fun c xs q=>by rw[B5 (A9 q hn)];exact q
   rcases hc with z | z
   .rw[z];exact nf b u e
   .exact nf c _ z
def Ite(K:PySem.W.Frag)(a:Addr):It :=
 ⟨fun i H=>∃xs x,SqL K H a xs/\xs[i]?=some x,fun i H v H'=>∃T x,v = .ref T/\H T=none/\H'=upd H T (.tup [.int i,x])/\∀xs,SqL K H a xs->xs[i]?=some x,fun i H=>∃xs,SqL K H a xs/\xs.length=i⟩
theorem Px{P:Program}{w:World}{K:PySem.W.Frag}{elts:List Expr}{kk:Nat}{tp:Pos}(a it e:Addr)(hei:e≠it):Turn P w K (.Tuple elts kk tp) (Ite K a) [e,it] e (fun i h=>(∃old,IsEnum h e it i old)/\h.IsListIter it a i) where
 mem:=by simp
 obj:=fun i h st b hb=>by
  obtain⟨⟨old,h1⟩,o,h2,c,d⟩:=st;rcases AV.mp hb with rfl | hb
  .exact⟨_,h1,fun v z=>by cases z⟩
  .rw[AF.mp hb];exact⟨o,h2,fun v z=>by rw[d]at z;cases z⟩
 keep:=fun i h h' st k=>⟨let⟨old,h1⟩:=st.1;⟨old,k e (by simp) _ h1⟩,st.2.at fun o x=>k it (by simp) o x⟩
 item:=by
  intro X hP hw hK hc i pins s σ H E I hf st hg;subst hP hw hK;obtain⟨xs,x,hq,hx⟩:=hg;obtain⟨its,rv,p,hz⟩:=I.list hq;obtain⟨u,hu,ru⟩:=rv.get hx;obtain⟨f0,f1,f2,f3,f4,f5⟩:=hf e (by simp);obtain⟨g0,g1,g2,g3,g4,g5⟩:=hf it (by simp);have hae:a≠e:=fun z=>by
   obtain⟨old,h1⟩:=st.1;obtain⟨o,n,e1,c,_⟩:=p;rw[z,h1]at e1;cases e1;exact absurd c (by show ¬Value.type "enumerate" = Value.type "list";decide)
  have hai:a≠it:=fun z=>by
   obtain⟨o2,h2,c2,d2⟩:=st.2;obtain⟨o,n,e1,c,_⟩:=p;rw[z,h2]at e1;cases e1;rw[c2]at c;exact absurd c (by decide)
  have hi:i<its.toArray.size:=by
   rw[AR];exact(AH.mp hu).1
  have W:=WalksT.enumerate (prog:=X.prog) (w:=X.w) (A:=X.A) (I.ok.hd hc) e it a hei hae hai its.toArray;refine W.item i s _ _ hi ⟨st.1,st.2,p.isList⟩ fun T vals h' tk hv hT ht hm k=>?_;obtain⟨t,x',hx',rfl⟩:=hv;have:x'=u:=by
   have:its.toArray[i]?=some u:=by simpa using hu
   rw[this]at hx';exact(BI hx').symm
  subst this;refine⟨.ref T,rfl,W.go elts kk tp i T _ _ _ hm fun h2 st2 k2=>?_⟩;have hTn:H T=none:=I.hok.fresh hT;have hTe:T≠e:=fun z=>W.apart i T h' hm (by simp[z]);have hTi:T≠it:=fun z=>W.apart i T h' hm (by simp[z]);have kk2:∀b o,b≠e->b≠it->s.heap.get? b=some o->h2.get? b=some o:=fun b o b1 b2 eb=>k2 b o (by simp[b1,b2]) (k b o (by simp[b1,b2]) eb);have hT2:h2.IsTuple T #[.int i t,x']:=by
   obtain⟨o,e1,r⟩:=ht;exact⟨o,k2 T o (by simp[hTe,hTi]) e1,r⟩
  refine⟨.ref T,upd H T (.tup [.int i,x]),I.turnLaid (fp:=[e,it]) (fun b o hb eb=>kk2 b o (fun z=>hb (by simp[z])) (fun z=>hb (by simp[z])) eb) hf (fun b hb=>?_) hT ⟨?_,[.int i t,x'],.cons ⟨t,rfl⟩ (.cons ru .nil),hT2⟩,rfl,⟨T,x,rfl,hTn,rfl,fun ys hy=>by rw[I.list_inj hy hq];exact hx⟩,⟨st2.1,st2.2.1⟩,fun b hb=>?_⟩
  .rcases AV.mp hb with rfl | hb
   .obtain⟨old,h1⟩:=st.1;exact⟨_,h1⟩
   .rw[AF.mp hb];obtain⟨o,h1,_⟩:=st.2;exact⟨o,h1⟩
  .show 2<=sizeLine;decide
  .rcases AV.mp hb with rfl | hb
   .rw[B5 (Ne.symm hTe)];exact f0
   .rw[AF.mp hb,B5 (Ne.symm hTi)];exact g0
 done:=by
  intro X hP hw hK hc i pins s σ H E I hf st hg;subst hP hw hK;obtain⟨xs,hq,hx⟩:=hg;obtain⟨its,rv,p,hz⟩:=I.list hq;obtain⟨f0,f1,f2,f3,f4,f5⟩:=hf e (by simp);obtain⟨g0,g1,g2,g3,g4,g5⟩:=hf it (by simp);have hae:a≠e:=fun z=>by
   obtain⟨old,h1⟩:=st.1;obtain⟨o,n,e1,c,_⟩:=p;rw[z,h1]at e1;cases e1;exact absurd c (by show ¬Value.type "enumerate" = Value.type "list";decide)
  have hai:a≠it:=fun z=>by
   obtain⟨o2,h2,c2,d2⟩:=st.2;obtain⟨o,n,e1,c,_⟩:=p;rw[z,h2]at e1;cases e1;rw[c2]at c;exact absurd c (by decide)
  have W:=WalksT.enumerate (prog:=X.prog) (w:=X.w) (A:=X.A) (I.ok.hd hc) e it a hei hae hai its.toArray;have hl:=rv.length;have hi:i=its.toArray.size:=by rw[AR];omega
  rw[hi]at st;refine W.done s _ _ ⟨st.1,st.2,p.isList⟩ fun h' tk k=>⟨rfl,?_⟩;have I1:=I.step (h':=h') (H':=H) (t':=tk) (g':=s.gens) (d':=s.drawn) (ch:=[e,it]) (fun b hb=>let⟨_,f1,_,f3,f4,f5⟩:=hf b hb;⟨f3,f1,f4,f5⟩) (fun b ob _ _ hc e _=>k b ob hc e) (fun b ob _ _ hc e _=>⟨ob.slots,k b ob hc e⟩) (fun _ _ _ _ n=>n)
   (fun b ob hc e=>⟨ob,k b ob hc e⟩) (fun _ _ e=>e) (fun _ _ _ e=>e) (fun b ps e=>⟨#[],by rw[e];simp⟩) (fun m hm=>?_) (fun b u eb=>?_) I.bare
  .exact I1
  .obtain⟨ob,es,ep,ho,r⟩:=hm;exact⟨ob,es,ep,k _ ob (fun hb=>(hf _ hb).2.1 rfl) ho,r⟩
  .have nf:∀b u,H b=some u->b∉[e,it]:=fun b u e hb=>by rw[(hf b hb).1]at e;cases e
   refine(I.hok b u eb).stay (fun c v hc q=>k c v ?_ q) (fun _ q=>q) fun _ _ q=>q;rcases hc with z | z
   .rw[z];exact nf b u eb
   .exact nf c _ z
 self:=fun A i s Q E st h=>by
  obtain⟨old,he⟩:=st.1;exact wpAny_pyIter_enum he h
section
variable{X:Cx}{elts:List Expr}{kk:Nat}{tp:Pos}
def zBv(K:PySem.W.Frag)(ta:TA):TI:=fun σ H R=>ta σ H fun vs H1=>∃a xs,vs = [.ref a]/\SqL K H1 a xs/\R (Ite K a) H1
theorem Xf{a:Expr}{ta:TA}{p pos:Pos}(hg:Gl X "enumerate")(hm:X.mg "enumerate" = none)(hv:bootBuiltins "enumerate" = some (.type "enumerate"))(ha:PA X [a] ta)(hs:starEach [a] X.env = [(false,eval a X.env)]:=by rfl):PI X (.Tuple elts kk tp) (.Call (.Name "enumerate" p) [a] [] pos) (zBv X.K ta):=by
 intro pins s σ H R I h;refine Call_ (T1 I hg hm hv (PyProof.Rows.callWith_type1 (thn (ha pos pins s σ H _ I h) fun us s1 ⟨vs,H1,I1,r1,q1⟩=>?_) hs rfl));obtain⟨l,xs,e,hq,q⟩:=q1;subst e;obtain⟨u,rfl,ru⟩:=Q8 r1;cases ru;obtain⟨its,rv,pl,hz⟩:=I1.list hq;refine call_enumerate_list pl.isList fun h' he hit hsz k=>wpAny_pyIter_enum he ?_;have I2:Inv X pins σ H1 { s1 with heap:=h' }:=I1.kept (t':=s1.toks) k;refine⟨s1.heap.objs.size+1,[s1.heap.objs.size+1,s1.heap.objs.size],_,_,H1,rfl,I2,Px l s1.heap.objs.size (s1.heap.objs.size+1) (Nat.succ_ne_self _),⟨⟨_,he⟩,hit⟩,fun b hb=>?_,q⟩;rcases AV.mp hb with z | hb
 .rw[z];exact I1.fpOk (CV _) (I1.hok.fresh (CV _))
 .rw[AF.mp hb];exact I1.fpOk (Nat.le_refl _) (I1.hok.fresh (Nat.le_refl _))
end
end L2
namespace ST
open PySem
def stp(mask i:Nat):Nat:=(5*i+1) %(mask+1)
def itr(mask:Nat):Nat->Nat->Nat
 | 0,i=>i
 | t+1,i=>itr mask t (stp mask i)
def orb(mask:Nat):Nat->Nat->List Nat
 | 0,_=>[]
 | n+1,i=>i::orb mask n (stp mask i)
theorem Hf(mask a b i:Nat):itr mask (a+b) i=itr mask b (itr mask a i):=by
 induction a generalizing i with
 | zero=>rw[D_];rfl
 | succ a ih=>rw[Nat.succ_add];exact ih (stp mask i)
theorem Qz{mask j:Nat}:∀{n i:Nat},j∈orb mask n i->∃t,t<n/\itr mask t i=j
 | 0,_,h=>by simp[orb]at h
 | n+1,i,h=>by
  rcases AV.mp h with rfl | h
  .exact⟨0,by omega,rfl⟩
  .obtain⟨t,h1,h2⟩:=Qz h;exact⟨t+1,by omega,h2⟩
def Msk(mask:Nat):Prop:=mask=7\/mask=31\/mask=127\/mask=511
def full(mask:Nat):Bool:=(List.range (mask+1)).all (fun j=>(orb mask (mask+1) 0).contains j)&&itr mask (mask+1) 0 == 0
theorem zEm:full 7=true:=by decide +kernel
theorem zAx:full 31=true:=by decide +kernel
theorem Ye:full 127=true:=by decide +kernel
theorem Vv:full 511=true:=by decide +kernel
theorem Msk.full{mask:Nat}(h:Msk mask):full mask=true:=by
 rcases h with rfl | rfl | rfl | rfl
 .exact zEm
 .exact zAx
 .exact Ye
 .exact Vv
theorem cyc{mask:Nat}(h:Msk mask){i j:Nat}(hi:i<=mask)(hj:j<=mask):∃t,t<=mask/\itr mask t i=j:=by
 have f:=h.full;unfold ST.full at f;rw[BG,EA]at f;obtain⟨f1,f2⟩:=f;have f2:itr mask (mask+1) 0=0:=by simpa using f2
 have at_:∀k,k<=mask->∃t,t<mask+1/\itr mask t 0=k:=fun k hk=>Qz (by simpa using f1 k (BV.mpr (by omega)));obtain⟨a,ha,ea⟩:=at_ i hi;obtain⟨b,hb,eb⟩:=at_ j hj;by_cases hab:a<=b
 .refine⟨b-a,by omega,?_⟩;rw[<-ea,<-Hf,show a +(b-a)=b by omega,eb]
 .refine⟨mask+1-a+b,by omega,?_⟩;rw[<-ea,<-Hf,show a +(mask+1-a+b) =(mask+1)+b by omega,Hf,f2,eb]
def lps(mask:Nat):Nat->Nat×Nat->Nat×Nat
 | 0,x=>x
 | t+1,x=>lps mask t (SetTable.leap mask x.1 x.2)
theorem We(mask a b:Nat)(x:Nat×Nat):lps mask (a+b) x=lps mask b (lps mask a x):=by
 induction a generalizing x with
 | zero=>rw[D_];rfl
 | succ a ih=>rw[Nat.succ_add];exact ih _
theorem Iv(mask:Nat):∀(t:Nat) (x:Nat×Nat),(lps mask t x).2=x.2 / 32^t
 | 0,x=>by simp[lps]
 | t+1,x=>by
  show(lps mask t (SetTable.leap mask x.1 x.2)).2=_;rw[Iv mask t];show x.2 / 32 / 32^t=_;rw[Nat.div_div_eq_div_mul,Nat.pow_succ,Nat.mul_comm]
theorem Vg(mask:Nat):∀(t:Nat) (x:Nat×Nat),x.1<=mask->(lps mask t x).1<=mask
 | 0,_,h=>h
 | t+1,x,_=>Vg mask t _ (Nat.lt_succ_iff.mp (Nat.mod_lt _ (Nat.succ_pos _)))
theorem Jm(mask:Nat):∀(t i:Nat),lps mask t (i,0) =(itr mask t i,0)
 | 0,_=>rfl
 | t+1,i=>by
  show lps mask t ((i*5+1+0 / 32) %(mask+1),0 / 32)=_;rw[Nat.zero_div,Nat.add_zero,Jm mask t,Nat.mul_comm];rfl
theorem Pq{mask:Nat}(h:Msk mask){i j p:Nat}(hi:i<=mask)(hj:j<=mask)(hp:p<2^64):∃t,t<=mask+13/\(lps mask t (i,p)).1=j:=by
 have e2:(lps mask 13 (i,p)).2=0:=by
  rw[Iv];exact Nat.div_eq_of_lt (BH hp (by decide))
 obtain⟨t,ht,et⟩:=cyc h (Vg mask 13 (i,p) hi) hj;refine⟨13+t,by omega,?_⟩;rw[We];have:lps mask 13 (i,p) =((lps mask 13 (i,p)).1,0):=Prod.ext rfl e2;rw[this,Jm];exact et
def adv(t:SetTable):Nat->SetTable.Probe->SetTable.Probe
 | 0,p=>p
 | n+1,p=>adv t n (t.advance p)
theorem Nj(t:SetTable)(a b:Nat)(p:SetTable.Probe):adv t (a+b) p=adv t b (adv t a p):=by
 induction a generalizing p with
 | zero=>rw[D_];rfl
 | succ a ih=>rw[Nat.succ_add];exact ih _
theorem Qw(t:SetTable):∀(m:Nat) (p:SetTable.Probe),p.more=m->∃p',adv t (m+1) p=p'/\p'.i =(SetTable.leap t.mask p.i p.perturb).1/\p'.perturb =(SetTable.leap t.mask p.i p.perturb).2/\p'.j=p'.i/\p'.more=SetTable.runEnd t.mask p'.i-p'.i/\p'.dummy=p.dummy
 | 0,p,h=>by
  have ea:t.advance p ={ p with j:=(SetTable.leap t.mask p.i p.perturb).1,more:=SetTable.runEnd t.mask (SetTable.leap t.mask p.i p.perturb).1-(SetTable.leap t.mask p.i p.perturb).1,i:=(SetTable.leap t.mask p.i p.perturb).1,perturb:=(SetTable.leap t.mask p.i p.perturb).2 }:=by
   unfold SetTable.advance;rw[AK (by omega)]
  refine⟨t.advance p,rfl,?_⟩;rw[ea];exact⟨rfl,rfl,rfl,rfl,rfl⟩
 | m+1,p,h=>by
  have ea:t.advance p ={ p with j:=p.j+1,more:=p.more-1 }:=by unfold SetTable.advance;rw[AO (by omega)]
  obtain⟨p',h1,h2⟩:=Qw t m (t.advance p) (by rw[ea];show p.more-1=m;omega);rw[ea]at h2;exact⟨p',h1,h2⟩
theorem zCb(mask i:Nat):SetTable.runEnd mask i-i<=9:=by unfold SetTable.runEnd;split<;>omega
theorem Nt(t:SetTable):∀(n:Nat) (p:SetTable.Probe),p.j=p.i->p.more=SetTable.runEnd t.mask p.i-p.i->∃k,k<=10*n/\(adv t k p).j =(lps t.mask n (p.i,p.perturb)).1
 | 0,p,h1,_=>⟨0,by omega,h1⟩
 | n+1,p,h1,h2=>by
  obtain⟨p',e,a1,a2,a3,a4,_⟩:=Qw t p.more p rfl;obtain⟨k,hk,ek⟩:=Nt t n p' a3 a4;have:=zCb t.mask p.i;refine⟨p.more+1+k,by omega,?_⟩;rw[Nj,e,ek,a1,a2];rfl
theorem Cu(t:SetTable):∀(n:Nat) (p:SetTable.Probe),(adv t n p).dummy=p.dummy
 | 0,_=>rfl
 | n+1,p=>by
  show(adv t n (t.advance p)).dummy=_;rw[Cu t n];unfold SetTable.advance;split<;>rfl
theorem Ql{t:SetTable}(hm:Msk t.mask)(h:Int){j:Nat}(hj:j<=t.mask):∃n,n<10*SetTable.turns t.mask/\(adv t n (t.probeStart h)).j=j:=by
 have hb:SetTable.bits h<2^64:=by
  unfold SetTable.bits;have h1:0<=h %(2^64:Int):=GV _ (by decide);have h2:h %(2^64:Int)<2^64:=FQ _ (by decide);omega
 have hi:SetTable.bits h %(t.mask+1)<=t.mask:=Nat.lt_succ_iff.mp (Nat.mod_lt _ (Nat.succ_pos _));obtain⟨n,hn,en⟩:=Pq hm hi hj hb;obtain⟨k,hk,ek⟩:=Nt t n (t.probeStart h) rfl rfl;refine⟨k,by unfold SetTable.turns;omega,ek.trans en⟩
theorem V7{t:SetTable}(hd:t.dummies = #[])(j:Nat):t.slot j = .empty\/∃i,t.slot j = .live i/\t.place[i]?=some j:=by
 unfold SetTable.slot;dsimp only;by_cases h:(t.place[SetTable.below t.place j]? == some j)=true
 .rw[AO h];exact .inr ⟨_,rfl,by simpa using h⟩
 .rw[AK h];have:SetTable.has t.dummies j=false:=by
   rw[hd];unfold SetTable.has;simp
  rw[this];exact .inl rfl
theorem Lr{t:SetTable}(hd:t.dummies = #[])(hs:t.place.size<=t.mask):∃j,j<=t.mask/\t.slot j = .empty:=by
 by_cases h:∃j,j<=t.mask/\t.slot j = .empty
 .exact h
 .exfalso;have all:∀j∈List.range (t.mask+1),j∈t.place.toList:=fun j hj=>by
   have hj':j<=t.mask:=by have:=BV.mp hj;omega
   rcases V7 hd j with e | ⟨i,_,e⟩
   .exact absurd ⟨j,hj',e⟩ h
   .exact BJ (by rw[BO];exact e)
  have:=(HC (n:=t.mask+1)).length_le_of_subset all;rw[BW,AQ]at this;omega
theorem Vk{t:SetTable}(hd:t.dummies = #[])(hashAt:Nat->Int)(h:Int)(p:SetTable.Probe)(hpd:p.dummy=none):∀(k m n fuel:Nat),m+k=n->t.slot (adv t n p).j = .empty->k<fuel ->
  (∃j,SetTable.probe.go t hashAt h fuel (adv t m p)=some (.empty j none)/\t.slot j = .empty) \/
   ∃l i,m<=l/\l<n/\t.slot (adv t l p).j = .live i/\hashAt i=h/\SetTable.probe.go t hashAt h fuel (adv t m p)=some (.candidate (adv t l p).j i (adv t (l+1) p))
 | k,m,n,0,_,_,hf=>absurd hf (Nat.not_lt_zero _)
 | k,m,n,fuel+1,e,he,hf=>by
  have hdm:(adv t m p).dummy=none:=(Cu t m p).trans hpd;have nx:adv t (m+1) p=t.advance (adv t m p):=Nj t m 1 p;rcases V7 hd (adv t m p).j with es | ⟨i,es,ep⟩
  .refine .inl ⟨(adv t m p).j,?_,es⟩;unfold SetTable.probe.go;rw[es,hdm]
  .have hk:k≠0:=by
    rintro rfl;have:m=n:=by omega
    subst this;rw[he]at es;cases es
   by_cases hh:hashAt i=h
   .refine .inr ⟨m,i,Nat.le_refl _,by omega,es,hh,?_⟩;unfold SetTable.probe.go;rw[es];dsimp only;rw[AO (by simpa using hh),nx]
   .have eg:SetTable.probe.go t hashAt h (fuel+1) (adv t m p)=SetTable.probe.go t hashAt h fuel (adv t (m+1) p):=by
     conv=>lhs;unfold SetTable.probe.go
     rw[es];dsimp only;rw[AK (by simpa using hh),nx]
    rcases Vk hd hashAt h p hpd (k-1) (m+1) n fuel (by omega) he (by omega)with⟨j,h1,h2⟩ | ⟨l,i',h1,h2,h3,h4,h5⟩
    .exact .inl ⟨j,eg.trans h1,h2⟩
    .exact .inr ⟨l,i',by omega,h2,h3,h4,eg.trans h5⟩
theorem Cf{α β:Type}{f g:α->Option β}:∀{l:List α},(∀x∈l,f x=g x)->l.filterMap f=l.filterMap g
 | [],_=>rfl
 | a::r,h=>by
  have h1:=h a (BE ..);have h2:=Cf (l:=r) fun x hx=>h x (AX _ hx);rw[ED,ED,h1,h2]
theorem Uz{α:Type}{f g:Nat->Option α}{j:Nat}{k:α}(hg:g j=some k)(hf:f j=none):∀{l:List Nat},l.Nodup->j∈l->(∀i,i≠j->g i=f i)->(l.filterMap g).Perm (k::l.filterMap f)
 | [],_,h,_=>by simp at h
 | i::r,nd,h,he=>by
  obtain⟨n1,n2⟩:=FH.mp nd;by_cases e:i=j
  .subst e;have er:r.filterMap g=r.filterMap f:=Cf fun x hx=>he x fun z=>n1 (z▸hx);rw[E_ hg,HN hf,er]
  .have hr:=Uz hg hf n2 ((AV.mp h).resolve_left fun z=>e z.symm) he;cases ef:f i with
   | none=>rw[HN ((he i e).trans ef),HN ef];exact hr
   | some b =>
    rw[E_ ((he i e).trans ef),E_ ef];exact(List.Perm.cons b hr).trans (List.Perm.swap _ _ _)
def ocs(mask:Nat)(ow:Array (Option Nat)):List Nat:=(List.range (mask+1)).filterMap fun j=>ow.getD j none
structure LI(mask:Nat)(ow:Array (Option Nat))(k:Nat):Prop where
 sz:ow.size=mask+1
 pm:(ocs mask ow).Perm (List.range k)
theorem Qq{mask:Nat}{ow:Array (Option Nat)}{j:Nat}(hj:ow[j]?=some none):∀(t fuel i p:Nat),(lps mask t (i,p)).1=j->t<fuel->∃j',SetTable.layClean.free mask ow fuel i p=some j'/\ow[j']?=some none
 | t,0,_,_,_,h=>absurd h (Nat.not_lt_zero _)
 | t,fuel+1,i,p,e,h=>by
  unfold SetTable.layClean.free;cases q:(List.range (SetTable.runEnd mask i+1-i)).find? fun k=>(ow.getD (i+k) (some 0)).isNone with
  | some k =>
   refine⟨i+k,rfl,?_⟩;have:=List.find?_some q;rw[CS]at this;cases g:ow[i+k]? with
   | none=>rw[g]at this;simp at this
   | some z=>rw[g]at this;simp at this;rw[this]
  | none =>
   dsimp only;cases t with
   | zero =>
    exfalso;have e':i=j:=e;subst e';have hr:0∈List.range (SetTable.runEnd mask i+1-i):=BV.mpr (by unfold SetTable.runEnd;split<;>omega);have:=List.find?_eq_none.mp q 0 hr;rw[CS,Nat.add_zero,hj]at this;simp at this
   | succ t=>exact Qq hj t fuel _ _ e (by omega)
theorem LI.room{mask:Nat}{ow:Array (Option Nat)}{k:Nat}(h:LI mask ow k)(hk:k<=mask):∃j,j<=mask/\ow[j]?=some none:=by
 by_cases q:∃j,j<=mask/\ow[j]?=some none
 .exact q
 .exfalso;have all:∀j∈List.range (mask+1),∃v,ow.getD j none=some v:=fun j hj=>by
   have hj':j<ow.size:=by rw[h.sz];exact BV.mp hj
   cases e:ow[j]? with
   | none=>rw[Array.getElem?_eq_none_iff]at e;omega
   | some v =>
    cases v with
    | none=>exact absurd ⟨j,by have:=BV.mp hj;omega,e⟩ q
    | some v=>exact⟨v,by rw[CS,e];rfl⟩
  have hl:∀l:List Nat,(∀j∈l,∃v,ow.getD j none=some v)->(l.filterMap fun j=>ow.getD j none).length=l.length:=by
   intro l
   induction l with
   | nil=>intro _;rfl
   | cons j r ih =>
    intro ha;obtain⟨v,hv⟩:=ha j (BE ..);rw[E_ (f:=fun j=>ow.getD j none) hv,BL,BL,ih fun x hx=>ha x (AX _ hx)]
  have:=h.pm.length_eq;unfold ocs at this;rw[hl _ all,BW,BW]at this;omega
theorem LI.put{mask:Nat}{ow:Array (Option Nat)}{k j:Nat}(h:LI mask ow k)(hj:ow[j]?=some none):LI mask (ow.setIfInBounds j (some k)) (k+1):=by
 have hlt:j<ow.size:=by
  obtain⟨h1,_⟩:=CL.mp hj;exact h1
 refine⟨by rw[HJ];exact h.sz,?_⟩;have p:=Uz (f:=fun j=>ow.getD j none) (g:=fun i=>(ow.setIfInBounds j (some k)).getD i none) (j:=j) (k:=k) (by rw[CS,Array.getElem?_setIfInBounds_self_of_lt hlt];rfl) (by rw[CS,hj];rfl)
  (l:=List.range (mask+1)) HC (BV.mpr (by rw[<-h.sz];exact hlt)) fun i hi=>by
   rw[CS,Array.getElem?_setIfInBounds_ne (Ne.symm hi),<-CS]
 have e:List.range (k+1)=List.range k ++ [k]:=EF;refine p.trans ?_;rw[e];exact(List.Perm.cons k h.pm).trans (DF (l₁:=[k]))
theorem Yj(h:Int):SetTable.bits h<2^64:=by
 unfold SetTable.bits;have h1:0<=h %(2^64:Int):=GV _ (by decide);have h2:h %(2^64:Int)<2^64:=FQ _ (by decide);omega
theorem Uv{mask:Nat}(hm:Msk mask):∀(hs:List Int) (ow:Array (Option Nat)) (k:Nat),LI mask ow k->k+hs.length<=mask->∃ow',(hs.foldl (init:=some (ow,k)) fun acc h=>do
   let(owner,k) <-acc
   let j <-SetTable.layClean.free mask owner (SetTable.turns mask) (SetTable.bits h %(mask+1)) (SetTable.bits h)
   pure (owner.setIfInBounds j (some k),k+1))=some (ow',k+hs.length)/\LI mask ow' (k+hs.length)
 | [],ow,k,h,_=>⟨ow,rfl,h⟩
 | x::r,ow,k,h,hk=>by
  rw[BL]at hk;obtain⟨j,hj,ej⟩:=h.room (by omega);obtain⟨t,ht,et⟩:=Pq hm (i:=SetTable.bits x %(mask+1)) (j:=j) (Nat.lt_succ_iff.mp (Nat.mod_lt _ (Nat.succ_pos _))) hj (Yj x);obtain⟨j',h1,h2⟩:=Qq ej t (SetTable.turns mask) _ _ et (by unfold SetTable.turns;omega);obtain⟨ow',h3,h4⟩:=Uv hm r (ow.setIfInBounds j' (some k)) (k+1) (h.put h2) (by omega);refine⟨ow',?_,by rw[BL,show k +(r.length+1)=k+1+r.length by omega];exact h4⟩;rw[FX];show List.foldl _ ((SetTable.layClean.free mask ow (SetTable.turns mask) (SetTable.bits x %(mask+1)) (SetTable.bits x)).bind fun j=>some (ow.setIfInBounds j (some k),k+1)) r=_;rw[h1];show List.foldl _ (some (ow.setIfInBounds j' (some k),k+1)) r=_;rw[BL,show k +(r.length+1)=k+1+r.length by omega];exact h3
theorem Xh{mask:Nat}(hm:Msk mask)(finger moves:Nat)(led plain:Bool)(hs:Array Int)(hn:hs.size<=mask) :
  ∃place order,SetTable.laid mask finger moves led plain hs=some ({ mask,place,dummies:=#[],finger,led,moves,plain },order)/\place.size=hs.size/\order.toList.Perm (List.range hs.size):=by
 have h0:LI mask (Array.replicate (mask+1) none) 0:=by
  refine⟨Array.size_replicate,?_⟩;have:ocs mask (Array.replicate (mask+1) none) = []:=by
   unfold ocs;rw[List.filterMap_eq_nil_iff];intro j hj;rw[CS,Array.getElem?_replicate];split<;>rfl
  rw[this];exact HA _
 obtain⟨ow,h1,h2⟩:=Uv hm hs.toList _ 0 h0 (by rw[AQ];omega);rw[D_,AQ]at h1 h2;have hc:SetTable.layClean mask hs=some ow:=by
  unfold SetTable.layClean;rw[<-Array.foldl_toList,h1];rfl
 have e2:((List.range (mask+1)).filterMap fun j=>(ow.getD j none).map (j,·)).map (·.2)=ocs mask ow:=by
  unfold ocs;rw[List.map_filterMap];refine Cf fun j _=>?_;cases ow.getD j none<;>rfl
 refine⟨(((List.range (mask+1)).filterMap fun j=>(ow.getD j none).map (j,·)).map (·.1)).toArray,(((List.range (mask+1)).filterMap fun j=>(ow.getD j none).map (j,·)).map (·.2)).toArray,?_,?_,?_⟩
 .unfold SetTable.laid;rw[hc];rfl
 .rw[AR,AB,<-AB (f:=(·.2)),e2,h2.pm.length_eq,BW]
 .show(((List.range (mask+1)).filterMap fun j=>(ow.getD j none).map (j,·)).map (·.2)).Perm _;rw[e2];exact h2.pm
theorem Sy{es:Array (Int×Value)}{order:Array Nat}(h:order.toList.Perm (List.range es.size)):(order.filterMap (es[·]?)).toList.Perm es.toList:=by
 rw[Array.toList_filterMap];refine(h.filterMap _).trans (List.Perm.of_eq ?_);refine FF fun t=>?_;have:(List.range es.size).filterMap (fun x=>es[x]?)=es.toList:=by
  have:∀(l:List (Int×Value)),(List.range l.length).filterMap (fun x=>l[x]?)=l:=by
   intro l
   induction l with
   | nil=>rfl
   | cons a r ih =>
    rw[BL,List.range_succ_eq_map,E_ (by rfl:(a::r)[0]?=some a),List.filterMap_map];congr 1
  have q:=this es.toList;rw[AQ]at q;simpa using q
 rw[this]
section
variable{prog:Program}{w:World}{K:Type}[DecidableEq K]{knd:KeyKind prog w K}{A:Around}{E:Value->Shared->Prop}{s:Shared}
structure Tab(t:SetTable)(n:Nat):Prop where
 dm:t.dummies = #[]
 pl:t.place.size=n
 mm:Msk t.mask
 rm:n*5<t.mask*3
theorem Tab.fits{t:SetTable}{n:Nat}(h:Tab t n):t.fits n=true:=by
 have:=h.rm;have:=h.pl;unfold SetTable.fits SetTable.fill;rw[h.dm];simp;omega
theorem Tab.odd{t:SetTable}{n:Nat}(h:Tab t n):t.gaveWay=false:=by
 unfold SetTable.gaveWay;rcases h.mm with e | e | e | e<;>rw[e]<;>rfl
def Els(knd:KeyKind prog w K)(es:Array (Int×Value))(ks:List (List K×Addr)):Prop:=es.toList.Perm (ks.map fun q=>((tupleKind knd).hash q.1,Value.ref q.2))
def TSet(knd:KeyKind prog w K)(h:Heap)(a:Addr)(ks:List (List K×Addr)):Prop:=∃o es ep t,h.get? a=some o/\o.ExactSet/\o.data = .set es ep t/\Els knd es ks/\Tab t es.size
theorem Els.get{es:Array (Int×Value)}{ks:List (List K×Addr)}(h:Els knd es ks){i:Nat}{e:Int×Value}(he:es[i]?=some e):∃k p,(k,p)∈ks/\e =((tupleKind knd).hash k,.ref p):=by
 have:e∈es.toList:=BJ (by rw[BO];exact he);obtain⟨q,hq,rfl⟩:=AI.mp (h.mem_iff.mp this);exact⟨q.1,q.2,hq,rfl⟩
theorem y3{β:Type}{c:β}{f:Value->β->Sem (ForInStep β)}:∀{l:List Value},(∀y∈l,f y c=pure (.yield c))->forIn l c f=pure c
 | [],_=>List.forIn_nil
 | a::r,h=>by
  rw[List.forIn_cons,h a (BE ..),pure_bind];exact y3 fun y hy=>h y (AX _ hy)
theorem Df{ks:List K}{vs:List Value}(h:ItemsAre knd ks vs):∀v∈vs,∃x,knd.is x v=true:=by
 induction h with
 | nil=>intro v hv;simp at hv
 | cons h1 _ ih =>
  intro v hv;rcases AV.mp hv with rfl | hv
  .exact⟨_,h1⟩
  .exact ih v hv
def Flat(knd:KeyKind prog w K):Prop:=∀v,(∃x,knd.is x v=true)->carriedByValue v=true
theorem Flat.no{v:Value}(hF:Flat knd)(h:∃x,knd.is x v=true)(d:Nat):ofAClassStatement d v=pure false:=by
 have:=hF v h;cases v<;>first
  | (cases d<;>rfl)
  | (exact absurd this (by intro z;cases z))
theorem Up{k:List K}{p:Addr}{Q:Bool->Shared->Prop}(hF:Flat knd)(hk:(tupleKind knd).is s.heap k p)(h:Q false s):wpAny (model prog w) A (ofAClassStatement 8 (.ref p)) Q E s:=by
 obtain⟨o,items,n,ho,hc,hd,hi⟩:=hk;have hT:s.TypeIs (.ref p) "tuple":=⟨o,ho,hc⟩;unfold ofAClassStatement;refine AA (wpAny_typeOf hT ?_);dsimp only;rw[AO (by rfl)];refine AA (AD ?_);simp only[EY,BA,CQ];refine AA (EL ho hd ?_);dsimp only;rw[<-Array.forIn_toList,y3 fun y hy=>by rw[hF.no (Df hi y hy)];rfl];exact AA (AD (AD h))
theorem zBl{kx:List K}{px:Addr}{Q:Bool->Shared->Prop}(hF:Flat knd)(hx:(tupleKind knd).is s.heap kx px)(h:Q false s){l:List Value}(hl:∀v∈l,∃k p,v = .ref p/\(tupleKind knd).is s.heap k p) :
  wpAny (model prog w) A (searchCouldBeSeen (.ref px) l) Q E s:=by
 unfold searchCouldBeSeen;refine AA (wpAny_forIn_list _ (fun rest c s'=>s'=s/\c =(none,())/\∀v∈rest,v∈l) _ ?_ ?_ l _ ⟨rfl,rfl,fun _ h=>h⟩)
 .rintro v rest c s' ⟨rfl,rfl,hr⟩;obtain⟨k,p,rfl,hk⟩:=hl v (hr v (BE ..));dsimp only;have hc:carriedByValue (Value.ref px)=false:=rfl;rw[hc,DX,IP];split
  .exact AD ⟨rfl,rfl,fun u hu=>hr u (AX _ hu)⟩
  .refine AA ((tupleKind knd).quiet hx ?_);simp only[EY,BA,CQ];refine AA ((tupleKind knd).quiet hk ?_);simp only[EY,BA,CQ];refine AA (Up hF hx ?_);simp only[BA,CQ];refine AA (Up hF hk ?_);simp only[BA,CQ];exact AD ⟨rfl,rfl,fun u hu=>hr u (AX _ hu)⟩
 .rintro c s' ⟨rfl,rfl,_⟩;exact AD h
theorem Rk(t:SetTable):t.sameMemory t.moves t.mask=some true:=by
 unfold SetTable.sameMemory;simp
theorem Hv{a:Addr}{o:Obj}{es:Array (Int×Value)}{ep:Nat}{t:SetTable}{ks:List (List K×Addr)}{kx:List K}{px:Addr}{adding:Bool}{Q:SetFound->Shared->Prop}{n:Nat}
  (hr:(tupleKind knd).room A) (hF:Flat knd) (ho:s.heap.get? a=some o) (hd:o.data = .set es ep t) (hE:Els knd es ks) (hT:Tab t es.size)
  (hks:∀q∈ks,(tupleKind knd).is s.heap q.1 q.2) (hx:(tupleKind knd).is s.heap kx px) (hne:∀q∈ks,q.1≠kx) (hn:n<10*SetTable.turns t.mask)
  (he:t.slot (adv t n (t.probeStart ((tupleKind knd).hash kx))).j = .empty) (h:∀j,t.slot j = .empty->Q (.free j false) s) :
  ∀(k m fuel:Nat) (stand:Option SetTable.Probe),stand.getD (t.probeStart ((tupleKind knd).hash kx))=adv t m (t.probeStart ((tupleKind knd).hash kx))->m+k=n->k<fuel ->
   wpAny (model prog w) A (setSearchFrom a (.ref px) ((tupleKind knd).hash kx) adding fuel stand) Q E s:=by
 intro k
 induction k using Nat.strongRecOn with
 | _ k ih =>
  intro m fuel stand hst hmk hf;cases fuel with
  | zero=>omega
  | succ fuel =>
   unfold setSearchFrom;refine AA (CI ho hd hT.fits ?_);dsimp only;rw[hT.odd];simp only[BA,CQ];rw[hst];unfold SetTable.probe;rcases Vk hT.dm _ ((tupleKind knd).hash kx) (t.probeStart ((tupleKind knd).hash kx)) rfl k m n (10*SetTable.turns t.mask) hmk he (by omega)with⟨j,e1,e2⟩ | ⟨l,i,h1,h2,e1,e2,e3⟩
   .rw[e1];dsimp only;exact AD (h j e2)
   .rw[e3];dsimp only;obtain⟨i',hi',hpl⟩:∃i',t.slot (adv t l (t.probeStart ((tupleKind knd).hash kx))).j = .live i'/\t.place[i']?=some (adv t l (t.probeStart ((tupleKind knd).hash kx))).j:=by
     rcases V7 hT.dm (adv t l (t.probeStart ((tupleKind knd).hash kx))).j with z | z
     .rw[z]at e1;cases e1
     .exact z
    rw[e1]at hi';cases hi';have hlt:i<es.size:=by
     have:=(CL.mp hpl).1;rw[hT.pl]at this;exact this
    obtain⟨ent,hent⟩:∃ent,es[i]?=some ent:=⟨es[i],CL.mpr ⟨hlt,rfl⟩⟩;obtain⟨k',p',hm',rfl⟩:=hE.get hent;have hseen:∀v∈(es.filter (·.1 ==(tupleKind knd).hash kx)).toList.map (·.2),∃k p,v = .ref p/\(tupleKind knd).is s.heap k p:=by
     intro v hv;obtain⟨z,hz,rfl⟩:=AI.mp hv;have hz':z∈es.toList:=by
      rw[Array.toList_filter]at hz;exact(B_.mp hz).1
     obtain⟨q,hq,rfl⟩:=AI.mp (hE.mem_iff.mp hz');exact⟨q.1,q.2,rfl,hks q hq⟩
    have rest:wpAny (model prog w) A (do
      let some (_,y):=es[i]? | unsupported "internal:set-entry"
      let equal <-holding [y] (eqBool y (.ref px))
      let(es',_,t') <-setState a
      if adding&&equal then return .there none
      let some same:=t'.sameMemory t.moves t.mask | unsupported "set.changed-during-lookup:is-the-new-block-at-the-old-address"
      let still <-match(if same then t'.slot (adv t l (t.probeStart ((tupleKind knd).hash kx))).j else .empty)with
       | .live i'=>match es'[i']? with
        | some (_,y')=>do pure (if <-isSame y' y then some i' else none)
        | none=>pure none
       | _=>pure none
      match still with
      | none=>rule "set.search.anew";setSearchFrom a (.ref px) ((tupleKind knd).hash kx) adding fuel none
      | some i'=>if equal then return .there (some i')else setSearchFrom a (.ref px) ((tupleKind knd).hash kx) adding fuel (some (adv t (l+1) (t.probeStart ((tupleKind knd).hash kx))))) Q E s:=by
     rw[hent];dsimp only;refine AA (BT ((tupleKind knd).eqBool hr (hks _ hm') hx ?_));rw[AN (hne _ hm')];refine AA (CI ho hd hT.fits ?_);dsimp only;rw[Rk,IC];simp only[BA,CQ,FD];rw[e1];dsimp only;rw[hent];dsimp only;refine AA (wpAny_isSame_ref_self (AA (AD ?_)));simp only[FD];exact ih (n-(l+1)) (by omega) (l+1) fuel _ rfl (by omega) (by omega)
    cases hled:t.led with
    | true =>
     simp only[EY,BA,CQ];exact rest
    | false =>
     simp only[ID,FD];refine AA (zBl hF hx ?_ hseen);simp only[BA,CQ];exact rest
theorem q0{a:Addr}{o:Obj}{es:Array (Int×Value)}{ep:Nat}{t:SetTable}{ks:List (List K×Addr)}{kx:List K}{px:Addr}{adding:Bool}{Q:SetFound->Shared->Prop}
  (hr:(tupleKind knd).room A) (hF:Flat knd) (ho:s.heap.get? a=some o) (hd:o.data = .set es ep t) (hE:Els knd es ks) (hT:Tab t es.size)
  (hks:∀q∈ks,(tupleKind knd).is s.heap q.1 q.2) (hx:(tupleKind knd).is s.heap kx px) (hne:∀q∈ks,q.1≠kx) (h:∀j,t.slot j = .empty->Q (.free j false) s) :
  wpAny (model prog w) A (setSearch a (.ref px) ((tupleKind knd).hash kx) adding) Q E s:=by
 obtain⟨j,hj,hs⟩:=Lr hT.dm (by rw[hT.pl];have:=hT.rm;omega);obtain⟨n,hn,e⟩:=Ql hT.mm ((tupleKind knd).hash kx) hj;unfold setSearch;refine Hv hr hF ho hd hE hT hks hx hne hn (by rw[e];exact hs) h n 0 100000 none rfl (by omega) ?_;have:SetTable.turns t.mask<=526:=by
  unfold SetTable.turns;rcases hT.mm with e | e | e | e<;>omega
 omega
theorem TSet.typeIs{a:Addr}{ks:List (List K×Addr)}(h:TSet knd s.heap a ks):s.TypeIs (.ref a) "set":=let⟨o,_,_,_,ho,hc,_⟩:=h;⟨o,ho,hc.1⟩
theorem Nc{px:Addr}{es:Array (Int×Value)}:byScan (.ref px) es=false:=rfl
theorem Pn{a:Addr}{ks:List (List K×Addr)}{kx:List K}{px:Addr}{Q:Option Nat->Shared->Prop}(hr:(tupleKind knd).room A)(hF:Flat knd)(hS:TSet knd s.heap a ks)
  (hks:∀q∈ks,(tupleKind knd).is s.heap q.1 q.2) (hx:(tupleKind knd).is s.heap kx px) (hne:∀q∈ks,q.1≠kx) (h:Q none s):wpAny (model prog w) A (setFind a (.ref px) ((tupleKind knd).hash kx)) Q E s:=by
 obtain⟨o,es,ep,t,ho,_,hd,hE,hT⟩:=hS;unfold setFind setFindIn;refine AA (CI ho hd hT.fits ?_);dsimp only;rw[Nc];simp only[BA,CQ];refine AA (q0 hr hF ho hd hE hT hks hx hne fun j _=>?_);dsimp only;exact AD h
theorem in_free{neg:Bool}{a:Addr}{ks:List (List K×Addr)}{kx:List K}{px:Addr}{Q:Value->Shared->Prop}(hr:A.units+1<cLine)(hF:Flat knd)(hS:TSet knd s.heap a ks)
  (hks:∀q∈ks,(tupleKind knd).is s.heap q.1 q.2) (hx:(tupleKind knd).is s.heap kx px) (hne:∀q∈ks,q.1≠kx) (h:Q (.bool false) { s with toks:=s.toks +(tupleKind knd).draws kx }) :
  wpAny (model prog w) A (compareOp .In (.ref px) (.ref a)) Q E s:=by
 show wpAny _ _ (do return .bool (<-contains (.ref a) (.ref px))) Q E s;refine AA ?_;unfold contains
 try with_reducible refine BT ?_
 refine AA (GU hS.typeIs F.slot_set_contains.lookup ?_);show wpAny _ _ (if(some (Value.builtin "set.__contains__") == some Value.none)=true then _ else _) _ E s;rw[AK (by rw[beq_builtin_none];exact BB)];refine AA (wpAny_callSpecialUnlessNone?_slot (name:=Str.ofString "__contains__") hS.typeIs F.slot_set_contains
  (CZ F.slot_set_contains hS.typeIs entry_set_contains ?_ (F.args_set_contains_2 _ _)))
 unfold Builtin.«frozenset.__contains__» Builtin.Frozenset.oneOther;simp only[List.isEmpty_nil,bind_assoc];unfold Builtin.Frozenset.addrOf Builtin.Frozenset.withSetAsKey setContains;refine AA (AD ?_)
 try dsimp only
 refine AA (AD ?_)
 try dsimp only
 refine AA (wpAny_tryCatch ?_);refine BT ?_;refine AA ((tupleKind knd).pyHash ?hroom hx ?_)
 case hroom=>exact hr
 refine AA (Pn (s:={ s with toks:=s.toks +(tupleKind knd).draws kx }) ?hroom hF hS hks hx hne ?_)
 case hroom=>exact hr
 refine AD ?_;show wpAny _ _ (ret (Value.bool false)) _ _ _;exact AD ⟨_,rfl,DJ (AD h)⟩
def Scan(knd:KeyKind prog w K):Prop:=∀v,(∃x,knd.is x v=true)->v.scannable=true
theorem hbv{kx:List K}{px:Addr}{Q:Bool->Shared->Prop}(hB:Scan knd)(hx:(tupleKind knd).is s.heap kx px)(h:∀b,Q b s):wpAny (model prog w) A (hashByValue 8 (.ref px)) Q E s:=by
 obtain⟨o,items,n,ho,hc,hd,hi⟩:=hx;have hT:s.TypeIs (.ref px) "tuple":=⟨o,ho,hc⟩;unfold hashByValue;refine AA (GU hT F.slot_tuple_hash.lookup ?_);dsimp only;refine AA (EL ho hd ?_);dsimp only[Option.getD_some];rw[<-Array.forIn_toList];refine AA (BR (wpAny_forIn_list _ (fun rest c s'=>s'=s/\c =(none,())/\∀v∈rest,v∈items.toList) (fun c s'=>s'=s/\(c =(none,())\/c =(some false,()))) ?_ ?_ _ _ ⟨rfl,rfl,fun _ z=>z⟩) ?_ fun _ _ q=>q)
 .rintro v rest c s' ⟨rfl,rfl,hr⟩;rw[hashByValue_scannable _ (hB v (Df hi v (hr v (BE ..))))];refine AA (AD ?_);cases plainKind v with
  | true =>
   simp only[EY,BA,CQ];exact AD ⟨rfl,rfl,fun u hu=>hr u (AX _ hu)⟩
  | false =>
   simp only[ID,FD];exact AD ⟨rfl,.inr rfl⟩
 .rintro c s' ⟨rfl,rfl,_⟩;exact⟨rfl,.inl rfl⟩
 .rintro c s' ⟨rfl,rfl | rfl⟩
  .exact AD (h _)
  .exact AD (h _)
theorem T9{α:Type}(xs:Array α)(p:Nat)(x:α)(hp:p<=xs.size):(SetTable.insertAt xs p x).size=xs.size+1:=by
 unfold SetTable.insertAt;rw[Array.size_append,Array.size_push,GP,GP];omega
theorem Bg{α:Type}(xs:Array α)(p:Nat)(x:α)(hp:p<=xs.size):(SetTable.insertAt xs p x).toList.Perm (xs.toList ++ [x]):=by
 unfold SetTable.insertAt;rw[BS,DI,FB,FB];simp only[ER,FO,Nat.sub_zero];have e:List.take (xs.size-p) (List.drop p xs.toList)=List.drop p xs.toList:=by
  rw[DD];rw[DL,AQ];omega
 rw[e];have e2:xs.toList=xs.toList.take p++xs.toList.drop p:=(BZ ..).symm
 conv=>rhs;rw[e2]
 rw[BK,BK];exact DQ _ DF
theorem S4(xs:Array Nat)(j:Nat):∀(f lo hi:Nat),lo<=hi->SetTable.below.go xs j f lo hi<=hi
 | 0,lo,hi,h=>h
 | f+1,lo,hi,h=>by
  unfold SetTable.below.go;split
  .rename_i h';dsimp only;split
   .exact S4 xs j f _ _ (by omega)
   .exact Nat.le_trans (S4 xs j f _ _ (by omega)) (by omega)
  .exact h
theorem Tv(xs:Array Nat)(j:Nat):SetTable.below xs j<=xs.size:=S4 xs j _ _ _ (CD _)
theorem Yy{t:SetTable}(hd:t.dummies = #[])(j:Nat):t.put j =({ t with place:=SetTable.insertAt t.place (SetTable.below t.place j) j },SetTable.below t.place j):=by
 unfold SetTable.put;have:SetTable.has t.dummies j=false:=by
  rw[hd];unfold SetTable.has;simp
 rw[this];rfl
theorem zFo:SetTable.sizeAbove 20=32:=by decide
theorem zGc:SetTable.sizeAbove 76=128:=by decide
theorem zCv:SetTable.sizeAbove 308=512:=by decide
theorem Rl{f:Array (Int×Value)->Option (SetTable×Array Nat)->Sem (Array (Int×Value)×SetTable)}(hf:∀es laid,f es laid =(do
  let some (t,order):=laid | unsupported "internal:set-table-without-room"
  let es':=order.filterMap (es[·]?)
  if es'.size != es.size then unsupported "internal:set-table-lost-an-element"
  pure (es',t)))
  {a:Addr} {o:Obj} {es:Array (Int×Value)} {ep:Nat} {t:SetTable} {n m:Nat} {Q:Unit->Shared->Prop} (ho:s.heap.get? a=some o) (hd:o.data = .set es ep t) (hdm:t.dummies = #[]) (hfit:t.fits es.size=true)
  (hm:SetTable.sizeAbove n=m+1) (hmm:Msk m) (hsz:es.size*5<m*3)
  (h:∀(es':Array (Int×Value)) (t':SetTable),es'.toList.Perm es.toList->Tab t' es'.size->Q () { s with heap:=s.heap.update a (Obj.putSet es' t') }) :
  wpAny (model prog w) A (do
   let(es,_,t) <-setState a
   if SetTable.sizeAbove n>sizeLine then unsupported "set:memory"
   let(es,t) <-f es (t.relaid (es.map (·.1)) n)
   storeSet a es t) Q E s:=by
 refine AA (CI ho hd hfit ?_);dsimp only;have hm512:m<=511:=by rcases hmm with e | e | e | e<;>omega
 rw[hm,AK (by rw[sizeLine_eq];omega)];rw[hf];have hs:(es.map (·.1)).size<=m:=by rw[GK];omega
 obtain⟨place,order,e1,e2,e3⟩:=Xh hmm t.finger (t.movedTo (SetTable.sizeAbove n-1)) t.led t.plain (es.map (·.1)) hs;have e0:t.relaid (es.map (·.1)) n=some ({ mask:=m,place,dummies:=#[],finger:=t.finger,led:=t.led,moves:=t.movedTo (SetTable.sizeAbove n-1),plain:=t.plain },order):=by
  unfold SetTable.relaid;rw[hm];rw[hm]at e1;exact e1
 rw[e0];dsimp only;have hp:(order.filterMap (es[·]?)).toList.Perm es.toList:=Sy (by rw[GK]at e3;exact e3);have hz:(order.filterMap (es[·]?)).size=es.size:=by rw[<-AQ,hp.length_eq,AQ]
 rw[AK (by rw[hz];simp)];refine AA (AD ?_);dsimp only;refine IE ho hd (h _ _ hp ⟨rfl,?_,hmm,?_⟩) (by rw[hz,sizeLine_eq];omega)
 .rw[hz,e2,GK]
 .rw[hz];exact hsz
theorem Bi{h:Heap}{a:Addr}{o:Obj}{es:Array (Int×Value)}{ep:Nat}{t:SetTable}(ho:h.get? a=some o)(hd:o.data = .set es ep t)(es':Array (Int×Value))(t':SetTable) :
  (h.update a (Obj.putSet es' t')).get? a=some { o with data:=.set es' (ep+1) t' }:=by
 have:=CB (Obj.putSet es' t') ho (by rw[putSet_of es' t' hd];rfl);rw[putSet_of es' t' hd]at this;exact this
theorem Kn{a:Addr}{ks:List (List K×Addr)}{kx:List K}{px:Addr}{Q:Bool->Shared->Prop}(hr:(tupleKind knd).room A)(hF:Flat knd)(hB:Scan knd)(hS:TSet knd s.heap a ks)
  (hks:∀q∈ks,(tupleKind knd).is s.heap q.1 q.2) (hx:(tupleKind knd).is s.heap kx px) (hne:∀q∈ks,q.1≠kx) (hl:ks.length+1<=300)
  (h:∀h',Heap.SameBut a s.heap h'->TSet knd h' a (ks ++ [(kx,px)])->Q true { s with heap:=h' }) :
  wpAny (model prog w) A (setAddHashed a (.ref px) ((tupleKind knd).hash kx)) Q E s:=by
 obtain⟨o,es,ep,t,ho,hex,hd,hE,hT⟩:=hS;have hsz:es.size=ks.length:=by
  have:=hE.length_eq;rw[AQ,AB]at this;exact this
 unfold setAddHashed setAddHashedIn;refine BT ?_;refine AA (CI ho hd hT.fits ?_);dsimp only;rw[Nc];simp only[BA,CQ];refine AA (q0 hr hF ho hd hE hT hks hx hne fun j hj=>?_);dsimp only;refine AA (CI ho hd hT.fits ?_);dsimp only;rw[Yy hT.dm];dsimp only;have hb:=Tv t.place j;have hb':SetTable.below t.place j<=es.size:=by rw[hT.pl]at hb;exact hb
 have hrm:=hT.rm;have hmm:=hT.mm;have hsz1:=T9 es (SetTable.below t.place j) ((tupleKind knd).hash kx,Value.ref px) hb';have hpm:=Bg es (SetTable.below t.place j) ((tupleKind knd).hash kx,Value.ref px) hb';have hE1:∀es':Array (Int×Value),es'.toList.Perm (SetTable.insertAt es (SetTable.below t.place j) ((tupleKind knd).hash kx,Value.ref px)).toList->Els knd es' (ks ++ [(kx,px)]):=fun es' hp=>by
  unfold Els;rw[AL];exact hp.trans (hpm.trans (hE.append_right _))
 have key:∀t1:SetTable,t1.dummies = #[]->t1.mask=t.mask->t1.place.size=es.size+1->wpAny (model prog w) A (do
   storeSet a (SetTable.insertAt es (SetTable.below t.place j) ((tupleKind knd).hash kx,Value.ref px)) t1
   if(!false&&t1.tooFull)=true then do
    setRelay a (SetTable.grown (es.size+1))
    pure true
   else pure true) Q E s:=by
  intro t1 d1 m1 p1;refine AA (IE ho hd ?_ (by rw[hsz1,sizeLine_eq];omega));have ho1:=Bi ho hd (SetTable.insertAt es (SetTable.below t.place j) ((tupleKind knd).hash kx,Value.ref px)) t1;have sb1:=EE s.heap a (Obj.putSet (SetTable.insertAt es (SetTable.below t.place j) ((tupleKind knd).hash kx,Value.ref px)) t1);have htf:t1.tooFull=decide ((es.size+1)*5 ≥ t.mask*3):=by
   unfold SetTable.tooFull SetTable.fill;rw[d1,m1,p1];rfl
  rw[htf,ID,IQ];by_cases hfull:(es.size+1)*5 ≥ t.mask*3
  .rw[AZ hfull,AO rfl];have hcase:∃m,SetTable.sizeAbove (SetTable.grown (es.size+1))=m+1/\Msk m/\(es.size+1)*5<m*3:=by
    have hg:SetTable.grown (es.size+1) =(es.size+1)*4:=by
     unfold SetTable.grown;rw[AK (by omega)]
    rw[hg];rcases hmm with e | e | e | e
    .have:es.size+1=5:=by omega
     rw[this];exact⟨31,zFo,.inr (.inl rfl),by decide⟩
    .have:es.size+1=19:=by omega
     rw[this];exact⟨127,zGc,.inr (.inr (.inl rfl)),by decide⟩
    .have:es.size+1=77:=by omega
     rw[this];exact⟨511,zCv,.inr (.inr (.inr rfl)),by decide⟩
    .omega
   obtain⟨m,c1,c2,c3⟩:=hcase;refine AA ?_;unfold setRelay;refine Rl (fun _ _=>rfl) (s:={ s with heap:=_ }) ho1 rfl d1 ?_ c1 c2 (by rw[hsz1];exact c3) fun es' t' hp ht=>?_
   .unfold SetTable.fits SetTable.fill;rw[hsz1,p1,d1,m1];have h300:es.size+1+0<=t.mask:=by rcases hmm with e | e | e | e<;>omega
    simp;omega
   .refine AD (h _ (sb1.trans (EE _ a _)) ?_);exact⟨_,es',_,t',Bi ho1 rfl es' t',hex,rfl,hE1 es' hp,ht⟩
  .rw[AN hfull,AK (by decide)];refine AD (h _ sb1 ⟨_,_,_,t1,ho1,hex,rfl,hE1 _ (.refl _),⟨d1,?_,?_,?_⟩⟩)
   .rw[p1,hsz1]
   .rw[m1];exact hmm
   .rw[m1,hsz1];omega
 have hps:(SetTable.insertAt t.place (SetTable.below t.place j) j).size=es.size+1:=by rw[T9 _ _ _ hb,hT.pl]
 cases hpl:t.plain with
 | true =>
  simp only[FD];refine AA (hbv hB hx fun b=>?_);cases b with
  | true =>
   simp only[FD];exact key _ hT.dm rfl hps
  | false =>
   simp only[BA,CQ];exact key _ hT.dm rfl hps
 | false =>
  simp only[BA,CQ];refine AA (AD ?_);simp only[FD];exact key _ hT.dm rfl hps
theorem call_add{a:Addr}{ks:List (List K×Addr)}{kx:List K}{px:Addr}{Q:Value->Shared->Prop}(hr:A.units+1<cLine)(hF:Flat knd)(hB:Scan knd)(hS:TSet knd s.heap a ks)
  (hks:∀q∈ks,(tupleKind knd).is s.heap q.1 q.2) (hx:(tupleKind knd).is s.heap kx px) (hne:∀q∈ks,q.1≠kx) (hl:ks.length+1<=300)
  (h:∀h',Heap.SameBut a s.heap h'->TSet knd h' a (ks ++ [(kx,px)])->Q .none { s with heap:=h',toks:=s.toks +(tupleKind knd).draws kx }) :
  wpAny (model prog w) A (call (.builtin "set.add") [.ref a,.ref px]) Q E s:=by
 refine CZ F.slot_set_add hS.typeIs F.entry_set_add ?_ (F.args_set_add_2 _ _);unfold Builtin.«set.add» Builtin.Frozenset.oneOther;simp only[List.isEmpty_nil,bind_assoc];unfold Builtin.Frozenset.addrOf setAdd;refine AA (AD ?_)
 try dsimp only
 refine AA (AD ?_)
 try dsimp only
 refine AA ?_;refine BT ?_;refine AA ((tupleKind knd).pyHash ?hroom hx ?_)
 case hroom=>exact hr
 refine Kn (s:={ s with toks:=s.toks +(tupleKind knd).draws kx }) ?hroom hF hB hS hks hx hne hl fun h' hsb hS'=>?_
 case hroom=>exact hr
 show wpAny _ _ (ret Value.none) _ _ _;exact AD ⟨_,rfl,h h' hsb hS'⟩
end
theorem Jj:Manifest.owners.lookup (String.ofList ['r','o','t','a','r','e','t','i','_','t','e','s'].reverse)=some Manifest.sig_set_iterator:=by kernel_rfl
theorem slot_si_next:Slot "set_iterator" "__next__" "set_iterator.__next__" :=
 .of (owner := "set_iterator") (n := "__next__") (by rw[typeLookup_type,builtinLookup_eq_fast];kernel_rfl) (by decide +kernel) (by decide +kernel) (by decide +kernel) (by first | exact .inl (by decide +kernel) | exact .inr (by decide +kernel)) (by rw[isSubtype_type];kernel_rfl)
theorem U2:entryFor table "set_iterator.__next__" = some Builtin.«set_iterator.__next__»:=entryFor_of_tree (by kernel_rfl)
theorem X0(a:Value):argsOk "set_iterator.__next__" ⟨[a],[]⟩:=by
 unfold argsOk;rw[signature?_of (id := "set_iterator.__next__") (n:=['_','_','t','x','e','n','_','_']) (o:=['r','o','t','a','r','e','t','i','_','t','e','s']) (by kernel_rfl) Jj];kernel_rfl
theorem Y0:Slot "set_iterator" "__iter__" "set_iterator.__iter__" :=
 .of (owner := "set_iterator") (n := "__iter__") (by rw[typeLookup_type,builtinLookup_eq_fast];kernel_rfl) (by decide +kernel) (by decide +kernel) (by decide +kernel) (by first | exact .inl (by decide +kernel) | exact .inr (by decide +kernel)) (by rw[isSubtype_type];kernel_rfl)
theorem Eh(a:Value):argsOk "set_iterator.__iter__" ⟨[a],[]⟩:=by
 unfold argsOk;rw[signature?_of (id := "set_iterator.__iter__") (n:=['_','_','r','e','t','i','_','_']) (o:=['r','o','t','a','r','e','t','i','_','t','e','s']) (by kernel_rfl) Jj];kernel_rfl
theorem Be:entryFor table "set_iterator.__iter__" = some Builtin.«dict_keyiterator.__iter__» :=
 entryFor_alias (id' := "dict_keyiterator.__iter__") (by kernel_rfl) (by first | rfl | decide +kernel | (unfold String.splitOn;simp +decide [String.splitOnAux])) (by decide +kernel) (by kernel_rfl)
theorem Fr:entryFor table "set.__iter__" = some Builtin.«frozenset.__iter__» :=
 entryFor_alias (id' := "frozenset.__iter__") (by kernel_rfl) rfl (by decide +kernel) (by kernel_rfl)
theorem zDy:typeLookup (.type "set") "__len__" = pure (some (.builtin "set.__len__")):=by rw[typeLookup_type,builtinLookup_eq_fast];kernel_rfl
section
variable{prog:Program}{w:World}{A:Around}{E:Value->Shared->Prop}{s:Shared}
theorem Nu{n:Nat}{Q:Nat->Shared->Prop}(hn:n≠0)(h:∀i d,i<n->Q i { s with drawn:=d }):wpAny (model prog w) A (choose .order n) Q E s:=fun Γ p hΓ=>by
 unfold choose;rw[Sem.wp_choose];exact⟨hn,h _ _ (Nat.mod_lt _ (Nat.pos_of_ne_zero hn))⟩
theorem Q1{α:Type}:∀{l:List α} {i:Nat} {x:α},l[i]?=some x->(x::l.eraseIdx i).Perm l
 | [],i,x,h=>by simp at h
 | y::l,0,x,h=>by
  have:y=x:=by simpa using h
  subst this;exact .refl _
 | y::l,i+1,x,h=>by
  have h':l[i]?=some x:=by simpa using h
  exact(List.Perm.swap y x _).trans ((Q1 h').cons y)
theorem En{α:Type}{l:List α}{i:Nat}{x:α}(h:l[i]?=some x):(l.eraseIdx i).length+1=l.length:=(Q1 h).length_eq
theorem Ol{α:Type}:∀(n:Nat) (l:List α) (s:Shared) (Q:List α->Shared->Prop),l.length=n->(∀l' d,l'.Perm l->Q l' { s with drawn:=d })->wpAny (model prog w) A (drawOrder n l) Q E s
 | 0,l,s,Q,hl,h=>by
  unfold drawOrder;obtain rfl:=HV.mp hl;exact AD (h [] s.drawn (.refl _))
 | n+1,[],s,Q,hl,h=>by simp at hl
 | n+1,x::xs,s,Q,hl,h=>by
  unfold drawOrder;refine AA (Nu (by simp) fun i d hi=>?_);have e:(x::xs)[i]?=some ((x::xs)[i]):=AC hi;rw[e];dsimp only;have hp:=Q1 e;refine AA (Ol n _ _ _ (by have:=En e;omega) fun l' d' hp'=>?_);exact AD (h _ d' ((hp'.cons _).trans hp))
theorem Mg{α:Type}(nx:Nat->Nat):∀(f k:Nat) (left:List α) (out:Array α),left.length=f->(pickOrder.go nx f k left out).toList.Perm (out.toList++left)
 | 0,k,left,out,h=>by
  obtain rfl:=HV.mp h;unfold pickOrder.go;simp
 | f+1,k,left,out,h=>by
  have hlt:nx k % left.length<left.length:=Nat.mod_lt _ (by omega);have e:left[nx k % left.length]?=some left[nx k % left.length]:=AC hlt;unfold pickOrder.go;rw[e];dsimp only;have hp:=Q1 e;refine(Mg nx f (k+1) _ _ (by have:=En e;omega)).trans ?_;rw[DI,BK];exact hp.append_left _
theorem w8{α:Type}(nx:Nat->Nat)(xs:Array α):(pickOrder nx xs).toList.Perm xs.toList:=by
 unfold pickOrder;have:=Mg nx xs.size 0 xs.toList #[] (AQ ..);simpa using this
structure SAt(w:World)(h:Heap)(a:Addr)(o:Obj)(es:Array (Int×Value))(ep:Nat)(t:SetTable):Prop where
 ho:h.get? a=some o
 ex:o.ExactSet
 hd:o.data = .set es ep t
 ft:t.fits es.size=true
 led:t.led=!(w.params.followText "set-order")
 pln:t.plain=true->es.size=0
 few:es.size<4096
def sIt(first:Value)(i n ep:Nat)(a:Addr):Obj:={ cls:=.type "set_iterator",data:=.fields #[first,rawInt i,.ref a,rawInt n,rawInt ep] }
theorem J9{Q:Bool->Shared->Prop}(h:Q (w.params.followText "set-order") s):wpAny (model prog w) A setsByText Q E s:=by
 unfold setsByText;exact AA (HB (AD h))
variable{a it:Addr}{o:Obj}{es:Array (Int×Value)}{ep:Nat}{t:SetTable}
theorem i6{i sl:Nat}{r:Option (Value×Nat)}{Q:Option Value->Shared->Prop}(hh:A.handled=none)(S:SAt w s.heap a o es ep t)(hne:it≠a)(hi:s.heap.get? it=some (sIt (rawInt sl) i es.size ep a))
  (hin:∀(Q':Option (Value×Nat)->Shared->Prop) (A':Around) (E':Value->Shared->Prop),Q' r s->wpAny (model prog w) A' (setNext a sl i ep) Q' E' s)
  (hQ1:∀x nx h',r=some (x,nx)->h'.get? it=some (sIt (rawInt nx) (i+1) es.size ep a)->Heap.SameBut it s.heap h'->Q (some x) { s with heap:=h' })
  (hQ0:r=none->∀h',Heap.ExtBut it s.heap h'->Q none { s with heap:=h' }):wpAny (model prog w) A (pyNext (.ref it)) Q E s:=by
 have hT:s.TypeIs (.ref it) "set_iterator":=⟨_,hi,rfl⟩;unfold pyNext;refine AA (GX (EJ (name:=Str.ofString "__next__") hT slot_si_next (CZ slot_si_next hT U2 ?_ (X0 _))));unfold Builtin.«set_iterator.__next__»;refine AA (GB (a:=(Value.ref it,[])) rfl ?_);dsimp only;refine AA (wpAny_fieldsOf hi rfl ?_);dsimp only[rawInt];refine AA (wpAny_setEntries_of S.ho S.hd S.ft ?_);rw[AK (by simp)];simp only[FG];refine AA (hin _ _ _ ?_);cases r with
 | some p =>
  obtain⟨x,nx⟩:=p;dsimp only;refine AA (FC hi rfl (by simp) ?_);have h1:=CB (Obj.mapFields (·.setIfInBounds 0 (rawInt (nx:Nat)))) hi rfl;refine AA (FC h1 rfl (by simp) ?_);have h2:=CB (Obj.mapFields (·.setIfInBounds 1 (rawInt ((i:Int)+1)))) h1 rfl;refine AD ⟨x,rfl,AD (hQ1 x nx _ rfl ?_ ((EE ..).trans (EE ..)))⟩;exact h2
 | none =>
  dsimp only;refine AA (FC hi rfl (by simp) ?_);refine AA ?_;simp only[newExc,newTuple];refine AA (CP ?_ (by size_fits));refine AA (m:=firstArgMember _ _) (GB (a:=Value.none) (by first | rfl | (simp only[firstArgMember];rfl)) ?_);refine CP ?_ (by size_fits);simp only[raiseNew];refine AA (wpAny_handled ?_)
  first | rw[show A.in1.handled=none from hh] | rw[hh]
  refine AA (AD (wpAny_throw ?_));refine AA (HD (T := "StopIteration") (b:=true) ⟨_,AM _ rfl,rfl⟩ isSubtype_stop ?_);exact AD (hQ0 rfl _ ((IK (IK (fun b o hb e=>(BP _ _ (Ne.symm hb)).trans e) _)) _))
end
def Zq(ps:List Nat):Obj:={ cls:=.type "tuple",data:=.seq (ps.map fun(i:Nat)=>rawInt i).toArray }
section
variable{prog:Program}{w:World}{A:Around}{E:Value->Shared->Prop}{s:Shared}{a it T:Addr}{o:Obj}{es:Array (Int×Value)}{ep:Nat}{t:SetTable}
theorem Ju{i:Nat}{ps:List Nat}{Q:Option Value->Shared->Prop}(hh:A.handled=none)(S:SAt w s.heap a o es ep t)(hi:s.heap.get? it=some (sIt (.ref T) i es.size ep a))(hT:s.heap.get? T=some (Zq ps))
  (hQ1:∀p x h',ps[i]?=some p->es[p]?=some x->h'.get? it=some (sIt (.ref T) (i+1) es.size ep a)->Heap.SameBut it s.heap h'->Q (some x.2) { s with heap:=h' }) (hps:∀p∈ps,p<es.size)
  (hQ0:ps.length<=i->∀h',Heap.ExtBut it s.heap h'->Q none { s with heap:=h' }):wpAny (model prog w) A (pyNext (.ref it)) Q E s:=by
 have hTy:s.TypeIs (.ref it) "set_iterator":=⟨_,hi,rfl⟩;unfold pyNext;refine AA (GX (EJ (name:=Str.ofString "__next__") hTy slot_si_next (CZ slot_si_next hTy U2 ?_ (X0 _))));unfold Builtin.«set_iterator.__next__»;refine AA (GB (a:=(Value.ref it,[])) rfl ?_);dsimp only;refine AA (wpAny_fieldsOf hi rfl ?_);dsimp only[rawInt];refine AA (wpAny_setEntries_of S.ho S.hd S.ft ?_);rw[AK (by simp)];simp only[FG];refine AA (EL hT rfl ?_);dsimp only;cases e:ps[i]? with
 | some p =>
  have e':(ps.map fun(i:Nat)=>Value.int (i:Int) 0).toArray[i]?=some (.int (p:Int) 0):=by
   rw[FU,AJ,e];rfl
  have e'':(ps.map fun(i:Nat)=>rawInt i).toArray[i]?=some (.int (p:Int) 0):=e';rw[e''];have hp:p<es.size:=hps p (BJ e);obtain⟨x,hx⟩:∃x,es[p]?=some x:=⟨es[p],CL.mpr ⟨hp,rfl⟩⟩;dsimp only;simp only[FG];unfold setNextDrawn;refine AA (AA (CI S.ho S.hd S.ft ?_));dsimp only;rw[AK (by simp),hx];dsimp only;refine AD ?_;refine AA (FC hi rfl (by simp) ?_);have h2:=CB (Obj.mapFields (·.setIfInBounds 1 (rawInt ((i:Int)+1)))) hi rfl;exact AD ⟨x.2,rfl,AD (hQ1 p x _ e hx h2 (EE ..))⟩
 | none =>
  have e'':(ps.map fun(i:Nat)=>rawInt i).toArray[i]?=none:=by
   rw[FU,AJ,e];rfl
  rw[e''];dsimp only;refine AA (FC hi rfl (by simp) ?_);have h1:=CB (Obj.mapFields (·.setIfInBounds 0 (rawInt 0))) hi rfl;refine AA (FC h1 rfl (by simp) ?_);refine AA ?_;simp only[newExc,newTuple];refine AA (CP ?_ (by size_fits));refine AA (m:=firstArgMember _ _) (GB (a:=Value.none) (by first | rfl | (simp only[firstArgMember];rfl)) ?_);refine CP ?_ (by size_fits);simp only[raiseNew];refine AA (wpAny_handled ?_);rw[show A.in1.handled=none from hh];refine AA (AD (wpAny_throw ?_));refine AA (HD (T := "StopIteration") (b:=true) ⟨_,AM _ rfl,rfl⟩ isSubtype_stop ?_);refine AD (hQ0 (List.getElem?_eq_none_iff.mp e) _ (IK (IK (fun b ob hb eb=>?_) _) _));exact(BP _ _ (Ne.symm hb)).trans ((BP _ _ (Ne.symm hb)).trans eb)
def zEx(w:World)(a T:Addr)(es:Array (Int×Value))(ep:Nat)(t:SetTable)(order:List Value)(i:Nat)(h:Heap)(first:Value):Prop :=
 (w.params.followText "set-order" = true/\first=rawInt (0:Nat)/\order =(pickOrder (w.params.setOrder a ep) es).toList.map (·.2)) \/
 (w.params.followText "set-order" = false/\∃ps:List Nat,first = .ref T/\h.get? T=some (Zq ps)/\ps.Perm (List.range es.size)/\order=ps.filterMap fun p=>es[p]?.map (·.2)) \/
 (w.params.followText "set-order" = false/\es.size<=1/\order=es.toList.map (·.2)/\∃sl:Nat,first=rawInt sl/\(i=0->sl=0)/\(i=1->∃j,t.place = #[j]/\sl=j+1))
def SSt(w:World)(a it T:Addr)(o:Obj)(es:Array (Int×Value))(ep:Nat)(t:SetTable)(order:List Value)(i:Nat)(h:Heap):Prop :=
 SAt w h a o es ep t/\∃first,h.get? it=some (sIt first i es.size ep a)/\zEx w a T es ep t order i h first
theorem SAt.at{h h':Heap}(S:SAt w h a o es ep t)(e:h'.get? a=some o):SAt w h' a o es ep t:=⟨e,S.ex,S.hd,S.ft,S.led,S.pln,S.few⟩
theorem zAh(j:Nat):SetTable.below #[j] 0=0:=by simp[SetTable.below,SetTable.below.go]
theorem Zs(j:Nat):SetTable.below #[j] (j+1)=1:=by simp[SetTable.below,SetTable.below.go]
theorem Ss(S:SAt w s.heap a o es ep t):t.place.size=es.size:=by
 have:=S.ft;unfold SetTable.fits at this;rw[BG]at this;simpa using this.1
theorem Pj(hh:A.handled=none){order:List Value}(hia:it≠a)(hiT:it≠T):Walks prog w A it [it,a,T] [it] es.size (fun i v=>order[i]?=some v) (SSt w a it T o es ep t order) where
 sub:=fun b hb=>by simp at hb;simp[hb]
 frame:=fun i h h' ⟨S,first,hi,hm⟩ k=>by
  refine⟨S.at (k a (by simp) _ S.ho),first,k it (by simp) _ hi,?_⟩;rcases hm with z | ⟨z1,ps,z2,z3,z4,z5⟩ | z
  .exact .inl z
  .exact .inr (.inl ⟨z1,ps,z2,k T (by simp) _ z3,z4,z5⟩)
  .exact .inr (.inr z)
 item:=fun i s Q E hlt ⟨S,first,hi,hm⟩ hQ=>by
  have keep:∀h',Heap.SameBut it s.heap h'->∀b ob,b∉[it]->s.heap.get? b=some ob->h'.get? b=some ob:=fun h' hs b ob hb e=>(hs.2 b (by simpa using hb)).trans e;rcases hm with⟨z1,rfl,z3⟩ | ⟨z1,ps,rfl,z3,z4,z5⟩ | ⟨z1,z2,z3,sl,rfl,z5,z6⟩
  .have hpk:=w8 (w.params.setOrder a ep) es;have hlen:(pickOrder (w.params.setOrder a ep) es).size=es.size:=by rw[<-AQ,hpk.length_eq,AQ]
   obtain⟨x,hx⟩:∃x,(pickOrder (w.params.setOrder a ep) es)[i]?=some x:=⟨_,CL.mpr ⟨by rw[hlen];exact hlt,rfl⟩⟩;refine i6 (r:=some (x.2,0)) hh S hia hi (fun Q' A' E' q=>?_) (fun y nx h' e1 e2 hs=>?_) (fun e=>nomatch e)
   .unfold setNext setWalk;refine AA (CI S.ho S.hd S.ft ?_);dsimp only;refine AA (J9 ?_);rw[z1,AO rfl,AK (by simp)];refine AA (AA (CI S.ho S.hd S.ft ?_));dsimp only;refine AA (J9 ?_);rw[z1,AO rfl];refine AA (HB (AD (AD ?_)));show Q' (((pickOrder (w.params.setOrder a ep) es)[i]?).map fun e=>(e.2,0)) s;rw[hx];exact q
   .cases e1;have:=hQ x.2 h' s.toks (by rw[z3,AJ,BO,hx];rfl) ⟨S.at ((hs.2 a (Ne.symm hia)).trans S.ho),_,e2,.inl ⟨z1,rfl,z3⟩⟩ (keep h' hs);exact this
  .refine Ju hh S hi z3 (fun p x h' e1 e2 e3 hs=>?_) (fun p hp=>BV.mp (z4.mem_iff.mp hp)) (fun hle=>?_)
   .have hall:∀q∈ps,(es[q]?.map (·.2)).isSome=true:=fun q hq=>by
     have:q<es.size:=BV.mp (z4.mem_iff.mp hq);rw[CL.mpr ⟨this,rfl⟩];rfl
    refine hQ x.2 h' s.toks ?_ ⟨S.at ((hs.2 a (Ne.symm hia)).trans S.ho),_,e3,.inr (.inl ⟨z1,ps,rfl,(hs.2 T (Ne.symm hiT)).trans z3,z4,z5⟩)⟩ (keep h' hs);have gen:∀(l:List Nat) (i p:Nat),(∀q∈l,(es[q]?.map (·.2)).isSome=true)->l[i]?=some p->(l.filterMap fun p=>es[p]?.map (·.2))[i]?=es[p]?.map (·.2):=by
     intro l
     induction l with
     | nil=>intro i p _ e;simp at e
     | cons q r ih =>
      intro i p hl e;obtain⟨v,hv⟩:=GD.mp (hl q (BE ..));rw[ED,hv];dsimp only;cases i with
      | zero =>
       have:q=p:=by simpa using e
       subst this;simpa using hv.symm
      | succ i=>simpa using ih i p (fun q hq=>hl q (AX _ hq)) (by simpa using e)
    rw[z5,gen ps i p hall e1,e2];rfl
   .have:=z4.length_eq;rw[BW]at this;omega
  .have h0:i=0:=by omega
   have h1:es.size=1:=by omega
   obtain⟨j,hj⟩:∃j,t.place = #[j]:=Array.size_eq_one_iff.mp ((Ss S).trans h1);obtain⟨x,hx⟩:∃x,es = #[x]:=Array.size_eq_one_iff.mp h1;have hs0:=z5 h0;subst hs0;have hx0:es[0]?=some x:=by rw[hx];rfl
   refine i6 (r:=some (x.2,j+1)) hh S hia hi (fun Q' A' E' q=>?_) (fun y nx h' e1 e2 hs=>?_) (fun e=>nomatch e)
   .unfold setNext;refine AA (CI S.ho S.hd S.ft ?_);dsimp only;refine AA (J9 ?_);rw[z1,AK (by decide)];show wpAny _ _ (if(!t.plain&&decide (es.size>1))=true then _ else _) _ _ _;rw[AK (by rw[h1];simp)];show wpAny _ _ (do (if(!t.led&&!es.isEmpty)=true then unsupported "set:maker-not-led" else pure ());_) _ _ _;rw[S.led,z1,AK (by simp)];refine AA (AD ?_);rw[hj,zAh,hx0];exact AD q
   .cases e1;refine hQ x.2 h' s.toks (by rw[z3,h0,hx];rfl) ⟨S.at ((hs.2 a (Ne.symm hia)).trans S.ho),_,e2,.inr (.inr ⟨z1,z2,z3,j+1,rfl,fun e=>by omega,fun _=>⟨j,hj,rfl⟩⟩)⟩ (keep h' hs)
 done:=fun s Q E ⟨S,first,hi,hm⟩ hQ=>by
  have keep:∀h',Heap.ExtBut it s.heap h'->∀b ob,b∉[it]->s.heap.get? b=some ob->h'.get? b=some ob:=fun h' hs b ob hb e=>hs b ob (by simpa using hb) e;rcases hm with⟨z1,rfl,z3⟩ | ⟨z1,ps,rfl,z3,z4,z5⟩ | ⟨z1,z2,z3,sl,rfl,z5,z6⟩
  .have hpk:=w8 (w.params.setOrder a ep) es;have hlen:(pickOrder (w.params.setOrder a ep) es).size=es.size:=by rw[<-AQ,hpk.length_eq,AQ]
   refine i6 (r:=none) hh S hia hi (fun Q' A' E' q=>?_) (fun y nx h' e1=>nomatch e1) (fun _ h' hs=>hQ h' s.toks (keep h' hs));unfold setNext setWalk;refine AA (CI S.ho S.hd S.ft ?_);dsimp only;refine AA (J9 ?_);rw[z1,AO rfl,AK (by simp)];refine AA (AA (CI S.ho S.hd S.ft ?_));dsimp only;refine AA (J9 ?_);rw[z1,AO rfl];refine AA (HB (AD (AD ?_)));show Q' (((pickOrder (w.params.setOrder a ep) es)[es.size]?).map fun e=>(e.2,0)) s;rw[FK (by rw[hlen];exact Nat.le_refl _)];exact q
  .have hl:=z4.length_eq;rw[BW]at hl;refine Ju hh S hi z3 (fun p x h' e1 e2 e3 hs=>?_) (fun p hp=>BV.mp (z4.mem_iff.mp hp)) (fun _ h' hs=>hQ h' s.toks (keep h' hs));have:=(AH.mp e1).1;omega
  .refine i6 (r:=none) hh S hia hi (fun Q' A' E' q=>?_) (fun y nx h' e1=>nomatch e1) (fun _ h' hs=>hQ h' s.toks (keep h' hs));unfold setNext;refine AA (CI S.ho S.hd S.ft ?_);dsimp only;refine AA (J9 ?_);rw[z1,AK (by decide)];show wpAny _ _ (if(!t.plain&&decide (es.size>1))=true then _ else _) _ _ _;rw[AK (by simp;intro _;omega)];show wpAny _ _ (do (if(!t.led&&!es.isEmpty)=true then unsupported "set:maker-not-led" else pure ());_) _ _ _;rw[S.led,z1,AK (by simp)];refine AA (AD ?_);have hnone:es[SetTable.below t.place sl]?=none:=by
    by_cases h0:es.size=0
    .exact FK (by rw[h0];exact CD _)
    .obtain⟨j,hj,rfl⟩:=z6 (by omega);rw[hj,Zs];exact FK (by omega)
   rw[hnone];exact AD q
 self:=fun i s Q E ⟨S,first,hi,hm⟩ h=>by
  have hT:s.TypeIs (.ref it) "set_iterator":=⟨_,hi,rfl⟩;refine wpAny_pyIter_slot hT Y0 (CZ Y0 hT Be ?_ (Eh _));show wpAny _ _ (ret (.ref it)) _ _ s;exact AD ⟨_,rfl, "set_iterator",_,hT,slot_si_next.lookup,h⟩
theorem Rf{Q:Value->Shared->Prop}(S:SAt w s.heap a o es ep t)
  (h:∀(it T:Addr) (order:List Value) (h':Heap) (d:Drawn),it≠a->it≠T->(T=a\/s.heap.objs.size<=T)->s.heap.objs.size<=it->(∀b ob,s.heap.get? b=some ob->h'.get? b=some ob)->order.Perm (es.toList.map (·.2))->SSt w a it T o es ep t order 0 h'->(∀b∈[it,a,T],b<h'.objs.size) ->
   (∀A':Around,A'.handled=none->Walks prog w A' it [it,a,T] [it] es.size (fun i v=>order[i]?=some v) (SSt w a it T o es ep t order))->Q (.ref it) { s with heap:=h',drawn:=d }):wpAny (model prog w) A (pyIter (.ref a)) Q E s:=by
 have hT:s.TypeIs (.ref a) "set":=⟨_,S.ho,S.ex.1⟩;have ha:=AG S.ho;refine wpAny_pyIter_slot hT F.slot_set_iter (CZ F.slot_set_iter hT Fr ?_ (F.args_set_iter_1 _));unfold Builtin.«frozenset.__iter__» Builtin.Frozenset.slot0 Builtin.Frozenset.sizeOf;refine AA (AA (GB (a:=(Value.ref a,[])) rfl ?_));dsimp only;refine GB (a:=a) rfl ?_;refine AA (AA (wpAny_setEntries_of S.ho S.hd S.ft (AD ?_)));have fin:∀(first:Value) (T:Addr) (order:List Value) (h1:Heap) (d:Drawn),(∀b ob,s.heap.get? b=some ob->h1.get? b=some ob)->s.heap.objs.size<=h1.objs.size->order.Perm (es.toList.map (·.2))->T<h1.objs.size->(T=a\/s.heap.objs.size<=T) ->
   (∀h2:Heap,(∀b ob,h1.get? b=some ob->h2.get? b=some ob)->zEx w a T es ep t order 0 h2 first) ->
   wpAny (model prog w) A.in1 (do let e <-setEpoch a;let x <-newFields "set_iterator" [first,rawInt 0,.ref a,rawInt (es.size:Nat),rawInt (e:Nat)];ret x) (fun r s'=>∃v,r=Fin.done (Flow.ret v)/\∃T' r,s'.TypeIs v T'/\typeLookup (Value.type T') (Str.ofString "__next__")=pure (some r)/\Q v s') E { s with heap:=h1,drawn:=d }:=by
  intro first T order h1 d k hsz hp hTl hTa hm
  refine AA (wpAny_setEpoch_of (s:={ s with heap:=h1,drawn:=d }) (k a o S.ho) S.hd S.ft ?_);refine AA (CP ?_);have hg:(h1.push (sIt first 0 es.size ep a)).get? h1.objs.size=some (sIt first 0 es.size ep a):=AM _ rfl;have k2:∀b ob,h1.get? b=some ob->(h1.push (sIt first 0 es.size ep a)).get? b=some ob:=fun b ob e=>AE _ e;have hia:h1.objs.size≠a:=fun e=>absurd (BH ha hsz) (by rw[<-e];exact DN _);have hiT:h1.objs.size≠T:=fun e=>absurd hTl (by rw[<-e];exact DN _);refine AD ⟨.ref h1.objs.size,rfl, "set_iterator",_,⟨_,hg,rfl⟩,slot_si_next.lookup,?_⟩;refine h h1.objs.size T order (h1.push (sIt first 0 es.size ep a)) d hia hiT hTa hsz (fun b ob e=>k2 b ob (k b ob e)) hp ⟨S.at (k2 a o (k a o S.ho)),first,hg,hm _ k2⟩ (fun b hb=>?_) fun A' hh=>Pj hh hia hiT;rw[DK];simp only[AV,BD,or_false]at hb;rcases hb with rfl | rfl | rfl
  .exact FM _
  .exact DV (BH ha hsz)
  .exact DV hTl
 unfold setDrawn;refine AA (AA (CI S.ho S.hd S.ft ?_));dsimp only;refine AA (J9 (AD ?_));cases hb:w.params.followText "set-order" with
 | true =>
  show wpAny _ _ (if(!true &&(!t.plain&&decide (es.size>1)))=true then _ else _) _ _ _;rw[EY,DX,AK (by decide)];refine AA (AD ?_);exact fin _ a _ s.heap s.drawn (fun _ _ e=>e) (Nat.le_refl _) ((w8 _ es).map _) ha (.inl rfl) fun h2 _=>.inl ⟨hb,rfl,rfl⟩
 | false =>
  show wpAny _ _ (if(!false &&(!t.plain&&decide (es.size>1)))=true then _ else _) _ _ _;by_cases hdr:(!t.plain&&decide (es.size>1))=true
  .rw[ID,IQ,AO hdr];refine AA (Ol es.size (List.range es.size) s _ (BW ..) fun ps d hp=>AA ?_);unfold newTuple;refine CP ?_ ?_
   .have hg:(s.heap.push (Zq ps)).get? s.heap.objs.size=some (Zq ps):=AM _ rfl;refine fin _ s.heap.objs.size (ps.filterMap fun p=>es[p]?.map (·.2)) (s.heap.push (Zq ps)) d (fun b ob e=>AE _ e) (by rw[DK];exact CV _) ?_ (by rw[DK];exact FM _) (.inr (Nat.le_refl _)) fun h2 k2=>.inr (.inl ⟨hb,ps,rfl,k2 _ _ hg,hp,rfl⟩);refine(hp.filterMap _).trans (List.Perm.of_eq ?_);have:=filterMap_getElem?_range es;rw[<-this,List.map_filterMap]
   .have h1:=hp.length_eq;have h2:=S.few;rw[BW]at h1;show(List.map _ ps).toArray.size<=sizeLine;rw[AR,AB,sizeLine_eq];omega
  .rw[ID,IQ,AK hdr];refine AA (AD ?_);have hle:es.size<=1:=by
    by_cases hp:t.plain=true
    .have:=S.pln hp;omega
    .have hp':t.plain=false:=by simpa using hp
     rw[hp']at hdr;simp at hdr;omega
   exact fin _ a _ s.heap s.drawn (fun _ _ e=>e) (Nat.le_refl _) (.refl _) ha (.inl rfl) fun h2 _=>.inr (.inr ⟨hb,hle,rfl,0,rfl,fun _=>rfl,fun e=>absurd e (by decide)⟩)
end
section
variable{prog:Program}{w:World}{A:Around}{E:Value->Shared->Prop}{s:Shared}{a:Addr}{o:Obj}{es:Array (Int×Value)}{ep:Nat}{t:SetTable}
theorem Sq{order:List Value}{acc:Array Value}(h:ItemsOf (fun i v=>order[i]?=some v) acc order.length):acc.toList=order:=by
 refine FF fun i=>?_;rw[BO];by_cases hi:i<acc.size
 .have e:acc[i]?=some acc[i]:=CL.mpr ⟨hi,rfl⟩;rw[e,h.2 i _ e]
 .rw[FK (by omega),DR (by have:=h.1;omega)]
theorem collect_set{Q:List Value->Shared->Prop}(hh:A.handled=none)(S:SAt w s.heap a o es ep t)
  (hQ:∀s' acc,(∀b ob,s.heap.get? b=some ob->s'.heap.get? b=some ob)->s'.gens=s.gens->s'.os=s.os->s.heap.objs.size<s'.heap.objs.size->acc.Perm (es.toList.map (·.2))->Q acc s'):wpAny (model prog w) A (collect (.ref a)) Q E s:=by
 have ha:=AG S.ho;unfold collect;refine AA (wpAny_runValue (GW F.entry_proto_collect ?_));rw[Around.under_plainId F.plain_proto_collect _];show wpAny _ A.in1 (newList [] >>= fun l=>again (.builtin "list.__iadd__" ⟨[l,.ref a],[]⟩)) _ _ s;refine AA (CP ?_);refine AD ⟨plainId_quiet F.plain_list_iadd _,GW F.entry_list_iadd ?_⟩;rw[Around.under_plainId F.plain_list_iadd _];show wpAny _ A.in1 (Builtin.List.listExtendWith (.ref s.heap.objs.size) (.ref a) (.ref s.heap.objs.size)) _ _ _;unfold Builtin.List.listExtendWith;have hne:s.heap.objs.size≠a:=fun e=>absurd ha (by rw[<-e];exact DN _);generalize hH:s.heap.push { cls:=.type "list",data:=.seq ([]:List Value).toArray }=H;have kH:∀b ob,s.heap.get? b=some ob->H.get? b=some ob:=fun b ob e=>by rw[<-hH];exact AE _ e
 have hHs:H.objs.size=s.heap.objs.size+1:=by rw[<-hH,DK]
 have hS:H.get? s.heap.objs.size=some { cls:=.type "list",data:=.seq ([]:List Value).toArray }:=by rw[<-hH];exact AM _ rfl
 have hT:Shared.TypeIs { s with heap:=H } (.ref a) "set":=⟨o,kH a o S.ho,S.ex.1⟩;refine AA (wpAny_typeOf hT ?_);have h1:Builtin.List.listSameRef (.ref s.heap.objs.size) (.ref a)=false:=by simp[Builtin.List.listSameRef,hne]
 have h2:(Value.type "set" == Value.type "list")=false:=by decide
 have h3:(Value.type "set" == Value.type "tuple")=false:=by decide
 simp only[h1,h2,h3,IP,BA,CQ];refine AA (Rf (s:={ s with heap:=H }) (S.at (kH a o S.ho)) fun it T order h' d hia hiT hTa hsz k hp st hlt W=>?_);have hT':Shared.TypeIs { s with heap:=h',drawn:=d } (.ref a) "set":=⟨o,k a o (kH a o S.ho),S.ex.1⟩;refine AA (BT ?_);unfold Builtin.List.listLengthHint;refine AA (GU hT' zDy ?_);wp_delta;refine AA (HD hT' (b:=true) (by rw[isSubtype_type];kernel_rfl) ?_);show wpAny _ A.in1 (typeOf (Value.ref a) >>= _) _ _ _;refine AA (wpAny_typeOf hT' ?_);refine AD ?_;rw[AO (by decide)];refine AA (ET ?_);have hS1:h'.get? s.heap.objs.size=some { cls:=.type "list",data:=.seq ([]:List Value).toArray }:=k _ _ hS;refine AA ?_;show wpAny _ A.in1 (updateSeq s.heap.objs.size (·.push .none) >>= fun _=>updateSeq s.heap.objs.size (·.pop)) _ _ _;refine AA (wpAny_updateSeq hS1 rfl ?_);have hS2:=CB (Obj.mapSeq (·.push Value.none)) hS1 rfl;refine wpAny_updateSeq hS2 rfl ?_;have hS3:=CB (Obj.mapSeq (·.pop)) hS2 rfl;have oth:∀b ob,b≠s.heap.objs.size->h'.get? b=some ob->((h'.update s.heap.objs.size (Obj.mapSeq (·.push Value.none))).update s.heap.objs.size (Obj.mapSeq (·.pop))).get? b=some ob :=
  fun b ob hb e=>(BP _ _ (Ne.symm hb)).trans ((BP _ _ (Ne.symm hb)).trans e)
 have hSf:s.heap.objs.size∉[it,a,T]:=by
  have e1:s.heap.objs.size≠it:=fun e=>absurd hsz (by
   show ¬H.objs.size<=it;rw[hHs,<-e];exact Nat.not_succ_le_self _)
  have e2:s.heap.objs.size≠T:=fun e=>by
   rcases hTa with z | z
   .exact hne (e.trans z)
   .exact absurd z (by
     show ¬H.objs.size<=T;rw[hHs,<-e];exact Nat.not_succ_le_self _)
  simp only[AV,BD,or_false,not_or];exact⟨e1,hne,e2⟩
 have hle:es.size=order.length:=by
  have:=hp.length_eq;rw[AB,AQ]at this;exact this.symm
 have hfew:=S.few;refine AD ⟨plainId_quiet F.plain_extend_loop _,codeAny_extend_loopS (W A.in1 hh).toS (by rw[sizeLine_eq];omega) _ hSf _ es.size 0 _ _ _ rfl (CD _)
  ((W A.in1 hh).frame 0 h' _ st fun b hb ob e=>oth b ob (fun z=>hSf (z▸hb)) e) hS3 (ItemsOf.nil _) fun s' acc' c' hm hS' hacc=>?_⟩
 show wpAny _ A (load s.heap.objs.size >>= _) _ _ s';refine AA (wpAny_load hS' ?_);rw[hle]at hacc;refine AD (hQ s' acc'.toList (fun b ob e=>hm.heap b ob (fun hb=>?_) (oth b ob (fun z=>?_) (k b ob (kH b ob e)))) hm.gens hm.os (AG hS') (by rw[Sq hacc];exact hp))
 .have hbl:=AG e;rcases AV.mp hb with z | z
  .exact absurd hbl (by rw[z];exact DN _)
  .rw[AF.mp z]at hbl;have:H.objs.size<=it:=hsz;rw[hHs]at this;exact absurd (BH hbl (Nat.le_of_succ_le this)) (DN _)
 .exact absurd (AG e) (by rw[z];exact DN _)
end
end ST
namespace ST
open PySem L2
theorem zBs(t:SetTable)(n:Nat):(t.orStandIn n).led=t.led:=by
 unfold SetTable.orStandIn;split<;>rfl
theorem Yh(t:SetTable)(es:Array (Int×Value))(h:Int)(x:Value):(layNew t es h x).2.1.led=t.led:=by
 unfold layNew;split
 .rename_i sl wd e;show((t.put sl).1.orStandIn _).led=_;rw[zBs];rfl
 .rfl
theorem Lu{t t':SetTable}{hs:Array Int}{n:Nat}{ord:Array Nat}(h:t.relaid hs n=some (t',ord)):t'.led=t.led/\t'.plain=t.plain:=by
 unfold SetTable.relaid SetTable.laid at h;cases e:SetTable.layClean (SetTable.sizeAbove n-1) hs with
 | none=>rw[e]at h;cases h
 | some ow =>
  rw[e]at h;cases h;exact⟨rfl,rfl⟩
theorem Od(t:SetTable)(es:Array (Int×Value))(n:Nat)(hp:t.plain=false):(relayAll t es n).2.1.led=t.led/\(relayAll t es n).2.1.plain=false:=by
 unfold relayAll;split
 .rename_i t' ord e;obtain⟨e1,e2⟩:=Lu e;dsimp only;split
  .exact⟨e1,e2.trans hp⟩
  .exact⟨rfl,rfl⟩
 .exact⟨rfl,rfl⟩
def zFl:Value->Str
 | .str x _=>x
 | _=>Str.empty
section
variable{prog:Program}{w:World}{A:Around}{E:Value->Shared->Prop}{s:Shared}{a:Addr}
structure TxtEs(w:World)(es:Array (Int×Value))(ss:List Str):Prop where
 el:∀e∈es.toList,∃x tk,e =(hashStr w x,Value.str x tk)
 pm:(es.toList.map fun e=>zFl e.2).Perm ss
 nd:ss.Nodup
def WS(w:World)(h:Heap)(a:Addr)(ss:List Str):Prop:=∃o es ep t,SAt w h a o es ep t/\TxtEs w es ss
theorem TxtEs.elems{es:Array (Int×Value)}{ss:List Str}(h:TxtEs w es ss):ElemsOf (B9 prog w) es.toList:=fun e he=>by
 obtain⟨x,tk,rfl⟩:=h.el e he;exact⟨⟨.inr x,T7 x tk,rfl⟩,rfl⟩
theorem TxtEs.mem{es:Array (Int×Value)}{ss:List Str}(h:TxtEs w es ss)(x:Str):x∈ss↔∃e∈es.toList,(B9 prog w).is (.inr x) e.2=true:=by
 rw[<-h.pm.mem_iff];constructor
 .intro hm;obtain⟨e,he,rfl⟩:=AI.mp hm;obtain⟨y,tk,rfl⟩:=h.el e he;exact⟨_,he,T7 y tk⟩
 .rintro⟨e,he,hk⟩;obtain⟨y,tk,rfl⟩:=h.el e he;have:y=x:=by
   rcases D6 (show Cj (.inr x) (.str y tk)=true from hk)with⟨i,t,e1,e2⟩ | ⟨z,t,e1,e2⟩
   .cases e2
   .cases e1;cases e2;rfl
  subst this;exact AI.mpr ⟨_,he,rfl⟩
theorem TxtEs.len{es:Array (Int×Value)}{ss:List Str}(h:TxtEs w es ss):es.size=ss.length:=by
 have:=h.pm.length_eq;rw[AB,AQ]at this;exact this
theorem add_txt{ss:List Str}{x:Str}{tk:Tok}{Q:Bool->Shared->Prop}(S:WS w s.heap a ss)(hl:ss.length+1<4096)
  (h:∀h' b,Heap.SameBut a s.heap h'->WS w h' a (if x∈ss then ss else ss ++ [x])->Q b { s with heap:=h' }) :
  wpAny (model prog w) A (setAddHashed a (.str x tk) (hashStr w x)) Q E s:=by
 obtain⟨o,es,ep,t,S,T⟩:=id S;have hkey:(B9 prog w).is (.inr x) (.str x tk)=true:=T7 x tk;have hsz:=T.len;unfold setAddHashed setAddHashedIn;refine BT (AA (CI S.ho S.hd S.ft ?_));dsimp only;rw[byScan_of (knd:=B9 prog w) rfl S.few T.elems,AO rfl];unfold setAddByScan;refine AA (AA (ET ?_));refine AA (wpAny_setScan_of hkey S.ho S.hd S.ft T.elems ?_);cases hr:List.findIdx? (fun e=>(B9 prog w).is (.inr x) e.2) es.toList with
 | some j =>
  dsimp only;obtain⟨hj,hpj,_⟩:=List.findIdx?_eq_some_iff_getElem.mp hr;have hx:x∈ss:=(T.mem (prog:=prog) x).mpr ⟨es.toList[j],EB hj,hpj⟩;refine AD (AD ?_);have:=h s.heap false (Heap.SameBut.refl a s.heap) (by rw[AO hx];exact⟨o,es,ep,t,S,T⟩);exact this
 | none =>
  dsimp only;have hx:¬x∈ss:=fun hx=>by
   obtain⟨e,he,hp⟩:=(T.mem (prog:=prog) x).mp hx;have:=List.findIdx?_eq_none_iff.mp hr e he;rw[hp]at this;exact Bool.noConfusion this
  have hgw:∀(b:Bool) {s1:Shared} {Q':Unit->Shared->Prop},Q' () s1->wpAny (model prog w) A (match b with | true=>rule "set.scan.the-table-gave-way" | false=>pure ()) Q' E s1 :=
   fun b s1 Q' hq=>by cases b<;>first | exact AD hq | exact ET hq
  have hperm:=layNew_perm t es (hashStr w x) (.str x tk);have hfits:=layNew_fits t es (hashStr w x) (.str x tk);have hled:=Yh t es (hashStr w x) (.str x tk);show wpAny _ _ (match layNew t es (hashStr w x) (.str x tk)with | (es,t,wasDummy,gave)=>_) _ _ _;generalize layNew t es (hashStr w x) (.str x tk)=L at hperm hfits hled⊢;obtain⟨es1,t1,wasDummy,gave⟩:=L;dsimp only at hperm hfits hled⊢;rw[DI]at hperm;have hT1:∀es2:Array (Int×Value),es2.toList.Perm es1.toList->TxtEs w es2 (ss ++ [x]):=fun es2 hp2=>by
   refine⟨fun e he=>?_,?_,?_⟩
   .rcases AU.mp (hperm.mem_iff.mp (hp2.mem_iff.mp he))with z | z
    .exact T.el e z
    .exact⟨x,tk,AF.mp z⟩
   .refine((hp2.trans hperm).map _).trans ?_;rw[AL];exact T.pm.append (.refl _)
   .rw[GC];refine⟨T.nd,by simp,fun y hy z hz=>?_⟩;rw[AF.mp hz];rintro rfl;exact hx hy
  have hsz1:es1.size=ss.length+1:=by
   have:=(hT1 es1 (.refl _)).len;rw[BC]at this;exact this
  refine AA (hgw _ ?_);have key:∀t2:SetTable,t2.led=t.led->t2.plain=false->t2.fits es1.size=true->wpAny (model prog w) A (do
    storeSet a es1 t2
    if(!wasDummy&&t2.tooFull)=true then do
      (match(relayAll t2 es1 (SetTable.grown es1.size)).2.2 with | true=>rule "set.scan.the-table-gave-way" | false=>pure ())
      storeSet a (relayAll t2 es1 (SetTable.grown es1.size)).1 (relayAll t2 es1 (SetTable.grown es1.size)).2.1
      pure (some true)
     else pure (some true)) (fun r s'=>wpAny (model prog w) A (match r with | some added=>pure added | none=>setAddHashedIn a (.str x tk) (hashStr w x) 99999) Q E s') E s:=by
   intro t2 l2 p2 f2;refine AA (IE S.ho S.hd ?_ (by rw[hsz1,sizeLine_eq];omega));have ho1:=Bi S.ho S.hd es1 t2;have sb1:=EE s.heap a (Obj.putSet es1 t2);split
   .have hp:=relayAll_perm t2 es1 (SetTable.grown es1.size);have hf:=relayAll_fits t2 es1 (SetTable.grown es1.size);obtain⟨hl3,hp3⟩:=Od t2 es1 (SetTable.grown es1.size) p2;have hz2:(relayAll t2 es1 (SetTable.grown es1.size)).1.size=es1.size:=by rw[<-AQ,hp.length_eq,AQ]
    refine AA (hgw _ ?_);refine AA (IE ho1 rfl ?_ (by rw[hz2,hsz1,sizeLine_eq];omega));refine AD (AD (h _ true (sb1.trans (EE _ a _)) ?_));rw[AK hx];exact⟨_,_,_,_,⟨Bi ho1 rfl _ _,S.ex,rfl,hf,hl3.trans (l2.trans S.led),(fun z=>by rw[hp3]at z;cases z),by rw[hz2,hsz1];omega⟩,hT1 _ hp⟩
   .refine AD (AD (h _ true sb1 ?_));rw[AK hx];exact⟨_,es1,_,t2,⟨ho1,S.ex,rfl,f2,l2.trans S.led,(fun z=>by rw[p2]at z;cases z),by rw[hsz1];omega⟩,hT1 _ (.refl _)⟩
  cases hpl:t1.plain with
  | true =>
   rw[AO rfl,hashByValue_scannable 8 (x:=Value.str x tk) rfl];refine AA (AD ?_);exact key { t1 with plain:=false } hled rfl (SetTable.fits_plain_off hfits)
  | false =>
   rw[AK (by decide)];refine AA (AD ?_);exact key t1 hled hpl hfits
end
end ST
namespace L2
open PySem PySem.Spec PyProof.Rows
def Dg(w:World)(a:Addr)(ss:List Str):HO:=.ext fun h=>ST.WS w h a ss
section
variable{X:Cx}{pins:List (Addr×Obj)}{σ:St}{H:Hp}{s:Shared}{a:Addr}{ss:List Str}
theorem Uy{P:Program}{w:World}{H:Hp}{h:Heap}(z:ST.WS w h a ss):ObjOk P w H h a (Dg w a ss) :=
 ⟨z,let⟨o,_,_,_,S,_⟩:=z;⟨o,S.ho⟩,fun h1 h2 ⟨o,es,ep,t,S,r⟩ k=>⟨o,es,ep,t,S.at (k o S.ho),r⟩⟩
theorem Inv.setw(I:Inv X pins σ H s)(e:H a=some (Dg X.w a ss)):ST.WS X.w s.heap a ss:=by
 obtain⟨z,_⟩:=(show ObjOk X.prog X.w H s.heap a (Dg X.w a ss)from I.hok a _ e);exact z
def Th(l:List Str)(x:Str):List Str:=if x∈l then l else l ++ [x]
def zEi(w:World):V->List V->Hp->VK->Prop:=fun x vs H Q=>∃a l k,x = .ref a/\vs = [.str k]/\H a=some (Dg w a l)/\l.length+1<4096/\Q .non (upd H a (Dg w a (Th l k)))
theorem WS.typeIs{ss:List Str}(z:ST.WS X.w s.heap a ss):s.TypeIs (.ref a) "set":=let⟨o,_,_,_,S,_⟩:=z;⟨o,S.ho,S.ex.1⟩
theorem Xq:MtM X "set.add" (zEi X.w):=by
 intro pins s σ H x vs v us Q I rx rv h;obtain⟨a,l,k,rfl,rfl,hH,hz,q⟩:=h;cases rx;obtain⟨u,rfl,⟨tk,rfl⟩⟩:=rv.one;have z:=I.setw hH;refine CZ F.slot_set_add (WS.typeIs z) F.entry_set_add ?_ (F.args_set_add_2 _ _);unfold Builtin.«set.add» Builtin.Frozenset.oneOther;simp only[List.isEmpty_nil,bind_assoc];unfold Builtin.Frozenset.addrOf setAdd;refine AA (AD ?_)
 try dsimp only
 refine AA (AD ?_)
 try dsimp only
 refine AA ?_;refine BT ?_;refine AA (wpAny_pyHash_str ?_);refine ST.add_txt (s:={ s with toks:=s.toks+1 }) z hz fun h' b hsb z'=>?_;show wpAny _ _ (ret Value.none) _ _ _;refine AD ⟨_,rfl,.non,_,I.write (x:=a) (e:=a) (t':=s.toks+1) (by rw[hH];exact True.intro) (.inl rfl) (fun b q hb e=>(hsb.2 b hb).trans e) (let⟨o,_,_,_,S,_⟩:=z';⟨o,S.ho⟩) (Uy z'),rfl,q⟩
theorem Ry{Q:Value->Shared->Prop}{A:Around}{E:Value->Shared->Prop}{prog:Program}{w:World}
  (h:ST.WS w (s.heap.push { cls:=.type "set",dict:=none,data:=.set #[] 0 (.fresh 0 0 (!(w.params.followText "set-order"))) }) s.heap.objs.size [] ->
   Q (.ref s.heap.objs.size) { s with heap:=s.heap.push { cls:=.type "set",dict:=none,data:=.set #[] 0 (.fresh 0 0 (!(w.params.followText "set-order"))) } }):wpAny (model prog w) A (newSet (.type "set")) Q E s:=by
 unfold newSet setsByText;refine AA (AA (HB (AD ?_)));dsimp only;simp only[newObj];refine AA (wpAny_alloc (AD (h ⟨_,#[],0,_,⟨AM _ rfl,⟨rfl,rfl,rfl⟩,rfl,by rfl,rfl,fun _=>rfl,by decide⟩,⟨fun e he=>by simp at he,by simp,GM⟩⟩)))
end
section
variable{X:Cx}{tg iter elt tg2 iter2:Expr}{g g2:TG}{tc tc2:TT}{te:TE}{ifs ifs2:List Expr}{scope:Scope}{cl:List (Str×Addr)}{N':List Str}{cap:List (Option Nat)}{pos:Pos}{wi wi2:TI}
def Da(w:World)(D:Addr)(te:TE):TEm:=fun σ H Q=>te σ H fun y H1=>∃l k,y = .str k/\H1 D=some (Dg w D l)/\l.length+1<4096/\Q σ (upd H1 D (Dg w D (Th l k)))
theorem Rq{D:Addr}(hxe:X.xe=fun _ _=>False)(he:PE X elt te):PEm X (emS elt (.ref D) X.env) (Da X.w D te):=by
 intro pins s σ H Q k F E I h hk;unfold emS;refine AA (AA (BR (Ax hxe (he pins s σ H _ I h)) (fun u s1 ⟨y,H1,I1,r1,l,kk,e1,e2,z1,q1⟩=>?_) fun _ _ z=>z));subst e1;refine AA (EZ (AA (BR (Ax hxe (Xq pins s1 σ H1 (.ref D) [.str kk] (.ref D) [u] (fun v H2=>v = .non/\Q σ H2) I1 rfl (.cons r1 .nil) ⟨D,l,kk,rfl,rfl,e2,z1,rfl,q1⟩)) (fun v s2 ⟨y2,H2,I2,r2,_,q2⟩=>?_) fun _ _ z=>z)));exact AD (hk s2 σ H2 I2 q2)
theorem Xo{D:Addr}(hc:X.calm=true)(hxe:X.xe=fun _ _=>False)(hi:PI X tg2 iter2 wi2)(hg:PG X tg2 g2)(ht:PTs X ifs2 tc2)(he:PE X elt te)(hs:∀x,foldedSetIterable iter2 X.env x=pure x) :
  PEm X (emN (.SetComp elt [⟨tg,iter,ifs,0⟩,⟨tg2,iter2,ifs2,0⟩] scope pos) iter2 1 (.ref D) X.env) (zEf wi2 fun J σ H Q=>o9 g2 tc2 (Da X.w D te) J σ H Q):=by
 intro pins s σ H Q k F E I h hk;unfold emN;have h0:=hi pins s σ H _ I h;rw[hxe]at h0;refine AA (BR h0 (fun v s1 h1=>?_) fun _ _ z=>z.elim);refine AA (EZ (AA (GB (hs v) (AA (BT (BR h1 (fun itv s2 h2=>?_) fun _ _ z=>z.elim))))));obtain⟨it,fp,tn,J,H2,eit,I2,T,st2,f2,R2⟩:=h2;subst eit;refine AA (wpAny_runOwn ?_);refine V9 (X:=X) (e:=.SetComp elt [⟨tg,iter,ifs,0⟩,⟨tg2,iter2,ifs2,0⟩] scope pos) (d:=1) (tg:=tg2) (iter:=iter2) (ifs:=ifs2) rfl rfl (gs:=[⟨tg,iter,ifs,0⟩,⟨tg2,iter2,ifs2,0⟩]) rfl rfl T st2 ?_;exact P3 (X:=X) rfl rfl hc hxe (Kx elt tg iter tg2 iter2 ifs ifs2 scope pos _ _ _) hg ht (Rq hxe he) T I2 st2 f2 R2 fun s' σ' H' I' q'=>hk s' σ' H' I' q'
theorem Vw(S:CScope X scope cl N' cap)(hc:X.calm=true)(hi:PI X tg iter wi)
  (hb:∀(pins:List (Addr×Obj)) (ex:List Addr) (s3:Shared) (H3:Hp),PG (cxC X scope cl N' pins ex s3 H3) tg g/\PTs (cxC X scope cl N' pins ex s3 H3) ifs tc/\PI (cxC X scope cl N' pins ex s3 H3) tg2 iter2 wi2 /\
   PG (cxC X scope cl N' pins ex s3 H3) tg2 g2/\PTs (cxC X scope cl N' pins ex s3 H3) ifs2 tc2/\PE (cxC X scope cl N' pins ex s3 H3) elt te)
  (hs:∀x,foldedSetIterable iter X.env x=pure x:=by intro _;rfl) (hs2:∀env x,foldedSetIterable iter2 env x=pure x:=by intro _ _;rfl) :
  PE X (.SetComp elt [⟨tg,iter,ifs,0⟩,⟨tg2,iter2,ifs2,0⟩] scope pos) (Ea wi (fun D=>Dg X.w D []) cap fun D J σ H Q=>o9 g tc (zEf wi2 fun J σ H Q=>o9 g2 tc2 (Da X.w D te) J σ H Q) J σ H Q):=by
 refine Co (newAcc:=newSet (.type "set")) (p2:=firstIterPos [⟨tg,iter,ifs,0⟩,⟨tg2,iter2,ifs2,0⟩] pos) rfl (fun D=>Dg X.w D []) hs S hc hi (fun pins s σ H Q E I h=>?_) (fun pins ex s3 H3 D it fp tn J σ s H Q R T I st hf h hR=>?_) (fun _ _ _=>rfl) (fun _ _ _=>rfl) (fun E Q s h=>h)
 .refine Ry fun z=>h _ (I.laid (t':=s.toks) (fun b o e=>AE _ e) (Nat.le_refl _) (Uy z)) fun b ob e=>AE _ e
 .obtain⟨b1,b2,b3,b4,b5,b6⟩:=hb pins ex s3 H3;exact P3 (X:=cxC X scope cl N' pins ex s3 H3) rfl rfl hc rfl (Kj elt tg iter tg2 iter2 ifs ifs2 scope pos _ _ _) b1 b2 (Xo (X:=cxC X scope cl N' pins ex s3 H3) hc rfl b3 b4 b5 b6 (hs2 _)) T I st hf h hR
end
theorem Inv.drawn{X:Cx}{pins:List (Addr×Obj)}{σ:St}{H:Hp}{s:Shared}(I:Inv X pins σ H s)(d:Drawn):Inv X pins σ H { s with drawn:=d } :=
 ⟨I.ok,I.os,I.bare,I.base,I.loc,I.cell,I.free,I.freeC,I.pin,I.hok,I.len⟩
section
variable{X:Cx}
theorem Dy(hc:X.calm=true):E3 X (.builtin "sorted") (fun xs H Q=>∃(p:Addr) (ss:List Str),xs = [.ref p]/\H p=some (Dg X.w p ss)/\∀(l:Addr) (ss':List Str),H l=none->ss'.Perm ss->ss'.Pairwise leS->Q (.ref l) (upd H l (.lst (ss'.map V.str)))):=by
 intro pins s σ H xs us Q I r h;obtain⟨p,ss,rfl,hq,q⟩:=h;obtain⟨u,rfl,ru⟩:=Q8 r;cases ru;obtain⟨o,es,ep,t,S,T⟩:=I.setw hq;refine TS.sorted_gen (ST.collect_set (show X.A.in1.handled=none from I.ok.hd hc) S fun s1 its k1 g1 o1 tk1 hpi=>?_);have hS:∀v∈its,∃x tk,v=Value.str x tk:=fun v hv=>by
  obtain⟨e,he,rfl⟩:=AI.mp (hpi.mem_iff.mp hv);obtain⟨x,tk,rfl⟩:=T.el e he;exact⟨x,tk,rfl⟩
 have hstr:StrsAre its (its.map strOf):=by
  have:∀l:List Value,(∀v∈l,∃x tk,v=Value.str x tk)->StrsAre l (l.map strOf):=by
   intro l
   induction l with
   | nil=>exact fun _=>.nil
   | cons v r ih =>
    intro h;obtain⟨x,tk,rfl⟩:=h v (BE ..);exact .cons _ _ (ih fun u hu=>h u (AX _ hu))
  exact this its hS
 have hlen:its.length=es.size:=by rw[hpi.length_eq,AB,AQ]
 have hfew:=S.few;have hss:(its.map strOf).Perm ss:=by
  refine(hpi.map strOf).trans ?_;rw[CH];refine List.Perm.trans (List.Perm.of_eq ?_) T.pm;refine GG fun e he=>?_;obtain⟨x,tk,rfl⟩:=T.el e he;rfl
 refine⟨o1,by rw[sizeLine_eq];omega,strKind,oneType',fun s2 _=>TS.keys_strs hstr,fun out h' e ho k hg=>?_⟩;obtain⟨hp,hs⟩:=ho;have hm:∀v∈out.toList,∃x t,v = .str x t:=fun v hv=>hS v (hp.mem_iff.mp hv);have hv:Vals ((out.toList.map strOf).map V.str) out.toList:=by
  have:∀us:List Value,(∀v∈us,∃x t,v = .str x t)->Vals ((us.map strOf).map V.str) us:=by
   intro us
   induction us with
   | nil=>exact fun _=>.nil
   | cons v r ih =>
    intro h;obtain⟨x,t,rfl⟩:=h v (BE ..);exact .cons ⟨t,rfl⟩ (ih fun u hu=>h u (AX _ hu))
  exact this _ hm
 have hperm:(out.toList.map strOf).Perm ss:=(hp.map strOf).trans hss;have hpw:(out.toList.map strOf).Pairwise leS:=by
  rw[BQ];refine(DH.mp hs).imp fun{u v} ⟨hu,hv',q⟩=>?_;obtain⟨x,t,rfl⟩:=hm u hu;obtain⟨y,t',rfl⟩:=hm v hv';have q':decide (y.cps.toList<x.cps.toList)=false:=q;exact of_decide_eq_false q'
 have k0:∀b o,s.heap.get? b=some o->h'.get? b=some o:=fun b o eb=>k b o (k1 b o eb);have hge:s.heap.objs.size<=s1.heap.objs.size:=EX tk1;have hn:H s1.heap.objs.size=none:=I.hok.fresh hge;obtain⟨h1,g',d',t',o'⟩:=s1;have eo:o'=s.os:=o1;have eg:g'=s.gens:=g1;subst eo;subst eg;refine⟨.ref h1.objs.size,upd H h1.objs.size (.lst ((out.toList.map strOf).map V.str)),?_,rfl,q _ _ hn hperm hpw⟩;exact(I.laid (a:=h1.objs.size) (o:=.lst ((out.toList.map strOf).map V.str)) (t':=t') k0 hge ⟨by rw[AB,AB,hp.length_eq,sizeLine_eq];omega,out.toList,e,hv,by simpa using hg⟩).drawn d'
end
def Mb(P:Program)(w:World)(a:Addr)(ks:List (List Key×Addr)):HO:=.ext fun h=>ST.TSet (B9 P w) h a ks
def Jw(H:Hp)(ks:List (List Key×Addr)):Prop:=∀q∈ks,H q.2=some (.tup (q.1.map kV))
section
variable{X:Cx}{pins:List (Addr×Obj)}{σ:St}{H:Hp}{s:Shared}{a:Addr}{ks:List (List Key×Addr)}
theorem Ja(P:Program)(w:World):ST.Flat (B9 P w):=fun v ⟨x,h⟩=>(B9 P w).byValue x v h
theorem Tt(P:Program)(w:World):ST.Scan (B9 P w):=fun v ⟨x,h⟩=>by
 rcases D6 (show Cj x v=true from h)with⟨i,t,_,rfl⟩ | ⟨y,t,_,rfl⟩<;>rfl
theorem Uj{P:Program}{w:World}{H:Hp}{h:Heap}(z:ST.TSet (B9 P w) h a ks):ObjOk P w H h a (Mb P w a ks) :=
 ⟨z,let⟨o,_,_,_,e,_⟩:=z;⟨o,e⟩,fun h1 h2 ⟨o,es,ep,t,e,r⟩ k=>⟨o,es,ep,t,k o e,r⟩⟩
theorem Inv.sett(I:Inv X pins σ H s)(e:H a=some (Mb X.prog X.w a ks)):ST.TSet (B9 X.prog X.w) s.heap a ks:=by
 obtain⟨z,_⟩:=(show ObjOk X.prog X.w H s.heap a (Mb X.prog X.w a ks)from I.hok a _ e);exact z
theorem Kt:E3 X (.type "set") (fun xs H Q=>xs = []/\∀p,H p=none->Q (.ref p) (upd H p (Mb X.prog X.w p []))):=by
 intro pins s σ H xs us Q I r h;obtain⟨rfl,q⟩:=h;cases r;refine call_set_0 fun led=>⟨.ref s.heap.objs.size,_,I.laid (t':=s.toks) (fun b o e=>AE _ e) (Nat.le_refl _) (Uj ?_),rfl,q _ (I.hok.fresh (Nat.le_refl _))⟩;exact⟨_,#[],0,_,AM _ rfl,⟨rfl,rfl,rfl⟩,rfl,.refl _,⟨rfl,rfl,.inl rfl,by show 0*5<7*3;decide⟩⟩
def zEv(P:Program)(w:World):R2:=fun x y H Q=>∃a p ks k,y = .ref a/\x = .ref p/\H a=some (Mb P w a ks)/\H p=some (.tup (k.map kV))/\Jw H ks/\(∀q∈ks,q.1≠k)/\Q (.bl false) H
theorem Ku(hu:X.A.units+1<cLine):OpR X (compareOp .In) (zEv X.prog X.w):=by
 intro pins s σ H x y v u Q I rx ry h;obtain⟨a,p,ks,k,rfl,rfl,hH,hp,ht,hn,q⟩:=h;cases ry;cases rx;exact ST.in_free (neg:=false) hu (Ja _ _) (I.sett hH) (fun z hz=>Ak I.hok (ht z hz)) (Ak I.hok hp) hn ⟨.bl false,H,I.tok _,rfl,q⟩
def zCe(P:Program)(w:World):V->List V->Hp->VK->Prop:=fun x vs H Q=>∃a p ks k,x = .ref a/\vs = [.ref p]/\H a=some (Mb P w a ks)/\H p=some (.tup (k.map kV))/\Jw H ks/\(∀q∈ks,q.1≠k)/\ks.length+1<=300/\Q .non (upd H a (Mb P w a (ks ++ [(k,p)])))
theorem Xk(hu:X.A.units+1<cLine):MtM X "set.add" (zCe X.prog X.w):=by
 intro pins s σ H x vs v us Q I rx rv h;obtain⟨a,p,ks,k,rfl,rfl,hH,hp,ht,hn,hl,q⟩:=h;cases rx;obtain⟨u,rfl,ru⟩:=rv.one;cases ru;refine ST.call_add hu (Ja _ _) (Tt _ _) (I.sett hH) (fun z hz=>Ak I.hok (ht z hz)) (Ak I.hok hp) hn hl fun h' hs z=>?_;exact⟨.non,_,I.write (x:=a) (e:=a) (by rw[hH];exact True.intro) (.inl rfl) (fun b q hb e=>(hs.2 b hb).trans e) (let⟨o,_,_,_,e,_⟩:=z;⟨o,e⟩) (Uj z),rfl,q⟩
end
section
variable{X:Cx}{tg:Expr}
def zCs(K:PySem.W.Frag)(tl:TE):TI:=fun σ H R=>tl σ H fun x H1=>∃a,x = .ref a/\(((∃xs,SqL K H1 a xs)/\R (Itl K a) H1)\/((∃xs,SqT K H1 a xs)/\R (Itt K a) H1))
theorem zBx{l:Expr}{tl:TE}(hl:PE X l tl):PI X tg l (zCs X.K tl):=by
 intro pins s σ H R I h;refine thn (hl pins s σ H _ I h) fun v s1 ⟨x,H1,I1,r1,q1⟩=>?_;obtain⟨a,e,q1⟩:=q1;subst e;cases r1;have fin:∀b,b∈[s1.heap.objs.size]->Bu X pins H1 b:=fun b hb=>by
  have e:b=s1.heap.objs.size:=by simpa using hb
  subst e;exact I1.fpOk (Nat.le_refl _) (I1.hok.fresh (Nat.le_refl _))
 rcases q1 with⟨⟨xs,hq⟩,q⟩ | ⟨⟨xs,hq⟩,q⟩
 .obtain⟨its,rv,p,hz⟩:=I1.list hq;refine GZ p.isList ?_;exact⟨s1.heap.objs.size,[s1.heap.objs.size],_,_,H1,rfl,I1.kept (t':=s1.toks) fun b o e=>AE _ e,Fu a _,⟨_,AM _ rfl,rfl,rfl⟩,fin,q⟩
 .obtain⟨its,rv,p,hz⟩:=I1.tuple hq;refine wpAny_pyIter_tuple (show s1.heap.IsTuple a its.toArray from p) ?_;exact⟨s1.heap.objs.size,[s1.heap.objs.size],_,_,H1,rfl,I1.kept (t':=s1.toks) fun b o e=>AE _ e,Ko a _,⟨_,AM _ rfl,rfl,rfl⟩,fin,q⟩
end
section
variable{X:Cx}
theorem Os:E3 X (.builtin "isinstance") (fun xs H Q=>∃x n t b,xs = [x,.ty n]/\TyOf X.K H x t/\PySem.W.kitOne X.K t (.type n)=some b/\Q (.bl b) H):=by
 intro pins s σ H xs us Q I r h;obtain⟨x,n,t,b,rfl,ht,he,q⟩:=h;obtain⟨u,v,rfl,ru,rv⟩:=r.two;cases rv;exact Ov I ru ht he fun tk=>⟨.bl b,H,I.tok _,rfl,q⟩
end
mutual
def Rp(K:PySem.W.Frag)(H:Hp):PyData->V->Prop
 | .none,v=>v = .non
 | .bool b,v=>v = .bl b
 | .int i,v=>v = .int i
 | .str x,v=>v = .str x
 | .list ds,v=>∃a xs,v = .ref a/\SqL K H a xs/\Rps K H ds xs
 | .tuple ds,v=>∃a xs,v = .ref a/\SqT K H a xs/\Rps K H ds xs
 | .dict _,_=>False
def Rps(K:PySem.W.Frag)(H:Hp):List PyData->List V->Prop
 | [],vs=>vs = []
 | d::ds,vs=>∃v r,vs=v::r/\Rp K H d v/\Rps K H ds r
end
section
variable{X:Cx}{pins:List (Addr×Obj)}{σ:St}{H:Hp}{s:Shared}
mutual
theorem Inv.reads(I:Inv X pins σ H s):∀(d:PyData) (v:V) (u:Value),Rp X.K H d v->RelV v u->∃as,Reads s.heap u d as
 | .none,v,u,h,r=>by
  cases(show v = .non by simpa [Rp] using h);cases r;exact⟨_,.none⟩
 | .bool b,v,u,h,r=>by
  cases(show v = .bl b by simpa [Rp] using h);cases r;exact⟨_,.bool b⟩
 | .int i,v,u,h,r=>by
  cases(show v = .int i by simpa [Rp] using h);obtain⟨t,rfl⟩:=r;exact⟨_,.int i t⟩
 | .str x,v,u,h,r=>by
  cases(show v = .str x by simpa [Rp] using h);obtain⟨t,rfl⟩:=r;exact⟨_,.str x t⟩
 | .list ds,v,u,h,r=>by
  obtain⟨a,xs,e,hq,hs⟩:=(show ∃a xs,v=V.ref a/\SqL X.K H a xs/\Rps X.K H ds xs by simpa [Rp] using h);subst e;cases r;obtain⟨its,rv,⟨o,n,e,hc,hd,hda⟩,_⟩:=I.list hq;obtain⟨as,z⟩:=I.readsAll ds xs its hs rv;exact⟨_,.list e hc hda (by simpa using z)⟩
 | .tuple ds,v,u,h,r=>by
  obtain⟨a,xs,e,hq,hs⟩:=(show ∃a xs,v=V.ref a/\SqT X.K H a xs/\Rps X.K H ds xs by simpa [Rp] using h);subst e;cases r;obtain⟨its,rv,⟨o,e,hc,n,hda⟩,_⟩:=I.tuple hq;obtain⟨as,z⟩:=I.readsAll ds xs its hs rv;exact⟨_,.tuple e hc hda (by simpa using z)⟩
 | .dict _,v,u,h,r=>by simp[Rp]at h
theorem Inv.readsAll(I:Inv X pins σ H s):∀(ds:List PyData) (vs:List V) (us:List Value),Rps X.K H ds vs->Vals vs us->∃as,ReadsAll s.heap us ds as
 | [],vs,us,h,r=>by
  cases(show vs = [] by simpa [Rps] using h);cases r;exact⟨_,.nil⟩
 | d::ds,vs,us,h,r=>by
  obtain⟨v,vr,e,h1,h2⟩:=(show ∃v r,vs=v::r/\Rp X.K H d v/\Rps X.K H ds r by simpa [Rps] using h);subst e;cases r with
  | cons r1 r2 =>
   obtain⟨as,z⟩:=I.reads d v _ h1 r1;obtain⟨bs,z'⟩:=I.readsAll ds vr _ h2 r2;exact⟨_,.cons z z'⟩
end
def Pl(d:PyData):Prop:=d.canLay0=true/\d.depth<=50
def zDx(K:PySem.W.Frag):R2:=fun x y H Q=>∃d e,Rp K H d x/\Rp K H e y/\Pl d/\Pl e/\Q (.bl (!PyData.eqv d e)) H
theorem Zu(hu:X.A.units+64<cLine):OpR X (compareOp .NotEq) (zDx X.K):=by
 intro pins s σ H x y v u Q I rx ry h;obtain⟨d,e,h1,h2,p1,p2,q⟩:=h;obtain⟨as,z1⟩:=I.reads d x v h1 rx;obtain⟨bs,z2⟩:=I.reads e y u h2 ry;exact PySem.SeqAt.compareNe_reads z1 z2 p1.1 p2.1 (by have:=p1.2;have:=p2.2;omega) ⟨.bl (!PyData.eqv d e),H,I,rfl,q⟩
def zFc(K:PySem.W.Frag)(neg:Bool):R2:=fun x y H Q=>∃d ds,Rp K H d x/\(Rp K H (.list ds) y\/Rp K H (.tuple ds) y)/\Pl d/\PyData.canLayAll0 ds=true/\Q (.bl (if neg then !(ds.any fun z=>PyData.eqv z d)else ds.any fun z=>PyData.eqv z d)) H
theorem zBo(hu:X.A.units+64<cLine):OpR X (compareOp .In) (zFc X.K false):=by
 intro pins s σ H x y v u Q I rx ry h;obtain⟨d,ds,h1,h2,p1,p2,q⟩:=h;obtain⟨as,z1⟩:=I.reads d x v h1 rx;have hu':X.A.units+1+min (PyData.depthAll ds) d.depth<cLine:=by have:=p1.2;omega
 rcases h2 with h2 | h2
 .obtain⟨bs,z2⟩:=I.reads (.list ds) y u h2 ry;exact PySem.SeqAt.in_list_reads z2 z1 p2 p1.1 hu' ⟨.bl _,H,I,rfl,q⟩
 .obtain⟨bs,z2⟩:=I.reads (.tuple ds) y u h2 ry;exact PySem.SeqAt.in_tuple_reads z2 z1 p2 p1.1 hu' ⟨.bl _,H,I,rfl,q⟩
end
end L2
namespace L2
open PySem PySem.Spec PyProof.Rows
section
variable{X:Cx}
def Rb(x:Str)(n:Nat):Str:=⟨(List.replicate n x.cps).foldl (· ++ ·) #[]⟩
theorem Td(x:Str):Rb x 1=x:=by
 unfold Rb;simp
theorem Eg:∀(n:Nat) (acc:Array Nat),(List.replicate n (#[]:Array Nat)).foldl (· ++ ·) acc=acc
 | 0,_=>rfl
 | n+1,acc=>by rw[EO,FX,Array.append_empty];exact Eg n acc
theorem Ip(a:Array Nat):∀(n:Nat) (acc:Array Nat),((List.replicate n a).foldl (· ++ ·) acc).size=acc.size+n*a.size
 | 0,_=>by simp
 | n+1,acc=>by rw[EO,FX,Ip a n,Array.size_append,Nat.succ_mul];omega
theorem Km:OpR X (binaryOp .Mult) (fun x y H Q=>∃z i n,x = .str z/\y = .int i/\i =((n:Nat):Int)/\n<=100/\z.length<=1000/\Q (.str (Rb z n)) H):=by
 intro pins s σ H x y v u Q I rx ry h;obtain⟨z,i,n,rfl,rfl,hi,hn,hz,q⟩:=h;obtain⟨t,rfl⟩:=rx;obtain⟨tk,rfl⟩:=ry;have hlen:z.length=z.cps.size:=rfl;refine PySem.P.mul_str ?_ ?_ ?_ ?_
 .rw[AN (by omega),AN (by omega)];rfl
 .intro h1 _ hgt;have hm:(z.length:Int)*i<=1000*100:=Int.mul_le_mul (by omega) (by omega) (by omega) (by omega);have:=Int.le_ediv_of_mul_le (a:=(z.length:Int)) (b:=2^63-1) (c:=i) (by omega) (by omega);omega
 .intro _ _;have hm:z.length*i.toNat<=1000*100:=Nat.mul_le_mul hz (by omega);unfold Builtin.Str.tooLong;exact AN (by rw[sizeLine_eq];omega)
 .have e0:i.toNat=n:=by omega
  rw[e0];by_cases h1:i<1
  .rw[AO h1];have:n=0:=by omega
   subst this;exact⟨by decide,.str (Rb z 0),H,I.tok _,⟨_,rfl⟩,q⟩
  .rw[AK h1];by_cases h2:(i == 1||z.length == 0)=true
   .rw[AO h2];have hz:Rb z n=z:=by
     rcases CC _ _▸h2 with z1 | z1
     .have:n=1:=by have:=eq_of_beq z1;omega
      subst this;exact Td z
     .have:z.cps = #[]:=Array.eq_empty_of_size_eq_zero (by rw[hlen]at z1;exact eq_of_beq z1);unfold Rb;rw[this,Eg];cases z;simp at this;rw[this]
    rw[hz]at q;exact⟨.str z,H,I,⟨t,rfl⟩,q⟩
   .rw[AK h2];refine⟨?_,.str (Rb z n),H,I.tok _,⟨_,rfl⟩,q⟩;show(Rb z n).cps.size<=sizeLine;unfold Rb;rw[Ip,sizeLine_eq];have hm:n*z.cps.size<=100*1000:=Nat.mul_le_mul hn (by rw[<-hlen];exact hz);simp only[Array.size_empty];omega
end
structure Fn(K:PySem.W.Frag)(mg:Str->Option Value)(x:Str)(st:Stmt)(ps:List Str) where
 f:Addr
 fd:FuncData
 F:Fun K x x st f fd
 b:Binds K fd ps []
 m:mg x=some (.ref f)
structure Mt(K:PySem.W.Frag)(C:Addr)(m qual:Str)(st:Stmt)(ps:List Str) where
 f:Addr
 fd:FuncData
 F:Fun K m qual st f fd
 b:Binds K fd ps []
 m:Meth K C m f
section
variable{X:Cx}
theorem G9{x:Str}{st:Stmt}{ps:List Str}{k:Nat}{sp:Sp}{e:Expr}{es:List Expr}{t:TA}{p pos:Pos}(D:Fn X.K X.mg x st ps)(G:FnOk X.prog X.w X.K X.mg X.base CX0 k D.f D.fd ps sp)(hr:Room k X.A)(ha:PA X (e::es) t)
  (hg:Gl X x:=by rfl) (hdb:(x ==("__debug__":Str))=false:=by decide) (hs:starEach (e::es) X.env =(false,eval e X.env)::starEach es X.env:=by rfl) (hpl:(backTo pos (starEach es X.env)).any (·.1)=false:=by rfl) :
  PE X (.Call (.Name x p) (e::es) [] pos) (Lg sp [] E0 t):=Oy G hr hg D.m D.F.kp D.b .nil G6 ha hdb hs hpl
def Pm(P:Program)(w:World)(x:V)(H:Hp):Prop:=∃p,x = .ref p/\((∃l,H p=some (Ma P w p l))\/(∃l,H p=some (Dg w p l))\/∃ks,H p=some (Mb P w p ks))
theorem Zx{pins:List (Addr×Obj)}{σ:St}{H:Hp}{s:Shared}{x:V}{v:Value}(I:Inv X pins σ H s)(r:RelV x v)(ty:Pm X.prog X.w x H):s.TypeIs v "set"/\∀a,v = .ref a->∃ob,s.heap.get? a=some ob/\ob.dict=none:=by
 obtain⟨p,rfl,h⟩:=ty;cases r;have z:∃o,s.heap.get? p=some o/\o.ExactSet:=by
  rcases h with⟨l,h⟩ | ⟨l,h⟩ | ⟨l,h⟩
  .obtain⟨o,_,_,_,e,ex,_⟩:=I.set h;exact⟨o,e,ex⟩
  .obtain⟨o,_,_,_,S,_⟩:=I.setw h;exact⟨o,S.ho,S.ex⟩
  .obtain⟨o,_,_,_,e,ex,_⟩:=I.sett h;exact⟨o,e,ex⟩
 obtain⟨o,e,ex⟩:=z;refine⟨⟨o,e,ex.1⟩,fun a e2=>?_⟩;cases e2;exact⟨o,e,ex.2.1⟩
def zFb(P:Program)(w:World)(r:V->List V->Hp->VK->Prop)(to:TE)(t:TA):TE:=fun σ H Q=>to σ H fun x H1=>Pm P w x H1/\t σ H1 fun xs H2=>r x xs H2 Q
theorem Wd{o e:Expr}{to:TE}{t:TA}{apos cpos:Pos}{r:V->List V->Hp->VK->Prop}(hm:MtM X "set.add" r)(ho:PE X o to)(ha:PA X [e] t)
  (hbase:attributeBase o "add" X.env (eval o X.env)=eval o X.env:=by rfl)
  (hfew:((backTo cpos (starEach [e] X.env)).all (fun x=>!x.1) &&(backToKw cpos (keywordEach [] X.env)).all (fun x=>x.1.isSome)
   && decide ([e].length +([]:List Keyword).length +(if([]:List Keyword).isEmpty then 0 else 1)<30))=true:=by rfl)
  (hline:(apos.endLine == cpos.line)=true:=by rfl) (hs:starEach [e] X.env = [(false,eval e X.env)]:=by rfl) :
  PE X (.Call (.Attribute o "add" apos) [e] [] cpos) (zFb X.prog X.w r to t):=by
 intro pins s σ H Q I h;refine wpAny_Call_method_late hbase hfew hline rfl (thn (ho pins s σ H _ I h) fun v s1 ⟨x,H1,I1,r1,ty,q1⟩=>?_);obtain⟨h1,h2⟩:=Zx I1 r1 ty;refine⟨"set", "set.add",F.plainAttrs_set,F.slot_set_add,F.type_set_add,h1,h2,?_⟩;have hA:=ha cpos pins s1 σ H1 _ I1 q1;rw[hs]at hA⊢;refine Calls.callWith_builtin rfl (Calls.evalArgs_plain ?_);exact thn hA fun us s2 ⟨vs,H2,I2,r2,q2⟩=>hm pins s2 σ H2 x vs v us Q I2 r1 r2 q2
theorem Ws{x:Str}{i:Int}{pos:Pos}(h:∃t,X.mg x=some (.int i t))(hg:Gl X x:=by rfl)(hd:(x ==("__debug__":Str))=false:=by decide):PE X (.Name x pos) (tC (.int i)):=by
 obtain⟨t,e⟩:=h;exact Gb hg e ⟨t,rfl⟩ hd
theorem zDe{x y:Str}{pos:Pos}(h:∃t,X.mg x=some (.str y t))(hg:Gl X x:=by rfl)(hd:(x ==("__debug__":Str))=false:=by decide):PE X (.Name x pos) (tC (.str y)):=by
 obtain⟨t,e⟩:=h;exact Gb hg e ⟨t,rfl⟩ hd
theorem Xx{x:Str}{n:String}{pos:Pos}(hm:X.mg x=none)(hv:bootBuiltins x=some (.type n))(hg:Gl X x:=by rfl)(hn:x≠ "__name__":=by decide)(hd:(x ==("__debug__":Str))=false:=by decide):PE X (.Name x pos) (tC (.ty n)) :=
 Wl hg hm hv rfl hn hd
theorem F2{x:Str}{id:String}{r:List V->Hp->VK->Prop}{e:Expr}{es:List Expr}{t:TA}{p pos:Pos}(hc:E3 X (.builtin id) r)(hm:X.mg x=none)(hv:bootBuiltins x=some (.builtin id))(ha:PA X (e::es) t)(hg:Gl X x:=by rfl)(hn:x≠ "__name__":=by decide)(hdb:(x ==("__debug__":Str))=false:=by decide)
  (hs:starEach (e::es) X.env =(false,eval e X.env)::starEach es X.env:=by rfl) (hpl:(backTo pos (starEach es X.env)).any (·.1)=false:=by rfl):PE X (.Call (.Name x p) (e::es) [] pos) (tCB r t):=Rg hc hg hm hv ha hn hdb hs hpl
theorem Kl{x:Str}{T:String}{r:List V->Hp->VK->Prop}{e:Expr}{es:List Expr}{t:TA}{p pos:Pos}(hc:E3 X (.type T) r)(hm:X.mg x=none)(hv:bootBuiltins x=some (.type T))(ha:PA X (e::es) t)(hg:Gl X x:=by rfl)(hn:x≠ "__name__":=by decide)(hdb:(x ==("__debug__":Str))=false:=by decide)
  (hs:starEach (e::es) X.env =(false,eval e X.env)::starEach es X.env:=by rfl) (hpl:(backTo pos (starEach es X.env)).any (·.1)=false:=by rfl):PE X (.Call (.Name x p) (e::es) [] pos) (tCB r t):=Oq hc hg hm hv ha hn hdb hs hpl
theorem J8{scope:Scope}{cl:List (Str×Addr)}{N':List Str}{cap:List (Option Nat)}(caps:Caps X scope cl N' cap)(cin:ClIn X cl)(clos:closureFor scope X.env=pure cl:=by rfl)(kind:scope.kind = .function:=by rfl)(nocell:∀y∈scope.names,y.2≠ .cell:=by decide +kernel)
  (loc:∀y∈scope.names,y.2 = .local->scope.names.lookup y.1=some .local:=by decide +kernel) (has:((relabel scope X.env).names.all fun y=>!(y.2 == .cell||y.2 == .free)||(cl.lookup y.1).isSome)=true:=by rfl):CScope X scope cl N' cap:=⟨kind,nocell,loc,clos,cin,has,caps⟩
theorem pgC{scope:Scope}{cl:List (Str×Addr)}{N':List Str}{pins:List (Addr×Obj)}{ex:List Addr}{s3:Shared}{H3:Hp}{x:Str}{pos:Pos}(i:Nat)(hN:N'.Nodup:=by decide +kernel)(hi:N'[i]?=some x:=by rfl)(hx:Loc (cxC X scope cl N' pins ex s3 H3).env.scope x:=by exact Or.inl rfl)
  (hf:(cxC X scope cl N' pins ex s3 H3).env.scope.names.lookup x=some .local:=by rfl):PG (cxC X scope cl N' pins ex s3 H3) (.Name x pos) (K9 i):=C3 (X:=cxC X scope cl N' pins ex s3 H3) hN hi hx (.inr hf)
end
theorem X6:bootBuiltins "len" = some (.builtin "len"):=by decide +kernel
theorem Dr:bootBuiltins "enumerate" = some (.type "enumerate"):=by decide +kernel
theorem zAy:bootBuiltins "min" = some (.builtin "min"):=by decide +kernel
theorem zBd:bootBuiltins "max" = some (.builtin "max"):=by decide +kernel
theorem Vn:bootBuiltins "abs" = some (.builtin "abs"):=by decide +kernel
theorem M0:bootBuiltins "sorted" = some (.builtin "sorted"):=by decide +kernel
theorem Ng:bootBuiltins "int" = some (.type "int"):=by decide +kernel
theorem zAq:bootBuiltins "str" = some (.type "str"):=by decide +kernel
theorem Bd:bootBuiltins "list" = some (.type "list"):=by decide +kernel
theorem Tc:bootBuiltins "tuple" = some (.type "tuple"):=by decide +kernel
theorem Us:bootBuiltins "set" = some (.type "set"):=by decide +kernel
theorem G0:bootBuiltins "isinstance" = some (.builtin "isinstance"):=by decide +kernel
theorem zAp:bootBuiltins "all" = some (.builtin "all"):=by decide +kernel
def KeepAt(a:Addr)(H0 H:Hp):Prop:=∀o,H0 a=some o->H a=some o
def Sm(D:List Addr)(H H':Hp):Prop:=∀b o,H b=some o->b∉D->H' b=some o
theorem Same.at{H0 H:Hp}(h:Same H0 H)(a:Addr):KeepAt a H0 H:=fun o e=>h a o e
theorem Same.new{H:Hp}{p:Addr}{o:HO}(h:H p=none):Same H (upd H p o):=fun b u e=>by rw[B5 (A9 e h)];exact e
theorem Same.upd{H0 H:Hp}{p:Addr}{o:HO}(s:Same H0 H)(h:H0 p=none):Same H0 (upd H p o):=fun b u e=>by rw[B5 (A9 e h)];exact s b u e
theorem Same.sm{D:List Addr}{H H':Hp}(h:Same H H'):Sm D H H':=fun b o e _=>h b o e
theorem Sm.refl(D:List Addr)(H:Hp):Sm D H H:=fun _ _ e _=>e
theorem Sm.trans{D:List Addr}{H H1 H2:Hp}(a:Sm D H H1)(b:Sm D H1 H2):Sm D H H2:=fun c o h n=>b c o (a c o h n) n
theorem Sm.new{D:List Addr}{H H1:Hp}{p:Addr}{o:HO}(a:Sm D H H1)(h:H1 p=none):Sm D H (L2.upd H1 p o):=fun b u e n=>by
 have:=a b u e n;rw[B5 (A9 this h)];exact this
theorem Sm.upd{D:List Addr}{H H1:Hp}{p:Addr}{o:HO}(a:Sm D H H1)(h:p∈D):Sm D H (L2.upd H1 p o):=fun b u e n=>by
 rw[B5 (show b≠p from fun z=>n (by rw[z];exact h))];exact a b u e n
theorem Sm.updN{D:List Addr}{H H1:Hp}{p:Addr}{o:HO}(a:Sm D H H1)(h:H p=none):Sm D H (L2.upd H1 p o):=fun b u e n=>by rw[B5 (A9 e h)];exact a b u e n
theorem Sm.none{D:List Addr}{H H':Hp}(h:Sm D H H'){a:Addr}(n:a∉D)(e:H' a=Option.none):H a=Option.none:=by
 cases q:H a with
 | none=>rfl
 | some o=>rw[h a o q n]at e;cases e
theorem KeepAt.seqL{K:PySem.W.Frag}{H H':Hp}{a:Addr}{xs:List V}(e:KeepAt a H H')(h:SqL K H a xs):SqL K H' a xs:=by
 rcases h with(h | ⟨o,h⟩) | h
 .exact .inl (.inl (e _ h))
 .exact .inl (.inr ⟨o,e _ h⟩)
 .exact .inr h
theorem KeepAt.seqT{K:PySem.W.Frag}{H H':Hp}{a:Addr}{xs:List V}(e:KeepAt a H H')(h:SqT K H a xs):SqT K H' a xs:=by
 rcases h with(h | ⟨o,h⟩) | h
 .exact .inl (.inl (e _ h))
 .exact .inl (.inr ⟨o,e _ h⟩)
 .exact .inr h
def Sqs(K:PySem.W.Frag)(H:Hp)(a:Addr)(xs:List V):Prop:=SqL K H a xs\/SqT K H a xs
theorem KeepAt.seq{K:PySem.W.Frag}{H H':Hp}{a:Addr}{xs:List V}(e:KeepAt a H H')(h:Sqs K H a xs):Sqs K H' a xs:=h.imp e.seqL e.seqT
structure AsSeq(J:It)(xs:List V)(a:Addr)(H0:Hp):Prop where
 go:∀H i,KeepAt a H0 H->i<xs.length->J.go i H
 stop:∀H,KeepAt a H0 H->J.stop xs.length H
 yld:∀H i x H',KeepAt a H0 H->i<xs.length->J.yld i H x H'->H'=H/\xs[i]?=some x
theorem asL{K:PySem.W.Frag}{H0:Hp}{a:Addr}{xs:List V}(h:SqL K H0 a xs):AsSeq (Itl K a) xs a H0 :=
 ⟨fun H i k hi=>⟨xs,xs[i],k.seqL h,AC hi⟩,fun H k=>⟨xs,k.seqL h,Nat.le_refl _⟩,fun H i x H' k hi ⟨e,y⟩=>⟨e,y xs (k.seqL h)⟩⟩
theorem asT{K:PySem.W.Frag}{H0:Hp}{a:Addr}{xs:List V}(h:SqT K H0 a xs):AsSeq (Itt K a) xs a H0 :=
 ⟨fun H i k hi=>⟨xs,xs[i],k.seqT h,AC hi⟩,fun H k=>⟨xs,k.seqT h,Nat.le_refl _⟩,fun H i x H' k hi ⟨e,y⟩=>⟨e,y xs (k.seqT h)⟩⟩
theorem zBt{K:PySem.W.Frag}{H:Hp}{σ:St}{a:Addr}{xs:List V}{R:It->Hp->Prop}{i:Nat}(hv:σ[i]?=some (some (.ref a)))(h:Sqs K H a xs)(r:∀J,AsSeq J xs a H->R J H):zCs K (Y5 i) σ H R:=by
 refine⟨_,hv,a,rfl,?_⟩;rcases h with h | h
 .exact .inl ⟨⟨xs,h⟩,r _ (asL h)⟩
 .exact .inr ⟨⟨xs,h⟩,r _ (asT h)⟩
theorem Tn{K:PySem.W.Frag}{o:Addr->HO}{cap:List (Option Nat)}{lp:Addr->It->St->Hp->(St->Hp->Prop)->Prop}{σ:St}{H:Hp}{Q:VK}{a:Addr}{xs:List V}{i:Nat}(hv:σ[i]?=some (some (.ref a)))(h:Sqs K H a xs)
  (r:∀J,AsSeq J xs a H->∀D,H D=none->lp D J (Ru cap σ) (upd H D (o D)) fun _ H2=>Q (.ref D) H2):Ea (zCs K (Y5 i)) o cap lp σ H Q:=zBt hv h r
theorem Nw{J:It}{n:Nat}{g:TG}{tb:TS}{D:Ends}{σ:St}{H:Hp}(Pv:Nat->St->Hp->Prop)(h0:Pv 0 σ H)(hgo:∀i σ H,i<n->Pv i σ H->J.go i H)(hst:∀σ H,Pv n σ H->J.stop n H)
  (hs:∀i σ H x H',i<n->Pv i σ H->J.yld i H x H'->g x σ H' fun σ2 H2=>tb { D with nx:=Pv (i+1),ct:=Pv (i+1),bk:=D.nx } σ2 H2) (hd:∀σ H,Pv n σ H->D.nx σ H) :
  ∃W:Nat->Nat->St->Hp->Prop,(∃m,W 0 m σ H)/\∀i m σ H,W i m σ H ->
   (J.stop i H/\D.nx σ H)\/(J.go i H/\∃N:St->Hp->Prop,(∀σ' H',N σ' H'->∃m',m' < m/\W (i+1) m' σ' H')/\∀x H',J.yld i H x H'->g x σ H' fun σ2 H2=>tb { D with nx:=N,ct:=N,bk:=D.nx } σ2 H2):=by
 refine⟨fun i m σ H=>m=n-i/\i<=n/\Pv i σ H,⟨n,by simp,CD _,h0⟩,?_⟩;rintro i m σ H ⟨rfl,hi,p⟩;by_cases hlt:i<n
 .exact .inr ⟨hgo i σ H hlt p,Pv (i+1),fun σ' H' p'=>⟨n-(i+1),by omega,rfl,hlt,p'⟩,fun x H' y=>hs i σ H x H' hlt p y⟩
 .have e:i=n:=by omega
  subst e;exact .inl ⟨hst σ H p,hd σ H p⟩
theorem Zb{J:It}{xs:List V}{a:Addr}{H0:Hp}(as:AsSeq J xs a H0){g:TG}{tb:TS}{D:Ends}{σ:St}{H:Hp}(Pv:Nat->St->Hp->Prop)(h0:Pv 0 σ H)(hk:∀i σ H,i<=xs.length->Pv i σ H->KeepAt a H0 H)
  (hs:∀i σ H x,xs[i]?=some x->Pv i σ H->g x σ H fun σ2 H2=>tb { D with nx:=Pv (i+1),ct:=Pv (i+1),bk:=D.nx } σ2 H2) (hd:∀σ H,Pv xs.length σ H->D.nx σ H) :
  ∃W:Nat->Nat->St->Hp->Prop,(∃m,W 0 m σ H)/\∀i m σ H,W i m σ H ->
   (J.stop i H/\D.nx σ H)\/(J.go i H/\∃N:St->Hp->Prop,(∀σ' H',N σ' H'->∃m',m' < m/\W (i+1) m' σ' H')/\∀x H',J.yld i H x H'->g x σ H' fun σ2 H2=>tb { D with nx:=N,ct:=N,bk:=D.nx } σ2 H2) :=
 Nw (n:=xs.length) Pv h0 (fun i σ H hi p=>as.go H i (hk i σ H (EX hi) p) hi) (fun σ H p=>as.stop H (hk _ σ H (Nat.le_refl _) p)) (fun i σ H x H' hi p y=>by
  obtain⟨rfl,e⟩:=as.yld H i x H' (hk i σ H (EX hi) p) hi y;exact hs i σ _ x e p) hd
theorem u9{J:It}{n:Nat}{g:TG}{tc:TT}{em:TEm}{σ:St}{H:Hp}{Q:St->Hp->Prop}(Pv:Nat->St->Hp->Prop)(h0:Pv 0 σ H)(hgo:∀i σ H,i<n->Pv i σ H->J.go i H)(hst:∀σ H,Pv n σ H->J.stop n H)
  (hs:∀i σ H x H' (N:St->Hp->Prop),i<n->Pv i σ H->J.yld i H x H'->(∀σ' H',Pv (i+1) σ' H'->N σ' H')->g x σ H' fun σ2 H2=>tc σ2 H2 fun b H3=>if b=true then em σ2 H3 N else N σ2 H3)
  (hd:∀σ H,Pv n σ H->Q σ H):o9 g tc em J σ H Q:=by
 refine⟨fun i m σ H=>m=n-i/\i<=n/\Pv i σ H,⟨n,by simp,CD _,h0⟩,?_⟩;rintro i m σ H ⟨rfl,hi,p⟩;by_cases hlt:i<n
 .exact .inr ⟨hgo i σ H hlt p,fun x H' y=>hs i σ H x H' _ hlt p y fun σ3 H4 p'=>⟨n-(i+1),by omega,rfl,hlt,p'⟩⟩
 .have e:i=n:=by omega
  subst e;exact .inl ⟨hst σ H p,hd σ H p⟩
theorem M9{J:It}{xs:List V}{a:Addr}{H0:Hp}(as:AsSeq J xs a H0){g:TG}{tc:TT}{em:TEm}{σ:St}{H:Hp}{Q:St->Hp->Prop}(Pv:Nat->St->Hp->Prop)(h0:Pv 0 σ H)(hk:∀i σ H,i<=xs.length->Pv i σ H->KeepAt a H0 H)
  (hs:∀i σ H x (N:St->Hp->Prop),xs[i]?=some x->Pv i σ H->(∀σ' H',Pv (i+1) σ' H'->N σ' H')->g x σ H fun σ2 H2=>tc σ2 H2 fun b H3=>if b=true then em σ2 H3 N else N σ2 H3)
  (hd:∀σ H,Pv xs.length σ H->Q σ H):o9 g tc em J σ H Q :=
 u9 (n:=xs.length) Pv h0 (fun i σ H hi p=>as.go H i (hk i σ H (EX hi) p) hi) (fun σ H p=>as.stop H (hk _ σ H (Nat.le_refl _) p)) (fun i σ H x H' N hi p y hN=>by
  obtain⟨rfl,e⟩:=as.yld H i x H' (hk i σ H (EX hi) p) hi y;exact hs i σ _ x N e p hN) hd
theorem Y4{em:TEm}{N:St->Hp->Prop}{σ:St}{H:Hp}{i:Nat}{x:V}(h:em (σ.set i (some x)) H N):K9 i x σ H fun σ2 H2=>V0 σ2 H2 fun b H3=>if b=true then em σ2 H3 N else N σ2 H3:=by
 show if true=true then em (σ.set i (some x)) H N else N (σ.set i (some x)) H
 rw[AO rfl];exact h
theorem Xu{em:TEm}{N:St->Hp->Prop}{σ:St}{H:Hp}(h:em σ H N):V0 σ H fun b H3=>if b=true then em σ H3 N else N σ H3:=by
 show if true=true then em σ H N else N σ H
 rw[AO rfl];exact h
section
variable{X:Cx}(K:PySem.W.Frag)(P:Program)(w:World){tg:Expr}
theorem piL{l:Expr}{tl:TE}(hl:PE X l tl)(hK:X.K=K:=by rfl):PI X tg l (zCi K tl):=by subst hK;exact Wr hl
theorem piS{l:Expr}{tl:TE}(hl:PE X l tl)(hK:X.K=K:=by rfl):PI X tg l (zCs K tl):=by subst hK;exact zBx hl
theorem piE{elts:List Expr}{kk:Nat}{tp:Pos}{a:Expr}{ta:TA}{p pos:Pos}(hm:X.mg "enumerate" = none)(ha:PA X [a] ta)(hg:Gl X "enumerate":=by rfl)(hs:starEach [a] X.env = [(false,eval a X.env)]:=by rfl)(hK:X.K=K:=by rfl) :
  PI X (.Tuple elts kk tp) (.Call (.Name "enumerate" p) [a] [] pos) (zBv K ta):=by subst hK;exact Xf hg hm Dr ha hs
theorem zDi{a:Expr}{ta:TA}{p pos:Pos}(hm:X.mg "range" = none)(ha:PA X [a] ta)(hg:Gl X "range":=by rfl)(hs:starEach [a] X.env = [(false,eval a X.env)]:=by rfl):PI X tg (.Call (.Name "range" p) [a] [] pos) (Yt ta):=Qx hg hm ha hs
theorem pgT{es:List Expr}{k:Nat}{t:TGs}{n:Nat}{pos:Pos}(h:PGs X es t)(hc:X.calm=true:=by rfl)(hn:(assignEach es X.env).length=n:=by rfl)(hst:(assignEach es X.env).findIdx? (·.1)=none:=by rfl)(hK:X.K=K:=by rfl):PG X (.Tuple es k pos) (zCq K n t):=by subst hK;exact Zk hc h hn hst
theorem peF{e:Expr}{ta:TE}{f:Str}{pos:Pos}(he:PE X e ta)(hb:attributeBase e f X.env (eval e X.env)=eval e X.env:=by rfl)(hK:X.K=K:=by rfl):PE X (.Attribute e f pos) (zEy K ta f):=by subst hK;exact zAj he hb
theorem psF{o value:Expr}{ta tv:TE}{f:Str}{pos pos':Pos}(ha:PE X o ta)(hv:PE X value tv)(hs:swapsWith value (some (.Attribute o f pos')) pos.line X.env=pure false:=by rfl)(hK:X.K=K:=by rfl):PS X (.Assign [.Attribute o f pos'] value pos) (zEu K ta tv f):=by subst hK;exact Zr ha hv hs
theorem t6(hK:X.K=K:=by rfl):E3 X (.builtin "len") (fun xs H Q=>∃p ys,xs = [.ref p]/\(SqL K H p ys\/SqT K H p ys)/\Q (.int ys.length) H):=by subst hK;exact Fa
theorem Hs(hK:X.K=K:=by rfl):E3 X (.type "list") (fun xs H Q=>∃p ys,xs = [.ref p]/\(SqL K H p ys\/SqT K H p ys)/\∀l,H l=none->Q (.ref l) (upd H l (.lst ys))):=by subst hK;exact Cw
theorem zBf(hc:X.calm=true:=by rfl)(hK:X.K=K:=by rfl):E3 X (.builtin "all") (fun xs H Q=>∃(p:Addr) (bs:List Bool),xs = [.ref p]/\SqL K H p (bs.map V.bl)/\Q (.bl (bs.all id)) H):=by subst hK;exact Sh hc
theorem Ub(hK:X.K=K:=by rfl):E3 X (.builtin "sorted") (fun xs H Q=>∃(p:Addr) (ss:List Str),xs = [.ref p]/\SqL K H p (ss.map V.str)/\∀(l:Addr) (ss':List Str),H l=none->ss'.Perm ss->ss'.Pairwise leS->Q (.ref l) (upd H l (.lst (ss'.map V.str)))):=by subst hK;exact Dm
theorem Rh(hK:X.K=K:=by rfl):E3 X (.builtin "sorted") (fun xs H Q=>∃(p:Addr) (ps:List PA2),xs = [.ref p]/\SqL K H p (ps.map fun q=>V.ref q.1)/\(∀q∈ps,E2 H q)/\∀(l:Addr) (ps':List PA2),H l=none->ps'.Perm ps->ps'.Pairwise leP->Q (.ref l) (upd H l (.lst (ps'.map fun q=>V.ref q.1)))):=by subst hK;exact Fp
theorem Re(hc:X.calm=true:=by rfl)(hw:X.w=w:=by rfl):E3 X (.builtin "sorted") (fun xs H Q=>∃(p:Addr) (ss:List Str),xs = [.ref p]/\H p=some (Dg w p ss)/\∀(l:Addr) (ss':List Str),H l=none->ss'.Perm ss->ss'.Pairwise leS->Q (.ref l) (upd H l (.lst (ss'.map V.str)))):=by subst hw;exact Dy hc
theorem Oj(hK:X.K=K:=by rfl):E3 X (.builtin "isinstance") (fun xs H Q=>∃x n t b,xs = [x,.ty n]/\TyOf K H x t/\PySem.W.kitOne K t (.type n)=some b/\Q (.bl b) H):=by subst hK;exact Os
theorem Yk(hP:X.prog=P:=by rfl)(hw:X.w=w:=by rfl):E3 X (.type "set") (fun xs H Q=>xs = []/\∀p,H p=none->Q (.ref p) (upd H p (Ma P w p []))):=by subst hP;subst hw;exact Pk
theorem Sc(hP:X.prog=P:=by rfl)(hw:X.w=w:=by rfl):E3 X (.type "set") (fun xs H Q=>xs = []/\∀p,H p=none->Q (.ref p) (upd H p (Mb P w p []))):=by subst hP;subst hw;exact Kt
theorem zCt(hu:X.A.units+64<cLine)(hK:X.K=K:=by rfl):OpR X (compareOp .In) (zFc K false):=by subst hK;exact zBo hu
theorem zCu(hu:X.A.units+64<cLine)(hK:X.K=K:=by rfl):OpR X (compareOp .NotEq) (zDx K):=by subst hK;exact Zu hu
theorem Te(hK:X.K=K:=by rfl):OpR X (compareOp .In) (rIn K false):=by subst hK;exact Oi
theorem Tu(hK:X.K=K:=by rfl):OpR X (compareOp .NotIn) (rIn K true):=by subst hK;exact Dt
theorem zEa(hP:X.prog=P:=by rfl)(hw:X.w=w:=by rfl):OpR X (compareOp .In) (zFg P w false):=by subst hP;subst hw;exact Np
theorem zCx(hu:X.A.units+1<cLine)(hP:X.prog=P:=by rfl)(hw:X.w=w:=by rfl):OpR X (compareOp .In) (zEv P w):=by subst hP;subst hw;exact Ku hu
theorem Zi(hP:X.prog=P:=by rfl)(hw:X.w=w:=by rfl):MtM X "set.add" (Zv P w):=by subst hP;subst hw;exact Zc
theorem zBu(hu:X.A.units+1<cLine)(hP:X.prog=P:=by rfl)(hw:X.w=w:=by rfl):MtM X "set.add" (zCe P w):=by subst hP;subst hw;exact Xk hu
theorem Vb{o e:Expr}{to:TE}{t:TA}{apos cpos:Pos}{r:V->List V->Hp->VK->Prop}(hm:MtM X "set.add" r)(ho:PE X o to)(ha:PA X [e] t)
  (hbase:attributeBase o "add" X.env (eval o X.env)=eval o X.env:=by rfl)
  (hfew:((backTo cpos (starEach [e] X.env)).all (fun x=>!x.1) &&(backToKw cpos (keywordEach [] X.env)).all (fun x=>x.1.isSome)
   && decide ([e].length +([]:List Keyword).length +(if([]:List Keyword).isEmpty then 0 else 1)<30))=true:=by rfl)
  (hline:(apos.endLine == cpos.line)=true:=by rfl) (hs:starEach [e] X.env = [(false,eval e X.env)]:=by rfl) (hP:X.prog=P:=by rfl) (hw:X.w=w:=by rfl) :
  PE X (.Call (.Attribute o "add" apos) [e] [] cpos) (zFb P w r to t):=by subst hP;subst hw;exact Wd hm ho ha hbase hfew hline hs
theorem ixL(hK:X.K=K:=by rfl):IxR X (Zm K):=by subst hK;exact Xl
theorem ixT(hK:X.K=K:=by rfl):IxR X (zEz K):=by subst hK;exact zAv
theorem slL(hK:X.K=K:=by rfl):SlR X (zFd K):=by subst hK;exact Xs
theorem ptV{a:Expr}{ta:TE}(ha:PE X a ta)(he:∀whole,isTrue a X.env whole =(do let v <-whole;standAt a.pos;holding [v] (truthy v)):=by intro _;rfl)(hK:X.K=K:=by rfl):PT X a (fun σ H Q=>ta σ H fun x H'=>∃k,zDm K x H' k/\Q k H'):=by subst hK;exact So ha he
theorem Ra{T id:String}{name:Str}{o e:Expr}{es:List Expr}{to:TE}{t:TA}{apos cpos:Pos}{r:V->List V->Hp->VK->Prop}(pa:PlainAttrs T)(slot:Slot T name id)(hty:typeOf (.builtin id)=pure (.type "method_descriptor"))(hm:MtM X id r)(ho:PE X o to)(ha:PA X (e::es) t)
  (hbase:attributeBase o name X.env (eval o X.env)=eval o X.env:=by rfl)
  (hfew:((backTo cpos (starEach (e::es) X.env)).all (fun x=>!x.1) &&(backToKw cpos (keywordEach [] X.env)).all (fun x=>x.1.isSome)
   && decide ((e::es).length +([]:List Keyword).length +(if([]:List Keyword).isEmpty then 0 else 1)<30))=true:=by rfl)
  (hline:(apos.endLine == cpos.line)=true:=by rfl) (hs:starEach (e::es) X.env =(false,eval e X.env)::starEach es X.env:=by rfl) (hplain:(backTo cpos (starEach es X.env)).any (·.1)=false:=by rfl) (hK:X.K=K:=by rfl) :
  PE X (.Call (.Attribute o name apos) (e::es) [] cpos) (tBM K T r to t):=by subst hK;exact zDv pa slot hty hm ho ha hbase hfew hline hs hplain
end
section
variable{X:Cx}{tg iter elt tg2 iter2:Expr}{g g2:TG}{tc tc2:TT}{te:TE}{ifs ifs2:List Expr}{scope:Scope}{cl:List (Str×Addr)}{N':List Str}{cap:List (Option Nat)}{pos:Pos}{wi wi2:TI}
theorem zDa(w:World)(S:CScope X scope cl N' cap)(hi:PI X tg iter wi)
  (hb:∀(pins:List (Addr×Obj)) (ex:List Addr) (s3:Shared) (H3:Hp),PG (cxC X scope cl N' pins ex s3 H3) tg g/\PTs (cxC X scope cl N' pins ex s3 H3) ifs tc/\PI (cxC X scope cl N' pins ex s3 H3) tg2 iter2 wi2 /\
   PG (cxC X scope cl N' pins ex s3 H3) tg2 g2/\PTs (cxC X scope cl N' pins ex s3 H3) ifs2 tc2/\PE (cxC X scope cl N' pins ex s3 H3) elt te)
  (hc:X.calm=true:=by rfl) (hs:∀x,foldedSetIterable iter X.env x=pure x:=by intro _;rfl) (hs2:∀env x,foldedSetIterable iter2 env x=pure x:=by intro _ _;rfl) (hw:X.w=w:=by rfl) :
  PE X (.SetComp elt [⟨tg,iter,ifs,0⟩,⟨tg2,iter2,ifs2,0⟩] scope pos) (Ea wi (fun D=>Dg w D []) cap fun D J σ H Q=>o9 g tc (zEf wi2 fun J σ H Q=>o9 g2 tc2 (Da w D te) J σ H Q) J σ H Q):=by
 subst hw;exact Vw S hc hi hb hs hs2
end
section
variable{prog:Program}{w:World}{A:Around}{E:Value->Shared->Prop}{s:Shared}{it l:Addr}{i:Nat}{items:Array Value}{x:Value}{Q:Value->Shared->Prop}
theorem w4(hit:s.heap.IsTupleIter it l i)(hl:s.heap.IsTuple l items)(hx:items[i]?=some x)
  (hQ:∀h',h'.IsTupleIter it l (i+1)->Heap.SameBut it s.heap h'->Q x { s with heap:=h' }):wpAny (model prog w) A (Builtin.SmallTypes.nextOf (.ref it)) Q E s:=by
 obtain⟨o,ho,hc,hd⟩:=id hit;obtain⟨ol,hol,_,nl,hdl⟩:=hl;refine AA (EJ hit.typeIs F.slot_tuple_iterator_next (CZ F.slot_tuple_iterator_next hit.typeIs F.entry_tuple_iterator_next ?_ (F.args_tuple_iterator_next_1 _)));refine AA (AD (AA (DG ho hd rfl ?_)));refine EQ (c:=(Value.ref l == Value.none)=true) rfl ?_;refine AA (DG ho hd rfl (AA (EL hol hdl ?_)));dsimp only;rw[show items[(i:Int).toNat]?=some x from hx];refine AA (FC ho hd (FM 1) (AD ⟨x,rfl,AD (hQ _ ⟨_,CB _ ho (Obj.isFreed_of_fields (Obj.data_mapFields hd _)),(Obj.cls_mapFields o _).trans hc,(Obj.data_mapFields hd _).trans ?_⟩ (EE _ _ _))⟩));rfl
theorem Pd{M:Model}{α β:Type}{a b:α}{i u v:β}{f:α->β->Sem (ForInStep β)}{Q:β->Shared->Prop}(h:wpAny M A (f a i) (fun r s'=>r = .yield u/\wpAny M A (f b u) (fun r s'=>r = .yield v/\Q v s') E s') E s):wpAny M A (forIn [a,b] i f) Q E s:=by
 rw[List.forIn_cons];refine AA (BR h (fun r s' z=>?_) fun e s' z=>z);obtain⟨rfl,z⟩:=z;show wpAny M A (forIn [b] u f) Q E s';rw[List.forIn_cons];refine AA (BR z (fun r s' z=>?_) fun e s' z=>z);obtain⟨rfl,z⟩:=z;exact AD z
theorem Jf{z TI TO:Addr}{f0:Value}(hz:IsZip s.heap z TI TO f0):s.TypeIs (.ref z) "zip":=⟨_,hz,rfl⟩
end
section
variable{prog:Program}{w:World}{A:Around}{E:Value->Shared->Prop}{s:Shared}
theorem Fd{M:Model}{T:String}{vs:List Value}{Q:Value->Shared->Prop}(h:Q (.ref s.heap.objs.size) { s with heap:=s.heap.push { cls:=.type T,data:=.fields vs.toArray } })(hs:sizeOk (.fields vs.toArray)):wpAny M A (Builtin.SmallTypes.newRecord (.type T) vs) Q E s:=CP h hs
end
section
variable{X:Cx}{elts:List Expr}{kk:Nat}{tp:Pos}
theorem Wn:bootBuiltins "zip" = some (.type "zip"):=by decide +kernel
variable(K:PySem.W.Frag)
end
section
variable{X:Cx}{tg iter elt:Expr}{ifs:List Expr}{scope:Scope}{cl:List (Str×Addr)}{N':List Str}{cap:List (Option Nat)}{wi:TI}{pos:Pos}
theorem Qa{e:Expr}{gs:List Comprehension}{newAcc:Sem Value}{p2:Pos}{use:Option (Value->Sem Unit)}{Qv:Value->Shared->Prop}(hcl:clausesOf e =⟨tg,iter,ifs,0⟩::gs)(o:Addr->HO)(hs:∀x,foldedSetIterable iter X.env x=pure x)(S:CScope X scope cl N' cap)(hc:X.calm=true)(hi:PI X tg iter wi)
  {lp:Addr->It->St->Hp->(St->Hp->Prop)->Prop}
  (hnew:∀(pins:List (Addr×Obj)) (s:Shared) (σ:St) (H:Hp) (Q:Value->Shared->Prop) (E:Value->Shared->Prop),Inv X pins σ H s->(∀s',Inv X pins σ (upd H s.heap.objs.size (o s.heap.objs.size)) s'->(∀b ob,s.heap.get? b=some ob->s'.heap.get? b=some ob)->Q (.ref s.heap.objs.size) s')->wpAny (model X.prog X.w) X.A newAcc Q E s)
  (hlp:∀(pins:List (Addr×Obj)) (ex:List Addr) (s3:Shared) (H3:Hp) (D it:Addr) (fp:List Addr) (tn:Nat->Heap->Prop) (J:It) (σ:St) (s:Shared) (H:Hp) (Q:St->Hp->Prop) (R:Result->Shared->Prop),
   Turn X.prog X.w X.K tg J fp it tn->Inv (cxC X scope cl N' pins ex s3 H3) [] σ H s->tn 0 s.heap->(∀b∈fp,Bu (cxC X scope cl N' pins ex s3 H3) [] H b)->lp D J σ H Q ->
   (∀s' σ' H',Inv (cxC X scope cl N' pins ex s3 H3) [] σ' H' s'->Q σ' H'->R (.ok .next) s') ->
   codeAny (model X.prog X.w) X.A (.compLoop e 0 (.ref it) (.ref D) (compEnvC scope cl s3.heap.objs.size X.env)) R s)
  (hun:∀it D env,X.A.under (.compStart e 0 (.ref it) (.ref D) env)=X.A) (hden:∀it D env,(model X.prog X.w).den (.compStart e 0 (.ref it) (.ref D) env) =(compStart e 0 (.ref it) (.ref D) env).onRaise (fun x=>do noteFrame x env;standAt theWindowsPlace))
  {pins:List (Addr×Obj)} {s:Shared} {σ:St} {H:Hp} {Q:V->Hp->Prop} (I:Inv X pins σ H s) (h:Ea wi o cap lp σ H Q)
  (hend:∀(D:Addr) (fp:List Addr) (H2:Hp) (s3 s':Shared) (σ':St) (H':Hp),Inv X pins σ H2 s3->(∀b∈fp,Bu X pins H2 b)->Inv (cxC X scope cl N' pins fp s3 H2) [] σ' H' s'->Q (.ref D) H'->compPost (model X.prog X.w) X.A X.xe use Qv (.ref D) s3.heap.objs.size (.ok .next) s') :
  wpAny (model X.prog X.w) X.A (comprehension e scope X.env p2 newAcc false (eval iter X.env) use) Qv X.xe s:=by
 refine wpAny_comprehension_free hcl hs S.clos S.kind S.loc (thn (hi pins s σ H _ I h) fun v s1 h1=>thn h1 fun itv s2 h2=>?_);obtain⟨it,fp,tn,J,H2,eit,I2,T,st2,f2,R2⟩:=h2;subst eit;refine hnew pins s2 σ H2 _ _ I2 fun s3 I3 k3=>?_;have hD:H2 s2.heap.objs.size=none:=I2.hok.fresh (Nat.le_refl _);have fok:∀b∈fp,Bu X pins (upd H2 s2.heap.objs.size (o s2.heap.objs.size)) b/\∃ob,s3.heap.get? b=some ob:=fun b hb=>by
  obtain⟨ob,e,_⟩:=T.obj _ _ st2 b hb;obtain⟨f0,fr⟩:=f2 b hb;exact⟨⟨by rw[B5 (A_ (AG e))];exact f0,fr⟩,ob,k3 b ob e⟩
 refine wpAny_newFunctionEnv S.nocell (by intro y hy;simp at hy) (fun h1 hns hsb=>?_) S.kind;have hk:∀b ob,s3.heap.get? b=some ob->h1.get? b=some ob:=fun b ob e=>(hsb.2 b (A_ (AG e))).trans (AE _ e);have I4:Inv (cxC X scope cl N' pins fp s3 (upd H2 s2.heap.objs.size (o s2.heap.objs.size))) [] (Ru cap σ) (upd H2 s2.heap.objs.size (o s2.heap.objs.size)) { s3 with heap:=h1,toks:=s3.toks +([]:List (Str×Value)).length } :=
  I3.block S hc fok hns hk
 have st4:tn 0 h1:=T.keep 0 _ _ st2 fun b hb ob e=>hk b ob (k3 b ob e);refine V9 (X:=cxC X scope cl N' pins fp s3 (upd H2 s2.heap.objs.size (o s2.heap.objs.size))) (gs:=⟨tg,iter,ifs,0⟩::gs) (e:=e) (d:=0) (tg:=tg) (iter:=iter) (ifs:=ifs) (hun _ _ _) (hden _ _ _) hcl rfl T st4 ?_;refine hlp pins fp s3 _ s2.heap.objs.size it fp tn J (Ru cap σ) _ _ _ _ T I4 st4 (fun b hb=>?_) (R2 _ hD) fun s' σ' H' I' q'=>?_
 .obtain⟨⟨f0,f1,f2',f3,f4,f5⟩,ob,eo⟩:=fok b hb;refine⟨f0,A_ (AG eo),fun hf=>?_,.inl hb,fun x c e=>f4 x c (S.cin.get e),fun p hp=>f5 p (by simpa [cxC] using hp)⟩;rcases AV.mp (I3.stkSub b hf)with z | z
  .exact f1 z
  .exact f2' z
 .exact hend _ fp _ s3 s' σ' H' I3 (fun b hb=>(fok b hb).1) I' q'
theorem Tz{i:Nat}{x:Str}{pos' cpos:Pos}{g:TG}{tc:TT}{te:TE}(hN:X.N.Nodup)(hi:X.N[i]?=some x)(hx:Loc X.env.scope x)(S:CScope X scope cl N' cap)(hc:X.calm=true)(hI:PI X tg iter wi)
  (hb:∀(pins:List (Addr×Obj)) (ex:List Addr) (s3:Shared) (H3:Hp),PG (cxC X scope cl N' pins ex s3 H3) tg g/\PTs (cxC X scope cl N' pins ex s3 H3) ifs tc/\PE (cxC X scope cl N' pins ex s3 H3) elt te)
  (hs:∀x,foldedSetIterable iter X.env x=pure x:=by intro _;rfl)
  (hsw:swapsWith (.ListComp elt [⟨tg,iter,ifs,0⟩] scope cpos) (some (.Name x pos')) pos.line X.env=pure true:=by rfl)
  (hf:X.fn x=true\/X.env.scope.names.lookup x=some .local:=by first | exact .inl rfl | exact .inr rfl | assumption) :
  PS X (.Assign [.Name x pos'] (.ListComp elt [⟨tg,iter,ifs,0⟩] scope cpos) pos) (Zg (Ea wi (fun _=>.lst []) cap fun D J σ H Q=>o9 g tc (o8 D te) J σ H Q) (K9 i)):=by
 intro pins s σ H D I h;rw[exec_Assign];refine AA (EZ (AA (GB hsw (wpAny_ite_true rfl (AA (AA ?_))))));refine Qa (newAcc:=newList []) (p2:=firstIterPos [⟨tg,iter,ifs,0⟩] cpos) rfl (fun _=>.lst []) hs S hc hI (fun pins s σ H Q E I h=>?_) (fun pins ex s3 H3 D it fp tn J σ s H Q R T I st hf h hR=>?_) (fun _ _ _=>rfl) (fun _ _ _=>rfl) I h fun E fp H2 s3 s' σ' H' I3 fok I' q=>?_
 .refine HK ?_;exact h _ (I.lnew (t':=s.toks) (its:=[]) .nil (CD _)) fun b ob e=>AE _ e
 .obtain⟨b1,b2,b3⟩:=hb pins ex s3 H3;exact P3 (X:=cxC X scope cl N' pins ex s3 H3) rfl rfl hc rfl (Ao elt tg iter ifs scope cpos _ _ _) b1 b2 (Je rfl b3) T I st hf h hR
 .have IX:Inv X pins σ H' s':=I3.unblock fok I' ⟨rfl,fun _ _=>rfl⟩;have fC:Bu X pins H' s3.heap.objs.size:=I3.fpOk (Nat.le_refl _) I'.free;obtain⟨m,hn,_⟩:=I'.loc;show wpAny _ _ (assign (.Name x pos') X.env (.ref E)) _ _ _;refine wpAny_assign_Name (Eo (v:=.ref E) IX hN hi hx rfl (fun s2 I2 ⟨a,hsb,ha⟩=>?_) hf);have nC:s3.heap.objs.size≠a:=by
   rcases ha with rfl | ha
   .exact fC.2.1
   .exact(fC.2.2.2.2.1 _ _ ha).symm
  refine⟨m,?_,fun h' hsb'=>AD (AD ?_)⟩
  .obtain⟨ob,es,ep,e1,r⟩:=hn;exact⟨ob,es,ep,(hsb.2 _ nC).trans e1,r⟩
  refine⟨_,H',?_,q⟩;have k:∀b ob,b∉[s3.heap.objs.size]->s2.heap.get? b=some ob->h'.get? b=some ob:=fun b ob hb e=>(hsb'.2 b fun z=>hb (AF.mpr z)).trans e;refine I2.step (h':=h') (H':=H') (t':=s2.toks) (g':=s2.gens) (d':=s2.drawn) (ch:=[s3.heap.objs.size]) (fun b hb=>by rw[AF.mp hb];exact⟨fC.2.2.2.1,fC.2.1,fC.2.2.2.2⟩) (fun b ob _ _ hc e _=>k b ob hc e) (fun b ob _ _ hc e _=>⟨ob.slots,k b ob hc e⟩) (fun _ _ _ _ n=>n)
   (fun b ob hc e=>⟨ob,k b ob hc e⟩) (fun _ _ e=>e) (fun _ _ _ e=>e) (fun b ps e=>⟨#[],by rw[e];simp⟩) (fun m hm=>?_) (fun b u eb=>?_) I2.bare
  .obtain⟨ob,es,ep,ho,r⟩:=hm;exact⟨ob,es,ep,k _ ob (fun hb=>fC.2.1 (AF.mp hb).symm) ho,r⟩
  .have nf:∀b u,H' b=some u->b∉[s3.heap.objs.size]:=fun b u e hb=>by rw[AF.mp hb,fC.1]at e;cases e
   refine(I2.hok b u eb).stay (fun c v hc q=>k c v ?_ q) (fun _ q=>q) fun _ _ q=>q;rcases hc with z | z
   .rw[z];exact nf b u eb
   .exact nf c _ z
end
structure IsC(K:PySem.W.Frag)(C:Addr):Prop where
 ha:PySem.W.findIn K (.ref C) "__class__" = some (some (.builtin "object.__class__"))
 hn:PySem.W.specialIn K (.builtin "object.__class__") "__get__" = some (some (.builtin "getset_descriptor.__get__"))
 htk:PySem.W.takesIn K (.builtin "object.__class__")=some true
 hm:PySem.W.mroIn K C (.type "object")=some true
 one:PySem.W.kitOne K (.ref C) (.ref C)=some true
theorem kit_same(K:PySem.W.Frag)(a:Addr):PySem.W.kitOne K (.ref a) (.ref a)=some true:=AO (beq_self_eq_true _)
section
variable{X:Cx}
theorem Y6{x:Str}{C:Addr}{pos:Pos}(h:X.mg x=some (.ref C))(hg:Gl X x:=by rfl)(hd:(x ==("__debug__":Str))=false:=by decide):PE X (.Name x pos) (tC (.ref C)):=Gb hg h rfl hd
theorem To(hc:X.calm=true):E3 X (.builtin "any") (fun xs H Q=>∃(p:Addr) (bs:List Bool),xs = [.ref p]/\SqL X.K H p (bs.map V.bl)/\Q (.bl (bs.any id)) H):=by
 intro pins s σ H xs us Q I r h;obtain⟨p,bs,rfl,hq,q⟩:=h;obtain⟨u,rfl,ru⟩:=Q8 r;cases ru;obtain⟨its,rv,pl,hz⟩:=I.list hq;refine call_any_walk (GZ pl.isList ?_);have hne:p≠s.heap.objs.size:=by
  obtain⟨o,n,e,_⟩:=pl;exact A_ (AG e)
 refine⟨s.heap.objs.size,_,_,_,_,_,fun i=>bs.getD i false,rfl,Walks.list (A:=X.A.in1) (show X.A.in1.handled=none from I.ok.hd hc) _ p hne its.toArray,⟨⟨_,AM _ rfl,rfl,rfl⟩,?_⟩,fun i v s' Q' E' hv q'=>?_,fun h' tk k=>?_⟩
 .obtain⟨o,n,e,c,d,e2⟩:=pl;exact⟨o,AE _ e,c,n,e2⟩
 .have hb:(bs.map V.bl)[i]?=some (V.bl (bs.getD i false))/\RelV (V.bl (bs.getD i false)) v:=by
   have hv':its[i]?=some v:=by simpa using hv
   have hi:i<its.length:=(AH.mp hv').1;have hl:=rv.length;rw[AB]at hl;have e:(bs.map V.bl)[i]?=some (V.bl (bs.getD i false)):=by
    rw[AJ,AC (by omega)];simp[AS,AC (show i<bs.length by omega)]
   obtain⟨u,hu,ru⟩:=rv.get e;rw[hv']at hu;cases hu;exact⟨e,ru⟩
  cases hb.2;exact DJ q'
 .have hl:=rv.length;rw[AB]at hl;have e:(List.range its.toArray.size).any (fun i=>bs.getD i false)=bs.any id:=by
   rw[AR,<-hl,C_,HE,HE];constructor
   .rintro⟨i,hi,z⟩;have hi':=BV.mp hi;refine⟨bs[i],EB hi',?_⟩;simpa [AS,AC hi'] using z
   .rintro⟨b,hb,z⟩;obtain⟨i,hi,rfl⟩:=F_.mp hb;refine⟨i,BV.mpr hi,?_⟩;simpa [AS,AC hi] using z
  rw[e];exact⟨.bl (bs.any id),H,I.kept fun b o eb=>k b o (by
   intro hb;have:b=s.heap.objs.size:=by simpa using hb
   exact absurd (AG eb) (by rw[this];exact DN _)) (AE _ eb),rfl,q⟩
theorem Uu:bootBuiltins "any" = some (.builtin "any"):=by decide +kernel
variable(K:PySem.W.Frag)
theorem Ui(hc:X.calm=true:=by rfl)(hK:X.K=K:=by rfl):E3 X (.builtin "any") (fun xs H Q=>∃(p:Addr) (bs:List Bool),xs = [.ref p]/\SqL K H p (bs.map V.bl)/\Q (.bl (bs.any id)) H):=by subst hK;exact To hc
end
theorem He:bootBuiltins "reversed" = some (.type "reversed"):=by decide +kernel
theorem Kh:typeLookup (.type "list_reverseiterator") "__len__" = pure none:=by rw[typeLookup_type,builtinLookup_eq_fast];kernel_rfl
theorem Gh:typeLookup (.type "list_reverseiterator") "__length_hint__" = pure (some (.builtin "list_reverseiterator.__length_hint__")):=by rw[typeLookup_type,builtinLookup_eq_fast];kernel_rfl
theorem Tr:isSubtype (.type "list_reverseiterator") (.type "list_reverseiterator")=pure true:=by rw[isSubtype_type];kernel_rfl
section
variable{P:Program}{w:World}{A:Around}{E:Value->Shared->Prop}{s:Shared}
theorem Ri{r:Addr}{Q:Bool->Shared->Prop}(t:s.TypeIs (.ref r) "list_reverseiterator")(q:Q false s):wpAny (model P w) A (Builtin.List.listLengthHint (.ref r)) Q E s:=by
 unfold Builtin.List.listLengthHint;refine AA (GU t Kh ?_);show wpAny _ _ (specialOf (Value.ref r) (Str.ofString "__length_hint__") >>= _) _ _ _;refine AA (GU t Gh ?_);generalize hi:("list_reverseiterator.__length_hint__":String)=i0;wp_delta;rw[show splitId i0=some ("list_reverseiterator", "__length_hint__")from by subst hi;decide +kernel];subst hi;refine AA (HD (T := "list_reverseiterator") (b:=true) t Tr ?_);refine HS (fun c=>absurd c (by decide)) fun _=>?_;refine HS (fun _=>?_) fun c=>absurd (by decide +kernel) c;refine HS (fun c=>absurd c (by decide +kernel)) fun _=>?_;exact AD q
theorem Lh{it l S:Addr}{items:Array Value}{res:Value}{c0:Nat}{R:Result->Shared->Prop}(hh:A.handled=none)(n1:S≠it)(n2:S≠l)(n3:l≠it)(hi:s.heap.IsRevIter it l ((items.size:Int)-1))(hl:s.heap.IsList l items)
  (hS:s.heap.get? S=some { cls:=.type "list",data:=.seq #[] c0 }) (hn:items.size<=sizeLine)
  (k:∀h' tk acc c,(∀b o,b≠S->b≠it->s.heap.get? b=some o->h'.get? b=some o)->h'.get? S=some { cls:=.type "list",dict:=none,data:=.seq acc c,slots:=#[] }->ItemsOf (fun i v=>items[items.size-1-i]?=some v) acc items.size->R (.ok (.ret res)) { s with heap:=h',toks:=tk }) :
  wpAny (model P w) A.in1 (Builtin.List.listExtendWith (.ref S) (.ref it) res) (fun fin s'=>match fin with | .done f=>R (.ok f) s' | .again c'=>c'.quiet=true/\codeAny (model P w) A c' R s') (fun e s'=>R (.error e) s') s:=by
 have fp:S∉[it,l]:=fun z=>(AV.mp z).elim n1 fun z=>n2 (AF.mp z);have e1:Builtin.List.listSameRef (.ref S) (.ref it)=false:=beq_eq_false_iff_ne.mpr n1;unfold Builtin.List.listExtendWith;refine AA (wpAny_typeOf hi.typeIs ?_);refine HS (fun c=>absurd c (by rw[e1];decide)) fun _=>?_;refine AA (wpAny_pyIter_revIter hi (AA (BT (Ri hi.typeIs ?_))));refine HS (fun c=>absurd c (by decide +kernel)) fun _=>?_;refine AD ⟨plainId_quiet F.plain_extend_loop _,codeAny_extend_loopS ((Walks.listRev (A:=A.in1) hh it l n3 items).toS) hn S fp res items.size 0 s #[] c0 rfl (CD _) ⟨CD _,?_,hl⟩ hS (ItemsOf.nil _) fun s' acc c hm hS' ha=>?_⟩
 .rw[show((0:Nat):Int)=0 from rfl,Int.sub_zero];exact hi
 .rw[Moved.eq_with hm];exact k s'.heap s'.toks acc c (fun b o h1 h2 e=>hm.heap b o (fun z=>(AV.mp z).elim h1 fun z=>h2 (AF.mp z)) e) hS' ha
theorem Sl{it l S:Addr}{items:Array Value}{R:Result->Shared->Prop}(hh:A.handled=none)(n1:S≠it)(n2:S≠l)(n3:l≠it)(hi:s.heap.IsRevIter it l ((items.size:Int)-1))(hl:s.heap.IsList l items)
  (hS:s.heap.get? S=some { cls:=.type "list",data:=.seq #[] }) (hn:items.size<=sizeLine)
  (k:∀h' tk acc c,(∀b o,b≠S->b≠it->s.heap.get? b=some o->h'.get? b=some o)->h'.get? S=some { cls:=.type "list",dict:=none,data:=.seq acc c,slots:=#[] }->ItemsOf (fun i v=>items[items.size-1-i]?=some v) acc items.size->R (.ok (.ret .none)) { s with heap:=h',toks:=tk }) :
  wpAny (model P w) A.in1 (Builtin.«list.__init__» ⟨[.ref S,.ref it],[]⟩) (fun fin s'=>match fin with | .done f=>R (.ok f) s' | .again c'=>c'.quiet=true/\codeAny (model P w) A c' R s') (fun e s'=>R (.error e) s') s:=by
 have oth:∀b o,b≠S->s.heap.get? b=some o->(s.heap.update S (Obj.mapSeq fun _=>(#[]:Array Value))).get? b=some o:=fun b o hb e=>(BP _ _ (Ne.symm hb)).trans e;show wpAny _ A.in1 (Builtin.List.listItems (.ref S) >>= fun old=>updateSeq S (fun _=>#[]) >>= fun _=>letGo old.toList.reverse >>= fun _=>Builtin.List.listExtendWith (.ref S) (.ref it) .none) _ _ s;unfold Builtin.List.listItems;refine AA (AA (EL hS rfl (AD (AA (wpAny_updateSeq hS rfl (AA (wpAny_letGo ?_)))))));exact Lh hh n1 n2 n3 (hi.at fun o e=>oth it o (Ne.symm n1) e) (hl.at fun o e=>oth l o (Ne.symm n2) e) (CB _ hS rfl) hn fun h' tk acc c kp e ha=>k h' tk acc c (fun b o h1 h2 e'=>kp b o h1 h2 (oth b o h1 e')) e ha
theorem Bx{it l:Addr}{items:Array Value}{Q:Value->Shared->Prop}(hh:A.handled=none)(n3:l≠it)(hi:s.heap.IsRevIter it l ((items.size:Int)-1))(hl:s.heap.IsList l items)(hn:items.size<=sizeLine)
  (k:∀h' tk acc c,(∀b o,b≠it->s.heap.get? b=some o->h'.get? b=some o)->h'.get? s.heap.objs.size=some { cls:=.type "list",dict:=none,data:=.seq acc c,slots:=#[] }->ItemsOf (fun i v=>items[items.size-1-i]?=some v) acc items.size->Q (.ref s.heap.objs.size) { s with heap:=h',toks:=tk }):wpAny (model P w) A (call (.type "list") [.ref it]) Q E s:=by
 refine callType_codes (Q₁:=fun v s1=>v = .ref s.heap.objs.size/\s1 ={ s with heap:=s.heap.push { cls:=.type "list",data:=.seq #[] } }) F.called_list (F.typeCall_list_1 _) F.entry_list_init (code_list_new _ ⟨rfl,rfl⟩) fun v s1 z=>?_;obtain⟨rfl,rfl⟩:=z;have up:∀b o,s.heap.get? b=some o->(s.heap.push { cls:=.type "list",data:=.seq #[] }).get? b=some o:=fun b o e=>AE _ e;obtain⟨oi,ei,ri⟩:=id hi;obtain⟨ol,el,rl⟩:=id hl;refine⟨⟨_,AM _ rfl,rfl⟩,F.args_list_init_2 _ _,Sl (A:=A.in1) hh (Nat.ne_of_gt (AG ei)) (Nat.ne_of_gt (AG el)) n3 ⟨oi,up _ _ ei,ri⟩ ⟨ol,up _ _ el,rl⟩ (AM _ rfl) hn fun h' tk acc c kp e ha=>?_⟩;exact⟨rfl,k h' tk acc c (fun b o hb e'=>kp b o (A_ (AG e')) hb (up _ _ e')) e ha⟩
end
section
variable{X:Cx}
def zDt(te:TE):TE:=fun σ H Q=>te σ H fun x H1=>∃a ys,x = .ref a/\H1 a=some (.lst ys)/\∀l,H1 l=none->Q (.ref l) (upd H1 l (.lst ys.reverse))
theorem Ou{us:List Value}{acc:Array Value}(h:ItemsOf (fun i v=>us.toArray[us.toArray.size-1-i]?=some v) acc us.toArray.size):acc.toList=us.reverse:=by
 refine FF fun i=>?_;obtain⟨h1,h2⟩:=h;have h1:acc.toList.length=us.length:=by simpa using h1
 by_cases c:i<us.length
 .have:us.toArray[us.toArray.size-1-i]?=some _:=h2 i _ (ES (by rw[<-AQ,h1];exact c));rw[FU,AR]at this;rw[List.getElem?_reverse c,this,BO];exact ES _
 .rw[DR (by omega),DR (by rw[List.length_reverse];omega)]
theorem Wk{e:Expr}{te:TE}{p p' pos pos':Pos}(hm:X.mg "list" = none)(hm':X.mg "reversed" = none)(he:PE X e te)(hc:X.calm=true:=by rfl)(hg:Gl X "list":=by rfl)(hg':Gl X "reversed":=by rfl)
  (hs:starEach [e] X.env =(false,eval e X.env)::starEach [] X.env:=by rfl) (hs':starEach [Expr.Call (.Name "reversed" p') [e] [] pos'] X.env =(false,eval (.Call (.Name "reversed" p') [e] [] pos') X.env)::starEach [] X.env:=by rfl):PE X (.Call (.Name "list" p) [.Call (.Name "reversed" p') [e] [] pos'] [] pos) (zDt te):=by
 intro pins s σ H Q I h;refine DE (T1 I hg hm Bd ?_ (by decide) (by decide));refine callWith_type1 ?_ hs' rfl;rw[hs'];refine Calls.spliced_cons ?_;refine DE (T1 I hg' hm' He ?_ (by decide) (by decide));refine callWith_type1 ?_ hs rfl;rw[hs];refine Calls.spliced_cons (thn (he pins s σ H _ I h) fun u s1 ⟨x,H1,I1,rx,a,ys,ex,ea,q⟩=>Calls.spliced_nil ?_);subst ex;obtain rfl:u=Value.ref a:=rx;obtain⟨its,n,rv,ho,hz⟩:=I1.lst ea;have hL:s1.heap.IsList a its.toArray:=⟨_,ho,rfl,n,rfl⟩;refine call_reversed_list hL (Calls.spliced_nil ?_);have na:a≠s1.heap.objs.size:=A_ (AG ho);refine Bx (I1.ok.hd hc) na ⟨_,AM _ rfl,rfl,rfl⟩ (hL.at fun o e=>AE _ e) (by rw[AR,<-rv.length];exact hz) fun h' tk acc c kp e' ha=>?_;have sz:s1.heap.objs.size<=(s1.heap.push (revObj a ((its.toArray.size:Int)-1))).objs.size:=by show _<=(Array.push _ _).size;rw[Array.size_push];exact CV _
 refine⟨.ref _,_,I1.laid (t':=tk) (fun b o e=>kp b o (A_ (AG e)) (AE _ e)) sz (show ObjOk X.prog X.w _ h' _ (.lst ys.reverse)from⟨by rw[List.length_reverse];exact hz,acc.toList,c,by rw[Ou ha];exact rv.reverse,by simpa using e'⟩),rfl,q _ (I1.hok.fresh sz)⟩
end
theorem Do:bootBuiltins "sum" = some (.builtin "sum"):=by decide +kernel
section
variable{X:Cx}
theorem Nr(hc:X.calm=true):E3 X (.builtin "sum") (fun xs H Q=>∃(p:Addr) (ns:List Int),xs = [.ref p]/\SqL X.K H p (ns.map V.int)/\Q (.int ns.sum) H):=by
 intro pins s σ H xs us Q I r h;obtain⟨p,ns,rfl,hq,q⟩:=h;obtain⟨u,rfl,ru⟩:=Q8 r;cases ru;obtain⟨its,rv,pl,hz⟩:=I.list hq;have hi:=Kw rv;obtain⟨xs,ex⟩:=hi.allInts.items;refine sum_intListG (xs:=xs) (I.ok.hd hc) (by rw[<-ex];exact pl.isList) fun h' tk t' k=>⟨.int ns.sum,H,I.kept k,⟨t',?_⟩,q⟩;have e:numsOf its=ns:=hi.numsOf;have e2:numsOf (intItems xs).toList=numsOf its:=by rw[<-ex]
 rw[preSum_eq,DD (by simp),<-nums_intItems,e2,e]
theorem Ir(K:PySem.W.Frag)(hK:X.K=K:=by rfl)(hc:X.calm=true:=by rfl):E3 X (.builtin "sum") (fun xs H Q=>∃(p:Addr) (ns:List Int),xs = [.ref p]/\SqL K H p (ns.map V.int)/\Q (.int ns.sum) H):=by subst hK;exact Nr hc
end
theorem Wp{α:Type}:∀{ps:List (Addr×α)} {us:List Value},Vals (ps.map fun q=>V.ref q.1) us->us=ps.map fun q=>Value.ref q.1
 | [],_,.nil=>rfl
 | _::_,_,.cons r t=>by rw[AW,Wp t];cases r;rfl
theorem Ya{α:Type}:∀(ps:List (Addr×α)),Vals (ps.map fun q=>V.ref q.1) (ps.map fun q=>Value.ref q.1)
 | []=>.nil
 | _::ps=>.cons rfl (Ya ps)
def Itd(d:Addr)(o:Obj)(kvs:List (Key×V)):It :=
 ⟨fun i H=>H d=some (.frz o (.dK kvs))/\i<kvs.length,fun i H x H'=>H'=H/\∃k v,kvs[i]?=some (k,v)/\x=kV k,fun i H=>H d=some (.frz o (.dK kvs))/\kvs.length<=i⟩
theorem KV.at{kvs:List (Key×V)}{vs:List (Key×Value)}(h:KV kvs vs):∀{i:Nat} {k:Key} {v:V},kvs[i]?=some (k,v)->∃u,vs[i]?=some (k,u):=by
 induction h with
 | nil=>intro i k v e;rw[List.getElem?_nil]at e;cases e
 | cons r _ ih =>
  intro i k v e;cases i with
  | zero =>
   rw[HW]at e⊢;cases e;obtain⟨a,b⟩:=r;exact⟨_,by rw[show k=_ from a]⟩
  | succ i=>exact ih e
theorem Xz{k:Key}{u:Value}(h:Cj k u=true):RelV (kV k) u:=by
 cases k with
 | inl i=>obtain⟨t,rfl⟩:=Value.isInt_shape h;exact⟨t,rfl⟩
 | inr x=>obtain⟨t,rfl⟩:=Value.isStrOf_shape h;exact⟨t,rfl⟩
section
variable{X:Cx}{tg:Expr}
theorem Oc{P:Program}{w:World}{K:PySem.W.Frag}{d it:Addr}{o:Obj}{kvs:List (Key×V)}{es:Array DictEntry}{ep:Nat}(hd:o.data = .dict es ep):Turn P w K tg (Itd d o kvs) [it] it (fun i h=>h.IsKeyIter it d i kvs.length ep) where
 mem:=by simp
 obj:=fun i h st b hb=>by
  have e:b=it:=by simpa using hb
  subst e;obtain⟨o,e,c,d⟩:=st;exact⟨o,e,fun v z=>by rw[d]at z;cases z⟩
 keep:=fun i h h' st k=>by
  obtain⟨o,e,r⟩:=st;exact⟨o,k it (by simp) o e,r⟩
 item:=by
  intro X hP hw hK hc i pins s σ H E I hf st hg;subst hP hw hK;obtain⟨hq,hi⟩:=hg;obtain⟨f0,f1,f2,f3,f4,f5⟩:=hf it (by simp);obtain⟨ho,hz,hS,vs,r,ob,es',ep',e1,c1,d1,m1⟩:=(show ObjOk X.prog X.w H s.heap d (.frz o (.dK kvs))from I.hok d _ hq);rw[ho]at e1;cases e1;rw[hd]at d1;cases d1;have hx:kvs[i]?=some (kvs[i].1,kvs[i].2):=AC hi;obtain⟨u,hu⟩:=r.at hx;have hl:kvs.length=vs.length:=r.length;rw[hl]at st;refine wpAny_pyNext_dict_item (knd:=B9 X.prog X.w) st ⟨o,es,ho,c1,hd,m1⟩ hu fun key h' hkey st' sb=>?_;have I1:Inv X pins σ H { s with heap:=h' }:=I.turned (t':=s.toks) (fun b o hb e=>(sb.2 b hb).trans e) f0 f1 f3 f4 f5;obtain⟨oi,ei,ci,di⟩:=id st';rw[<-hl]at st';exact⟨key,rfl,Kf (s:={ s with heap:=h' }) ei ci di (by decide) ⟨kV kvs[i].1,H,I1,Xz hkey,⟨rfl,_,_,hx,rfl⟩,st',fun b hb=>(hf b hb).1⟩⟩
 done:=by
  intro X hP hw hK hc i pins s σ H E I hf st hg;subst hP hw hK;obtain⟨hq,hi⟩:=hg;obtain⟨f0,f1,f2,f3,f4,f5⟩:=hf it (by simp);obtain⟨ho,hz,hS,vs,r,ob,es',ep',e1,c1,d1,m1⟩:=(show ObjOk X.prog X.w H s.heap d (.frz o (.dK kvs))from I.hok d _ hq);rw[ho]at e1;cases e1;rw[hd]at d1;cases d1;have hl:kvs.length=vs.length:=r.length;rw[hl]at st hi;exact wpAny_pyNext_dict_end (knd:=B9 X.prog X.w) (I.ok.hd hc) st ⟨o,es,ho,c1,hd,m1⟩ (DR hi) fun h' eb=>⟨rfl,I.turned (t':=s.toks) (fun b o hb e=>eb b o hb e) f0 f1 f3 f4 f5⟩
 self:=fun _ _ _ _ _ st h=>wpAny_pyIter_keyiter st h
end
section
variable{X:Cx}(K:PySem.W.Frag)
theorem slT(hK:X.K=K:=by rfl):SlR X (zFf K):=by subst hK;exact zAt
end
end L2
namespace TS
open PySem PyProof.Rows
section
variable{prog:Program}{w:World}{A:Around}{E:Value->Shared->Prop}{s:Shared}{Z:KeyKind}{kd:SortKind}
structure Keys2(prog:Program)(w:World)(a:Addr)(s:Shared)(Z:KeyKind)(kd:SortKind)(vs:List Value):Prop where
 cmp:∀(A:Around) (s':Shared),A.units+4<cLine->Ext a s s'->Cmp prog w A s' Z kd
 key:∀v∈vs,∃k,Z.keyOf v=some k
 kind:2<=vs.length->∀(A:Around) (E:Value->Shared->Prop) (s':Shared) (Q:SortKind->Shared->Prop),Ext a s s'->Q kd s'->wpAny (model prog w) A (keyKind' vs.toArray) Q E s'
theorem y8{a:Addr}{vs:List Value}{n:Nat}{P:Fin->Shared->Prop}(hu:A.units+4<cLine)(ho:s.heap.get? a=some (seqObj "list" vs.toArray n))(hz:vs.length<=sizeLine)(K:Keys2 prog w a s Z kd vs)
  (h:∀out:Array Value,Out Z vs out->P (.done (.ret .none)) { s with heap:=sortedHeap s.heap a vs out }) :
  wpAny (model prog w) A (Builtin.«list.sort» ⟨[.ref a],[]⟩) P E s:=by
 rw[list_sort_plain];have ha:a<s.heap.objs.size:=AG ho;have hsz:vs.toArray.size=vs.length:=by simp
 refine AA (listItems_at ho rfl ?_);refine AA (listUpdate_at ho rfl ?_ (by rw[hsz];exact hz) (by simp));obtain⟨e1,ho1⟩:∃e1,(s.heap.update a (Obj.mapSeq fun _=>#[])).get? a=some (seqObj "list" #[] e1):=⟨_,get?_update_seq ho (fun _=>#[])⟩;refine AA (seqEpoch_at ho1 rfl ?_);refine AA (HY ?_ (by simpa using hz));refine AA (HK ?_);refine BT ?_;have ho6:(((s.heap.update a (Obj.mapSeq fun _=>#[])).push (seqObj "tuple" vs.toArray 0)).push (seqObj "list" #[] 0)).get? a=some (seqObj "list" #[] e1):=by
  rw[HZ _ _ _ (by rw[size_push',EU];exact A_ (DV ha)),HZ _ _ _ (by rw[EU];exact A_ ha)];exact ho1
 show wpAny (model prog w) A _ P E { s with heap:=((s.heap.update a (Obj.mapSeq fun _=>#[])).push (seqObj "tuple" vs.toArray 0)).push (seqObj "list" #[] 0) };dsimp only;have hE:Ext a s { s with heap:=((s.heap.update a (Obj.mapSeq fun _=>#[])).push (seqObj "tuple" vs.toArray 0)).push (seqObj "list" #[] 0) }:=fun b o hb e =>
  AE _ (AE _ ((BP s.heap _ (Ne.symm hb)).trans e))
 by_cases h2:vs.toArray.size<2
 .rw[AO h2,AO h2];refine AA (AD ?_);rw[StateT.run_pure];refine AA (AD ?_);dsimp only;refine AA (seqEpoch_at ho6 rfl ?_);refine AA (listUpdate_at ho6 rfl ?_ (by simp) (by rw[GK];show(pairsOf vs).size<=_;rw[pairsOf_size];omega));simp only[bne_self_eq_false,BA,CQ];refine AD (h _ (Ih (Z:=Z) (xs:=pairsOf vs) (HA _) ?_));rw[pairsOf_toList];rw[hsz]at h2
  match vs,h2 with
  | [],_=>exact List.Pairwise.nil
  | [v],_=>exact EH _ _
  | _::_::_,h2=>simp at h2;omega
 .rw[AK h2,AK h2];refine AA (K.kind (by omega) A E _ _ hE ?_);refine AA (BR (T4 (K.cmp A _ hu hE) (a₀:=pairsOf vs) (st:=SortSt.mk' kd (vs.toArray.zip vs.toArray) #[] 7 none)
   (Q:=fun _ st'=>St Z kd (pairsOf vs) st'/\Sor Z (arrOf st').toList)
   (fun p hp=>?_) ⟨HA _,rfl,rfl⟩ rfl fun st' a1 a2=>⟨a1,a2⟩) ?_ fun _ _ e=>e)
  .rw[pairsOf_toList]at hp;exact K.key _ (mem_zip_self hp).2
  rintro⟨⟨⟩,st'⟩ s' ⟨rfl,hp,hs⟩;dsimp only;refine AA (seqEpoch_at ho6 rfl ?_);refine AA (listUpdate_at ho6 rfl ?_ (by simp) (by rw[GK];show(arrOf st').size<=_;rw[hp.size,pairsOf_size];omega));rw[show failedOf st'=none from hp.failed];simp only[bne_self_eq_false,BA,CQ];exact AD (h _ (Ih hp.perm hs))
theorem sorted_gen2{x:Value}{Q:Value->Shared->Prop}(hu:A.units+6<cLine)
  (hc:wpAny (model prog w) A.in1 (collect x) (fun vs s1=>s1.os=s.os/\vs.length<=sizeLine/\(∃(Z:KeyKind) (kd:SortKind),(∀s2:Shared,Ext s1.heap.objs.size s1 s2->Keys2 prog w s1.heap.objs.size s2 Z kd vs) /\
   ∀(out:Array Value) (h':Heap) (e:Nat),Out Z vs out->(∀b o,s1.heap.get? b=some o->h'.get? b=some o)->h'.get? s1.heap.objs.size=some (seqObj "list" out e)->Q (.ref s1.heap.objs.size) { s1 with heap:=h' })) E s) :
  wpAny (model prog w) A (call (.builtin "sorted") [x]) Q E s:=by
 refine Calls.call_function_entry kind_sorted plain_sorted entry_sorted (args_sorted1 _) ?_;unfold Builtin.«sorted»;refine AA (m:=checkCount "sorted" 1 1 _) (AD ?_);refine AA (BR hc (fun vs s1 ⟨eos,hz,Z,kd,K,q⟩=>?_) fun _ _ z=>z);refine AA (HK ?_);have hoL:(s1.heap.push (seqObj "list" vs.toArray 0)).get? s1.heap.objs.size=some (seqObj "list" vs.toArray 0):=AM _ rfl;show wpAny _ _ _ _ _ { s1 with heap:=s1.heap.push (seqObj "list" vs.toArray 0) };have hE:Ext s1.heap.objs.size s1 { s1 with heap:=s1.heap.push (seqObj "list" vs.toArray 0) }:=fun b o _ e=>AE _ e;refine AA (BT (CZ slot_list_sort ⟨_,hoL,rfl⟩ entry_list_sort (y8 (s:={ s1 with heap:=s1.heap.push (seqObj "list" vs.toArray 0) }) (by simp only[Around.in1_units];omega) hoL hz (K _ hE) fun out ho=>⟨_,rfl,?_⟩) (args_list_sort _)));obtain⟨e,he⟩:=sortedHeap_at (h:=s1.heap.push (seqObj "list" vs.toArray 0)) (out:=out) hoL;refine AD ⟨_,rfl,q out _ e ho (fun b o eb=>?_) he⟩;have hlt:=AG eb;rw[sortedHeap_old (A_ hlt) (by rw[size_push'];exact DV hlt)];exact AE _ eb
open PySem.SeqAt PySem.MeetsSeq PySem.MeetsSeq3
open AutoSeq1 (wpAny_loadPart')
theorem oneLt_lists{l b:Addr}{items items2:Array Value}{n n2:Nat}{r:Bool}{Q:Bool->Shared->Prop}(hu:A.units<cLine)(hl:s.heap.get? l=some (seqObj "list" items n))(hb:s.heap.get? b=some (seqObj "list" items2 n2))
  (hm:Meets (Builtin.«list.__lt__» ⟨[.ref l,.ref b],[]⟩) (fun A R s=>s.heap.get? l=some (seqObj "list" items n)/\s.heap.get? b=some (seqObj "list" items2 n2)/\R (.ok (.ret (.bool r))) s)) (h:Q r s) :
  wpAny (model prog w) A (oneLt' true (.ref l) (.ref b)) Q E s:=by
 rw[oneLt'_eq];simp only[FD];refine AA (wpAny_cRoomFor hu ?_);refine AA (wpAny_callSpecialIfBound?_slot (T := "list") ⟨_,hl,rfl⟩ F.slot_list_lt (call_meets F.slot_list_lt ⟨_,hl,rfl⟩ F.entry_list_lt (F.args_list_lt_2 _ _) hm ⟨hl,hb,?_⟩));exact DJ h
end
end TS
namespace L2
open PySem PySem.Spec PyProof.Rows
def LAt(h:Heap)(p:Addr)(us:List Value):Prop:=∃n,h.get? p=some (seqObj "list" us.toArray n)
theorem Jd:∀{a b:List Str},a.map V.str=b.map V.str->a=b
 | [],[],_=>rfl
 | [],_::_,h=>(by cases h)
 | _::_,[],h=>(by cases h)
 | x::r,y::t,h=>by
  rw[AW,AW]at h;injection h with h1 h2;injection h1 with h1;rw[h1,Jd h2]
def XO(x C:Addr)(d:Option Addr):HO:=.ext fun h=>∃o vs,h.get? x=some o/\o.cls = .ref C/\o.dict=d/\o.data = .fields vs
theorem XO.ok{P:Program}{w:World}{H:Hp}{h:Heap}{x C:Addr}{d:Option Addr}{o:Obj}{vs:Array Value}(e:h.get? x=some o)(hc:o.cls = .ref C)(hd:o.dict=d)(hv:o.data = .fields vs):ObjOk P w H h x (XO x C d) :=
 ⟨⟨o,vs,e,hc,hd,hv⟩,⟨o,e⟩,fun h1 h2 ⟨o,vs,e,r⟩ k=>⟨o,vs,k o e,r⟩⟩
def Fl(H:Hp)(n:Nat)(x:Addr)(h:Heap):Prop :=
 ∃o vs,h.get? x=some o/\o.data = .fields vs/\1<vs.size/\(vs[1]?=some .none\/∃T oT ts,vs[1]?=some (.ref T)/\T≠x/\n<=T/\H T=none/\h.get? T=some oT/\oT.data = .fields ts/\3<ts.size)
structure RX(P:Program)(w:World)(base:Heap)(fs:List Env)(env:Env)(outer:List Env)(H0:Hp)(s0:Shared)(x C:Addr)(d:Option Addr)(H:Hp)(s:Shared):Prop where
 os:s.os=s0.os
 bare:AllBare s.gens
 un:Un (frs fs) [] H0 H s0.heap s.heap
 hok:HOk P w H s.heap
 bsz:base.objs.size<=s0.heap.objs.size
 bs:∀b o,base.get? b=some o->s.heap.get? b=some o/\H b=none
 funs:s.heap.FunFrames base (env::outer)
 frf:∀b∈frs (env::outer),H b=none
 loc:∃L,env.frame=some L
 old:∀b o,s0.heap.get? b=some o->b∉frs fs->b∉frs (env::outer)
 sub:∀b∈frs fs,b∈frs (env::outer)
 hx:H x=some (XO x C d)
 nx:s0.heap.objs.size<=x
 fl:Fl H s0.heap.objs.size x s.heap
section
variable{P:Program}{w:World}{base:Heap}{env:Env}{fs outer:List Env}{H0 H:Hp}{s0 s:Shared}{x C:Addr}{d:Option Addr}{h':Heap}
theorem RX.chg(r:RX P w base fs env outer H0 s0 x C d H s){TT:List Addr}(tt:∀T∈TT,H T=none/\s0.heap.objs.size<=T/\∃o ts,s.heap.get? T=some o/\o.data = .fields ts)
  (keep:∀b o,b≠x->b∉TT->b∉frs (env::outer)->s.heap.get? b=some o->h'.get? b=some o)
  (slot:∀b o,b∈frs (env::outer)->s.heap.get? b=some o->∃sl,h'.get? b=some { o with slots:=sl })
  (ht:∀T∈TT,∃o,h'.get? T=some o) (hxo:∀o,s.heap.get? x=some o->∃vs,h'.get? x=some { o with data:=.fields vs }) (fl:Fl H s0.heap.objs.size x h') :
  RX P w base fs env outer H0 s0 x C d H { s with heap:=h' }:=by
 obtain⟨ox,vx,ex,hcx,hdx,hvx⟩:∃o vs,s.heap.get? x=some o/\o.cls = .ref C/\o.dict=d/\o.data = .fields vs:=(r.hok x _ r.hx).1;obtain⟨vx',ex'⟩:=hxo ox ex;have nfr:∀b,b∈frs (env::outer)->b≠x:=fun b hb z=>by
  have:=r.frf b hb;rw[z,r.hx]at this;cases this
 have nft:∀b,b∈frs (env::outer)->b∉TT:=fun b hb z=>by
  obtain⟨_,o,ho,hnf⟩:=r.funs.mem hb;obtain⟨_,_,o',ts,ho',hd'⟩:=tt b z;rw[ho]at ho';cases ho';exact hnf ts hd'
 have old:∀b o,s0.heap.get? b=some o->b≠x/\b∉TT:=fun b o e=>⟨fun z=>absurd (AG e) (by rw[z];exact Nat.not_lt.mpr r.nx),fun z=>absurd (AG e) (Nat.not_lt.mpr (tt b z).2.1)⟩;have there:∀b o,s.heap.get? b=some o->∃o',h'.get? b=some o':=fun b o e=>by
  by_cases c1:b=x
  .rw[c1];exact⟨_,ex'⟩
  by_cases c2:b∈TT
  .exact ht b c2
  by_cases c3:b∈frs (env::outer)
  .obtain⟨sl,q⟩:=slot b o c3 e;exact⟨_,q⟩
  .exact⟨_,keep b o c1 c2 c3 e⟩
 have trk:∀b u,H b=some u->b≠x->∀o,s.heap.get? b=some o->h'.get? b=some o:=fun b u e c o ho =>
  keep b o c (fun z=>by rw[(tt b z).1]at e;cases e) (fun z=>by rw[r.frf b z]at e;cases e) ho
 refine⟨r.os,r.bare,⟨fun b o e n hb hx=>?_,fun b o e n hb hx=>?_,r.un.free,fun b o e hx=>?_,r.un.tups,r.un.frzs,r.un.tbls⟩,fun b u e=>?_,r.bsz,fun b o e=>?_,?_,r.frf,r.loc,r.old,r.sub,r.hx,r.nx,fl⟩
 .exact keep b o (old b o e).1 (old b o e).2 (r.old b o e hb) (r.un.keep b o e n hb hx)
 .obtain⟨sl,q⟩:=r.un.slot b o e n hb hx;obtain⟨sl',q'⟩:=slot b _ (r.sub b hb) q;exact⟨sl',q'⟩
 .obtain⟨o',q⟩:=r.un.there b o e hx;exact there b o' q
 .by_cases c:b=x
  .subst c;rw[r.hx]at e;cases e;exact XO.ok ex' hcx hdx rfl
  .refine(r.hok b u e).stay (fun b' o hb q=>?_) (fun _ q=>q) fun _ _ q=>q;rcases hb with z | z
   .subst z;exact trk b' u e c o q
   .refine trk b' _ z (fun q'=>?_) o q;rw[q',r.hx]at z;cases z
 .refine⟨keep b o (fun z=>?_) (fun z=>?_) (fun z=>?_) (r.bs b o e).1,(r.bs b o e).2⟩
  .have:=(r.bs b o e).2;rw[z,r.hx]at this;cases this
  .exact absurd (AG e) (Nat.not_lt.mpr (Nat.le_trans r.bsz (tt b z).2.1))
  .have:=(r.funs.mem z).1;rw[e]at this;cases this
 .refine r.funs.of_keeps fun b o e hnf=>?_;by_cases c1:b=x
  .subst c1;rw[ex]at e;cases e;exact absurd hvx (hnf _)
  by_cases c2:b∈TT
  .obtain⟨_,_,o',ts,ho',hd'⟩:=tt b c2;rw[e]at ho';cases ho';exact absurd hd' (hnf _)
  by_cases c3:b∈frs (env::outer)
  .obtain⟨sl,q⟩:=slot b o c3 e;exact⟨_,q,rfl⟩
  .exact⟨o,keep b o c1 c2 c3 e,rfl⟩
def Tb(H:Hp)(n:Nat)(x:Addr)(h:Heap):Prop :=
 ∃o vs T oT ts,h.get? x=some o/\o.data = .fields vs/\vs[1]?=some (.ref T)/\T≠x/\n<=T/\H T=none/\h.get? T=some oT/\oT.data = .fields ts/\3<ts.size
theorem Tb.fl{H:Hp}{n:Nat}{x:Addr}{h:Heap}(t:Tb H n x h):Fl H n x h:=by
 obtain⟨o,vs,T,oT,ts,e,hd,h1,r⟩:=t;exact⟨o,vs,e,hd,(CL.mp h1).1,.inr ⟨T,oT,ts,h1,r⟩⟩
theorem zGd{o:Obj}{vs:Array Value}(f:Array Value->Array Value)(e:o.data = .fields vs):Obj.mapFields f o ={ o with data:=.fields (f vs) }:=by
 obtain⟨a,b,c,d⟩:=o;have e:c = .fields vs:=e;subst e;rfl
section
variable{M:Model}{A:Around}{E:Value->Shared->Prop}{Q:Unit->Shared->Prop}
theorem RX.entry(r:RX P w base fs env outer H0 s0 x C d H s)(hfr:A.frames=some (env::outer)){L:Addr}(hf:env.frame=some L){head:Value}{hadNext:Bool}
  (h:∀h',RX P w base fs env outer H0 s0 x C d H { s with heap:=h' }->Tb H s0.heap.objs.size x h'->Q () { s with heap:=h' }) :
  wpAny M A (do let a <-frameOf env;let pl <-entryPlaceOf L hadNext;let b <-EntryCells.newEntry head a .none (rawInt L) .none pl;setField (.ref x) 1 b) Q E s:=by
 obtain⟨o,vs,he,hd,hsz,_⟩:=id r.fl;have nfr:∀b,b∈frs (env::outer)->b≠x:=fun b hb z=>by
  have:=r.frf b hb;rw[z,r.hx]at this;cases this
 refine AA (wpAny_frameOf_fun hfr r.funs hf fun h₁ hs₁=>?_);refine AA (wpAny_entryPlaceOf fun pl hpl=>?_);unfold EntryCells.newEntry newFields;refine AA (CP ?_ (hpl.sizeOk5 _ _ _ _ _));have he₁:h₁.get? x=some o:=(hs₁.2.1 x fun hm=>nfr x hm rfl).trans he;have ht5:3 <([head,Value.ref L,.none,rawInt L,.none] ++(if pl.isEmpty then List.replicate 6 Value.none else pl)).toArray.size:=by
  simp only[AR,BC,BL,GR];omega
 generalize ([head,Value.ref L,.none,rawInt L,.none] ++(if pl.isEmpty then List.replicate 6 Value.none else pl)).toArray=ts at ht5;have he₂:=AE (h:=h₁) { cls:=.type "traceback",dict:=none,data:=.fields ts } he₁;have hTx:h₁.objs.size≠x:=Nat.ne_of_gt (AG he₁);have hT₃:=(BP (h₁.push { cls:=.type "traceback",dict:=none,data:=.fields ts }) (Obj.mapFields (·.setIfInBounds 1 (Value.ref h₁.objs.size))) (Ne.symm hTx)).trans (AM h₁ rfl);have he₃:=CB (Obj.mapFields (·.setIfInBounds 1 (Value.ref h₁.objs.size))) he₂ (Obj.isFreed_of_fields (Obj.data_mapFields hd _));rw[zGd _ hd]at he₃;have tb:Tb H s0.heap.objs.size x ((h₁.push { cls:=.type "traceback",dict:=none,data:=.fields ts }).update x (Obj.mapFields (·.setIfInBounds 1 (Value.ref h₁.objs.size)))) :=
  ⟨_,_,h₁.objs.size,_,ts,he₃,rfl,by simp[hsz],hTx,Nat.le_trans r.nx (EX (AG he₁)),r.hok.fresh (by rw[hs₁.1];exact Nat.le_refl _),hT₃,rfl,ht5⟩
 refine FC he₂ hd hsz (h _ (r.chg (TT:=[]) (fun _ z=>nomatch z) (fun b o' hb _ hb' q=>?_) (fun b o' hb q=>?_) (fun _ z=>nomatch z) (fun o' q=>?_) tb.fl) tb)
 .rw[BP _ _ (Ne.symm hb)];exact AE _ ((hs₁.2.1 b hb').trans q)
 .obtain⟨sl,q'⟩:=hs₁.2.2 b o' q;refine⟨sl,?_⟩;rw[BP _ _ (Ne.symm (nfr b hb))];exact AE _ q'
 .rw[he]at q;cases q;exact⟨_,he₃⟩
theorem RX.setT(r:RX P w base fs env outer H0 s0 x C d H s){o oT:Obj}{vs ts:Array Value}{T:Addr}{v:Value}(he:s.heap.get? x=some o)(hd:o.data = .fields vs)(h1:vs[1]?=some (.ref T))(hT:T≠x)(hn:s0.heap.objs.size<=T)(hH:H T=none)(e:s.heap.get? T=some oT)(hdT:oT.data = .fields ts)(h3:3<ts.size)
  (h:∀h',RX P w base fs env outer H0 s0 x C d H { s with heap:=h' }->Tb H s0.heap.objs.size x h'->Q () { s with heap:=h' }):wpAny M A (setField (.ref T) 3 v) Q E s:=by
 have he':=(BP s.heap (Obj.mapFields (·.setIfInBounds 3 v)) hT).trans he;have hT':=CB (Obj.mapFields (·.setIfInBounds 3 v)) e (Obj.isFreed_of_fields (Obj.data_mapFields hdT _));have tb:Tb H s0.heap.objs.size x (s.heap.update T (Obj.mapFields (·.setIfInBounds 3 v))):=⟨o,vs,T,_,_,he',hd,h1,hT,hn,hH,hT',Obj.data_mapFields hdT _,by simpa using h3⟩;refine FC e hdT h3 (h _ (r.chg (TT:=[T]) (fun b z=>?_) (fun b o' hb hb' _ q=>?_) (fun b o' hb q=>?_) (fun b z=>?_) (fun o' q=>?_) tb.fl) tb)
 .rw[AF.mp z];exact⟨hH,hn,_,_,e,hdT⟩
 .rw[BP _ _ (fun z=>hb' (by rw[z];exact AF.mpr rfl))];exact q
 .refine⟨o'.slots,?_⟩;rw[BP _ _ (fun z=>by
   obtain⟨_,o2,ho,hnf⟩:=r.funs.mem hb;rw[<-z,e]at ho;cases ho;exact hnf _ hdT)]
  exact q
 .rw[AF.mp z];exact⟨_,hT'⟩
 .rw[he]at q;cases q;exact⟨vs,by rw[he',<-hd]⟩
theorem RX.note(r:RX P w base fs env outer H0 s0 x C d H s)(hfr:A.frames=some (env::outer))
  (h:∀h',RX P w base fs env outer H0 s0 x C d H { s with heap:=h' }->Tb H s0.heap.objs.size x h'->Q () { s with heap:=h' }):wpAny M A (noteFrame (.ref x) env) Q E s:=by
 obtain⟨L,hf⟩:=r.loc;obtain⟨o,vs,he,hd,hsz,c⟩:=id r.fl;unfold noteFrame;simp only[hf];rcases c with h1 | ⟨T,oT,ts,h1,hT,hn,hH,e,hdT,h3⟩
 .refine AA (DG he hd h1 ?_);rw[AK (by decide)];exact r.entry hfr hf h
 .refine AA (DG he hd h1 ?_);rw[AO (show(Value.ref T != Value.none)=true from by simp)];refine AA (DG e hdT (ES h3) ?_);split
  .exact AD (h s.heap r ⟨o,vs,T,oT,ts,he,hd,h1,hT,hn,hH,e,hdT,h3⟩)
  .refine AA (r.setT he hd h1 hT hn hH e hdT h3 fun h' r' _=>?_);exact r'.entry hfr hf h
theorem RX.flight(r:RX P w base fs env outer H0 s0 x C d H s){fr:Option Addr}
  (h:∀h',RX P w base fs env outer H0 s0 x C d H { s with heap:=h' }->(Tb H s0.heap.objs.size x s.heap->Tb H s0.heap.objs.size x h')->Q () { s with heap:=h' }):wpAny M A (setFlight (.ref x) fr) Q E s:=by
 obtain⟨o,vs,he,hd,hsz,c⟩:=id r.fl;unfold setFlight;rcases c with h1 | ⟨T,oT,ts,h1,hT,hn,hH,e,hdT,h3⟩
 .refine AA (DG he hd h1 ?_);rw[AK (by decide)];exact AD (h s.heap r id)
 .refine AA (DG he hd h1 ?_);rw[AO (show(Value.ref T != Value.none)=true from by simp)];exact r.setT he hd h1 hT hn hH e hdT h3 fun h' r' t'=>h h' r' fun _=>t'
theorem RX.leave(r:RX P w base fs env outer H0 s0 x C d H s)(hfr:A.frames=some (env::outer))
  (h:∀h',RX P w base fs env outer H0 s0 x C d H { s with heap:=h' }->Tb H s0.heap.objs.size x h'->Q () { s with heap:=h' }):wpAny M A (leaving env (.ref x)) Q E s:=by
 unfold leaving;exact AA (r.note hfr fun h' r' t'=>r'.flight fun h2 r2 t2=>h h2 r2 (t2 t'))
end
end
def CXe(P:Program)(w:World):CXT:=fun outer H s E e s' =>
 ∃x C d H',e = .ref x/\s'.os=s.os/\AllBare s'.gens/\Un (frs outer) [] H H' s.heap s'.heap/\HOk P w H' s'.heap/\H' x=some (XO x C d)/\s.heap.objs.size<=x/\Tb H' s.heap.objs.size x s'.heap/\E (.ref C) d H'
def XE(X:Cx)(E:XK):Value->Shared->Prop:=fun e s'=>∃x C d H',e = .ref x/\RX X.prog X.w X.base X.outer X.env X.outer X.H₀ X.s₀ x C d H' s'/\E (.ref C) d H'
section
variable{prog:Program}{w:World}{A:Around}{E:Value->Shared->Prop}{h:Heap}{g:Array GenState}{d:Drawn}{t:Nat}{os:OsState}
variable{nm q:Str}{C N:Addr}{bs bm bmB:List Value}{hdct:Bool}{sn:List Str}{sub:List Value}{ab:Bool}{col:Option Bool}{dd:Option Addr}{k0 k1 k2 k3 k5:Option Value}{B newId initId:String}
abbrev exObj(C t:Addr):Obj:={ cls:=.ref C,data:=.fields #[.ref t,.none,.none,.none,.bool false,.none] }
abbrev exHeap(h:Heap)(C:Addr)(rest:List Value):Heap:=(h.push { cls:=.type "tuple",data:=.seq rest.toArray }).push (exObj C h.objs.size)
end
def XN(x C:Addr)(d:Option Addr):HO:=.ext fun h=>∃vs sl,h.get? x=some ⟨.ref C,d,.fields vs,sl⟩/\vs[1]?=some .none
theorem XN.ok{P:Program}{w:World}{H:Hp}{h:Heap}{x C:Addr}{d:Option Addr}{vs:Array Value}{sl:Array (Option Value)}(e:h.get? x=some ⟨.ref C,d,.fields vs,sl⟩)(h1:vs[1]?=some .none):ObjOk P w H h x (XN x C d) :=
 ⟨⟨vs,sl,e,h1⟩,⟨_,e⟩,fun h1 h2 ⟨vs,sl,e,r⟩ k=>⟨vs,sl,k _ e,r⟩⟩
section
variable{M:Model}{A:Around}{E:Value->Shared->Prop}{env:Env}
variable{nm q:Str}{C N:Addr}{bs bm:List Value}{hdct:Bool}{sn:List Str}{sub:List Value}{ab:Bool}{col:Option Bool}{dd:Option Addr}{k0 k1 k2 k3 k5:Option Value}{newId:String}
theorem Ml{s:Shared}{x:Sem Value}{Q:Flow->Shared->Prop}(hbase:bm.contains (.type "BaseException")=true)(hh:A.handled=none)
  (h:wpAny M A x (fun v s₁=>∃e dct vs sl,v = .ref e/\s₁.heap.get? C=some (excClassObj nm q C N bs bm hdct sn sub ab col dd k0 k1 k2 k3 k5 newId) /\
   s₁.heap.get? e=some ⟨.ref C,dct,.fields vs,sl⟩/\vs[1]?=some .none/\E (.ref e) s₁) E s) :
  wpAny M A (raiseStmt env (some x) none) Q E s:=by
 have hcB:(Value.ref C::bm).contains (.type "BaseException")=true:=by rw[List.contains_cons,hbase,IG]
 unfold raiseStmt;refine AA (BR h (fun v s₁ h₁=>?_) fun _ _ x=>x);obtain⟨e,dct,vs,sl,rfl,hC,he,h1,hE⟩:=h₁;obtain⟨hp,g,d,tk,os⟩:=s₁
 repeat (first | with_reducible refine EM he ?_ | with_reducible refine EM hC ?_ | (with_reducible refine HI hC ?_;rw[hcB]) | with_reducible refine DG he rfl h1 ?_ | wp_step)
 exact wpAny_raiseNew_none hh hE
end
structure XC(K:PySem.W.Frag)(C:Addr)(bm:List Value):Prop where
 obj:∃nm q N bs hdct sn sub ab col dd k0 k1 k2 k3 k5,K.lookup C=some (excClassObj nm q C N bs bm hdct sn sub ab col dd k0 k1 k2 k3 k5 "ValueError.__new__")
 tail:PySem.W.tailIn K [.type "ValueError",.type "Exception",.type "BaseException",.type "object"] bm=true
 kp:PySem.W.keepIn K (.ref C)=true
 sa:PySem.W.findIn K (.ref C) "__setattr__" = some (some (.builtin "object.__setattr__"))
 hd:PySem.W.hasDictIn K C=true
theorem XC.base{K:PySem.W.Frag}{C:Addr}{bm:List Value}(c:XC K C bm){h:Heap}(X:K.In h):bm.contains (.type "BaseException")=true:=(PySem.W.tail_of_in X c.tail).hasType rfl
structure BX(X:Cx)(E:XK):Prop where
 xe:X.xe=XE X E
 st:X.stack=X.env::X.outer
 fr:X.env.frame=some X.env.locals
 ex:X.ex = []
 calm:X.calm=true
section
variable{X:Cx}{pins:List (Addr×Obj)}{σ:St}{H:Hp}{s:Shared}{x C:Addr}{E:XK}
theorem Inv.rx{d:Option Addr}(I:Inv X pins σ H s)(b:BX X E)(hx:H x=some (XO x C d))(nx:X.s₀.heap.objs.size<=x)(fl:Fl H X.s₀.heap.objs.size x s.heap):RX X.prog X.w X.base X.outer X.env X.outer X.H₀ X.s₀ x C d H s:=by
 refine⟨I.os,I.bare,by have:=I.base;rw[b.ex]at this;exact this,I.hok,I.ok.bsz,I.bs,by have:=I.stack;rw[b.st]at this;exact this,by have:=I.stkFree;rw[b.st]at this;exact this,⟨_,b.fr⟩,fun c o e hc z=>?_,fun c hc=>?_,hx,nx,fl⟩
 .unfold frs at z hc;rw[ED,b.fr]at z;rcases AV.mp z with q | q
  .exact absurd (AG e) (by rw[q];exact Nat.not_lt.mpr I.ok.above)
  .exact hc q
 .unfold frs at hc⊢;rw[ED,b.fr];exact AX _ hc
theorem Tb.mono{n m:Nat}{h:Heap}(t:Tb H n x h)(k:m<=n):Tb H m x h:=by
 obtain⟨o,vs,T,oT,ts,e,hd,h1,h2,h3,r⟩:=t;exact⟨o,vs,T,oT,ts,e,hd,h1,h2,Nat.le_trans k h3,r⟩
theorem BX.passes(b:BX X E):S2 (CXe X.prog X.w) X E:=by
 rintro pins σ H s e s' I ⟨x,C,d,H',rfl,os,bare,un,hok,hx,nx,tb,q⟩;have I':=I.call' os un hok bare (fun b z=>absurd z (by simp));rw[b.xe];exact⟨x,C,d,H',rfl,I'.rx b hx (Nat.le_trans I.sz nx) (tb.mono I.sz).fl,q⟩
end
section
variable{X:Cx}{C f:Addr}{fd:FuncData}{ps:List Str}{sp:Sp}{E:XK}{bm:List Value}{k:Nat}{n:Str}{p pos cpos:Pos}{e:Expr}{es:List Expr}{t:TA}
theorem BX.made{pins:List (Addr×Obj)}{σ:St}{H:Hp}{s:Shared}{x:Addr}{d:Option Addr}(b:BX X E)(I:Inv X pins σ H s)(hx:H x=some (XN x C d))(nx:X.s₀.heap.objs.size<=x)(q:E (.ref C) d (upd H x (XO x C d))) :
  ∃vs sl,s.heap.get? x=some ⟨.ref C,d,.fields vs,sl⟩/\vs[1]?=some .none/\X.xe (.ref x) s:=by
 obtain⟨vs,sl,ex,h1⟩:∃vs sl,s.heap.get? x=some ⟨.ref C,d,.fields vs,sl⟩/\vs[1]?=some .none:=(I.hok x _ hx).1;refine⟨vs,sl,ex,h1,?_⟩;have I4:Inv X pins σ (upd H x (XO x C d)) s:=I.write (x:=x) (e:=x) (h':=s.heap) (t':=s.toks) (by rw[hx];exact True.intro) (.inl rfl) (fun _ _ _ z=>z) ⟨_,ex⟩ (XO.ok ex rfl rfl rfl);rw[b.xe];exact⟨x,C,d,_,rfl,I4.rx b A7 nx ⟨_,vs,ex,rfl,(CL.mp h1).1,.inl h1⟩,q⟩
end
section
variable{P:Program}{w:World}{K:PySem.W.Frag}{mg:Str->Option Value}{base:Heap}
abbrev cxE(P:Program)(w:World)(K:PySem.W.Frag)(mg:Str->Option Value)(base:Heap)(N:List Str)(qual:Str)(scope:Scope)(f:Addr)(cd:Value)(A:Around)(outer:List Env)(s:Shared)(H:Hp)(E:XK):Cx :=
 (Vl (CXe P w) P w K mg base N qual scope f cd A outer s H E).wish (XE (Vl (CXe P w) P w K mg base N qual scope f cd A outer s H E) E)
theorem cxE.bx{N:List Str}{qual:Str}{scope:Scope}{f:Addr}{cd:Value}{A:Around}{outer:List Env}{s:Shared}{H:Hp}{E:XK}:BX (cxE P w K mg base N qual scope f cd A outer s H E) E:=⟨rfl,rfl,rfl,rfl,rfl⟩
theorem PSs.wishI{X:Cx}{E:Value->Shared->Prop}{st:List Stmt}{t:TS}(k:X.A.frames=some X.stack->∀e s,E e s->X.xe e s)(h:PSs (X.wish E) st t):PSs X st t:=fun pins s σ H D I hw =>
 BR (h pins s σ H D (I.wish _) hw) (fun _ _ q=>q.unwish) (k I.ok.frames)
theorem Fun.okE{x qual:Str}{st:Stmt}{f:Addr}{fd:FuncData}{N ps:List Str}{k:Nat}{sp:Sp}(F:Fun K x qual st f fd)(S:FnScope N ps (B4 st))(len:∀vs H Q E,sp vs H Q E->vs.length=ps.length)
  (hbody:∀(cdv:Value) (A:Around) (outer:List Env) (s:Shared) (H:Hp) (vs:List V) (Q:VK) (E:XK),Room k (A.deeper (envOfC qual (B4 st) s.heap.objs.size f cdv))->sp vs H Q E ->
   ∃t,PSs (cxE P w K mg base N qual (B4 st) f cdv A outer s H E) (I0 st) t/\t { nx:=fun _ H'=>Q .non H',rt:=Q } (Cd N vs) H):FnOk P w K mg base (CXe P w) (k+1) f fd ps sp:=by
 obtain⟨oc,od,kV,doc,pm,an,cdv,ct,osl,rfl,lk,hcd⟩:=F.ex;refine zAk lk hcd S len fun A outer s H vs Q E hr hsp=>?_;obtain⟨t,h,q⟩:=hbody cdv A outer s H vs Q E hr hsp;refine⟨t,h.wishI fun hf e s' z=>?_,q⟩;obtain⟨x,C,d,H',rfl,r,q⟩:=z;exact RX.leave r hf fun h' r' t'=>⟨x,C,d,H',rfl,r'.os,r'.bare,r'.un,r'.hok,r'.hx,r'.nx,t',q⟩
end
def PEx(X:Cx)(e:Expr)(t:XK->TE):Prop:=∀(pins:List (Addr×Obj)) (s:Shared) (σ:St) (H:Hp) (Q:VK) (E:XK),Inv X pins σ H s->t E σ H Q ->
 wpAny (model X.prog X.w) X.A (eval e X.env) (EP X pins σ Q) (fun ev s'=>∃s1 H1,Inv X pins σ H1 s1/\CXe X.prog X.w X.stack H1 s1 E ev s') s
section
variable{X:Cx}{k:Nat}{f C:Addr}{fd:FuncData}{ps:List Str}{sp:Sp}{x m:Str}{p pos apos:Pos}{e o:Expr}{es:List Expr}{ta:TE}{t:TA}
theorem Rr(nox:∀e s,¬X.xe e s)(F:FnOk X.prog X.w X.K X.mg X.base (CXe X.prog X.w) k f fd ps sp)(hr:Room k X.A)(hg:Gl X x)(hm:X.mg x=some (.ref f))(hk:PySem.W.keepIn X.K (.ref f)=true)(hb:Binds X.K fd ps [])
  (ha:PA X (e::es) t) (hdb:(x ==("__debug__":Str))=false:=by decide) (he:starEach (e::es) X.env =(false,eval e X.env)::starEach es X.env:=by rfl) (hpl:(backTo pos (starEach es X.env)).any (·.1)=false:=by rfl) :
  PEx X (.Call (.Name x p) (e::es) [] pos) (fun E=>Lg sp [] E t):=by
 intro pins s σ H Q E I h;refine DE (S5 I hg hm ?_ hdb);refine PySem.W.callWith_K (h₀:=X.base) I.ok.mod.kin hk (BR (ha pos pins s σ H _ I h) (fun us s1 ⟨vs,H1,I1,r,q⟩=>⟨I1.kIn,?_⟩) fun _ _ z=>(nox _ _ z).elim) he hpl;have q:sp vs H1 Q E:=by
  have:sp (vs ++ []) H1 Q E:=q
  rwa [DA]at this
 have hl:us.length=ps.length:=by rw[<-r.length];exact F.len _ _ _ _ q
 have bd:=hb s1 us I1.kIn (by rw[DA];exact hl);rw[DA]at bd;refine IJ (H_ (F.run X.A X.stack s1 H1 ⟨us,[]⟩ us vs Q E hr I1.env0 bd r q) fun r s' hq=>?_);cases r with
 | error e=>exact⟨_,_,I1,hq⟩
 | ok fl =>
  cases fl with
  | ret u=>exact I1.after hq
  | next=>exact False.elim hq
  | brk=>exact False.elim hq
  | cont=>exact False.elim hq
end
section
variable{X:Cx}{pins:List (Addr×Obj)}{σ:St}{H:Hp}{s:Shared}
theorem T8{M:Model}{A:Around}{E:Value->Shared->Prop}{i:Nat}{x:Str}{pos:Pos}{Q:Unit->Shared->Prop}(I:Inv X pins σ H s)(hN:X.N.Nodup)(hi:X.N[i]?=some x)(hx:X.env.scope.names.lookup x=some .local)
  (h:∀s',Inv X pins (σ.set i none) H s'->Q () s'):wpAny M A (do bindName X.env x .none;unbindBehindTheSuite X.env x pos) Q E s:=by
 obtain⟨m,hn,hl⟩:=id I.loc;have hcls:(X.env.scope.kind == .class||(X.env.scope.kind == .module&&X.env.locals != X.env.globals))=false:=by rw[I.ok.kind];rfl
 have cne:=I.cne;refine wpAny_nameGoes_keeps hx hn hcls fun h' v hn' hs=>?_;obtain⟨oL,_,_,hoL,_⟩:=id hn;have nL:∀b o,X.s₀.heap.get? b=some o->b≠X.env.locals:=fun b o e=>A_ (BH (AG e) I.ok.above);have tracked:HOk X.prog X.w H h':=fun b ob e=>by
  refine(I.hok b ob e).stay (fun c w' hc q=>(hs.2 c ?_).trans q) (fun _ q=>q) fun _ _ q=>q;rintro rfl;rcases hc with rfl | hc
  .rw[I.free]at e;cases e
  .rw[I.free]at hc;cases hc
 refine h _ ⟨I.ok,I.os,I.bare,⟨fun b o e n hb hx=>?_,fun b o e n hb hx=>?_,I.base.free,fun b o e hx=>?_,I.base.tups,I.base.frzs,I.base.tbls⟩,⟨_,hn',fun j y v' e1 e2 e3=>?_⟩,fun y c e=>?_,I.free,I.freeC,fun p hp=>?_,tracked,by simpa using I.len⟩
 .exact(hs.2 b (nL b o e)).trans (I.base.keep b o e n hb hx)
 .obtain⟨sl,e1⟩:=I.base.slot b o e n hb hx;exact⟨sl,(hs.2 b (nL b o e)).trans e1⟩
 .obtain⟨o',e1⟩:=I.base.there b o e hx;exact⟨o',(hs.2 b (nL b o e)).trans e1⟩
 .have hj:j≠i:=fun z=>by
   rw[z,List.getElem?_set]at e2;split at e2
   .split at e2<;>cases e2
   .rename_i q;exact q rfl
  rw[List.getElem?_set_ne (Ne.symm hj)]at e2;obtain⟨u',r',q⟩:=hl j y v' e1 e2 e3;refine⟨u',r',?_⟩;rcases q with⟨k,e⟩ | ⟨k,c,e,z⟩
  .refine .inl ⟨k,?_⟩;have:y≠x:=fun e=>hj (Bv hN e1 (e▸hi));simp[this,e]
  .exact .inr ⟨k,c,e,z.sameBut hs (cne y c e)⟩
 .obtain⟨w',z⟩:=I.cell y c e;exact⟨w',z.sameBut hs (cne y c e)⟩
 .obtain⟨e,n,ne,nf,d⟩:=I.pin p hp;exact⟨(hs.2 p.1 ne).trans e,n,ne,nf,d⟩
end
section
variable{M:Model}{A:Around}{E:Value->Shared->Prop}{h:Heap}{g:Array GenState}{dn:Drawn}{tk:Nat}{os:OsState}
variable{nm q nm' q':Str}{C N S N':Addr}{bs bm bs' bm':List Value}{hdct hdct':Bool}{sn sn':List Str}{sub sub':List Value}{ab ab':Bool}{col col':Option Bool}{dd dd':Option Addr}{k0 k1 k2 k3 k5 j0 j1 j2 j3 j5:Option Value}{newId newId':String}
theorem zFk{e:Addr}{oe:Obj}{Q:Bool->Shared->Prop}(hC:h.get? C=some (excClassObj nm q C N bs bm hdct sn sub ab col dd k0 k1 k2 k3 k5 newId))(hS:h.get? S=some (excClassObj nm' q' S N' bs' bm' hdct' sn' sub' ab' col' dd' j0 j1 j2 j3 j5 newId'))(he:h.get? e=some oe)(hcls:oe.cls = .ref C)
  (hb:bm'.contains (.type "BaseException")=true) (hc:(Value.ref C::bm).contains (.ref S)=true) (hq:Q true ⟨h,g,dn,tk,os⟩):wpAny M A (excMatches (.ref e) (.ref S)) Q E ⟨h,g,dn,tk,os⟩:=by
 have hcB:(Value.ref S::bm').contains (.type "BaseException")=true:=by rw[List.contains_cons,hb,IG]
 have f:=tc_notTuple;unfold excMatches
 repeat (first | (with_reducible refine EM he ?_;rw[hcls]) | with_reducible refine EM hS ?_ | with_reducible refine EM hC ?_ | (with_reducible refine HI hS ?_;rw[hcB]) | (with_reducible refine HI hC ?_;rw[hc]) | wp_step)
 exact hq
end
abbrev Xm(X:Cx)(ev:Value):Cx:={ X with A:=X.A.mark (some ev),calm:=false }
section
variable{X:Cx}{pins:List (Addr×Obj)}{σ:St}{H:Hp}{s:Shared}{ev:Value}
theorem Inv.mark(I:Inv X pins σ H s)(ev:Value):Inv (Xm X ev) pins σ H s :=
 ⟨⟨I.ok.mod,I.ok.kind,I.ok.glob,I.ok.blt,I.ok.above,I.ok.inj,I.ok.has,I.ok.cab,fun z=>absurd z (by simp),I.ok.frames,I.ok.stk,I.ok.exf,I.ok.bs,I.ok.bsz,I.ok.noex,I.ok.exfs,I.ok.funs,I.ok.frf⟩,I.os,I.bare,I.base,I.loc,I.cell,I.free,I.freeC,I.pin,I.hok,I.len⟩
theorem Inv.unmark(ok:X.Ok)(I:Inv (Xm X ev) pins σ H s):Inv X pins σ H s:=⟨ok,I.os,I.bare,I.base,I.loc,I.cell,I.free,I.freeC,I.pin,I.hok,I.len⟩
end
def Dh(i:Nat)(D:Ends):Ends:={ nx:=fun σ H=>D.nx (σ.set i none) H,rt:=D.rt,bk:=fun σ H=>D.bk (σ.set i none) H,ct:=fun σ H=>D.ct (σ.set i none) H }
structure XG(K:PySem.W.Frag)(C:Addr):Prop where
 ga:PySem.W.findIn K (.ref C) "__getattribute__" = some (some (.builtin "BaseException.__getattribute__"))
 gn:PySem.W.findIn K (.ref C) "__getattr__" = some none
 mb:PySem.W.mroIn K C (.type "BaseException")=some true
 hd:PySem.W.hasDictIn K C=true
section
variable{prog:Program}{w:World}{A:Around}{E:Value->Shared->Prop}{s:Shared}{K:PySem.W.Frag}{x C:Addr}{ox:Obj}{od:Option Obj}{name:Str}
theorem Oa{M:Model}{nameV:Value}{Q:Unit->Shared->Prop}(X:K.In s.heap)(I:PySem.W.InstAt s.heap x ox C od)(c:XG K C)(hq:Q () s):wpAny M A (checkBuiltinCall "BaseException.__getattribute__" ⟨[.ref x,nameV],[]⟩) Q E s:=by
 have hk:builtinKind "BaseException.__getattribute__" = some .slot:=by decide +kernel
 have hsplit:splitId "BaseException.__getattribute__" = some ("BaseException", "__getattribute__"):=by decide +kernel
 have ha:=PySem.F.args_bexc_ga (.ref x) nameV;have L0:=I.type (M:=M);have L1:=PySem.W.looks_mroIn (M:=M) X c.mb;obtain⟨h,g,d,t,os⟩:=s;simp only[checkBuiltinCall,hk,hsplit];refine AA ?_;unfold isInstance;refine AA (L0.at (L1.at ?_))
 repeat (any_goals (first | assumption | wp_step))
theorem Pr{tk:Tok}{R:Result->Shared->Prop}(X:K.In s.heap)(I:PySem.W.InstAt s.heap x ox C od)(c:XG K C)
  (h:wpAny (model prog w) A.in1 (Builtin.«object.__getattribute__» ⟨[.ref x,.str name tk],[]⟩) (fun fin s'=>match fin with | .done f=>R (.ok f) s' | .again c'=>c'.quiet=true/\codeAny (model prog w) A c' R s') (fun e s'=>R (.error e) s') s) :
  codeAny (model prog w) A (.call (.builtin "BaseException.__getattribute__") ⟨[.ref x,.str name tk],[]⟩) R s :=
 codeAny_call_builtin PySem.F.attrBase_ValueError.ga.plain PySem.F.entry_bexc_ga (Oa X I c h)
theorem Yb{tk:Tok}{fill expr:Bool}{Q:Value->Shared->Prop}(X:K.In s.heap)(I:PySem.W.InstAt s.heap x ox C od)(c:XG K C)
  (h:codeAny (model prog w) A (.call (.builtin "BaseException.__getattribute__") ⟨[.ref x,.str name tk],[]⟩) (fun r s'=>match r with | .ok (.ret v)=>wpAny (model prog w) A (handedOut v) Q E s' | _=>False) s) :
  wpAny (model prog w) A (getAttrBy (.ref x) (.str name tk) fill expr) Q E s:=by
 have L0:=I.type (M:=model prog w);have L1:=PySem.W.looks_findIn (M:=model prog w) X c.ga;have L2:=PySem.W.looks_findIn (M:=model prog w) X c.gn;have f3:=PySem.F.attrBase_ValueError.ga.bind (.ref x);have hx0:(expr&&onTheHeap (Value.builtin "BaseException.__getattribute__"))=false:=by cases expr<;>rfl
 obtain⟨hh,g,d,t,os⟩:=s;unfold getAttrBy;refine BT (AA (L0.at (AA (L1.at ?_))));show wpAny _ _ (getAttrByItsOwn _ _ _ _ _ _) _ _ _;unfold getAttrByItsOwn;refine AA ?_;unfold hookBefore;rw[AO (show onTheHeap (Value.ref C)=true from rfl)];refine L2.at ?_;unfold callGetattribute;rw[hx0,AK (by decide)];unfold boundAndCalled;refine AA (GX (BT ?_));rw[f3];refine AA (AD ?_);refine IJ (H_ h fun r s' z=>?_);cases r with
 | error e=>exact False.elim z
 | ok f =>
  cases f with
  | ret v=>exact z
  | next=>exact False.elim z
  | brk=>exact False.elim z
  | cont=>exact False.elim z
end
theorem Jx:∀{cs:List Addr} {us:List Value},Vals (cs.map V.ref) us->us=cs.map Value.ref
 | [],_,.nil=>rfl
 | _::_,_,.cons r t=>by rw[AW,Jx t];cases r;rfl
theorem xc_mk{K:PySem.W.Frag}{nm q:Str}{C N:Addr}{bs bm:List Value}{hdct:Bool}{sn:List Str}{sub:List Value}{ab:Bool}{col:Option Bool}{dd:Option Addr}{k0 k1 k2 k3 k5:Option Value}
  (l:K.lookup C=some (excClassObj nm q C N bs bm hdct sn sub ab col dd k0 k1 k2 k3 k5 "ValueError.__new__")) (t:PySem.W.tailIn K [.type "ValueError",.type "Exception",.type "BaseException",.type "object"] bm=true) (k:PySem.W.keepIn K (.ref C)=true)
  (s:PySem.W.findIn K (.ref C) "__setattr__" = some (some (.builtin "object.__setattr__"))) (d:PySem.W.hasDictIn K C=true):XC K C bm:=⟨⟨_,_,_,_,_,_,_,_,_,_,_,_,_,_,_,l⟩,t,k,s,d⟩
section
variable{X:Cx}{E:XK}
theorem J2{x:Str}{st:Stmt}{ps:List Str}{k:Nat}{sp:Sp}{e:Expr}{es:List Expr}{t:TA}{p pos:Pos}(b:BX X E)(D:Fn X.K X.mg x st ps)(G:FnOk X.prog X.w X.K X.mg X.base (CXe X.prog X.w) k D.f D.fd ps sp)(hr:Room k X.A)(ha:PA X (e::es) t)
  (hg:Gl X x:=by rfl) (hdb:(x ==("__debug__":Str))=false:=by decide) (hs:starEach (e::es) X.env =(false,eval e X.env)::starEach es X.env:=by rfl) (hpl:(backTo pos (starEach es X.env)).any (·.1)=false:=by rfl) :
  PE X (.Call (.Name x p) (e::es) [] pos) (Lg sp [] E t):=Oy G hr hg D.m D.F.kp D.b .nil b.passes ha hdb hs hpl
theorem Br:bootBuiltins "ValueError" = some (.type "ValueError"):=by decide +kernel
end
section
variable{prog:Program}{w:World}{A:Around}{E:Value->Shared->Prop}{h:Heap}{g:Array GenState}{d:Drawn}{t:Nat}{os:OsState}
variable{nm q:Str}{C N:Addr}{bs bm bmB:List Value}{hdct:Bool}{sn:List Str}{sub:List Value}{ab:Bool}{col:Option Bool}{dd:Option Addr}{k0 k1 k2 k3 k5:Option Value}{B newId initId:String}
theorem Pi{K:PySem.W.Frag}{rest:List Value}{Q:Fin->Shared->Prop}(F:ExcBaseFacts B newId initId bmB)(T:OwnTail h bmB bm)(X:K.In h)
  (hC:h.get? C=some (excClassObj nm q C N bs bm hdct sn sub ab col dd k0 k1 k2 k3 k5 newId)) (hi:PySem.W.findIn K (.ref C) "__init__" = some (some (.builtin initId)))
  (hrest:rest.length<=sizeLine) (hq:∀h',(∀b o,h.get? b=some o->h'.get? b=some o)->(∃tt,h'.get? (h.objs.size+1)=some { cls:=.ref C,data:=.fields #[.ref tt,.none,.none,.none,.bool false,.none] })->Q (.done (.ret (.ref (h.objs.size+1)))) ⟨h',g,d,t,os⟩) :
  wpAny (model prog w) A (Builtin.«type.__call__» ⟨.ref C::rest,[]⟩) Q E ⟨h,g,d,t,os⟩:=by
 have kp:∀b o,h.get? b=some o->(exHeap h C rest).get? b=some o:=fun b o e=>AE _ (AE _ e);have hC₁:(exHeap h C rest).get? C=some (excClassObj nm q C N bs bm hdct sn sub ab col dd k0 k1 k2 k3 k5 newId):=kp _ _ hC;have hget:(exHeap h C rest).get? (h.objs.size+1)=some (exObj C h.objs.size):=by unfold exHeap;heap_get
 have hcC:(Value.ref C::bm).contains (.ref C)=true:=by simp
 have X₁:K.In (exHeap h C rest):=X.keeps kp;have T₁:=T.keeps kp
 repeat (first | with_reducible refine EM hC ?_ | with_reducible refine wpAny_madeBy_exc hC ?_ | wp_step)
 refine codeAny_call_builtin_code (Code.quiet_builtin _ F.quiet) (wpAny_check_new_subT F T hC (codeAny_exc_new_subT F T hC ?_ hrest));show wpAny _ _ _ _ _ ⟨exHeap h C rest,g,d,t,os⟩;have hM:∀h2,(∀b o,(exHeap h C rest).get? b=some o->b≠h.objs.size+1->h2.get? b=some o)->(∃tt,h2.get? (h.objs.size+1)=some { cls:=.ref C,data:=.fields #[.ref tt,.none,.none,.none,.bool false,.none] }) ->
   Q (.done (.ret (.ref (h.objs.size+1)))) ⟨h2,g,d,t,os⟩:=fun h2 k th=>hq h2 (fun b o e=>k b o (kp b o e) (fun z=>by rw[z]at e;exact absurd (AG e) (Nat.not_lt.mpr (CV _)))) th
 have hsz:(exHeap h C rest).objs.size=h.objs.size+2:=by unfold exHeap;simp only[DK]
 generalize exHeap h C rest=h1 at hC₁ hget X₁ T₁ hM hsz⊢;unfold isInstance
 repeat (first | with_reducible refine EM hget ?_ | (with_reducible refine HI hC₁ ?_;rw[hcC]) | wp_step)
 show wpAny _ _ (typeLookup (.ref C) _) _ _ _;refine PySem.W.Looks.here (s:=⟨h1,g,d,t,os⟩) (PySem.W.looks_findIn X₁ hi) ?_;refine BT (AA (GB (F.init.bind _) ?_));refine AA (IJ (codeAny_call_builtin F.init.plain F.initEntry (wpAny_check_init_subT F T₁ hC₁ hget rfl ?_)));wp_walk;refine hM _ (fun b o e hb=>?_) ⟨h.objs.size+2,?_⟩
 .rw[BP _ _ (Ne.symm hb)];exact AE _ e
 .rw[CB _ (AE _ hget) rfl,hsz];rfl
theorem Mo{K:PySem.W.Frag}{rest:List Value}{Q:Value->Shared->Prop}(F:ExcBaseFacts B newId initId bmB)(T:OwnTail h bmB bm)(X:K.In h)
  (hC:h.get? C=some (excClassObj nm q C N bs bm hdct sn sub ab col dd k0 k1 k2 k3 k5 newId)) (hi:PySem.W.findIn K (.ref C) "__init__" = some (some (.builtin initId)))
  (hrest:rest.length<=sizeLine) (hq:∀h',(∀b o,h.get? b=some o->h'.get? b=some o)->(∃tt,h'.get? (h.objs.size+1)=some { cls:=.ref C,data:=.fields #[.ref tt,.none,.none,.none,.bool false,.none] })->Q (.ref (h.objs.size+1)) ⟨h',g,d,t,os⟩) :
  wpAny (model prog w) A (call (.ref C) rest) Q E ⟨h,g,d,t,os⟩:=by
 have f1:=tc_lookup;have f2:=tc_bind (.ref C);have hT:(⟨h,g,d,t,os⟩:Shared).TypeIs (.ref C) "type":=⟨_,hC,rfl⟩;refine IJ (codeAny_of_tree ?_);show wpAny _ _ (callAny (.ref C) _) _ _ _
 repeat (any_goals (first | assumption | with_reducible refine EM hC ?_ | wp_step))
 refine⟨rfl,?_⟩;exact codeAny_call_builtin_at (Code.quiet_builtin _ (by decide +kernel)) entry_typeCall (wpAny_check_type_call_sub hC (Pi F T X hC hi hrest hq))
end
def Vp(K:PySem.W.Frag)(C:Addr):Prop:=PySem.W.findIn K (.ref C) "__init__" = some (some (.builtin "ValueError.__init__"))
section
variable{X:Cx}{pins:List (Addr×Obj)}{σ:St}{H:Hp}{s:Shared}{C:Addr}{bm:List Value}{E:Value->Shared->Prop}
theorem Se{us:List Value}{Q:Value->Shared->Prop}(c:XC X.K C bm)(ni:Vp X.K C)(I:Inv X pins σ H s)(hus:us.length<=sizeLine)(h:∀x s',H x=none->X.s₀.heap.objs.size<=x->Inv X pins σ (upd H x (XN x C none)) s'->Q (.ref x) s') :
  wpAny (model X.prog X.w) X.A (call (.ref C) us) Q E s:=by
 obtain⟨nm,q,N,bs,hdct,sn,sub,ab,col,dd,k0,k1,k2,k3,k5,hobj⟩:=c.obj;have sz:=I.sz;obtain⟨hp,g,dn,tk,os⟩:=s;refine Mo PySem.F.excBase_ValueError (PySem.W.tail_of_in I.kIn c.tail) I.kIn (I.kIn _ _ hobj) ni hus fun h' kp ⟨tt,he⟩=>?_;exact h _ _ (I.hok.fresh (CV _)) (Nat.le_trans sz (CV _)) (I.laid (t':=tk) kp (CV _) (XN.ok he rfl))
end
def Wg(C:Addr)(E:XK)(t:TA):TS:=fun _ σ H=>t σ H fun vs H1=>vs.length<=sizeLine/\∀x,H1 x=none->E (.ref C) none (upd H1 x (XO x C none))
section
variable{X:Cx}{C f:Addr}{fd:FuncData}{ps:List Str}{sp:Sp}{E:XK}{bm:List Value}{k:Nat}{n:Str}{p pos cpos:Pos}{e:Expr}{es:List Expr}{t:TA}
theorem Ew(b:BX X E)(c:XC X.K C bm)(ni:Vp X.K C)(hg:Gl X n)(hm:X.mg n=some (.ref C))(ha:PA X (e::es) t)
  (hdb:(n ==("__debug__":Str))=false:=by decide) (he:starEach (e::es) X.env =(false,eval e X.env)::starEach es X.env:=by rfl) (hpl:(backTo cpos (starEach es X.env)).any (·.1)=false:=by rfl) :
  PS X (.Raise (some (.Call (.Name n p) (e::es) [] cpos)) none pos) (Wg C E t):=by
 intro pins s σ H D I h;obtain⟨nm,q,N,bs,hdct,sn,sub,ab,col,dd,k0,k1,k2,k3,k5,hobj⟩:=c.obj;have hh:X.A.handled=none:=I.ok.hd b.calm;rw[arm_exec_Raise];refine AA (EZ (Ml (C:=C) (nm:=nm) (q:=q) (N:=N) (bs:=bs) (bm:=bm) (hdct:=hdct) (sn:=sn) (sub:=sub) (ab:=ab) (col:=col) (dd:=dd) (k0:=k0) (k1:=k1) (k2:=k2) (k3:=k3) (k5:=k5) (newId := "ValueError.__new__") (c.base I.kIn) hh (AA (BR ?_ (fun v s₃ h₃=>AA (EZ (AD h₃))) fun _ _ x=>x))));refine DE (S5 I hg hm ?_ hdb);refine PySem.W.callWith_K (h₀:=X.base) I.ok.mod.kin c.kp (thn (ha cpos pins s σ H _ I h) fun us s1 ⟨vs,H1,I1,r,hl,q⟩=>⟨I1.kIn,?_⟩) he hpl;refine Se (us:=us) c ni I1 (by rw[<-r.length];exact hl) fun x s2 hx nx I2=>?_;obtain⟨vs',sl,ex,h1,z⟩:=b.made (d:=none) I2 A7 nx (by rw[Wx];exact q x hx);exact⟨_,none,vs',sl,rfl,I2.kIn _ _ hobj,ex,h1,z⟩
end
section
variable{prog:Program}{w:World}{A:Around}{E:Value->Shared->Prop}{s:Shared}{K:PySem.W.Frag}{x C:Addr}{ox:Obj}{od:Option Obj}
theorem Hy{Q:Option Value->Shared->Prop}(X:K.In s.heap)(I:PySem.W.InstAt s.heap x ox C od)(c:XG K C)(i:IsC K C)(h:Q (some (.ref C)) { s with toks:=s.toks+1 }):wpAny (model prog w) A (getAttr? (.ref x) "__class__") Q E s:=by
 have hf:PySem.W.findObj K C od "__class__" = some (.bind (.builtin "getset_descriptor.__get__") (.builtin "object.__class__")):=by
  obtain⟨cd,hc,_⟩:=PySem.W.any_some c.hd;unfold PySem.W.findObj;rw[hc,Option.bind_some,i.ha,Option.bind_some];simp[i.hn,i.htk]
 unfold getAttr? getAttrBy?;refine AA (wpAny_mkText (AA (GX (Yb (s:={ s with toks:=s.toks+1 }) X I c (Pr (s:={ s with toks:=s.toks+1 }) X I c ?_)))));have L0:=I.type (M:=model prog w);have L1:=PySem.W.looks_find (M:=model prog w) X I hf;obtain⟨hh,g,d,t,os⟩:=s;refine AA (AD (AA (AD (AA (L0.at (AA (L1.at ?_)))))));dsimp only;unfold Builtin.ObjectAttr.bindTo;dsimp only;refine AA (BT (IJ (PySem.W.class_get X I i.hm ?_)));exact AD (PySem.W.handed_on rfl (AD h))
end
theorem Dd{K:PySem.W.Frag}{x C:Addr}(c:XG K C)(i:IsC K C):PySem.W.KitX K (.ref x) (.ref C) (fun h=>∃ox od,PySem.W.InstAt h x ox C od) where
 ty:=fun _ _ _ ⟨_,_,I⟩=>I.type
 it:=fun _ _ X _=>by
  obtain⟨cdD,hcD,_⟩:=PySem.W.any_some c.hd;unfold PySem.W.clsIn at hcD;split at hcD
  .rename_i c' d' cd' sl' ho;intro A' Q' E' s' k q;unfold isType loadHead;exact AA (wpAny_loadPart (k _ _ (X _ _ ho)) (AD q))
  .cases hcD
 ne:=fun h tp dd its n sl X htp=>by
  obtain⟨cdD,hcD,_⟩:=PySem.W.any_some c.hd;refine BM.mpr fun q=>?_;have e:C=tp:=Value.ref.inj (beq_iff_eq.mp q);subst e;unfold PySem.W.clsIn at hcD;split at hcD
  .rename_i c' d' cd' sl' ho;have z:=(X _ _ ho).symm.trans htp;cases z
  .cases hcD
 ca:=fun X ⟨_,_,I⟩ k=>Hy X I c i k
section
variable{X:Cx}{pins:List (Addr×Obj)}{σ:St}{H:Hp}{s:Shared}{x C:Addr}
theorem Kd(I:Inv X pins σ H s)(e:H x=some (XO x C none)):∃ox od,PySem.W.InstAt s.heap x ox C od:=by
 obtain⟨o,vs,h1,h2,h3,h4⟩:∃o vs,s.heap.get? x=some o/\o.cls = .ref C/\o.dict=none/\o.data = .fields vs:=(I.hok x _ e).1;exact⟨o,none,⟨h1,h2,by unfold PySem.W.notCls;rw[h4],by rw[h3];trivial⟩⟩
end
def zAc(K:PySem.W.Frag)(cv:V->Option Value):List V->Hp->VK->Prop:=fun xs H Q=>∃x C y c b,xs = [.ref x,y]/\cv y=some c/\H x=some (XO x C none)/\XG K C/\IsC K C/\PySem.W.kitOne K (.ref C) c=some b/\Q (.bl b) H
theorem Fq{X:Cx}(K:PySem.W.Frag)(hK:X.K=K:=by rfl):E3 X (.builtin "isinstance") (zAc K fun y=>match y with | .ref a=>some (.ref a) | .ty n=>some (.type n) | _=>none):=by
 subst hK;intro pins s σ H xs us Q I r h;obtain⟨x,C,y,c,b,rfl,hc,e1,g,i,hk,q⟩:=h;obtain⟨u,v,rfl,ru,rv⟩:=r.two;cases(show u=Value.ref x from ru);have ev:v=c:=by
  cases y with
  | ref a=>cases hc;exact rv
  | ty n=>cases hc;cases rv;rfl
  | _=>cases hc
 subst ev;obtain⟨ox,od,J⟩:=Kd I e1;exact PySem.W.kia_one (Dd g i) I.kIn ⟨ox,od,J⟩ hk (fun z=>nomatch z) fun tk=>⟨.bl b,H,I.tok _,rfl,q⟩
theorem Kp{X:Cx}(K:PySem.W.Frag)(hK:X.K=K:=by rfl):E3 X (.builtin "isinstance") (fun xs H Q=>∃(x C:Addr) (p:Addr) (cs:List Addr) (b:Bool),xs = [.ref x,.ref p]/\H p=some (.tup (cs.map V.ref))/\H x=some (XO x C none)/\XG K C/\IsC K C/\PySem.W.kitAny K (.ref C) (cs.map Value.ref)=some b/\Q (.bl b) H):=by
 subst hK;intro pins s σ H xs us Q I r h;obtain⟨x,C,p,cs,b,rfl,hp,e1,g,i,hk,q⟩:=h;obtain⟨u,v,rfl,ru,rv⟩:=r.two;cases(show u=Value.ref x from ru);cases(show v=Value.ref p from rv);obtain⟨its,rv,pl,hz⟩:=I.tuple (SqT.of hp);rw[Jx rv]at pl;obtain⟨⟨oc,od',odt,osl⟩,ho,hc,n,hd⟩:=pl;cases hc;cases hd;obtain⟨ox,od,J⟩:=Kd I e1;exact PySem.W.kia_tup (Dd g i) I.kIn ⟨ox,od,J⟩ ho hk (fun z=>nomatch z) fun tk=>⟨.bl b,H,I.tok _,rfl,q⟩
def PSx(X:Cx)(st:List Stmt)(t:XK->TS):Prop:=∀(pins:List (Addr×Obj)) (s:Shared) (σ:St) (H:Hp) (D:Ends) (E:XK),Inv X pins σ H s->t E D σ H ->
 wpAny (model X.prog X.w) X.A (execs st X.env) (SP X pins D) (fun ev s'=>∃s1 H1,Inv X pins σ H1 s1/\CXe X.prog X.w X.stack H1 s1 E ev s') s
def zDq(K:PySem.W.Frag)(S:Addr)(i:Nat)(t:XK->TS)(th:TS):TS:=fun D σ H =>
 t (fun Cv d H'=>∃C bm,Cv = .ref C/\XC K C bm/\(Value.ref C::bm).contains (.ref S)=true/\∀x,H' x=some (XO x C d)->th (Dh i D) (σ.set i (some (.ref x))) H') D σ H
theorem Wb{X:Cx}{S:Addr}{bmS:List Value}{i:Nat}{n c:Str}{cp hp pos:Pos}{b₀:Stmt}{tb body:List Stmt}{t:XK->TS}{th:TS}(nox:∀e s,¬X.xe e s)(st:X.stack=X.env::X.outer)(fr:X.env.frame=some X.env.locals)(hN:X.N.Nodup)(hi:X.N[i]?=some n)(hloc:X.env.scope.names.lookup n=some .local)
  (hg:Gl X c) (hm:X.mg c=some (.ref S)) (cS:XC X.K S bmS) (he:PSx X tb t) (hh:∀ev,PSs (Xm X ev) (b₀::body) th) (hdb:(c ==("__debug__":Str))=false:=by decide) :
  PS X (.Try tb [.ExceptHandler (some (.Name c cp)) (some n) (b₀::body) hp] [] [] pos) (zDq X.K S i t th):=by
 intro pins s σ H D I h;refine wpAny_Try_except ?_;refine BR (he pins s σ H _ _ I h) (fun fl s1 z=>?_) fun ev s' z=>?_
 .cases fl with
  | next=>exact GT z
  | brk=>exact z
  | cont=>exact z
  | ret u=>exact z
 obtain⟨s1,H1,I1,x,C,d,H',rfl,os,bare,un,hok,hx,nx,tb,C',bm,ec,cC,hcon,q⟩:=z;cases ec;have I2:Inv X pins σ H' s':=I1.call' os un hok bare (fun b z=>absurd z (by simp));have r:RX X.prog X.w X.base X.stack X.env X.outer H1 s1 x C d H' s':=⟨os,bare,un,hok,Nat.le_trans I1.ok.bsz I1.sz,I2.bs,by have:=I2.stack;rw[st]at this;exact this,by have:=I2.stkFree;rw[st]at this;exact this,⟨_,fr⟩,fun b o _ hb=>by rw[st]at hb;exact hb,fun b hb=>by rw[st]at hb;exact hb,hx,nx,tb.fl⟩;have hfr:X.A.frames=some (X.env::X.outer):=by rw[I.ok.frames,st]
 refine r.note hfr fun h' r' t'=>r'.flight fun h2 r2 _=>?_;have I3:Inv X pins σ H' { s' with heap:=h2 }:=I1.call' r2.os r2.un r2.hok r2.bare (fun b z=>absurd z (by simp));refine wpAny_handleBy_cons (codeAny_handlers_test ?_) (by intro q;cases q);refine S5 (I3.mark (.ref x)) hg hm ?_ hdb;obtain⟨nm,q1,N,bs,hdct,sn,sub,ab,col,dd,k0,k1,k2,k3,k5,hobj⟩:=cC.obj;obtain⟨nm',q1',N',bs',hdct',sn',sub',ab',col',dd',j0,j1,j2,j3,j5,hobj'⟩:=cS.obj;obtain⟨ox,vx,ex,hcx,_⟩:∃o vs,h2.get? x=some o/\o.cls = .ref C/\o.dict=d/\o.data = .fields vs:=(r2.hok x _ r2.hx).1;refine zFk (I3.kIn _ _ hobj) (I3.kIn _ _ hobj') ex hcx (cS.base I3.kIn) hcon ?_;refine codeAny_handlers_suite_as (r2.flight fun h4 r4 _=>?_);have I4:Inv X pins σ H' { s' with heap:=h4 }:=I1.call' r4.os r4.un r4.hok r4.bare (fun b z=>absurd z (by simp));refine T3 I4 hN hi (.inl hloc) (v:=.ref x) rfl (fun s5 I5=>?_) (.inr hloc);refine BR (hh (.ref x) pins s5 _ H' (Dh i D) (I5.mark _) (q x hx)) (fun f s6 z=>?_) fun _ _ z=>(nox _ _ z).elim;cases f with
 | next =>
  obtain⟨σ',H6,I6,q6⟩:=z;exact T8 (I6.unmark I.ok) hN hi hloc fun s7 I7=>⟨_,_,I7,q6⟩
 | brk =>
  obtain⟨σ',H6,I6,q6⟩:=z;exact T8 (I6.unmark I.ok) hN hi hloc fun s7 I7=>⟨_,_,I7,q6⟩
 | cont =>
  obtain⟨σ',H6,I6,q6⟩:=z;exact T8 (I6.unmark I.ok) hN hi hloc fun s7 I7=>⟨_,_,I7,q6⟩
 | ret u =>
  obtain⟨v,σ',H6,I6,r6,q6⟩:=z;exact T8 (I6.unmark I.ok) hN hi hloc fun s7 I7=>⟨v,_,_,I7,r6,q6⟩
section
variable{prog:Program}{w:World}{A:Around}{E:Value->Shared->Prop}{s:Shared}{it l:Addr}{i:Nat}{items:Array Value}{x:Value}{Q:Value->Shared->Prop}
theorem y9{z TI TO i1 i2 l1 l2:Addr}{k1 k2:Nat}{xs ys:Array Value}{x y a b:Value}(D:ZipApart z TI TO i1 i2 l1 l2)(hz:IsZip s.heap z TI TO .none)(hti:IsPair s.heap TI (.ref i1) (.ref i2))(hto:IsPair s.heap TO a b)
  (h1:s.heap.IsListIter i1 l1 k1) (h2:s.heap.IsTupleIter i2 l2 k2) (g1:s.heap.IsList l1 xs) (g2:s.heap.IsTuple l2 ys) (hx:xs[k1]?=some x) (hy:ys[k2]?=some y)
  (hQ:∀h',IsZip h' z TI TO (rawInt s.heap.objs.size)->IsPair h' TO x y->h'.IsListIter i1 l1 (k1+1)->h'.IsTupleIter i2 l2 (k2+1)->IsPair h' s.heap.objs.size x y->h'.objs.size=s.heap.objs.size+1->(∀c o,c≠z->c≠TO->c≠i1->c≠i2->s.heap.get? c=some o->h'.get? c=some o)->Q (.ref s.heap.objs.size) { s with heap:=h' }) :
  wpAny (model prog w) A (Builtin.«zip.__next__» ⟨[.ref z],[]⟩) (fun fin s'=>∃v,fin = .done (.ret v)/\Q v s') E s:=by
 obtain⟨h0,gg,dd,tt,oo⟩:=s;refine AA (AD (AA (DG hz rfl rfl (AA (DG hz rfl rfl (AA (EL hti rfl ?_)))))));refine EQ rfl (AA (AA (DG hz rfl rfl (AD (wpAny_ite_true rfl ?_)))));refine AA (ET (AA (DG hz rfl rfl (AA (GQ hz (HF 4) fun h3 z3 s3=>?_)))));have a3:=h1.extBut s3.extBut D.i1z;have b3:=h2.extBut s3.extBut D.i2z;have c3:=g1.extBut s3.extBut D.l1z;have d3:=g2.extBut s3.extBut D.l2z;have e3:=(s3.2 TO D.TOz).trans hto;refine AA ?_;rw[show(#[Value.ref i1,Value.ref i2].toList.zipIdx) = [(Value.ref i1,0),(Value.ref i2,1)]from rfl];refine Pd (u:=(none,())) (v:=(none,())) ?_;refine AA (wpAny_onRaise (EQ rfl (AA (wpAny_nextOf_list_item a3 c3 hx fun h4 a4 s4=>AD ?_))));have e4:=(s4.2 TO D.TOi1).trans e3;refine AA (EL e4 rfl (AA (wpAny_updateSeq_pair e4 fun h5 e5 s5=>AA (wpAny_letGo (AD ⟨rfl,?_⟩)))));have b5:=(b3.extBut s4.extBut D.i12.symm).extBut s5.extBut D.TOi2.symm;have d5:=(d3.extBut s4.extBut D.l2i1).extBut s5.extBut D.l2TO;refine AA (wpAny_onRaise (EQ rfl (AA (w4 b5 d5 hy fun h6 b6 s6=>AD ?_))));have e6:=(s6.2 TO D.TOi2).trans e5;refine AA (EL e6 rfl (AA (wpAny_updateSeq_pair e6 fun h7 e7 s7=>AA (wpAny_letGo (AD ⟨rfl,?_⟩)))));have z7:=(s7.2 z D.TOz.symm).trans ((s6.2 z D.i2z.symm).trans ((s5.2 z D.TOz.symm).trans ((s4.2 z D.i1z.symm).trans z3)));have hs:h7.objs.size=h0.objs.size:=s7.1.trans (s6.1.trans (s5.1.trans (s4.1.trans s3.1)));have n0:∀{c:Addr} {o:Obj},h0.get? c=some o->c≠h7.objs.size:=fun e=>by rw[hs];exact A_ (AG e)
 refine AA (EL e7 rfl (AA (HY (AA (AA (GQ (AE _ z7) (HF 4) fun h8 z8 s8=>GQ z8 (Nat.succ_lt_succ (HF 3)) fun h9 z9 s9=>AD ⟨_,rfl,?_⟩))) (by show 2<=sizeLine;decide))));have k9:∀{c:Addr} {o:Obj},c≠z->h7.get? c=some o->h9.get? c=some o:=fun nz e=>(s9.2 _ nz).trans ((s8.2 _ nz).trans (AE _ e));have sz9:h9.objs.size=h0.objs.size+1:=s9.1.trans (s8.1.trans ((DK ..).trans (congrArg (· + 1) hs)));have tk:h9.get? h7.objs.size=some ⟨.type "tuple",none,.seq #[x,y],#[]⟩:=(s9.2 _ (n0 hz).symm).trans ((s8.2 _ (n0 hz).symm).trans (AM _ rfl));rw[hs]at z9 tk⊢;refine hQ h9 z9 (k9 D.TOz e7) (a4.at fun o e=>?_) (b6.at fun o e=>?_) tk sz9 fun c o nz nt n1 n2 e=>k9 nz ?_
 .exact k9 D.i1z ((s7.2 _ D.TOi1.symm).trans ((s6.2 _ D.i12).trans ((s5.2 _ D.TOi1.symm).trans e)))
 .exact k9 D.i2z ((s7.2 _ D.TOi2.symm).trans e)
 .exact(s7.2 _ nt).trans ((s6.2 _ n2).trans ((s5.2 _ nt).trans ((s4.2 _ n1).trans ((s3.2 _ nz).trans e))))
theorem Ch{z TI TO i1 i2 l1 l2:Addr}{k1:Nat}{xs:Array Value}{Q:PySem.Fin->Shared->Prop}(hA:A.handled=none)(D:ZipApart z TI TO i1 i2 l1 l2)(hz:IsZip s.heap z TI TO .none)(hti:IsPair s.heap TI (.ref i1) (.ref i2))
  (h1:s.heap.IsListIter i1 l1 k1) (g1:s.heap.IsList l1 xs) (hx:xs[k1]?=none)
  (hE:∀h' e,(∀c o,c≠z->c≠TO->c≠i1->c≠i2->s.heap.get? c=some o->h'.get? c=some o)->(∃o,h'.get? e=some o/\o.cls = .type "StopIteration")->E (.ref e) { s with heap:=h' }) :
  wpAny (model prog w) A (Builtin.«zip.__next__» ⟨[.ref z],[]⟩) Q E s:=by
 obtain⟨h0,gg,dd,tt,oo⟩:=s;refine AA (AD (AA (DG hz rfl rfl (AA (DG hz rfl rfl (AA (EL hti rfl ?_)))))));refine EQ rfl (AA (AA (DG hz rfl rfl (AD (wpAny_ite_true rfl ?_)))));refine AA (ET (AA (DG hz rfl rfl (AA (GQ hz (HF 4) fun h3 z3 s3=>?_)))));refine AA ?_;rw[show(#[Value.ref i1,Value.ref i2].toList.zipIdx) = [(Value.ref i1,0),(Value.ref i2,1)]from rfl,List.forIn_cons];refine AA (AA (wpAny_onRaise (EQ rfl (AA (wpAny_nextOf_list_end hA (h1.extBut s3.extBut D.i1z) (g1.extBut s3.extBut D.l1z) hx fun h4 e k4 ho=>?_)))));refine GQ (k4 z _ D.i1z.symm z3) (HF 4) fun h5 z5 s5=>hE h5 e (fun c o nz _ n1 _ e=>(s5.2 _ nz).trans (k4 c o n1 ((s3.2 _ nz).trans e))) ?_;obtain⟨o,ho,hc⟩:=ho;have ne:e≠z:=fun q=>by
  subst q;rw[k4 e _ D.i1z.symm z3]at ho;cases ho;exact absurd (show Value.type "zip" = .type "StopIteration" from hc) (by decide)
 exact⟨o,(s5.2 _ ne).trans ho,hc⟩
theorem Wq(hA:A.handled=none)(z TI TO i1 i2 l1 l2:Addr)(D:ZipApart z TI TO i1 i2 l1 l2)(xs ys:Array Value)(hl:xs.size<=ys.size) :
  WalksT prog w A z [z,TI,TO,i1,i2,l1,l2] [z,TO,i1,i2] xs.size (fun i vals=>∃x y,xs[i]?=some x/\ys[i]?=some y/\vals = #[x,y])
   (fun i h=>IsZip h z TI TO .none/\IsPair h TI (.ref i1) (.ref i2)/\(∃a b,IsPair h TO a b)/\h.IsListIter i1 l1 i/\h.IsTupleIter i2 l2 i/\h.IsList l1 xs/\h.IsTuple l2 ys)
   (fun i T h=>IsZip h z TI TO (rawInt T)/\IsPair h TI (.ref i1) (.ref i2)/\(∃a b,IsPair h TO a b)/\h.IsListIter i1 l1 (i+1)/\h.IsTupleIter i2 l2 (i+1)/\h.IsList l1 xs/\h.IsTuple l2 ys/\T≠z/\T≠TO/\T≠i1/\T≠i2) where
 sub:=by simp
 frame:=fun i h h' ⟨h1,h2,⟨a,b,h3⟩,h4,h5,h6,h7⟩ k=>⟨k z (by simp) _ h1,k TI (by simp) _ h2,⟨a,b,k TO (by simp) _ h3⟩,h4.at (k i1 (by simp)),h5.at (k i2 (by simp)),h6.at (k l1 (by simp)),h7.at (k l2 (by simp))⟩
 item:=fun i s Q E hi ⟨h1,h2,⟨a,b,h3⟩,h4,h5,h6,h7⟩ hQ=>by
  have hx:xs[i]?=some xs[i]:=ES hi;have hy:ys[i]?=some (ys[i]'(BH hi hl)):=ES _;refine AA (GX (EJ (Jf h1) F.slot_zip_next (CZ F.slot_zip_next (Jf h1) F.entry_zip_next (y9 D h1 h2 h3 h4 h5 h6 h7 hx hy fun h' z' o' a' b' t' sz k=>AD ?_) (F.args_zip_next_1 _))));refine hQ _ _ h' s.toks ⟨_,_,hx,hy,rfl⟩ (Nat.le_refl _) ⟨_,t',rfl,_,rfl⟩ ⟨z',k TI _ D.TIz D.TITO D.TIi1 D.TIi2 h2,⟨_,_,o'⟩,a',b',h6.at fun o e=>k l1 o D.l1z D.l1TO D.l1i1 D.l1i2 e,h7.at fun o e=>k l2 o D.l2z D.l2TO D.l2i1 D.l2i2 e,?_,?_,?_,?_⟩ fun b o hb e=>?_
  .exact(A_ (AG h1)).symm
  .exact(A_ (AG h3)).symm
  .obtain⟨o,e,_⟩:=h4;exact(A_ (AG e)).symm
  .obtain⟨o,e,_⟩:=h5;exact(A_ (AG e)).symm
  .simp only[AV,BD,or_false,not_or]at hb;exact k b o hb.1 hb.2.1 hb.2.2.1 hb.2.2.2 e
 go:=fun elts k pos i T s Q E ⟨h1,h2,⟨a,b,h3⟩,h4,h5,h6,h7,_⟩ hQ=>wpAny_letOwnedTupleGo_zip h1 fun h' z' k'=>hQ h' ⟨z',(k'.2 _ D.TIz).trans h2,⟨a,b,(k'.2 _ D.TOz).trans h3⟩,h4.extBut k'.extBut D.i1z,h5.extBut k'.extBut D.i2z,h6.extBut k'.extBut D.l1z,h7.extBut k'.extBut D.l2z⟩ fun b o hb e=>(k'.2 b fun q=>hb (by rw[q];exact BE ..)).trans e
 apart:=fun i T h ⟨_,_,_,_,_,_,_,n1,n2,n3,n4⟩ hm=>by
  simp only[AV,BD,or_false]at hm;rcases hm with e | e | e | e
  .exact n1 e
  .exact n2 e
  .exact n3 e
  .exact n4 e
 done:=fun s Q E ⟨h1,h2,⟨a,b,h3⟩,h4,h5,h6,h7⟩ hQ=>by
  have hx:xs[xs.size]?=none:=FK (Nat.le_refl _);refine AA (GX (EJ (Jf h1) F.slot_zip_next (CZ F.slot_zip_next (Jf h1) F.entry_zip_next (Ch hA D h1 h2 h4 h6 hx fun h' e k ho=>?_) (F.args_zip_next_1 _))));obtain⟨o,ho,hc⟩:=ho;refine AA (HD ⟨o,ho,hc⟩ isSubtype_stop (AD (hQ h' s.toks fun b o hb e=>?_)));simp only[AV,BD,or_false,not_or]at hb;exact k b o hb.1 hb.2.1 hb.2.2.1 hb.2.2.2 e
 self:=fun i s Q E ⟨h1,_⟩ q=>IL h1 q
end
section
variable{prog:Program}{w:World}{A:Around}{E:Value->Shared->Prop}{s:Shared}
theorem Nq{l1 l2:Addr}{xs ys:Array Value}{Q:Value->Shared->Prop}(g1:s.heap.IsList l1 xs)(g2:s.heap.IsTuple l2 ys)
  (hQ:∀h',IsZip h' (s.heap.objs.size+4) (s.heap.objs.size+2) (s.heap.objs.size+3) .none->IsPair h' (s.heap.objs.size+2) (.ref s.heap.objs.size) (.ref (s.heap.objs.size+1))->IsPair h' (s.heap.objs.size+3) .none .none ->
   h'.IsListIter s.heap.objs.size l1 0->h'.IsTupleIter (s.heap.objs.size+1) l2 0->(∀c o,s.heap.get? c=some o->h'.get? c=some o)->Q (.ref (s.heap.objs.size+4)) { s with heap:=h' }) :
  wpAny (model prog w) A (call (.type "zip") [.ref l1,.ref l2]) Q E s:=by
 refine callType_new (S:=fun A R s'=>s'=s/\∀h',IsZip h' (s.heap.objs.size+4) (s.heap.objs.size+2) (s.heap.objs.size+3) .none->IsPair h' (s.heap.objs.size+2) (.ref s.heap.objs.size) (.ref (s.heap.objs.size+1))->IsPair h' (s.heap.objs.size+3) .none .none ->
   h'.IsListIter s.heap.objs.size l1 0->h'.IsTupleIter (s.heap.objs.size+1) l2 0->(∀c o,s.heap.get? c=some o->h'.get? c=some o)->R (.ok (.ret (.ref (s.heap.objs.size+4)))) { s with heap:=h' }) F.called_zip rfl (F.typeCall_zip_2 _ _) (F.newCall_zip_2 _ _) (fun _=>F.args_object_init_3 _ _ _) F.entry_zip_new (.of_wp fun prog w A R s' hR=>?_) ⟨rfl,fun h' z1 z2 z3 z4 z5 k=>⟨⟨_,z1,rfl⟩,hQ h' z1 z2 z3 z4 z5 k⟩⟩
 obtain⟨rfl,hR⟩:=hR;obtain⟨h0,gg,dd,tt,oo⟩:=s';refine AA (AA (AD (EQ rfl (AA (GB sub_zip (EQ rfl (AD ?_)))))))
 let h1:=h0.push { cls:=.type "list_iterator",data:=.fields #[.ref l1,.int 0 0] }
 let h2:=h1.push { cls:=.type "tuple_iterator",data:=.fields #[.ref l2,.int 0 0] }
 let h3:=h2.push { cls:=.type "tuple",data:=.seq #[.ref h0.objs.size,.ref h1.objs.size] }
 let h4:=h3.push { cls:=.type "tuple",data:=.seq #[.none,.none] }
 have e1:h1.objs.size=h0.objs.size+1:=DK ..;have e2:h2.objs.size=h0.objs.size+2:=(DK ..).trans (congrArg (· + 1) e1);have e3:h3.objs.size=h0.objs.size+3:=(DK ..).trans (congrArg (· + 1) e2);have e4:h4.objs.size=h0.objs.size+4:=(DK ..).trans (congrArg (· + 1) e3);have g2':h1.IsTuple l2 ys:=g2.at fun o e=>AE _ e;have p0:h1.get? h0.objs.size=some { cls:=.type "list_iterator",data:=.fields #[.ref l1,.int 0 0] }:=AM _ rfl;have p1:h2.get? h1.objs.size=some { cls:=.type "tuple_iterator",data:=.fields #[.ref l2,.int 0 0] }:=AM _ rfl;have p2:h3.get? h2.objs.size=some { cls:=.type "tuple",data:=.seq #[.ref h0.objs.size,.ref h1.objs.size] }:=AM _ rfl;have p3:h4.get? h3.objs.size=some { cls:=.type "tuple",data:=.seq #[.none,.none] }:=AM _ rfl;have u:∀{h:Heap} {o:Obj} {c:Addr} {q:Obj},h.get? c=some q->(h.push o).get? c=some q:=fun e=>AE _ e;refine EQ rfl (AA (AA (Pd (u:=#[.ref h0.objs.size]) (v:=#[.ref h0.objs.size,.ref h1.objs.size]) (AA (BT (GZ g1 (AD ⟨rfl,AA (BT (wpAny_pyIter_tuple g2' (AD ⟨rfl,AD ?_⟩)))⟩)))))));refine AA (HY (AA (HY (AA (Fd (AD ⟨_,rfl,?_⟩) ?_)) (by show 2<=sizeLine;decide))) (by show 2<=sizeLine;decide))
 .have hz:=AM h4 (o:={ cls:=.type "zip",data:=.fields #[.none,.bool false,.bool false,.ref h2.objs.size,.ref h3.objs.size] }) rfl;have q:=hR (h4.push { cls:=.type "zip",data:=.fields #[.none,.bool false,.bool false,.ref h2.objs.size,.ref h3.objs.size] });rw[show(Shared.mk h0 gg dd tt oo).heap.objs.size=h0.objs.size from rfl,<-e1,<-e2,<-e3,<-e4]at q;exact q hz (u (u p2)) (u p3) ⟨_,u (u (u (u p0))),rfl,rfl⟩ ⟨_,u (u (u p1)),rfl,rfl⟩ fun c o e=>u (u (u (u (u e))))
 .show 5<=sizeLine+2;decide
end
def Xy(sq sr:Hp->Addr->List V->Prop)(a b:Addr):It :=
  ⟨fun i H=>∃xs ys x y,sq H a xs/\sr H b ys/\xs.length<=ys.length/\xs[i]?=some x/\ys[i]?=some y,fun i H v H'=>∃T x y,v = .ref T/\H T=none/\H'=upd H T (.tup [x,y])/\(∀xs,sq H a xs->xs[i]?=some x)/\∀ys,sr H b ys->ys[i]?=some y,
   fun i H=>∃xs ys,sq H a xs/\sr H b ys/\xs.length<=ys.length/\xs.length=i⟩
def Qi(isIt isJt:Heap->Addr->Addr->Nat->Prop)(z TI TO i1 i2 a b:Addr)(i:Nat)(h:Heap):Prop:=IsZip h z TI TO .none/\IsPair h TI (.ref i1) (.ref i2)/\(∃u v,IsPair h TO u v)/\isIt h i1 a i/\isJt h i2 b i
section
variable{P:Program}{w:World}{K:PySem.W.Frag}{elts:List Expr}{kk:Nat}{tp:Pos}{isIt isJt:Heap->Addr->Addr->Nat->Prop}{isq isr:Heap->Addr->Array Value->Prop}{sq sr:Hp->Addr->List V->Prop}
theorem Fs(oI:∀h c l i,isIt h c l i->∃o,h.get? c=some o/\∀v,o.data≠ .cell v)(kI:∀h h' c l i,isIt h c l i->(∀o,h.get? c=some o->h'.get? c=some o)->isIt h' c l i)(oJ:∀h c l i,isJt h c l i->∃o,h.get? c=some o/\∀v,o.data≠ .cell v)(kJ:∀h h' c l i,isJt h c l i->(∀o,h.get? c=some o->h'.get? c=some o)->isJt h' c l i)
  (gI:∀(X:Cx) pins σ H s c xs,X.K=K->Inv X pins σ H s->sq H c xs->∃its,Vals xs its/\isq s.heap c its.toArray) (uI:∀(X:Cx) pins σ H s c xs ys,X.K=K->Inv X pins σ H s->sq H c xs->sq H c ys->xs=ys) (gJ:∀(X:Cx) pins σ H s c xs,X.K=K->Inv X pins σ H s->sr H c xs->∃its,Vals xs its/\isr s.heap c its.toArray) (uJ:∀(X:Cx) pins σ H s c xs ys,X.K=K->Inv X pins σ H s->sr H c xs->sr H c ys->xs=ys)
  (z TI TO i1 i2 a b:Addr) (WI:∀(A:Around),A.handled=none->∀xs ys:Array Value,xs.size<=ys.size->WalksT P w A z [z,TI,TO,i1,i2,a,b] [z,TO,i1,i2] xs.size (fun i vals=>∃x y,xs[i]?=some x/\ys[i]?=some y/\vals = #[x,y])
   (fun i h=>IsZip h z TI TO .none/\IsPair h TI (.ref i1) (.ref i2)/\(∃a b,IsPair h TO a b)/\isIt h i1 a i/\isJt h i2 b i/\isq h a xs/\isr h b ys)
   (fun i T h=>IsZip h z TI TO (rawInt T)/\IsPair h TI (.ref i1) (.ref i2)/\(∃a b,IsPair h TO a b)/\isIt h i1 a (i+1)/\isJt h i2 b (i+1)/\isq h a xs/\isr h b ys/\T≠z/\T≠TO/\T≠i1/\T≠i2)) :
  Turn P w K (.Tuple elts kk tp) (Xy sq sr a b) [z,TI,TO,i1,i2] z (Qi isIt isJt z TI TO i1 i2 a b) where
 mem:=BE ..
 obj:=fun i h st c hc=>by
  obtain⟨h1,h2,⟨u,v,h3⟩,h4,h5⟩:=st;simp only[AV,BD,or_false]at hc;rcases hc with rfl | rfl | rfl | rfl | rfl
  .exact⟨_,h1,fun v z=>by cases z⟩
  .exact⟨_,h2,fun v z=>by cases z⟩
  .exact⟨_,h3,fun v z=>by cases z⟩
  .exact oI _ _ _ _ h4
  .exact oJ _ _ _ _ h5
 keep:=fun i h h' st k=>by
  obtain⟨h1,h2,⟨u,v,h3⟩,h4,h5⟩:=st;exact⟨k z (by simp) _ h1,k TI (by simp) _ h2,⟨u,v,k TO (by simp) _ h3⟩,kI _ _ _ _ _ h4 (k i1 (by simp)),kJ _ _ _ _ _ h5 (k i2 (by simp))⟩
 item:=by
  intro X hP hw hK hc i pins s σ H E I hf st hg;subst hP hw;obtain⟨xs,ys,x,y,hq,hr,hle,hx,hy⟩:=hg;obtain⟨its,rv,p⟩:=gI _ _ _ _ _ _ _ hK I hq;obtain⟨jts,rw_,p'⟩:=gJ _ _ _ _ _ _ _ hK I hr;obtain⟨u,hu,ru⟩:=rv.get hx;obtain⟨v,hv,rv'⟩:=rw_.get hy;have hl:=rv.length;have hl':=rw_.length;have W:=WI X.A (I.ok.hd hc) its.toArray jts.toArray (by rw[AR,AR,<-hl,<-hl'];exact hle);have hi:i<its.toArray.size:=by rw[AR];exact(AH.mp hu).1
  obtain⟨s1,s2,s3,s4,s5⟩:=id st;refine W.item i s _ _ hi ⟨s1,s2,s3,s4,s5,p,p'⟩ fun T vals h' tk hvs hT ht hm k=>?_;obtain⟨x',y',hx',hy',rfl⟩:=hvs;have ex:x'=u:=BI (hx'.symm.trans ((FU ..).trans hu));have ey:y'=v:=BI (hy'.symm.trans ((FU ..).trans hv));subst ex ey;refine⟨.ref T,rfl,W.go elts kk tp i T _ _ _ hm fun h2 st2 k2=>?_⟩;have kk2:∀b o,b∉[z,TI,TO,i1,i2]->s.heap.get? b=some o->h2.get? b=some o:=fun c o hc' ec=>by
   have n4:c∉[z,TO,i1,i2]:=fun m=>hc' (by
    simp only[AV,BD,or_false]at m⊢;exact m.imp_right .inr)
   exact k2 c o n4 (k c o n4 ec)
  have hT2:h2.IsTuple T #[x',y']:=ht.at fun o e=>k2 T o (W.apart i T h' hm) e;have gone:∀c∈[z,TI,TO,i1,i2],∃ob,s.heap.get? c=some ob:=fun c hc'=>by
   obtain⟨u3,v3,h3⟩:=s3;obtain⟨o4,h4,_⟩:=oI _ _ _ _ s4;obtain⟨o5,h5,_⟩:=oJ _ _ _ _ s5;simp only[AV,BD,or_false]at hc';rcases hc' with rfl | rfl | rfl | rfl | rfl
   .exact⟨_,s1⟩
   .exact⟨_,s2⟩
   .exact⟨_,h3⟩
   .exact⟨_,h4⟩
   .exact⟨_,h5⟩
  refine⟨.ref T,upd H T (.tup [x,y]),I.turnLaid (fp:=[z,TI,TO,i1,i2]) kk2 hf gone hT ⟨?_,[x',y'],.cons ru (.cons rv' .nil),hT2⟩,rfl,⟨T,x,y,rfl,I.hok.fresh hT,rfl,fun zs hz=>by rw[uI _ _ _ _ _ _ _ _ hK I hz hq];exact hx,fun zs hz=>by rw[uJ _ _ _ _ _ _ _ _ hK I hz hr];exact hy⟩,⟨st2.1,st2.2.1,st2.2.2.1,st2.2.2.2.1,st2.2.2.2.2.1⟩,fun c hc'=>?_⟩
  .show 2<=sizeLine;decide
  .obtain⟨ob,eb⟩:=gone c hc';rw[B5 (A_ (BH (AG eb) hT))];exact(hf c hc').1
 done:=by
  intro X hP hw hK hc i pins s σ H E I hf st hg;subst hP hw;obtain⟨xs,ys,hq,hr,hle,hx⟩:=hg;obtain⟨its,rv,p⟩:=gI _ _ _ _ _ _ _ hK I hq;obtain⟨jts,rw_,p'⟩:=gJ _ _ _ _ _ _ _ hK I hr;have hl:=rv.length;have hl':=rw_.length;have W:=WI X.A (I.ok.hd hc) its.toArray jts.toArray (by rw[AR,AR,<-hl,<-hl'];exact hle);have hi:i=its.toArray.size:=by rw[AR,<-hl,hx]
  obtain⟨s1,s2,s3,s4,s5⟩:=id st;rw[hi]at s4 s5;refine W.done s _ _ ⟨s1,s2,s3,s4,s5,p,p'⟩ fun h' tk k=>⟨rfl,?_⟩;have nf:∀b u,H b=some u->b∉[z,TI,TO,i1,i2]:=fun b u e hb=>by rw[(hf b hb).1]at e;cases e
  have k':∀c o,c∉[z,TI,TO,i1,i2]->s.heap.get? c=some o->h'.get? c=some o:=fun c o hc' ec=>k c o (fun m=>hc' (by
    simp only[AV,BD,or_false]at m⊢;exact m.imp_right .inr)) ec
  refine I.step (h':=h') (H':=H) (t':=tk) (g':=s.gens) (d':=s.drawn) (ch:=[z,TI,TO,i1,i2]) (fun b hb=>let⟨_,f1,_,f3,f4,f5⟩:=hf b hb;⟨f3,f1,f4,f5⟩) (fun b ob _ _ hc e _=>k' b ob hc e) (fun b ob _ _ hc e _=>⟨ob.slots,k' b ob hc e⟩) (fun _ _ _ _ n=>n)
   (fun b ob hc e=>⟨ob,k' b ob hc e⟩) (fun _ _ e=>e) (fun _ _ _ e=>e) (fun b ps e=>⟨#[],by rw[e];simp⟩) (fun m hm=>?_) (fun b u eb=>?_) I.bare
  .obtain⟨ob,es,ep,ho,r⟩:=hm;exact⟨ob,es,ep,k' _ ob (fun hb=>(hf _ hb).2.1 rfl) ho,r⟩
  .refine(I.hok b u eb).stay (fun c v hc q=>k' c v ?_ q) (fun _ q=>q) fun _ _ q=>q;rcases hc with z | z
   .rw[z];exact nf b u eb
   .exact nf c _ z
 self:=fun A i s Q E st h=>IL st.1 h
theorem Lp(z TI TO i1 i2 a b:Addr)(D:ZipApart z TI TO i1 i2 a b):Turn P w K (.Tuple elts kk tp) (Xy (SqL K) (SqL K) a b) [z,TI,TO,i1,i2] z (Qi Heap.IsListIter Heap.IsListIter z TI TO i1 i2 a b) :=
 Fs (isq:=Heap.IsList) (isr:=Heap.IsList) (fun h c l i ⟨o,e,_,d⟩=>⟨o,e,fun v z=>by rw[d]at z;cases z⟩) (fun h h' c l i z k=>z.at k) (fun h c l i ⟨o,e,_,d⟩=>⟨o,e,fun v z=>by rw[d]at z;cases z⟩) (fun h h' c l i z k=>z.at k)
  (fun X pins σ H s c xs hK I hq=>by subst hK;obtain⟨its,rv,p,_⟩:=I.list hq;exact⟨its,rv,p.isList⟩) (fun X pins σ H s c xs ys hK I hq hr=>by subst hK;exact I.list_inj hq hr) (fun X pins σ H s c xs hK I hq=>by subst hK;obtain⟨its,rv,p,_⟩:=I.list hq;exact⟨its,rv,p.isList⟩) (fun X pins σ H s c xs ys hK I hq hr=>by subst hK;exact I.list_inj hq hr)
  z TI TO i1 i2 a b fun A hA xs ys hl=>by
   have W:=WalksT.zip2 (prog:=P) (w:=w) hA z TI TO i1 i2 a b D xs ys
   rwa [FW hl]at W
theorem Pw(z TI TO i1 i2 a b:Addr)(D:ZipApart z TI TO i1 i2 a b):Turn P w K (.Tuple elts kk tp) (Xy (SqL K) (SqT K) a b) [z,TI,TO,i1,i2] z (Qi Heap.IsListIter Heap.IsTupleIter z TI TO i1 i2 a b) :=
 Fs (isq:=Heap.IsList) (isr:=Heap.IsTuple) (fun h c l i ⟨o,e,_,d⟩=>⟨o,e,fun v z=>by rw[d]at z;cases z⟩) (fun h h' c l i z k=>z.at k) (fun h c l i ⟨o,e,_,d⟩=>⟨o,e,fun v z=>by rw[d]at z;cases z⟩) (fun h h' c l i z k=>z.at k)
  (fun X pins σ H s c xs hK I hq=>by subst hK;obtain⟨its,rv,p,_⟩:=I.list hq;exact⟨its,rv,p.isList⟩) (fun X pins σ H s c xs ys hK I hq hr=>by subst hK;exact I.list_inj hq hr) (fun X pins σ H s c xs hK I hq=>by subst hK;obtain⟨its,rv,p,_⟩:=I.tuple hq;exact⟨its,rv,p⟩) (fun X pins σ H s c xs ys hK I hq hr=>by subst hK;exact I.tuple_inj hq hr)
  z TI TO i1 i2 a b fun A hA xs ys hl=>Wq hA z TI TO i1 i2 a b D xs ys hl
end
section
variable{X:Cx}{elts:List Expr}{kk:Nat}{tp:Pos}
def zEk(K:PySem.W.Frag)(R:It->Hp->Prop)(a b:Addr)(xs ys:List V)(H:Hp):Prop:=SqL K H a xs/\SqL K H b ys/\R (Xy (SqL K) (SqL K) a b) H\/SqL K H a xs/\SqT K H b ys/\R (Xy (SqL K) (SqT K) a b) H
def zBz(K:PySem.W.Frag)(ta:TA):TI:=fun σ H R=>ta σ H fun vs H1=>∃a b xs ys,vs = [.ref a,.ref b]/\zEk K R a b xs ys H1
theorem Vu{a b:Expr}{ta:TA}{p pos:Pos}(hg:Gl X "zip")(hm:X.mg "zip" = none)(ha:PA X [a,b] ta)(hs:starEach [a,b] X.env =(false,eval a X.env)::starEach [b] X.env:=by rfl)(hpl:(backTo pos (starEach [b] X.env)).any (·.1)=false:=by rfl):PI X (.Tuple elts kk tp) (.Call (.Name "zip" p) [a,b] [] pos) (zBz X.K ta):=by
 intro pins s σ H R I h;refine Call_ (T1 I hg hm Wn (PyProof.Rows.callWith_type1 (thn (ha pos pins s σ H _ I h) fun us s1 ⟨vs,H1,I1,r1,q1⟩=>?_) hs hpl));obtain⟨l,m,xs,ys,e,q⟩:=q1;subst e;obtain⟨u,v,rfl,ru,rv⟩:=r1.two;cases ru;cases rv;have fpk:∀c∈[s1.heap.objs.size+4,s1.heap.objs.size+2,s1.heap.objs.size+3,s1.heap.objs.size,s1.heap.objs.size+1],Bu X pins H1 c:=fun c hc=>by
  have hc':s1.heap.objs.size<=c:=by
   simp only[AV,BD,or_false]at hc;rcases hc with rfl | rfl | rfl | rfl | rfl
   .exact CY ..
   .exact CY ..
   .exact CY ..
   .exact Nat.le_refl _
   .exact CY ..
  exact I1.fpOk hc' (I1.hok.fresh hc')
 rcases q with⟨hq,hr,q⟩ | ⟨hq,hr,q⟩
 .obtain⟨its,rx,pl,hz⟩:=I1.list hq;obtain⟨jts,ry,pm,hz'⟩:=I1.list hr;have a1:l<s1.heap.objs.size:=by obtain⟨_,e,_⟩:=pl.isList;exact AG e
  have a2:m<s1.heap.objs.size:=by obtain⟨_,e,_⟩:=pm.isList;exact AG e
  refine call_zip_2 pl.isList pm.isList fun h' g1 g2 g3 g4 g5 hsz k=>IL g1 ?_;exact⟨s1.heap.objs.size+4,_,_,_,H1,rfl,I1.kept (t':=s1.toks) k,Lp _ _ _ _ _ l m (zipApart_new a1 a2),⟨g1,g2,⟨_,_,g3⟩,g4,g5⟩,fpk,q⟩
 .obtain⟨its,rx,pl,hz⟩:=I1.list hq;obtain⟨jts,ry,pm,hz'⟩:=I1.tuple hr;have a1:l<s1.heap.objs.size:=by obtain⟨_,e,_⟩:=pl.isList;exact AG e
  have a2:m<s1.heap.objs.size:=by obtain⟨_,e,_⟩:=id pm;exact AG e
  refine Nq pl.isList pm fun h' g1 g2 g3 g4 g5 k=>IL g1 ?_;exact⟨s1.heap.objs.size+4,_,_,_,H1,rfl,I1.kept (t':=s1.toks) k,Pw _ _ _ _ _ l m (zipApart_new a1 a2),⟨g1,g2,⟨_,_,g3⟩,g4,g5⟩,fpk,q⟩
variable(K:PySem.W.Frag)
theorem zGf{a b:Expr}{ta:TA}{p pos:Pos}(hm:X.mg "zip" = none)(ha:PA X [a,b] ta)(hg:Gl X "zip":=by rfl)(hs:starEach [a,b] X.env =(false,eval a X.env)::starEach [b] X.env:=by rfl)(hpl:(backTo pos (starEach [b] X.env)).any (·.1)=false:=by rfl)(hK:X.K=K:=by rfl):PI X (.Tuple elts kk tp) (.Call (.Name "zip" p) [a,b] [] pos) (zBz K ta):=by subst hK;exact Vu hg hm ha hs hpl
end
def zCk(i:Nat)(f:Addr)(sp:Sp)(E:XK)(t:TA):TE:=fun σ H Q=>σ[i]?=some (some (.ref f))/\Lg sp [] E t σ H Q
section
variable{X:Cx}{CX:CXT}{k:Nat}{f:Addr}{fd:FuncData}{ps:List Str}{sp:Sp}{x:Str}{e:Expr}{es:List Expr}{t:TA}{p pos:Pos}{E:XK}{ds:List Value}
theorem Ji{i:Nat}(F:FnOk X.prog X.w X.K X.mg X.base CX k f fd ps sp)(hr:Room k X.A)(hk:PySem.W.keepIn X.K (.ref f)=true)(hb:Binds X.K fd ps [])(hx:S2 CX X E)
  (ha:PA X (e::es) t) (hN:X.N[i]?=some x:=by rfl) (hv:Vis X.env.scope x:=by first | exact Or.inl rfl | exact Or.inr (Or.inl rfl) | exact Or.inr (Or.inr rfl)) (hdb:(x ==("__debug__":Str))=false:=by decide) (hcd:(x ==("__classdict__":Str))=false:=by decide)
  (he:starEach (e::es) X.env =(false,eval e X.env)::starEach es X.env:=by rfl) (hpl:(backTo pos (starEach es X.env)).any (·.1)=false:=by rfl) :
  PE X (.Call (.Name x p) (e::es) [] pos) (zCk i f sp E t):=by
 intro pins s σ H Q I h;obtain⟨e1,h⟩:=h;refine DE (thn (Vq (i:=i) (pos:=p) hN hv hdb hcd pins s σ H (fun v H'=>v = .ref f/\H'=H) I ⟨_,e1,rfl,rfl⟩) fun u s1 ⟨v,H1,I1,r1,e2,e3⟩=>?_);subst e2 e3;cases r1;refine PySem.W.callWith_K (h₀:=X.base) I1.ok.mod.kin hk (thn (ha pos pins s1 σ H1 _ I1 h) fun us s2 ⟨vs,H2,I2,r,q⟩=>⟨I2.kIn,?_⟩) he hpl;exact Fg F hr hb .nil hx I2 r q
end
end L2
namespace TS
open PySem PyProof.Rows
def lexB:List (List Nat)->List (List Nat)->Bool
 | _,[]=>false
 | [],_::_=>true
 | x::a,y::b=>decide (x<y)||(decide (x=y)&&lexB a b)
theorem lexB_cons{x y:List Nat}{a b:List (List Nat)}:lexB (x::a) (y::b)=true↔x<y\/(x=y/\lexB a b=true):=by
 rw[lexB];simp
theorem V2(a:List (List Nat)):lexB a []=false:=by cases a<;>rfl
theorem t3:∀a,lexB a a=false
 | []=>rfl
 | x::a=>by
  rw[BM];intro z;rcases lexB_cons.mp z with z | ⟨_,z⟩
  .exact FP _ z
  .rw[t3 a]at z;cases z
theorem Ar:∀a b c,lexB a b=true->lexB b c=true->lexB a c=true
 | _,[],_,h,_=>by rw[V2]at h;cases h
 | _,_::_,[],_,h=>by rw[V2]at h;cases h
 | [],_::_,_::_,_,_=>rfl
 | x::a,y::b,z::c,h1,h2=>by
  rw[lexB_cons]at *;rcases h1 with h1 | ⟨h1,h1'⟩
  .rcases h2 with h2 | ⟨h2,_⟩
   .exact .inl (HL h1 h2)
   .exact .inl (h2▸h1)
  .rcases h2 with h2 | ⟨h2,h2'⟩
   .exact .inl (h1▸h2)
   .exact .inr ⟨h1.trans h2,Ar a b c h1' h2'⟩
theorem Jc:∀a b c,lexB a c=true->lexB a b=true\/lexB b c=true
 | _,_,[],h=>by rw[V2]at h;cases h
 | [],[],_::_,_=>.inr rfl
 | _::_,[],_::_,_=>.inr rfl
 | [],_::_,_::_,_=>.inl rfl
 | x::a,y::b,z::c,h=>by
  rw[lexB_cons]at h;simp only[lexB_cons];rcases tri x y with q | q | q
  .exact .inl (.inl q)
  .rcases h with h | ⟨h,h'⟩
   .exact .inr (.inl (q▸h))
   .rcases Jc a b c h' with r | r
    .exact .inl (.inr ⟨q,r⟩)
    .exact .inr (.inr ⟨q▸h,r⟩)
  .rcases h with h | ⟨h,_⟩
   .exact .inr (.inl (HL q h))
   .exact .inr (.inl (h▸q))
theorem As:∀a b,lexB a b=false->lexB b a=false->a=b
 | [],[],_,_=>rfl
 | [],_::_,h,_=>by cases h
 | _::_,[],_,h=>by cases h
 | x::a,y::b,h1,h2=>by
  rw[BM]at h1 h2;rcases tri x y with q | q | q
  .exact absurd (lexB_cons.mpr (.inl q)) h1
  .rw[q,As a b (BM.mpr fun z=>h1 (lexB_cons.mpr (.inr ⟨q,z⟩))) (BM.mpr fun z=>h2 (lexB_cons.mpr (.inr ⟨q.symm,z⟩)))]
  .exact absurd (lexB_cons.mpr (.inl q)) h2
def lexKey(tab:List (Addr×List (List Nat))):Value->Option (List (List Nat))
 | .ref a=>(tab.find? fun q=>decide (q.1=a)).map fun q=>q.2
 | _=>none
@[reducible] def lexKind(tab:List (Addr×List (List Nat))):PyProof.Rows.KeyKind where
 α:=List (List Nat)
 blt:=lexB
 irrefl:=t3
 trans:=Ar
 negTrans:=Jc
 total:=As
 keyOf:=lexKey tab
 dflt:=[]
theorem lexKey_mem{tab:List (Addr×List (List Nat))}{v:Value}{k:List (List Nat)}(h:lexKey tab v=some k):∃q∈tab,v = .ref q.1/\q.2=k:=by
 match v,h with
 | .ref a,h =>
  obtain⟨q,e,hk⟩:=BU.mp h;exact⟨q,List.mem_of_find?_eq_some e,by rw[BN (List.find?_some (p:=fun q:Addr×List (List Nat)=>decide (q.1=a)) e)],hk⟩
theorem lexKey_some{tab:List (Addr×List (List Nat))}{q:Addr×List (List Nat)}(h:q∈tab):∃k,lexKey tab (.ref q.1)=some k:=by
 show ∃k,(tab.find? fun r=>decide (r.1=q.1)).map (fun r=>r.2)=some k;cases e:tab.find? fun r=>decide (r.1=q.1)with
 | none=>exact absurd (AZ rfl) (List.find?_eq_none.mp e _ h)
 | some r=>exact⟨r.2,rfl⟩
open PySem.SeqAt PySem.MeetsSeq PySem.MeetsSeq3
open AutoSeq1 (wpAny_loadPart')
def Its(items:Array Value)(as:List Str):Prop:=items.size=as.length/\∀(j:Nat) (x:Str),as[j]?=some x->∃t,items[j]?=some (.str x t)
abbrev kyS(as:List Str):List (List Nat):=as.map fun x=>x.cps.toList
theorem Gg(l b:Addr)(items items2:Array Value)(n n2:Nat)(as bs:List Str)(ha:Its items as)(hb:Its items2 bs)(k:Nat) :
  ∀i:Nat,as.length-i=k->i<=as.length->i<=bs.length->Meets (Builtin.«list.__eq__.loop» ⟨[.ref l,.ref b,rawInt i,rawInt 0],[]⟩)
   (fun A R s=>s.heap.get? l=some (seqObj "list" items n)/\s.heap.get? b=some (seqObj "list" items2 n2)/\R (.ok (.ret (.bool (lexB (kyS (as.drop i)) (kyS (bs.drop i)))))) s):=by
 induction k with
 | zero =>
  intro i hk h1 h2 prog w A R s h;obtain⟨hp,g,d,tk,os⟩:=s;obtain⟨hl,hbb,h⟩:=h;wp_walk using BF hl,BF hbb;have hi1:items[((i:Nat):Int).toNat]?=none:=by have:=ha.1;simp;omega
  rw[hi1];have e:lexB (kyS (as.drop i)) (kyS (bs.drop i))=decide (items.size<items2.size):=by
   rw[ha.1,hb.1,EN (by omega)];by_cases c:i<bs.length
   .rw[AZ (by omega),CG c];rfl
   .rw[AN (by omega),EN (by omega)];rfl
  rw[e]at h;wp_walk using BF hl,BF hbb;exact h
 | succ k ih =>
  intro i hk h1 h2 prog w A R s h;obtain⟨hp,g,d,tk,os⟩:=s;obtain⟨hl,hbb,h⟩:=h;wp_walk using BF hl,BF hbb;have hlt:i<as.length:=by omega
  obtain⟨t,et⟩:=ha.2 i as[i] (AC hlt);have hi1:items[((i:Nat):Int).toNat]?=some (.str as[i] t):=by simpa using et
  by_cases c:i<bs.length
  .obtain⟨u,eu⟩:=hb.2 i bs[i] (AC c);have hi2:items2[((i:Nat):Int).toNat]?=some (.str bs[i] u):=by simpa using eu
   have hc:((i:Int)+1) =((i+1:Nat):Int):=by push_cast;rfl
   rw[CG hlt,CG c]at h;have h:R (.ok (.ret (.bool (decide (as[i].cps.toList<bs[i].cps.toList)||(decide (as[i].cps.toList=bs[i].cps.toList)&&lexB (kyS (as.drop (i+1))) (kyS (bs.drop (i+1)))))))) _:=h;rw[hi1,hi2];refine AA (GL ?_);by_cases e:as[i]=bs[i]
   .rw[AZ e];rw[e,AN (FP _),AZ rfl,Bool.false_or,IQ]at h;wp_walk;rw[hc];exact⟨plainId_quiet plain_eq_loop _,GW entry_eq_loop (by
     rw[Around.under_plainId plain_eq_loop _];exact ih (i+1) (by omega) (by omega) (by omega) prog w A R _ ⟨hl,hbb,h⟩)⟩
   .rw[AN e];have ne:as[i].cps.toList≠bs[i].cps.toList:=fun z=>e (by
     have z':=II.mp z;cases hx:as[i];cases hy:bs[i];rw[hx,hy]at z';exact congrArg Str.mk z')
    rw[AN ne,DX,IP]at h;wp_walk using BF hl,BF hbb;rw[hi1,hi2];show wpAny _ _ (richCompare CmpOp.Lt (.str as[i] t) (.str bs[i] u) >>= fun r=>ret r) _ _ _;refine AA (IH (typeIs_str _ _ _) (typeIs_str _ _ _) slot_str_lt (call_str_lt ⟨(by intro z;cases z),AD h⟩) rfl)
  .have hi2:items2[((i:Nat):Int).toNat]?=none:=by have:=hb.1;simp;omega
   rw[hi1,hi2];have e:lexB (kyS (as.drop i)) (kyS (bs.drop i))=decide (items.size<items2.size):=by
    rw[ha.1,hb.1,EN (l:=bs) (by omega),AN (by omega)];exact V2 _
   rw[e]at h;wp_walk using BF hl,BF hbb;exact h
theorem list_lt_gen(l b:Addr)(items items2:Array Value)(n n2:Nat)(as bs:List Str)(ha:Its items as)(hb:Its items2 bs) :
  Meets (Builtin.«list.__lt__» ⟨[.ref l,.ref b],[]⟩)
   (fun A R s=>s.heap.get? l=some (seqObj "list" items n)/\s.heap.get? b=some (seqObj "list" items2 n2)/\R (.ok (.ret (.bool (lexB (kyS as) (kyS bs))))) s):=by
 intro prog w A R s h;obtain⟨hp,g,d,tk,os⟩:=s;obtain⟨hl,hbb,h⟩:=h;have f3:=AutoSeq1.sub_list_list;wp_walk using BF hl,BF hbb;exact⟨plainId_quiet plain_eq_loop _,GW entry_eq_loop (by
  rw[Around.under_plainId plain_eq_loop _];exact Gg l b items items2 n n2 as bs ha hb _ 0 rfl (CD _) (CD _) prog w A R _ ⟨hl,hbb,h⟩)⟩
end TS
namespace L2
open PySem PySem.Spec PyProof.Rows
theorem Uk{l:List Str}{us:List Value}(r:Vals (l.map V.str) us):TS.Its us.toArray l:=by
 induction l generalizing us with
 | nil =>
  cases r;exact⟨rfl,fun j x h=>by rw[List.getElem?_nil]at h;cases h⟩
 | cons y l ih =>
  cases r with
  | cons r1 r2 =>
   obtain⟨t0,rfl⟩:=r1;obtain⟨h1,h2⟩:=ih r2;refine⟨by simp only[AR,BL]at h1⊢;rw[h1],fun j x h=>?_⟩;cases j with
   | zero =>
    rw[HW]at h;cases h;exact⟨t0,rfl⟩
   | succ j =>
    rw[List.getElem?_cons_succ]at h;obtain⟨t,e⟩:=h2 j x h;exact⟨t,by simpa using e⟩
def Yp(ts:List (Addr×List Str)):List (Addr×List (List Nat)):=ts.map fun q=>(q.1,TS.kyS q.2)
theorem Lk{P:Program}{w:World}{s:Shared}{a:Addr}{ts:List (Addr×List Str)}{h0:Heap}(hv:∀q∈ts,∃us,Vals (q.2.map V.str) us/\LAt h0 q.1 us)(hk:∀b o,h0.get? b=some o->b≠a/\s.heap.get? b=some o) :
  TS.Keys2 P w a s (TS.lexKind (Yp ts)) oneType' (ts.map fun q=>Value.ref q.1):=by
 refine⟨fun A s' hu hE=>⟨fun x y k l Q E hx hy q=>?_⟩,fun v hvm=>?_,fun h2 A E s' Q hE q=>?_⟩
 .obtain⟨_,m1,rfl,rfl⟩:=TS.lexKey_mem hx;obtain⟨_,m2,rfl,rfl⟩:=TS.lexKey_mem hy;obtain⟨x,mx,rfl⟩:=AI.mp m1;obtain⟨y,my,rfl⟩:=AI.mp m2;obtain⟨us,v1,n1,e1⟩:=hv x mx;obtain⟨vs,v2,n2,e2⟩:=hv y my;have e1':=hE _ _ (hk _ _ e1).1 (hk _ _ e1).2;have e2':=hE _ _ (hk _ _ e2).1 (hk _ _ e2).2;rw[keyLt'_oneType];exact TS.oneLt_lists (by omega) e1' e2' (TS.list_lt_gen _ _ _ _ _ _ _ _ (Uk v1) (Uk v2)) q
 .obtain⟨q,hq,rfl⟩:=AI.mp hvm;exact TS.lexKey_some (q:=(q.1,TS.kyS q.2)) (AI.mpr ⟨q,hq,rfl⟩)
 .refine PySem.W.kas_kind (T:=.type "list") h2 (fun v hvm=>?_) (by decide) (by decide) q;obtain⟨q,hq,rfl⟩:=AI.mp hvm;obtain⟨us,v1,n1,e1⟩:=hv q hq;exact(PySem.W.Looks.ld (hE _ _ (hk _ _ e1).1 (hk _ _ e1).2)).andThen .now
section
variable{X:Cx}
def Ul(K:PySem.W.Frag):List V->Hp->VK->Prop:=fun xs H Q=>∃(p:Addr) (ts:List (Addr×List Str)),xs = [.ref p]/\SqL K H p (ts.map fun q=>V.ref q.1)/\(∀q∈ts,H q.1=some (.lst (q.2.map V.str))) /\
  ∀(l:Addr) (ts':List (Addr×List Str)),H l=none->ts'.Perm ts->ts'.Pairwise (fun a b=>TS.lexB (TS.kyS b.2) (TS.kyS a.2)=false)->Q (.ref l) (upd H l (.lst (ts'.map fun q=>V.ref q.1)))
theorem Fh(hu:X.A.units+64<cLine):E3 X (.builtin "sorted") (Ul X.K):=by
 intro pins s σ H xs us Q I r h;obtain⟨p,ts,rfl,hq,hpi,q⟩:=h;obtain⟨u,rfl,ru⟩:=Q8 r;cases ru;obtain⟨its,rv,pl,hz⟩:=I.list hq;have ei:=Wp rv;have hl:=rv.length;refine TS.sorted_gen2 (by omega) (collect_list (vs:=its) pl.isList ?_ (by omega));have hsz:((s.heap.push (seqObj "list" #[] 0)).update s.heap.objs.size (Obj.mapSeq (· ++ its.toArray))).objs.size=s.heap.objs.size+1:=by rw[EU,size_push']
 have hk1:∀b o,s.heap.get? b=some o->((s.heap.push (seqObj "list" #[] 0)).update s.heap.objs.size (Obj.mapSeq (· ++ its.toArray))).get? b=some o:=fun b o eb=>by
  rw[HH _ _ _ _ (A_ (AG eb))];exact AE _ eb
 have hpa:∀q∈ts,∃us,Vals (q.2.map V.str) us/\LAt s.heap q.1 us:=fun q hq=>by
  obtain⟨z,its,n,rv,e⟩:=I.hok _ _ (hpi q hq);exact⟨its,rv,n,e⟩
 refine⟨rfl,by omega,TS.lexKind (Yp ts),oneType',fun s2 hE=>?_,fun out h' e ho k hg=>?_⟩
 .rw[ei];refine Lk hpa fun b o eb=>?_;rw[<-ei];have hne:b≠((s.heap.push (seqObj "list" #[] 0)).update s.heap.objs.size (Obj.mapSeq (· ++ its.toArray))).objs.size:=by
   rw[hsz];exact A_ (DV (AG eb))
  exact⟨hne,hE b o hne (hk1 b o eb)⟩
 .obtain⟨hp,hs⟩:=ho;rw[ei]at hp;obtain⟨ts',h1,h2⟩:=P4 (fun q:Addr×List Str=>Value.ref q.1) hp ts rfl;have ky:∀q∈ts,TS.lexKey (Yp ts) (.ref q.1)=some (TS.kyS q.2):=fun q hq=>by
   obtain⟨k,e⟩:=TS.lexKey_some (tab:=Yp ts) (q:=(q.1,TS.kyS q.2)) (AI.mpr ⟨q,hq,rfl⟩);obtain⟨_,m,e1,e2⟩:=TS.lexKey_mem e;obtain⟨r,mr,rfl⟩:=AI.mp m;have e1:q.1=r.1:=Value.ref.inj e1;have e3:=(hpi q hq).symm.trans ((congrArg H e1).trans (hpi r mr));have e4:q.2=r.2:=Jd (HO.lst.inj (BI e3));rw[e,<-e2,e4]
  have hpw:ts'.Pairwise (fun a b=>TS.lexB (TS.kyS b.2) (TS.kyS a.2)=false):=by
   rw[h2,BQ]at hs;refine(DH.mp hs).imp fun{a b} ⟨ha,hb,z⟩=>?_;have z':TS.lexB ((TS.lexKey (Yp ts) (.ref b.1)).getD []) ((TS.lexKey (Yp ts) (.ref a.1)).getD [])=false:=z;rw[ky a (h1.mem_iff.mp ha),ky b (h1.mem_iff.mp hb)]at z';exact z'
  have hn:H (s.heap.objs.size+1)=none:=I.hok.fresh (CV _);have hg':h'.get? (s.heap.objs.size+1)=some (seqObj "list" out e):=by rw[<-hsz];exact hg
  refine⟨.ref (s.heap.objs.size+1),upd H (s.heap.objs.size+1) (.lst (ts'.map fun q=>V.ref q.1)),?_,by show Value.ref _=_;rw[<-hsz],q _ _ hn h1 hpw⟩;refine I.laid (t':=s.toks) (fun b o eb=>k b o (hk1 b o eb)) (CV _) ⟨?_,out.toList,e,by rw[h2];exact Ya ts',by simpa using hg'⟩;rw[AB,h1.length_eq];rw[AB]at hz;exact hz
theorem Jl(K:PySem.W.Frag)(hu:X.A.units+64<cLine)(hK:X.K=K:=by rfl):E3 X (.builtin "sorted") (Ul K):=by subst hK;exact Fh hu
end
def Iy(v d:Addr):HO:=.ext fun h=>h.IsValuesView v d
def Itv(d:Addr)(o:Obj)(kvs:List (Key×V)):It :=
 ⟨fun i H=>H d=some (.frz o (.dK kvs))/\i<kvs.length,fun i H x H'=>H'=H/\∃k,kvs[i]?=some (k,x),fun i H=>H d=some (.frz o (.dK kvs))/\kvs.length<=i⟩
theorem KV.atV{kvs:List (Key×V)}{vs:List (Key×Value)}(h:KV kvs vs):∀{i:Nat} {k:Key} {v:V},kvs[i]?=some (k,v)->∃u,vs[i]?=some (k,u)/\RelV v u:=by
 induction h with
 | nil=>intro i k v e;rw[List.getElem?_nil]at e;cases e
 | cons r _ ih =>
  intro i k v e;cases i with
  | zero =>
   rw[HW]at e⊢;cases e;obtain⟨a,b⟩:=r;exact⟨_,by rw[show k=_ from a],b⟩
  | succ i=>exact ih e
section
variable{X:Cx}{tg:Expr}
def zDc(td:TE):TE:=fun σ H Q=>td σ H fun x H1=>∃a kvs,x = .ref a/\H1 a=some (.dK kvs)/\∀v,H1 v=none->Q (.ref v) (upd H1 v (Iy v a))
theorem Pc{o:Expr}{apos cpos:Pos}{td:TE}(ho:PE X o td)(hbase:attributeBase o "values" X.env (eval o X.env)=eval o X.env:=by rfl)(hline:(apos.endLine == cpos.line)=true:=by rfl):PE X (.Call (.Attribute o "values" apos) [] [] cpos) (zDc td):=by
 intro pins s σ H Q I h;refine wpAny_Call_method0_late hbase hline (thn (ho pins s σ H _ I h) fun v s1 ⟨x,H1,I1,r1,a,kvs,ex,ea,q1⟩=>?_);subst ex;obtain rfl:v=Value.ref a:=r1;obtain⟨z,hd,vs,rel,dd⟩:=zCd I1.hok ea;obtain⟨t1,t2,_⟩:=zCf I1 (.inl ⟨kvs,.inl ea⟩);refine⟨"dict", "dict.values",PySem.F.plainAttrs_dict,PySem.F.slot_dict_values,PySem.F.type_dict_values,t1,t2,Calls.callWith_builtin rfl (PySem.evalArgs_none ?_)⟩;refine call_meetsIn PySem.F.slot_dict_values dd.typeIs PySem.F.entry_dict_values (PySem.F.args_dict_values_1 _) (meets_dict_values (B9 X.prog X.w) a hd) ⟨⟨vs,dd⟩,?_⟩;exact⟨.ref s1.heap.objs.size,upd H1 _ (Iy _ a),I1.laid (t':=s1.toks) (fun b o eb=>AE _ eb) (Nat.le_refl _) ⟨⟨_,AM _ rfl,rfl,rfl⟩,⟨_,AM _ rfl⟩,fun h1 h2 ⟨o,e,r⟩ k=>⟨o,k o e,r⟩⟩,rfl,q1 _ I1.fresh⟩
theorem Nd{P:Program}{w:World}{K:PySem.W.Frag}{d it:Addr}{o:Obj}{kvs:List (Key×V)}{es:Array DictEntry}{ep:Nat}(hd:o.data = .dict es ep):Turn P w K tg (Itv d o kvs) [it] it (fun i h=>h.IsValIter it d i kvs.length ep) where
 mem:=by simp
 obj:=fun i h st b hb=>by
  have e:b=it:=by simpa using hb
  subst e;obtain⟨o,e,c,d⟩:=st;exact⟨o,e,fun v z=>by rw[d]at z;cases z⟩
 keep:=fun i h h' st k=>by
  obtain⟨o,e,r⟩:=st;exact⟨o,k it (by simp) o e,r⟩
 item:=by
  intro X hP hw hK hc i pins s σ H E I hf st hg;subst hP hw hK;obtain⟨hq,hi⟩:=hg;obtain⟨f0,f1,f2,f3,f4,f5⟩:=hf it (by simp);obtain⟨ho,hz,hS,vs,r,ob,es',ep',e1,c1,d1,m1⟩:=(show ObjOk X.prog X.w H s.heap d (.frz o (.dK kvs))from I.hok d _ hq);rw[ho]at e1;cases e1;rw[hd]at d1;cases d1;have hx:kvs[i]?=some (kvs[i].1,kvs[i].2):=AC hi;obtain⟨u,hu,ru⟩:=r.atV hx;have hl:kvs.length=vs.length:=r.length;rw[hl]at st;refine wpAny_pyNext_values_item (knd:=B9 X.prog X.w) st ⟨o,es,ho,c1,hd,m1⟩ hu fun h' st' sb=>?_;have I1:Inv X pins σ H { s with heap:=h' }:=I.turned (t':=s.toks) (fun b o hb e=>(sb.2 b hb).trans e) f0 f1 f3 f4 f5;obtain⟨oi,ei,ci,di⟩:=id st';rw[<-hl]at st';exact⟨u,rfl,Kf (s:={ s with heap:=h' }) ei ci di (by decide) ⟨kvs[i].2,H,I1,ru,⟨rfl,_,hx⟩,st',fun b hb=>(hf b hb).1⟩⟩
 done:=by
  intro X hP hw hK hc i pins s σ H E I hf st hg;subst hP hw hK;obtain⟨hq,hi⟩:=hg;obtain⟨f0,f1,f2,f3,f4,f5⟩:=hf it (by simp);obtain⟨ho,hz,hS,vs,r,ob,es',ep',e1,c1,d1,m1⟩:=(show ObjOk X.prog X.w H s.heap d (.frz o (.dK kvs))from I.hok d _ hq);rw[ho]at e1;cases e1;rw[hd]at d1;cases d1;have hl:kvs.length=vs.length:=r.length;rw[hl]at st hi;exact wpAny_pyNext_values_end (knd:=B9 X.prog X.w) (I.ok.hd hc) st ⟨o,es,ho,c1,hd,m1⟩ (DR hi) fun h' eb=>⟨rfl,I.turned (t':=s.toks) (fun b o hb e=>eb b o hb e) f0 f1 f3 f4 f5⟩
 self:=fun _ _ _ _ _ st h=>wpAny_pyIter_valiter st h
def zFx(tl:TE):TI:=fun σ H R=>tl σ H fun x H1=>∃v d kvs,x = .ref v/\H1 v=some (Iy v d)/\H1 d=some (.dK kvs)/\∀o,R (Itv d o kvs) (upd H1 d (.frz o (.dK kvs)))
theorem zAe{l:Expr}{tl:TE}(hl:PE X l tl):PI X tg l (zFx tl):=by
 intro pins s σ H R I h;refine thn (hl pins s σ H _ I h) fun v s1 ⟨x,H1,I1,r1,q1⟩=>?_;obtain⟨vw,d,kvs,e,hv,hq,q⟩:=q1;subst e;cases r1;obtain⟨hview,_⟩:=(show ObjOk X.prog X.w H1 s1.heap vw (Iy vw d)from I1.hok vw _ hv);obtain⟨hz,hS,vs,r,o,es,ep,ho,c1,d1,m1⟩:=(show ObjOk X.prog X.w H1 s1.heap d (.dK kvs)from I1.hok d _ hq);have I2:Inv X pins σ (upd H1 d (.frz o (.dK kvs))) { s1 with heap:=s1.heap,toks:=s1.toks }:=I1.write (t':=s1.toks) (by rw[hq];trivial) (.inl rfl) (fun b u _ e=>e) ⟨_,ho⟩ ⟨ho,hz,hS,vs,r,o,es,ep,ho,c1,d1,m1⟩;have hl:kvs.length=vs.length:=r.length;refine wpAny_pyIter_values (knd:=B9 X.prog X.w) (ep:=ep) hview ⟨o,es,ho,c1,d1,m1⟩ ?_;refine⟨s1.heap.objs.size,[s1.heap.objs.size],_,_,upd H1 d (.frz o (.dK kvs)),rfl,I2.kept (t':=s1.toks) fun b o e=>AE _ e,Nd d1,?_,fun b hb=>?_,q o⟩
 .rw[hl];exact⟨_,AM _ rfl,rfl,rfl⟩
 have e:b=s1.heap.objs.size:=by simpa using hb
 subst e;exact I2.fpOk (Nat.le_refl _) (I2.hok.fresh (Nat.le_refl _))
theorem t5(ns:List Int):∀{n:Nat},n<=ns.length->preSum (fun i=>ns.getD i 0) n =(ns.take n).sum
 | 0,_=>rfl
 | n+1,h=>by
  have e:ns[n]?=some ns[n]:=AC (by omega);show preSum (fun i=>ns.getD i 0) n+ns.getD n 0=_;rw[t5 ns (by omega),List.take_succ,List.sum_append,AS,e];simp
def zEd:List V->Hp->VK->Prop:=fun xs H Q=>∃(v d:Addr) (kvs:List (Key×V)) (ns:List Int),xs = [.ref v]/\H v=some (Iy v d)/\H d=some (.dK kvs)/\(kvs.map fun q=>q.2)=ns.map V.int/\Q (.int ns.sum) H
theorem Xb(hc:X.calm=true:=by rfl):E3 X (.builtin "sum") zEd:=by
 intro pins s σ H xs us Q I r h;obtain⟨v,d,kvs,ns,rfl,hv,hq,hn,q⟩:=h;obtain⟨u,rfl,ru⟩:=Q8 r;cases ru;obtain⟨hview,_⟩:=(show ObjOk X.prog X.w H s.heap v (Iy v d)from I.hok v _ hv);obtain⟨hz,hS,vs,r,o,es,ep,ho,c1,d1,m1⟩:=(show ObjOk X.prog X.w H s.heap d (.dK kvs)from I.hok d _ hq);have hl:kvs.length=vs.length:=r.length;have hln:kvs.length=ns.length:=by have:=congrArg List.length hn;rw[AB,AB]at this;exact this
 refine call_sum_walkG (wpAny_pyIter_values (knd:=B9 X.prog X.w) (ep:=ep) hview ⟨o,es,ho,c1,d1,m1⟩ ?_);have hdI:d≠s.heap.objs.size:=A_ (AG ho);refine⟨s.heap.objs.size,_,_,vs.length,_,_,fun i=>ns.getD i 0,rfl,Walks.dictValues (knd:=B9 X.prog X.w) (by simp only[Around.in1_handled];exact I.ok.hd hc) s.heap.objs.size d hdI vs ep,⟨⟨_,AM _ rfl,rfl,rfl⟩,o,es,AE _ ho,c1,d1,m1⟩,fun b hb=>?_,fun i u ⟨k,hk⟩=>?_,fun h' tk t' kp=>⟨.int ns.sum,H,I.kept (t':=tk) fun b o e=>kp b o (by simpa using A_ (AG e)) (AE _ e),⟨t',?_⟩,q⟩⟩
 .rw[DK];rcases AV.mp hb with rfl | hb
  .exact FM _
  .rw[AF.mp hb];exact DV (AG ho)
 .have hi:i<vs.length:=(AH.mp hk).1;have hx:kvs[i]?=some (kvs[i].1,kvs[i].2):=AC (by omega);obtain⟨u',hu,ru⟩:=r.atV hx;rw[hk]at hu;cases hu;have e:=congrArg (fun l=>l[i]?) hn;rw[AJ,AJ,hx,AC (by omega:i<ns.length)]at e;have e:kvs[i].2=V.int ns[i]:=BI e;rw[e]at ru;obtain⟨t,rfl⟩:=ru;exact⟨t,by show Value.int ns[i] t=Value.int (ns.getD i 0) t;rw[AS,AC (by omega:i<ns.length)];rfl⟩
 .have:preSum (fun i=>ns.getD i 0) vs.length=ns.sum:=by
   rw[t5 _ (by omega),DD (by omega)]
  rw[this]
end
section
variable{X:Cx}{i:Nat}{x:Str}{e:Expr}{pos pos':Pos}
theorem Xe{t:XK->TE}(hN:X.N.Nodup)(hi:X.N[i]?=some x)(hx:Loc X.env.scope x)(he:PEx X e t)(hs:swapsWith e (some (.Name x pos')) pos.line X.env=pure false:=by rfl)(hf:X.fn x=true\/X.env.scope.names.lookup x=some .local:=by first | exact .inl rfl | exact .inr rfl | assumption) :
  PSx X [.Assign [.Name x pos'] e pos] (fun E=>Zg (t E) (K9 i)):=by
 intro pins s σ H D E I h;refine wpAny_execs_cons (wpAny_Assign_Name (BR (he pins s σ H _ E I h) (fun v s1 ⟨y,H1,I1,r1,q1⟩=>?_) fun _ _ z=>z) hs);exact T3 I1 hN hi hx r1 (fun s2 I2=>GT ⟨_,H1,I2,q1⟩) hf
end
section
variable{X:Cx}
theorem zDs:PIp X .BitOr (ipI fun i j=>Builtin.bitOr i j):=by
 intro pins s σ H x y v u Q I r1 r2 h;obtain⟨i,j,e1,e2,q⟩:=h;subst e1;subst e2;obtain⟨t,rfl⟩:=r1;obtain⟨t',rfl⟩:=r2;exact ior_int ⟨.int _,H,I.tok _,⟨_,rfl⟩,q⟩
end
section
variable{X:Cx}{tg:Expr}
def zDb(tl:TE):TI:=fun σ H R=>tl σ H fun x H1=>∃d kvs,x = .ref d/\Rd H1 d (.dK kvs)/\∀o,R (Itd d o kvs) (upd H1 d (.frz o (.dK kvs)))
theorem Tj{H:Hp}{d:Addr}{o:HO}(h:H d=some o):upd H d o=H:=funext fun b=>by
 by_cases e:b=d
 .subst e;rw[A7,h]
 .rw[B5 e]
theorem Wj{l:Expr}{tl:TE}(hl:PE X l tl):PI X tg l (zDb tl):=by
 intro pins s σ H R I h;refine thn (hl pins s σ H _ I h) fun v s1 ⟨x,H1,I1,r1,q1⟩=>?_;obtain⟨d,kvs,e,hq,q⟩:=q1;subst e;cases r1;obtain⟨o,I2,hz,hS,vs,r,es,ep,ho,c1,d1,m1⟩:∃o,Inv X pins σ (upd H1 d (.frz o (.dK kvs))) { s1 with heap:=s1.heap,toks:=s1.toks }/\kvs.length<=sizeLine/\(d == sysModules)=false/\∃vs,KV kvs vs/\∃es ep,s1.heap.get? d=some o/\o.ExactDict/\o.data = .dict es ep/\(PySem.KeysOf (B9 X.prog X.w) es/\Pairs (B9 X.prog X.w) es.toList vs/\(vs.map (·.1)).Nodup):=by
  rcases hq with hq | ⟨o,hq⟩
  .obtain⟨hz,hS,vs,r,o,es,ep,ho,c1,d1,m1⟩:=(show ObjOk X.prog X.w H1 s1.heap d (.dK kvs)from I1.hok d _ hq);exact⟨o,I1.write (t':=s1.toks) (by rw[hq];trivial) (.inl rfl) (fun b u _ e=>e) ⟨_,ho⟩ ⟨ho,hz,hS,vs,r,o,es,ep,ho,c1,d1,m1⟩,hz,hS,vs,r,es,ep,ho,c1,d1,m1⟩
  .obtain⟨ho,hz,hS,vs,r,o',es,ep,ho',c1,d1,m1⟩:=(show ObjOk X.prog X.w H1 s1.heap d (.frz o (.dK kvs))from I1.hok d _ hq);rw[ho]at ho';cases ho';exact⟨o,by rw[Tj hq];exact I1,hz,hS,vs,r,es,ep,ho,c1,d1,m1⟩
 have hl:kvs.length=vs.length:=r.length;refine wpAny_pyIter_dict (knd:=B9 X.prog X.w) (ep:=ep) hS ⟨o,es,ho,c1,d1,m1⟩ ?_;refine⟨s1.heap.objs.size,[s1.heap.objs.size],_,_,upd H1 d (.frz o (.dK kvs)),rfl,I2.kept (t':=s1.toks) fun b o e=>AE _ e,Oc d1,?_,fun b hb=>?_,q o⟩
 .rw[hl];exact⟨_,AM _ rfl,rfl,rfl⟩
 have e:b=s1.heap.objs.size:=by simpa using hb
 subst e;exact I2.fpOk (Nat.le_refl _) (I2.hok.fresh (Nat.le_refl _))
end
end L2
namespace TS
open PySem PyProof.Rows
open PySem.SeqAt PySem.MeetsSeq PySem.MeetsSeq3
open AutoSeq1 (wpAny_loadPart')
theorem Qf{a b:Str}(e:a≠b):a.cps.toList≠b.cps.toList:=fun z=>e (by
 have z':=II.mp z;cases a;cases b;exact congrArg Str.mk z')
set_option maxHeartbeats 2000000 in
theorem Nk(p q:Addr)(n n2:Nat)(dd dd2:Option Addr)(sl sl2:Array (Option Value))(x1 y1 x2 y2:Str)(t1 u1 t2 u2:Tok) :
  Meets (Builtin.«tuple.__lt__» ⟨[.ref p,.ref q],[]⟩)
   (fun A R s=>s.heap.get? p=some { cls:=.type "tuple",dict:=dd,data:=.seq #[.str x1 t1,.str y1 u1] n,slots:=sl }/\s.heap.get? q=some { cls:=.type "tuple",dict:=dd2,data:=.seq #[.str x2 t2,.str y2 u2] n2,slots:=sl2 } /\
    R (.ok (.ret (.bool (pairLt (x1.cps.toList,y1.cps.toList) (x2.cps.toList,y2.cps.toList))))) s):=by
 intro prog w A R s h;obtain⟨hp,g,d,tk,os⟩:=s;obtain⟨hl,hbb,h⟩:=h;have f3:=AutoSeq1.sub_tuple_tuple;wp_walk using BF hl,BF hbb;show wpAny _ _ (eqBool (.str x1 t1) (.str x2 t2)) _ _ _;refine GL ?_;by_cases e:x1=x2
 .rw[AZ e];wp_walk using BF hl,BF hbb;show wpAny _ _ (eqBool (.str y1 u1) (.str y2 u2)) _ _ _;refine GL ?_;by_cases e':y1=y2
  .rw[AZ e'];wp_walk using BF hl,BF hbb;have hz:pairLt (x1.cps.toList,y1.cps.toList) (x2.cps.toList,y2.cps.toList)=false:=by
    unfold pairLt;rw[e,e'];simp[FP]
   rw[hz]at h;exact h
  .rw[AN e'];have hz:pairLt (x1.cps.toList,y1.cps.toList) (x2.cps.toList,y2.cps.toList)=decide (y1.cps.toList<y2.cps.toList):=by
    unfold pairLt;rw[e];simp[FP]
   rw[hz]at h;show wpAny _ _ (richCompare CmpOp.Lt (.str y1 u1) (.str y2 u2) >>= fun r=>ret r >>= fun r=>pure (ForInStep.done (some r,()))) _ _ _;refine AA (IH (typeIs_str _ _ _) (typeIs_str _ _ _) slot_str_lt (call_str_lt ⟨(by intro z;cases z),?_⟩) rfl);exact AD (AD (AD h))
 .rw[AN e];have hz:pairLt (x1.cps.toList,y1.cps.toList) (x2.cps.toList,y2.cps.toList)=decide (x1.cps.toList<x2.cps.toList):=by
   unfold pairLt;simp[Qf e]
  rw[hz]at h;show wpAny _ _ (richCompare CmpOp.Lt (.str x1 t1) (.str x2 t2) >>= fun r=>ret r >>= fun r=>pure (ForInStep.done (some r,()))) _ _ _;refine AA (IH (typeIs_str _ _ _) (typeIs_str _ _ _) slot_str_lt (call_str_lt ⟨(by intro z;cases z),?_⟩) rfl);exact AD (AD (AD h))
section
variable{prog:Program}{w:World}{A:Around}{E:Value->Shared->Prop}{s:Shared}
theorem Xw{v v2:Value}{x1 y1 x2 y2:Str}{Q:Value->Shared->Prop}(hl:PairAt s.heap v x1 y1)(hb:PairAt s.heap v2 x2 y2)(hu:A.units<cLine)
  (h:Q (.bool (pairLt (x1.cps.toList,y1.cps.toList) (x2.cps.toList,y2.cps.toList))) s):wpAny (model prog w) A (richCompare .Lt v v2) Q E s:=by
 obtain⟨p,⟨cls,dd,data,sl⟩,n,t,u,rfl,ho,hc,hd⟩:=hl;obtain⟨p2,⟨cls2,dd2,data2,sl2⟩,n2,t2,u2,rfl,ho2,hc2,hd2⟩:=hb;simp only at hc hd hc2 hd2;subst hc hd hc2 hd2;exact richCompare_meets_room (op:=.Lt) ⟨_,ho,rfl⟩ ⟨_,ho2,rfl⟩ PySem.F.slot_tuple_lt PySem.F.entry_tuple_lt (PySem.F.args_tuple_lt_2 _ _) (Nk p p2 n n2 dd dd2 sl sl2 x1 y1 x2 y2 t u t2 u2)
  ⟨ho,ho2,show Value.bool _≠Value.notImplemented/\_ from⟨(fun x=>nomatch x),h⟩⟩ hu
theorem PairAt.tk{h:Heap}{p:Addr}{x y:Str}(z:PairAt h (.ref p) x y):IsTupleKey (strKind prog w) h [x,y] p:=by
 obtain⟨p,o,n,t,u,e,ho,hc,hd⟩:=z;cases e;exact⟨o,_,n,ho,hc,hd,.cons (show(x == x)=true by simp) (.cons (show(y == y)=true by simp) .nil)⟩
theorem Wh{v v2:Value}{x1 y1 x2 y2:Str}{Q:Bool->Shared->Prop}(hl:PairAt s.heap v x1 y1)(hb:PairAt s.heap v2 x2 y2)(hu:A.units<cLine)
  (h:Q (decide ((x1,y1) =(x2,y2))) s):wpAny (model prog w) A (eqBool v v2) Q E s:=by
 obtain⟨p,o,n,t,u,rfl,_⟩:=id hl;obtain⟨p2,o2,n2,t2,u2,rfl,_⟩:=id hb;refine wpAny_eqBool_tuple hu hl.tk hb.tk ?_;have e:decide ([x1,y1] = [x2,y2])=decide ((x1,y1) =(x2,y2)):=by simp
 rw[e];exact h
end
abbrev kyP(as:List (Str×Str)):List (List Nat):=as.flatMap fun q=>[q.1.cps.toList,q.2.cps.toList]
theorem Pg(p q:Str×Str)(as bs:List (Str×Str)):lexB (kyP (p::as)) (kyP (q::bs)) =(pairLt (p.1.cps.toList,p.2.cps.toList) (q.1.cps.toList,q.2.cps.toList)||(decide (p=q)&&lexB (kyP as) (kyP bs))):=by
 have e1:kyP (p::as)=p.1.cps.toList::p.2.cps.toList::kyP as:=rfl;have e2:kyP (q::bs)=q.1.cps.toList::q.2.cps.toList::kyP bs:=rfl;rw[e1,e2,lexB,lexB];unfold pairLt;obtain⟨a,b⟩:=p;obtain⟨c,d⟩:=q;by_cases h1:a=c
 .subst h1;by_cases h2:b=d
  .subst h2;simp[Bool.or_assoc]
  .simp[h2,Qf h2]
 .simp[h1,Qf h1]
def ItsP(h:Heap)(items:Array Value)(as:List (Str×Str)):Prop:=items.size=as.length/\∀(j:Nat) (q:Str×Str),as[j]?=some q->∃v,items[j]?=some v/\PairAt h v q.1 q.2
theorem Sr(l b:Addr)(items items2:Array Value)(n n2:Nat)(as bs:List (Str×Str))(k:Nat) :
  ∀i:Nat,as.length-i=k->i<=as.length->i<=bs.length->Meets (Builtin.«list.__eq__.loop» ⟨[.ref l,.ref b,rawInt i,rawInt 0],[]⟩)
   (fun A R s=>s.heap.get? l=some (seqObj "list" items n)/\s.heap.get? b=some (seqObj "list" items2 n2)/\A.units+1<cLine/\ItsP s.heap items as/\ItsP s.heap items2 bs/\R (.ok (.ret (.bool (lexB (kyP (as.drop i)) (kyP (bs.drop i)))))) s):=by
 induction k with
 | zero =>
  intro i hk h1 h2 prog w A R s h;obtain⟨hp,g,d,tk,os⟩:=s;obtain⟨hl,hbb,hu,ha,hb,h⟩:=h;wp_walk using BF hl,BF hbb;have hi1:items[((i:Nat):Int).toNat]?=none:=by have:=ha.1;simp;omega
  rw[hi1];have e:lexB (kyP (as.drop i)) (kyP (bs.drop i))=decide (items.size<items2.size):=by
   rw[ha.1,hb.1,EN (by omega)];by_cases c:i<bs.length
   .rw[AZ (by omega),CG c];rfl
   .rw[AN (by omega),EN (by omega)];rfl
  rw[e]at h;wp_walk using BF hl,BF hbb;exact h
 | succ k ih =>
  intro i hk h1 h2 prog w A R s h;obtain⟨hp,g,d,tk,os⟩:=s;obtain⟨hl,hbb,hu,ha,hb,h⟩:=h;wp_walk using BF hl,BF hbb;have hlt:i<as.length:=by omega
  obtain⟨v,et,pa⟩:=ha.2 i as[i] (AC hlt);have hi1:items[((i:Nat):Int).toNat]?=some v:=by simpa using et
  by_cases c:i<bs.length
  .obtain⟨v2,eu,pb⟩:=hb.2 i bs[i] (AC c);have hi2:items2[((i:Nat):Int).toNat]?=some v2:=by simpa using eu
   have hc:((i:Int)+1) =((i+1:Nat):Int):=by push_cast;rfl
   rw[CG hlt,CG c,Pg]at h;rw[hi1,hi2];refine AA (Wh pa pb (show A.units+1<cLine from hu) ?_);by_cases e:as[i]=bs[i]
   .rw[AZ (show(as[i].1,as[i].2) =(bs[i].1,bs[i].2)from e)];have hz:pairLt (as[i].1.cps.toList,as[i].2.cps.toList) (bs[i].1.cps.toList,bs[i].2.cps.toList)=false:=by
     rw[e];unfold pairLt;simp[FP]
    rw[hz,AZ e,Bool.false_or,IQ]at h;wp_walk;rw[hc];exact⟨plainId_quiet plain_eq_loop _,GW entry_eq_loop (by
     rw[Around.under_plainId plain_eq_loop _];exact ih (i+1) (by omega) (by omega) (by omega) prog w A R _ ⟨hl,hbb,hu,ha,hb,h⟩)⟩
   .rw[AN (show ¬(as[i].1,as[i].2) =(bs[i].1,bs[i].2)from e)];rw[AN e,DX,IP]at h;wp_walk using BF hl,BF hbb;rw[hi1,hi2];show wpAny _ _ (richCompare CmpOp.Lt v v2 >>= fun r=>ret r) _ _ _;exact AA (Xw pa pb (show A.units+1<cLine from hu) (AD h))
  .have hi2:items2[((i:Nat):Int).toNat]?=none:=by have:=hb.1;simp;omega
   rw[hi1,hi2];have e:lexB (kyP (as.drop i)) (kyP (bs.drop i))=decide (items.size<items2.size):=by
    rw[ha.1,hb.1,EN (l:=bs) (by omega),AN (by omega)];exact V2 _
   rw[e]at h;wp_walk using BF hl,BF hbb;exact h
theorem Sd(l b:Addr)(items items2:Array Value)(n n2:Nat)(as bs:List (Str×Str)) :
  Meets (Builtin.«list.__lt__» ⟨[.ref l,.ref b],[]⟩)
   (fun A R s=>s.heap.get? l=some (seqObj "list" items n)/\s.heap.get? b=some (seqObj "list" items2 n2)/\A.units+1<cLine/\ItsP s.heap items as/\ItsP s.heap items2 bs/\R (.ok (.ret (.bool (lexB (kyP as) (kyP bs))))) s):=by
 intro prog w A R s h;obtain⟨hp,g,d,tk,os⟩:=s;obtain⟨hl,hbb,h⟩:=h;have f3:=AutoSeq1.sub_list_list;wp_walk using BF hl,BF hbb;exact⟨plainId_quiet plain_eq_loop _,GW entry_eq_loop (by
  rw[Around.under_plainId plain_eq_loop _];exact Sr l b items items2 n n2 as bs _ 0 rfl (CD _) (CD _) prog w A R _ ⟨hl,hbb,h⟩)⟩
section
variable{prog:Program}{w:World}{A:Around}{E:Value->Shared->Prop}{s:Shared}
theorem oneLt_listsP{l b:Addr}{items items2:Array Value}{n n2:Nat}{as bs:List (Str×Str)}{Q:Bool->Shared->Prop}(hu:A.units+3<cLine)(hl:s.heap.get? l=some (seqObj "list" items n))(hb:s.heap.get? b=some (seqObj "list" items2 n2))
  (ha:ItsP s.heap items as) (hc:ItsP s.heap items2 bs) (h:Q (lexB (kyP as) (kyP bs)) s) :
  wpAny (model prog w) A (oneLt' true (.ref l) (.ref b)) Q E s:=by
 rw[oneLt'_eq];simp only[FD];refine AA (wpAny_cRoomFor (by omega) ?_);refine AA (wpAny_callSpecialIfBound?_slot (T := "list") ⟨_,hl,rfl⟩ F.slot_list_lt (call_meets F.slot_list_lt ⟨_,hl,rfl⟩ F.entry_list_lt (F.args_list_lt_2 _ _) (Sd l b items items2 n n2 as bs) ⟨hl,hb,?_,ha,hc,?_⟩))
 .show A.units+1<cLine;omega
 exact DJ h
end
end TS
namespace L2
open PySem PySem.Spec PyProof.Rows
abbrev LP:=Addr×List PA2
abbrev nw(l:List PA2):List (Str×Str):=l.map fun q=>q.2
def Yn(ts:List LP):List (Addr×List (List Nat)):=ts.map fun q=>(q.1,TS.kyP (nw q.2))
theorem Mv{h:Heap}{l:List PA2}(hp:∀q∈l,TS.PairAt h (.ref q.1) q.2.1 q.2.2):TS.ItsP h (l.map fun q=>Value.ref q.1).toArray (nw l):=by
 refine⟨by simp,fun j q e=>?_⟩;rw[AJ]at e;obtain⟨r,er,rfl⟩:=BU.mp e;exact⟨.ref r.1,by simp[er],hp r (BJ er)⟩
def zDz(h:Heap)(q:LP):Prop:=LAt h q.1 (q.2.map fun r=>Value.ref r.1)/\∀r∈q.2,TS.PairAt h (.ref r.1) r.2.1 r.2.2
theorem PairAt.keeps{h h':Heap}{v:Value}{x y:Str}(z:TS.PairAt h v x y)(k:∀b o,h.get? b=some o->h'.get? b=some o):TS.PairAt h' v x y:=by
 obtain⟨p,o,n,t,u,e,ho,r⟩:=z;exact⟨p,o,n,t,u,e,k _ _ ho,r⟩
theorem Lv{P:Program}{w:World}{s:Shared}{a:Addr}{ts:List LP}{h0:Heap}(hv:∀q∈ts,zDz h0 q)(hk:∀b o,h0.get? b=some o->b≠a/\s.heap.get? b=some o) :
  TS.Keys2 P w a s (TS.lexKind (Yn ts)) oneType' (ts.map fun q=>Value.ref q.1):=by
 refine⟨fun A s' hu hE=>⟨fun x y k l Q E hx hy q=>?_⟩,fun v hvm=>?_,fun h2 A E s' Q hE q=>?_⟩
 .obtain⟨_,m1,rfl,rfl⟩:=TS.lexKey_mem hx;obtain⟨_,m2,rfl,rfl⟩:=TS.lexKey_mem hy;obtain⟨x,mx,rfl⟩:=AI.mp m1;obtain⟨y,my,rfl⟩:=AI.mp m2;have kp:∀b o,h0.get? b=some o->s'.heap.get? b=some o:=fun b o e=>hE _ _ (hk _ _ e).1 (hk _ _ e).2;obtain⟨⟨n1,e1⟩,v1⟩:=hv x mx;obtain⟨⟨n2,e2⟩,v2⟩:=hv y my;rw[keyLt'_oneType];exact TS.oneLt_listsP (by omega) (kp _ _ e1) (kp _ _ e2) (Mv fun q hq=>PairAt.keeps (v1 q hq) kp) (Mv fun q hq=>PairAt.keeps (v2 q hq) kp) q
 .obtain⟨q,hq,rfl⟩:=AI.mp hvm;exact TS.lexKey_some (q:=(q.1,TS.kyP (nw q.2))) (AI.mpr ⟨q,hq,rfl⟩)
 .refine PySem.W.kas_kind (T:=.type "list") h2 (fun v hvm=>?_) (by decide) (by decide) q;obtain⟨q,hq,rfl⟩:=AI.mp hvm;obtain⟨⟨n1,e1⟩,v1⟩:=hv q hq;exact(PySem.W.Looks.ld (hE _ _ (hk _ _ e1).1 (hk _ _ e1).2)).andThen .now
section
variable{X:Cx}
def LPIn(H:Hp)(q:LP):Prop:=H q.1=some (.lst (q.2.map fun r=>V.ref r.1))/\∀r∈q.2,E2 H r
theorem LPIn.same{H:Hp}{q r:LP}(hq:LPIn H q)(hr:LPIn H r)(e:q.1=r.1):nw q.2=nw r.2:=by
 have e3:=hq.1.symm.trans ((congrArg H e).trans hr.1);have e4:=HO.lst.inj (BI e3);have h1:=hq.2;have h2:=hr.2;obtain⟨a,l⟩:=q;obtain⟨b,m⟩:=r;clear hq hr e e3;simp only at e4 h1 h2⊢
 induction l generalizing m with
 | nil=>cases m with
  | nil=>rfl
  | cons _ _=>cases e4
 | cons x l ih=>cases m with
  | nil=>cases e4
  | cons y m =>
   rw[AW,AW]at e4;obtain⟨e5,e6⟩:=IM e4;have e5:x.1=y.1:=V.ref.inj e5;have e7:=(h1 x BE).symm.trans ((congrArg H e5).trans (h2 y BE));have e8:=HO.tup.inj (BI e7);simp only[List.cons.injEq,V.str.injEq,and_true]at e8;show x.2::nw l=y.2::nw m;rw[ih (fun r hr=>h1 r (AX _ hr)) m (fun r hr=>h2 r (AX _ hr)) e6,Prod.ext e8.1 e8.2]
theorem Inv.plAt{pins:List (Addr×Obj)}{σ:St}{H:Hp}{s:Shared}{q:LP}(I:Inv X pins σ H s)(h:LPIn H q):zDz s.heap q:=by
 obtain⟨z,its,n,rv,e⟩:=I.hok _ _ h.1;have ei:=l7 rv;subst ei;exact⟨⟨n,e⟩,fun r hr=>I.pairAt (h.2 r hr)⟩
def Mm(K:PySem.W.Frag):List V->Hp->VK->Prop:=fun xs H Q=>∃(p:Addr) (ts:List LP),xs = [.ref p]/\SqL K H p (ts.map fun q=>V.ref q.1)/\(∀q∈ts,LPIn H q) /\
  ∀(l:Addr) (ts':List LP),H l=none->ts'.Perm ts->ts'.Pairwise (fun a b=>TS.lexB (TS.kyP (nw b.2)) (TS.kyP (nw a.2))=false)->Q (.ref l) (upd H l (.lst (ts'.map fun q=>V.ref q.1)))
theorem Cp(hu:X.A.units+64<cLine):E3 X (.builtin "sorted") (Mm X.K):=by
 intro pins s σ H xs us Q I r h;obtain⟨p,ts,rfl,hq,hpi,q⟩:=h;obtain⟨u,rfl,ru⟩:=Q8 r;cases ru;obtain⟨its,rv,pl,hz⟩:=I.list hq;have ei:=Wp rv;have hl:=rv.length;refine TS.sorted_gen2 (by omega) (collect_list (vs:=its) pl.isList ?_ (by omega));have hsz:((s.heap.push (seqObj "list" #[] 0)).update s.heap.objs.size (Obj.mapSeq (· ++ its.toArray))).objs.size=s.heap.objs.size+1:=by rw[EU,size_push']
 have hk1:∀b o,s.heap.get? b=some o->((s.heap.push (seqObj "list" #[] 0)).update s.heap.objs.size (Obj.mapSeq (· ++ its.toArray))).get? b=some o:=fun b o eb=>by
  rw[HH _ _ _ _ (A_ (AG eb))];exact AE _ eb
 have hpa:∀q∈ts,zDz s.heap q:=fun q hq=>I.plAt (hpi q hq);refine⟨rfl,by omega,TS.lexKind (Yn ts),oneType',fun s2 hE=>?_,fun out h' e ho k hg=>?_⟩
 .rw[ei];refine Lv hpa fun b o eb=>?_;rw[<-ei];have hne:b≠((s.heap.push (seqObj "list" #[] 0)).update s.heap.objs.size (Obj.mapSeq (· ++ its.toArray))).objs.size:=by
   rw[hsz];exact A_ (DV (AG eb))
  exact⟨hne,hE b o hne (hk1 b o eb)⟩
 .obtain⟨hp,hs⟩:=ho;rw[ei]at hp;obtain⟨ts',h1,h2⟩:=P4 (fun q:LP=>Value.ref q.1) hp ts rfl;have ky:∀q∈ts,TS.lexKey (Yn ts) (.ref q.1)=some (TS.kyP (nw q.2)):=fun q hq=>by
   obtain⟨k,e⟩:=TS.lexKey_some (tab:=Yn ts) (q:=(q.1,TS.kyP (nw q.2))) (AI.mpr ⟨q,hq,rfl⟩);obtain⟨_,m,e1,e2⟩:=TS.lexKey_mem e;obtain⟨r,mr,rfl⟩:=AI.mp m;have e1:q.1=r.1:=Value.ref.inj e1;rw[e,<-e2,(hpi q hq).same (hpi r mr) e1]
  have hpw:ts'.Pairwise (fun a b=>TS.lexB (TS.kyP (nw b.2)) (TS.kyP (nw a.2))=false):=by
   rw[h2,BQ]at hs;refine(DH.mp hs).imp fun{a b} ⟨ha,hb,z⟩=>?_;have z':TS.lexB ((TS.lexKey (Yn ts) (.ref b.1)).getD []) ((TS.lexKey (Yn ts) (.ref a.1)).getD [])=false:=z;rw[ky a (h1.mem_iff.mp ha),ky b (h1.mem_iff.mp hb)]at z';exact z'
  have hn:H (s.heap.objs.size+1)=none:=I.hok.fresh (CV _);have hg':h'.get? (s.heap.objs.size+1)=some (seqObj "list" out e):=by rw[<-hsz];exact hg
  refine⟨.ref (s.heap.objs.size+1),upd H (s.heap.objs.size+1) (.lst (ts'.map fun q=>V.ref q.1)),?_,by show Value.ref _=_;rw[<-hsz],q _ _ hn h1 hpw⟩;refine I.laid (t':=s.toks) (fun b o eb=>k b o (hk1 b o eb)) (CV _) ⟨?_,out.toList,e,by rw[h2];exact Ya ts',by simpa using hg'⟩;rw[AB,h1.length_eq];rw[AB]at hz;exact hz
theorem Og(K:PySem.W.Frag)(hu:X.A.units+64<cLine)(hK:X.K=K:=by rfl):E3 X (.builtin "sorted") (Mm K):=by subst hK;exact Cp hu
end
end L2
namespace Sw
open PySem L2
def top(i:Nat):Stmt:=PySem.Challenge.pw_strikeweave_k27_too_many_sets.main.body.getD i (.Pass ⟨0,0,0,0⟩)
abbrev s_struck_by_any:Stmt:=top 12
abbrev s_words_by:Stmt:=top 13
abbrev s_joined:Stmt:=top 17
abbrev s_first_bit:Stmt:=top 18
abbrev s_standing_sets:Stmt:=top 19
abbrev s_whole_sets:Stmt:=top 20
abbrev s_greatest_sets:Stmt:=top 21
abbrev s_outright_sets:Stmt:=top 22
abbrev s_tellings:Stmt:=top 23
abbrev s_all_found:Stmt:=top 24
abbrev s_gather:Stmt:=top 25
abbrev s_settle_standing:Stmt:=top 26
abbrev s_settle_whole:Stmt:=top 27
abbrev s_settle_outright:Stmt:=top 28
abbrev s_is_name:Stmt:=top 33
abbrev s_check_names:Stmt:=top 34
abbrev s_check_strikes:Stmt:=top 35
abbrev s_is_strike:Stmt:=top 36
abbrev s_law_mix:Stmt:=top 38
abbrev s_law_left:Stmt:=top 39
abbrev s_law_pick:Stmt:=top 40
abbrev s_law_kinds:Stmt:=top 41
abbrev s_law_joined:Stmt:=top 42
abbrev s_law_pieces:Stmt:=top 43
abbrev s_law_asked:Stmt:=top 44
abbrev s_law_count:Stmt:=top 45
abbrev s_law_right:Stmt:=top 46
abbrev s_law:Stmt:=top 47
abbrev s_BadName___init__:Stmt:=E7 (top 3) 0
abbrev s_BadStrike___init__:Stmt:=E7 (top 4) 0
abbrev s_Marks___init__:Stmt:=E7 (top 16) 0
abbrev s_Marks_bits_in:Stmt:=E7 (top 16) 1
abbrev s_Marks_names_in:Stmt:=E7 (top 16) 2
abbrev s_Marks_first_name:Stmt:=E7 (top 16) 3
abbrev s_Marks_set_of:Stmt:=E7 (top 16) 4
abbrev s_Marks_struck_by:Stmt:=E7 (top 16) 5
abbrev s_Marks_strikers_at:Stmt:=E7 (top 16) 6
abbrev s_Marks_unstruck_by:Stmt:=E7 (top 16) 7
abbrev s_Marks_kept:Stmt:=E7 (top 16) 8
abbrev s_Web___init__:Stmt:=E7 (top 32) 0
abbrev s_Web_all_names:Stmt:=E7 (top 32) 1
abbrev s_Web_all_strikes:Stmt:=E7 (top 32) 2
abbrev s_Web_strikers:Stmt:=E7 (top 32) 3
abbrev s_Web_struck:Stmt:=E7 (top 32) 4
abbrev s_Web_check_has:Stmt:=E7 (top 32) 5
set_option genInjectivity false in
structure Tx(K:PySem.W.Frag)(mg:Str->Option Value) where
 aH:Fn K mg "struck_by_any" s_struck_by_any ["web", "some"]
 aZ:Fn K mg "words_by" s_words_by ["web", "some"]
 a3:Fn K mg "joined" s_joined ["sets"]
 ar:Fn K mg "first_bit" s_first_bit ["some"]
 aI:Fn K mg "standing_sets" s_standing_sets ["web"]
 aM:Fn K mg "whole_sets" s_whole_sets ["web"]
 aJ:Fn K mg "greatest_sets" s_greatest_sets ["web"]
 aK:Fn K mg "outright_sets" s_outright_sets ["web"]
 a0:Fn K mg "tellings" s_tellings ["web"]
 ah:Fn K mg "all_found" s_all_found ["web", "settle", "greatest"]
 aj:Fn K mg "gather" s_gather ["marks", "settle", "greatest", "chosen", "barred", "found"]
 af:Fn K mg "settle_standing" s_settle_standing ["marks", "chosen", "barred"]
 ak:Fn K mg "settle_whole" s_settle_whole ["marks", "chosen", "barred"]
 al:Fn K mg "settle_outright" s_settle_outright ["marks", "chosen", "barred"]
 a6:Fn K mg "is_name" s_is_name ["thing"]
 aR:Fn K mg "check_names" s_check_names ["names"]
 aL:Fn K mg "check_strikes" s_check_strikes ["names", "strikes"]
 aV:Fn K mg "is_strike" s_is_strike ["names", "thing"]
 aY:Fn K mg "_law_mix" s_law_mix ["_law_cell", "_law_k"]
 a1:Fn K mg "_law_left" s_law_left ["_law_script", "_law_k"]
 ay:Fn K mg "_law_pick" s_law_pick ["_law_left_here", "_law_many"]
 as:Fn K mg "_law_kinds" s_law_kinds []
 aS:Fn K mg "_law_joined" s_law_joined ["_law_pieces_here"]
 aT:Fn K mg "_law_pieces" s_law_pieces ["_law_left_here", "_law_most"]
 aF:Fn K mg "_law_asked" s_law_asked ["_law_word", "_law_web"]
 aW:Fn K mg "_law_count" s_law_count ["_law_word", "_law_web"]
 aG:Fn K mg "_law_right" s_law_right ["_law_pieces_here"]
 aa:Addr
 ab:Cls K aa
 bq:mg "Marks" = some (.ref aa)
 aA:NoAttr K aa "names"
 au:NoAttr K aa "full"
 bd:NoAttr K aa "bit_of"
 aw:NoAttr K aa "strikers_of"
 a2:NoAttr K aa "struck_of"
 aX:NoAttr K aa "loops"
 aQ:Addr
 aO:FuncData
 bo:Fun K "__init__" "Marks.__init__" s_Marks___init__ aQ aO
 a4:Binds K aO ["self", "web"] []
 br:Mk K aa aQ
 an:Mt K aa "bits_in" "Marks.bits_in" s_Marks_bits_in ["self", "some"]
 ag:Mt K aa "names_in" "Marks.names_in" s_Marks_names_in ["self", "some"]
 b0:Mt K aa "first_name" "Marks.first_name" s_Marks_first_name ["self", "some"]
 b1:Mt K aa "set_of" "Marks.set_of" s_Marks_set_of ["self", "some"]
 ad:Mt K aa "struck_by" "Marks.struck_by" s_Marks_struck_by ["self", "some"]
 aq:Mt K aa "strikers_at" "Marks.strikers_at" s_Marks_strikers_at ["self", "some"]
 ai:Mt K aa "unstruck_by" "Marks.unstruck_by" s_Marks_unstruck_by ["self", "some"]
 aD:Mt K aa "kept" "Marks.kept" s_Marks_kept ["self", "some"]
 ac:Addr
 am:Cls K ac
 bT:mg "Web" = some (.ref ac)
 aN:NoAttr K ac "names"
 bf:NoAttr K ac "strikes"
 az:NoAttr K ac "strikers_by_name"
 aC:NoAttr K ac "struck_by_name"
 bt:Addr
 bs:FuncData
 bu:Fun K "__init__" "Web.__init__" s_Web___init__ bt bs
 bv:Binds K bs ["self", "names", "strikes"] []
 bU:Mk K ac bt
 ao:Mt K ac "all_names" "Web.all_names" s_Web_all_names ["self"]
 b2:Mt K ac "all_strikes" "Web.all_strikes" s_Web_all_strikes ["self"]
 ax:Mt K ac "strikers" "Web.strikers" s_Web_strikers ["self", "name"]
 av:Mt K ac "struck" "Web.struck" s_Web_struck ["self", "name"]
 ap:Mt K ac "check_has" "Web.check_has" s_Web_check_has ["self", "name"]
 b3:Addr
 b4:List Value
 bw:XC K b3 b4
 bx:mg "StrikeError" = some (.ref b3)
 bg:Addr
 b5:List Value
 b6:XC K bg b5
 bM:mg "BadName" = some (.ref bg)
 a5:Addr
 b7:List Value
 b8:XC K a5 b7
 bE:mg "BadStrike" = some (.ref a5)
 a7:Addr
 b9:List Value
 ca:XC K a7 b9
 bF:mg "BadWeave" = some (.ref a7)
 bi:Addr
 cb:List Value
 cc:XC K bi cb
 bO:mg "BadRow" = some (.ref bi)
 bj:Addr
 cd:List Value
 ce:XC K bj cd
 bP:mg "NoName" = some (.ref bj)
 a8:Addr
 cf:List Value
 cg:XC K a8 cf
 bG:mg "NoStrike" = some (.ref a8)
 bk:Addr
 ch:List Value
 ci:XC K bk ch
 bQ:mg "NoMove" = some (.ref bk)
 ae:Addr
 bN:List Value
 a9:XC K ae bN
 ba:mg "TooMany" = some (.ref ae)
 cj:XG K bg
 ck:IsC K bg
 cl:(Value.ref bg::b5).contains (.ref b3)=true
 cm:PySem.W.kitAny K (.ref bg) [.ref bg,.ref bi,.ref a5,.ref a7,.ref bk,.ref bj,.ref a8]=some true
 cn:PySem.W.kitOne K (.ref bg) (.ref ae)=some false
 co:PySem.W.kitOne K (.ref bg) (.type "ValueError")=some true
 cp:NoAttr K bg "place"
 cq:Addr
 cr:FuncData
 cs:Fun K "__init__" "BadName.__init__" s_BadName___init__ cq cr
 ct:Binds K cr ["self", "place"] []
 cu:Meth K bg "__init__" cq
 cv:XG K a5
 cw:IsC K a5
 cx:(Value.ref a5::b7).contains (.ref b3)=true
 cy:PySem.W.kitAny K (.ref a5) [.ref bg,.ref bi,.ref a5,.ref a7,.ref bk,.ref bj,.ref a8]=some true
 cz:PySem.W.kitOne K (.ref a5) (.ref ae)=some false
 cA:PySem.W.kitOne K (.ref a5) (.type "ValueError")=some true
 cB:NoAttr K a5 "place"
 cC:Addr
 cD:FuncData
 cE:Fun K "__init__" "BadStrike.__init__" s_BadStrike___init__ cC cD
 cF:Binds K cD ["self", "place"] []
 cG:Meth K a5 "__init__" cC
 cH:XG K bj
 cI:IsC K bj
 cJ:(Value.ref bj::cd).contains (.ref b3)=true
 cK:PySem.W.kitAny K (.ref bj) [.ref bg,.ref bi,.ref a5,.ref a7,.ref bk,.ref bj,.ref a8]=some true
 cL:PySem.W.kitOne K (.ref bj) (.ref ae)=some false
 cM:PySem.W.kitOne K (.ref bj) (.type "ValueError")=some true
 cN:PySem.W.findIn K (.ref bj) "__init__" = some (some (.builtin "ValueError.__init__"))
 bb:XG K ae
 bc:IsC K ae
 bl:(Value.ref ae::bN).contains (.ref b3)=true
 bA:PySem.W.kitAny K (.ref ae) [.ref bg,.ref bi,.ref a5,.ref a7,.ref bk,.ref bj,.ref a8]=some false
 bB:PySem.W.kitOne K (.ref ae) (.ref ae)=some true
 bC:PySem.W.kitOne K (.ref ae) (.type "ValueError")=some true
 bn:PySem.W.findIn K (.ref ae) "__init__" = some (some (.builtin "ValueError.__init__"))
 bH:∃t,mg "MOST" = some (.int 300 t)
 bR:∃t,mg "LETTERS" = some (.str "abcdefghijklmnopqrstuvwxyz" t)
 bz:∃t,mg "LONGEST_NAME" = some (.int 8 t)
 aU:mg "len" = none
 bm:mg "range" = none
 aE:mg "enumerate" = none
 bV:mg "zip" = none
 bW:mg "min" = none
 bX:mg "max" = none
 be:mg "sum" = none
 bI:mg "abs" = none
 aP:mg "sorted" = none
 bJ:mg "reversed" = none
 bp:mg "int" = none
 bY:mg "str" = none
 bh:mg "list" = none
 bS:mg "tuple" = none
 bK:mg "set" = none
 aB:mg "isinstance" = none
 bZ:mg "all" = none
 bL:mg "any" = none
 bD:mg "ValueError" = none
end Sw
namespace L2
open PySem
theorem fsc{N ps:List Str}{sc:Scope}(h1:sc.kind = .function:=by rfl)(h2:sc.isCoroutine=false:=by rfl)(h3:sc.isGenerator=false:=by rfl)(h4:N.Nodup:=by decide +kernel)(h5:N.take ps.length=ps:=by rfl)(h6:∀x∈ps,sc.names.lookup x=some .local\/sc.names.lookup x=some .cell:=by decide +kernel)(h7:∀y∈sc.names,y.2≠ .free:=by decide +kernel):FnScope N ps sc:=⟨h1,h2,h3,h4,h5,h6,h7⟩
theorem Rm{j k:Nat}{A:Around}(h:Room k A)(e:j<=k:=by decide):Room j A:=h.mono e
theorem Bm{J:It}{xs:List V}{a:Addr}{H0:Hp}(as:AsSeq J xs a H0){g:TG}{tb:TS}{D:Ends}{σ:St}{H:Hp}(Pv:Nat->St->Hp->Prop)(h0:Pv 0 σ H)(hk:∀i σ H,i<=xs.length->Pv i σ H->KeepAt a H0 H)
  (hs:∀i σ H x,xs[i]?=some x->Pv i σ H->∀D':Ends,(∀σ' H',Pv (i+1) σ' H'->D'.nx σ' H')->D'.rt=D.rt->g x σ H fun σ2 H2=>tb D' σ2 H2) (hd:∀σ H,Pv xs.length σ H->D.nx σ H) :
  ∃W:Nat->Nat->St->Hp->Prop,(∃m,W 0 m σ H)/\∀i m σ H,W i m σ H ->
   (J.stop i H/\D.nx σ H)\/(J.go i H/\∃N:St->Hp->Prop,(∀σ' H',N σ' H'->∃m',m' < m/\W (i+1) m' σ' H')/\∀x H',J.yld i H x H'->g x σ H' fun σ2 H2=>tb { D with nx:=N,ct:=N,bk:=D.nx } σ2 H2) :=
 Zb as Pv h0 hk (fun i σ H x hx hp=>hs i σ H x hx hp _ (fun _ _ z=>z) rfl) hd
theorem Aw{lo:Int}{n:Nat}{g:TG}{tb:TS}{D:Ends}{σ:St}{H:Hp}(Pv:Nat->St->Hp->Prop)(h0:Pv 0 σ H)
  (hs:∀i σ H,i<n->Pv i σ H->∀D':Ends,(∀σ' H',Pv (i+1) σ' H'->D'.nx σ' H')->D'.rt=D.rt->g (.int (lo+i)) σ H fun σ2 H2=>tb D' σ2 H2) (hd:∀σ H,Pv n σ H->D.nx σ H) :
  ∃W:Nat->Nat->St->Hp->Prop,(∃m,W 0 m σ H)/\∀i m σ H,W i m σ H ->
   ((Itr lo n).stop i H/\D.nx σ H)\/((Itr lo n).go i H/\∃N:St->Hp->Prop,(∀σ' H',N σ' H'->∃m',m' < m/\W (i+1) m' σ' H')/\∀x H',(Itr lo n).yld i H x H'->g x σ H' fun σ2 H2=>tb { D with nx:=N,ct:=N,bk:=D.nx } σ2 H2) :=
 Ni Pv h0 (fun i σ H hi hp=>hs i σ H hi hp _ (fun _ _ z=>z) rfl) hd
theorem ex1{α:Type}{A C:α->Prop}{a:α}(e:A a)(h:C a):∃v,A v/\C v:=⟨a,e,h⟩
theorem Mh{α0 α1 α2:Type}{A0 A1 A2 A3 A4 A5:α0->α1->α2->Prop}{a:α0}{b:α1}{c:α2}(h0:A0 a b c)(h1:A1 a b c)(h2:A2 a b c)(h3:A3 a b c)(h4:A4 a b c)(h5:A5 a b c):∃a b c,A0 a b c/\A1 a b c/\A2 a b c/\A3 a b c/\A4 a b c/\A5 a b c:=⟨a,b,c,h0,h1,h2,h3,h4,h5⟩
theorem zDg{α0 α1 α2 α3 α4:Type}{A0 A1 A2 A3 A4:α0->α1->α2->α3->α4->Prop}{a:α0}{b:α1}{c:α2}{d:α3}{e:α4}(h0:A0 a b c d e)(h1:A1 a b c d e)(h2:A2 a b c d e)(h3:A3 a b c d e)(h4:A4 a b c d e):∃a b c d e,A0 a b c d e/\A1 a b c d e/\A2 a b c d e/\A3 a b c d e/\A4 a b c d e:=⟨a,b,c,d,e,h0,h1,h2,h3,h4⟩
theorem C1{α0 α1:Type}{A0 A1 A2:α0->α1->Prop}{a:α0}{b:α1}(h0:A0 a b)(h1:A1 a b)(h2:A2 a b):∃a b,A0 a b/\A1 a b/\A2 a b:=⟨a,b,h0,h1,h2⟩
theorem B3{t u:TS}{D:Ends}{σ:St}{H:Hp}(h:∀N:St->Hp->Prop,(∀σ' H',u D σ' H'->N σ' H')->t { D with nx:=N } σ H):zBn t u D σ H:=h _ fun _ _ z=>z
theorem zDd{i:Nat}{v:V}{t u:TS}{D:Ends}{σ:St}{H:Hp}(h:∀N:St->Hp->Prop,(∀σ' H',u D σ' H'->N σ' H')->t { D with nx:=N } (σ.set i (some v)) H):K9 i v σ H (fun σ2 H2=>zBn t u D σ2 H2):=h _ fun _ _ z=>z
end L2
namespace Sw
open PySem L2
section
variable{P:Program}{w:World}{K:PySem.W.Frag}{mg:Str->Option Value}{base:Heap}
def Wf(c:Nat):Bool:=decide (97<=c)&&decide (c<=122)
def K8(x:Str):Bool:=decide (1<=x.length)&&decide (x.length<=8)&&x.cps.toList.all Wf
theorem Hn:("abcdefghijklmnopqrstuvwxyz":Str).cps.toList=List.range' 97 26:=by decide +kernel
theorem Yg(c:Nat):decide (c∈("abcdefghijklmnopqrstuvwxyz":Str).cps.toList)=Wf c:=by
 rw[Hn];unfold Wf;by_cases h1:97<=c
 .by_cases h2:c<=122
  .rw[AZ (List.mem_range'_1.mpr (by omega)),AZ h1,AZ h2];rfl
  .rw[AN (fun z=>by have:=List.mem_range'_1.mp z;omega),AN h2,IC]
 .rw[AN (fun z=>by have:=List.mem_range'_1.mp z;omega),AN h1,DX]
theorem Lf:FnScope ["thing"] ["thing"] (B4 s_is_name):=fsc
def Lm:Sp:=fun vs H Q _=>∃x,vs = [.str x]/\x.length<=1000/\∀H',Same H H'->Q (.bl (K8 x)) H'
theorem Lz(T:Tx K mg):FnOk P w K mg base CX0 1 T.a6.f T.a6.fd ["thing"] Lm:=by
 refine T.a6.F.ok Lf (fun vs H Q E h=>?_) (fun cdv A outer s H vs Q E hr h=>?_)
 .obtain⟨x,rfl,_⟩:=h;rfl
 .obtain⟨x,rfl,hx,k⟩:=h;refine⟨_,(B0 (F4 (PW.pt (Gv (S3 (J6 (F2 (Oj K) T.aB G0 (A6 (pv 0) (A6 (Xx T.bY zAq) A8))))) (t9 (S3 (Tf Xg Xg B1 (F2 Ff T.aU X6 (A6 (pv 0) A8)) (Ws T.bz)))))) (B2 (C0 U8)) C7)
   (B2 (C0 (F2 (zBf K) T.bZ zAp (A6 (Q9 (N':=["letter"]) (cap:=[none]) (cl:=[]) (J8 trivial trivial) rfl (zAb (pv 0)) (fun _ _ _ _=>by exact⟨(pgC 0),E1,(S7 Qd (pv 0) (zDe T.bR) rfl)⟩)) A8))))),?_⟩
  have h64:x.length<=sizeLine:=by rw[sizeLine_eq];omega
  have hlen:x.cps.size=x.length:=rfl;refine ex1 rfl ⟨.str x, "str",_,true,rfl,.str x,rfl,ex1 rfl ?_⟩;refine T0 ?_;refine ex1 rfl ⟨x,rfl,h64,C1 rfl rfl (ex1 rfl ?_)⟩;refine g9 (fun c1=>?_) (fun c1=>?_)
  .have c1:(1:Int)<=(x.length:Int):=BN c1;refine C1 rfl rfl (ex1 rfl ?_);by_cases c2:(x.length:Int)<=8
   .rw[AZ c2];refine T0 ?_;refine ex1 rfl ⟨x,rfl,fun D hD=>?_⟩;refine u9 (n:=x.cps.size) (fun i σ H'=>(∃v,σ = [v])/\Same H H'/\H' D=some (.lst ((x.cps.toList.take i).map fun c=>V.bl (Wf c)))) ⟨⟨_,rfl⟩,Same.new hD,A7⟩ (fun i _ _ hi _=>hi) (fun _ _ _=>rfl) ?_ ?_
    .rintro i σ H1 v H' N hi ⟨⟨v0,rfl⟩,s1,e1⟩ ⟨rfl,c,hc,rfl⟩ hN;refine Y4 ?_;refine ex1 rfl (C1 rfl rfl ⟨_,e1,?_,?_⟩)
     .rw[AB,AY,sizeLine_eq];omega
     .rw[PySem.StrLaws.found_one,Yg];refine hN _ _ ⟨⟨_,rfl⟩,s1.upd hD,?_⟩;rw[A7];have:x.cps.toList[i]?=some c:=by rw[BO];exact hc
      rw[List.take_add_one,this,AL];rfl
    .rintro σ H1 ⟨_,s1,e1⟩;refine⟨D,x.cps.toList.map Wf,rfl,SqL.of ?_,?_⟩
     .rw[e1,<-AQ,DB,CH];rfl
     .have e:(x.cps.toList.map Wf).all id=K8 x:=by
       unfold K8;rw[AZ (show 1<=x.length by omega),AZ (show x.length<=8 by omega),List.all_map];rfl
      rw[e];exact k _ s1
   .rw[AN c2];refine Ht ?_;have e:K8 x=false:=by
     unfold K8;rw[AN (show ¬x.length<=8 by omega),IC,DX]
    have:=k H (Same.refl H);rw[e]at this;exact this
  .have c1:¬(1:Int)<=(x.length:Int):=fun z=>c1 (AZ z);refine ex1 rfl ?_;refine Ht ?_;have e:K8 x=false:=by
    unfold K8;rw[AN (show ¬1<=x.length by omega),DX,DX]
   have:=k H (Same.refl H);rw[e]at this;exact this
theorem take_succ{α:Type}{l:List α}{i:Nat}{x:α}(h:l[i]?=some x):l.take (i+1)=l.take i ++ [x]:=by
 rw[List.take_add_one,h];rfl
theorem Az{α:Type}{l:List α}{i:Nat}{x:α}(nd:l.Nodup)(h:l[i]?=some x):x∉l.take i:=by
 intro hm;obtain⟨j,hj,e⟩:=List.getElem_of_mem hm;have hj':j<i:=by rw[AY]at hj;omega
 rw[HX]at e;obtain⟨hi,e'⟩:=AH.mp h;have:=(List.getElem_inj nd).mp (e.trans e'.symm);omega
theorem R8:FnScope ["names", "seen", "place", "name"] ["names"] (B4 s_check_names):=fsc
def Gw(ss:List Str):Prop:=(∀x∈ss,K8 x=true)/\ss.Nodup/\ss.length<=100
def y7(K:PySem.W.Frag):Sp:=fun vs H Q _=>∃(p:Addr) (ss:List Str),vs = [.ref p]/\SqL K H p (ss.map V.str)/\Gw ss/\∀H',Same H H'->Q .non H'
theorem No{x:Str}(h:K8 x=true):1<=x.length/\x.length<=8:=by
 unfold K8 at h;rw[BG,BG]at h;exact⟨BN h.1.1,BN h.1.2⟩
theorem Aa(T:Tx K mg):FnOk P w K mg base CX0 2 T.aR.f T.aR.fd ["names"] (y7 K):=by
 have G_is_name:=Lz (P:=P) (w:=w) (base:=base) T;have sc:=R8;refine T.aR.F.ok R8 (fun vs H Q E h=>?_) (fun cdv A outer s H vs Q E hr h=>?_)
 .obtain⟨p,ss,rfl,_⟩:=h;rfl
 .obtain⟨a,ss,rfl,hS,⟨hN,hD,hL⟩,k⟩:=h;have hu:=y6 hr;refine⟨_,(B0 (C5 (i:=1) sc.nd rfl (.inl rfl) (Aq (Yk P w) (by rfl) T.bK Us))
   (B2 (R9 PassesOwn.never rfl (piE K T.aE (A6 (pv 0) A8)) (pgT K (n:=2) (B8 (C3 (i:=2) sc.nd rfl (.inl rfl)) (B8 (C3 (i:=3) sc.nd rfl (.inl rfl)) F1)))
   (B0 (F4 (PW.pt (Gv (S3 (J6 (G9 T.a6 G_is_name (Rm hr) (A6 (pv 3) A8)))) (t9 (D4 (zEa P w) (pv 3) (pv 1) rfl)))) (B2 Bc) C7)
   (B2 (D9 (Vb P w (Zi P w) (pv 1) (A6 (pv 3) A8)))))))),?_⟩
  refine⟨rfl,fun p hp=>?_⟩;have s0:Same H (upd H p (Ma P w p [])):=Same.new hp;refine ex1 rfl ⟨a,ex1 rfl ⟨(s0.at a).seqL hS,Nw (n:=ss.length) (fun i σ H1=>∃v2 v3,σ = [some (.ref a),some (.ref p),v2,v3]/\Same H H1/\H1 p=some (Ma P w p ((ss.take i).map Sum.inr))) ⟨_,_,rfl,s0,A7⟩ ?_ ?_ ?_ ?_⟩⟩
  .rintro i σ H1 hi ⟨v2,v3,rfl,s1,e1⟩;exact⟨_,_,(s1.at a).seqL hS,by rw[AJ,AC hi];rfl⟩
  .rintro σ H1 ⟨v2,v3,rfl,s1,e1⟩;exact⟨_,(s1.at a).seqL hS,by rw[AB]⟩
  .rintro i σ H1 v H' hi ⟨v2,v3,rfl,s1,e1⟩ ⟨t,x,rfl,ht,rfl,hx⟩;have hx:=hx _ ((s1.at a).seqL hS);have hi':ss[i]?=some ss[i]:=AC hi;rw[AJ,hi']at hx;cases hx;have hm:ss[i]∈ss:=EB hi;have hnb:=hN _ hm;have hlen:=No hnb;have npt:p≠t:=A9 e1 ht;refine⟨t,ex1 rfl ⟨SqT.of A7,rfl,_,ex1 rfl (C1 rfl rfl ?_)⟩⟩;refine ex1 rfl ⟨ss[i],rfl,by omega,fun H2 s2=>⟨_,rfl,?_⟩⟩;rw[hnb];refine T0 ?_;have s12:Same H H2:=(s1.trans (Same.new ht)).trans s2;have e2:H2 p=some (Ma P w p ((ss.take i).map Sum.inr)):=s2 _ _ (by rw[B5 npt];exact e1);have hnin:¬(Sum.inr ss[i]:Key)∈(ss.take i).map Sum.inr:=fun z=>by
    obtain⟨y,hy,e⟩:=AI.mp z;cases e;exact Az hD hi' hy
   refine ex1 rfl (ex1 rfl ⟨p,_,Sum.inr ss[i],rfl,rfl,e2,ex1 rfl ?_⟩);rw[AK (by decide),AN hnin];refine T0 ?_;refine ex1 rfl ⟨⟨p,rfl,.inl ⟨_,e2⟩⟩,ex1 rfl ⟨p,_,Sum.inr ss[i],rfl,rfl,e2,?_,?_⟩⟩
   .rw[AB,AY];omega
   .refine⟨_,ex1 rfl ⟨s12.upd hp,?_⟩⟩;rw[A7];unfold zCp;rw[AK hnin,take_succ hi',AL];rfl
  .rintro σ H1 ⟨v2,v3,rfl,s1,e1⟩;exact k H1 s1
end
theorem Cs(ss:List Str):(ss.map V.str).all Cb=true:=by
 rw[EA];intro v hv;obtain⟨x,_,rfl⟩:=AI.mp hv;rfl
theorem Mj(x:Str)(ss:List Str):inV (.str x) (ss.map V.str)=decide (x∈ss):=by
 unfold inV;rw[List.any_map]
 induction ss with
 | nil=>rfl
 | cons y r ih =>
  rw[HM,ih];show((y == x)||decide (x∈r))=decide (x∈y::r);by_cases e:x=y
  .subst e;simp
  .have:(y == x)=false:=by simpa using fun z=>e z.symm
   rw[this,Bool.false_or];by_cases h:x∈r
   .rw[AZ h,AZ (AX _ h)]
   .rw[AN h,AN (fun z=>(AV.mp z).elim e h)]
theorem Bf{K:PySem.W.Frag}{H:Hp}{p:Addr}{x:Str}{ss:List Str}{Q:VK}(h:Sqs K H p (ss.map V.str))(q:Q (.bl (decide (x∈ss))) H):rIn K false (.str x) (.ref p) H Q :=
 ⟨p,_,rfl,h,rfl,Cs ss,by rw[AK (by decide),Mj];exact q⟩
theorem Lx{K:PySem.W.Frag}{H:Hp}{p:Addr}{x:Str}{ss:List Str}{Q:VK}(h:Sqs K H p (ss.map V.str))(q:Q (.bl (!decide (x∈ss))) H):rIn K true (.str x) (.ref p) H Q :=
 ⟨p,_,rfl,h,rfl,Cs ss,by rw[AO rfl,Mj];exact q⟩
section
variable{P:Program}{w:World}{K:PySem.W.Frag}{mg:Str->Option Value}{base:Heap}
theorem Dw:FnScope ["names", "thing"] ["names", "thing"] (B4 s_is_strike):=fsc
def Fo(K:PySem.W.Frag):Sp:=fun vs H Q _=>∃(p:Addr) (ss:List Str) (t:Addr) (x y:Str),vs = [.ref p,.ref t]/\SqL K H p (ss.map V.str)/\H t=some (.tup [.str x,.str y])/\x∈ss/\y∈ss/\Q (.bl true) H
theorem Fj(T:Tx K mg):FnOk P w K mg base CX0 1 T.aV.f T.aV.fd ["names", "thing"] (Fo K):=by
 refine T.aV.F.ok Dw (fun vs H Q E h=>?_) (fun cdv A outer s H vs Q E hr h=>?_)
 .obtain⟨p,ss,t,x,y,rfl,_⟩:=h;rfl
 .obtain⟨p,ss,t,x,y,rfl,hS,ht,hx,hy,k⟩:=h;refine⟨_,(B0 (F4 (PW.pt (Gv (S3 (J6 (F2 (Oj K) T.aB G0 (A6 (pv 1) (A6 (Xx T.bS Tc) A8))))) (t9 (D4 zEe (F2 (t6 K) T.aU X6 (A6 (pv 1) A8)) B1 (F0 _))))) (B2 (C0 U8)) C7)
   (B2 (C0 (Ve (S7 (Te K) (E6 (ixT K) (pv 1) B1 (fun _ _=>rfl)) (pv 0) rfl) (Uw (S7 (Te K) (E6 (ixT K) (pv 1) B1 (fun _ _=>rfl)) (pv 0) rfl)))))),?_⟩
  refine ex1 rfl ⟨_, "tuple",_,true,rfl,.tup ht,rfl,ex1 rfl ?_⟩;refine T0 ?_;refine ex1 rfl (C1 (a:=t) rfl (.inr (SqT.of ht)) ⟨rfl,ex1 rfl ?_⟩);refine T0 ?_;refine ex1 rfl ⟨t,_,C1 rfl rfl ⟨SqT.of ht,rfl,ex1 rfl (Bf (.inl hS) ⟨_,rfl,?_⟩)⟩⟩;rw[AZ hx];refine Ht ?_;refine ex1 rfl ⟨t,_,C1 rfl rfl ⟨SqT.of ht,rfl,ex1 rfl (Bf (.inl hS) ?_)⟩⟩;rw[AZ hy];exact k
structure StrkOk(ss:List Str)(ps:List PA2):Prop where
 nm:∀q∈ps,q.2.1∈ss/\q.2.2∈ss
 nd:(ps.map fun q=>q.2).Nodup
 len:ps.length<=200
def M5(ps:List PA2):List V:=ps.map fun q=>V.ref q.1
def Ge(ps:List PA2):List (List Key×Addr):=ps.map fun q=>([.inr q.2.1,.inr q.2.2],q.1)
theorem Sx{H:Hp}{ps:List PA2}(h:∀q∈ps,E2 H q):Jw H (Ge ps):=fun k hk=>by
 obtain⟨q,hq,rfl⟩:=AI.mp hk;exact h q hq
theorem C8{H H':Hp}{ps:List PA2}(s:Same H H')(h:∀q∈ps,E2 H q):∀q∈ps,E2 H' q:=fun q hq=>s _ _ (h q hq)
theorem N9:FnScope ["names", "strikes", "seen", "place", "strike"] ["names", "strikes"] (B4 s_check_strikes):=fsc
def Y7(K:PySem.W.Frag):Sp:=fun vs H Q _=>∃(p:Addr) (ss:List Str) (a:Addr) (ps:List PA2),vs = [.ref p,.ref a]/\SqL K H p (ss.map V.str)/\SqL K H a (M5 ps)/\(∀q∈ps,E2 H q)/\StrkOk ss ps/\∀H',Same H H'->Q .non H'
theorem Z7(T:Tx K mg):FnOk P w K mg base CX0 2 T.aL.f T.aL.fd ["names", "strikes"] (Y7 K):=by
 have G_is_strike:=Fj (P:=P) (w:=w) (base:=base) T;have sc:=N9;refine T.aL.F.ok N9 (fun vs H Q E h=>?_) (fun cdv A outer s H vs Q E hr h=>?_)
 .obtain⟨p,ss,t,x,rfl,_⟩:=h;rfl
 .obtain⟨n,ss,a,ps,rfl,hS,hP,hI,⟨hN,hD,hL⟩,k⟩:=h;have hu:=y6 hr;refine⟨_,(B0 (C5 (i:=2) sc.nd rfl (.inl rfl) (Aq (Sc P w) (by rfl) T.bK Us))
   (B2 (R9 PassesOwn.never rfl (piE K T.aE (A6 (pv 1) A8)) (pgT K (n:=2) (B8 (C3 (i:=3) sc.nd rfl (.inl rfl)) (B8 (C3 (i:=4) sc.nd rfl (.inl rfl)) F1)))
   (B0 (F4 (PW.pt (Gv (S3 (J6 (G9 T.aV G_is_strike (Rm hr) (A6 (pv 0) (A6 (pv 4) A8))))) (t9 (D4 (zCx P w hu) (pv 4) (pv 2) rfl)))) (B2 Bc) C7)
   (B2 (D9 (Vb P w (zBu P w hu) (pv 2) (A6 (pv 4) A8)))))))),?_⟩
  refine⟨rfl,fun p hp=>?_⟩;have s0:Same H (upd H p (Mb P w p [])):=Same.new hp;refine ex1 rfl ⟨a,ex1 rfl ⟨(s0.at a).seqL hP,Nw (n:=ps.length) (fun i σ H1=>∃v3 v4,σ = [some (.ref n),some (.ref a),some (.ref p),v3,v4]/\Same H H1/\H1 p=some (Mb P w p (Ge (ps.take i)))) ⟨_,_,rfl,s0,A7⟩ ?_ ?_ ?_ ?_⟩⟩
  .rintro i σ H1 hi ⟨v2,v3,rfl,s1,e1⟩;exact⟨_,_,(s1.at a).seqL hP,by unfold M5;rw[AJ,AC hi];rfl⟩
  .rintro σ H1 ⟨v2,v3,rfl,s1,e1⟩;exact⟨_,(s1.at a).seqL hP,by unfold M5;rw[AB]⟩
  .rintro i σ H1 v H' hi ⟨v2,v3,rfl,s1,e1⟩ ⟨t,x,rfl,ht,rfl,hx⟩;have hx:=hx _ ((s1.at a).seqL hP);have hi':ps[i]?=some ps[i]:=AC hi;unfold M5 at hx;rw[AJ,hi']at hx;cases hx;have hm:ps[i]∈ps:=EB hi;obtain⟨hn1,hn2⟩:=hN _ hm;have npt:p≠t:=A9 e1 ht;have s2:Same H (upd H1 t (.tup [.int i,.ref ps[i].1])):=s1.trans (Same.new ht);have hq:=s2 _ _ (hI _ hm);refine⟨t,ex1 rfl ⟨SqT.of A7,rfl,_,ex1 rfl (C1 rfl rfl ?_)⟩⟩;refine ex1 rfl (ex1 rfl ⟨n,ss,ps[i].1,ps[i].2.1,ps[i].2.2,rfl,(s2.at n).seqL hS,hq,hn1,hn2,ex1 rfl ?_⟩);refine T0 ?_;have e2:(upd H1 t (.tup [.int i,.ref ps[i].1])) p=some (Mb P w p (Ge (ps.take i))):=by rw[B5 npt];exact e1
   have hin:Jw (upd H1 t (.tup [.int i,.ref ps[i].1])) (Ge (ps.take i)):=Sx (C8 s2 fun q hq=>hI q (CK hq));have hne:∀q∈Ge (ps.take i),q.1≠[.inr ps[i].2.1,.inr ps[i].2.2]:=fun q hq e=>by
    obtain⟨z,hz,rfl⟩:=AI.mp hq;have e':z.2=ps[i].2:=by
     obtain⟨z1,z2,z3⟩:=z;simp only[List.cons.injEq,Sum.inr.injEq,and_true]at e;exact Prod.ext e.1 e.2
    have h1:(ps.map fun q=>q.2)[i]?=some ps[i].2:=by rw[AJ,hi'];rfl
    refine Az hD h1 ?_;rw[<-List.map_take,<-e'];exact AI.mpr ⟨z,hz,rfl⟩
   refine ex1 rfl (ex1 rfl ⟨p,ps[i].1,_,[.inr ps[i].2.1,.inr ps[i].2.2],rfl,rfl,e2,hq,hin,hne,ex1 rfl ?_⟩);refine T0 ?_;refine ex1 rfl ⟨⟨p,rfl,.inr (.inr ⟨_,e2⟩)⟩,ex1 rfl ⟨p,ps[i].1,_,[.inr ps[i].2.1,.inr ps[i].2.2],rfl,rfl,e2,hq,hin,hne,?_,?_⟩⟩
   .unfold Ge;rw[AB,AY];omega
   .refine⟨_,ex1 rfl ⟨s2.upd hp,?_⟩⟩;rw[A7,take_succ hi'];unfold Ge;rw[AL];rfl
  .rintro σ H1 ⟨v2,v3,rfl,s1,e1⟩;exact k H1 s1
end
def la(kvs:List (Key×V))(n:Str):Addr:=match Q3 kvs (.inr n)with | some (.ref l)=>l | _=>0
theorem Qb(kvs:List (Key×V))(n m:Str)(v:V):Q3 (Ik kvs (Sum.inr n:Key) v) (.inr m)=if m=n then some v else Q3 kvs (.inr m):=by
 rw[Rc];by_cases e:m=n
 .rw[AO e,AO (by rw[e])]
 .rw[AK e,AK (fun z=>e (Sum.inr.inj z))]
theorem Ah(kvs:List (Key×V))(n m:Str)(p:Addr):la (Ik kvs (.inr n) (.ref p)) m=if m=n then p else la kvs m:=by
 unfold la;rw[Qb];by_cases e:m=n
 .rw[AO e,AO e]
 .rw[AK e,AK e]
structure DOk(H0:Hp)(kvs:List (Key×V))(ns:List Str):Prop where
 val:∀n∈ns,Q3 kvs (.inr n)=some (.ref (la kvs n))
 inj:∀n∈ns,∀m∈ns,la kvs n=la kvs m->n=m
 fr:∀n∈ns,H0 (la kvs n)=none
theorem Uh{K:PySem.W.Frag}{J:It}{a:Addr}{ns:List Str}{H:Hp}{σ:St}{Q:St->Hp->Prop}(as:AsSeq J (ns.map V.str) a H)(hσ:∃v,σ = [v])(nd:ns.Nodup)(hl:ns.length<=1000){D:Addr}(hD:H D=none)
  (q:∀σ kvs H',Same H H'->H' D=some (.dK kvs)->DOk H kvs ns->(∀n∈ns,H' (la kvs n)=some (.lst []))->(∀n∈ns,la kvs n≠D)->Q σ H') :
  o9 (K9 0) V0 (Sk D (Y5 0) (Om Cr)) J σ (upd H D (.dK [])) Q:=by
 obtain⟨v,rfl⟩:=hσ;refine M9 as (fun i σ H1=>(∃v,σ = [v])/\∃kvs,Same H H1/\H1 D=some (.dK kvs)/\kvs.length<=i/\DOk H kvs (ns.take i)/\(∀n∈ns.take i,H1 (la kvs n)=some (.lst []))/\∀n∈ns.take i,la kvs n≠D)
  ⟨⟨v,rfl⟩,[],Same.new hD,A7,CD _,⟨fun n h=>by simp at h,fun n h=>by simp at h,fun n h=>by simp at h⟩,fun n h=>by simp at h,fun n h=>by simp at h⟩ (fun i σ H1 _ ⟨_,kvs,s1,_⟩=>s1.at a) ?_ ?_
 .rintro i σ H1 x N hx ⟨⟨v,rfl⟩,kvs,s1,e1,l1,D1,c1,n1⟩ hN;rw[AJ]at hx;have hi:i<ns.length:=by
   rcases Nat.lt_or_ge i ns.length with z | z
   .exact z
   .rw[DR z]at hx;cases hx
  have hi':ns[i]?=some ns[i]:=AC hi;rw[hi']at hx;cases hx;refine Y4 ?_;refine ex1 rfl ⟨CD _,fun p hp=>?_⟩;have npD:D≠p:=A9 e1 hp;refine⟨kvs,.inr ns[i],by rw[B5 npD];exact e1,rfl,by rw[sizeLine_eq];omega,hN _ _ ⟨⟨_,rfl⟩,Ik kvs (.inr ns[i]) (.ref p),?_,A7,?_,⟨?_,?_,?_⟩,?_,?_⟩⟩
  .exact(s1.trans (Same.new hp)).upd hD
  .have:=w9 kvs (Sum.inr ns[i]:Key) (.ref p);omega
  all_goals rw[take_succ hi']
  .intro n hn;rw[Qb,Ah];by_cases e:n=ns[i]
   .rw[AO e,AO e]
   .rw[AK e,AK e];rcases AU.mp hn with z | z
    .exact D1.val n z
    .exact absurd (AF.mp z) e
  .intro n hn m hm;rw[Ah,Ah];have old:∀k∈ns.take i ++ [ns[i]],k≠ns[i]->k∈ns.take i:=fun k hk e=>(AU.mp hk).elim id fun z=>absurd (AF.mp z) e;by_cases e:n=ns[i]
   .by_cases e':m=ns[i]
    .exact fun _=>e.trans e'.symm
    .rw[AO e,AK e'];intro z;have:=c1 m (old m hm e');rw[<-z,hp]at this;cases this
   .by_cases e':m=ns[i]
    .rw[AK e,AO e'];intro z;have:=c1 n (old n hn e);rw[z,hp]at this;cases this
    .rw[AK e,AK e'];exact D1.inj n (old n hn e) m (old m hm e')
  .intro n hn;rw[Ah];by_cases e:n=ns[i]
   .rw[AO e];exact s1.free hp
   .rw[AK e];rcases AU.mp hn with z | z
    .exact D1.fr n z
    .exact absurd (AF.mp z) e
  .intro n hn;rw[Ah];by_cases e:n=ns[i]
   .rw[AO e,B5 npD.symm,A7]
   .rw[AK e];rcases AU.mp hn with z | z
    .rw[B5 (n1 n z),B5 (A9 (c1 n z) hp)];exact c1 n z
    .exact absurd (AF.mp z) e
  .intro n hn;rw[Ah];by_cases e:n=ns[i]
   .rw[AO e];exact npD.symm
   .rw[AK e];rcases AU.mp hn with z | z
    .exact n1 n z
    .exact absurd (AF.mp z) e
 .rintro σ H1 ⟨_,kvs,s1,e1,l1,D1,c1,n1⟩;rw[AB]at *;rw[DB]at *;exact q σ kvs H1 s1 e1 D1 c1 n1
def B7(qs:List PA2)(n:Str):List Str:=(qs.filter fun q=>decide (q.2.2=n)).map fun q=>q.2.1
def B6(qs:List PA2)(n:Str):List Str:=(qs.filter fun q=>decide (q.2.1=n)).map fun q=>q.2.2
theorem u8(qs:List PA2)(q:PA2)(n:Str):B7 (qs ++ [q]) n=B7 qs n ++(if q.2.2=n then [q.2.1]else []):=by
 unfold B7;rw[FR,AL];by_cases e:q.2.2=n
 .rw[AO e,EV,AO (AZ e)];rfl
 .rw[AK e,EV,AK (by simp[e])];rfl
theorem Cg(qs:List PA2)(q:PA2)(n:Str):B6 (qs ++ [q]) n=B6 qs n ++(if q.2.1=n then [q.2.2]else []):=by
 unfold B6;rw[FR,AL];by_cases e:q.2.1=n
 .rw[AO e,EV,AO (AZ e)];rfl
 .rw[AK e,EV,AK (by simp[e])];rfl
def wf(a b c d:Addr):List (Str×V):=[("names",.ref a),("strikes",.ref b),("strikers_by_name",.ref c),("struck_by_name",.ref d)]
structure WebOk(ns:List Str)(qs:List PA2):Prop where
 nd:ns.Nodup
 len:ns.length<=100
 srt:ns.Pairwise leS
 mem:∀q∈qs,q.2.1∈ns/\q.2.2∈ns
 ndq:(qs.map fun q=>q.2).Nodup
 lenq:qs.length<=200
 srq:qs.Pairwise leP
structure WebAt(C:Addr)(H:Hp)(x:Addr)(ns:List Str)(qs:List PA2):Prop where
 ok:WebOk ns qs
 ex:∃dx a b c d kc kd,H x=some (.ins C dx (wf a b c d))/\H a=some (.lst (ns.map V.str))/\H b=some (.lst (M5 qs))/\(∀q∈qs,E2 H q)/\H c=some (.dK kc)/\H d=some (.dK kd) /\
  (∀n∈ns,∃l,Q3 kc (.inr n)=some (.ref l)/\H l=some (.lst ((B7 qs n).map V.str)))/\∀n∈ns,∃l,Q3 kd (.inr n)=some (.ref l)/\H l=some (.lst ((B6 qs n).map V.str))
section
variable{P:Program}{w:World}{K:PySem.W.Frag}{mg:Str->Option Value}{base:Heap}
theorem O8:FnScope ["self", "names", "strikes", "one", "other"] ["self", "names", "strikes"] (B4 s_Web___init__):=fsc
def Hq(K:PySem.W.Frag)(C:Addr):Sp:=fun vs H Q _=>∃(x dx n:Addr) (ss:List Str) (a:Addr) (ps:List PA2),vs = [.ref x,.ref n,.ref a]/\H x=some (.ins C dx [])/\H n=some (.lst (ss.map V.str))/\Gw ss /\
 H a=some (.lst (M5 ps))/\(∀q∈ps,E2 H q)/\StrkOk ss ps/\∀ns qs H',ns.Perm ss->ns.Pairwise leS->qs.Perm ps->qs.Pairwise leP->Sm [x] H H'->WebAt C H' x ns qs->Q .non H'
theorem Hx(T:Tx K mg):FnOk P w K mg base CX0 3 T.bt T.bs ["self", "names", "strikes"] (Hq K T.ac):=by
 have G_check_names:=Aa (P:=P) (w:=w) (base:=base) T;have G_check_strikes:=Z7 (P:=P) (w:=w) (base:=base) T;have sc:=O8;refine T.bu.ok O8 (fun vs H Q E h=>?_) (fun cdv A outer s H vs Q E hr h=>?_)
 .obtain⟨x,dx,n,ss,a,ps,rfl,_⟩:=h;rfl
 .obtain⟨x,dx,n,ss,a,ps,rfl,hx,hS,hN,hP,hI,hO,k⟩:=h;have hu:=y6 hr;refine⟨_,(B0 (D9 (G9 T.aR G_check_names (Rm hr) (A6 (pv 1) A8)))
   (B0 (D9 (G9 T.aL G_check_strikes (Rm hr) (A6 (pv 1) (A6 (pv 2) A8))))
   (B0 (psF K (pv 0) (F2 (Ub K) T.aP M0 (A6 (pv 1) A8)))
   (B0 (psF K (pv 0) (F2 (Rh K) T.aP M0 (A6 (pv 2) A8)))
   (B0 (psF K (pv 0) (Nv (N':=["name"]) (cap:=[none]) (cl:=[]) (J8 trivial trivial) rfl (piL K (peF K (pv 0))) (fun _ _ _ _=>by exact⟨(pgC 0),E1,(pv 0),(D0 A8)⟩)))
   (B0 (psF K (pv 0) (Nv (N':=["name"]) (cap:=[none]) (cl:=[]) (J8 trivial trivial) rfl (piL K (peF K (pv 0))) (fun _ _ _ _=>by exact⟨(pgC 0),E1,(pv 0),(D0 A8)⟩)))
   (B2 (R9 PassesOwn.never rfl (piL K (peF K (pv 0))) (pgT K (n:=2) (B8 (C3 (i:=3) sc.nd rfl (.inl rfl)) (B8 (C3 (i:=4) sc.nd rfl (.inl rfl)) F1)))
   (B0 (D9 (Ra K PySem.F.plainAttrs_list PySem.F.slot_list_append PySem.F.type_list_append E8 (I9 hu (peF K (pv 0)) (pv 4) (fun _ _=>rfl)) (A6 (pv 3) A8)))
   (B2 (D9 (Ra K PySem.F.plainAttrs_list PySem.F.slot_list_append PySem.F.type_list_append E8 (I9 hu (peF K (pv 0)) (pv 3) (fun _ _=>rfl)) (A6 (pv 4) A8))))))))))))),?_⟩
  obtain⟨hN1,hN2,hN3⟩:=id hN;obtain⟨hO1,hO2,hO3⟩:=id hO;refine B3 fun Z1 hZ1=>?_;refine ex1 rfl ⟨n,ss,rfl,SqL.of hS,hN,fun H1 s1=>?_⟩;refine hZ1 _ _ (B3 fun Z2 hZ2=>?_);refine ex1 rfl (ex1 rfl ⟨n,ss,a,ps,rfl,SqL.of (s1 _ _ hS),SqL.of (s1 _ _ hP),C8 s1 hI,hO,fun H2 s2=>?_⟩);refine hZ2 _ _ (B3 fun Z3 hZ3=>?_);have s12:=s1.trans s2;refine ex1 rfl ⟨n,ss,rfl,SqL.of (s12 _ _ hS),fun l1 ns hl1 p1 w1=>?_⟩;have nx1:x≠l1:=A9 (s12 _ _ hx) hl1;refine ex1 rfl ⟨x,T.ac,dx,[],rfl,by rw[B5 nx1];exact s12 _ _ hx,T.am,T.aN,by decide,?_⟩;have hxa:a≠x:=Y8 hP hx (by intro z;cases z);have k3:Sm [x] H (upd (upd H2 l1 (.lst (ns.map V.str))) x (.ins T.ac dx (J4 "names" (.ref l1) []))):=(Sm.new s12.sm hl1).upd (by simp);have e3:(upd (upd H2 l1 (.lst (ns.map V.str))) x (.ins T.ac dx (J4 "names" (.ref l1) []))) l1=some (.lst (ns.map V.str)):=by rw[B5 nx1.symm,A7]
  generalize hH3:upd (upd H2 l1 (.lst (ns.map V.str))) x (.ins T.ac dx (J4 "names" (.ref l1) []))=H3 at k3 e3⊢;refine hZ3 _ _ (B3 fun Z4 hZ4=>?_);have x3:H3 x=some (.ins T.ac dx [("names",.ref l1)]):=by rw[<-hH3,A7];rfl
  have nin:∀{b:Addr},b≠x->b∉[x]:=fun h z=>h (AF.mp z);have pin3:∀q∈ps,E2 H3 q:=fun q hq=>k3 _ _ (hI q hq) (nin (Y8 (hI q hq) hx (by intro z;cases z)));refine ex1 rfl ⟨a,ps,rfl,SqL.of (k3 _ _ hP (nin hxa)),pin3,fun l2 qs hl2 p2 w2=>?_⟩;have nx2:x≠l2:=A9 x3 hl2;refine ex1 rfl ⟨x,T.ac,dx,[("names",.ref l1)],rfl,by rw[B5 nx2];exact x3,T.am,T.bf,by simp,?_⟩;have k4:Sm [x] H3 (upd (upd H3 l2 (.lst (M5 qs))) x (.ins T.ac dx (J4 "strikes" (.ref l2) [("names",.ref l1)]))):=(Sm.new (Sm.refl _ _) hl2).upd (by simp);have e4:(upd (upd H3 l2 (.lst (M5 qs))) x (.ins T.ac dx (J4 "strikes" (.ref l2) [("names",.ref l1)]))) l2=some (.lst (M5 qs)):=by rw[B5 nx2.symm,A7]
  have x4:(upd (upd H3 l2 (.lst (M5 qs))) x (.ins T.ac dx (J4 "strikes" (.ref l2) [("names",.ref l1)]))) x=some (.ins T.ac dx [("names",.ref l1),("strikes",.ref l2)]):=by rw[A7];rfl
  refine hZ4 _ _ ?_;show zBn _ _ _ _ (upd (upd H3 l2 (.lst (M5 qs))) x (.ins T.ac dx (J4 "strikes" (.ref l2) [("names",.ref l1)])));generalize upd (upd H3 l2 (.lst (M5 qs))) x (.ins T.ac dx (J4 "strikes" (.ref l2) [("names",.ref l1)]))=H4 at k4 e4 x4⊢;have f4:H4 l1=some (.lst (ns.map V.str)):=k4 _ _ e3 (nin nx1.symm);have pin4:∀q∈qs,E2 H4 q:=fun q hq=>k4 _ _ (pin3 q (p2.mem_iff.mp hq)) (nin (Y8 (pin3 q (p2.mem_iff.mp hq)) x3 (by intro z;cases z)));have ndn:ns.Nodup:=p1.nodup_iff.mpr hN2;have lnn:ns.length<=1000:=by rw[p1.length_eq];omega
  refine B3 fun Z5 hZ5=>?_;refine ex1 rfl ⟨x,T.ac,dx,_,ex1 rfl ⟨x4,T.am,T.aN,rfl,l1,rfl,⟨_,SqL.of f4⟩,fun c hc=>Uh (K:=K) (asL (SqL.of f4)) ⟨_,rfl⟩ ndn lnn hc fun _ kc H5 s5 e5 D5 c5 n5=>?_⟩⟩;have x5:=s5 _ _ x4;refine ex1 rfl ⟨x,T.ac,dx,ex1 rfl ⟨x5,T.am,T.az,by simp,?_⟩⟩;have k6:Sm [x] H5 (upd H5 x (.ins T.ac dx (J4 "strikers_by_name" (.ref c) [("names",.ref l1),("strikes",.ref l2)]))):=(Sm.refl _ _).upd (by simp);have x6:(upd H5 x (.ins T.ac dx (J4 "strikers_by_name" (.ref c) [("names",.ref l1),("strikes",.ref l2)]))) x=some (.ins T.ac dx [("names",.ref l1),("strikes",.ref l2),("strikers_by_name",.ref c)]):=by rw[A7];rfl
  generalize upd H5 x (.ins T.ac dx (J4 "strikers_by_name" (.ref c) [("names",.ref l1),("strikes",.ref l2)]))=H6 at k6 x6⊢;refine hZ5 _ _ (B3 fun Z6 hZ6=>?_);have kk6:∀{b:Addr} {o:HO},H4 b=some o->b≠x->H6 b=some o:=fun e hb=>k6 _ _ (s5 _ _ e) (nin hb);have f6:=kk6 f4 nx1.symm;have g6:=kk6 e4 nx2.symm;have c6:H6 c=some (.dK kc):=k6 _ _ e5 (nin (A9 x4 hc).symm);have cl6:∀n∈ns,H6 (la kc n)=some (.lst []):=fun n hn=>k6 _ _ (c5 n hn) (nin (A9 x4 (D5.fr n hn)).symm);refine ex1 rfl ⟨x,T.ac,dx,_,ex1 rfl ⟨x6,T.am,T.aN,rfl,l1,rfl,⟨_,SqL.of f6⟩,fun d hd=>Uh (K:=K) (asL (SqL.of f6)) ⟨_,rfl⟩ ndn lnn hd fun _ kd H7 s7 e7 D7 c7 n7=>?_⟩⟩;have x7:=s7 _ _ x6;refine ex1 rfl ⟨x,T.ac,dx,ex1 rfl ⟨x7,T.am,T.aC,by simp,?_⟩⟩;have k8:Sm [x] H7 (upd H7 x (.ins T.ac dx (J4 "struck_by_name" (.ref d) [("names",.ref l1),("strikes",.ref l2),("strikers_by_name",.ref c)]))):=(Sm.refl _ _).upd (by simp);have x8:(upd H7 x (.ins T.ac dx (J4 "struck_by_name" (.ref d) [("names",.ref l1),("strikes",.ref l2),("strikers_by_name",.ref c)]))) x=some (.ins T.ac dx (wf l1 l2 c d)):=by rw[A7];rfl
  generalize upd H7 x (.ins T.ac dx (J4 "struck_by_name" (.ref d) [("names",.ref l1),("strikes",.ref l2),("strikers_by_name",.ref c)]))=H8 at k8 x8⊢;refine hZ6 _ _ ?_;have kk8:∀{b:Addr} {o:HO},H6 b=some o->b≠x->H8 b=some o:=fun e hb=>k8 _ _ (s7 _ _ e) (nin hb);have f8:=kk8 f6 nx1.symm;have g8:=kk8 g6 nx2.symm;have c8:=kk8 c6 (A9 x4 hc).symm;have d8:H8 d=some (.dK kd):=k8 _ _ e7 (nin (A9 x6 hd).symm);have cl8:∀n∈ns,H8 (la kc n)=some (.lst []):=fun n hn=>kk8 (cl6 n hn) (A9 x4 (D5.fr n hn)).symm;have dl8:∀n∈ns,H8 (la kd n)=some (.lst []):=fun n hn=>k8 _ _ (c7 n hn) (nin (A9 x6 (D7.fr n hn)).symm);have pin8:∀q∈qs,E2 H8 q:=fun q hq=>kk8 (kk6 (pin4 q hq) (Y8 (pin4 q hq) x4 (by intro z;cases z))) (Y8 (pin4 q hq) x4 (by intro z;cases z));have dif:∀n∈ns,∀m∈ns,la kc n≠la kd m:=fun n hn m hm=>A9 (cl6 n hn) (D7.fr m hm);have old4:∀{b:Addr} {o:HO},H4 b=some o->b≠x->(∀n∈ns,b≠la kc n)/\∀n∈ns,b≠la kd n:=fun e hb=>⟨fun n hn=>A9 e (D5.fr n hn),fun n hn=>A9 (kk6 e hb) (D7.fr n hn)⟩;have kall:Sm [x] H H8:=fun b o e hb=>by
   have hb':b≠x:=fun z=>hb (by simp[z]);exact kk8 (kk6 (k4 _ _ (k3 _ _ e hb) hb) hb') hb'
  have odif:∀{b:Addr} {o:HO},H b=some o->b≠x->(∀n∈ns,b≠la kc n)/\∀n∈ns,b≠la kd n:=fun e hb=>old4 (k4 _ _ (k3 _ _ e (nin hb)) (nin hb)) hb;have xdif:(∀n∈ns,x≠la kc n)/\∀n∈ns,x≠la kd n:=⟨fun n hn=>A9 x4 (D5.fr n hn),fun n hn=>A9 x6 (D7.fr n hn)⟩;have cdif:(∀n∈ns,c≠la kc n)/\∀n∈ns,c≠la kd n:=⟨fun n hn=>(n5 n hn).symm,fun n hn=>A9 c6 (D7.fr n hn)⟩;have ddif:(∀n∈ns,d≠la kc n)/\∀n∈ns,d≠la kd n:=⟨fun n hn=>(A9 (cl6 n hn) hd).symm,fun n hn=>(n7 n hn).symm⟩;refine⟨_,rfl,x,T.ac,dx,_,_,rfl,x8,T.am,T.bf,rfl,l2,rfl,⟨_,SqL.of g8⟩,Bm (asL (SqL.of g8)) (fun i σ H9=>(∃v3 v4,σ = [some (.ref x),some (.ref n),some (.ref a),v3,v4]) /\
   (∀b o,H8 b=some o->((∀n∈ns,b≠la kc n)/\∀n∈ns,b≠la kd n)->H9 b=some o)/\(∀n∈ns,H9 (la kc n)=some (.lst ((B7 (qs.take i) n).map V.str)))/\∀n∈ns,H9 (la kd n)=some (.lst ((B6 (qs.take i) n).map V.str)))
   ⟨⟨_,_,rfl⟩,fun b o e _=>e,cl8,dl8⟩ ?_ ?_ ?_⟩
  .rintro i σ H9 _ ⟨_,h1,_⟩ o e;exact h1 _ _ e (old4 e4 nx2.symm)
  .rintro i σ H9 v hv ⟨⟨v3,v4,rfl⟩,h1,h2,h3⟩ D1 hD1 _;unfold M5 at hv;rw[AJ]at hv;cases hq:qs[i]? with
   | none=>rw[hq]at hv;cases hv
   | some q =>
    rw[hq]at hv;cases hv;have hm:q∈qs:=BJ hq;have hq9:E2 H9 q:=h1 _ _ (pin8 q hm) (old4 (pin4 q hm) (Y8 (pin4 q hm) x4 (by intro z;cases z)));obtain⟨m1,m2⟩:=hO1 q (p2.mem_iff.mp hm);have m1:q.2.1∈ns:=p1.mem_iff.mpr m1;have m2:q.2.2∈ns:=p1.mem_iff.mpr m2;have hlen:∀l:List PA2,l.length<=200->∀n,(B7 l n).length<=200/\(B6 l n).length<=200:=fun l hl n=>by
     unfold B7 B6;rw[AB,AB];exact⟨Nat.le_trans (DU ..) hl,Nat.le_trans (DU ..) hl⟩
    have hl200:(qs.take i).length<=200:=by
     rw[AY];have:=p2.length_eq;omega
    have x9:H9 x=some (.ins T.ac dx (wf l1 l2 c d)):=h1 _ _ x8 xdif;refine⟨q.1,ex1 rfl ⟨SqT.of hq9,rfl,_,ex1 rfl (C1 rfl rfl ?_)⟩⟩;refine ex1 rfl ⟨x,T.ac,dx,_,ex1 rfl ⟨x9,T.am,T.az,rfl,ex1 rfl ⟨c,.ref (la kc q.2.2),rfl,by rw[<-D5.val _ m2];exact DGet.k (k:=Sum.inr q.2.2) (h1 _ _ c8 cdif),.inl ⟨rfl,_,SqL.of (h2 _ m2)⟩,ex1 rfl ⟨_,C1 rfl rfl ⟨h2 _ m2,?_,?_⟩⟩⟩⟩⟩
    .rw[AB,sizeLine_eq];have:=(hlen _ hl200 q.2.2).1;omega
    have x10:(upd H9 (la kc q.2.2) (.lst ((B7 (qs.take i) q.2.2).map V.str ++ [.str q.2.1]))) x=some (.ins T.ac dx (wf l1 l2 c d)):=by rw[B5 (xdif.1 _ m2)];exact x9
    have d10:(upd H9 (la kc q.2.2) (.lst ((B7 (qs.take i) q.2.2).map V.str ++ [.str q.2.1]))) d=some (.dK kd):=by rw[B5 (ddif.1 _ m2)];exact h1 _ _ d8 ddif
    have l10:(upd H9 (la kc q.2.2) (.lst ((B7 (qs.take i) q.2.2).map V.str ++ [.str q.2.1]))) (la kd q.2.1)=some (.lst ((B6 (qs.take i) q.2.1).map V.str)):=by rw[B5 (dif _ m2 _ m1).symm];exact h3 _ m1
    refine ex1 rfl ⟨x,T.ac,dx,_,ex1 rfl ⟨x10,T.am,T.aC,rfl,ex1 rfl ⟨d,.ref (la kd q.2.1),rfl,by rw[<-D7.val _ m1];exact DGet.k (k:=Sum.inr q.2.1) d10,.inl ⟨rfl,_,SqL.of l10⟩,ex1 rfl ⟨_,C1 rfl rfl ⟨l10,?_,?_⟩⟩⟩⟩⟩
    .rw[AB,sizeLine_eq];have:=(hlen _ hl200 q.2.1).2;omega
    refine hD1 _ _ ⟨⟨_,_,rfl⟩,fun b o e hb=>?_,fun m hm=>?_,fun m hm=>?_⟩
    .rw[B5 (hb.2 _ m1),B5 (hb.1 _ m2)];exact h1 b o e hb
    .rw[B5 (dif m hm _ m1),take_succ hq,u8];by_cases e:q.2.2=m
     .rw[<-e,A7,AO rfl,AL];rfl
     .rw[AK e,DA,B5 (fun z=>e (D5.inj _ hm _ m2 z).symm)];exact h2 m hm
    .rw[take_succ hq,Cg];by_cases e:q.2.1=m
     .rw[<-e,A7,AO rfl,AL];rfl
     .rw[AK e,DA,B5 (fun z=>e (D7.inj _ hm _ m1 z).symm),B5 (dif _ m2 _ hm).symm];exact h3 m hm
  .rintro σ H9 ⟨_,h1,h2,h3⟩;have hlq:(M5 qs).length=qs.length:=by unfold M5;rw[AB]
   rw[hlq,DB]at h2 h3;refine k ns qs H9 p1 w1 p2 w2 (fun b o e hb=>?_) ⟨⟨ndn,by rw[p1.length_eq];exact hN3,w1,fun q hq=>⟨p1.mem_iff.mpr (hO1 q (p2.mem_iff.mp hq)).1,p1.mem_iff.mpr (hO1 q (p2.mem_iff.mp hq)).2⟩,(p2.map _).nodup_iff.mpr hO2,by rw[p2.length_eq];exact hO3,w2⟩,dx,l1,l2,c,d,kc,kd,h1 _ _ x8 xdif,h1 _ _ f8 (old4 f4 nx1.symm),h1 _ _ g8 (old4 e4 nx2.symm),fun q hm=>h1 _ _ (pin8 q hm) (old4 (pin4 q hm) (Y8 (pin4 q hm) x4 (by intro z;cases z))),h1 _ _ c8 cdif,h1 _ _ d8 ddif,fun n hn=>⟨_,D5.val n hn,h2 n hn⟩,fun n hn=>⟨_,D7.val n hn,h3 n hn⟩⟩;have hb':b≠x:=fun z=>hb (by simp[z]);exact h1 _ _ (kall b o e hb) (odif e hb')
end
theorem WebAt.same{C:Addr}{H H':Hp}{x:Addr}{ns:List Str}{qs:List PA2}(h:WebAt C H x ns qs)(s:Same H H'):WebAt C H' x ns qs:=by
 obtain⟨ok,dx,a,b,c,d,kc,kd,e1,e2,e3,e4,e5,e6,e7,e8⟩:=h;exact⟨ok,dx,a,b,c,d,kc,kd,s _ _ e1,s _ _ e2,s _ _ e3,C8 s e4,s _ _ e5,s _ _ e6,fun n hn=>let⟨l,v,e⟩:=e7 n hn;⟨l,v,s _ _ e⟩,fun n hn=>let⟨l,v,e⟩:=e8 n hn;⟨l,v,s _ _ e⟩⟩
section
variable{P:Program}{w:World}{K:PySem.W.Frag}{mg:Str->Option Value}{base:Heap}
theorem b9:FnScope ["self"] ["self"] (B4 s_Web_all_names):=fsc
def Em(C:Addr):Sp:=fun vs H Q _=>∃(x:Addr) (ns:List Str) (qs:List PA2),vs = [.ref x]/\WebAt C H x ns qs/\∀l,H l=none->Q (.ref l) (upd H l (.lst (ns.map V.str)))
theorem O6(T:Tx K mg):FnOk P w K mg base CX0 1 T.ao.f T.ao.fd ["self"] (Em T.ac):=by
 refine T.ao.F.ok b9 (fun vs H Q E h=>?_) (fun cdv A outer s H vs Q E hr h=>?_)
 .obtain⟨x,ns,qs,rfl,_⟩:=h;rfl
 .obtain⟨x,ns,qs,rfl,⟨ok,dx,a,b,c,d,kc,kd,e1,e2,e3,e4,e5,e6,e7,e8⟩,k⟩:=h;refine⟨_,(B2 (C0 (Kl (Hs K) T.bh Bd (A6 (peF K (pv 0)) A8)))),?_⟩;exact⟨_,rfl,x,T.ac,dx,_,_,rfl,e1,T.am,T.aN,rfl,a,_,rfl,.inl (SqL.of e2),k⟩
theorem Z0:FnScope ["self", "name"] ["self", "name"] (B4 s_Web_check_has):=fsc
def Dj(C:Addr):Sp:=fun vs H Q _=>∃(x:Addr) (n:Str) (ns:List Str) (qs:List PA2),vs = [.ref x,.str n]/\WebAt C H x ns qs/\n∈ns/\Q .non H
theorem O0(T:Tx K mg):FnOk P w K mg base CX0 1 T.ap.f T.ap.fd ["self", "name"] (Dj T.ac):=by
 refine T.ap.F.ok Z0 (fun vs H Q E h=>?_) (fun cdv A outer s H vs Q E hr h=>?_)
 .obtain⟨x,n,ns,qs,rfl,_⟩:=h;rfl
 .obtain⟨x,n,ns,qs,rfl,⟨ok,dx,a,b,c,d,kc,kd,e1,e2,e3,e4,e5,e6,e7,e8⟩,hn,k⟩:=h;refine⟨_,(B2 (F4 (D4 (Tu K) (pv 1) (peF K (pv 0)) rfl) (B2 Bc) C7)),?_⟩;refine ex1 rfl (ex1 rfl ⟨x,T.ac,dx,_,ex1 rfl ⟨e1,T.am,T.aN,rfl,Lx (.inl (SqL.of e2)) ⟨_,rfl,?_⟩⟩⟩);rw[AZ hn];exact T0 k
theorem Cm:FnScope ["self", "name"] ["self", "name"] (B4 s_Web_struck):=fsc
def Nl(C:Addr):Sp:=fun vs H Q _=>∃(x:Addr) (n:Str) (ns:List Str) (qs:List PA2),vs = [.ref x,.str n]/\WebAt C H x ns qs/\n∈ns/\∀l,H l=none->Q (.ref l) (upd H l (.lst ((B6 qs n).map V.str)))
theorem U3(T:Tx K mg):FnOk P w K mg base CX0 2 T.av.f T.av.fd ["self", "name"] (Nl T.ac):=by
 have G_Web_check_has:=O0 (P:=P) (w:=w) (base:=base) T;refine T.av.F.ok Cm (fun vs H Q E h=>?_) (fun cdv A outer s H vs Q E hr h=>?_)
 .obtain⟨x,n,ns,qs,rfl,_⟩:=h;rfl
 .obtain⟨x,n,ns,qs,rfl,hW,hn,k⟩:=h;have hu:=y6 hr;obtain⟨ok,dx,a,b,c,d,kc,kd,e1,e2,e3,e4,e5,e6,e7,e8⟩:=id hW;refine⟨_,(B0 (D9 (E4 (pv 0) T.am T.ap.m G_Web_check_has (Rm hr) T.ap.b .nil G6 (A6 (pv 1) A8)))
   (B2 (C0 (Kl (Hs K) T.bh Bd (A6 (I9 hu (peF K (pv 0)) (pv 1) (fun _ _=>rfl)) A8))))),?_⟩
  refine ex1 rfl ⟨x,dx,ex1 rfl ⟨e1,rfl,ex1 rfl ⟨x,n,ns,qs,rfl,hW,hn,?_⟩⟩⟩;obtain⟨l,v,e⟩:=e8 n hn;exact⟨_,rfl,x,T.ac,dx,_,_,rfl,e1,T.am,T.aC,rfl,_,rfl,d,_,rfl,by rw[<-v];exact DGet.k (k:=Sum.inr n) e6,l,_,rfl,.inl (SqL.of e),k⟩
theorem r8:FnScope ["self", "name"] ["self", "name"] (B4 s_Web_strikers):=fsc
def Hu(C:Addr):Sp:=fun vs H Q _=>∃(x:Addr) (n:Str) (ns:List Str) (qs:List PA2),vs = [.ref x,.str n]/\WebAt C H x ns qs/\n∈ns/\∀l,H l=none->Q (.ref l) (upd H l (.lst ((B7 qs n).map V.str)))
theorem t4(T:Tx K mg):FnOk P w K mg base CX0 2 T.ax.f T.ax.fd ["self", "name"] (Hu T.ac):=by
 have G_Web_check_has:=O0 (P:=P) (w:=w) (base:=base) T;refine T.ax.F.ok r8 (fun vs H Q E h=>?_) (fun cdv A outer s H vs Q E hr h=>?_)
 .obtain⟨x,n,ns,qs,rfl,_⟩:=h;rfl
 .obtain⟨x,n,ns,qs,rfl,hW,hn,k⟩:=h;have hu:=y6 hr;obtain⟨ok,dx,a,b,c,d,kc,kd,e1,e2,e3,e4,e5,e6,e7,e8⟩:=id hW;refine⟨_,(B0 (D9 (E4 (pv 0) T.am T.ap.m G_Web_check_has (Rm hr) T.ap.b .nil G6 (A6 (pv 1) A8)))
   (B2 (C0 (Kl (Hs K) T.bh Bd (A6 (I9 hu (peF K (pv 0)) (pv 1) (fun _ _=>rfl)) A8))))),?_⟩
  refine ex1 rfl ⟨x,dx,ex1 rfl ⟨e1,rfl,ex1 rfl ⟨x,n,ns,qs,rfl,hW,hn,?_⟩⟩⟩;obtain⟨l,v,e⟩:=e7 n hn;exact⟨_,rfl,x,T.ac,dx,_,_,rfl,e1,T.am,T.az,rfl,_,rfl,c,_,rfl,by rw[<-v];exact DGet.k (k:=Sum.inr n) e5,l,_,rfl,.inl (SqL.of e),k⟩
end
theorem Si{l:List Str}{k y:Str}:y∈Th l k↔y∈l\/y=k:=by
 unfold Th;by_cases h:k∈l
 .rw[AO h];exact⟨.inl,fun z=>z.elim id fun e=>e▸h⟩
 .rw[AK h,AU,AF]
theorem Wa{l:List Str}{k:Str}(nd:l.Nodup):(Th l k).Nodup:=by
 unfold Th;by_cases h:k∈l
 .rw[AO h];exact nd
 .rw[AK h];exact Mi nd h
theorem Sj(l:List Str)(k:Str):(Th l k).length<=l.length+1:=by
 unfold Th;split
 .omega
 .rw[BC];simp
theorem Wy{w:World}{J:It}{a D:Addr}{ys:List Str}{H0 H:Hp}{n:Nat}{σ:St}{Q:St->Hp->Prop}{Sg:St->Prop}{i0:Nat}(as:AsSeq J (ys.map V.str) a H)(hσ:Sg σ)(hS:∀σ v,Sg σ->Sg (σ.set i0 (some v))/\(σ.set i0 (some v))[i0]?=some (some v)){l:List Str}(hD:H D=some (Dg w D l))(haD:a≠D)(nd:l.Nodup)(hl:l.length+ys.length<=4000)
  (hs:Same H0 H) (hD0:H0 D=none) (q:∀σ l' H',Sg σ->Same H0 H'->H' D=some (Dg w D l')->l'.Nodup->l'.length<=l.length+ys.length->(∀y,y∈l'↔y∈l\/y∈ys)->Q σ H') :
  o9 (K9 i0) V0 (Da w D (Y5 i0)) J σ H Q:=by
 refine M9 as (fun i σ H1=>Sg σ/\Same H0 H1/\(∀o,H a=some o->H1 a=some o)/\∃l',H1 D=some (Dg w D l')/\l'.Nodup/\l'.length<=l.length+i/\∀y,y∈l'↔y∈l\/y∈ys.take i)
  ⟨hσ,hs,fun _ e=>e,l,hD,nd,Nat.le_refl _,fun y=>by simp⟩ (fun i σ H1 _ ⟨_,_,k,_⟩=>k) ?_ ?_
 .rintro i σ H1 x N hx ⟨hσ1,s1,ka,l',e1,n1,l1,m1⟩ hN;rw[AJ]at hx;cases hy:ys[i]? with
  | none=>rw[hy]at hx;cases hx
  | some y =>
   rw[hy]at hx;cases hx;have hi:=(AH.mp hy).1;refine Y4 ?_;refine⟨_,(hS σ _ hσ1).2,l',y,rfl,e1,by omega,hN _ _ ⟨(hS σ _ hσ1).1,s1.upd hD0,fun o e=>?_,Th l' y,A7,Wa n1,?_,fun z=>?_⟩⟩
   .rw[B5 haD];exact ka o e
   .have:=Sj l' y;omega
   .rw[Si,m1,take_succ hy,AU,AF,or_assoc]
 .rintro σ H1 ⟨hσ1,s1,ka,l',e1,n1,l1,m1⟩;rw[AB]at l1 m1;rw[DB]at m1;exact q σ l' H1 hσ1 s1 e1 n1 l1 m1
theorem mem_struckOf{qs:List PA2}{n y:Str}:y∈B6 qs n↔∃q∈qs,q.2.1=n/\q.2.2=y:=by
 unfold B6;rw[AI];constructor
 .rintro⟨q,hq,e⟩;obtain⟨h1,h2⟩:=B_.mp hq;exact⟨q,h1,BN h2,e⟩
 .rintro⟨q,h1,h2,h3⟩;exact⟨q,B_.mpr ⟨h1,AZ h2⟩,h3⟩
theorem Fi(qs:List PA2)(n:Str):(B6 qs n).length<=qs.length:=by
 unfold B6;rw[AB];exact DU ..
section
variable{P:Program}{w:World}{K:PySem.W.Frag}{mg:Str->Option Value}{base:Heap}
theorem Z9:FnScope ["web", "some"] ["web", "some"] (B4 s_struck_by_any):=fsc
def Yr(K:PySem.W.Frag)(C:Addr)(f:List PA2->Str->List Str):Sp:=fun vs H Q _=>∃(x a:Addr) (ss ns:List Str) (qs:List PA2),vs = [.ref x,.ref a]/\WebAt C H x ns qs/\Sqs K H a (ss.map V.str)/\(∀n∈ss,n∈ns) /\
 ∀l (hs:List Str) H',H l=none->Same H H'->H' l=some (.lst (hs.map V.str))->(∀y,y∈hs↔∃n∈ss,y∈f qs n)->hs.Pairwise leS->hs.Nodup->hs.length<=100->Q (.ref l) H'
theorem g7(T:Tx K mg):FnOk P w K mg base CX0 3 T.aH.f T.aH.fd ["web", "some"] (Yr K T.ac B6):=by
 have G_Web_struck:=U3 (P:=P) (w:=w) (base:=base) T;refine T.aH.F.ok Z9 (fun vs H Q E h=>?_) (fun cdv A outer s H vs Q E hr h=>?_)
 .obtain⟨x,a,ss,ns,qs,rfl,_⟩:=h;rfl
 .obtain⟨x,a,ss,ns,qs,rfl,hW,hS,hM,k⟩:=h;have hu:=y6 hr;obtain⟨ok,dx,a1,b,c,d,kc,kd,e1,_⟩:=id hW;have hsub:∀l:List Str,l.Nodup->(∀y∈l,∃n∈ss,y∈B6 qs n)->l.length<=100:=fun l nd h=>by
   refine Nat.le_trans (nd.length_le_of_subset fun y hy=>?_) ok.len;obtain⟨n,_,hy'⟩:=h y hy;obtain⟨q,hq,_,e⟩:=mem_struckOf.mp hy';rw[<-e];exact(ok.mem q hq).2
  refine⟨_,(B2 (C0 (F2 (Re w) T.aP M0 (A6 (zDa w (N':=["name", "other", "web"]) (cap:=[none,none,some 0]) (cl:=[("web",_)]) (J8 ⟨⟨rfl,rfl,rfl,rfl⟩,trivial⟩ ⟨rfl,trivial⟩) (piS K (pv 1)) (fun _ _ _ _=>by exact⟨(pgC 0),E1,(piL K (E4 (pv 2) T.am T.av.m G_Web_struck (Rm hr) T.av.b .nil G6 (A6 (pv 0) A8))),(pgC 1),E1,(pv 1)⟩)) A8)))),?_⟩;dsimp only[zBn,Zg,K9,Zt,tCB,K1,Cr];refine Tn (by rfl) hS ?_;intro J as D hD;refine M9 as (fun i σ H1=>(∃v0 v1,σ = [v0,v1,some (.ref x)])/\Same H H1/\∃l,H1 D=some (Dg w D l)/\l.Nodup/\∀y,y∈l↔∃n∈ss.take i,y∈B6 qs n)
   ⟨⟨_,_,rfl⟩,Same.new hD,[],A7,GM,fun y=>by simp⟩ (fun i σ H1 _ ⟨_,s1,_⟩=>s1.at a) ?_ ?_
  .rintro i σ H1 v N hx ⟨⟨v0,v1,rfl⟩,s1,l,e2,n2,m2⟩ hN;rw[AJ]at hx;cases hy:ss[i]? with
   | none=>rw[hy]at hx;cases hx
   | some n =>
    rw[hy]at hx;cases hx;have hn:n∈ns:=hM n (BJ hy);have hl100:l.length<=100:=hsub l n2 fun y hy=>by
     obtain⟨m,hm,h⟩:=(m2 y).mp hy;exact⟨m,CK hm,h⟩
    refine Y4 ?_;refine ex1 rfl ⟨x,dx,ex1 rfl ⟨s1 _ _ e1,rfl,ex1 rfl ⟨x,n,ns,qs,rfl,hW.same s1,hn,fun p hp=>?_⟩⟩⟩;have npD:D≠p:=A9 e2 hp;refine⟨p,rfl,⟨_,SqL.of A7⟩,Wy (H0:=H) (n:=0) (asL (SqL.of A7)) (Sg:=fun σ=>∃v0 v1,σ = [v0,v1,some (.ref x)]) ⟨_,_,rfl⟩ (fun σ v ⟨v0,v1,e⟩=>by rw[e];exact⟨⟨_,_,rfl⟩,rfl⟩) (by rw[B5 npD];exact e2) npD.symm n2 ?_ (s1.trans (Same.new hp)) hD ?_⟩
    .have:=Fi qs n;have:=ok.lenq;omega
    .rintro σ l' H2 hσ s2 e3 n3 _ m3;refine hN _ _ ⟨hσ,s2,l',e3,n3,fun y=>?_⟩;rw[m3,m2,take_succ hy];constructor
     .rintro(⟨m,hm,h⟩ | h)
      .exact⟨m,EI _ hm,h⟩
      .exact⟨n,CA _ (AF.mpr rfl),h⟩
     .rintro⟨m,hm,h⟩;rcases AU.mp hm with z | z
      .exact .inl ⟨m,z,h⟩
      .rw[AF.mp z]at h;exact .inr h
  .rintro σ H1 ⟨_,s1,l,e2,n2,m2⟩;rw[AB,DB]at m2;refine⟨D,l,rfl,e2,fun p hs hp pm srt=>?_⟩;have s2:Same H (upd H1 p (.lst (hs.map V.str))):=s1.trans (Same.new hp);exact k p hs _ (s1.free hp) s2 A7 (fun y=>by rw[pm.mem_iff];exact m2 y) srt (pm.nodup_iff.mpr n2) (by rw[pm.length_eq];exact hsub l n2 fun y hy=>(m2 y).mp hy)
theorem At:FnScope ["_law_cell", "_law_k", "_law_m"] ["_law_cell", "_law_k"] (B4 s_law_mix):=fsc
def zBg:Sp:=fun vs H Q _=>∃(cell k:Int),vs = [.int cell,.int k]/\0<=k/\k<=2000000/\∀m:Int,0<=m->m<1999999973->Q (.int m) H
theorem Ly(T:Tx K mg):FnOk P w K mg base CX0 1 T.aY.f T.aY.fd ["_law_cell", "_law_k"] zBg:=by
 have sc:=At;refine T.aY.F.ok At (fun vs H Q E h=>?_) (fun cdv A outer s H vs Q E hr h=>?_)
 .obtain⟨c,k,rfl,_⟩:=h;rfl
 .obtain⟨cell,k,rfl,k0,k1,q⟩:=h;refine⟨_,(B0 (C5 (i:=2) sc.nd rfl (.inl rfl) (C4 Au (C4 w6 (C4 X9 (C4 X9 (C4 Au (pv 0) B1) (C4 w6 (C4 w6 (pv 1) (pv 1)) B1)) B1) B1) B1))
   (B2 (C0 (C4 Au (C4 w6 (pv 2) (pv 2)) B1)))),?_⟩
  refine ex1 rfl (C1 rfl rfl ⟨(show(0:Int)<2147483629 by decide),ex1 rfl (ex1 rfl (C1 rfl rfl ⟨.inl ⟨by omega,by omega⟩,C1 rfl rfl ⟨.inr ⟨by decide,by decide⟩,C1 rfl rfl (C1 rfl rfl (C1 rfl rfl ⟨.inr ⟨by decide,by decide⟩,C1 rfl rfl ⟨(show(0:Int)<2147483647 by decide),?_⟩⟩))⟩⟩))⟩);generalize hm:(cell % 2147483629+k*k*7919+11)*48271 % 2147483647=m;have h1:0<=m:=by rw[<-hm];exact GV _ (by decide)
  have h2:m<2147483647:=by rw[<-hm];exact FQ _ (by decide)
  exact⟨_,rfl,_,rfl,_,_,rfl,rfl,.inl ⟨by omega,by omega⟩,_,_,rfl,rfl,(show(0:Int)<1999999973 by decide),q _ (GV _ (by decide)) (FQ _ (by decide))⟩
def LeftAt(H:Hp)(p:Addr)(c:Int):Prop:=∃a b:Int,H p=some (.lst [.int a,.int b,.int c])/\0<=c
theorem LeftAt.upd{H:Hp}{p a:Addr}{c:Int}{o:HO}(h:LeftAt H p c)(n:p≠a):LeftAt (L2.upd H a o) p c:=by
 obtain⟨x,y,e,z⟩:=h;exact⟨x,y,by rw[B5 n];exact e,z⟩
theorem LeftAt.same{H H':Hp}{p:Addr}{c:Int}(h:LeftAt H p c)(s:Same H H'):LeftAt H' p c:=by
 obtain⟨x,y,e,z⟩:=h;exact⟨x,y,s _ _ e,z⟩
theorem zEs(c:Bool):-(2^64) <(if c=true then(1:Int)else 0)/\(if c=true then(1:Int)else 0)<2^64:=by cases c<;>exact⟨by decide,by decide⟩
theorem w5:FnScope ["_law_script", "_law_k", "_law_cell"] ["_law_script", "_law_k"] (B4 s_law_left):=fsc
def Wo(K:PySem.W.Frag):Sp:=fun vs H Q _=>∃(p:Addr) (xs:List Int) (k:Nat),vs = [.ref p,.int (k:Int)]/\SqL K H p (xs.map V.int)/\k<=1000/\∀l H',H l=none->Same H H'->LeftAt H' l 0->Q (.ref l) H'
theorem Fy(T:Tx K mg):FnOk P w K mg base CX0 1 T.a1.f T.a1.fd ["_law_script", "_law_k"] (Wo K):=by
 have sc:=w5;refine T.a1.F.ok w5 (fun vs H Q E h=>?_) (fun cdv A outer s H vs Q E hr h=>?_)
 .obtain⟨p,xs,k,rfl,_⟩:=h;rfl
 .obtain⟨p,xs,k,rfl,hS,hk,q⟩:=h;refine⟨_,(B0 (C5 (i:=2) sc.nd rfl (.inl rfl) (Jz (D4 zBa (pv 1) (F2 (t6 K) T.aU X6 (A6 (pv 0) A8)) (F0 _)) (E6 (ixL K) (pv 0) (pv 1) (fun _ _=>rfl)) B1))
   (B2 (C0 (D0 (A6 (C4 w6 (F2 Jn T.bI Vn (A6 (pv 2) A8)) (Kl m9 T.bp Ng (A6 (S7 zDo (F2 Jn T.bI Vn (A6 (pv 2) A8)) (C4 zBe B1 B1) (F0 _)) A8))) (A6 (C4 X9 (pv 2) (C4 w6 B1 (pv 1))) (A6 B1 A8))))))),?_⟩
  refine ex1 rfl (ex1 rfl (C1 (a:=p) rfl (.inl hS) (C1 rfl rfl (ex1 rfl ?_))));have at1:decide ((k:Int) <((xs.map V.int).length:Int))=true->∃c:Int,atI (xs.map V.int) (k:Int)=some (.int c):=fun c1=>by
   have c1:(k:Int) <((xs.map V.int).length:Int):=BN c1;rw[AB]at c1;have hk':xs[k]?=some (xs[k]'(by omega)):=AC (by omega);exact⟨_,M6 (by rw[AJ,hk'];rfl)⟩
  refine g9 (fun c1=>?_) (fun c1=>?_)
  .obtain⟨c,hc⟩:=at1 c1;refine ex1 rfl (ex1 rfl ⟨p,_,C1 rfl rfl ⟨hS,hc,?_⟩⟩)
   (repeat first | refine⟨_,rfl,?_⟩ | refine⟨_,_,rfl,rfl,?_⟩)
   refine⟨⟨by decide,by decide,by decide⟩,?_⟩
   (repeat first | refine⟨_,rfl,?_⟩ | refine⟨_,_,rfl,rfl,?_⟩)
   refine .inr ⟨_,rfl,?_⟩
   (repeat first | refine⟨_,rfl,?_⟩ | refine⟨_,_,rfl,rfl,?_⟩)
   refine⟨.inr ?_,?_⟩
   .exact zEs _
   (repeat first | refine⟨_,rfl,?_⟩ | refine⟨_,_,rfl,rfl,?_⟩)
   refine⟨.inl ⟨by decide,by decide⟩,?_⟩
   (repeat first | refine⟨_,rfl,?_⟩ | refine⟨_,_,rfl,rfl,?_⟩)
   exact⟨by show 3<=sizeLine;decide,fun l hl=>q l _ hl (Same.new hl) ⟨_,_,A7,by decide⟩⟩
  .skip;(repeat first | refine⟨_,rfl,?_⟩ | refine⟨_,_,rfl,rfl,?_⟩)
   refine⟨⟨by decide,by decide,by decide⟩,?_⟩
   (repeat first | refine⟨_,rfl,?_⟩ | refine⟨_,_,rfl,rfl,?_⟩)
   refine .inr ⟨_,rfl,?_⟩
   (repeat first | refine⟨_,rfl,?_⟩ | refine⟨_,_,rfl,rfl,?_⟩)
   refine⟨.inr ?_,?_⟩
   .exact zEs _
   (repeat first | refine⟨_,rfl,?_⟩ | refine⟨_,_,rfl,rfl,?_⟩)
   refine⟨.inl ⟨by decide,by decide⟩,?_⟩
   (repeat first | refine⟨_,rfl,?_⟩ | refine⟨_,_,rfl,rfl,?_⟩)
   exact⟨by show 3<=sizeLine;decide,fun l hl=>q l _ hl (Same.new hl) ⟨_,_,A7,by decide⟩⟩
theorem p9:FnScope ["_law_left_here", "_law_many", "_law_digit"] ["_law_left_here", "_law_many"] (B4 s_law_pick):=fsc
def Wi:Sp:=fun vs H Q _=>∃(p:Addr) (c many:Int),vs = [.ref p,.int many]/\LeftAt H p c/\c<=1000000/\0<many/\many<=1000000 /\
 ∀(d:Nat) H',(d:Int)<many->Sm [p] H H'->LeftAt H' p (c+1)->Q (.int (d:Int)) H'
theorem Hk(T:Tx K mg):FnOk P w K mg base CX0 2 T.ay.f T.ay.fd ["_law_left_here", "_law_many"] Wi:=by
 have G_law_mix:=Ly (P:=P) (w:=w) (base:=base) T;have sc:=p9;refine T.ay.F.ok p9 (fun vs H Q E h=>?_) (fun cdv A outer s H vs Q E hr h=>?_)
 .obtain⟨p,c,m,rfl,_⟩:=h;rfl
 .obtain⟨p,c,many,rfl,⟨a,b,e,c0⟩,c1,m0,m1,q⟩:=h;refine⟨_,(B0 (X5 (C4 X9 (E6 (ixL K) (pv 0) B1 (fun _ _=>rfl)) B1) (Vh (pv 0) B1 Im))
   (B0 (F4 (D4 zBj (E6 (ixL K) (pv 0) B1 (fun _ _=>rfl)) B1 (F0 _)) (B0 (C5 (i:=2) sc.nd rfl (.inl rfl) (C4 Au (E6 (ixL K) (pv 0) B1 (fun _ _=>rfl)) (pv 1)))
   (B0 (X5 (C4 Hd (E6 (ixL K) (pv 0) B1 (fun _ _=>rfl)) (pv 1)) (Vh (pv 0) B1 Im))
   (B2 (C0 (pv 2))))) C7)
   (B2 (C0 (C4 Au (C4 Hd (G9 T.aY G_law_mix (Rm hr) (A6 (G9 T.aY G_law_mix (Rm hr) (A6 (E6 (ixL K) (pv 0) B1 (fun _ _=>rfl)) (A6 (E6 (ixL K) (pv 0) B1 (fun _ _=>rfl)) A8))) (A6 (C4 X9 (E6 (ixL K) (pv 0) B1 (fun _ _=>rfl)) B1) A8))) B1) (pv 1)))))),?_⟩
  have nn:∀d:Int,0<=d->d<many->∀a' b',Q (.int d) (upd (upd H p (.lst [.int a,.int b,.int (c+1)])) p (.lst [.int a',.int b',.int (c+1)]))/\Q (.int d) (upd H p (.lst [.int a',.int b',.int (c+1)])):=fun d h0 h1 a' b'=>by
   obtain⟨n,rfl⟩:=Int.eq_ofNat_of_zero_le h0;exact⟨q n _ h1 (((Sm.refl _ _).upd (by simp)).upd (by simp)) ⟨a',b',A7,by omega⟩,q n _ h1 ((Sm.refl _ _).upd (by simp)) ⟨a',b',A7,by omega⟩⟩
  refine ex1 rfl ⟨p,_,C1 rfl rfl ⟨SqL.of e,rfl,C1 rfl rfl (ex1 rfl ⟨p,_,_,2,rfl,rfl,e,rfl,?_⟩)⟩⟩;refine ex1 rfl ⟨p,_,C1 rfl rfl ⟨SqL.of A7,rfl,C1 rfl rfl (ex1 rfl ?_)⟩⟩;refine g9 (fun h1=>?_) (fun h1=>?_)
  .have h1:(0:Int)<a:=BN h1;refine ex1 rfl ⟨p,_,C1 rfl rfl ⟨SqL.of A7,rfl,ex1 rfl (C1 rfl rfl ⟨m0,?_⟩)⟩⟩;refine ex1 rfl ⟨p,_,C1 rfl rfl ⟨SqL.of A7,rfl,ex1 rfl (C1 rfl rfl ⟨⟨m0,by omega⟩,ex1 rfl ⟨p,_,_,0,rfl,rfl,A7,rfl,?_⟩⟩)⟩⟩;exact⟨_,rfl,(nn _ (GV _ (by omega)) (FQ _ m0) _ _).1⟩
  .refine ex1 rfl ⟨p,_,C1 rfl rfl ⟨SqL.of A7,rfl,ex1 rfl ⟨p,_,C1 rfl rfl ⟨SqL.of A7,rfl,_,ex1 rfl ⟨by omega,by omega,fun m2 h2 h3=>?_⟩⟩⟩⟩⟩;refine ex1 rfl ⟨p,_,C1 rfl rfl ⟨SqL.of A7,rfl,C1 rfl rfl ⟨_,ex1 rfl ⟨by omega,by omega,fun m3 h4 h5=>?_⟩⟩⟩⟩;refine C1 rfl rfl ⟨⟨by decide,by decide⟩,ex1 rfl (C1 rfl rfl ⟨m0,?_⟩)⟩;exact(nn _ (GV _ (by omega)) (FQ _ m0) _ _).2
end
theorem Sm1{p b:Addr}{H H':Hp}{o:HO}(h:Sm [p] H H')(e:H b=some o)(n:b≠p):H' b=some o:=h b o e fun z=>n (AF.mp z)
def pd(k:Str×Str):PyData:=.tuple [.str k.1,.str k.2]
theorem Jg{x:Str}(h:K8 x=true):PySem.PyData.strOk x=true:=by
 unfold K8 at h;rw[BG]at h;unfold PySem.PyData.strOk;rw[<-Array.all_toList,EA];intro c hc;have:=(EA.mp h.2) c hc;unfold Wf at this;rw[BG]at this;have:=BN this.2;exact AZ (by omega)
theorem Ww{K:PySem.W.Frag}{H:Hp}{t:Addr}{k:Str×Str}(h:H t=some (.tup [.str k.1,.str k.2])):Rp K H (pd k) (.ref t):=by
 unfold pd;simp only[Rp,Rps];exact⟨t,_,rfl,SqT.of h,_,_,rfl,rfl,_,_,rfl,rfl,rfl⟩
theorem Dx{K:PySem.W.Frag}{H:Hp}:∀{ps:List PA2},(∀q∈ps,E2 H q)->Rps K H (ps.map fun q=>pd q.2) (M5 ps)
 | [],_=>by simp[Rps,M5]
 | q::r,h=>by
  show Rps K H (pd q.2::r.map fun q=>pd q.2) (V.ref q.1::M5 r);simp only[Rps];exact⟨_,_,rfl,Ww (h q (BE ..)),Dx fun z hz=>h z (AX _ hz)⟩
theorem Rz{K:PySem.W.Frag}{H:Hp}{l:Addr}{ps:List PA2}(hl:H l=some (.lst (M5 ps)))(h:∀q∈ps,E2 H q):Rp K H (.list (ps.map fun q=>pd q.2)) (.ref l):=by
 simp only[Rp];exact⟨l,_,rfl,SqL.of hl,Dx h⟩
theorem Zy(a b:Str×Str):PyData.eqv (pd a) (pd b)=decide (a=b):=by
 unfold pd;rw[PyData.eqv,PyData.eqvAll,PyData.eqvAll,PyData.eqvAll,PyData.eqv,PyData.eqv];by_cases h1:a.1=b.1
 .by_cases h2:a.2=b.2
  .rw[AZ (Prod.ext h1 h2),h1,h2];simp
  .rw[AN fun z=>h2 (congrArg Prod.snd z)];simp[h2]
 .rw[AN fun z=>h1 (congrArg Prod.fst z)];simp[h1]
theorem zAd{k:Str×Str}(h1:PySem.PyData.strOk k.1=true)(h2:PySem.PyData.strOk k.2=true):(pd k).canLay0=true:=by
 unfold pd;simp[PyData.canLay0,PyData.canLayAll0,h1,h2]
theorem Pp:∀{ps:List PA2},(∀q∈ps,PySem.PyData.strOk q.2.1=true/\PySem.PyData.strOk q.2.2=true)->PyData.canLayAll0 (ps.map fun q=>pd q.2)=true
 | [],_=>rfl
 | q::r,h=>by
  rw[AW,PyData.canLayAll0,zAd (h q (BE ..)).1 (h q (BE ..)).2,Pp fun z hz=>h z (AX _ hz)];rfl
theorem bor(x y:Nat):Builtin.bitOr (x:Int) (y:Int) =((x ||| y:Nat):Int):=by
 have h1:¬0<=Builtin.bitNot (x:Int):=by unfold Builtin.bitNot;omega
 have h2:¬0<=Builtin.bitNot (y:Int):=by unfold Builtin.bitNot;omega
 have h3:∀z:Int,Builtin.bitNot (Builtin.bitNot z)=z:=fun z=>by unfold Builtin.bitNot;omega
 rw[Builtin.bitOr,PyProof.Rows.bitAnd_nn h1 h2,h3,h3,h3];rfl
theorem Ze(x y:Nat):Builtin.bitAnd (x:Int) (y:Int) =((x &&& y:Nat):Int):=by simp[Builtin.bitAnd]
theorem zGh(k:Nat):(1:Int)*2 ^((k:Int).toNat) =((2^k:Nat):Int):=by rw[Int.one_mul,FG,Int.natCast_pow];rfl
def D8(m:Nat):V:=.int (m:Int)
structure MB(ns:List Str)(ks:List (Str×Str))(B:List Nat):Prop where
 len:B.length=ns.length
 bit:∀i j,(B.getD i 0).testBit j=true↔∃k∈ks,ns[i]?=some k.1/\ns[j]?=some k.2
theorem Iq{α:Type}{l:List α}(h:l.Nodup){i j:Nat}{x:α}(hi:l[i]?=some x)(hj:l[j]?=some x):i=j:=by
 obtain⟨a,e⟩:=AH.mp hi;obtain⟨b,e'⟩:=AH.mp hj;exact(List.getElem_inj h).mp (e.trans e'.symm)
theorem Za{x y:Str}(h:x.cps.toList=y.cps.toList):x=y:=by
 cases x;cases y;exact congrArg Str.mk (II.mp h)
theorem Tp{x y:Str}(h1:leS x y)(h2:leS y x):x=y:=Za (List.le_antisymm (as:=x.cps.toList) (bs:=y.cps.toList) h1 h2)
theorem Ky{a b:List Str}(h1:a.Pairwise leS)(h2:b.Pairwise leS)(h:a.Perm b):a=b:=List.Perm.eq_of_pairwise (fun _ _ _ _=>Tp) h1 h2 h
theorem Wu{B:List Nat}{a:Nat}(h:a<B.length):atI (B.map D8) (a:Int)=some (.int ((B.getD a 0:Nat):Int)):=by
 refine M6 ?_;rw[AJ,AC h,AS,AC h];rfl
def Eu(ns:List Str)(m i:Nat):List Str:=(List.range i).filterMap fun k=>if m.testBit k=true then ns[k]? else none
def setOf(ns:List Str)(m:Nat):List Str:=Eu ns m ns.length
theorem V8{ns:List Str}{m i:Nat}{x:Str}(h:ns[i]?=some x):Eu ns m (i+1)=Eu ns m i++if m.testBit i=true then [x]else []:=by
 unfold Eu;rw[EF,List.filterMap_append];congr 1;by_cases e:m.testBit i=true
 .rw[AO e];simp[e,h]
 .rw[AK e];simp[e]
theorem Qc{ns:List Str}{m:Nat}{x:Str}:x∈setOf ns m↔∃k,m.testBit k=true/\ns[k]?=some x:=by
 unfold setOf Eu;rw[List.mem_filterMap];constructor
 .rintro⟨k,hk,e⟩;by_cases h:m.testBit k=true
  .rw[AO h]at e;exact⟨k,h,e⟩
  .rw[AK h]at e;cases e
 .rintro⟨k,h,e⟩;exact⟨k,BV.mpr (AH.mp e).1,by rw[AO h];exact e⟩
theorem n9(ns:List Str)(m:Nat):∀i,i<=ns.length->(Eu ns m i).Sublist (ns.take i)
 | 0,_=>by simp[Eu]
 | i+1,h=>by
  have hi:ns[i]?=some ns[i]:=AC (by omega);rw[V8 hi,take_succ hi];refine(n9 ns m i (by omega)).append ?_;by_cases e:m.testBit i=true
  .rw[AO e];exact List.Sublist.refl _
  .rw[AK e];exact List.nil_sublist _
theorem Fe(ns:List Str)(m:Nat):(setOf ns m).Sublist ns:=by
 have:=n9 ns m ns.length (Nat.le_refl _)
 rwa [DB]at this
def Cq(B:List Nat)(m j:Nat):Prop:=∃k,m.testBit k=true/\(B.getD k 0).testBit j=true
def Et(n:Nat)(A B:List Nat)(m j:Nat):Prop:=j<n/\∀b,(A.getD j 0).testBit b=true->Cq B m b
def Ez(B:List Nat)(m:Nat):Prop:=∀i j,m.testBit i=true->m.testBit j=true->¬(B.getD i 0).testBit j=true
theorem Hw(d k j:Nat):(d ||| 2^k).testBit j=true↔d.testBit j=true\/j=k:=by
 rw[CF,CC,GH,CJ];exact⟨fun h=>h.imp id Eq.symm,fun h=>h.imp id Eq.symm⟩
def sd(ss:List Str):PyData:=.list (ss.map PyData.str)
theorem Kc{K:PySem.W.Frag}{H:Hp}:∀ss:List Str,Rps K H (ss.map PyData.str) (ss.map V.str)
 | []=>by simp[Rps]
 | x::r=>by
  simp only[AW,Rps,Rp];exact⟨_,_,rfl,rfl,Kc r⟩
theorem Vs{K:PySem.W.Frag}{H:Hp}{l:Addr}{ss:List Str}(h:SqL K H l (ss.map V.str)):Rp K H (sd ss) (.ref l):=by
 unfold sd;simp only[Rp];exact⟨l,_,rfl,h,Kc ss⟩
theorem W1:∀ss:List Str,PyData.depthAll (ss.map PyData.str)<=1
 | []=>by simp[PyData.depthAll]
 | x::r=>by
  have:=W1 r;simp only[AW,PyData.depthAll,PyData.depth];omega
theorem y4:∀ps:List PA2,PyData.depthAll (ps.map fun q=>pd q.2)<=3
 | []=>by simp[PyData.depthAll]
 | x::r=>by
  have:=y4 r;have e:(pd x.2).depth<=3:=by simp[pd,PyData.depth,PyData.depthAll]
  rw[AW,PyData.depthAll];omega
theorem Ie:∀{ss:List Str},(∀x∈ss,PySem.PyData.strOk x=true)->PyData.canLayAll0 (ss.map PyData.str)=true
 | [],_=>rfl
 | x::r,h=>by
  rw[AW,PyData.canLayAll0,Ie fun z hz=>h z (AX _ hz)];simp[PyData.canLay0,h x (BE ..)]
theorem Xi{ss:List Str}(h:∀x∈ss,K8 x=true):Pl (sd ss):=by
 refine⟨?_,?_⟩
 .unfold sd;rw[PyData.canLay0];exact Ie fun x hx=>Jg (h x hx)
 .unfold sd;rw[PyData.depth];have:=W1 ss;omega
theorem Qm{K:PySem.W.Frag}{x y:V}{d:PyData}{H:Hp}{Q:VK}(h1:Rp K H d x)(h2:Rp K H d y)(p:Pl d)(q:Q (.bl false) H):zDx K x y H Q :=
 ⟨d,d,h1,h2,p,p,by rw[PySem.SeqAt.eqv_refl d p.1];exact q⟩
theorem Ny:∀(j a b:Nat),(∀j,a.testBit j=true->¬b.testBit j=true)->(a+b).testBit j =(a.testBit j||b.testBit j)
 | 0,a,b,h=>by
  have h0:=h 0;rw[DC,DC,CJ,CJ]at h0;rw[DC,DC,DC,<-Bool.decide_or];exact decide_eq_decide.mpr ⟨fun z=>by omega,fun z=>by omega⟩
 | j+1,a,b,h=>by
  have h0:=h 0;rw[DC,DC,CJ,CJ]at h0;rw[DP,DP,DP,show(a+b) / 2=a / 2+b / 2 by omega];exact Ny j (a / 2) (b / 2) fun i=>by have:=h (i+1);rw[DP,DP]at this;exact this
theorem Fz:∀{l:List Nat},l.Nodup->∀j,((l.map fun k=>2^k).sum).testBit j=true↔j∈l
 | [],_,j=>by simp
 | k::l,nd,j=>by
  obtain⟨n1,n2⟩:=FH.mp nd;have ih:=Fz n2;rw[AW,FL,Nat.add_comm,Ny j _ _ fun i z y=>?_,CC,ih,GH,CJ,AV];rotate_left
  .rw[GH,CJ]at y;exact n1 (y▸(ih i).mp z)
  exact⟨fun h=>h.elim .inr fun e=>.inl e.symm,fun h=>h.elim (fun e=>.inr e.symm) .inl⟩
theorem Yi:∀(s:Nat),0<s->∃k,s.testBit k=true/\s-(s &&&(s-1))=2^k:=by
 intro s
 induction s using Nat.strongRecOn with
 | _ s ih =>
  intro h;by_cases o:s % 2=1
  .refine⟨0,by rw[DC];exact AZ o,?_⟩;have e:s &&&(s-1)=s-1:=CN fun i=>by
    rw[DY];cases i with
    | zero=>rw[DC,DC,AN (by omega:¬(s-1) % 2=1),IC]
    | succ i=>rw[DP,DP,show(s-1) / 2=s / 2 by omega,Bool.and_self]
   rw[e];omega
  .obtain⟨k,h1,h2⟩:=ih (s / 2) (by omega) (by omega);refine⟨k+1,by rw[DP];exact h1,?_⟩;have e:s &&&(s-1)=2 *(s / 2 &&&(s / 2-1)):=CN fun i=>by
    rw[DY];cases i with
    | zero=>rw[DC,DC,AN o,DX,DC,AN (by omega)]
    | succ i=>rw[DP,DP,DP,Nat.mul_div_cancel_left _ (by decide),DY,show(s-1) / 2=s / 2-1 by omega]
   have:s / 2 &&&(s / 2-1)<=s / 2:=Nat.and_le_left;rw[e,Nat.pow_succ];omega
def Low(n m:Nat):Prop:=∀j,m.testBit j=true->j<n
theorem Low.or{n m k:Nat}(h:Low n m)(hk:k<n):Low n (m ||| 2^k):=fun j hj=>((Hw m k j).mp hj).elim (h j) fun e=>by omega
theorem Low.zero(n:Nat):Low n 0:=fun j hj=>by rw[EW]at hj;cases hj
theorem Low.lt{n m:Nat}(h:Low n m):m<2^n:=Nat.lt_pow_two_of_testBit m fun i hi=>BM.mpr fun z=>by have:=h i z;omega
structure Net(n:Nat)(A B:List Nat):Prop where
 tr:∀i j,(A.getD i 0).testBit j=true↔(B.getD j 0).testBit i=true
 lt:∀i j,(B.getD i 0).testBit j=true->i<n/\j<n
theorem MB.net{ns:List Str}{ks:List (Str×Str)}{A B:List Nat}(a:MB ns (ks.map fun k=>(k.2,k.1)) A)(b:MB ns ks B):Net ns.length A B:=by
 refine⟨fun i j=>?_,fun i j h=>?_⟩
 .rw[a.bit,b.bit];constructor
  .rintro⟨_,hk,h1,h2⟩;obtain⟨k,hk',rfl⟩:=AI.mp hk;exact⟨k,hk',h2,h1⟩
  .rintro⟨k,hk,h1,h2⟩;exact⟨_,AI.mpr ⟨k,hk,rfl⟩,h2,h1⟩
 .obtain⟨k,_,h1,h2⟩:=(b.bit i j).mp h;exact⟨(AH.mp h1).1,(AH.mp h2).1⟩
def K2(n:Nat)(A B:List Nat)(m:Nat):Prop:=Low n m/\Ez B m/\∀j,m.testBit j=true->Et n A B m j
def Fits(c b m:Nat):Prop:=(∀j,c.testBit j=true->m.testBit j=true)/\∀j,m.testBit j=true->¬b.testBit j=true
def Sub(c c':Nat):Prop:=∀j,c.testBit j=true->c'.testBit j=true
theorem Fits.mono{c c' b b' m:Nat}(h:Fits c' b' m)(hc:Sub c c')(hb:Sub b b'):Fits c b m:=⟨fun j z=>h.1 j (hc j z),fun j z y=>h.2 j z (hb j y)⟩
def Mf(n:Nat)(A B:List Nat)(c b:Nat):Prop:=(∀j,Cq B c j->b.testBit j=true)/\(∀j,Cq A c j->b.testBit j=true) /\
 ∀i j,i<n->(¬∃k,k<n/\¬b.testBit k=true/\(B.getD k 0).testBit i=true)->(B.getD i 0).testBit j=true->b.testBit j=true
theorem Oo{n:Nat}{A B:List Nat}(N:Net n A B){c b m:Nat}(h:K2 n A B m)(f:Fits c b m):(∀j,Cq B c j->¬m.testBit j=true)/\(∀j,Cq A c j->¬m.testBit j=true) /\
  ∀i j,i<n->(¬∃k,k<n/\¬b.testBit k=true/\(B.getD k 0).testBit i=true)->(B.getD i 0).testBit j=true->¬m.testBit j=true:=by
 obtain⟨lo,qu,kp⟩:=h;refine⟨fun j ⟨k,hk,e⟩ z=>qu k j (f.1 k hk) z e,fun j ⟨k,hk,e⟩ z=>qu j k z (f.1 k hk) ((N.tr k j).mp e),fun i j hi nk e z=>?_⟩;obtain⟨k,hk,e'⟩:=(kp j z).2 i ((N.tr j i).mpr e);exact nk ⟨k,lo k hk,f.2 k hk,e'⟩
theorem V4{n:Nat}{A B:List Nat}(N:Net n A B){c b:Nat}(lo:Low n c)(s:Mf n A B c b)(dis:∀j,c.testBit j=true->¬b.testBit j=true)(all:∀j,j<n->c.testBit j=true\/b.testBit j=true):K2 n A B c:=by
 obtain⟨s1,s2,s3⟩:=s;refine⟨lo,fun i j hi hj e=>dis j hj (s1 j ⟨i,hi,e⟩),fun j hj=>⟨lo j hj,fun x hx=>?_⟩⟩;have hx':=(N.tr j x).mp hx;by_cases hh:Cq B c x
 .exact hh
 .refine absurd (s3 x j (N.lt x j hx').1 (fun⟨k,hk,nb,e⟩=>hh ⟨k,(all k hk).resolve_right nb,e⟩) hx') (dis j hj)
theorem p8{n c b m:Nat}(lo:Low n m)(all:∀j,j<n->c.testBit j=true\/b.testBit j=true)(f:Fits c b m):m=c:=CN fun j=>by
 rw[C_];exact⟨fun h=>(all j (lo j h)).resolve_right (f.2 j h),f.1 j⟩
theorem fits_or{c b m k:Nat}:Fits (c ||| 2^k) b m↔Fits c b m/\m.testBit k=true:=by
 constructor
 .rintro⟨h1,h2⟩;exact⟨⟨fun j z=>h1 j (by rw[CF,z];rfl),h2⟩,h1 k (by rw[CF,GE,IG])⟩
 .rintro⟨⟨h1,h2⟩,h3⟩;exact⟨fun j z=>((Hw c k j).mp z).elim (h1 j) fun e=>e▸h3,h2⟩
theorem fits_bar{c b m k:Nat}:Fits c (b ||| 2^k) m↔Fits c b m/\¬m.testBit k=true:=by
 constructor
 .rintro⟨h1,h2⟩;exact⟨⟨h1,fun j z y=>h2 j z (by rw[CF,y];rfl)⟩,fun z=>h2 k z (by rw[CF,GE,IG])⟩
 .rintro⟨⟨h1,h2⟩,h3⟩;exact⟨h1,fun j z y=>((Hw b k j).mp y).elim (h2 j z) fun e=>h3 (e▸z)⟩
def und(n c b:Nat):Nat:=(List.range n).countP fun i=>!c.testBit i&&!b.testBit i
theorem Jh{n c c' b b':Nat}(hc:Sub c c')(hb:Sub b b'):und n c' b'<=und n c b:=List.countP_mono_left fun i _ h=>by
 rw[BG,EK,EK]at h⊢;exact⟨BM.mpr fun z=>BM.mp h.1 (hc i z),BM.mpr fun z=>BM.mp h.2 (hb i z)⟩
theorem Jo{n c c' b b' k:Nat}(hc:Sub c c')(hb:Sub b b')(hk:k<n)(h0:¬c.testBit k=true/\¬b.testBit k=true)(h1:c'.testBit k=true\/b'.testBit k=true):und n c' b' < und n c b:=by
 unfold und;have hm:=BV.mpr hk;obtain⟨l1,l2,e⟩:=List.append_of_mem hm;rw[e,List.countP_append,List.countP_append,List.countP_cons,List.countP_cons];have m1:=fun l:List Nat=>List.countP_mono_left (l:=l) (p:=fun i=>!c'.testBit i&&!b'.testBit i) (q:=fun i=>!c.testBit i&&!b.testBit i) fun i _ h=>by
  rw[BG,EK,EK]at h⊢;exact⟨BM.mpr fun z=>BM.mp h.1 (hc i z),BM.mpr fun z=>BM.mp h.2 (hb i z)⟩
 have a1:=m1 l1;have a2:=m1 l2;have x1:(!c'.testBit k&&!b'.testBit k)=false:=by
  rcases h1 with h | h<;>rw[h]<;>simp
 have x2:(!c.testBit k&&!b.testBit k)=true:=by
  rw[BM.mpr h0.1,BM.mpr h0.2];rfl
 rw[x1,x2,AK (by decide),AO rfl];omega
theorem Gd(m i:Nat):((Builtin.bitAnd ((2^i:Nat):Int) (m:Int)) != 0)=m.testBit i:=by
 rw[Ze];have e:(2^i &&& m)=if m.testBit i=true then 2^i else 0:=CN fun j=>by
  rw[DY,GH];by_cases h:m.testBit i=true
  .rw[AO h,GH];by_cases c:i=j
   .subst c;rw[h,Bool.and_true]
   .rw[AN c,DX]
  .rw[AK h,EW];by_cases c:i=j
   .subst c;rw[BM.mpr h,IC]
   .rw[AN c,DX]
 rw[e];have p:0<2^i:=Nat.pow_pos (by decide);by_cases h:m.testBit i=true
 .rw[AO h,h,bne_iff_ne];omega
 .rw[AK h,BM.mpr h];rfl
theorem Yo(x y:Nat)(h:∀j,y.testBit j=true->x.testBit j=true):∃z:Nat,Builtin.bitXor (x:Int) (y:Int) =(z:Int)/\∀j,z.testBit j=true↔x.testBit j=true/\¬y.testBit j=true:=by
 have hz:∀j,(x ^^^ y).testBit j=true↔x.testBit j=true/\¬y.testBit j=true:=fun j=>by
  rw[Nat.testBit_xor];cases hx:x.testBit j<;>cases hy:y.testBit j<;>simp;exact absurd (h j hy) (by rw[hx];decide)
 refine⟨x ^^^ y,?_,hz⟩;have e:(x ^^^ y)+y=x:=CN fun j=>by
  rw[Ny j _ _ fun i z=>((hz i).mp z).2,C_,CC,hz];exact⟨fun z=>z.elim (·.1) (h j),fun z=>by by_cases c:y.testBit j=true<;>simp[z,c]⟩
 have a:x &&& y=y:=CN fun j=>by
  rw[DY,C_,BG];exact⟨(·.2),fun z=>⟨h j z,z⟩⟩
 rw[PyProof.Rows.bitXor_and,Ze,a];omega
def bK(M:List Nat)(n:Nat):List (Key×V):=(List.range n).map fun i=>((Sum.inl ((2^i:Nat):Int):Key),D8 (M.getD i 0))
theorem Qy{i j:Nat}(h:((2^i:Nat):Int) =((2^j:Nat):Int)):i=j:=(Nat.pow_right_inj (by decide)).mp (Int.ofNat_inj.mp h)
theorem Ic(M:List Nat):∀{n i:Nat},i<n->Q3 (bK M n) (.inl ((2^i:Nat):Int))=some (D8 (M.getD i 0))
 | n+1,i,h=>by
  unfold Q3 bK;rw[EF,AL,List.find?_append];by_cases c:i<n
  .have ih:=Ic M c;unfold Q3 bK at ih;cases e:(List.find? (fun kv:Key×V=>decide (kv.1=Sum.inl ((2^i:Nat):Int))) ((List.range n).map fun i=>((Sum.inl ((2^i:Nat):Int):Key),D8 (M.getD i 0))))with
   | none=>rw[e]at ih;cases ih
   | some q=>rw[e]at ih;rw[Option.some_or];exact ih
  .have e:i=n:=by omega
   subst e;rw[List.find?_eq_none.mpr fun q hq z=>?_,Option.none_or]
   .rw[AW,FI,AZ rfl];rfl
   .obtain⟨k,hk,rfl⟩:=AI.mp hq;have:=Qy (Sum.inl.inj (BN z));have:=BV.mp hk;omega
def mf(a b c d:Addr)(n L:Nat):List (Str×V):=[("names",.ref a),("full",D8 (2^n-1)),("bit_of",.ref b),("strikers_of",.ref c),("struck_of",.ref d),("loops",D8 L)]
structure MarksAt(C:Addr)(H:Hp)(x c:Addr)(ns:List Str)(A B:List Nat)(L:Nat):Prop where
 ex:∃dx a b d kb,H x=some (.ins C dx (mf a b c d ns.length L))/\H a=some (.lst (ns.map V.str))/\Rd H b (.dK kb)/\(∀i n,ns[i]?=some n->Q3 kb (.inr n)=some (D8 (2^i)))/\Rd H c (.dK (bK A ns.length))/\H d=some (.dK (bK B ns.length))/\d≠c/\b≠c
 net:Net ns.length A B
 nd:ns.Nodup
 len:ns.length<=100
 loops:∀j,L.testBit j=true↔(A.getD j 0).testBit j=true
theorem Uc{H:Hp}{a c:Addr}{kvs:List (Key×V)}{o:HO}(r:Rd H c (.dK kvs))(h:H a=some o)(n1:∀kvs,o≠ .dK kvs)(n2:∀ob u,o≠ .frz ob u):a≠c:=by
 rintro rfl;rcases r with r | ⟨ob,r⟩
 .rw[h]at r;exact n1 _ (BI r)
 .rw[h]at r;exact n2 _ _ (BI r)
theorem zDk{H H':Hp}{b c:Addr}{u:HO}(r:Rd H b u)(s:Sm [c] H H')(n:b≠c):Rd H' b u:=r.imp (fun h=>Sm1 s h n) fun⟨o,h⟩=>⟨o,Sm1 s h n⟩
theorem MarksAt.fz{C:Addr}{H H':Hp}{x c:Addr}{ns:List Str}{A B:List Nat}{L:Nat}(h:MarksAt C H x c ns A B L)(s:Sm [c] H H')(r:Rd H' c (.dK (bK A ns.length))):MarksAt C H' x c ns A B L:=by
 obtain⟨⟨dx,a,b,d,kb,e1,e2,e3,e4,e5,e6,n1,n2⟩,h1,h2,h3,h4⟩:=h;exact⟨⟨dx,a,b,d,kb,Sm1 s e1 (Uc e5 e1 (fun _ z=>by cases z) fun _ _ z=>by cases z),Sm1 s e2 (Uc e5 e2 (fun _ z=>by cases z) fun _ _ z=>by cases z),zDk e3 s n2,e4,r,Sm1 s e6 n1,n1,n2⟩,h1,h2,h3,h4⟩
theorem MarksAt.same{C:Addr}{H H':Hp}{x c:Addr}{ns:List Str}{A B:List Nat}{L:Nat}(h:MarksAt C H x c ns A B L)(s:Same H H'):MarksAt C H' x c ns A B L :=
 h.fz s.sm (let⟨_,_,_,_,_,_,_,_,_,e5,_⟩:=h.ex;e5.imp (s _ _) fun⟨o,e⟩=>⟨o,s _ _ e⟩)
def P0(m i:Nat):List Nat:=(List.range i).filter fun k=>m.testBit k
theorem t8(m i:Nat):P0 m (i+1)=P0 m i++if m.testBit i=true then [i]else []:=by
 unfold P0;rw[EF,FR,EV,List.filter_nil]
theorem v8(m i:Nat):(P0 m i).length<=i:=Nat.le_trans (DU ..) (by rw[BW];exact Nat.le_refl _)
section
variable{P:Program}{w:World}{K:PySem.W.Frag}{mg:Str->Option Value}{base:Heap}
theorem O3:FnScope ["self", "some"] ["self", "some"] (B4 s_Marks_bits_in):=fsc
def Li(C:Addr):Sp:=fun vs H Q _=>∃(x c:Addr) (ns:List Str) (A B:List Nat) (L m:Nat),vs = [.ref x,.int (m:Int)]/\MarksAt C H x c ns A B L/\∀l H',H l=none->Sm [c] H H'->MarksAt C H' x c ns A B L->H' l=some (.lst ((P0 m ns.length).map fun k=>D8 (2^k)))->Q (.ref l) H'
theorem O5(T:Tx K mg):FnOk P w K mg base CX0 1 T.an.f T.an.fd ["self", "some"] (Li T.aa):=by
 have sc:=O3;refine T.an.F.ok O3 (fun vs H Q E h=>?_) (fun cdv A outer s H vs Q E hr h=>?_)
 .obtain⟨x,c,ns,A,B,L,m,rfl,_⟩:=h;rfl
 .obtain⟨x,c,ns,A,B,L,m,rfl,hM,q⟩:=h;obtain⟨dx,a,b,d,kb,e1,e2,e3,e4,e5,e6,n1,n2⟩:=hM.ex;have ln:=hM.len;refine⟨_,(B2 (C0 (Q9 (N':=["bit", "some"]) (cap:=[none,some 1]) (cl:=[("some",_)]) (J8 ⟨⟨rfl,rfl,rfl,rfl⟩,trivial⟩ ⟨rfl,trivial⟩) rfl (Wj (peF K (pv 0))) (fun _ _ _ _=>by exact⟨(pgC 0),(Gx (ptV K (C4 S0 (pv 0) (pv 1)))),(pv 0)⟩)))),?_⟩;refine ex1 rfl ⟨x,T.aa,dx,_,ex1 rfl ⟨e1,T.ab,T.aw,rfl,c,_,rfl,e5,fun o D hD=>?_⟩⟩;have hDc:D≠c:=fun z=>by rw[z,A7]at hD;cases hD
  have kz:Sm [c] H (upd H c (.frz o (.dK (bK A ns.length)))):=(Sm.refl _ _).upd (by simp);have rz:Rd (upd H c (.frz o (.dK (bK A ns.length)))) c (.dK (bK A ns.length)):=.inr ⟨o,A7⟩;have fz:(upd H c (.frz o (.dK (bK A ns.length)))) c=some (.frz o (.dK (bK A ns.length))):=A7;have hD0:H D=none:=by rw[B5 hDc]at hD;exact hD
  have M1:=hM.fz kz rz;generalize upd H c (.frz o (.dK (bK A ns.length)))=H1 at hD kz rz fz M1⊢;have lb:(bK A ns.length).length=ns.length:=by unfold bK;rw[AB,BW]
  refine u9 (n:=ns.length) (fun i σ G=>(∃v0,σ = [v0,some (.int (m:Int))])/\Same H1 G/\G D=some (.lst ((P0 m i).map fun k=>D8 (2^k)))) ⟨⟨_,rfl⟩,Same.new hD,A7⟩ ?_ ?_ ?_ ?_
  .rintro i σ G hi ⟨_,sG,_⟩;exact⟨sG _ _ fz,by rw[lb];exact hi⟩
  .rintro σ G ⟨_,sG,_⟩;exact⟨sG _ _ fz,by rw[lb];exact Nat.le_refl _⟩
  .rintro i σ G y H' N hi ⟨⟨v0,rfl⟩,sG,eG⟩ ⟨rfl,k,v,hk,rfl⟩ hN;unfold bK at hk;rw[AJ,List.getElem?_range hi]at hk;obtain⟨rfl,rfl⟩:=Prod.mk.inj (BI hk);refine ex1 rfl (ex1 rfl (C1 rfl rfl ⟨_,rfl,?_⟩));dsimp only;rw[Gd];have hl:=v8 m i;refine g9 (fun z=>ex1 rfl ⟨_,eG,by rw[AB,sizeLine_eq];omega,hN _ _ ⟨⟨_,rfl⟩,sG.upd hD,?_⟩⟩) (fun z=>hN _ _ ⟨⟨_,rfl⟩,sG,?_⟩)
   .rw[A7,t8,AO z,AL];rfl
   .rw[t8,AK z,DA];exact eG
  .rintro σ G ⟨_,sG,eG⟩;exact q D G hD0 (kz.trans sG.sm) (M1.same sG) eG
end
theorem zCw{α:Type}{J:It}{ys:List α}{r:α->V}(f:α->V){a D:Addr}{H:Hp}(as:AsSeq J (ys.map r) a H){tc:TT}{te:TE}{c:St}{v0:Option V}{Q:St->Hp->Prop}(p:α->Bool)(len:ys.length<=5000)(hD:H D=none)
  (ht:∀y∈ys,∀G,Same H G->∀M:Bool->Hp->Prop,(∀G',Same G G'->M (p y) G')->tc (some (r y)::c) G M) (he:∀y∈ys,∀G,Same H G->∀M:VK,(∀G',Same G G'->M (f y) G')->te (some (r y)::c) G M)
  (q:∀σ G,Same H G->G D=some (.lst ((ys.filter p).map f))->Q σ G):o9 (K9 0) tc (o8 D te) J (v0::c) (upd H D (.lst [])) Q:=by
 refine M9 as (fun i σ G=>(∃v,σ=v::c)/\Same H G/\G D=some (.lst (((ys.take i).filter p).map f))) ⟨⟨_,rfl⟩,Same.new hD,A7⟩ (fun i σ G _ h=>h.2.1.at a) ?_ ?_
 .rintro i σ G v N hx ⟨⟨v0,rfl⟩,sG,eG⟩ hN;rw[AJ]at hx;obtain⟨y,hy,rfl⟩:=BU.mp hx;have my:=BJ hy;refine ht y my G sG _ fun G' s'=>?_;have eG:=s' _ _ eG;have sG:=sG.trans s';have hs:(ys.take (i+1)).filter p =(ys.take i).filter p++if p y=true then [y]else []:=by
   rw[take_succ hy,FR,EV,List.filter_nil]
  have hl:=DU p (ys.take i);rw[AY]at hl;refine g9 (fun c=>he y my G' sG _ fun G2 s2=>⟨_,s2 _ _ eG,by rw[AB,sizeLine_eq];omega,hN _ _ ⟨⟨_,rfl⟩,(sG.trans s2).upd hD,?_⟩⟩) (fun c=>hN _ _ ⟨⟨_,rfl⟩,sG,?_⟩)
  .rw[A7,hs,AO c,AL];rfl
  .rw[hs,AK c,DA];exact eG
 .rintro σ G ⟨_,sG,eG⟩;rw[AB,DB]at eG;exact q σ G sG eG
theorem Ps{α:Type}{J:It}{ys:List α}{r:α->V}(f:α->V){a D:Addr}{H:Hp}(as:AsSeq J (ys.map r) a H){tc:TT}{te:TE}{c:St}{v0:Option V}{Q:St->Hp->Prop}(p:α->Bool)(len:ys.length<=5000)(hD:H D=none)
  (ht:∀y∈ys,∀G,Same H G->∀M:Bool->Hp->Prop,(∀G',Same G G'->M (p y) G')->tc (some (r y)::c) G M) (he:∀y∈ys,∀G,Same H G->∀M:VK,M (f y) G->te (some (r y)::c) G M)
  (q:∀σ G,Same H G->G D=some (.lst ((ys.filter p).map f))->Q σ G):o9 (K9 0) tc (o8 D te) J (v0::c) (upd H D (.lst [])) Q :=
 zCw f as p len hD ht (fun y hy G s M hM=>he y hy G s M (hM G fun b o e=>e)) q
theorem mem_bitsTo{m n k:Nat}:k∈P0 m n↔k<n/\m.testBit k=true:=by
 unfold P0;rw[B_,BV]
theorem E5(n j:Nat):(2^n-1).testBit j=true↔j<n:=by rw[Nat.testBit_two_pow_sub_one,CJ]
section
variable{P:Program}{w:World}{K:PySem.W.Frag}{mg:Str->Option Value}{base:Heap}
theorem L6:FnScope ["self", "some"] ["self", "some"] (B4 s_Marks_names_in):=fsc
def S8(C:Addr):Sp:=fun vs H Q _=>∃(x c:Addr) (ns:List Str) (A B:List Nat) (L m:Nat),vs = [.ref x,.int (m:Int)]/\MarksAt C H x c ns A B L/\∀l H',H l=none->Same H H'->H' l=some (.lst ((setOf ns m).map V.str))->Q (.ref l) H'
theorem L7(T:Tx K mg):FnOk P w K mg base CX0 1 T.ag.f T.ag.fd ["self", "some"] (S8 T.aa):=by
 have sc:=L6;refine T.ag.F.ok L6 (fun vs H Q E h=>?_) (fun cdv A outer s H vs Q E hr h=>?_)
 .obtain⟨x,c,ns,A,B,L,m,rfl,_⟩:=h;rfl
 .obtain⟨x,c,ns,A,B,L,m,rfl,hM,q⟩:=h;have hu:=y6 hr;obtain⟨dx,a,b,d,kb,e1,e2,e3,e4,e5,e6,n1,n2⟩:=hM.ex;have ln:=hM.len;refine⟨_,(B2 (C0 (Q9 (N':=["name", "some", "self"]) (cap:=[none,some 1,some 0]) (cl:=[("some",_),("self",_)]) (J8 ⟨⟨rfl,rfl,rfl,rfl⟩,⟨⟨rfl,rfl,rfl,rfl⟩,trivial⟩⟩ ⟨rfl,⟨rfl,trivial⟩⟩) rfl (piL K (peF K (pv 0))) (fun _ _ _ _=>by exact⟨(pgC 0),(Gx (ptV K (C4 S0 (I9 hu (peF K (pv 2)) (pv 0) (fun _ _=>rfl)) (pv 1)))),(pv 0)⟩)))),?_⟩;refine ex1 rfl ⟨x,T.aa,dx,_,ex1 rfl ⟨e1,T.ab,T.aA,rfl,a,rfl,⟨_,SqL.of e2⟩,fun D hD=>?_⟩⟩;refine M9 (asL (SqL.of e2)) (fun i σ G=>(∃v0,σ = [v0,some (.int (m:Int)),some (.ref x)])/\Same H G/\G D=some (.lst ((Eu ns m i).map V.str))) ⟨⟨_,rfl⟩,Same.new hD,A7⟩ (fun i σ G _ h=>h.2.1.at a) ?_ ?_
  .rintro i σ G y N hx ⟨⟨v0,rfl⟩,sG,eG⟩ hN;rw[AJ]at hx;obtain⟨n,hn,rfl⟩:=BU.mp hx;have li:=(AH.mp hn).1;have rb:Rd G b (.dK kb):=e3.imp (sG _ _) fun⟨o,e⟩=>⟨o,sG _ _ e⟩;refine ex1 rfl ⟨x,T.aa,dx,_,ex1 rfl ⟨sG _ _ e1,T.ab,T.bd,rfl,ex1 rfl ⟨b,_,rfl,.inl ⟨kb,.inr n,rb,rfl,(e4 i n hn).symm⟩,ex1 rfl (C1 rfl rfl ⟨_,rfl,?_⟩)⟩⟩⟩;dsimp only;rw[Gd];have hle:=(n9 ns m i (by omega)).length_le;rw[AY]at hle;refine g9 (fun z=>ex1 rfl ⟨_,eG,by rw[AB,sizeLine_eq];omega,hN _ _ ⟨⟨_,rfl⟩,sG.upd hD,?_⟩⟩) (fun z=>hN _ _ ⟨⟨_,rfl⟩,sG,?_⟩)
   .rw[A7,V8 hn,AO z,AL];rfl
   .rw[V8 hn,AK z,DA];exact eG
  .rintro σ G ⟨_,sG,eG⟩;rw[AB]at eG;exact q D G hD sG eG
theorem Ee:FnScope ["sets", "whole", "one"] ["sets"] (B4 s_joined):=fsc
def Pz(K:PySem.W.Frag):Sp:=fun vs H Q _=>∃(l:Addr) (zs:List Nat),vs = [.ref l]/\H l=some (.lst (zs.map D8))/\∀r:Nat,(∀j,r.testBit j=true↔∃z∈zs,z.testBit j=true)->Q (.int (r:Int)) H
theorem Er(T:Tx K mg):FnOk P w K mg base CX0 1 T.a3.f T.a3.fd ["sets"] (Pz K):=by
 have sc:=Ee;refine T.a3.F.ok Ee (fun vs H Q E h=>?_) (fun cdv A outer s H vs Q E hr h=>?_)
 .obtain⟨l,zs,rfl,_⟩:=h;rfl
 .obtain⟨l,zs,rfl,el,q⟩:=h;refine⟨_,(B0 (C5 (i:=1) sc.nd rfl (.inl rfl) B1)
   (B0 (R9 PassesOwn.never rfl (piL K (pv 0)) (C3 (i:=2) sc.nd rfl (.inl rfl))
   (B2 (zBk (i:=1) sc.nd rfl (Or.inl rfl) (pv 2) zDs)))
   (B2 (C0 (pv 1))))),?_⟩
  refine B3 fun N0 hN0=>?_;refine hN0 _ _ (B3 fun N1 hN1=>?_);refine ex1 rfl ⟨l,rfl,⟨_,SqL.of el⟩,?_⟩;refine Bm (asL (K:=K) (SqL.of el)) (fun i σ G=>G=H/\∃(r:Nat) (v2:Option V),σ = [some (.ref l),some (.int (r:Int)),v2]/\∀j,r.testBit j=true↔∃z∈zs.take i,z.testBit j=true) ⟨rfl,0,_,rfl,fun j=>by simp⟩ (fun i σ G _ h=>by rw[h.1];exact fun o e=>e) ?_ ?_
  .rintro i σ G y hx ⟨rfl,r,v2,rfl,hr⟩ D' hD' _;rw[AJ]at hx;obtain⟨z,hz,rfl⟩:=BU.mp hx;refine ex1 rfl (ex1 rfl (C1 rfl rfl ?_));dsimp only;rw[bor];refine hD' _ _ ⟨rfl,_,_,rfl,fun j=>?_⟩;rw[CF,CC,hr,take_succ hz];constructor
   .rintro(⟨z',h1,h2⟩ | h)
    .exact⟨z',EI _ h1,h2⟩
    .exact⟨z,CA _ (AF.mpr rfl),h⟩
   .rintro⟨z',h1,h2⟩;rcases AU.mp h1 with h1 | h1
    .exact .inl ⟨z',h1,h2⟩
    .rw[AF.mp h1]at h2;exact .inr h2
  .rintro σ G ⟨rfl,r,v2,rfl,hr⟩;rw[AB,DB]at hr;exact hN1 _ _ (ex1 rfl (q r hr))
def Ob(C:Addr)(f:List Nat->List Nat->List Nat):Sp:=fun vs H Q _=>∃(x c:Addr) (ns:List Str) (A B:List Nat) (L m:Nat),vs = [.ref x,.int (m:Int)]/\MarksAt C H x c ns A B L/\∀(r:Nat) H',Sm [c] H H'->MarksAt C H' x c ns A B L->(∀j,r.testBit j=true↔Cq (f A B) m j)->Q (.int (r:Int)) H'
theorem Ow{n m r:Nat}{M:List Nat}(lt:∀k j,(M.getD k 0).testBit j=true->k<n)(h:∀j,r.testBit j=true↔∃z∈(P0 m n).map (fun k=>M.getD k 0),z.testBit j=true)(j:Nat):r.testBit j=true↔Cq M m j:=by
 rw[h];constructor
 .rintro⟨z,hz,e⟩;obtain⟨k,hk,rfl⟩:=AI.mp hz;exact⟨k,(mem_bitsTo.mp hk).2,e⟩
 .rintro⟨k,hk,e⟩;exact⟨_,AI.mpr ⟨k,mem_bitsTo.mpr ⟨lt k j e,hk⟩,rfl⟩,e⟩
theorem K5:FnScope ["self", "some"] ["self", "some"] (B4 s_Marks_struck_by):=fsc
theorem F6(T:Tx K mg):FnOk P w K mg base CX0 2 T.ad.f T.ad.fd ["self", "some"] (Ob T.aa fun _ B=>B):=by
 have G_Marks_bits_in:=O5 (P:=P) (w:=w) (base:=base) T;have G_joined:=Er (P:=P) (w:=w) (base:=base) T;have sc:=K5;refine T.ad.F.ok K5 (fun vs H Q E h=>?_) (fun cdv A outer s H vs Q E hr h=>?_)
 .obtain⟨x,c,ns,A,B,L,m,rfl,_⟩:=h;rfl
 .obtain⟨x,c,ns,A,B,L,m,rfl,hM,q⟩:=h;have hu:=y6 hr;obtain⟨dx,a,b,d,kb,e1,_⟩:=hM.ex;have ln:=hM.len;refine⟨_,(B2 (C0 (G9 T.a3 G_joined (Rm hr) (A6 (Q9 (N':=["bit", "self"]) (cap:=[none,some 0]) (cl:=[("self",_)]) (J8 ⟨⟨rfl,rfl,rfl,rfl⟩,trivial⟩ ⟨rfl,trivial⟩) rfl (piL K (E4 (pv 0) T.ab T.an.m G_Marks_bits_in (Rm hr) T.an.b .nil G6 (A6 (pv 1) A8))) (fun _ _ _ _=>by exact⟨(pgC 0),E1,(I9 hu (peF K (pv 1)) (pv 0) (fun _ _=>rfl))⟩)) A8)))),?_⟩;refine ex1 rfl ⟨x,dx,ex1 rfl ⟨e1,rfl,ex1 rfl ⟨x,c,ns,A,B,L,m,rfl,hM,fun l H1 hl k1 M1 el=>?_⟩⟩⟩;obtain⟨dx,a,b,d,kb,e1,e2,e3,e4,e5,e6,n1,n2⟩:=M1.ex;refine⟨l,rfl,⟨_,SqL.of el⟩,fun D hD=>?_⟩;refine Ps (fun k=>D8 (B.getD k 0)) (asL (SqL.of el)) (fun _=>true) (Nat.le_trans (v8 ..) (by omega)) hD (fun k hk G sG M hM=>hM G fun b o e=>e) (fun k hk G sG M hM=>?_) fun σ' G sG eG=>?_
  .exact ex1 rfl ⟨x,T.aa,dx,_,ex1 rfl ⟨sG _ _ e1,T.ab,T.a2,rfl,ex1 rfl ⟨d,_,rfl,.inl ⟨_,.inl ((2^k:Nat):Int),.inl (sG _ _ e6),rfl,(Ic B (mem_bitsTo.mp hk).1).symm⟩,hM⟩⟩⟩
  rw[GI.mpr fun _ _=>rfl]at eG;have eG:G D=some (.lst (((P0 m ns.length).map fun k=>B.getD k 0).map D8)):=by rw[eG,CH];rfl
  refine⟨D,_,rfl,eG,fun r hr=>q r G (k1.trans sG.sm) (M1.same sG) (Ow (fun k j e=>(hM.net.lt k j e).1) hr)⟩
theorem J1:FnScope ["self", "some"] ["self", "some"] (B4 s_Marks_strikers_at):=fsc
theorem R0(T:Tx K mg):FnOk P w K mg base CX0 2 T.aq.f T.aq.fd ["self", "some"] (Ob T.aa fun A _=>A):=by
 have G_Marks_bits_in:=O5 (P:=P) (w:=w) (base:=base) T;have G_joined:=Er (P:=P) (w:=w) (base:=base) T;have sc:=J1;refine T.aq.F.ok J1 (fun vs H Q E h=>?_) (fun cdv A outer s H vs Q E hr h=>?_)
 .obtain⟨x,c,ns,A,B,L,m,rfl,_⟩:=h;rfl
 .obtain⟨x,c,ns,A,B,L,m,rfl,hM,q⟩:=h;have hu:=y6 hr;obtain⟨dx,a,b,d,kb,e1,_⟩:=hM.ex;have ln:=hM.len;refine⟨_,(B2 (C0 (G9 T.a3 G_joined (Rm hr) (A6 (Q9 (N':=["bit", "self"]) (cap:=[none,some 0]) (cl:=[("self",_)]) (J8 ⟨⟨rfl,rfl,rfl,rfl⟩,trivial⟩ ⟨rfl,trivial⟩) rfl (piL K (E4 (pv 0) T.ab T.an.m G_Marks_bits_in (Rm hr) T.an.b .nil G6 (A6 (pv 1) A8))) (fun _ _ _ _=>by exact⟨(pgC 0),E1,(I9 hu (peF K (pv 1)) (pv 0) (fun _ _=>rfl))⟩)) A8)))),?_⟩;refine ex1 rfl ⟨x,dx,ex1 rfl ⟨e1,rfl,ex1 rfl ⟨x,c,ns,A,B,L,m,rfl,hM,fun l H1 hl k1 M1 el=>?_⟩⟩⟩;obtain⟨dx,a,b,d,kb,e1,e2,e3,e4,e5,e6,n1,n2⟩:=M1.ex;refine⟨l,rfl,⟨_,SqL.of el⟩,fun D hD=>?_⟩;refine Ps (fun k=>D8 (A.getD k 0)) (asL (SqL.of el)) (fun _=>true) (Nat.le_trans (v8 ..) (by omega)) hD (fun k hk G sG M hM=>hM G fun b o e=>e) (fun k hk G sG M hM=>?_) fun σ' G sG eG=>?_
  .exact ex1 rfl ⟨x,T.aa,dx,_,ex1 rfl ⟨sG _ _ e1,T.ab,T.aw,rfl,ex1 rfl ⟨c,_,rfl,.inl ⟨_,.inl ((2^k:Nat):Int),e5.imp (sG _ _) fun⟨o,e⟩=>⟨o,sG _ _ e⟩,rfl,(Ic A (mem_bitsTo.mp hk).1).symm⟩,hM⟩⟩⟩
  rw[GI.mpr fun _ _=>rfl]at eG;have eG:G D=some (.lst (((P0 m ns.length).map fun k=>A.getD k 0).map D8)):=by rw[eG,CH];rfl
  refine⟨D,_,rfl,eG,fun r hr=>q r G (k1.trans sG.sm) (M1.same sG) (Ow (fun k j e=>(hM.net.lt j k ((hM.net.tr k j).mp e)).2) hr)⟩
theorem J3:FnScope ["self", "some"] ["self", "some"] (B4 s_Marks_unstruck_by):=fsc
def Gu(C:Addr):Sp:=fun vs H Q _=>∃(x c:Addr) (ns:List Str) (A B:List Nat) (L m:Nat),vs = [.ref x,.int (m:Int)]/\MarksAt C H x c ns A B L/\∀(r:Nat) H',Sm [c] H H'->MarksAt C H' x c ns A B L->(∀j,r.testBit j=true↔j<ns.length/\¬Cq B m j)->Q (.int (r:Int)) H'
theorem E9(T:Tx K mg):FnOk P w K mg base CX0 3 T.ai.f T.ai.fd ["self", "some"] (Gu T.aa):=by
 have G_Marks_struck_by:=F6 (P:=P) (w:=w) (base:=base) T;have sc:=J3;refine T.ai.F.ok J3 (fun vs H Q E h=>?_) (fun cdv A outer s H vs Q E hr h=>?_)
 .obtain⟨x,c,ns,A,B,L,m,rfl,_⟩:=h;rfl
 .obtain⟨x,c,ns,A,B,L,m,rfl,hM,q⟩:=h;obtain⟨dx,a,b,d,kb,e1,_⟩:=hM.ex;refine⟨_,(B2 (C0 (C4 Bb (peF K (pv 0)) (E4 (pv 0) T.ab T.ad.m G_Marks_struck_by (Rm hr) T.ad.b .nil G6 (A6 (pv 1) A8))))),?_⟩;refine ex1 rfl ⟨x,T.aa,dx,_,ex1 rfl ⟨e1,T.ab,T.au,rfl,ex1 rfl ⟨x,dx,ex1 rfl ⟨e1,rfl,ex1 rfl ⟨x,c,ns,A,B,L,m,rfl,hM,fun r H1 k1 M1 hr=>?_⟩⟩⟩⟩⟩;obtain⟨z,ez,hz⟩:=Yo (2^ns.length-1) r fun j hj=>by
   obtain⟨k,_,e⟩:=(hr j).mp hj;exact(E5 _ _).mpr (hM.net.lt k j e).2
  refine⟨_,_,rfl,rfl,?_⟩;dsimp only;rw[ez];exact q z H1 k1 M1 fun j=>by rw[hz,E5,hr]
theorem Y2:FnScope ["some"] ["some"] (B4 s_first_bit):=fsc
def Ce:Sp:=fun vs H Q _=>∃s:Nat,vs = [.int (s:Int)]/\0<s/\∀k:Nat,s.testBit k=true->Q (.int ((2^k:Nat):Int)) H
theorem X8(T:Tx K mg):FnOk P w K mg base CX0 1 T.ar.f T.ar.fd ["some"] Ce:=by
 have sc:=Y2;refine T.ar.F.ok Y2 (fun vs H Q E h=>?_) (fun cdv A outer s H vs Q E hr h=>?_)
 .obtain⟨s,rfl,_⟩:=h;rfl
 .obtain⟨s,rfl,h0,q⟩:=h;refine⟨_,(B2 (C0 (C4 S0 (pv 0) (zDn Yx (pv 0))))),?_⟩;refine ex1 rfl (ex1 rfl ⟨_,rfl,C1 rfl rfl ?_⟩);obtain⟨k,h1,h2⟩:=Yi s h0;have e:-(s:Int)=Builtin.bitNot (((s-1:Nat)):Int):=by unfold Builtin.bitNot;omega
  have:=q k h1;dsimp only;rw[e,PyProof.Rows.bitAnd_not,Ze];have e2:(s:Int)-((s &&&(s-1):Nat):Int) =((2^k:Nat):Int):=by
   have:s &&&(s-1)<=s:=Nat.and_le_left;omega
  rw[e2];exact this
def Ho(C:Addr):Sp:=fun vs H Q _=>∃(x c:Addr) (ns:List Str) (A B:List Nat) (L ch ba:Nat),vs = [.ref x,.int (ch:Int),.int (ba:Int)]/\MarksAt C H x c ns A B L/\Low ns.length ch/\Low ns.length ba /\
 ∀t (ba':Nat) H',Sm [c] H H'->MarksAt C H' x c ns A B L->H' t=some (.tup [.int (ch:Int),.int (ba':Int)])->Low ns.length ba'->Sub ba ba'->(∀m,K2 ns.length A B m->Fits ch ba m->Fits ch ba' m)->Mf ns.length A B ch ba'->Q (.ref t) H'
theorem K3:FnScope ["marks", "chosen", "barred", "safe", "more"] ["marks", "chosen", "barred"] (B4 s_settle_standing):=fsc
set_option maxHeartbeats 2000000 in
theorem F5(T:Tx K mg):FnOk P w K mg base CX0 4 T.af.f T.af.fd ["marks", "chosen", "barred"] (Ho T.aa):=by
 have G_Marks_struck_by:=F6 (P:=P) (w:=w) (base:=base) T;have G_Marks_strikers_at:=R0 (P:=P) (w:=w) (base:=base) T;have G_Marks_unstruck_by:=E9 (P:=P) (w:=w) (base:=base) T;have sc:=K3;refine T.af.F.ok K3 (fun vs H Q E h=>?_) (fun cdv A outer s H vs Q E hr h=>?_)
 .obtain⟨x,c,ns,A,B,L,ch,ba,rfl,_⟩:=h;rfl
 .obtain⟨x,c,ns,A,B,L,ch,ba,rfl,hM,loc,lob,q⟩:=h;have net:=hM.net;refine⟨_,(B2 (Bs PassesOwn.never (J6 U8) (B0 (C5 (i:=3) sc.nd rfl (.inl rfl) (E4 (pv 0) T.ab T.ai.m G_Marks_unstruck_by (Rm hr) T.ai.b .nil G6 (A6 (C4 Bb (peF K (pv 0)) (pv 2)) A8)))
   (B0 (C5 (i:=4) sc.nd rfl (.inl rfl) (C4 W7 (C4 W7 (C4 W7 (pv 2) (E4 (pv 0) T.ab T.ad.m G_Marks_struck_by (Rm hr) T.ad.b .nil G6 (A6 (pv 1) A8))) (E4 (pv 0) T.ab T.aq.m G_Marks_strikers_at (Rm hr) T.aq.b .nil G6 (A6 (pv 1) A8))) (E4 (pv 0) T.ab T.ad.m G_Marks_struck_by (Rm hr) T.ad.b .nil G6 (A6 (pv 3) A8))))
   (B0 (F4 (D4 d6 (pv 4) (pv 2) (F0 _)) (B2 (C0 (C2 (A6 (pv 1) (A6 (pv 2) A8))))) C7)
   (B2 (C5 (i:=2) sc.nd rfl (.inl rfl) (pv 4)))))))),?_⟩
  refine⟨fun k σ G=>∃(b1:Nat) (v3 v4:Option V),σ = [some (.ref x),some (.int (ch:Int)),some (.int (b1:Int)),v3,v4]/\k=2^ns.length-b1/\Low ns.length b1/\Sub ba b1/\Sm [c] H G/\MarksAt T.aa G x c ns A B L/\∀m,K2 ns.length A B m->Fits ch ba m->Fits ch b1 m,⟨_,ba,_,_,rfl,rfl,lob,fun j h=>h,Sm.refl _ _,hM,fun m _ h=>h⟩,?_⟩;rintro k σ G ⟨b1,v3,v4,rfl,rfl,lo1,sub1,kG,MG,snd1⟩;refine⟨_,rfl,Ht ⟨fun σ' G'=>∃(b2:Nat) (v3 v4:Option V),σ' = [some (.ref x),some (.int (ch:Int)),some (.int (b2:Int)),v3,v4]/\b1<b2/\Low ns.length b2/\Sub ba b2/\Sm [c] H G'/\MarksAt T.aa G' x c ns A B L/\∀m,K2 ns.length A B m->Fits ch ba m->Fits ch b2 m,?_,?_⟩⟩
  .rintro σ' G' ⟨b2,v3,v4,rfl,lt,lo2,h⟩;have:=lo2.lt;exact⟨2^ns.length-b2,by omega,b2,_,_,rfl,rfl,lo2,h⟩
  refine B3 fun N1 hN1=>?_;obtain⟨dx,a,b,d,kb,e1,_⟩:=MG.ex;obtain⟨z,ez,hz⟩:=Yo (2^ns.length-1) b1 fun j hj=>(E5 _ _).mpr (lo1 j hj);refine ex1 rfl ⟨x,dx,ex1 rfl ⟨e1,rfl,ex1 rfl ⟨x,T.aa,dx,_,ex1 rfl ⟨e1,T.ab,T.au,rfl,ex1 rfl (C1 rfl rfl ?_)⟩⟩⟩⟩;dsimp only;rw[ez];refine⟨x,c,ns,A,B,L,z,rfl,MG,fun sf G1 k1 M1 hsf=>?_⟩;refine hN1 _ _ (B3 fun N2 hN2=>?_);obtain⟨dx,a,b,d,kb,e1,_⟩:=M1.ex;refine ex1 rfl (ex1 rfl ⟨x,dx,ex1 rfl ⟨e1,rfl,ex1 rfl ⟨x,c,ns,A,B,L,ch,rfl,M1,fun r1 G2 k2 M2 h1=>?_⟩⟩⟩);refine C1 rfl rfl ?_;dsimp only;rw[bor];obtain⟨dx,a,b,d,kb,e1,_⟩:=M2.ex;refine ex1 rfl ⟨x,dx,ex1 rfl ⟨e1,rfl,ex1 rfl ⟨x,c,ns,A,B,L,ch,rfl,M2,fun r2 G3 k3 M3 h2=>?_⟩⟩⟩;refine C1 rfl rfl ?_;dsimp only;rw[bor];obtain⟨dx,a,b,d,kb,e1,_⟩:=M3.ex;refine ex1 rfl ⟨x,dx,ex1 rfl ⟨e1,rfl,ex1 rfl ⟨x,c,ns,A,B,L,sf,rfl,M3,fun r3 G4 k4 M4 h3=>?_⟩⟩⟩;refine C1 rfl rfl ?_;dsimp only;rw[bor];have k4:=kG.trans (k1.trans (k2.trans (k3.trans k4)));generalize hmo:(b1 ||| r1 ||| r2 ||| r3)=mo;have hm:∀j,mo.testBit j=true↔((b1.testBit j=true\/Cq B ch j)\/Cq A ch j)\/Cq B sf j:=fun j=>by
   rw[<-hmo,CF,CF,CF,CC,CC,CC,h1,h2,h3]
  have hs3:∀j,Cq B sf j↔∃i,i<ns.length/\(¬∃k,k<ns.length/\¬b1.testBit k=true/\(B.getD k 0).testBit i=true)/\(B.getD i 0).testBit j=true:=fun j=>by
   constructor
   .rintro⟨i,hi,e⟩;obtain⟨hn,nh⟩:=(hsf i).mp hi;exact⟨i,hn,fun⟨k,hk,nb,e'⟩=>nh ⟨k,(hz k).mpr ⟨(E5 _ _).mpr hk,nb⟩,e'⟩,e⟩
   .rintro⟨i,hi,nk,e⟩;exact⟨i,(hsf i).mpr ⟨hi,fun⟨k,hk,e'⟩=>nk ⟨k,(E5 _ _).mp ((hz k).mp hk).1,((hz k).mp hk).2,e'⟩⟩,e⟩
  refine hN2 _ _ (B3 fun N3 hN3=>?_);refine ex1 rfl (ex1 rfl ⟨rfl,_,rfl,g9 (fun eq=>?_) (fun ne=>?_)⟩)
  .have eq:mo=b1:=by have:=V.int.inj (BN eq);omega
   refine ex1 rfl (ex1 rfl ⟨by show 2<=sizeLine;decide,fun t ht=>?_⟩);have ut:=Same.new (o:=.tup [.int (ch:Int),.int (b1:Int)]) ht;refine q t b1 _ (k4.trans ut.sm) (M4.same ut) A7 lo1 sub1 snd1 ⟨fun j h=>?_,fun j h=>?_,fun i j hi nk e=>?_⟩
   .rw[<-eq];exact(hm j).mpr (.inl (.inl (.inr h)))
   .rw[<-eq];exact(hm j).mpr (.inl (.inr h))
   .rw[<-eq];exact(hm j).mpr (.inr ((hs3 j).mpr ⟨i,hi,nk,e⟩))
  .have ne:mo≠b1:=fun z=>ne (AZ (by rw[z]));refine hN3 _ _ ?_;have sb:Sub b1 mo:=fun j h=>(hm j).mpr (.inl (.inl (.inl h)));refine ex1 rfl ⟨mo,_,_,rfl,EG (Nat.le_of_testBit sb) (Ne.symm ne),fun j h=>?_,fun j h=>sb j (sub1 j h),k4,M4,fun m hs hf=>?_⟩
   .rcases(hm j).mp h with((h | ⟨k,_,e⟩) | ⟨k,_,e⟩) | ⟨k,_,e⟩
    .exact lo1 j h
    .exact(net.lt k j e).2
    .exact(net.lt j k ((net.tr k j).mp e)).1
    .exact(net.lt k j e).2
   .have f1:=snd1 m hs hf;obtain⟨x1,x2,x3⟩:=Oo net hs f1;refine⟨f1.1,fun j hj z=>?_⟩;rcases(hm j).mp z with((h | h) | h) | h
    .exact f1.2 j hj h
    .exact x1 j h hj
    .exact x2 j h hj
    .obtain⟨i,hi,nk,e⟩:=(hs3 j).mp h;exact x3 i j hi nk e hj
end
def ThrownS(C:Addr)(D:List Addr)(H:Hp)(E:XK):Prop:=∀H' x,Sm D H H'->H' x=some (XO x C none)->E (.ref C) none H'
def er(H:Hp)(l:Addr):Hp:=fun b=>if b=l then none else H b
theorem o7{H:Hp}{l b:Addr}(n:b≠l):er H l b=H b:=AK n
theorem K0(H:Hp)(l:Addr):Same (er H l) H:=fun b o e=>by
 unfold er at e;by_cases c:b=l
 .rw[AO c]at e;cases e
 .rw[AK c]at e;exact e
theorem Ka(H:Hp)(l:Addr)(o:HO):er (upd H l o) l=er H l:=funext fun b=>by
 unfold er;by_cases c:b=l
 .rw[AO c,AO c]
 .rw[AK c,AK c,B5 c]
theorem MarksAt.er{C:Addr}{H H':Hp}{x c l:Addr}{ns:List Str}{A B:List Nat}{L:Nat}(h:MarksAt C (er H l) x c ns A B L)(k:Sm [c] H H')(h':MarksAt C H' x c ns A B L)(n:l≠c):MarksAt C (Sw.er H' l) x c ns A B L:=by
 refine h.fz (fun b o e nb=>?_) ?_
 .have:b≠l:=fun z=>by subst z;unfold Sw.er at e;rw[AO rfl]at e;cases e
  rw[o7 this];exact k b o (K0 H l b o e) nb
 .obtain⟨_,_,_,_,_,_,_,_,_,e5,_⟩:=h'.ex;unfold Rd;rw[o7 n.symm];exact e5
theorem ThrownS.sm{C:Addr}{D:List Addr}{H H1:Hp}{E:XK}(h:ThrownS C D H E)(s:Sm D H H1):ThrownS C D H1 E:=fun H' x k e=>h H' x (s.trans k) e
theorem Fv{n:Nat}(p:Nat->Prop)(h:∀m,p m->Low n m):∃Ls:List Nat,Ls.Nodup/\∀m,m∈Ls↔p m:=by
 classical
 refine⟨(List.range (2^n)).filter fun m=>decide (p m),GJ.nodup HC,fun m=>?_⟩;rw[B_,BV,CJ];exact⟨fun z=>z.2,fun z=>⟨(h m z).lt,z⟩⟩
theorem Q4(x y:Nat):((Builtin.bitAnd (x:Int) (y:Int)) != 0)=true↔∃j,x.testBit j=true/\y.testBit j=true:=by
 rw[Ze,bne_iff_ne];constructor
 .intro h;have h:x &&& y≠0:=fun z=>h (by rw[z];rfl);obtain⟨j,hj⟩:=Nat.exists_testBit_of_ne_zero h;rw[DY,BG]at hj;exact⟨j,hj⟩
 .rintro⟨j,h1,h2⟩ z;have e:x &&& y=0:=by omega
  have:=EW j;rw[<-e,DY,h1,h2]at this;cases this
section
variable{P:Program}{w:World}{K:PySem.W.Frag}{mg:Str->Option Value}{base:Heap}
abbrev Tgt:=Nat->List Nat->List Nat->Nat->Prop
def J5(C:Addr)(Tg:Tgt):Sp:=fun vs H Q _=>∃(x c:Addr) (ns:List Str) (A B:List Nat) (L ch ba:Nat),vs = [.ref x,.int (ch:Int),.int (ba:Int)]/\MarksAt C H x c ns A B L/\Low ns.length ch/\Low ns.length ba /\
 ∀t (ch' ba':Nat) H',Sm [c] H H'->MarksAt C H' x c ns A B L->H' t=some (.tup [.int (ch':Int),.int (ba':Int)])->Low ns.length ch'->Low ns.length ba'->Sub ch ch'->Sub ba ba'->(∀m,Tg ns.length A B m->Fits ch ba m->Fits ch' ba' m)->((∀j,ch'.testBit j=true->¬ba'.testBit j=true)->(∀j,j<ns.length->ch'.testBit j=true\/ba'.testBit j=true)->Tg ns.length A B ch')->Q (.ref t) H'
def V3(C CT f:Addr)(Tg:Tgt)(k:Nat):Sp:=fun vs H Q E=>∃(x c l:Addr) (ns:List Str) (A B:List Nat) (L ch ba:Nat) (fs:List Nat),vs = [.ref x,.ref f,.bl false,.int (ch:Int),.int (ba:Int),.ref l]/\MarksAt C (er H l) x c ns A B L/\Low ns.length ch/\Low ns.length ba/\und ns.length ch ba<=k/\H l=some (.lst (fs.map D8))/\fs.length<=300 /\
 ∀Ls:List Nat,Ls.Nodup->(∀m,m∈Ls↔Tg ns.length A B m/\Fits ch ba m)->(∀H',fs.length+Ls.length<=300->Sm [c,l] H H'->MarksAt C (er H' l) x c ns A B L->H' l=some (.lst ((fs++Ls).map D8))->Q .non H')/\(300<fs.length+Ls.length->ThrownS CT [c,l] H E)
theorem U5:FnScope ["marks", "settle", "greatest", "chosen", "barred", "found", "undecided", "most", "first"] ["marks", "settle", "greatest", "chosen", "barred", "found"] (B4 s_gather):=fsc
set_option maxHeartbeats 4000000 in
theorem Ai(T:Tx K mg){f:Addr}{fd:FuncData}{Tg:Tgt}{n k:Nat}{S:Sp}(tl:∀n A B m,Tg n A B m->Low n m)(G_settle:FnOk P w K mg base CX0 n f fd ["marks", "chosen", "barred"] (J5 T.aa Tg))(hk_settle:PySem.W.keepIn K (.ref f)=true)(hb_settle:Binds K fd ["marks", "chosen", "barred"] [])
  (h1:1<=n) (G_gather:FnOk P w K mg base (CXe P w) n T.aj.f T.aj.fd ["marks", "settle", "greatest", "chosen", "barred", "found"] S) (hS:∀k',k=k'+1->S=V3 T.aa T.ae f Tg k') :
  FnOk P w K mg base (CXe P w) (n+1) T.aj.f T.aj.fd ["marks", "settle", "greatest", "chosen", "barred", "found"] (V3 T.aa T.ae f Tg k):=by
 have G_first_bit:FnOk P w K mg base CX0 n T.ar.f T.ar.fd ["some"] Ce:=(X8 T).mono h1;have sc:=U5;refine T.aj.F.okE U5 (fun vs H Q E h=>?_) (fun cdv A outer s H vs Q E hr h=>?_)
 .obtain⟨x,c,l,ns,A,B,L,ch,ba,fs,rfl,_⟩:=h;rfl
 .obtain⟨x,c,l,ns,A,B,L,ch,ba,fs,rfl,hR,loc,lob,hu,el,lf,q⟩:=h;have hM:=hR.same (K0 H l);refine⟨_,(B0 (X5 (Ji (i:=1) G_settle (hr.mono (Nat.le_refl _)) hk_settle hb_settle G6 (A6 (pv 0) (A6 (pv 3) (A6 (pv 4) A8)))) (pgT K (n:=2) (B8 (C3 (i:=3) sc.nd rfl (.inl rfl)) (B8 (C3 (i:=4) sc.nd rfl (.inl rfl)) F1))))
   (B0 (F4 (ptV K (C4 S0 (pv 3) (pv 4))) (B2 W9) C7)
   (B0 (C5 (i:=6) sc.nd rfl (.inl rfl) (C4 Bb (peF K (pv 0)) (C4 W7 (pv 3) (pv 4))))
   (B0 (C5 (i:=7) sc.nd rfl (.inr rfl) (C4 W7 (pv 3) (pv 6)))
   (B0 (F4 (PW.pt (Oh (J6 (pv 2)) (Ha (J6 (F2 (Ui K) T.bL Uu (A6 (Q9 (N':=["one", "most"]) (cap:=[none,some 7]) (cl:=[("most",_)]) (J8 ⟨⟨rfl,rfl,rfl,rfl⟩,trivial⟩ ⟨rfl,trivial⟩) rfl (piL K (pv 5)) (fun _ _ _ _=>by exact⟨(pgC 0),E1,(S7 d6 (C4 S0 (pv 1) (pv 0)) (pv 1) (F0 _))⟩)) A8)))))) (B2 W9) C7)
   (B0 (F4 (S3 (ptV K (pv 6))) (B0 (F4 (D4 d6 (F2 (t6 K) T.aU X6 (A6 (pv 5) A8)) (Ws T.bH) (F0 _)) (B2 (Ew cxE.bx T.a9 T.bn rfl T.ba (A6 F3 A8))) C7)
   (B0 (D9 (Ra K PySem.F.plainAttrs_list PySem.F.slot_list_append PySem.F.type_list_append E8 (pv 5) (A6 (pv 3) A8)))
   (B2 W9))) C7)
   (B0 (C5 (i:=8) sc.nd rfl (.inl rfl) (G9 T.ar G_first_bit (hr.mono (Nat.le_refl _)) (A6 (pv 6) A8)))
   (B0 (D9 (J2 cxE.bx T.aj G_gather (hr.mono (Nat.le_refl _)) (@A6 _ _ _ _ _ (pv 0) (@A6 _ _ _ _ _ (pv 1) (@A6 _ _ _ _ _ (pv 2) (@A6 _ _ _ _ _ (C4 W7 (pv 3) (pv 8)) (@A6 _ _ _ _ _ (pv 4) (@A6 _ _ _ _ _ (pv 5) A8 (by rfl)) (by rfl)) (by rfl)) (by rfl)) (by rfl)) (by rfl))))
   (B2 (D9 (J2 cxE.bx T.aj G_gather (hr.mono (Nat.le_refl _)) (@A6 _ _ _ _ _ (pv 0) (@A6 _ _ _ _ _ (pv 1) (@A6 _ _ _ _ _ (pv 2) (@A6 _ _ _ _ _ (pv 3) (@A6 _ _ _ _ _ (C4 W7 (pv 4) (pv 8)) (@A6 _ _ _ _ _ (pv 5) A8 (by rfl)) (by rfl)) (by rfl)) (by rfl)) (by rfl)) (by rfl))))))))))))),?_⟩
  refine B3 fun N1 hN1=>?_;refine⟨rfl,ex1 rfl (ex1 rfl (ex1 rfl ⟨x,c,ns,A,B,L,ch,ba,rfl,hM,loc,lob,fun t c1 b1 H1 k1 M1 et lo1 lo2 sub1 sub2 snd cpl=>?_⟩))⟩;refine⟨t,_,rfl,SqT.of et,rfl,_,_,rfl,_,_,rfl,rfl,?_⟩;have nlc:l≠c:=let⟨_,_,_,_,_,_,_,_,_,e5,_⟩:=hM.ex;Uc e5 el (fun _ z=>by cases z) fun _ _ z=>by cases z
  have el1:=Sm1 k1 el nlc;have R1:=hR.er k1 M1 nlc;have k1:Sm [c,l] H H1:=fun b o e nb=>k1 b o e fun z=>nb (AV.mpr (.inl (AF.mp z)));refine hN1 _ _ (B3 fun N2 hN2=>?_);refine ex1 rfl (ex1 rfl (C1 rfl rfl ⟨_,rfl,g9 (fun cm=>?_) (fun cm=>?_)⟩))
  .obtain⟨j,j1,j2⟩:=(Q4 c1 b1).mp cm;have:=(q [] GM fun m=>⟨fun z=>absurd z BD,fun⟨z,y⟩=>absurd j2 ((snd m z y).2 j ((snd m z y).1 j j1))⟩).1 H1 (by rw[GR];omega) k1 R1 (by rw[DA];exact el1);exact this
  have dis:∀j,c1.testBit j=true->¬b1.testBit j=true:=fun j z y=>cm ((Q4 c1 b1).mpr ⟨j,z,y⟩);have fit:∀m,Tg ns.length A B m/\Fits ch ba m↔Tg ns.length A B m/\Fits c1 b1 m:=fun m=>⟨fun⟨z,y⟩=>⟨z,snd m z y⟩,fun⟨z,y⟩=>⟨z,y.mono sub1 sub2⟩⟩;refine hN2 _ _ (B3 fun N3 hN3=>?_);obtain⟨dx,a,b,d,kb,e1,_⟩:=M1.ex;obtain⟨u,eu,hu2⟩:=Yo (2^ns.length-1) (c1 ||| b1) fun j hj=>by
   rw[CF,CC]at hj;exact(E5 _ _).mpr (hj.elim (lo1 j) (lo2 j))
  have hu2:∀j,u.testBit j=true↔j<ns.length/\¬c1.testBit j=true/\¬b1.testBit j=true:=fun j=>by
   rw[hu2,E5,CF,CC,not_or]
  refine ex1 rfl ⟨x,T.aa,dx,_,ex1 rfl ⟨e1,T.ab,T.au,rfl,ex1 rfl (ex1 rfl (C1 rfl rfl ?_))⟩⟩;dsimp only;rw[bor];refine C1 rfl rfl ?_;dsimp only;rw[eu];refine hN3 _ _ (B3 fun N4 hN4=>?_);refine ex1 rfl (ex1 rfl (C1 rfl rfl ?_));refine hN4 _ _ (B3 fun N5 hN5=>?_);refine ex1 rfl ⟨_,rfl,T0 (T0 ?_)⟩;refine hN5 _ _ (B3 fun N6 hN6=>?_);refine ex1 rfl ⟨_,rfl,g9 (fun z0=>?_) (fun z0=>?_)⟩
  .have u0:u=0:=by
    rw[EK,bne_eq_false_iff_eq]at z0;omega
   have all:∀j,j<ns.length->c1.testBit j=true\/b1.testBit j=true:=fun j hj=>by
    by_cases h:c1.testBit j=true
    .exact .inl h
    .by_cases h':b1.testBit j=true
     .exact .inr h'
     .have:=(hu2 j).mpr ⟨hj,h,h'⟩;rw[u0,EW]at this;cases this
   have tg:=cpl dis all;have qq:=q [c1] (EH _ _) fun m=>by
    rw[fit,AF];exact⟨fun z=>by rw[z];exact⟨tg,fun j h=>h,dis⟩,fun⟨z,y⟩=>p8 (tl _ _ _ _ z) all y⟩
   have lm:(fs.map D8).length=fs.length:=AB ..;refine B3 fun N7 hN7=>?_;refine ex1 rfl (C1 (a:=l) rfl (.inl (SqL.of el1)) ⟨rfl,_,rfl,g9 (fun e3=>?_) (fun e3=>?_)⟩)
   .have l300:fs.length=300:=by
     have:=V.int.inj (BN e3);rw[lm]at this;omega
    refine⟨by show 1<=sizeLine;decide,fun z hz=>?_⟩;exact qq.2 (by rw[DT];omega) _ z (k1.new hz) A7
   .have l300:fs.length<300:=EG lf fun z=>e3 (AZ (by rw[lm,z];rfl));refine hN7 _ _ (B3 fun N8 hN8=>?_);refine ex1 rfl ⟨.inl ⟨rfl,_,SqL.of el1⟩,ex1 rfl ⟨l,_,_,rfl,rfl,el1,by rw[lm,sizeLine_eq];omega,hN8 _ _ ?_⟩⟩;have:=qq.1 (upd H1 l (.lst (fs.map D8 ++ [.int (c1:Int)]))) (by rw[DT];omega) (k1.upd (by simp)) (by rw[Ka];exact R1) (by rw[A7,AL];rfl);exact this
  .have upos:0<u:=by
    rcases Nat.eq_zero_or_pos u with h | h
    .exact absurd (by rw[h];rfl) z0
    .exact h
   refine hN6 _ _ (B3 fun N7 hN7=>?_);refine ex1 rfl ⟨u,rfl,upos,fun kk hkk=>?_⟩;obtain⟨k0,nc,nb⟩:=(hu2 kk).mp hkk;have ss:∀a:Nat,Sub a (a ||| 2^kk):=fun a j h=>by rw[CF,h];rfl
   have sb:∀a:Nat,(a ||| 2^kk).testBit kk=true:=fun a=>by rw[CF,GE,IG]
   have un1:=Jh (n:=ns.length) sub1 sub2;have un2:=Jo (n:=ns.length) (ss c1) (fun j h=>h:Sub b1 b1) k0 ⟨nc,nb⟩ (.inl (sb c1));have un3:=Jo (n:=ns.length) (fun j h=>h:Sub c1 c1) (ss b1) k0 ⟨nc,nb⟩ (.inr (sb b1));obtain⟨k',rfl⟩:∃k',k=k'+1:=⟨k-1,by omega⟩;have hSS:=hS k' rfl;subst hSS;have mem:∀{L1 L2:List Nat},(∀m,m∈L1↔Tg ns.length A B m/\Fits (c1 ||| 2^kk) b1 m)->(∀m,m∈L2↔Tg ns.length A B m/\Fits c1 (b1 ||| 2^kk) m)->∀m,m∈L1++L2↔Tg ns.length A B m/\Fits ch ba m:=fun h1 h2 m=>by
    rw[fit,AU,h1,h2,fits_or,fits_bar];constructor
    .rintro(⟨a,b,_⟩ | ⟨a,b,_⟩)
     .exact⟨a,b⟩
     .exact⟨a,b⟩
    .rintro⟨a,b⟩;by_cases h:m.testBit kk=true
     .exact .inl ⟨a,b,h⟩
     .exact .inr ⟨a,b,h⟩
   have nod:∀{L1 L2:List Nat},L1.Nodup->L2.Nodup->(∀m,m∈L1↔Tg ns.length A B m/\Fits (c1 ||| 2^kk) b1 m)->(∀m,m∈L2↔Tg ns.length A B m/\Fits c1 (b1 ||| 2^kk) m)->(L1++L2).Nodup:=fun n1 n2 h1 h2=>GC.mpr ⟨n1,n2,fun a ha b hb e=>by
    subst e;exact(fits_bar.mp ((h2 a).mp hb).2).2 (fits_or.mp ((h1 a).mp ha).2).2⟩
   refine hN7 _ _ (B3 fun N8 hN8=>?_);refine ex1 rfl (ex1 rfl (ex1 rfl (ex1 rfl (ex1 rfl (C1 rfl rfl ?_)))));refine ex1 rfl (ex1 rfl ⟨x,c,l,ns,A,B,L,c1 ||| 2^kk,b1,fs,by dsimp only;rw[bor];rfl,R1,lo1.or k0,lo2,by omega,el1,lf,fun L1 nd1 m1=>⟨fun H2 le2 k2 M2 el2=>?_,fun gt=>?_⟩⟩)
   .refine hN8 _ _ ?_;refine ex1 rfl (ex1 rfl (ex1 rfl (ex1 rfl (ex1 rfl (ex1 rfl (C1 rfl rfl ?_))))));refine ex1 rfl ⟨x,c,l,ns,A,B,L,c1,b1 ||| 2^kk,fs++L1,by dsimp only;rw[bor];rfl,M2,lo1,lo2.or k0,by omega,el2,by rw[BC];exact le2,fun L2 nd2 m2=>⟨fun H3 le3 k3 M3 el3=>?_,fun gt=>?_⟩⟩
    .rw[BC]at le3;rw[BK]at el3;exact(q (L1++L2) (nod nd1 nd2 m1 m2) (mem m1 m2)).1 H3 (by rw[BC];omega) (k1.trans (k2.trans k3)) M3 el3
    .rw[BC]at gt;exact((q (L1++L2) (nod nd1 nd2 m1 m2) (mem m1 m2)).2 (by rw[BC];omega)).sm (k1.trans k2)
   .obtain⟨L2,nd2,m2⟩:=Fv (n:=ns.length) (fun m=>Tg ns.length A B m/\Fits c1 (b1 ||| 2^kk) m) fun m h=>tl _ _ _ _ h.1;exact((q (L1++L2) (nod nd1 nd2 m1 m2) (mem m1 m2)).2 (by rw[BC];omega)).sm k1
def Yc:Sp:=fun _ _ _ _=>False
theorem Iu{f:Addr}{fd:FuncData}{ps:List Str}{CX:CXT}{n:Nat}:FnOk P w K mg base CX n f fd ps Yc:=⟨fun _ _ _ _ h=>h.elim,fun _ _ _ _ _ _ _ _ _ _ _ _ _ h=>h.elim⟩
theorem T2(T:Tx K mg){f:Addr}{fd:FuncData}{Tg:Tgt}{n:Nat}(tl:∀n A B m,Tg n A B m->Low n m)(G:FnOk P w K mg base CX0 n f fd ["marks", "chosen", "barred"] (J5 T.aa Tg))(hk:PySem.W.keepIn K (.ref f)=true)(hb:Binds K fd ["marks", "chosen", "barred"] [])(h1:1<=n) :
  ∀k,FnOk P w K mg base (CXe P w) (n+1+k) T.aj.f T.aj.fd ["marks", "settle", "greatest", "chosen", "barred", "found"] (V3 T.aa T.ae f Tg k)
 | 0=>Ai T tl G hk hb h1 Iu fun k' e=>by omega
 | k+1=>Ai (n:=n+1+k) T tl (G.mono (by omega)) hk hb (by omega) (T2 T tl G hk hb h1 k) fun k' e=>by cases e;rfl
theorem Es(T:Tx K mg):FnOk P w K mg base CX0 4 T.af.f T.af.fd ["marks", "chosen", "barred"] (J5 T.aa K2) :=
 (F5 T).imp fun vs H Q E h=>by
  obtain⟨x,c,ns,A,B,L,ch,ba,e,hM,loc,lob,q⟩:=h;exact⟨x,c,ns,A,B,L,ch,ba,e,hM,loc,lob,fun t ba' H' k M et lo sub snd st=>q t ch ba' H' k M et loc lo (fun j h=>h) sub snd fun dis all=>V4 hM.net loc st dis all⟩
end
def G8(n:Nat)(A B:List Nat)(m:Nat):Prop:=K2 n A B m/\∀j,Et n A B m j->m.testBit j=true
theorem Me{n:Nat}{A B:List Nat}{m m' j:Nat}(s:Sub m m')(h:Et n A B m j):Et n A B m' j:=⟨h.1,fun b hb=>let⟨k,hk,e⟩:=h.2 b hb;⟨k,s k hk,e⟩⟩
section
variable{P:Program}{w:World}{K:PySem.W.Frag}{mg:Str->Option Value}{base:Heap}
theorem U7:FnScope ["self", "some"] ["self", "some"] (B4 s_Marks_kept):=fsc
def Sf(C:Addr):Sp:=fun vs H Q _=>∃(x c:Addr) (ns:List Str) (A B:List Nat) (L m:Nat),vs = [.ref x,.int (m:Int)]/\MarksAt C H x c ns A B L/\∀(r:Nat) H',Sm [c] H H'->MarksAt C H' x c ns A B L->(∀j,r.testBit j=true↔Et ns.length A B m j)->Q (.int (r:Int)) H'
theorem Bz(T:Tx K mg):FnOk P w K mg base CX0 4 T.aD.f T.aD.fd ["self", "some"] (Sf T.aa):=by
 have G_Marks_struck_by:=F6 (P:=P) (w:=w) (base:=base) T;have G_Marks_unstruck_by:=E9 (P:=P) (w:=w) (base:=base) T;have sc:=U7;refine T.aD.F.ok U7 (fun vs H Q E h=>?_) (fun cdv A outer s H vs Q E hr h=>?_)
 .obtain⟨x,c,ns,A,B,L,m,rfl,_⟩:=h;rfl
 .obtain⟨x,c,ns,A,B,L,m,rfl,hM,q⟩:=h;obtain⟨dx,a,b,d,kb,e1,_⟩:=hM.ex;refine⟨_,(B2 (C0 (C4 Bb (peF K (pv 0)) (E4 (pv 0) T.ab T.ad.m G_Marks_struck_by (Rm hr) T.ad.b .nil G6 (A6 (E4 (pv 0) T.ab T.ai.m G_Marks_unstruck_by (Rm hr) T.ai.b .nil G6 (A6 (pv 1) A8)) A8))))),?_⟩;refine ex1 rfl ⟨x,T.aa,dx,_,ex1 rfl ⟨e1,T.ab,T.au,rfl,ex1 rfl ⟨x,dx,ex1 rfl ⟨e1,rfl,ex1 rfl ⟨x,dx,ex1 rfl ⟨e1,rfl,ex1 rfl ⟨x,c,ns,A,B,L,m,rfl,hM,fun r1 H1 k1 M1 h1=>?_⟩⟩⟩⟩⟩⟩⟩;refine⟨x,c,ns,A,B,L,r1,rfl,M1,fun r H2 k2 M2 hr=>?_⟩;obtain⟨z,ez,hz⟩:=Yo (2^ns.length-1) r fun j hj=>by
   obtain⟨k,_,e⟩:=(hr j).mp hj;exact(E5 _ _).mpr (hM.net.lt k j e).2
  refine⟨_,_,rfl,rfl,?_⟩;dsimp only;rw[ez];refine q z H2 (k1.trans k2) M2 fun j=>?_;rw[hz,E5,hr];constructor
  .rintro⟨hj,nh⟩;refine⟨hj,fun b hb=>?_⟩;have e:=(hM.net.tr j b).mp hb;by_cases c:Cq B m b
   .exact c
   .exact absurd ⟨b,(h1 b).mpr ⟨(hM.net.lt b j e).1,c⟩,e⟩ nh
  .rintro⟨hj,h⟩;exact⟨hj,fun⟨k,hk,e⟩=>((h1 k).mp hk).2 (h k ((hM.net.tr j k).mpr e))⟩
theorem O9:FnScope ["marks", "chosen", "barred", "more"] ["marks", "chosen", "barred"] (B4 s_settle_whole):=fsc
set_option maxHeartbeats 2000000 in
theorem P1(T:Tx K mg):FnOk P w K mg base CX0 5 T.ak.f T.ak.fd ["marks", "chosen", "barred"] (J5 T.aa G8):=by
 have G_settle_standing:=F5 (P:=P) (w:=w) (base:=base) T;have G_Marks_kept:=Bz (P:=P) (w:=w) (base:=base) T;have sc:=O9;refine T.ak.F.ok O9 (fun vs H Q E h=>?_) (fun cdv A outer s H vs Q E hr h=>?_)
 .obtain⟨x,c,ns,A,B,L,ch,ba,rfl,_⟩:=h;rfl
 .obtain⟨x,c,ns,A,B,L,ch,ba,rfl,hM,loc,lob,q⟩:=h;have net:=hM.net;refine⟨_,(B2 (Bs PassesOwn.never (J6 U8) (B0 (X5 (G9 T.af G_settle_standing (Rm hr) (A6 (pv 0) (A6 (pv 1) (A6 (pv 2) A8)))) (pgT K (n:=2) (B8 (C3 (i:=1) sc.nd rfl (.inl rfl)) (B8 (C3 (i:=2) sc.nd rfl (.inl rfl)) F1))))
   (B0 (C5 (i:=3) sc.nd rfl (.inl rfl) (C4 W7 (pv 1) (E4 (pv 0) T.ab T.aD.m G_Marks_kept (Rm hr) T.aD.b .nil G6 (A6 (pv 1) A8))))
   (B0 (F4 (PW.pt (Gv (D4 d6 (pv 3) (pv 1) (F0 _)) (t9 (ptV K (C4 S0 (pv 1) (pv 2)))))) (B2 (C0 (C2 (A6 (pv 1) (A6 (pv 2) A8))))) C7)
   (B2 (C5 (i:=1) sc.nd rfl (.inl rfl) (pv 3)))))))),?_⟩
  refine⟨fun k σ G=>∃(c1 b1:Nat) (v3:Option V),σ = [some (.ref x),some (.int (c1:Int)),some (.int (b1:Int)),v3]/\k=2^ns.length-c1/\Low ns.length c1/\Low ns.length b1/\Sub ch c1/\Sub ba b1/\Sm [c] H G/\MarksAt T.aa G x c ns A B L/\∀m,G8 ns.length A B m->Fits ch ba m->Fits c1 b1 m,⟨_,ch,ba,_,rfl,rfl,loc,lob,fun j h=>h,fun j h=>h,Sm.refl _ _,hM,fun m _ h=>h⟩,?_⟩;rintro k σ G ⟨c1,b1,v3,rfl,rfl,lo1,lo2,sub1,sub2,kG,MG,snd1⟩;refine⟨_,rfl,Ht ⟨fun σ' G'=>∃(c2 b2:Nat) (v3:Option V),σ' = [some (.ref x),some (.int (c2:Int)),some (.int (b2:Int)),v3]/\c1<c2/\Low ns.length c2/\Low ns.length b2/\Sub ch c2/\Sub ba b2/\Sm [c] H G'/\MarksAt T.aa G' x c ns A B L/\∀m,G8 ns.length A B m->Fits ch ba m->Fits c2 b2 m,?_,?_⟩⟩
  .rintro σ' G' ⟨c2,b2,v3,rfl,lt,lo3,h⟩;have:=lo3.lt;exact⟨2^ns.length-c2,by omega,c2,b2,_,rfl,rfl,lo3,h⟩
  refine B3 fun N1 hN1=>?_;refine ex1 rfl (ex1 rfl (ex1 rfl ⟨x,c,ns,A,B,L,c1,b1,rfl,MG,lo1,lo2,fun t b2 G1 k1 M1 et lo3 sub3 snd2 st=>?_⟩));refine⟨t,_,rfl,SqT.of et,rfl,_,_,rfl,_,_,rfl,rfl,?_⟩;have snd3:∀m,G8 ns.length A B m->Fits ch ba m->Fits c1 b2 m:=fun m hw hf=>snd2 m hw.1 (snd1 m hw hf);refine hN1 _ _ (B3 fun N2 hN2=>?_);obtain⟨dx,a,b,d,kb,e1,_⟩:=M1.ex;refine ex1 rfl (ex1 rfl ⟨x,dx,ex1 rfl ⟨e1,rfl,ex1 rfl ⟨x,c,ns,A,B,L,c1,rfl,M1,fun r G2 k2 M2 hr=>?_⟩⟩⟩);refine C1 rfl rfl ?_;dsimp only;rw[bor];have k2:=kG.trans (k1.trans k2);generalize hmo:(c1 ||| r)=mo;have hm:∀j,mo.testBit j=true↔c1.testBit j=true\/Et ns.length A B c1 j:=fun j=>by rw[<-hmo,CF,CC,hr]
  have ret:(mo=c1\/∃j,c1.testBit j=true/\b2.testBit j=true)->∀t' G3,Same G2 G3->G3 t'=some (.tup [.int (c1:Int),.int (b2:Int)])->Q (.ref t') G3:=fun hc t' G3 s3 et'=>by
   refine q t' c1 b2 G3 (k2.trans s3.sm) (M2.same s3) et' lo1 lo3 sub1 (fun j h=>sub3 j (sub2 j h)) snd3 fun dis all=>⟨V4 net lo1 st dis all,fun j hj=>?_⟩;rcases hc with e | ⟨i,h1,h2⟩
   .rw[<-e];exact(hm j).mpr (.inr hj)
   .exact absurd h2 (dis i h1)
  have tup:(mo=c1\/∃j,c1.testBit j=true/\b2.testBit j=true)->Zt (Ur (K1 (Y5 1) (K1 (Y5 2) Cr))) { nx:=fun _ H'=>Q .non H',rt:=Q } [some (.ref x),some (.int (c1:Int)),some (.int (b2:Int)),some (.int (mo:Int))] G2:=fun hc =>
   ex1 rfl (ex1 rfl ⟨by show 2<=sizeLine;decide,fun t' ht'=>ret hc t' _ (Same.new ht') A7⟩)
  refine hN2 _ _ (B3 fun N3 hN3=>?_);refine ex1 rfl (ex1 rfl ⟨rfl,_,rfl,g9 (fun eq=>?_) (fun ne=>?_)⟩)
  .exact Ht (tup (.inl (by have:=V.int.inj (BN eq);omega)))
  .refine ex1 rfl (ex1 rfl (C1 rfl rfl ⟨_,rfl,g9 (fun cm=>?_) (fun cm=>?_)⟩))
   .exact tup (.inr ((Q4 c1 b2).mp cm))
   .have ne:mo≠c1:=fun z=>ne (AZ (by rw[z]));have sb:Sub c1 mo:=fun j h=>(hm j).mpr (.inl h);refine hN3 _ _ ?_;refine ex1 rfl ⟨mo,b2,_,rfl,EG (Nat.le_of_testBit sb) (Ne.symm ne),fun j h=>((hm j).mp h).elim (lo1 j) (·.1),lo3,fun j h=>sb j (sub1 j h),fun j h=>sub3 j (sub2 j h),k2,M2,fun m hw hf=>?_⟩;have f1:=snd3 m hw hf;exact⟨fun j h=>((hm j).mp h).elim (f1.1 j) fun y=>hw.2 j (Me f1.1 y),f1.2⟩
end
def OutM(n:Nat)(A B:List Nat)(m:Nat):Prop:=Low n m/\Ez B m/\∀j,j<n->m.testBit j=true\/Cq B m j
theorem OutM.stand{n:Nat}{A B:List Nat}(N:Net n A B){m:Nat}(h:OutM n A B m):K2 n A B m:=⟨h.1,h.2.1,fun j hj=>⟨h.1 j hj,fun b hb=>by
 have e:=(N.tr j b).mp hb;exact(h.2.2 b (N.lt b j e).1).resolve_left fun z=>h.2.1 b j z hj e⟩⟩
section
variable{P:Program}{w:World}{K:PySem.W.Frag}{mg:Str->Option Value}{base:Heap}
theorem K6:FnScope ["marks", "chosen", "barred", "more"] ["marks", "chosen", "barred"] (B4 s_settle_outright):=fsc
set_option maxHeartbeats 2000000 in
theorem U6(T:Tx K mg):FnOk P w K mg base CX0 5 T.al.f T.al.fd ["marks", "chosen", "barred"] (J5 T.aa OutM):=by
 have G_settle_standing:=F5 (P:=P) (w:=w) (base:=base) T;have G_Marks_unstruck_by:=E9 (P:=P) (w:=w) (base:=base) T;have sc:=K6;refine T.al.F.ok K6 (fun vs H Q E h=>?_) (fun cdv A outer s H vs Q E hr h=>?_)
 .obtain⟨x,c,ns,A,B,L,ch,ba,rfl,_⟩:=h;rfl
 .obtain⟨x,c,ns,A,B,L,ch,ba,rfl,hM,loc,lob,q⟩:=h;have net:=hM.net;refine⟨_,(B2 (Bs PassesOwn.never (J6 U8) (B0 (X5 (G9 T.af G_settle_standing (Rm hr) (A6 (pv 0) (A6 (pv 1) (A6 (pv 2) A8)))) (pgT K (n:=2) (B8 (C3 (i:=1) sc.nd rfl (.inl rfl)) (B8 (C3 (i:=2) sc.nd rfl (.inl rfl)) F1))))
   (B0 (C5 (i:=3) sc.nd rfl (.inl rfl) (C4 W7 (pv 1) (E4 (pv 0) T.ab T.ai.m G_Marks_unstruck_by (Rm hr) T.ai.b .nil G6 (A6 (C4 Bb (peF K (pv 0)) (pv 2)) A8))))
   (B0 (F4 (PW.pt (Gv (D4 d6 (pv 3) (pv 1) (F0 _)) (t9 (ptV K (C4 S0 (pv 1) (pv 2)))))) (B2 (C0 (C2 (A6 (pv 1) (A6 (pv 2) A8))))) C7)
   (B2 (C5 (i:=1) sc.nd rfl (.inl rfl) (pv 3)))))))),?_⟩
  refine⟨fun k σ G=>∃(c1 b1:Nat) (v3:Option V),σ = [some (.ref x),some (.int (c1:Int)),some (.int (b1:Int)),v3]/\k=2^ns.length-c1/\Low ns.length c1/\Low ns.length b1/\Sub ch c1/\Sub ba b1/\Sm [c] H G/\MarksAt T.aa G x c ns A B L/\∀m,OutM ns.length A B m->Fits ch ba m->Fits c1 b1 m,⟨_,ch,ba,_,rfl,rfl,loc,lob,fun j h=>h,fun j h=>h,Sm.refl _ _,hM,fun m _ h=>h⟩,?_⟩;rintro k σ G ⟨c1,b1,v3,rfl,rfl,lo1,lo2,sub1,sub2,kG,MG,snd1⟩;refine⟨_,rfl,Ht ⟨fun σ' G'=>∃(c2 b2:Nat) (v3:Option V),σ' = [some (.ref x),some (.int (c2:Int)),some (.int (b2:Int)),v3]/\c1<c2/\Low ns.length c2/\Low ns.length b2/\Sub ch c2/\Sub ba b2/\Sm [c] H G'/\MarksAt T.aa G' x c ns A B L/\∀m,OutM ns.length A B m->Fits ch ba m->Fits c2 b2 m,?_,?_⟩⟩
  .rintro σ' G' ⟨c2,b2,v3,rfl,lt,lo3,h⟩;have:=lo3.lt;exact⟨2^ns.length-c2,by omega,c2,b2,_,rfl,rfl,lo3,h⟩
  refine B3 fun N1 hN1=>?_;refine ex1 rfl (ex1 rfl (ex1 rfl ⟨x,c,ns,A,B,L,c1,b1,rfl,MG,lo1,lo2,fun t b2 G1 k1 M1 et lo3 sub3 snd2 st=>?_⟩));refine⟨t,_,rfl,SqT.of et,rfl,_,_,rfl,_,_,rfl,rfl,?_⟩;have snd3:∀m,OutM ns.length A B m->Fits ch ba m->Fits c1 b2 m:=fun m hw hf=>snd2 m (hw.stand net) (snd1 m hw hf);refine hN1 _ _ (B3 fun N2 hN2=>?_);obtain⟨dx,a,b,d,kb,e1,_⟩:=M1.ex;obtain⟨z,ez,hz⟩:=Yo (2^ns.length-1) b2 fun j hj=>(E5 _ _).mpr (lo3 j hj);refine ex1 rfl (ex1 rfl ⟨x,dx,ex1 rfl ⟨e1,rfl,ex1 rfl ⟨x,T.aa,dx,_,ex1 rfl ⟨e1,T.ab,T.au,rfl,ex1 rfl (C1 rfl rfl ?_)⟩⟩⟩⟩);dsimp only;rw[ez];refine⟨x,c,ns,A,B,L,z,rfl,M1,fun r G2 k2 M2 hr=>?_⟩;refine C1 rfl rfl ?_;dsimp only;rw[bor];have k2:=kG.trans (k1.trans k2);generalize hmo:(c1 ||| r)=mo;have hm:∀j,mo.testBit j=true↔c1.testBit j=true\/(j<ns.length/\¬Cq B z j):=fun j=>by rw[<-hmo,CF,CC,hr]
  have ret:(mo=c1\/∃j,c1.testBit j=true/\b2.testBit j=true)->∀t' G3,Same G2 G3->G3 t'=some (.tup [.int (c1:Int),.int (b2:Int)])->Q (.ref t') G3:=fun hc t' G3 s3 et'=>by
   refine q t' c1 b2 G3 (k2.trans s3.sm) (M2.same s3) et' lo1 lo3 sub1 (fun j h=>sub3 j (sub2 j h)) snd3 fun dis all=>⟨lo1,(V4 net lo1 st dis all).2.1,fun j hj=>?_⟩;rcases hc with e | ⟨i,h1,h2⟩
   .by_cases hh:Cq B c1 j
    .exact .inr hh
    .refine .inl ?_;rw[<-e];refine(hm j).mpr (.inr ⟨hj,fun⟨k,hk,e'⟩=>hh ⟨k,?_,e'⟩⟩);obtain⟨h1,h2⟩:=(hz k).mp hk;exact(all k ((E5 _ _).mp h1)).resolve_right h2
   .exact absurd h2 (dis i h1)
  have tup:(mo=c1\/∃j,c1.testBit j=true/\b2.testBit j=true)->Zt (Ur (K1 (Y5 1) (K1 (Y5 2) Cr))) { nx:=fun _ H'=>Q .non H',rt:=Q } [some (.ref x),some (.int (c1:Int)),some (.int (b2:Int)),some (.int (mo:Int))] G2:=fun hc =>
   ex1 rfl (ex1 rfl ⟨by show 2<=sizeLine;decide,fun t' ht'=>ret hc t' _ (Same.new ht') A7⟩)
  refine hN2 _ _ (B3 fun N3 hN3=>?_);refine ex1 rfl (ex1 rfl ⟨rfl,_,rfl,g9 (fun eq=>?_) (fun ne=>?_)⟩)
  .exact Ht (tup (.inl (by have:=V.int.inj (BN eq);omega)))
  .refine ex1 rfl (ex1 rfl (C1 rfl rfl ⟨_,rfl,g9 (fun cm=>?_) (fun cm=>?_)⟩))
   .exact tup (.inr ((Q4 c1 b2).mp cm))
   .have ne:mo≠c1:=fun z=>ne (AZ (by rw[z]));have sb:Sub c1 mo:=fun j h=>(hm j).mpr (.inl h);refine hN3 _ _ ?_;refine ex1 rfl ⟨mo,b2,_,rfl,EG (Nat.le_of_testBit sb) (Ne.symm ne),fun j h=>((hm j).mp h).elim (lo1 j) (·.1),lo3,fun j h=>sb j (sub1 j h),fun j h=>sub3 j (sub2 j h),k2,M2,fun m hw hf=>?_⟩;have f1:=snd3 m hw hf;refine⟨fun j h=>((hm j).mp h).elim (f1.1 j) fun⟨hj,nh⟩=>?_,f1.2⟩;refine(hw.2.2 j hj).resolve_right fun⟨k,hk,e⟩=>nh ⟨k,(hz k).mpr ⟨(E5 _ _).mpr (hw.1 k hk),f1.2 k hk⟩,e⟩
end
theorem Hj(Z:Nat->Key)(v:Nat->V){N:Nat}(inj:∀i j,i<N->j<N->Z i=Z j->i=j):∀n,n<=N->∀i,i<N->Q3 ((List.range n).map fun k=>(Z k,v k)) (Z i)=if i<n then some (v i)else none
 | 0,_,i,_=>rfl
 | n+1,h,i,hi=>by
  have ih:=Hj Z v inj n (by omega) i hi;unfold Q3 at ih⊢;rw[EF,AL,List.find?_append];by_cases c:i<n
  .rw[AO c]at ih;rw[AO (by omega)];cases e:(List.find? (fun kv:Key×V=>decide (kv.1=Z i)) ((List.range n).map fun k=>(Z k,v k)))with
   | none=>rw[e]at ih;cases ih
   | some q=>rw[e]at ih;rw[Option.some_or];exact ih
  .rw[AK c]at ih;cases e:(List.find? (fun kv:Key×V=>decide (kv.1=Z i)) ((List.range n).map fun k=>(Z k,v k)))with
   | some q=>rw[e]at ih;cases ih
   | none =>
    rw[Option.none_or,AW,FI];by_cases c':i=n
    .subst c';rw[AZ rfl,AO (by omega)];rfl
    .rw[AN fun z=>c' (inj n i (by omega) hi z).symm,AK (by omega)];rfl
theorem Oe(Z:Nat->Key)(v:Nat->V){N:Nat}(inj:∀i j,i<N->j<N->Z i=Z j->i=j){n:Nat}(h:n<N):Ik ((List.range n).map fun k=>(Z k,v k)) (Z n) (v n) =(List.range (n+1)).map fun k=>(Z k,v k):=by
 rw[Ue _ (by rw[Hj Z v inj n (by omega) n h,AK (by omega)]),EF,AL];rfl
theorem Js:∀n,(((List.range n).map fun k=>((2^k:Nat):Int)).sum) =((2^n-1:Nat):Int)
 | 0=>rfl
 | n+1=>by
  rw[EF,AL,List.sum_append,Js n];have:0<2^n:=Nat.pow_pos (by decide);simp only[AW,IA,FL,List.sum_nil,Nat.pow_succ];omega
theorem Jq(l:List Nat):((l.map fun k=>((2^k:Nat):Int)).sum) =(((l.map fun k=>2^k).sum:Nat):Int):=by
 induction l with
 | nil=>rfl
 | cons a r ih=>rw[AW,FL,ih,AW,FL];omega
theorem Ei{ns:List Str}{y:Str}(h:y∈ns):ns[ns.idxOf y]?=some y:=by
 rw[AC (List.idxOf_lt_length_of_mem h),List.getElem_idxOf]
def ML(ns:List Str)(g:Str->List Str):List Nat:=ns.map fun n=>((g n).map fun y=>2^ns.idxOf y).sum
theorem Yl{ns:List Str}{g:Str->List Str}{i:Nat}{n:Str}(h:ns[i]?=some n):(ML ns g).getD i 0 =(((g n).map fun y=>ns.idxOf y).map fun k=>2^k).sum:=by
 unfold ML;rw[AS,AJ,h,CH];rfl
theorem zBq{ns:List Str}{g:Str->List Str}{ks:List (Str×Str)}(nd:ns.Nodup)(gn:∀n∈ns,(g n).Nodup)(gm:∀n∈ns,∀y,y∈g n↔(n,y)∈ks)(mem:∀k∈ks,k.1∈ns/\k.2∈ns):MB ns ks (ML ns g):=by
 refine⟨by unfold ML;rw[AB],fun i j=>?_⟩;cases hi:ns[i]? with
 | none =>
  have e:(ML ns g).getD i 0=0:=by unfold ML;rw[AS,AJ,hi];rfl
  rw[e,EW];exact⟨fun z=>(by cases z),fun⟨k,_,z,_⟩=>(by cases z)⟩
 | some n =>
  have hn:=BJ hi;have nj:((g n).map fun y=>ns.idxOf y).Nodup:=by
   refine BQ.mpr (HP (fun{a b} ha hb ne e=>ne ?_) (gn n hn));have ea:=Ei (mem _ ((gm n hn a).mp ha)).2;have eb:=Ei (mem _ ((gm n hn b).mp hb)).2;rw[e,eb]at ea;exact(BI ea).symm
  rw[Yl hi,Fz nj,AI];constructor
  .rintro⟨y,hy,rfl⟩;have hk:=(gm n hn y).mp hy;exact⟨_,hk,rfl,Ei (mem _ hk).2⟩
  .rintro⟨k,hk,e1,e2⟩;have e1:=BI e1;refine⟨k.2,(gm n hn k.2).mpr (by rw[e1];exact hk),?_⟩;exact Iq nd (Ei (mem _ hk).2) e2
theorem Jr{J:It}{a D:Addr}{ns:List Str}{H:Hp}{Q:St->Hp->Prop}(as:AsSeq J (ns.map V.str) a H){tk tv:TE}{r:St}{v0:Option V}(M:List Nat)(len:ns.length<=1000)(hD:H D=none)
  (hk:∀i n G (R:VK),ns[i]?=some n->Same H G->R (D8 (2^i)) G->tk (some (.str n)::r) G R)
  (hv:∀i n G (R:VK),ns[i]?=some n->Same H G->(∀G',Same G G'->R (D8 (M.getD i 0)) G')->tv (some (.str n)::r) G R)
  (q:∀σ G,Same H G->G D=some (.dK (bK M ns.length))->Q σ G):o9 (K9 0) V0 (Sk D tk tv) J (v0::r) (upd H D (.dK [])) Q:=by
 refine M9 as (fun i σ G=>(∃v,σ=v::r)/\Same H G/\G D=some (.dK (bK M i))) ⟨⟨_,rfl⟩,Same.new hD,A7⟩ (fun i σ G _ h=>h.2.1.at a) ?_ ?_
 .rintro i σ G v N hx ⟨⟨v0,rfl⟩,sG,eG⟩ hN;rw[AJ]at hx;obtain⟨n,hn,rfl⟩:=BU.mp hx;have li:=(AH.mp hn).1;refine Y4 (hk i n G _ hn sG (hv i n G _ hn sG fun G' s'=>?_));refine⟨bK M i,.inl ((2^i:Nat):Int),s' _ _ eG,rfl,by unfold bK;rw[AB,BW,sizeLine_eq];omega,hN _ _ ⟨⟨_,rfl⟩,(sG.trans s').upd hD,?_⟩⟩;rw[A7];unfold bK;rw[Oe (fun k=>(Sum.inl ((2^k:Nat):Int):Key)) (fun k=>D8 (M.getD k 0)) (N:=i+1) (fun a b _ _ e=>Qy (Sum.inl.inj e)) (FM i)]
 .rintro σ G ⟨_,sG,eG⟩;rw[AB]at eG;exact q σ G sG eG
theorem WebAt.smx{C M:Addr}{H H':Hp}{x w dx:Addr}{ns:List Str}{qs:List PA2}(h:WebAt C H w ns qs)(hx:H x=some (.ins M dx []))(s:Sm [x] H H'):WebAt C H' w ns qs:=by
 obtain⟨ok,dw,a,b,c,d,kc,kd,e1,e2,e3,e4,e5,e6,e7,e8⟩:=h;have k:∀{b:Addr} {o:HO},H b=some o->o≠ .ins M dx []->H' b=some o:=fun e n=>s _ _ e fun z=>n (by rw[AF.mp z,hx]at e;exact(BI e).symm);exact⟨ok,dw,a,b,c,d,kc,kd,k e1 (by unfold wf;intro z;cases z),k e2 (by intro z;cases z),k e3 (by intro z;cases z),fun q hq=>k (e4 q hq) (by intro z;cases z),k e5 (by intro z;cases z),k e6 (by intro z;cases z),fun n hn=>let⟨l,v,e⟩:=e7 n hn;⟨l,v,k e (by intro z;cases z)⟩,fun n hn=>let⟨l,v,e⟩:=e8 n hn;⟨l,v,k e (by intro z;cases z)⟩⟩
theorem Ey{qs:List PA2}{n y:Str}:y∈B7 qs n↔(n,y)∈(qs.map fun q=>q.2).map fun k=>(k.2,k.1):=by
 unfold B7;rw[CH,AI,AI];constructor
 .rintro⟨q,h,rfl⟩;obtain⟨h1,h2⟩:=B_.mp h;exact⟨q,h1,Prod.ext (BN h2) rfl⟩
 .rintro⟨q,h,e⟩;exact⟨q,B_.mpr ⟨h,AZ (congrArg Prod.fst e)⟩,congrArg Prod.snd e⟩
theorem Hl{qs:List PA2}{n y:Str}:y∈B6 qs n↔(n,y)∈qs.map fun q=>q.2:=by
 unfold B6;rw[AI,AI];constructor
 .rintro⟨q,h,rfl⟩;obtain⟨h1,h2⟩:=B_.mp h;exact⟨q,h1,Prod.ext (BN h2) rfl⟩
 .rintro⟨q,h,e⟩;exact⟨q,B_.mpr ⟨h,AZ (congrArg Prod.fst e)⟩,congrArg Prod.snd e⟩
theorem Hz{qs:List PA2}(h:(qs.map fun q=>q.2).Nodup)(n:Str):(B7 qs n).Nodup:=by
 unfold B7;refine BQ.mpr (HP (fun{a b} ha hb ne e=>ne ?_) ((BQ.mp h).sublist GJ));exact Prod.ext e ((BN (B_.mp ha).2).trans (BN (B_.mp hb).2).symm)
theorem Ox{qs:List PA2}(h:(qs.map fun q=>q.2).Nodup)(n:Str):(B6 qs n).Nodup:=by
 unfold B6;refine BQ.mpr (HP (fun{a b} ha hb ne e=>ne ?_) ((BQ.mp h).sublist GJ));exact Prod.ext ((BN (B_.mp ha).2).trans (BN (B_.mp hb).2).symm) e
def kbT(ns:List Str)(i:Nat):List (Key×V):=(List.range i).map fun k=>((Sum.inr (ns.getD k ""):Key),D8 (2^k))
theorem Ca{ns:List Str}{i:Nat}{n:Str}(h:ns[i]?=some n):ns.getD i "" = n:=by rw[AS,h];rfl
theorem Vo{ns:List Str}(nd:ns.Nodup):∀i j,i<ns.length->j<ns.length->(Sum.inr (ns.getD i ""):Key)=Sum.inr (ns.getD j "")->i=j:=fun i j hi hj e=>by
 have e:=Sum.inr.inj e;rw[Ca (AC hi),Ca (AC hj)]at e;exact Iq nd (AC hi) (by rw[AC hj,e])
theorem Iz{ns:List Str}(nd:ns.Nodup){i:Nat}{n:Str}(h:ns[i]?=some n):Q3 (kbT ns ns.length) (.inr n)=some (D8 (2^i)):=by
 have hi:=(AH.mp h).1;have:=Hj (fun k=>(Sum.inr (ns.getD k ""):Key)) (fun k=>D8 (2^k)) (Vo nd) ns.length (Nat.le_refl _) i hi;rw[AO hi]at this;rw[Ca h]at this;exact this
section
variable{P:Program}{w:World}{K:PySem.W.Frag}{mg:Str->Option Value}{base:Heap}
theorem Iw{G:Hp}{b l:Addr}{ns ys:List Str}{R:VK}(nd:ns.Nodup)(hb:G b=some (.dK (kbT ns ns.length)))(hl:G l=some (.lst (ys.map V.str)))(hm:∀y∈ys,y∈ns)(len:ys.length<=1000)(hR:∀G',Same G G'->R (.int ((((ys.map fun y=>ns.idxOf y).map fun k=>2^k).sum:Nat):Int)) G') :
  ∀D,G D=none->o9 (K9 0) V0 (o8 D (Zf (Y5 1) (Y5 0))) (Itl K l) [none,some (.ref b)] (upd G D (.lst [])) fun _ H2=>∃(p:Addr) (zs:List Int),[V.ref D] = [.ref p]/\SqL K H2 p (zs.map V.int)/\R (.int zs.sum) H2:=fun D hD=>by
 refine Ps (fun y=>D8 (2^ns.idxOf y)) (asL (SqL.of hl)) (fun _=>true) (by omega) hD (fun y hy G1 s1 M hM=>hM G1 fun b o e=>e) (fun y hy G1 s1 M hM=>?_) fun σ G1 s1 e1=>?_
 .exact ex1 rfl (ex1 rfl ⟨b,_,rfl,.inl ⟨_,.inr y,.inl (s1 _ _ hb),rfl,(Iz nd (Ei (hm y hy))).symm⟩,hM⟩)
 .rw[GI.mpr fun _ _=>rfl]at e1;refine⟨D,(ys.map fun y=>ns.idxOf y).map fun k=>((2^k:Nat):Int),rfl,SqL.of (by rw[e1,CH,CH];rfl),?_⟩;rw[Jq];exact hR G1 s1
theorem L8:FnScope ["self", "web", "bits"] ["self", "web"] (B4 s_Marks___init__):=fsc
def M7(CM CW:Addr):Sp:=fun vs H Q _=>∃(x dx wb:Addr) (ns:List Str) (qs:List PA2),vs = [.ref x,.ref wb]/\H x=some (.ins CM dx [])/\WebAt CW H wb ns qs /\
 ∀(c:Addr) (A B:List Nat) (L:Nat) H',H c=none->Sm [x] H H'->MarksAt CM H' x c ns A B L->MB ns ((qs.map fun q=>q.2).map fun k=>(k.2,k.1)) A->MB ns (qs.map fun q=>q.2) B->Q .non H'
set_option maxHeartbeats 4000000 in
theorem U0(T:Tx K mg):FnOk P w K mg base CX0 3 T.aQ T.aO ["self", "web"] (M7 T.aa T.ac):=by
 have G_Web_all_names:=O6 (P:=P) (w:=w) (base:=base) T;have G_Web_strikers:=t4 (P:=P) (w:=w) (base:=base) T;have G_Web_struck:=U3 (P:=P) (w:=w) (base:=base) T;have sc:=L8;refine T.bo.ok L8 (fun vs H Q E h=>?_) (fun cdv A outer s H vs Q E hr h=>?_)
 .obtain⟨x,dx,wb,ns,qs,rfl,_⟩:=h;rfl
 .obtain⟨x,dx,wb,ns,qs,rfl,hx,hW,q⟩:=h;have hu:=y6 hr;have okw:=hW.ok;have ln:=okw.len;have nd:=okw.nd;refine⟨_,(B0 (psF K (pv 0) (Jk (pv 1) T.am T.ao.m G_Web_all_names (Rm hr) T.ao.b .nil G6))
   (B0 (C5 (i:=2) sc.nd rfl (.inr rfl) (Nv (N':=["place", "name"]) (cap:=[none,none]) (cl:=[]) (J8 trivial trivial) rfl (piE K T.aE (A6 (peF K (pv 0)) A8)) (fun _ _ _ _=>by exact⟨(pgT K (n:=2) (B8 (pgC 0) (B8 (pgC 1) F1))),E1,(pv 1),(C4 zAi B1 (pv 0))⟩)))
   (B0 (psF K (pv 0) (F2 Xb T.be Do (A6 (Pc (pv 2)) A8)))
   (B0 (psF K (pv 0) (pv 2))
   (B0 (psF K (pv 0) (Nv (N':=["name", "bits", "web"]) (cap:=[none,some 2,some 1]) (cl:=[("web",_),("bits",_)]) (J8 ⟨⟨rfl,rfl,rfl,rfl⟩,⟨⟨rfl,rfl,rfl,rfl⟩,trivial⟩⟩ ⟨rfl,⟨rfl,trivial⟩⟩) rfl (piL K (peF K (pv 0))) (fun _ _ _ _=>by exact⟨(pgC 0),E1,(I9 hu (pv 1) (pv 0) (fun _ _=>rfl)),(F2 (Ir K) T.be Do (A6 (Q9 (N':=["one", "bits"]) (cap:=[none,some 1]) (cl:=[("bits",_)]) (J8 ⟨⟨rfl,rfl,rfl,rfl⟩,trivial⟩ ⟨rfl,trivial⟩) rfl (piL K (E4 (pv 2) T.am T.ax.m G_Web_strikers (Rm hr) T.ax.b .nil G6 (A6 (pv 0) A8))) (fun _ _ _ _=>by exact⟨(pgC 0),E1,(I9 hu (pv 1) (pv 0) (fun _ _=>rfl))⟩)) A8))⟩)))
   (B0 (psF K (pv 0) (Nv (N':=["name", "bits", "web"]) (cap:=[none,some 2,some 1]) (cl:=[("web",_),("bits",_)]) (J8 ⟨⟨rfl,rfl,rfl,rfl⟩,⟨⟨rfl,rfl,rfl,rfl⟩,trivial⟩⟩ ⟨rfl,⟨rfl,trivial⟩⟩) rfl (piL K (peF K (pv 0))) (fun _ _ _ _=>by exact⟨(pgC 0),E1,(I9 hu (pv 1) (pv 0) (fun _ _=>rfl)),(F2 (Ir K) T.be Do (A6 (Q9 (N':=["one", "bits"]) (cap:=[none,some 1]) (cl:=[("bits",_)]) (J8 ⟨⟨rfl,rfl,rfl,rfl⟩,trivial⟩ ⟨rfl,trivial⟩) rfl (piL K (E4 (pv 2) T.am T.av.m G_Web_struck (Rm hr) T.av.b .nil G6 (A6 (pv 0) A8))) (fun _ _ _ _=>by exact⟨(pgC 0),E1,(I9 hu (pv 1) (pv 0) (fun _ _=>rfl))⟩)) A8))⟩)))
   (B2 (psF K (pv 0) (F2 (Ir K) T.be Do (A6 (Q9 (N':=["bit", "self"]) (cap:=[none,some 0]) (cl:=[("self",_)]) (J8 ⟨⟨rfl,rfl,rfl,rfl⟩,trivial⟩ ⟨rfl,trivial⟩) rfl (zAe (Pc (pv 2))) (fun _ _ _ _=>by exact⟨(pgC 0),(Gx (ptV K (C4 S0 (pv 0) (I9 hu (peF K (pv 1)) (pv 0) (fun _ _=>rfl))))),(pv 0)⟩)) A8)))))))))),?_⟩
  have nin:∀{b:Addr},b≠x->b∉[x]:=fun h z=>h (AF.mp z);refine B3 fun Z1 hZ1=>?_;obtain⟨_,dw,_,_,_,_,_,_,ew,_⟩:=id hW;refine ex1 rfl ⟨wb,dw,ex1 rfl ⟨ew,rfl,wb,ns,qs,rfl,hW,fun l1 hl1=>?_⟩⟩;have nx1:x≠l1:=A9 hx hl1;refine ex1 rfl ⟨x,T.aa,dx,[],rfl,(B5 nx1).trans hx,T.ab,T.aA,by decide,?_⟩;have k1:Sm [x] H (upd (upd H l1 (.lst (ns.map V.str))) x (.ins T.aa dx (J4 "names" (.ref l1) []))):=(Sm.new (Sm.refl _ _) hl1).upd (by simp);have a1:(upd (upd H l1 (.lst (ns.map V.str))) x (.ins T.aa dx (J4 "names" (.ref l1) []))) l1=some (.lst (ns.map V.str)):=(B5 nx1.symm).trans A7;have x1:(upd (upd H l1 (.lst (ns.map V.str))) x (.ins T.aa dx (J4 "names" (.ref l1) []))) x=some (.ins T.aa dx [("names",.ref l1)]):=by rw[A7];rfl
  generalize upd (upd H l1 (.lst (ns.map V.str))) x (.ins T.aa dx (J4 "names" (.ref l1) []))=H1 at k1 a1 x1⊢;refine hZ1 _ _ (B3 fun Z2 hZ2=>?_);refine ex1 rfl ⟨x,T.aa,dx,_,ex1 rfl ⟨x1,T.ab,T.aA,rfl,l1,ex1 rfl ⟨SqL.of a1,fun b hb=>?_⟩⟩⟩;refine u9 (n:=ns.length) (fun i σ G=>(∃v0 v1,σ = [v0,v1])/\Same H1 G/\G b=some (.dK (kbT ns i))) ⟨⟨_,_,rfl⟩,Same.new hb,A7⟩ ?_ ?_ ?_ ?_
  .rintro i σ G hi ⟨_,sG,_⟩;exact⟨_,_,(sG.at l1).seqL (SqL.of a1),by rw[AJ,AC hi];rfl⟩
  .rintro σ G ⟨_,sG,_⟩;exact⟨_,(sG.at l1).seqL (SqL.of a1),by rw[AB]⟩
  .rintro i σ G y H' N hi ⟨⟨v0,v1,rfl⟩,sG,eG⟩ ⟨t,y,rfl,ht,rfl,hy⟩ hN;have hy:=hy _ ((sG.at l1).seqL (SqL.of a1));have hi':ns[i]?=some ns[i]:=AC hi;rw[AJ,hi']at hy;cases hy;refine⟨t,ex1 rfl ⟨SqT.of A7,rfl,_,ex1 rfl (C1 rfl rfl (Xu ?_))⟩⟩;refine ex1 rfl (ex1 rfl (C1 rfl rfl ⟨⟨by omega,by omega,by decide⟩,?_⟩));dsimp only;rw[zGh];have st:=sG.trans (Same.new (o:=.tup [.int i,.str ns[i]]) ht);refine⟨kbT ns i,.inr ns[i],(B5 (A9 eG ht)).trans eG,rfl,by unfold kbT;rw[AB,BW,sizeLine_eq];omega,hN _ _ ⟨⟨_,_,rfl⟩,st.upd hb,?_⟩⟩;rw[A7];have:=Oe (fun k=>(Sum.inr (ns.getD k ""):Key)) (fun k=>D8 (2^k)) (Vo nd) hi;rw[Ca hi']at this;exact congrArg (fun z=>some (HO.dK z)) this
  rintro σ2 H2 ⟨_,s2,b2⟩;have nxb:x≠b:=A9 x1 hb;have x2:=s2 _ _ x1;have a2:=s2 _ _ a1;have k2:=k1.trans s2.sm;refine hZ2 _ _ (B3 fun Z3 hZ3=>?_);refine ex1 rfl ⟨b,_,rfl,b2,fun v hv=>?_⟩;have sv:=Same.new (o:=Iy v b) hv;have fv:(upd H2 v (Iy v b)) v=some (Iy v b):=A7;generalize upd H2 v (Iy v b)=H2' at sv fv⊢;refine⟨v,b,kbT ns ns.length,(List.range ns.length).map fun k=>((2^k:Nat):Int),rfl,fv,sv _ _ b2,by unfold kbT;rw[CH,CH];rfl,?_⟩;rw[Js];have x2:=sv _ _ x2;have a2:=sv _ _ a2;have b2:=sv _ _ b2;have k2:=k2.trans sv.sm;refine ex1 rfl ⟨x,T.aa,dx,_,rfl,x2,T.ab,T.au,by simp,?_⟩;have k3:Sm [x] H2' (upd H2' x (.ins T.aa dx (J4 "full" (.int ((2^ns.length-1:Nat):Int)) [("names",.ref l1)]))):=(Sm.refl _ _).upd (by simp);have x3:(upd H2' x (.ins T.aa dx (J4 "full" (.int ((2^ns.length-1:Nat):Int)) [("names",.ref l1)]))) x=some (.ins T.aa dx [("names",.ref l1),("full",D8 (2^ns.length-1))]):=by rw[A7];rfl
  generalize upd H2' x (.ins T.aa dx (J4 "full" (.int ((2^ns.length-1:Nat):Int)) [("names",.ref l1)]))=H3 at k3 x3⊢;have a3:=k3 _ _ a2 (nin nx1.symm);have b3:=k3 _ _ b2 (nin nxb.symm);have k3:=k2.trans k3;refine hZ3 _ _ (B3 fun Z4 hZ4=>?_);refine ex1 rfl (ex1 rfl ⟨x,T.aa,dx,_,rfl,x3,T.ab,T.bd,by simp,?_⟩);have k4:Sm [x] H3 (upd H3 x (.ins T.aa dx (J4 "bit_of" (.ref b) [("names",.ref l1),("full",D8 (2^ns.length-1))]))):=(Sm.refl _ _).upd (by simp);have x4:(upd H3 x (.ins T.aa dx (J4 "bit_of" (.ref b) [("names",.ref l1),("full",D8 (2^ns.length-1))]))) x=some (.ins T.aa dx [("names",.ref l1),("full",D8 (2^ns.length-1)),("bit_of",.ref b)]):=by rw[A7];rfl
  generalize upd H3 x (.ins T.aa dx (J4 "bit_of" (.ref b) [("names",.ref l1),("full",D8 (2^ns.length-1))]))=H4 at k4 x4⊢;have a4:=k4 _ _ a3 (nin nx1.symm);have b4:=k4 _ _ b3 (nin nxb.symm);have k4:=k3.trans k4;refine hZ4 _ _ (B3 fun Z5 hZ5=>?_);have mA:=zBq (ns:=ns) (g:=B7 qs) (ks:=(qs.map fun q=>q.2).map fun k=>(k.2,k.1)) nd (fun n _=>Hz okw.ndq n) (fun n _ y=>Ey) fun k hk=>by
   rw[CH]at hk;obtain⟨q,hq,rfl⟩:=AI.mp hk;exact⟨(okw.mem q hq).2,(okw.mem q hq).1⟩
  have mB:=zBq (ns:=ns) (g:=B6 qs) (ks:=qs.map fun q=>q.2) nd (fun n _=>Ox okw.ndq n) (fun n _ y=>Hl) fun k hk=>by
   obtain⟨q,hq,rfl⟩:=AI.mp hk;exact okw.mem q hq
  have net:Net ns.length (ML ns (B7 qs)) (ML ns (B6 qs)):=MB.net mA mB;have W4:=hW.smx hx k4;have ins1:∀{n:Str} (y:Str),y∈B7 qs n->y∈ns:=fun y hy=>by
   obtain⟨q,hq,rfl⟩:=AI.mp hy;exact(okw.mem q (B_.mp hq).1).1
  have ins2:∀{n:Str} (y:Str),y∈B6 qs n->y∈ns:=fun y hy=>by
   obtain⟨q,hq,rfl⟩:=AI.mp hy;exact(okw.mem q (B_.mp hq).1).2
  have lq:=okw.lenq;have len1:∀n,(B7 qs n).length<=1000:=fun n=>by unfold B7;rw[AB];have:=DU (fun q:PA2=>decide (q.2.2=n)) qs;omega
  have len2:∀n,(B6 qs n).length<=1000:=fun n=>by unfold B6;rw[AB];have:=DU (fun q:PA2=>decide (q.2.1=n)) qs;omega
  refine ex1 rfl ⟨x,T.aa,dx,_,ex1 rfl ⟨x4,T.ab,T.aA,rfl,l1,rfl,⟨_,SqL.of a4⟩,fun c hc=>?_⟩⟩;refine Jr (asL (SqL.of a4)) (ML ns (B7 qs)) (by omega) hc (fun i n G R hn sG hR=>?_) (fun i n G R hn sG hR=>?_) fun σ5 H5 s5 c5=>?_
  .exact ex1 rfl (ex1 rfl ⟨b,_,rfl,.inl ⟨_,.inr n,.inl (sG _ _ b4),rfl,(Iz nd hn).symm⟩,hR⟩)
  .have WG:=W4.same sG;obtain⟨_,dw,_,_,_,_,_,_,ew,_⟩:=id WG;refine ex1 rfl ⟨wb,dw,ex1 rfl ⟨ew,rfl,ex1 rfl ⟨wb,n,ns,qs,rfl,WG,BJ hn,fun l hl=>?_⟩⟩⟩;have ul:=Same.new (o:=.lst ((B7 qs n).map V.str)) hl;refine⟨l,rfl,⟨_,SqL.of A7⟩,Iw nd (ul _ _ (sG _ _ b4)) A7 (fun y hy=>ins1 y hy) (len1 n) fun G' s'=>?_⟩;have:=hR G' (ul.trans s');rw[Yl hn]at this;exact this
  generalize ML ns (B7 qs)=A at mA net c5;have hc0:H c=none:=k4.none (nin (A9 x4 hc).symm) hc;have nxc:x≠c:=A9 x4 hc;have x5:=s5 _ _ x4;have a5:=s5 _ _ a4;have b5:=s5 _ _ b4;have bc:b≠c:=A9 b4 hc;have k5:=k4.trans s5.sm;refine ex1 rfl ⟨x,T.aa,dx,_,rfl,x5,T.ab,T.aw,by simp,?_⟩;have k6:Sm [x] H5 (upd H5 x (.ins T.aa dx (J4 "strikers_of" (.ref c) [("names",.ref l1),("full",D8 (2^ns.length-1)),("bit_of",.ref b)]))):=(Sm.refl _ _).upd (by simp);have x6:(upd H5 x (.ins T.aa dx (J4 "strikers_of" (.ref c) [("names",.ref l1),("full",D8 (2^ns.length-1)),("bit_of",.ref b)]))) x=some (.ins T.aa dx [("names",.ref l1),("full",D8 (2^ns.length-1)),("bit_of",.ref b),("strikers_of",.ref c)]):=by rw[A7];rfl
  generalize upd H5 x (.ins T.aa dx (J4 "strikers_of" (.ref c) [("names",.ref l1),("full",D8 (2^ns.length-1)),("bit_of",.ref b)]))=H6 at k6 x6⊢;have a6:=k6 _ _ a5 (nin nx1.symm);have b6:=k6 _ _ b5 (nin nxb.symm);have c6:=k6 _ _ c5 (nin nxc.symm);have k6:=k5.trans k6;have W6:=hW.smx hx k6;refine hZ5 _ _ (B3 fun Z6 hZ6=>?_);refine ex1 rfl ⟨x,T.aa,dx,_,ex1 rfl ⟨x6,T.ab,T.aA,rfl,l1,rfl,⟨_,SqL.of a6⟩,fun d hd=>?_⟩⟩;refine Jr (asL (SqL.of a6)) (ML ns (B6 qs)) (by omega) hd (fun i n G R hn sG hR=>?_) (fun i n G R hn sG hR=>?_) fun σ7 H7 s7 d7=>?_
  .exact ex1 rfl (ex1 rfl ⟨b,_,rfl,.inl ⟨_,.inr n,.inl (sG _ _ b6),rfl,(Iz nd hn).symm⟩,hR⟩)
  .have WG:=W6.same sG;obtain⟨_,dw,_,_,_,_,_,_,ew,_⟩:=id WG;refine ex1 rfl ⟨wb,dw,ex1 rfl ⟨ew,rfl,ex1 rfl ⟨wb,n,ns,qs,rfl,WG,BJ hn,fun l hl=>?_⟩⟩⟩;have ul:=Same.new (o:=.lst ((B6 qs n).map V.str)) hl;refine⟨l,rfl,⟨_,SqL.of A7⟩,Iw nd (ul _ _ (sG _ _ b6)) A7 (fun y hy=>ins2 y hy) (len2 n) fun G' s'=>?_⟩;have:=hR G' (ul.trans s');rw[Yl hn]at this;exact this
  generalize ML ns (B6 qs)=B at mB net d7;have nxd:x≠d:=A9 x6 hd;have x7:=s7 _ _ x6;have a7:=s7 _ _ a6;have b7:=s7 _ _ b6;have c7:=s7 _ _ c6;have dc:d≠c:=(A9 c6 hd).symm;have k7:=k6.trans s7.sm;refine ex1 rfl ⟨x,T.aa,dx,_,rfl,x7,T.ab,T.a2,by simp,?_⟩;have k8:Sm [x] H7 (upd H7 x (.ins T.aa dx (J4 "struck_of" (.ref d) [("names",.ref l1),("full",D8 (2^ns.length-1)),("bit_of",.ref b),("strikers_of",.ref c)]))):=(Sm.refl _ _).upd (by simp);have x8:(upd H7 x (.ins T.aa dx (J4 "struck_of" (.ref d) [("names",.ref l1),("full",D8 (2^ns.length-1)),("bit_of",.ref b),("strikers_of",.ref c)]))) x=some (.ins T.aa dx [("names",.ref l1),("full",D8 (2^ns.length-1)),("bit_of",.ref b),("strikers_of",.ref c),("struck_of",.ref d)]):=by rw[A7];rfl
  generalize upd H7 x (.ins T.aa dx (J4 "struck_of" (.ref d) [("names",.ref l1),("full",D8 (2^ns.length-1)),("bit_of",.ref b),("strikers_of",.ref c)]))=H8 at k8 x8⊢;have a8:=k8 _ _ a7 (nin nx1.symm);have b8:=k8 _ _ b7 (nin nxb.symm);have c8:=k8 _ _ c7 (nin nxc.symm);have d8:=k8 _ _ d7 (nin nxd.symm);have k8:=k7.trans k8;refine hZ6 _ _ ?_;refine ex1 rfl ⟨b,_,rfl,b8,fun v hv=>?_⟩;have sv:=Same.new (o:=Iy v b) hv;have fv:(upd H8 v (Iy v b)) v=some (Iy v b):=A7;generalize upd H8 v (Iy v b)=H9 at sv fv⊢;refine⟨v,b,_,rfl,fv,sv _ _ b8,fun o D hD=>?_⟩;have nDb:D≠b:=fun z=>by rw[z,A7]at hD;cases hD
  have kz:Sm [b] H9 (upd H9 b (.frz o (.dK (kbT ns ns.length)))):=(Sm.refl _ _).upd (by simp);have fz:(upd H9 b (.frz o (.dK (kbT ns ns.length)))) b=some (.frz o (.dK (kbT ns ns.length))):=A7;have hb0:H b=none:=k1.none (nin nxb.symm) hb;have kx:Sm [x] H (upd H9 b (.frz o (.dK (kbT ns ns.length)))):=(k8.trans sv.sm).updN hb0;have nb:∀{b':Addr},b'≠b->b'∉[b]:=fun h z=>h (AF.mp z);have nab:l1≠b:=A9 a1 hb;have x9:=kz _ _ (sv _ _ x8) (nb nxb);have a9:=kz _ _ (sv _ _ a8) (nb nab);have c9:=kz _ _ (sv _ _ c8) (nb bc.symm);have nbd:d≠b:=(A9 b6 hd).symm;have d9:=kz _ _ (sv _ _ d8) (nb nbd);generalize upd H9 b (.frz o (.dK (kbT ns ns.length)))=H10 at kz fz kx hD x9 a9 c9 d9⊢;have lb:(kbT ns ns.length).length=ns.length:=by unfold kbT;rw[AB,BW]
  refine u9 (n:=ns.length) (fun i σ G=>(∃v0,σ = [v0,some (.ref x)])/\Same H10 G/\G D=some (.lst (((List.range i).filter fun k=>(A.getD k 0).testBit k).map fun k=>D8 (2^k)))) ⟨⟨_,rfl⟩,Same.new hD,A7⟩ ?_ ?_ ?_ ?_
  .rintro i σ G hi ⟨_,sG,_⟩;exact⟨sG _ _ fz,by rw[lb];exact hi⟩
  .rintro σ G ⟨_,sG,_⟩;exact⟨sG _ _ fz,by rw[lb];exact Nat.le_refl _⟩
  .rintro i σ G y H' N hi ⟨⟨v0,rfl⟩,sG,eG⟩ ⟨rfl,k,hk⟩ hN;unfold kbT at hk;rw[AJ,List.getElem?_range hi]at hk;obtain⟨_,rfl⟩:=Prod.mk.inj (BI hk);refine ex1 rfl (ex1 rfl ⟨x,T.aa,dx,_,ex1 rfl ⟨sG _ _ x9,T.ab,T.aw,rfl,ex1 rfl ⟨c,_,rfl,.inl ⟨_,.inl ((2^i:Nat):Int),.inl (sG _ _ c9),rfl,(Ic A hi).symm⟩,C1 rfl rfl ⟨_,rfl,?_⟩⟩⟩⟩);dsimp only;rw[Gd];have hl:=DU (fun k=>(A.getD k 0).testBit k) (List.range i);rw[BW]at hl;refine g9 (fun z=>ex1 rfl ⟨_,eG,by rw[AB,sizeLine_eq];omega,hN _ _ ⟨⟨_,rfl⟩,sG.upd hD,?_⟩⟩) (fun z=>hN _ _ ⟨⟨_,rfl⟩,sG,?_⟩)
   .rw[A7,EF,FR,EV,AO z,AL];rfl
   .rw[EF,FR,EV,AK z,List.filter_nil,DA];exact eG
  rintro σ11 H11 ⟨_,s11,e11⟩;generalize hLl:(List.range ns.length).filter (fun k=>(A.getD k 0).testBit k)=Ll at e11;refine⟨D,Ll.map fun k=>((2^k:Nat):Int),rfl,SqL.of (by rw[e11,CH];rfl),?_⟩;rw[Jq];have hL:∀j,((Ll.map fun k=>2^k).sum).testBit j=true↔(A.getD j 0).testBit j=true:=fun j=>by
   rw[Fz (by rw[<-hLl];exact GJ.nodup HC),<-hLl,B_,BV];exact⟨(·.2),fun h=>⟨(net.lt j j ((net.tr j j).mp h)).1,h⟩⟩
  generalize (Ll.map fun k=>2^k).sum=L at hL;have x11:=s11 _ _ x9;refine ex1 rfl ⟨x,T.aa,dx,_,rfl,x11,T.ab,T.aX,by simp,?_⟩;have k12:Sm [x] H11 (upd H11 x (.ins T.aa dx (J4 "loops" (.int (L:Int)) [("names",.ref l1),("full",D8 (2^ns.length-1)),("bit_of",.ref b),("strikers_of",.ref c),("struck_of",.ref d)]))):=(Sm.refl _ _).upd (by simp);have x12:(upd H11 x (.ins T.aa dx (J4 "loops" (.int (L:Int)) [("names",.ref l1),("full",D8 (2^ns.length-1)),("bit_of",.ref b),("strikers_of",.ref c),("struck_of",.ref d)]))) x=some (.ins T.aa dx (mf l1 b c d ns.length L)):=by rw[A7];rfl
  generalize upd H11 x (.ins T.aa dx (J4 "loops" (.int (L:Int)) [("names",.ref l1),("full",D8 (2^ns.length-1)),("bit_of",.ref b),("strikers_of",.ref c),("struck_of",.ref d)]))=H12 at k12 x12⊢;refine q c A B L H12 hc0 ((kx.trans s11.sm).trans k12) ⟨⟨dx,l1,b,d,kbT ns ns.length,x12,k12 _ _ (s11 _ _ a9) (nin nx1.symm),.inr ⟨o,k12 _ _ (s11 _ _ fz) (nin nxb.symm)⟩,fun i n h=>Iz nd h,.inl (k12 _ _ (s11 _ _ c9) (nin nxc.symm)),k12 _ _ (s11 _ _ d9) (nin nxd.symm),dc,bc⟩,net,nd,ln,hL⟩ mA mB
end
structure LLn(H0 H:Hp)(ts:List (Addr×List Str)):Prop where
 at_:∀t∈ts,H t.1=some (.lst (t.2.map V.str))
 nd:(ts.map fun t=>t.1).Nodup
 new:∀t∈ts,H0 t.1=none
theorem Ii{J:It}{l D:Addr}{H:Hp}{ns:List Str}{Ms:List Nat}{r:St}{v0:Option V}{te:TE}{Q:St->Hp->Prop}(as:AsSeq J (Ms.map D8) l H)(len:Ms.length<=5000)(hD:H D=none)
  (step:∀m G (R:VK),Same H G->(∀z G',G z=none->Same G G'->G' z=some (.lst ((setOf ns m).map V.str))->R (.ref z) G')->te (some (D8 m)::r) G R)
  (q:∀σ G (ts:List (Addr×List Str)),Same H G->G D=some (.lst (ts.map fun t=>V.ref t.1))->LLn H G ts->(∀t∈ts,t.1≠D)->(ts.map fun t=>t.2)=Ms.map (setOf ns)->Q σ G):o9 (K9 0) V0 (o8 D te) J (v0::r) (upd H D (.lst [])) Q:=by
 refine M9 as (fun i σ G=>(∃v,σ=v::r)/\Same H G/\∃ts:List (Addr×List Str),G D=some (.lst (ts.map fun t=>V.ref t.1))/\LLn H G ts/\(∀t∈ts,t.1≠D)/\(ts.map fun t=>t.2) =(Ms.take i).map (setOf ns)) ⟨⟨_,rfl⟩,Same.new hD,[],A7,⟨fun t h=>absurd h BD,GM,fun t h=>absurd h BD⟩,fun t h=>absurd h BD,rfl⟩ (fun i σ G _ h=>h.2.1.at l) ?_ ?_
 .rintro i σ G y N hx ⟨⟨v0,rfl⟩,sG,ts,eG,LG,nG,mG⟩ hN;rw[AJ]at hx;obtain⟨m,hm,rfl⟩:=BU.mp hx;have li:=(AH.mp hm).1;have lt:ts.length=i:=by
   have:=congrArg List.length mG;rw[AB,AB,AY]at this;omega
  refine Y4 (step m G _ sG fun z G' hz s' ez=>?_);have nz:z≠D:=(A9 eG hz).symm;refine⟨_,s' _ _ eG,by rw[AB,sizeLine_eq];omega,hN _ _ ⟨⟨_,rfl⟩,(sG.trans s').upd hD,ts ++ [(z,setOf ns m)],?_,⟨fun t ht=>?_,?_,fun t ht=>?_⟩,fun t ht=>?_,?_⟩⟩
  .rw[A7,AL];rfl
  .rcases AU.mp ht with h | h
   .rw[B5 (nG t h)];exact s' _ _ (LG.at_ t h)
   .rw[AF.mp h,B5 nz];exact ez
  .rw[AL];refine GC.mpr ⟨LG.nd,EH _ _,fun a ha b hb e=>?_⟩;obtain⟨t,ht,rfl⟩:=AI.mp ha;rw[FS,AF]at hb;rw[hb]at e;have:=LG.at_ t ht;rw[e,hz]at this;cases this
  .rcases AU.mp ht with h | h
   .exact LG.new t h
   .rw[AF.mp h];exact sG.free hz
  .rcases AU.mp ht with h | h
   .exact nG t h
   .rw[AF.mp h];exact nz
  .rw[AL,mG,take_succ hm,AL];rfl
 .rintro σ G ⟨_,sG,ts,eG,LG,nG,mG⟩;rw[AB,DB]at mG;exact q σ G ts sG eG LG nG mG
section
variable{P:Program}{w:World}{K:PySem.W.Frag}{mg:Str->Option Value}{base:Heap}
def i8(CW CT f:Addr)(Tg:Tgt):Sp:=fun vs H Q E=>∃(wb:Addr) (ns:List Str) (qs:List PA2),vs = [.ref wb,.ref f,.bl false]/\WebAt CW H wb ns qs/\ns.length<=12 /\
 ∀(A B Ms:List Nat),MB ns ((qs.map fun q=>q.2).map fun k=>(k.2,k.1)) A->MB ns (qs.map fun q=>q.2) B->Ms.Nodup->(∀m,m∈Ms↔Tg ns.length A B m) ->
  (∀r (ts:List (Addr×List Str)) H',Ms.length<=300->Same H H'->H r=none->H' r=some (.lst (ts.map fun t=>V.ref t.1))->LLn H H' ts->(∀t∈ts,t.1≠r)->(ts.map fun t=>t.2).Perm (Ms.map (setOf ns))->ts.Pairwise (fun a b=>TS.lexB (TS.kyS b.2) (TS.kyS a.2)=false)->Q (.ref r) H')/\(300<Ms.length->ThrownS CT [] H E)
theorem K4:FnScope ["web", "settle", "greatest", "marks", "found"] ["web", "settle", "greatest"] (B4 s_all_found):=fsc
set_option maxHeartbeats 4000000 in
theorem P8(T:Tx K mg){f:Addr}{Tg:Tgt}(tl:∀n A B m,Tg n A B m->Low n m)(tq:∀n A B m,Tg n A B m->Ez B m){g:Nat}(hg:3<=g)(G_gather:FnOk P w K mg base (CXe P w) (g+1) T.aj.f T.aj.fd ["marks", "settle", "greatest", "chosen", "barred", "found"] (V3 T.aa T.ae f Tg 12)) :
  FnOk P w K mg base (CXe P w) (g+2) T.ah.f T.ah.fd ["web", "settle", "greatest"] (i8 T.ac T.ae f Tg):=by
 have G_Marks___init__:FnOk P w K mg base CX0 g T.aQ T.aO ["self", "web"] (M7 T.aa T.ac):=(U0 T).mono hg;have G_Marks_names_in:FnOk P w K mg base CX0 (g+1) T.ag.f T.ag.fd ["self", "some"] (S8 T.aa):=(L7 T).mono (by omega);have sc:=K4;refine T.ah.F.okE K4 (fun vs H Q E h=>?_) (fun cdv A outer s H vs Q E hr h=>?_)
 .obtain⟨wb,ns,qs,rfl,_⟩:=h;rfl
 .obtain⟨wb,ns,qs,rfl,hW,ln,q⟩:=h;refine⟨_,(B0 (C5 (i:=3) sc.nd rfl (.inr rfl) (Gs T.br G_Marks___init__ (hr.mono (Nat.le_refl _)) rfl T.bq T.a4 .nil G6 (A6 (pv 0) A8)))
   (B0 (C5 (i:=4) sc.nd rfl (.inl rfl) (D0 A8))
   (B0 (D9 (J2 cxE.bx T.aj G_gather (hr.mono (Nat.le_refl _)) (@A6 _ _ _ _ _ (pv 3) (@A6 _ _ _ _ _ (pv 1) (@A6 _ _ _ _ _ (pv 2) (@A6 _ _ _ _ _ B1 (@A6 _ _ _ _ _ (peF K (pv 3)) (@A6 _ _ _ _ _ (pv 4) A8 (by rfl)) (by rfl)) (by rfl)) (by rfl)) (by rfl)) (by rfl))))
   (B2 (C0 (F2 (Jl K hr.units) T.aP M0 (A6 (Q9 (N':=["some", "marks"]) (cap:=[none,some 3]) (cl:=[("marks",_)]) (J8 ⟨⟨rfl,rfl,rfl,rfl⟩,trivial⟩ ⟨rfl,trivial⟩) rfl (piL K (pv 4)) (fun _ _ _ _=>by exact⟨(pgC 0),E1,(E4 (pv 1) T.ab T.ag.m G_Marks_names_in (hr.mono (Nat.le_refl _)) T.ag.b .nil G6 (A6 (pv 0) A8))⟩)) A8))))))),?_⟩
  refine B3 fun N1 hN1=>?_;refine ex1 rfl ?_;intro x dx nx ndx nex;have s0:Same H (upd (upd H dx (.own x)) x (.ins T.aa dx [])):=fun b o e=>by
   rw[B5 (A9 e nx),B5 (A9 e ndx)];exact e
  refine⟨x,dx,wb,ns,qs,rfl,A7,hW.same s0,fun c A B L H1 hc k1 M1 mA mB=>⟨rfl,?_⟩⟩;have s1:Same H H1:=fun b o e=>k1 b o (s0 b o e) (by simpa using A9 e nx);have hcn:H c=none:=s0.free hc;refine hN1 _ _ (B3 fun N2 hN2=>?_);refine⟨CD _,fun l hl=>?_⟩;have ul:=Same.new (o:=.lst []) hl;have fl:(upd H1 l (.lst [])) l=some (.lst (([]:List Nat).map D8)):=A7;have hln:H l=none:=s1.free hl;have R2:MarksAt T.aa (er (upd H1 l (.lst [])) l) x c ns A B L:=M1.same fun b o e=>by
   have:b≠l:=A9 e hl;rw[o7 this,B5 this];exact e
  generalize upd H1 l (.lst [])=H2 at ul fl R2⊢;have s2:=s1.trans ul;have M2:=R2.same (K0 H2 l);obtain⟨Ms,ndM,mM⟩:=Fv (n:=ns.length) (fun m=>Tg ns.length A B m) fun m h=>tl _ _ _ _ h;obtain⟨q1,q2⟩:=q A B Ms mA mB ndM mM;have fitz:∀m,Tg ns.length A B m/\Fits 0 L m↔Tg ns.length A B m:=fun m=>⟨(·.1),fun h=>⟨h,fun j z=>(by rw[EW]at z;cases z),fun j z y=>tq _ _ _ _ h j j z z ((M2.net.tr j j).mp ((M2.loops j).mp y))⟩⟩;refine hN2 _ _ (B3 fun N3 hN3=>?_);obtain⟨dx',a,b,d,kb,e1,_⟩:=M2.ex;refine ex1 rfl (ex1 rfl (ex1 rfl (ex1 rfl ⟨x,T.aa,dx',_,ex1 rfl ⟨e1,T.ab,T.aX,rfl,ex1 rfl ⟨x,c,l,ns,A,B,L,0,L,[],rfl,R2,Low.zero _,fun j hj=>(M2.net.lt j j ((M2.net.tr j j).mp ((M2.loops j).mp hj))).1,Nat.le_trans List.countP_le_length (by rw[BW];exact ln),fl,by decide,fun Ls ndL mL=>⟨fun H3 le3 k3 R3 el3=>?_,fun gt=>?_⟩⟩⟩⟩)))
  .have pm:Ls.Perm Ms:=(FT ndL ndM).mpr fun m=>by rw[mL,mM,fitz]
   rw[GS]at el3;rw[GR,D_]at le3;have M3:=R3.same (K0 H3 l);have s3:Same H H3:=fun b o e=>k3 b o (s2 b o e) (by
    intro z;rcases AV.mp z with rfl | z
    .rw[hcn]at e;cases e
    .rw[AF.mp z,hln]at e;cases e)
   refine hN3 _ _ ?_;refine ex1 rfl ⟨l,rfl,⟨_,SqL.of el3⟩,fun D hD=>?_⟩;refine Ii (ns:=ns) (asL (SqL.of el3)) (by omega) hD (fun m G R sG hR=>?_) fun σ' G ts sG eG LG nG mG=>?_
   .have MG:=M3.same sG;obtain⟨dx',a,b,d,kb,e1,_⟩:=MG.ex;exact ex1 rfl ⟨x,dx',ex1 rfl ⟨e1,rfl,ex1 rfl ⟨x,c,ns,A,B,L,m,rfl,MG,fun z G' hz s' ez=>hR z G' hz s' ez⟩⟩⟩
   .refine⟨D,ts,rfl,SqL.of eG,LG.at_,fun r ts' hr0 pt srt=>?_⟩;have ur:=Same.new (o:=.lst (ts'.map fun t=>V.ref t.1)) hr0;have hrn:H r=none:=(s3.trans sG).free hr0;refine q1 r ts' _ (by rw[<-pm.length_eq];exact le3) ((s3.trans sG).trans ur) hrn A7 ⟨fun t ht=>ur _ _ (LG.at_ t (pt.mem_iff.mp ht)),(pt.map _).nodup_iff.mpr LG.nd,fun t ht=>s3.free (LG.new t (pt.mem_iff.mp ht))⟩ (fun t ht=>A9 (LG.at_ t (pt.mem_iff.mp ht)) hr0) ?_ srt;refine(pt.map fun t=>t.2).trans ?_;rw[mG];exact pm.map _
  .rw[GR,D_]at gt;have pm:Ls.Perm Ms:=(FT ndL ndM).mpr fun m=>by rw[mL,mM,fitz]
   have:=q2 (by rw[<-pm.length_eq];exact gt);intro H' z k e;refine this H' z (fun b o eb _=>k b o (s2 b o eb) fun y=>?_) e;rcases AV.mp y with rfl | y
   .rw[hcn]at eb;cases eb
   .rw[AF.mp y,hln]at eb;cases eb
def Gp(CW CT:Addr)(Tg:Tgt):Sp:=fun vs H Q E=>∃(wb:Addr) (ns:List Str) (qs:List PA2),vs = [.ref wb]/\WebAt CW H wb ns qs/\ns.length<=12 /\
 ∀(A B Ms:List Nat),MB ns ((qs.map fun q=>q.2).map fun k=>(k.2,k.1)) A->MB ns (qs.map fun q=>q.2) B->Ms.Nodup->(∀m,m∈Ms↔Tg ns.length A B m) ->
  (∀r (ts:List (Addr×List Str)) H',Ms.length<=300->Same H H'->H r=none->H' r=some (.lst (ts.map fun t=>V.ref t.1))->LLn H H' ts->(∀t∈ts,t.1≠r)->(ts.map fun t=>t.2).Perm (Ms.map (setOf ns))->ts.Pairwise (fun a b=>TS.lexB (TS.kyS b.2) (TS.kyS a.2)=false)->Q (.ref r) H')/\(300<Ms.length->ThrownS CT [] H E)
theorem U9:FnScope ["web"] ["web"] (B4 s_whole_sets):=fsc
theorem V1(T:Tx K mg):FnOk P w K mg base (CXe P w) 20 T.aM.f T.aM.fd ["web"] (Gp T.ac T.ae G8):=by
 have G_all_found:FnOk P w K mg base (CXe P w) 19 T.ah.f T.ah.fd ["web", "settle", "greatest"] (i8 T.ac T.ae T.ak.f G8) :=
  P8 T (fun _ _ _ _ h=>h.1.1) (fun _ _ _ _ h=>h.1.2.1) (g:=17) (by decide) (T2 T (fun _ _ _ _ h=>h.1.1) (P1 T) T.ak.F.kp T.ak.b (by decide) 12)
 have sc:=U9;refine T.aM.F.okE U9 (fun vs H Q E h=>?_) (fun cdv A outer s H vs Q E hr h=>?_)
 .obtain⟨wb,ns,qs,rfl,_⟩:=h;rfl
 .obtain⟨wb,ns,qs,rfl,hW,ln,q⟩:=h;refine⟨_,(B2 (C0 (J2 cxE.bx T.ah G_all_found (Rm hr) (A6 (pv 0) (A6 (Y6 T.ak.m) (A6 U8 A8)))))),?_⟩;exact ex1 rfl ⟨wb,ns,qs,rfl,hW,ln,q⟩
theorem O4:FnScope ["web"] ["web"] (B4 s_standing_sets):=fsc
theorem e9(T:Tx K mg):FnOk P w K mg base (CXe P w) 20 T.aI.f T.aI.fd ["web"] (Gp T.ac T.ae K2):=by
 have G_all_found:FnOk P w K mg base (CXe P w) 19 T.ah.f T.ah.fd ["web", "settle", "greatest"] (i8 T.ac T.ae T.af.f K2) :=
  P8 T (fun _ _ _ _ h=>h.1) (fun _ _ _ _ h=>h.2.1) (g:=17) (by decide) ((T2 T (fun _ _ _ _ h=>h.1) (Es T) T.af.F.kp T.af.b (by decide) 12).mono (by decide))
 have sc:=O4;refine T.aI.F.okE O4 (fun vs H Q E h=>?_) (fun cdv A outer s H vs Q E hr h=>?_)
 .obtain⟨wb,ns,qs,rfl,_⟩:=h;rfl
 .obtain⟨wb,ns,qs,rfl,hW,ln,q⟩:=h;refine⟨_,(B2 (C0 (J2 cxE.bx T.ah G_all_found (Rm hr) (A6 (pv 0) (A6 (Y6 T.af.m) (A6 U8 A8)))))),?_⟩;exact ex1 rfl ⟨wb,ns,qs,rfl,hW,ln,q⟩
theorem O1:FnScope ["web"] ["web"] (B4 s_outright_sets):=fsc
theorem f9(T:Tx K mg):FnOk P w K mg base (CXe P w) 20 T.aK.f T.aK.fd ["web"] (Gp T.ac T.ae OutM):=by
 have G_all_found:FnOk P w K mg base (CXe P w) 19 T.ah.f T.ah.fd ["web", "settle", "greatest"] (i8 T.ac T.ae T.al.f OutM) :=
  P8 T (fun _ _ _ _ h=>h.1) (fun _ _ _ _ h=>h.2.1) (g:=17) (by decide) (T2 T (fun _ _ _ _ h=>h.1) (U6 T) T.al.F.kp T.al.b (by decide) 12)
 have sc:=O1;refine T.aK.F.okE O1 (fun vs H Q E h=>?_) (fun cdv A outer s H vs Q E hr h=>?_)
 .obtain⟨wb,ns,qs,rfl,_⟩:=h;rfl
 .obtain⟨wb,ns,qs,rfl,hW,ln,q⟩:=h;refine⟨_,(B2 (C0 (J2 cxE.bx T.ah G_all_found (Rm hr) (A6 (pv 0) (A6 (Y6 T.al.m) (A6 U8 A8)))))),?_⟩;exact ex1 rfl ⟨wb,ns,qs,rfl,hW,ln,q⟩
end
def pB(p:Prop):Bool:=@decide p (Classical.propDecidable p)
theorem pB_iff{p:Prop}:pB p=true↔p:=@CJ p (Classical.propDecidable p)
theorem zEr{p:Prop}{b:Bool}(h:b=true↔p):b=pB p:=C_.mpr (h.trans pB_iff.symm)
theorem Xa(x y:Nat):decide (V.int (Builtin.bitAnd (x:Int) (y:Int))=V.int (x:Int))=true↔Sub x y:=by
 rw[CJ,Ze];constructor
 .intro e j hj;have e:x &&& y=x:=by have:=V.int.inj e;omega
  rw[<-e,DY,BG]at hj;exact hj.2
 .intro h;have e:x &&& y=x:=CN fun j=>by
   rw[DY,C_,BG];exact⟨(·.1),fun z=>⟨z,h j z⟩⟩
  rw[e]
theorem Bh{H G:Hp}{l:Addr}(s:Same H G):Same (er H l) (er G l):=fun b o e=>by
 have:b≠l:=fun z=>by subst z;unfold er at e;rw[AO rfl]at e;cases e
 rw[o7 this]at e⊢;exact s b o e
def MaxM(Tg:Tgt):Tgt:=fun n A B m=>Tg n A B m/\∀m',Tg n A B m'->Sub m m'->m'=m
theorem MaxM.anti{Tg:Tgt}{n:Nat}{A B:List Nat}{a b:Nat}(ha:MaxM Tg n A B a)(hb:MaxM Tg n A B b)(s:Sub a b):a=b:=(ha.2 b hb.1 s).symm
section
variable{P:Program}{w:World}{K:PySem.W.Frag}{mg:Str->Option Value}{base:Heap}
def Q2(C f:Addr)(Tg:Tgt)(k:Nat):Sp:=fun vs H Q _=>∃(x c l:Addr) (ns:List Str) (A B:List Nat) (L ch ba:Nat) (fs:List Nat),vs = [.ref x,.ref f,.bl true,.int (ch:Int),.int (ba:Int),.ref l]/\MarksAt C (er H l) x c ns A B L/\(∀l:List Nat,l.Nodup->(∀m∈l,MaxM Tg ns.length A B m)->l.length<=300)/\Low ns.length ch/\Low ns.length ba/\und ns.length ch ba<=k/\H l=some (.lst (fs.map D8)) /\
 fs.Nodup/\(∀g∈fs,MaxM Tg ns.length A B g)/\(∀g∈fs,∀m,Fits ch ba m->¬Sub g m)/\(∀m,Tg ns.length A B m->¬Fits ch ba m->(∃g∈fs,Sub m g)\/∀c,Fits ch ba c->¬Sub c m) /\
 ∀(Ls:List Nat) H',Sm [c,l] H H'->MarksAt C (er H' l) x c ns A B L->H' l=some (.lst ((fs++Ls).map D8))->(fs++Ls).Nodup->(∀m∈Ls,MaxM Tg ns.length A B m/\Fits ch ba m)->(∀m,Tg ns.length A B m->Fits ch ba m->∃g∈fs++Ls,Sub m g)->Q .non H'
set_option maxHeartbeats 4000000 in
theorem n6(T:Tx K mg){f:Addr}{fd:FuncData}{Tg:Tgt}{n k:Nat}{S:Sp}(tl:∀n A B m,Tg n A B m->Low n m)(G_settle:FnOk P w K mg base CX0 n f fd ["marks", "chosen", "barred"] (J5 T.aa Tg))(hk_settle:PySem.W.keepIn K (.ref f)=true)(hb_settle:Binds K fd ["marks", "chosen", "barred"] [])
  (h1:1<=n) (G_gather:FnOk P w K mg base (CXe P w) n T.aj.f T.aj.fd ["marks", "settle", "greatest", "chosen", "barred", "found"] S) (hS:∀k',k=k'+1->S=Q2 T.aa f Tg k') :
  FnOk P w K mg base (CXe P w) (n+1) T.aj.f T.aj.fd ["marks", "settle", "greatest", "chosen", "barred", "found"] (Q2 T.aa f Tg k):=by
 have G_first_bit:FnOk P w K mg base CX0 n T.ar.f T.ar.fd ["some"] Ce:=(X8 T).mono h1;have sc:=U5;refine T.aj.F.okE U5 (fun vs H Q E h=>?_) (fun cdv A outer s H vs Q E hr h=>?_)
 .obtain⟨x,c,l,ns,A,B,L,ch,ba,fs,rfl,_⟩:=h;rfl
 .obtain⟨x,c,l,ns,A,B,L,ch,ba,fs,rfl,hR,ln,loc,lob,hu,el,an,lof,nof,rst,q⟩:=h;have hM:=hR.same (K0 H l);have lf:=ln fs an lof;refine⟨_,(B0 (X5 (Ji (i:=1) G_settle (hr.mono (Nat.le_refl _)) hk_settle hb_settle G6 (A6 (pv 0) (A6 (pv 3) (A6 (pv 4) A8)))) (pgT K (n:=2) (B8 (C3 (i:=3) sc.nd rfl (.inl rfl)) (B8 (C3 (i:=4) sc.nd rfl (.inl rfl)) F1))))
   (B0 (F4 (ptV K (C4 S0 (pv 3) (pv 4))) (B2 W9) C7)
   (B0 (C5 (i:=6) sc.nd rfl (.inl rfl) (C4 Bb (peF K (pv 0)) (C4 W7 (pv 3) (pv 4))))
   (B0 (C5 (i:=7) sc.nd rfl (.inr rfl) (C4 W7 (pv 3) (pv 6)))
   (B0 (F4 (PW.pt (Oh (J6 (pv 2)) (Ha (J6 (F2 (Ui K) T.bL Uu (A6 (Q9 (N':=["one", "most"]) (cap:=[none,some 7]) (cl:=[("most",_)]) (J8 ⟨⟨rfl,rfl,rfl,rfl⟩,trivial⟩ ⟨rfl,trivial⟩) rfl (piL K (pv 5)) (fun _ _ _ _=>by exact⟨(pgC 0),E1,(S7 d6 (C4 S0 (pv 1) (pv 0)) (pv 1) (F0 _))⟩)) A8)))))) (B2 W9) C7)
   (B0 (F4 (S3 (ptV K (pv 6))) (B0 (F4 (D4 d6 (F2 (t6 K) T.aU X6 (A6 (pv 5) A8)) (Ws T.bH) (F0 _)) (B2 (Ew cxE.bx T.a9 T.bn rfl T.ba (A6 F3 A8))) C7)
   (B0 (D9 (Ra K PySem.F.plainAttrs_list PySem.F.slot_list_append PySem.F.type_list_append E8 (pv 5) (A6 (pv 3) A8)))
   (B2 W9))) C7)
   (B0 (C5 (i:=8) sc.nd rfl (.inl rfl) (G9 T.ar G_first_bit (hr.mono (Nat.le_refl _)) (A6 (pv 6) A8)))
   (B0 (D9 (J2 cxE.bx T.aj G_gather (hr.mono (Nat.le_refl _)) (@A6 _ _ _ _ _ (pv 0) (@A6 _ _ _ _ _ (pv 1) (@A6 _ _ _ _ _ (pv 2) (@A6 _ _ _ _ _ (C4 W7 (pv 3) (pv 8)) (@A6 _ _ _ _ _ (pv 4) (@A6 _ _ _ _ _ (pv 5) A8 (by rfl)) (by rfl)) (by rfl)) (by rfl)) (by rfl)) (by rfl))))
   (B2 (D9 (J2 cxE.bx T.aj G_gather (hr.mono (Nat.le_refl _)) (@A6 _ _ _ _ _ (pv 0) (@A6 _ _ _ _ _ (pv 1) (@A6 _ _ _ _ _ (pv 2) (@A6 _ _ _ _ _ (pv 3) (@A6 _ _ _ _ _ (C4 W7 (pv 4) (pv 8)) (@A6 _ _ _ _ _ (pv 5) A8 (by rfl)) (by rfl)) (by rfl)) (by rfl)) (by rfl)) (by rfl))))))))))))),?_⟩
  refine B3 fun N1 hN1=>?_;refine⟨rfl,ex1 rfl (ex1 rfl (ex1 rfl ⟨x,c,ns,A,B,L,ch,ba,rfl,hM,loc,lob,fun t c1 b1 H1 k1 M1 et lo1 lo2 sub1 sub2 snd cpl=>?_⟩))⟩;refine⟨t,_,rfl,SqT.of et,rfl,_,_,rfl,_,_,rfl,rfl,?_⟩;have nlc:l≠c:=let⟨_,_,_,_,_,_,_,_,_,e5,_⟩:=hM.ex;Uc e5 el (fun _ z=>by cases z) fun _ _ z=>by cases z
  have el1:=Sm1 k1 el nlc;have R1:=hR.er k1 M1 nlc;have k1:Sm [c,l] H H1:=fun b o e nb=>k1 b o e fun z=>nb (AV.mpr (.inl (AF.mp z)));have none:∀G,Sm [c,l] H G->MarksAt T.aa (er G l) x c ns A B L->G l=some (.lst (fs.map D8))->(∀m,Tg ns.length A B m->Fits ch ba m->∃g∈fs,Sub m g)->Q .non G:=fun G kG RG eG h=>q [] G kG RG (by rw[DA];exact eG) (by rw[DA];exact an) (fun m z=>absurd z BD) (by rw[DA];exact h);refine hN1 _ _ (B3 fun N2 hN2=>?_);refine ex1 rfl (ex1 rfl (C1 rfl rfl ⟨_,rfl,g9 (fun cm=>?_) (fun cm=>?_)⟩))
  .obtain⟨j,j1,j2⟩:=(Q4 c1 b1).mp cm;exact none H1 k1 R1 el1 fun m z y=>absurd j2 ((snd m z y).2 j ((snd m z y).1 j j1))
  have dis:∀j,c1.testBit j=true->¬b1.testBit j=true:=fun j z y=>cm ((Q4 c1 b1).mpr ⟨j,z,y⟩);refine hN2 _ _ (B3 fun N3 hN3=>?_);obtain⟨dx,a,b,d,kb,e1,_⟩:=M1.ex;obtain⟨u,eu,hu2⟩:=Yo (2^ns.length-1) (c1 ||| b1) fun j hj=>by
   rw[CF,CC]at hj;exact(E5 _ _).mpr (hj.elim (lo1 j) (lo2 j))
  have hu2:∀j,u.testBit j=true↔j<ns.length/\¬c1.testBit j=true/\¬b1.testBit j=true:=fun j=>by
   rw[hu2,E5,CF,CC,not_or]
  refine ex1 rfl ⟨x,T.aa,dx,_,ex1 rfl ⟨e1,T.ab,T.au,rfl,ex1 rfl (ex1 rfl (C1 rfl rfl ?_))⟩⟩;dsimp only;rw[bor];refine C1 rfl rfl ?_;dsimp only;rw[eu];refine hN3 _ _ (B3 fun N4 hN4=>?_);refine ex1 rfl (ex1 rfl (C1 rfl rfl ?_));dsimp only;rw[bor];generalize hmost:(c1 ||| u)=most;have hm:∀m,Tg ns.length A B m->Fits ch ba m->Sub m most:=fun m z y j hj=>by
   have f1:=snd m z y;rw[<-hmost,CF,CC];by_cases h:c1.testBit j=true
   .exact .inl h
   .exact .inr ((hu2 j).mpr ⟨tl _ _ _ _ z j hj,h,f1.2 j hj⟩)
  refine hN4 _ _ (B3 fun N5 hN5=>?_);refine ex1 rfl ⟨_,rfl,Ht ?_⟩;refine ex1 rfl ⟨l,rfl,⟨_,SqL.of el1⟩,fun D hD=>?_⟩;refine Ps (fun g=>V.bl (pB (Sub most g))) (asL (SqL.of el1)) (fun _=>true) (by omega) hD (fun g hg G sG M hM=>hM G fun b o e=>e) (fun g hg G sG M hM=>?_) fun σ' G2 s2 e2=>?_
  .refine ex1 rfl (ex1 rfl (C1 rfl rfl (ex1 rfl ⟨rfl,?_⟩)));rw[<-zEr (Xa most g)]at hM;exact hM
  rw[GI.mpr fun _ _=>rfl]at e2;have e2:G2 D=some (.lst ((fs.map fun g=>pB (Sub most g)).map V.bl)):=by rw[e2,CH];rfl
  refine⟨D,_,rfl,SqL.of e2,_,rfl,?_⟩;have k2:=k1.trans s2.sm;have R2:=R1.same (Bh s2);have el2:=s2 _ _ el1;have M2:=M1.same s2;refine g9 (fun ya=>?_) (fun na=>?_)
  .obtain⟨_,hb,e⟩:=HE.mp ya;obtain⟨g,hg,rfl⟩:=AI.mp hb;exact none G2 k2 R2 el2 fun m z y=>⟨g,hg,fun j hj=>pB_iff.mp e j (hm m z y j hj)⟩
  have nsub:∀g∈fs,¬Sub most g:=fun g hg h=>na (HE.mpr ⟨_,AI.mpr ⟨g,hg,rfl⟩,pB_iff.mpr h⟩);refine hN5 _ _ (B3 fun N6 hN6=>?_);refine ex1 rfl ⟨_,rfl,g9 (fun z0=>?_) (fun z0=>?_)⟩
  .have u0:u=0:=by
    rw[EK,bne_eq_false_iff_eq]at z0;omega
   have em:most=c1:=by rw[<-hmost,u0,Nat.or_zero]
   have all:∀j,j<ns.length->c1.testBit j=true\/b1.testBit j=true:=fun j hj=>by
    by_cases h:c1.testBit j=true
    .exact .inl h
    .by_cases h':b1.testBit j=true
     .exact .inr h'
     .have:=(hu2 j).mpr ⟨hj,h,h'⟩;rw[u0,EW]at this;cases this
   have tg:=cpl dis all;have fc:Fits ch ba c1:=(show Fits c1 b1 c1 from⟨fun j h=>h,dis⟩).mono sub1 sub2;have an2:(fs ++ [c1]).Nodup:=GC.mpr ⟨an,EH _ _,fun g hg b hb e=>by
    rw[AF.mp hb]at e;subst e;exact nof g hg g fc fun j h=>h⟩
   have mx:MaxM Tg ns.length A B c1:=⟨tg,fun m' t' s'=>by
    by_cases f:Fits ch ba m'
    .exact p8 (tl _ _ _ _ t') all (snd m' t' f)
    .rcases rst m' t' f with⟨g,hg,sg⟩ | z
     .exact absurd (fun j hj=>sg j (s' j (em▸hj))) (nsub g hg)
     .exact absurd s' (z c1 fc)⟩
   have l300:=ln _ an2 fun m hm=>(AU.mp hm).elim (lof m) fun h=>by rw[AF.mp h];exact mx
   rw[BC,DT]at l300;have lm:(fs.map D8).length=fs.length:=AB ..;refine B3 fun N7 hN7=>?_;refine ex1 rfl (C1 (a:=l) rfl (.inl (SqL.of el2)) ⟨rfl,_,rfl,g9 (fun e3=>?_) (fun e3=>?_)⟩)
   .have:=V.int.inj (BN e3);rw[lm]at this;omega
   .refine hN7 _ _ (B3 fun N8 hN8=>?_);refine ex1 rfl ⟨.inl ⟨rfl,_,SqL.of el2⟩,ex1 rfl ⟨l,_,_,rfl,rfl,el2,by rw[lm,sizeLine_eq];omega,hN8 _ _ ?_⟩⟩;have:=q [c1] (upd G2 l (.lst (fs.map D8 ++ [.int (c1:Int)]))) (k2.upd (by simp)) (by rw[Ka];exact R2) (by rw[A7,AL];rfl) an2 (fun m hm=>by rw[AF.mp hm];exact⟨mx,fc⟩) fun m z y=>⟨c1,CA _ (AF.mpr rfl),by rw[p8 (tl _ _ _ _ z) all (snd m z y)];exact fun j h=>h⟩;exact this
  .have upos:0<u:=by
    rcases Nat.eq_zero_or_pos u with h | h
    .exact absurd (by rw[h];rfl) z0
    .exact h
   refine hN6 _ _ (B3 fun N7 hN7=>?_);refine ex1 rfl ⟨u,rfl,upos,fun kk hkk=>?_⟩;obtain⟨k0,nc,nb⟩:=(hu2 kk).mp hkk;have ss:∀a:Nat,Sub a (a ||| 2^kk):=fun a j h=>by rw[CF,h];rfl
   have sb:∀a:Nat,(a ||| 2^kk).testBit kk=true:=fun a=>by rw[CF,GE,IG]
   have un1:=Jh (n:=ns.length) sub1 sub2;have un2:=Jo (n:=ns.length) (ss c1) (fun j h=>h:Sub b1 b1) k0 ⟨nc,nb⟩ (.inl (sb c1));have un3:=Jo (n:=ns.length) (fun j h=>h:Sub c1 c1) (ss b1) k0 ⟨nc,nb⟩ (.inr (sb b1));obtain⟨k',rfl⟩:∃k',k=k'+1:=⟨k-1,by omega⟩;have hSS:=hS k' rfl;subst hSS;refine hN7 _ _ (B3 fun N8 hN8=>?_);refine ex1 rfl (ex1 rfl (ex1 rfl (ex1 rfl (ex1 rfl (C1 rfl rfl ?_)))));refine ex1 rfl (ex1 rfl ⟨x,c,l,ns,A,B,L,c1 ||| 2^kk,b1,fs,by dsimp only;rw[bor];rfl,R2,ln,lo1.or k0,lo2,by omega,el2,an,lof,fun g hg m h=>nof g hg m ((fits_or.mp h).1.mono sub1 sub2),fun m z y=>?_,fun L1 H3 k3 R3 el3 an3 m3 cv3=>?_⟩)
   .by_cases f:Fits ch ba m
    .exact .inr fun c' hc s'=>y (fits_or.mpr ⟨snd m z f,s' kk (fits_or.mp hc).2⟩)
    .exact(rst m z f).imp id fun g c' hc=>g c' ((fits_or.mp hc).1.mono sub1 sub2)
   refine hN8 _ _ ?_;refine ex1 rfl (ex1 rfl (ex1 rfl (ex1 rfl (ex1 rfl (ex1 rfl (C1 rfl rfl ?_))))));refine ex1 rfl ⟨x,c,l,ns,A,B,L,c1,b1 ||| 2^kk,fs++L1,by dsimp only;rw[bor];rfl,R3,ln,lo1,lo2.or k0,by omega,el3,an3,fun m hm=>(AU.mp hm).elim (lof m) fun h=>(m3 m h).1,fun g hg m h=>?_,fun m z y=>?_,fun L2 H4 k4 R4 el4 an4 m4 cv4=>?_⟩
   .rcases AU.mp hg with hg | hg
    .exact nof g hg m ((fits_bar.mp h).1.mono sub1 sub2)
    .exact fun z=>(fits_bar.mp h).2 (z kk (fits_or.mp (m3 g hg).2).2)
   .by_cases f:Fits ch ba m
    .have f1:=snd m z f;by_cases h:m.testBit kk=true
     .exact .inl (cv3 m z (fits_or.mpr ⟨f1,h⟩))
     .exact absurd (fits_bar.mpr ⟨f1,h⟩) y
    .rcases rst m z f with⟨g,hg,sg⟩ | g
     .exact .inl ⟨g,EI _ hg,sg⟩
     .exact .inr fun c' hc=>g c' ((fits_bar.mp hc).1.mono sub1 sub2)
   .rw[BK]at el4 an4 cv4;refine q (L1++L2) H4 (k2.trans (k3.trans k4)) R4 el4 an4 (fun m hm=>?_) fun m z y=>?_
    .rcases AU.mp hm with h | h
     .exact⟨(m3 m h).1,(fits_or.mp (m3 m h).2).1.mono sub1 sub2⟩
     .exact⟨(m4 m h).1,(fits_bar.mp (m4 m h).2).1.mono sub1 sub2⟩
    .have f1:=snd m z y;by_cases h:m.testBit kk=true
     .obtain⟨g,hg,sg⟩:=cv3 m z (fits_or.mpr ⟨f1,h⟩);refine⟨g,?_,sg⟩;rw[<-BK];exact EI _ hg
     .exact cv4 m z (fits_bar.mpr ⟨f1,h⟩)
theorem An(T:Tx K mg){f:Addr}{fd:FuncData}{Tg:Tgt}{n:Nat}(tl:∀n A B m,Tg n A B m->Low n m)(G:FnOk P w K mg base CX0 n f fd ["marks", "chosen", "barred"] (J5 T.aa Tg))(hk:PySem.W.keepIn K (.ref f)=true)(hb:Binds K fd ["marks", "chosen", "barred"] [])(h1:1<=n) :
  ∀k,FnOk P w K mg base (CXe P w) (n+1+k) T.aj.f T.aj.fd ["marks", "settle", "greatest", "chosen", "barred", "found"] (Q2 T.aa f Tg k)
 | 0=>n6 T tl G hk hb h1 Iu fun k' e=>by omega
 | k+1=>n6 (n:=n+1+k) T tl (G.mono (by omega)) hk hb (by omega) (An T tl G hk hb h1 k) fun k' e=>by cases e;rfl
def Dz(CW f:Addr)(Tg:Tgt):Sp:=fun vs H Q _=>∃(wb:Addr) (ns:List Str) (qs:List PA2),vs = [.ref wb,.ref f,.bl true]/\WebAt CW H wb ns qs/\ns.length<=12 /\
 ∀(A B Ms:List Nat),MB ns ((qs.map fun q=>q.2).map fun k=>(k.2,k.1)) A->MB ns (qs.map fun q=>q.2) B->Ms.Nodup->(∀m,m∈Ms↔MaxM Tg ns.length A B m)->Ms.length<=300 /\
  ∀r (ts:List (Addr×List Str)) H',Same H H'->H r=none->H' r=some (.lst (ts.map fun t=>V.ref t.1))->LLn H H' ts->(∀t∈ts,t.1≠r)->(ts.map fun t=>t.2).Perm (Ms.map (setOf ns))->ts.Pairwise (fun a b=>TS.lexB (TS.kyS b.2) (TS.kyS a.2)=false)->Q (.ref r) H'
set_option maxHeartbeats 4000000 in
theorem Ci(T:Tx K mg){f:Addr}{Tg:Tgt}(tl:∀n A B m,Tg n A B m->Low n m)(tq:∀n A B m,Tg n A B m->Ez B m){g:Nat}(hg:3<=g)(G_gather:FnOk P w K mg base (CXe P w) (g+1) T.aj.f T.aj.fd ["marks", "settle", "greatest", "chosen", "barred", "found"] (Q2 T.aa f Tg 12)) :
  FnOk P w K mg base (CXe P w) (g+2) T.ah.f T.ah.fd ["web", "settle", "greatest"] (Dz T.ac f Tg):=by
 have G_Marks___init__:FnOk P w K mg base CX0 g T.aQ T.aO ["self", "web"] (M7 T.aa T.ac):=(U0 T).mono hg;have G_Marks_names_in:FnOk P w K mg base CX0 (g+1) T.ag.f T.ag.fd ["self", "some"] (S8 T.aa):=(L7 T).mono (by omega);have sc:=K4;refine T.ah.F.okE K4 (fun vs H Q E h=>?_) (fun cdv A outer s H vs Q E hr h=>?_)
 .obtain⟨wb,ns,qs,rfl,_⟩:=h;rfl
 .obtain⟨wb,ns,qs,rfl,hW,ln,q⟩:=h;refine⟨_,(B0 (C5 (i:=3) sc.nd rfl (.inr rfl) (Gs T.br G_Marks___init__ (hr.mono (Nat.le_refl _)) rfl T.bq T.a4 .nil G6 (A6 (pv 0) A8)))
   (B0 (C5 (i:=4) sc.nd rfl (.inl rfl) (D0 A8))
   (B0 (D9 (J2 cxE.bx T.aj G_gather (hr.mono (Nat.le_refl _)) (@A6 _ _ _ _ _ (pv 3) (@A6 _ _ _ _ _ (pv 1) (@A6 _ _ _ _ _ (pv 2) (@A6 _ _ _ _ _ B1 (@A6 _ _ _ _ _ (peF K (pv 3)) (@A6 _ _ _ _ _ (pv 4) A8 (by rfl)) (by rfl)) (by rfl)) (by rfl)) (by rfl)) (by rfl))))
   (B2 (C0 (F2 (Jl K hr.units) T.aP M0 (A6 (Q9 (N':=["some", "marks"]) (cap:=[none,some 3]) (cl:=[("marks",_)]) (J8 ⟨⟨rfl,rfl,rfl,rfl⟩,trivial⟩ ⟨rfl,trivial⟩) rfl (piL K (pv 4)) (fun _ _ _ _=>by exact⟨(pgC 0),E1,(E4 (pv 1) T.ab T.ag.m G_Marks_names_in (hr.mono (Nat.le_refl _)) T.ag.b .nil G6 (A6 (pv 0) A8))⟩)) A8))))))),?_⟩
  refine B3 fun N1 hN1=>?_;refine ex1 rfl ?_;intro x dx nx ndx nex;have s0:Same H (upd (upd H dx (.own x)) x (.ins T.aa dx [])):=fun b o e=>by
   rw[B5 (A9 e nx),B5 (A9 e ndx)];exact e
  refine⟨x,dx,wb,ns,qs,rfl,A7,hW.same s0,fun c A B L H1 hc k1 M1 mA mB=>⟨rfl,?_⟩⟩;have s1:Same H H1:=fun b o e=>k1 b o (s0 b o e) (by simpa using A9 e nx);have hcn:H c=none:=s0.free hc;refine hN1 _ _ (B3 fun N2 hN2=>?_);refine⟨CD _,fun l hl=>?_⟩;have ul:=Same.new (o:=.lst []) hl;have fl:(upd H1 l (.lst [])) l=some (.lst (([]:List Nat).map D8)):=A7;have hln:H l=none:=s1.free hl;have R2:MarksAt T.aa (er (upd H1 l (.lst [])) l) x c ns A B L:=M1.same fun b o e=>by
   have:b≠l:=A9 e hl;rw[o7 this,B5 this];exact e
  generalize upd H1 l (.lst [])=H2 at ul fl R2⊢;have s2:=s1.trans ul;have M2:=R2.same (K0 H2 l);obtain⟨Ms,ndM,mM⟩:=Fv (n:=ns.length) (fun m=>MaxM Tg ns.length A B m) fun m h=>tl _ _ _ _ h.1;obtain⟨few,q1⟩:=q A B Ms mA mB ndM mM;have fitz:∀m,Tg ns.length A B m/\Fits 0 L m↔Tg ns.length A B m:=fun m=>⟨(·.1),fun h=>⟨h,fun j z=>(by rw[EW]at z;cases z),fun j z y=>tq _ _ _ _ h j j z z ((M2.net.tr j j).mp ((M2.loops j).mp y))⟩⟩;refine hN2 _ _ (B3 fun N3 hN3=>?_);obtain⟨dx',a,b,d,kb,e1,_⟩:=M2.ex;refine ex1 rfl (ex1 rfl (ex1 rfl (ex1 rfl ⟨x,T.aa,dx',_,ex1 rfl ⟨e1,T.ab,T.aX,rfl,ex1 rfl ⟨x,c,l,ns,A,B,L,0,L,[],rfl,R2,(fun l nd h=>Nat.le_trans (nd.length_le_of_subset fun m hm=>(mM m).mpr (h m hm)) few),Low.zero _,fun j hj=>(M2.net.lt j j ((M2.net.tr j j).mp ((M2.loops j).mp hj))).1,Nat.le_trans List.countP_le_length (by rw[BW];exact ln),fl,GM,(fun g z=>absurd z BD),(fun g z=>absurd z BD),(fun m z y=>absurd ((fitz m).mpr z).2 y),fun Ls H3 k3 R3 el3 an3 mL cv=>?_⟩⟩⟩)))
  .rw[GS]at el3 an3;have pm:Ls.Perm Ms:=(FT an3 ndM).mpr fun m=>by
    rw[mM];refine⟨fun h=>(mL m h).1,fun h=>?_⟩;obtain⟨g,hg,sg⟩:=cv m h.1 ((fitz m).mpr h.1).2;rw[GS]at hg;rw[h.anti (mL g hg).1 sg];exact hg
   have le3:Ls.length<=300:=by rw[pm.length_eq];exact few
   have M3:=R3.same (K0 H3 l);have s3:Same H H3:=fun b o e=>k3 b o (s2 b o e) (by
    intro z;rcases AV.mp z with rfl | z
    .rw[hcn]at e;cases e
    .rw[AF.mp z,hln]at e;cases e)
   refine hN3 _ _ ?_;refine ex1 rfl ⟨l,rfl,⟨_,SqL.of el3⟩,fun D hD=>?_⟩;refine Ii (ns:=ns) (asL (SqL.of el3)) (by omega) hD (fun m G R sG hR=>?_) fun σ' G ts sG eG LG nG mG=>?_
   .have MG:=M3.same sG;obtain⟨dx',a,b,d,kb,e1,_⟩:=MG.ex;exact ex1 rfl ⟨x,dx',ex1 rfl ⟨e1,rfl,ex1 rfl ⟨x,c,ns,A,B,L,m,rfl,MG,fun z G' hz s' ez=>hR z G' hz s' ez⟩⟩⟩
   .refine⟨D,ts,rfl,SqL.of eG,LG.at_,fun r ts' hr0 pt srt=>?_⟩;have ur:=Same.new (o:=.lst (ts'.map fun t=>V.ref t.1)) hr0;have hrn:H r=none:=(s3.trans sG).free hr0;refine q1 r ts' _ ((s3.trans sG).trans ur) hrn A7 ⟨fun t ht=>ur _ _ (LG.at_ t (pt.mem_iff.mp ht)),(pt.map _).nodup_iff.mpr LG.nd,fun t ht=>s3.free (LG.new t (pt.mem_iff.mp ht))⟩ (fun t ht=>A9 (LG.at_ t (pt.mem_iff.mp ht)) hr0) ?_ srt;refine(pt.map fun t=>t.2).trans ?_;rw[mG];exact pm.map _
def Sn(CW:Addr)(Tg:Tgt):Sp:=fun vs H Q _=>∃(wb:Addr) (ns:List Str) (qs:List PA2),vs = [.ref wb]/\WebAt CW H wb ns qs/\ns.length<=12 /\
 ∀(A B Ms:List Nat),MB ns ((qs.map fun q=>q.2).map fun k=>(k.2,k.1)) A->MB ns (qs.map fun q=>q.2) B->Ms.Nodup->(∀m,m∈Ms↔MaxM Tg ns.length A B m)->Ms.length<=300 /\
  ∀r (ts:List (Addr×List Str)) H',Same H H'->H r=none->H' r=some (.lst (ts.map fun t=>V.ref t.1))->LLn H H' ts->(∀t∈ts,t.1≠r)->(ts.map fun t=>t.2).Perm (Ms.map (setOf ns))->ts.Pairwise (fun a b=>TS.lexB (TS.kyS b.2) (TS.kyS a.2)=false)->Q (.ref r) H'
theorem O2:FnScope ["web"] ["web"] (B4 s_greatest_sets):=fsc
theorem Z8(T:Tx K mg):FnOk P w K mg base (CXe P w) 20 T.aJ.f T.aJ.fd ["web"] (Sn T.ac G8):=by
 have G_all_found:FnOk P w K mg base (CXe P w) 19 T.ah.f T.ah.fd ["web", "settle", "greatest"] (Dz T.ac T.ak.f G8) :=
  Ci T (fun _ _ _ _ h=>h.1.1) (fun _ _ _ _ h=>h.1.2.1) (g:=17) (by decide) (An T (fun _ _ _ _ h=>h.1.1) (P1 T) T.ak.F.kp T.ak.b (by decide) 12)
 have sc:=O2;refine T.aJ.F.okE O2 (fun vs H Q E h=>?_) (fun cdv A outer s H vs Q E hr h=>?_)
 .obtain⟨wb,ns,qs,rfl,_⟩:=h;rfl
 .obtain⟨wb,ns,qs,rfl,hW,ln,q⟩:=h;refine⟨_,(B2 (C0 (J2 cxE.bx T.ah G_all_found (Rm hr) (A6 (pv 0) (A6 (Y6 T.ak.m) (A6 U8 A8)))))),?_⟩;exact ex1 rfl ⟨wb,ns,qs,rfl,hW,ln,q⟩
end
def WL(H:Hp)(l:Addr)(ks:List (Str×Str)):Prop:=∃ps:List PA2,H l=some (.lst (M5 ps))/\(∀q∈ps,E2 H q)/\(ps.map fun q=>q.2)=ks
theorem WL.nil{H:Hp}{l:Addr}:WL (upd H l (.lst [])) l []:=⟨[],A7,fun q h=>absurd h (BD),rfl⟩
theorem WL.same{H H':Hp}{l:Addr}{ks:List (Str×Str)}(h:WL H l ks)(s:Same H H'):WL H' l ks:=let⟨ps,e,p,k⟩:=h;⟨ps,s _ _ e,C8 s p,k⟩
theorem WL.get{H:Hp}{l:Addr}{ks:List (Str×Str)}(h:WL H l ks):∃xs,H l=some (.lst xs)/\xs.length=ks.length:=let⟨ps,e,_,k⟩:=h;⟨_,e,by rw[<-k,AB];unfold M5;rw[AB]⟩
theorem WL.put{H:Hp}{l t:Addr}{ks:List (Str×Str)}{x y:Str}(h:WL H l ks)(ht:H t=none):∃xs,(upd H t (.tup [.str x,.str y])) l=some (.lst xs)/\xs.length=ks.length/\WL (upd (upd H t (.tup [.str x,.str y])) l (.lst (xs ++ [.ref t]))) l (ks ++ [(x,y)]):=by
 obtain⟨ps,e,p,k⟩:=h;have n:l≠t:=A9 e ht;refine⟨M5 ps,by rw[B5 n];exact e,by rw[<-k,AB];unfold M5;rw[AB],ps ++ [(t,x,y)],?_,fun q hq=>?_,by rw[AL,k];rfl⟩
 .rw[A7];unfold M5;rw[AL];rfl
 .unfold E2;rcases AU.mp hq with z | z
  .rw[B5 (Y8 (p q z) e (by intro z;cases z)),B5 (A9 (p q z) ht)];exact p q z
  .rw[AF.mp z,B5 n.symm];exact A7
def O7(ss hs:List Str)(n:Str):Str:=if n∈ss then "in" else if n∈hs then "out" else "open"
def Go(K:PySem.W.Frag)(C:Addr):Sp:=fun vs H Q _=>∃(x a:Addr) (ss ns:List Str) (qs:List PA2),vs = [.ref x,.ref a]/\WebAt C H x ns qs/\Sqs K H a (ss.map V.str)/\(∀n∈ss,n∈ns) /\
 ∀l (hs:List Str) H',H l=none->Same H H'->(∀y,y∈hs↔∃n∈ss,y∈B6 qs n)->WL H' l (ns.map fun n=>(n,O7 ss hs n))->Q (.ref l) H'
section
variable{P:Program}{w:World}{K:PySem.W.Frag}{mg:Str->Option Value}{base:Heap}
theorem q9:FnScope ["web", "some", "hit", "words", "name"] ["web", "some"] (B4 s_words_by):=fsc
theorem Gq(T:Tx K mg):FnOk P w K mg base CX0 4 T.aZ.f T.aZ.fd ["web", "some"] (Go K T.ac):=by
 have G_struck_by_any:=g7 (P:=P) (w:=w) (base:=base) T;have G_Web_all_names:=O6 (P:=P) (w:=w) (base:=base) T;have sc:=q9;refine T.aZ.F.ok q9 (fun vs H Q E h=>?_) (fun cdv A outer s H vs Q E hr h=>?_)
 .obtain⟨x,a,ss,ns,qs,rfl,_⟩:=h;rfl
 .obtain⟨x,a,ss,ns,qs,rfl,hW,hS,hM,k⟩:=h;refine⟨_,(B0 (C5 (i:=2) sc.nd rfl (.inl rfl) (G9 T.aH G_struck_by_any (Rm hr) (A6 (pv 0) (A6 (pv 1) A8))))
   (B0 (C5 (i:=3) sc.nd rfl (.inl rfl) (D0 A8))
   (B0 (R9 PassesOwn.never rfl (piL K (Jk (pv 0) T.am T.ao.m G_Web_all_names (Rm hr) T.ao.b .nil G6)) (C3 (i:=4) sc.nd rfl (.inl rfl))
   (B2 (F4 (D4 (Te K) (pv 4) (pv 1) rfl) (B2 (D9 (Ra K PySem.F.plainAttrs_list PySem.F.slot_list_append PySem.F.type_list_append E8 (pv 3) (A6 (C2 (A6 (pv 4) (A6 F3 A8))) A8)))) (B2 (F4 (D4 (Te K) (pv 4) (pv 2) rfl) (B2 (D9 (Ra K PySem.F.plainAttrs_list PySem.F.slot_list_append PySem.F.type_list_append E8 (pv 3) (A6 (C2 (A6 (pv 4) (A6 F3 A8))) A8)))) (B2 (D9 (Ra K PySem.F.plainAttrs_list PySem.F.slot_list_append PySem.F.type_list_append E8 (pv 3) (A6 (C2 (A6 (pv 4) (A6 F3 A8))) A8)))))))))
   (B2 (C0 (pv 3)))))),?_⟩
  refine ex1 rfl (ex1 rfl (zDg (a:=x) (b:=a) (c:=ss) (d:=ns) (e:=qs) rfl hW hS hM fun l hs H1 hl0 s1 e1 m1 _ _ _=>?_));refine⟨CD _,fun l2 hl2=>?_⟩;have s2:=Same.new (o:=.lst []) hl2;have W2:=hW.same (s1.trans s2);have WA:WL (upd H1 l2 (.lst [])) l2 []:=WL.nil;generalize upd H1 l2 (.lst [])=H2 at s2 W2 WA⊢;obtain⟨ok,dx,a1,b,c,d,kc,kd,e2,_⟩:=id W2;have hlen:=ok.len;refine ex1 rfl ⟨x,dx,ex1 rfl ⟨e2,rfl,x,ns,qs,rfl,W2,fun l3 hl3=>?_⟩⟩;have s3:=Same.new (o:=.lst (ns.map V.str)) hl3;have f3:(upd H2 l3 (.lst (ns.map V.str))) l3=some (.lst (ns.map V.str)):=A7;have n23:l3≠l2:=let⟨_,e,_⟩:=WA.get;(A9 e hl3).symm;have W3:=WA.same s3;generalize upd H2 l3 (.lst (ns.map V.str))=H3 at s3 f3 W3⊢;have S1:=(s1.at a).seq hS;refine⟨l3,rfl,⟨_,SqL.of f3⟩,Bm (asL (SqL.of f3)) (fun i σ H4=>(∃v4,σ = [some (.ref x),some (.ref a),some (.ref l),some (.ref l2),v4])/\Same H1 H4/\H4 l3=some (.lst (ns.map V.str))/\WL H4 l2 ((ns.take i).map fun n=>(n,O7 ss hs n))) ?_ ?_ ?_ ?_⟩
  .exact⟨⟨_,rfl⟩,s2.trans s3,f3,W3⟩
  .rintro j σ H5 _ ⟨_,_,f5,_⟩ o e;exact(f3.symm.trans e)▸f5
  .rintro i σ H4 y hy ⟨⟨v4,rfl⟩,s4,f4,W4⟩ D hD _;rw[AJ]at hy;obtain⟨n,hn,rfl⟩:=BU.mp hy;have hi:=(AH.mp hn).1;have app:∀wd:Str,O7 ss hs n=wd->Xt (tBM K "list" Gr (Y5 3) (K1 (Ur (K1 (Y5 4) (K1 (tC (V.str wd)) Cr))) Cr)) D [some (.ref x),some (.ref a),some (.ref l),some (.ref l2),some (.str n)] H4:=fun wd ew=>by
    obtain⟨xs,e4,zFh⟩:=W4.get;refine ex1 rfl ⟨.inl ⟨rfl,_,SqL.of e4⟩,ex1 rfl ⟨by show 2<=sizeLine;decide,fun t ht=>?_⟩⟩;obtain⟨ys,e5,zEq,W5⟩:=W4.put (x:=n) (y:=wd) ht;refine⟨l2,_,_,rfl,rfl,e5,?_,hD _ _ ⟨⟨_,rfl⟩,(s4.trans (Same.new ht)).upd hl2,?_,?_⟩⟩
    .rw[zEq,AB,AY,sizeLine_eq];omega
    .rw[B5 n23,B5 (A9 f4 ht)];exact f4
    .rw[take_succ hn,AL,AW,ew];exact W5
   refine ex1 rfl (ex1 rfl (Bf ((s4.at a).seq S1) ⟨_,rfl,g9 (fun h=>app _ ?_) (fun h=>?_)⟩))
   .unfold O7;rw[AO (BN h)]
   have h:=fun z=>h (AZ z);refine ex1 rfl (ex1 rfl (Bf (.inl (SqL.of (s4 _ _ e1))) ⟨_,rfl,g9 (fun h'=>app _ ?_) (fun h'=>app _ ?_)⟩))
   .unfold O7;rw[AK h,AO (BN h')]
   .unfold O7;rw[AK h,AK fun z=>h' (AZ z)]
  .rintro σ H4 ⟨⟨v4,rfl⟩,s4,f4,W4⟩;rw[AB,DB]at W4;exact⟨_,rfl,k l2 hs H4 (s1.free hl2) (s1.trans s4) m1 W4⟩
end
def wrd(qs:List PA2)(ss:List Str)(n:Str):Str:=O7 ss (ss.flatMap (B6 qs)) n
def P2(ns:List Str)(qs:List PA2)(ss:List Str):List (Str×Str):=ns.map fun n=>(n,wrd qs ss n)
theorem zCa{qs:List PA2}{ss hs:List Str}{n:Str}(h:∀y,y∈hs↔∃n∈ss,y∈B6 qs n):O7 ss hs n=wrd qs ss n:=by
 have e:(n∈ss.flatMap (B6 qs)) =(n∈hs):=propext (List.mem_flatMap.trans (h n).symm);unfold wrd O7;simp only[e]
theorem Mu{H H':Hp}{q:LP}(h:LPIn H q)(s:Same H H'):LPIn H' q:=⟨s _ _ h.1,C8 s h.2⟩
theorem Um{H:Hp}{q:LP}{D:Addr}{xs:List V}{o:HO}(h:LPIn H q)(n:q.1≠D)(e:H D=some (.lst xs)):LPIn (upd H D o) q :=
 ⟨by rw[B5 n];exact h.1,fun r hr=>by
  have:=h.2 r hr;unfold E2 at this⊢;rw[B5 (Y8 this e (by intro z;cases z))];exact this⟩
structure LPn(H0 H:Hp)(ts:List LP):Prop where
 at_:∀t∈ts,LPIn H t
 nd:(ts.map fun t=>t.1).Nodup
 new:∀t∈ts,H0 t.1=none
theorem Sv{α:Type}{J:It}{l D:Addr}{H:Hp}{xs:List α}{g:α->V}{f:α->List (Str×Str)}{r:St}{v0:Option V}{te:TE}{Q:St->Hp->Prop}(as:AsSeq J (xs.map g) l H)(len:xs.length<=7000)(hD:H D=none)
  (step:∀x∈xs,∀G (R:VK),Same H G->(∀z G' (ps:List PA2),G z=none->Same G G'->LPIn G' (z,ps)->nw ps=f x->R (.ref z) G')->te (some (g x)::r) G R)
  (q:∀σ G (ts:List LP),Same H G->G D=some (.lst (ts.map fun t=>V.ref t.1))->LPn H G ts->(∀t∈ts,t.1≠D)->(ts.map fun t=>nw t.2)=xs.map f->Q σ G):o9 (K9 0) V0 (o8 D te) J (v0::r) (upd H D (.lst [])) Q:=by
 refine M9 as (fun i σ G=>(∃v,σ=v::r)/\Same H G/\∃ts:List LP,G D=some (.lst (ts.map fun t=>V.ref t.1))/\LPn H G ts/\(∀t∈ts,t.1≠D)/\(ts.map fun t=>nw t.2) =(xs.take i).map f) ⟨⟨_,rfl⟩,Same.new hD,[],A7,⟨fun t h=>absurd h BD,GM,fun t h=>absurd h BD⟩,fun t h=>absurd h BD,rfl⟩ (fun i σ G _ h=>h.2.1.at l) ?_ ?_
 .rintro i σ G y N hx ⟨⟨v0,rfl⟩,sG,ts,eG,LG,nG,mG⟩ hN;rw[AJ]at hx;obtain⟨m,hm,rfl⟩:=BU.mp hx;have li:=(AH.mp hm).1;have lt:ts.length=i:=by
   have:=congrArg List.length mG;rw[AB,AB,AY]at this;omega
  refine Y4 (step m (BJ hm) G _ sG fun z G' ps hz s' ez kz=>?_);have nz:z≠D:=(A9 eG hz).symm;have eG':=s' _ _ eG;refine⟨_,eG',by rw[AB,sizeLine_eq];omega,hN _ _ ⟨⟨_,rfl⟩,(sG.trans s').upd hD,ts ++ [(z,ps)],?_,⟨fun t ht=>?_,?_,fun t ht=>?_⟩,fun t ht=>?_,?_⟩⟩
  .rw[A7,AL];rfl
  .rcases AU.mp ht with h | h
   .exact Um (Mu (LG.at_ t h) s') (nG t h) eG'
   .rw[AF.mp h];exact Um ez nz eG'
  .rw[AL];refine GC.mpr ⟨LG.nd,EH _ _,fun a ha b hb e=>?_⟩;obtain⟨t,ht,rfl⟩:=AI.mp ha;rw[FS,AF]at hb;rw[hb]at e;have:=(LG.at_ t ht).1;rw[e,hz]at this;cases this
  .rcases AU.mp ht with h | h
   .exact LG.new t h
   .rw[AF.mp h];exact sG.free hz
  .rcases AU.mp ht with h | h
   .exact nG t h
   .rw[AF.mp h];exact nz
  .rw[AL,mG,take_succ hm,AL,FS,FS,kz]
 .rintro σ G ⟨_,sG,ts,eG,LG,nG,mG⟩;rw[AB,DB]at mG;exact q σ G ts sG eG LG nG mG
section
variable{P:Program}{w:World}{K:PySem.W.Frag}{mg:Str->Option Value}{base:Heap}
def Rw(C CT:Addr):Sp:=fun vs H Q E=>∃(wb:Addr) (ns:List Str) (qs:List PA2),vs = [.ref wb]/\WebAt C H wb ns qs/\ns.length<=12 /\
 ∀(A B Ms:List Nat),MB ns ((qs.map fun q=>q.2).map fun k=>(k.2,k.1)) A->MB ns (qs.map fun q=>q.2) B->Ms.Nodup->(∀m,m∈Ms↔G8 ns.length A B m) ->
  (∀r (ts:List LP) H',Ms.length<=300->Same H H'->H r=none->H' r=some (.lst (ts.map fun t=>V.ref t.1))->LPn H H' ts->(∀t∈ts,t.1≠r)->(ts.map fun t=>nw t.2).Perm (Ms.map fun m=>P2 ns qs (setOf ns m))->ts.Pairwise (fun a b=>TS.lexB (TS.kyP (nw b.2)) (TS.kyP (nw a.2))=false)->Q (.ref r) H')/\(300<Ms.length->ThrownS CT [] H E)
theorem j7:FnScope ["web"] ["web"] (B4 s_tellings):=fsc
theorem Gj(T:Tx K mg):FnOk P w K mg base (CXe P w) 21 T.a0.f T.a0.fd ["web"] (Rw T.ac T.ae):=by
 have G_whole_sets:=V1 (P:=P) (w:=w) (base:=base) T;have G_words_by:=Gq (P:=P) (w:=w) (base:=base) T;have sc:=j7;refine T.a0.F.okE j7 (fun vs H Q E h=>?_) (fun cdv A outer s H vs Q E hr h=>?_)
 .obtain⟨wb,ns,qs,rfl,_⟩:=h;rfl
 .obtain⟨wb,ns,qs,rfl,hW,ln,q⟩:=h;refine⟨_,(B2 (C0 (F2 (Og K hr.units) T.aP M0 (A6 (Q9 (N':=["some", "web"]) (cap:=[none,some 0]) (cl:=[("web",_)]) (J8 ⟨⟨rfl,rfl,rfl,rfl⟩,trivial⟩ ⟨rfl,trivial⟩) rfl (piL K (J2 cxE.bx T.aM G_whole_sets (Rm hr) (A6 (pv 0) A8))) (fun _ _ _ _=>by exact⟨(pgC 0),E1,(G9 T.aZ G_words_by (Rm hr) (A6 (pv 1) (A6 (pv 0) A8)))⟩)) A8)))),?_⟩;refine ex1 rfl ⟨wb,ns,qs,rfl,hW,by omega,fun A B Ms mA mB nd mm=>⟨fun r ts H1 le1 s1 hr0 er1 LL nr pm srt=>?_,(q A B Ms mA mB nd mm).2⟩⟩;refine⟨r,rfl,⟨_,SqL.of er1⟩,fun D hD=>?_⟩;refine Sv (xs:=ts) (f:=fun t=>P2 ns qs t.2) (asL (SqL.of er1)) (by have:=pm.length_eq;rw[AB,AB]at this;omega) hD (fun t ht G R sG hR=>?_) fun σ' G us sG eG LG nG mG=>?_
  .have eT:=sG _ _ (LL.at_ t ht);refine ex1 rfl (ex1 rfl ⟨wb,t.1,t.2,ns,qs,rfl,hW.same (s1.trans sG),.inl (SqL.of eT),fun n hn=>?_,fun l hs G' hl s' hh WG=>?_⟩)
   .have:t.2∈Ms.map (setOf ns):=pm.mem_iff.mp (AI.mpr ⟨t,ht,rfl⟩);obtain⟨m,_,e⟩:=AI.mp this;exact(Fe ns m).subset (e▸hn)
   .obtain⟨ps,e1,e2,e3⟩:=WG;exact hR l G' ps hl s' ⟨e1,e2⟩ (e3.trans (GG fun n _=>by rw[zCa hh]))
  .refine⟨D,us,rfl,SqL.of eG,LG.at_,fun z us' hz pt srt'=>?_⟩;have uz:=Same.new (o:=.lst (us'.map fun t=>V.ref t.1)) hz;have s3:=s1.trans sG;refine(q A B Ms mA mB nd mm).1 z us' _ le1 (s3.trans uz) (s3.free hz) A7 ⟨fun t ht=>Mu (LG.at_ t (pt.mem_iff.mp ht)) uz,(pt.map _).nodup_iff.mpr LG.nd,fun t ht=>s1.free (LG.new t (pt.mem_iff.mp ht))⟩ (fun t ht=>A9 (LG.at_ t (pt.mem_iff.mp ht)).1 hz) ?_ srt';refine(pt.map fun t=>nw t.2).trans ?_;rw[mG];have:=pm.map (P2 ns qs);rw[CH,CH]at this;exact this
end
abbrev Ed:=List (Nat×Nat)
def sh(n:Nat)(es:Ed):Ed:=es.map fun e=>(e.1+n,e.2+n)
def Qu(es:Ed)(m:Nat):Prop:=∀i j,m.testBit i=true->m.testBit j=true->(i,j)∉es
def Hi(es:Ed)(m x:Nat):Prop:=∃k,m.testBit k=true/\(k,x)∈es
def Ke(es:Ed)(m j:Nat):Prop:=∀x,(x,j)∈es->Hi es m x
def StE(n:Nat)(es:Ed)(m:Nat):Prop:=Low n m/\Qu es m/\∀j,m.testBit j=true->Ke es m j
def WhE(n:Nat)(es:Ed)(m:Nat):Prop:=StE n es m/\∀j,j<n->Ke es m j->m.testBit j=true
def OuE(n:Nat)(es:Ed)(m:Nat):Prop:=Low n m/\Qu es m/\∀j,j<n->¬m.testBit j=true->Hi es m j
def MxE(n:Nat)(es:Ed)(m:Nat):Prop:=WhE n es m/\∀m',WhE n es m'->Sub m m'->m'=m
def InE(n:Nat)(es:Ed):Prop:=∀i j,(i,j)∈es->i<n/\j<n
theorem Ug{n:Nat}{es:Ed}{i j:Nat}:(i,j)∈sh n es↔n<=i/\n<=j/\(i-n,j-n)∈es:=by
 unfold sh;rw[AI];constructor
 .rintro⟨⟨a,b⟩,h,e⟩;obtain⟨rfl,rfl⟩:=Prod.mk.inj e;exact⟨Nat.le_add_left ..,Nat.le_add_left ..,by rw[HU,HU];exact h⟩
 .rintro⟨h1,h2,h⟩;exact⟨_,h,by rw[Nat.sub_add_cancel h1,Nat.sub_add_cancel h2]⟩
section
variable{n k a b m:Nat}{es fs:Ed}
theorem Q0(ie:InE n es){i j:Nat}:(i,j)∈es++sh n fs↔(i<n/\j<n/\(i,j)∈es)\/(n<=i/\n<=j/\(i-n,j-n)∈fs):=by
 rw[AU,Ug];exact⟨fun h=>h.imp (fun z=>⟨(ie i j z).1,(ie i j z).2,z⟩) id,fun h=>h.imp (fun z=>z.2.2) id⟩
theorem InE.jo(ie:InE n es)(jf:InE k fs):InE (n+k) (es++sh n fs):=fun i j h=>by
 rcases(Q0 ie).mp h with⟨h1,h2,_⟩ | ⟨h1,h2,h3⟩
 .omega
 .have:=jf _ _ h3;omega
def jn(n a b:Nat):Nat:=2^n*b+a
theorem Cy(la:Low n a)(j:Nat):(jn n a b).testBit j=if j<n then a.testBit j else b.testBit (j-n):=Nat.testBit_two_pow_mul_add b la.lt j
theorem Q7(la:Low n a){j:Nat}(h:j<n):(jn n a b).testBit j=a.testBit j:=by rw[Cy la,AO h]
theorem P9(la:Low n a)(j:Nat):(jn n a b).testBit (n+j)=b.testBit j:=by rw[Cy la,AK (by omega),CO]
theorem Vc(la:Low n a)(lb:Low k b):Low (n+k) (jn n a b):=fun j hj=>by
 rw[Cy la]at hj;by_cases c:j<n
 .omega
 .rw[AK c]at hj;have:=lb _ hj;omega
theorem Qj(la:Low n a)(l:Low (n+k) (jn n a b)):Low k b:=fun j hj=>by
 have:=l (n+j) (by rw[P9 la];exact hj);omega
theorem Mz(n m:Nat):Low n (m % 2^n):=fun j hj=>by
 rw[Nat.testBit_mod_two_pow,BG,CJ]at hj;exact hj.1
theorem Vx(n m:Nat):jn n (m % 2^n) (m / 2^n)=m:=Nat.div_add_mod m (2^n)
theorem Il{a' b':Nat}(la:Low n a)(la':Low n a')(e:jn n a b=jn n a' b'):a=a'/\b=b':=by
 have h:∀j,(jn n a b).testBit j =(jn n a' b').testBit j:=fun j=>by rw[e]
 refine⟨CN fun j=>?_,CN fun j=>?_⟩
 .by_cases c:j<n
  .rw[<-Q7 la c (b:=b),h,Q7 la' c]
  .rw[BM.mpr fun z=>c (la j z),BM.mpr fun z=>c (la' j z)]
 .rw[<-P9 la,h,P9 la']
theorem Mx{a' b':Nat}(la:Low n a)(la':Low n a'):Sub (jn n a b) (jn n a' b')↔Sub a a'/\Sub b b':=by
 constructor
 .refine fun h=>⟨fun j hj=>?_,fun j hj=>?_⟩
  .have c:=la j hj;have:=h j (by rw[Q7 la c];exact hj)
   rwa [Q7 la' c]at this
  .have:=h (n+j) (by rw[P9 la];exact hj)
   rwa [P9 la']at this
 .rintro⟨h1,h2⟩ j hj;rw[Cy la]at hj;rw[Cy la'];by_cases c:j<n
  .rw[AO c]at hj⊢;exact h1 j hj
  .rw[AK c]at hj⊢;exact h2 _ hj
theorem Rj(ie:InE n es)(la:Low n a){x:Nat}(h:x<n):Hi (es++sh n fs) (jn n a b) x↔Hi es a x:=by
 constructor
 .rintro⟨k,hk,e⟩;rcases(Q0 ie).mp e with⟨h1,_,h3⟩ | ⟨_,h2,_⟩
  .exact⟨k,by rwa [Q7 la h1]at hk,h3⟩
  .omega
 .rintro⟨k,hk,e⟩;exact⟨k,by rw[Q7 la (la k hk)];exact hk,(Q0 ie).mpr (.inl ⟨la k hk,h,e⟩)⟩
theorem Rv(ie:InE n es)(la:Low n a){x:Nat}:Hi (es++sh n fs) (jn n a b) (n+x)↔Hi fs b x:=by
 constructor
 .rintro⟨k,hk,e⟩;rcases(Q0 ie).mp e with⟨_,h2,_⟩ | ⟨h1,_,h3⟩
  .omega
  .refine⟨k-n,?_,by rwa [CO]at h3⟩;have:n +(k-n)=k:=by omega
   rw[<-this,P9 la]at hk;exact hk
 .rintro⟨k,hk,e⟩;exact⟨n+k,by rw[P9 la];exact hk,(Q0 ie).mpr (.inr ⟨CY ..,CY ..,by rw[CO,CO];exact e⟩)⟩
theorem Tl(ie:InE n es)(la:Low n a){j:Nat}(h:j<n):Ke (es++sh n fs) (jn n a b) j↔Ke es a j:=by
 constructor
 .exact fun z x e=>(Rj ie la (ie x j e).1).mp (z x ((Q0 ie).mpr (.inl ⟨(ie x j e).1,h,e⟩)))
 .intro z x e;rcases(Q0 ie).mp e with⟨h1,_,h3⟩ | ⟨_,h2,_⟩
  .exact(Rj ie la h1).mpr (z x h3)
  .omega
theorem Ti(ie:InE n es)(la:Low n a){j:Nat}:Ke (es++sh n fs) (jn n a b) (n+j)↔Ke fs b j:=by
 constructor
 .exact fun z x e=>(Rv ie la).mp (z (n+x) ((Q0 ie).mpr (.inr ⟨CY ..,CY ..,by rw[CO,CO];exact e⟩)))
 .intro z x e;rcases(Q0 ie).mp e with⟨_,h2,_⟩ | ⟨h1,_,h3⟩
  .omega
  .rw[CO]at h3;have:n +(x-n)=x:=by omega
   rw[<-this];exact(Rv ie la).mpr (z _ h3)
theorem zAo(ie:InE n es)(la:Low n a):Qu (es++sh n fs) (jn n a b)↔Qu es a/\Qu fs b:=by
 constructor
 .refine fun h=>⟨fun i j hi hj e=>?_,fun i j hi hj e=>?_⟩
  .exact h i j (by rw[Q7 la (la i hi)];exact hi) (by rw[Q7 la (la j hj)];exact hj) (EI _ e)
  .exact h (n+i) (n+j) (by rw[P9 la];exact hi) (by rw[P9 la];exact hj) ((Q0 ie).mpr (.inr ⟨CY ..,CY ..,by rw[CO,CO];exact e⟩))
 .rintro⟨h1,h2⟩ i j hi hj e;rcases(Q0 ie).mp e with⟨c1,c2,h3⟩ | ⟨c1,c2,h3⟩
  .exact h1 i j (by rwa [Q7 la c1]at hi) (by rwa [Q7 la c2]at hj) h3
  .have e1:n +(i-n)=i:=by omega
   have e2:n +(j-n)=j:=by omega
   rw[<-e1,P9 la]at hi;rw[<-e2,P9 la]at hj;exact h2 _ _ hi hj h3
theorem Nn{p:Nat->Prop}{n k:Nat}:(∀j,j<n+k->p j)↔(∀j,j<n->p j)/\∀j,j<k->p (n+j) :=
 ⟨fun h=>⟨fun j hj=>h j (by omega),fun j hj=>h _ (by omega)⟩,fun⟨h1,h2⟩ j hj=>by
  by_cases c:j<n
  .exact h1 j c
  .have:=h2 (j-n) (by omega)
   rwa [Nat.add_sub_cancel' (by omega)]at this⟩
theorem StE.iff:StE n es m↔Low n m/\Qu es m/\∀j,j<n->m.testBit j=true->Ke es m j :=
 ⟨fun h=>⟨h.1,h.2.1,fun j _=>h.2.2 j⟩,fun h=>⟨h.1,h.2.1,fun j z=>h.2.2 j (h.1 j z) z⟩⟩
theorem Zl(ie:InE n es)(la:Low n a):StE (n+k) (es++sh n fs) (jn n a b)↔StE n es a/\StE k fs b:=by
 rw[StE.iff,StE.iff,StE.iff,zAo ie la,Nn];constructor
 .rintro⟨h1,⟨h2,h3⟩,h4,h5⟩;exact⟨⟨la,h2,fun j c z=>(Tl ie la c).mp (h4 j c (by rw[Q7 la c];exact z))⟩,Qj la h1,h3,fun j c z=>(Ti ie la).mp (h5 j c (by rw[P9 la];exact z))⟩
 .rintro⟨⟨_,h2,h4⟩,lb,h3,h5⟩;exact⟨Vc la lb,⟨h2,h3⟩,fun j c z=>(Tl ie la c).mpr (h4 j c (by rwa [Q7 la c]at z)),fun j c z=>(Ti ie la).mpr (h5 j c (by rwa [P9 la]at z))⟩
theorem Qt(ie:InE n es)(la:Low n a):WhE (n+k) (es++sh n fs) (jn n a b)↔WhE n es a/\WhE k fs b:=by
 unfold WhE;rw[Zl ie la,Nn];constructor
 .rintro⟨⟨h1,h2⟩,h3,h4⟩;exact⟨⟨h1,fun j c z=>by have:=h3 j c ((Tl ie la c).mpr z);rwa [Q7 la c]at this⟩,h2,fun j c z=>by have:=h4 j c ((Ti ie la).mpr z);rwa [P9 la]at this⟩
 .rintro⟨⟨h1,h3⟩,h2,h4⟩;exact⟨⟨h1,h2⟩,fun j c z=>by rw[Q7 la c];exact h3 j c ((Tl ie la c).mp z),fun j c z=>by rw[P9 la];exact h4 j c ((Ti ie la).mp z)⟩
theorem zDw(ie:InE n es)(la:Low n a):OuE (n+k) (es++sh n fs) (jn n a b)↔OuE n es a/\OuE k fs b:=by
 unfold OuE;rw[zAo ie la,Nn];constructor
 .rintro⟨h1,⟨h2,h3⟩,h4,h5⟩;exact⟨⟨la,h2,fun j c z=>(Rj ie la c).mp (h4 j c (by rw[Q7 la c];exact z))⟩,Qj la h1,h3,fun j c z=>(Rv ie la).mp (h5 j c (by rw[P9 la];exact z))⟩
 .rintro⟨⟨_,h2,h4⟩,lb,h3,h5⟩;exact⟨Vc la lb,⟨h2,h3⟩,fun j c z=>(Rj ie la c).mpr (h4 j c (by rwa [Q7 la c]at z)),fun j c z=>(Rv ie la).mpr (h5 j c (by rwa [P9 la]at z))⟩
theorem zDh(ie:InE n es)(la:Low n a):MxE (n+k) (es++sh n fs) (jn n a b)↔MxE n es a/\MxE k fs b:=by
 unfold MxE;rw[Qt ie la];constructor
 .rintro⟨⟨h1,h2⟩,h⟩;refine⟨⟨h1,fun m' w s=>?_⟩,h2,fun m' w s=>?_⟩
  .exact(Il w.1.1 la (h (jn n m' b) ((Qt ie w.1.1).mpr ⟨w,h2⟩) ((Mx la w.1.1).mpr ⟨s,fun j y=>y⟩))).1
  .exact(Il la la (h (jn n a m') ((Qt ie la).mpr ⟨h1,w⟩) ((Mx la la).mpr ⟨fun j y=>y,s⟩))).2
 .rintro⟨⟨h1,g1⟩,h2,g2⟩;refine⟨⟨h1,h2⟩,fun m' w s=>?_⟩;have lm:=Mz n m';rw[<-Vx n m']at w s⊢;obtain⟨w1,w2⟩:=(Qt ie lm).mp w;obtain⟨s1,s2⟩:=(Mx la lm).mp s;rw[g1 _ w1 s1,g2 _ w2 s2]
end
def CntE(p:Nat->Prop)(c:Nat):Prop:=∃Ms:List Nat,Ms.Nodup/\(∀m,m∈Ms↔p m)/\Ms.length=c
theorem Cz{α:Type}(c:Nat):∀l:List α,(l.map fun _=>c).sum=l.length*c
 | []=>by simp
 | x::l=>by rw[AW,FL,Cz c l,BL,Nat.succ_mul,Nat.add_comm]
theorem CntE.jo{n c d:Nat}{p q r:Nat->Prop}(h:∀a b,Low n a->(r (jn n a b)↔p a/\q b))(lp:∀a,p a->Low n a)(hp:CntE p c)(hq:CntE q d):CntE r (c*d):=by
 obtain⟨Ms,nM,mM,rfl⟩:=hp;obtain⟨Ns,nN,mN,rfl⟩:=hq;refine⟨Ms.flatMap fun a=>Ns.map fun b=>jn n a b,?_,fun m=>?_,?_⟩
 .refine List.pairwise_flatMap.mpr ⟨fun a ha=>?_,(DH.mp nM).imp fun{a a'} ⟨ha,ha',ne⟩ x hx y hy e=>?_⟩
  .have la:=lp a ((mM a).mp ha);exact(BQ.mpr (nN.imp fun{b b'} ne e=>ne (Il la la e).2))
  .obtain⟨b,_,rfl⟩:=AI.mp hx;obtain⟨b',_,rfl⟩:=AI.mp hy;exact ne (Il (lp _ ((mM _).mp ha)) (lp _ ((mM _).mp ha')) e).1
 .rw[List.mem_flatMap];constructor
  .rintro⟨a,ha,hm⟩;obtain⟨b,hb,rfl⟩:=AI.mp hm;have pa:=(mM a).mp ha;exact(h a b (lp a pa)).mpr ⟨pa,(mN b).mp hb⟩
  .intro hr;rw[<-Vx n m]at hr;obtain⟨h1,h2⟩:=(h _ _ (Mz n m)).mp hr;exact⟨_,(mM _).mpr h1,AI.mpr ⟨_,(mN _).mpr h2,Vx n m⟩⟩
 .rw[List.length_flatMap];simp only[AB];exact Cz _ _
theorem CntE.one{p:Nat->Prop}{c d:Nat}(h:CntE p c)(h':CntE p d):c=d:=by
 obtain⟨Ms,nM,mM,rfl⟩:=h;obtain⟨Ns,nN,mN,rfl⟩:=h';exact((FT nM nN).mpr fun m=>(mM m).trans (mN m).symm).length_eq
def quB(es:Ed)(m:Nat):Bool:=es.all fun e=>!(m.testBit e.1&&m.testBit e.2)
def hiB(es:Ed)(m x:Nat):Bool:=es.any fun e=>m.testBit e.1&&e.2 == x
def keB(es:Ed)(m j:Nat):Bool:=es.all fun e=>!(e.2 == j)||hiB es m e.1
def stB(n:Nat)(es:Ed)(m:Nat):Bool:=quB es m &&(List.range n).all fun j=>!m.testBit j||keB es m j
def whB(n:Nat)(es:Ed)(m:Nat):Bool:=stB n es m &&(List.range n).all fun j=>!keB es m j||m.testBit j
def ouB(n:Nat)(es:Ed)(m:Nat):Bool:=quB es m &&(List.range n).all fun j=>m.testBit j||hiB es m j
def mxB(n:Nat)(es:Ed)(m:Nat):Bool:=whB n es m &&(List.range (2^n)).all fun z=>!(whB n es z&&m &&& z == m)||z == m
theorem imp_b{a b:Bool}:(!a||b)=true↔(a=true->b=true):=by cases a<;>cases b<;>decide
theorem Qn{es:Ed}{m:Nat}:quB es m=true↔Qu es m:=by
 unfold quB Qu;rw[EA];constructor
 .intro h i j hi hj e;have:=h _ e;rw[hi,hj]at this;cases this
 .rintro h ⟨i,j⟩ e;rw[EK,Bool.and_eq_false_iff,<-Bool.not_eq_true,<-Bool.not_eq_true];by_cases c:m.testBit i=true
  .exact .inr fun d=>h i j c d e
  .exact .inl c
theorem hiB_iff{es:Ed}{m x:Nat}:hiB es m x=true↔Hi es m x:=by
 unfold hiB Hi;rw[HE];constructor
 .rintro⟨⟨i,j⟩,e,h⟩;rw[BG,beq_iff_eq]at h;obtain⟨h1,rfl⟩:=h;exact⟨i,h1,e⟩
 .rintro⟨k,hk,e⟩;exact⟨_,e,by rw[hk,beq_self_eq_true];rfl⟩
theorem keB_iff{es:Ed}{m j:Nat}:keB es m j=true↔Ke es m j:=by
 unfold keB Ke;rw[EA];constructor
 .intro h x e;exact hiB_iff.mp (imp_b.mp (h _ e) (beq_self_eq_true j))
 .rintro h ⟨x,y⟩ e;refine imp_b.mpr fun z=>?_;have z:=beq_iff_eq.mp z;subst z;exact hiB_iff.mpr (h x e)
theorem rng_all{n:Nat}{f:Nat->Bool}:(List.range n).all f=true↔∀j,j<n->f j=true:=by
 rw[EA];exact⟨fun h j hj=>h j (BV.mpr hj),fun h j hj=>h j (BV.mp hj)⟩
theorem Gc{n:Nat}{es:Ed}{m:Nat}(lo:Low n m):stB n es m=true↔StE n es m:=by
 unfold stB;rw[BG,Qn,rng_all,StE.iff];exact⟨fun h=>⟨lo,h.1,fun j c z=>keB_iff.mp (imp_b.mp (h.2 j c) z)⟩,fun h=>⟨h.2.1,fun j c=>imp_b.mpr fun z=>keB_iff.mpr (h.2.2 j c z)⟩⟩
theorem r9{n:Nat}{es:Ed}{m:Nat}(lo:Low n m):whB n es m=true↔WhE n es m:=by
 unfold whB WhE;rw[BG,Gc lo,rng_all];exact⟨fun h=>⟨h.1,fun j c z=>imp_b.mp (h.2 j c) (keB_iff.mpr z)⟩,fun h=>⟨h.1,fun j c=>imp_b.mpr fun z=>h.2 j c (keB_iff.mp z)⟩⟩
theorem Qr{n:Nat}{es:Ed}{m:Nat}(lo:Low n m):ouB n es m=true↔OuE n es m:=by
 unfold ouB OuE;rw[BG,Qn,rng_all];constructor
 .refine fun h=>⟨lo,h.1,fun j c z=>?_⟩;have:=h.2 j c;rw[CC]at this;exact hiB_iff.mp (this.resolve_left z)
 .refine fun h=>⟨h.2.1,fun j c=>?_⟩;rw[CC];by_cases z:m.testBit j=true
  .exact .inl z
  .exact .inr (hiB_iff.mpr (h.2.2 j c z))
theorem Vi{n m:Nat}(h:m<2^n):Low n m:=fun j hj=>by
 refine Classical.byContradiction fun c=>?_;rw[Nat.testBit_lt_two_pow (BH h (Nat.pow_le_pow_right (by decide) (by omega)))]at hj;cases hj
theorem sub_and{m z:Nat}:(m &&& z == m)=true↔Sub m z:=by
 rw[beq_iff_eq];constructor
 .intro e j hj;rw[<-e,DY,BG]at hj;exact hj.2
 .exact fun h=>CN fun j=>by
   rw[DY,C_,BG];exact⟨(·.1),fun z=>⟨z,h j z⟩⟩
theorem Nf{n:Nat}{es:Ed}{m:Nat}(lo:Low n m):mxB n es m=true↔MxE n es m:=by
 unfold mxB MxE;rw[BG,r9 lo,rng_all];constructor
 .exact fun h=>⟨h.1,fun z w s=>beq_iff_eq.mp (imp_b.mp (h.2 z w.1.1.lt) (BG _ _▸⟨(r9 w.1.1).mpr w,sub_and.mpr s⟩))⟩
 .refine fun h=>⟨h.1,fun z c=>imp_b.mpr fun y=>?_⟩;rw[BG]at y;exact beq_iff_eq.mpr (h.2 z ((r9 (Vi c)).mp y.1) (sub_and.mp y.2))
theorem Y3{n:Nat}{p:Nat->Prop}(f:Nat->Bool)(lp:∀m,p m->Low n m)(h:∀m,Low n m->(f m=true↔p m)):CntE p ((List.range (2^n)).filter f).length :=
 ⟨_,GJ.nodup HC,fun m=>by
  rw[B_,BV];exact⟨fun z=>(h m (Vi z.1)).mp z.2,fun z=>⟨(lp m z).lt,(h m (lp m z)).mpr z⟩⟩,rfl⟩
structure PC where
 k:Nat
 es:Ed
 cs:List Nat
def kinds8:List PC:=[⟨1,[],[2,1,1,1]⟩,⟨2,[(0,1),(1,0)],[3,3,2,2]⟩,⟨3,[(0,1),(1,2),(2,0)],[1,1,1,0]⟩,⟨4,[(0,1),(1,2),(2,3),(3,0)],[3,3,2,2]⟩,
 ⟨3,[(0,1),(1,0),(1,2),(2,1),(0,2),(2,0)],[4,4,3,3]⟩,⟨1,[(0,0)],[1,1,1,0]⟩,⟨2,[(0,1)],[2,1,1,1]⟩,⟨3,[(0,1),(1,0),(0,2),(2,0)],[5,3,2,2]⟩]
def okB(p:PC):Bool:=(p.es.all fun e=>decide (e.1<p.k)&&decide (e.2<p.k))&&decide (p.cs = [stB p.k p.es,whB p.k p.es,mxB p.k p.es,ouB p.k p.es].map fun f=>((List.range (2^p.k)).filter f).length)&&decide (p.es.length<=2*p.k)&&decide ((p.cs.getD 2 0)^3<=3^p.k)&&decide (p.es.Nodup)&&decide (1<=p.k)&&decide (∀c∈p.cs,c<=5)
theorem Ta:∀p∈kinds8,okB p=true:=by decide +kernel
def Cnt4(n:Nat)(es:Ed)(cs:List Nat):Prop:=∃a b c d,cs = [a,b,c,d]/\CntE (StE n es) a/\CntE (WhE n es) b/\CntE (MxE n es) c/\CntE (OuE n es) d
structure Pok(p:PC):Prop where
 ie:InE p.k p.es
 ct:Cnt4 p.k p.es p.cs
 le:p.es.length<=2*p.k
 mx:(p.cs.getD 2 0)^3<=3^p.k
 nd:p.es.Nodup
 k1:1<=p.k
 c5:∀c∈p.cs,c<=5
theorem Uq{p:PC}(h:p∈kinds8):Pok p:=by
 have:=Ta p h;unfold okB at this;simp only[BG,decide_eq_true_eq]at this;obtain⟨⟨⟨⟨⟨⟨h1,h2⟩,h3⟩,h4⟩,h5⟩,h6⟩,h7⟩:=this;refine⟨fun i j e=>?_,⟨_,_,_,_,h2,?_,?_,?_,?_⟩,h3,h4,h5,h6,h7⟩
 .have:=EA.mp h1 _ e;rw[BG,decide_eq_true_eq,decide_eq_true_eq]at this;exact this
 .exact Y3 _ (fun m z=>z.1) fun m lo=>Gc lo
 .exact Y3 _ (fun m z=>z.1.1) fun m lo=>r9 lo
 .exact Y3 _ (fun m z=>z.1.1.1) fun m lo=>Nf lo
 .exact Y3 _ (fun m z=>z.1) fun m lo=>Qr lo
theorem Cnt4.jo{n k:Nat}{es fs:Ed}{cs ds:List Nat}(ie:InE n es)(h:Cnt4 n es cs)(h':Cnt4 k fs ds):Cnt4 (n+k) (es++sh n fs) (List.zipWith (· * ·) cs ds):=by
 obtain⟨a,b,c,d,rfl,h1,h2,h3,h4⟩:=h;obtain⟨a',b',c',d',rfl,g1,g2,g3,g4⟩:=h';exact⟨_,_,_,_,rfl,h1.jo (fun _ _ la=>Zl ie la) (fun _ z=>z.1) g1,h2.jo (fun _ _ la=>Qt ie la) (fun _ z=>z.1.1) g2,h3.jo (fun _ _ la=>zDh ie la) (fun _ z=>z.1.1.1) g3,h4.jo (fun _ _ la=>zDw ie la) (fun _ z=>z.1) g4⟩
theorem Cnt4.nil:Cnt4 0 [] [1,1,1,1]:=by
 refine⟨_,_,_,_,rfl,?_,?_,?_,?_⟩
 .exact Y3 (n:=0) _ (fun m z=>z.1) fun m lo=>Gc lo
 .exact Y3 (n:=0) _ (fun m z=>z.1.1) fun m lo=>r9 lo
 .exact Y3 (n:=0) _ (fun m z=>z.1.1.1) fun m lo=>Nf lo
 .exact Y3 (n:=0) _ (fun m z=>z.1) fun m lo=>Qr lo
def El(K:PySem.W.Frag)(H:Hp)(x:Addr×PyData×List V):Prop:=H x.1=some (.lst x.2.2)/\x.2.2.length<=1000/\PyData.canLay0 x.2.1=true/\x.2.1.depth<=10/\∀H':Hp,H' x.1=some (.lst x.2.2)->(∀b ys,H b=some (.tup ys)->H' b=some (.tup ys))->Rp K H' x.2.1 (.ref x.1)
theorem El.keep{K:PySem.W.Frag}{H H':Hp}{x:Addr×PyData×List V}(h:El K H x)(e:H' x.1=some (.lst x.2.2))(t:∀b ys,H b=some (.tup ys)->H' b=some (.tup ys)):El K H' x:=⟨e,h.2.1,h.2.2.1,h.2.2.2.1,fun G eG tG=>h.2.2.2.2 G eG fun b ys z=>tG b ys (t b ys z)⟩
theorem El.same{K:PySem.W.Frag}{H H':Hp}{x:Addr×PyData×List V}(h:El K H x)(s:Same H H'):El K H' x:=h.keep (s _ _ h.1) fun b ys e=>s _ _ e
theorem El.rp{K:PySem.W.Frag}{H:Hp}{x:Addr×PyData×List V}(h:El K H x):Rp K H x.2.1 (.ref x.1):=h.2.2.2.2 H h.1 fun _ _ e=>e
theorem Vf{K:PySem.W.Frag}{H:Hp}:∀{us:List (Addr×PyData×List V)},(∀x∈us,El K H x)->Rps K H (us.map fun x=>x.2.1) (us.map fun x=>V.ref x.1)
 | [],_=>by simp[Rps]
 | x::us,h=>by
  show Rps K H (x.2.1::us.map fun x=>x.2.1) (V.ref x.1::us.map fun x=>V.ref x.1);simp only[Rps];exact⟨_,_,rfl,(h x (BE ..)).rp,Vf fun y hy=>h y (AX _ hy)⟩
theorem zDf{K:PySem.W.Frag}{H:Hp}{r:Addr}{us:List (Addr×PyData×List V)}(hr:H r=some (.lst (us.map fun x=>V.ref x.1)))(h:∀x∈us,El K H x):Rp K H (.list (us.map fun x=>x.2.1)) (.ref r):=by
 simp only[Rp];exact⟨r,_,rfl,SqL.of hr,Vf h⟩
theorem zDj{K:PySem.W.Frag}{H:Hp}{us:List (Addr×PyData×List V)}(h:∀x∈us,El K H x):Pl (.list (us.map fun x=>x.2.1)):=by
 have h1:∀us:List (Addr×PyData×List V),(∀x∈us,El K H x)->PyData.canLayAll0 (us.map fun x=>x.2.1)=true/\PyData.depthAll (us.map fun x=>x.2.1)<=10:=fun us=>by
  induction us with
  | nil=>exact fun _=>⟨rfl,by simp[PyData.depthAll]⟩
  | cons x us ih =>
   intro h;obtain⟨i1,i2⟩:=ih fun u hu=>h u (AX _ hu);obtain⟨_,_,c,d,_⟩:=h x (BE ..);rw[AW,PyData.canLayAll0,PyData.depthAll,c,i1];exact⟨rfl,by omega⟩
 obtain⟨a,b⟩:=h1 us h;refine⟨by rw[PyData.canLay0];exact a,?_⟩;rw[PyData.depth];omega
def elS(t:Addr×List Str):Addr×PyData×List V:=(t.1,sd t.2,t.2.map V.str)
def elP(t:LP):Addr×PyData×List V:=(t.1,.list ((nw t.2).map pd),t.2.map fun r=>V.ref r.1)
theorem zBm{K:PySem.W.Frag}{H:Hp}{t:Addr×List Str}(e:H t.1=some (.lst (t.2.map V.str)))(nm:∀y∈t.2,K8 y=true)(l:t.2.length<=100):El K H (elS t):=by
 refine⟨e,?_,(Xi nm).1,?_,fun H' e' _=>Vs (SqL.of e')⟩
 .show(t.2.map V.str).length<=1000;rw[AB];omega
 .show(sd t.2).depth<=10;unfold sd;rw[PyData.depth];have:=W1 t.2;omega
theorem Yz{K:PySem.W.Frag}{H:Hp}{t:LP}(e:LPIn H t)(ok:∀q∈t.2,PySem.PyData.strOk q.2.1=true/\PySem.PyData.strOk q.2.2=true)(l:t.2.length<=100):El K H (elP t):=by
 have em:(nw t.2).map pd=t.2.map fun q=>pd q.2:=by unfold nw;rw[CH];rfl
 refine⟨e.1,?_,?_,?_,fun H' e' tp=>?_⟩
 .show(t.2.map fun r=>V.ref r.1).length<=1000;rw[AB];omega
 .show PyData.canLay0 (.list ((nw t.2).map pd))=true;rw[em,PyData.canLay0];exact Pp ok
 .show(PyData.list ((nw t.2).map pd)).depth<=10;rw[em,PyData.depth];have:=y4 t.2;omega
 .show Rp K H' (.list ((nw t.2).map pd)) (.ref t.1);rw[em];exact Rz e' fun q hq=>tp _ _ (e.2 q hq)
theorem Ct{ss hs:List Str}{n:Str}:O7 ss hs n = "in" ↔n∈ss:=by
 unfold O7;by_cases h:n∈ss
 .rw[AO h];exact⟨fun _=>h,fun _=>rfl⟩
 .rw[AK h];by_cases h':n∈hs
  .rw[AO h'];exact⟨fun z=>absurd z (by decide),fun z=>absurd z h⟩
  .rw[AK h'];exact⟨fun z=>absurd z (by decide),fun z=>absurd z h⟩
theorem T6{ns:List Str}{m j:Nat}{y:Str}(nd:ns.Nodup)(hj:ns[j]?=some y):m.testBit j=true↔y∈setOf ns m:=by
 rw[Qc];refine⟨fun h=>⟨j,h,hj⟩,fun⟨k,hk,e⟩=>?_⟩;rw[(List.getElem?_inj (AH.mp hj).1 nd).mp (hj.trans e.symm)];exact hk
theorem Nh{ns:List Str}{a b:Nat}(nd:ns.Nodup)(la:Low ns.length a)(lb:Low ns.length b)(e:setOf ns a=setOf ns b):a=b:=CN fun j=>by
 rw[C_];by_cases hj:j<ns.length
 .have ej:ns[j]?=some ns[j]:=AC hj;rw[T6 nd ej,T6 nd ej,e]
 .exact⟨fun z=>absurd (la j z) hj,fun z=>absurd (lb j z) hj⟩
theorem m8:∀a b:List Str,PyData.eqvAll (a.map PyData.str) (b.map PyData.str)=decide (a=b)
 | [],[]=>by simp[PyData.eqvAll]
 | [],_::_=>by simp[PyData.eqvAll]
 | _::_,[]=>by simp[PyData.eqvAll]
 | x::a,y::b=>by
  rw[AW,AW,PyData.eqvAll,m8 a b,PyData.eqv];by_cases h1:x=y
  .by_cases h2:a=b
   .rw[AZ h2,h1,h2];simp
   .rw[AN h2];simp[h2]
  .simp[h1]
theorem Zw(a b:List Str):PyData.eqv (sd a) (sd b)=decide (a=b):=by
 unfold sd;rw[PyData.eqv,m8]
theorem Ag:∀a b:List (Str×Str),PyData.eqvAll (a.map pd) (b.map pd)=decide (a=b)
 | [],[]=>by simp[PyData.eqvAll]
 | [],_::_=>by simp[PyData.eqvAll]
 | _::_,[]=>by simp[PyData.eqvAll]
 | x::a,y::b=>by
  rw[AW,AW,PyData.eqvAll,Ag a b,Zy];by_cases h1:x=y
  .by_cases h2:a=b
   .rw[AZ h2,h1,h2];simp
   .rw[AN h2];simp[h2]
  .simp[h1]
theorem Xr(a b:List (Str×Str)):PyData.eqv (.list (a.map pd)) (.list (b.map pd))=decide (a=b):=by
 rw[PyData.eqv,Ag]
def Unl(us:List (Addr×PyData×List V)):Prop:=us.Pairwise fun a b=>PyData.eqv a.2.1 b.2.1=false
theorem zEg{ts:List (Addr×List Str)}(h:(ts.map fun t=>t.2).Nodup):Unl (ts.map elS) :=
 BQ.mpr ((BQ.mp h).imp fun{a b} n=>(Zw a.2 b.2).trans (AN n))
theorem zCz{ts:List LP}(h:(ts.map fun t=>nw t.2).Nodup):Unl (ts.map elP) :=
 BQ.mpr ((BQ.mp h).imp fun{a b} n=>(Xr (nw a.2) (nw b.2)).trans (AN n))
theorem Ks{ns:List Str}{Ms:List Nat}(nd:ns.Nodup)(ndM:Ms.Nodup)(lo:∀m∈Ms,Low ns.length m):(Ms.map (setOf ns)).Nodup :=
 BQ.mpr ((DH.mp ndM).imp fun{_ _} ⟨ha,hb,n⟩ e=>n (Nh nd (lo _ ha) (lo _ hb) e))
theorem Hm{ns:List Str}{qs:List PA2}{Ms:List Nat}(nd:ns.Nodup)(ndM:Ms.Nodup)(lo:∀m∈Ms,Low ns.length m):(Ms.map fun m=>P2 ns qs (setOf ns m)).Nodup:=by
 refine BQ.mpr ((DH.mp ndM).imp fun{a b} ⟨ha,hb,n⟩ e=>n (CN fun j=>?_));rw[C_];by_cases hj:j<ns.length
 .have ej:ns[j]?=some ns[j]:=AC hj;have e:=(Prod.mk.inj (List.map_inj_left.mp e _ (EB hj))).2;unfold wrd at e;rw[T6 nd ej,T6 nd ej,<-Ct (hs:=(setOf ns a).flatMap (B6 qs)),e,Ct]
 .exact⟨fun z=>absurd (lo a ha j z) hj,fun z=>absurd (lo b hb j z) hj⟩
theorem Sz{ns:List Str}(nmn:∀y∈ns,K8 y=true)(zs:List PA2)(s:List Str):∀k∈P2 ns zs s,PySem.PyData.strOk k.1=true/\PySem.PyData.strOk k.2=true:=fun k hk=>by
 unfold P2 at hk;obtain⟨y,hy,rfl⟩:=AI.mp hk;refine⟨Jg (nmn y hy),?_⟩;show PySem.PyData.strOk (wrd zs s y)=true;unfold wrd O7;by_cases c:y∈s
 .rw[AO c];decide +kernel
 .rw[AK c];by_cases d:y∈s.flatMap (B6 zs)
  .rw[AO d];decide +kernel
  .rw[AK d];decide +kernel
def Vr(K:PySem.W.Frag)(CT:Addr)(H:Hp)(c:Nat)(Q:VK)(E:XK):Prop :=
 (c<=300->∀r us H',Same H H'->H' r=some (.lst (us.map fun x=>V.ref x.1))->(∀x∈us,El K H' x)->Unl us->us.length=c->Q (.ref r) H')/\(300<c->ThrownS CT [] H E)
def Xj(wd:Str)(Tg:Tgt)(c:Nat):Prop:=(wd = "standing"/\Tg=K2)\/(wd = "whole"/\Tg=G8)\/(wd = "tellings"/\Tg=G8)\/(wd = "greatest"/\Tg=MaxM G8/\c<=300)\/(wd = "outright"/\Tg=OutM)
section
variable{P:Program}{w:World}{K:PySem.W.Frag}{mg:Str->Option Value}{base:Heap}
theorem Tq{H H':Hp}{ns:List Str}{qs:List PA2}{Ms:List Nat}{c r:Addr}{ts:List (Addr×List Str)}{Q:VK}{E:XK}(ok:WebOk ns qs)(nm:∀y∈ns,K8 y=true)(nd:Ms.Nodup)(lo:∀m∈Ms,Low ns.length m)(t:Vr K c H Ms.length Q E)(le:Ms.length<=300)
  (s:Same H H') (e:H' r=some (.lst (ts.map fun t=>V.ref t.1))) (LL:LLn H H' ts) (pm:(ts.map fun t=>t.2).Perm (Ms.map (setOf ns))):Q (.ref r) H':=by
 refine t.1 le r (ts.map elS) H' s (by rw[CH];exact e) (fun x hx=>?_) (zEg (pm.nodup_iff.mpr (Ks ok.nd nd lo))) ?_
 .obtain⟨t,ht,rfl⟩:=AI.mp hx;obtain⟨m,_,em⟩:=AI.mp (pm.mem_iff.mp (AI.mpr ⟨t,ht,rfl⟩));have sub:t.2.Sublist ns:=em▸Fe ns m;exact zBm (LL.at_ t ht) (fun y hy=>nm y (sub.subset hy)) (Nat.le_trans sub.length_le ok.len)
 .have:=pm.length_eq;rw[AB,AB]at this;rw[AB,this]
theorem zCy{H H':Hp}{ns:List Str}{qs:List PA2}{Ms:List Nat}{c r:Addr}{ts:List LP}{Q:VK}{E:XK}(ok:WebOk ns qs)(nm:∀y∈ns,K8 y=true)(nd:Ms.Nodup)(lo:∀m∈Ms,Low ns.length m)(t:Vr K c H Ms.length Q E)(le:Ms.length<=300)
  (s:Same H H') (e:H' r=some (.lst (ts.map fun t=>V.ref t.1))) (LL:LPn H H' ts) (pm:(ts.map fun t=>nw t.2).Perm (Ms.map fun m=>P2 ns qs (setOf ns m))):Q (.ref r) H':=by
 refine t.1 le r (ts.map elP) H' s (by rw[CH];exact e) (fun x hx=>?_) (zCz (pm.nodup_iff.mpr (Hm ok.nd nd lo))) ?_
 .obtain⟨t,ht,rfl⟩:=AI.mp hx;obtain⟨m,_,em⟩:=AI.mp (pm.mem_iff.mp (AI.mpr ⟨t,ht,rfl⟩));refine Yz (LL.at_ t ht) (fun q hq=>Sz nm qs (setOf ns m) q.2 (by rw[em];exact AI.mpr ⟨q,hq,rfl⟩)) ?_;have:=congrArg List.length em;unfold P2 nw at this;rw[AB,AB]at this;have:=ok.len;omega
 .have:=pm.length_eq;rw[AB,AB]at this;rw[AB,this]
theorem X1:FnScope ["_law_word", "_law_web"] ["_law_word", "_law_web"] (B4 s_law_asked):=fsc
def Qg(K:PySem.W.Frag)(CW CT:Addr):Sp:=fun vs H Q E=>∃(wd:Str) (wb:Addr) (ns:List Str) (qs:List PA2) (c:Nat) (Tg:Tgt),vs = [.str wd,.ref wb]/\WebAt CW H wb ns qs/\ns.length<=12/\(∀y∈ns,K8 y=true) /\
 (∀A B,MB ns ((qs.map fun q=>q.2).map fun k=>(k.2,k.1)) A->MB ns (qs.map fun q=>q.2) B->CntE (Tg ns.length A B) c)/\Xj wd Tg c/\Vr K CT H c Q E
set_option maxHeartbeats 4000000 in
theorem Di(T:Tx K mg):FnOk P w K mg base (CXe P w) 22 T.aF.f T.aF.fd ["_law_word", "_law_web"] (Qg K T.ac T.ae):=by
 have G_standing_sets:=e9 (P:=P) (w:=w) (base:=base) T;have G_whole_sets:=V1 (P:=P) (w:=w) (base:=base) T;have G_outright_sets:=f9 (P:=P) (w:=w) (base:=base) T;have G_greatest_sets:=Z8 (P:=P) (w:=w) (base:=base) T;have G_tellings:=Gj (P:=P) (w:=w) (base:=base) T;have sc:=X1;refine T.aF.F.okE X1 (fun vs H Q E h=>?_) (fun cdv A outer s H vs Q E hr h=>?_)
 .obtain⟨wd,wb,ns,qs,c,Tg,rfl,_⟩:=h;rfl
 .obtain⟨wd,wb,ns,qs,c,Tg,rfl,hW,ln,nm,hc,h,q⟩:=h;have ok:=hW.1;have one:∀{A B Ms:List Nat},MB ns ((qs.map fun q=>q.2).map fun k=>(k.2,k.1)) A->MB ns (qs.map fun q=>q.2) B->Ms.Nodup->(∀m,m∈Ms↔Tg ns.length A B m)->Ms.length=c:=fun mA mB nd mm=>CntE.one ⟨_,nd,mm,rfl⟩ (hc _ _ mA mB);refine⟨_,(B0 (F4 (D4 d6 (pv 0) F3 (F0 _)) (B2 (C0 (J2 cxE.bx T.aI G_standing_sets (Rm hr) (A6 (pv 1) A8)))) C7)
   (B0 (F4 (D4 d6 (pv 0) F3 (F0 _)) (B2 (C0 (J2 cxE.bx T.aM G_whole_sets (Rm hr) (A6 (pv 1) A8)))) C7)
   (B0 (F4 (D4 d6 (pv 0) F3 (F0 _)) (B2 (C0 (J2 cxE.bx T.a0 G_tellings (Rm hr) (A6 (pv 1) A8)))) C7)
   (B0 (F4 (D4 d6 (pv 0) F3 (F0 _)) (B2 (C0 (J2 cxE.bx T.aJ G_greatest_sets (Rm hr) (A6 (pv 1) A8)))) C7)
   (B2 (C0 (J2 cxE.bx T.aK G_outright_sets (Rm hr) (A6 (pv 1) A8)))))))),?_⟩
  rcases h with⟨rfl,rfl⟩ | ⟨rfl,rfl⟩ | ⟨rfl,rfl⟩ | ⟨rfl,rfl,few⟩ | ⟨rfl,rfl⟩
  .refine ex1 rfl ⟨rfl,_,rfl,Ht ?_⟩;refine ex1 rfl ⟨wb,ns,qs,rfl,hW,ln,fun A' B' Ms mA mB nd mm=>?_⟩;obtain rfl:=one mA mB nd mm;exact⟨fun r ts H' le s _ e LL _ pm _=>Tq (c:=T.ae) ok nm nd (fun m hm=>((mm m).mp hm).1) q le s e LL pm,q.2⟩
  .refine ex1 rfl ⟨rfl,_,rfl,T0 (ex1 rfl ⟨rfl,_,rfl,Ht ?_⟩)⟩;refine ex1 rfl ⟨wb,ns,qs,rfl,hW,ln,fun A' B' Ms mA mB nd mm=>?_⟩;obtain rfl:=one mA mB nd mm;exact⟨fun r ts H' le s _ e LL _ pm _=>Tq (c:=T.ae) ok nm nd (fun m hm=>((mm m).mp hm).1.1) q le s e LL pm,q.2⟩
  .refine ex1 rfl ⟨rfl,_,rfl,T0 (ex1 rfl ⟨rfl,_,rfl,T0 (ex1 rfl ⟨rfl,_,rfl,Ht ?_⟩)⟩)⟩;refine ex1 rfl ⟨wb,ns,qs,rfl,hW,ln,fun A' B' Ms mA mB nd mm=>?_⟩;obtain rfl:=one mA mB nd mm;exact⟨fun r ts H' le s _ e LL _ pm _=>zCy (c:=T.ae) ok nm nd (fun m hm=>((mm m).mp hm).1.1) q le s e LL pm,q.2⟩
  .refine ex1 rfl ⟨rfl,_,rfl,T0 (ex1 rfl ⟨rfl,_,rfl,T0 (ex1 rfl ⟨rfl,_,rfl,T0 (ex1 rfl ⟨rfl,_,rfl,Ht ?_⟩)⟩)⟩)⟩;refine ex1 rfl ⟨wb,ns,qs,rfl,hW,ln,fun A' B' Ms mA mB nd mm=>?_⟩;obtain rfl:=one mA mB nd mm;exact⟨few,fun r ts H' s _ e LL _ pm _=>Tq (c:=T.ae) ok nm nd (fun m hm=>((mm m).mp hm).1.1.1) q few s e LL pm⟩
  .refine ex1 rfl ⟨rfl,_,rfl,T0 (ex1 rfl ⟨rfl,_,rfl,T0 (ex1 rfl ⟨rfl,_,rfl,T0 (ex1 rfl ⟨rfl,_,rfl,T0 ?_⟩)⟩)⟩)⟩;refine ex1 rfl ⟨wb,ns,qs,rfl,hW,ln,fun A' B' Ms mA mB nd mm=>?_⟩;obtain rfl:=one mA mB nd mm;exact⟨fun r ts H' le s _ e LL _ pm _=>Tq (c:=T.ae) ok nm nd (fun m hm=>((mm m).mp hm).1) q le s e LL pm,q.2⟩
end
theorem zBp{xs:List V}{k:Nat}(h:k<=xs.length):Lq xs none (some (k:Int))=xs.take k:=by
 unfold Lq;rw[HT.sIx_nat,HT.sIx_none,FW h];rfl
section
variable{P:Program}{w:World}{K:PySem.W.Frag}{mg:Str->Option Value}{base:Heap}
theorem Y1:FnScope ["_law_word", "_law_web", "_law_told", "_law_caught", "error", "_law_k", "_law_one"] ["_law_word", "_law_web"] (B4 s_law_count):=fsc
def Rn(CW:Addr):Sp:=fun vs H Q _=>∃(wd:Str) (wb:Addr) (ns:List Str) (qs:List PA2) (c:Nat) (Tg:Tgt),vs = [.str wd,.ref wb]/\WebAt CW H wb ns qs/\ns.length<=12/\(∀y∈ns,K8 y=true) /\
 (∀A B,MB ns ((qs.map fun q=>q.2).map fun k=>(k.2,k.1)) A->MB ns (qs.map fun q=>q.2) B->CntE (Tg ns.length A B) c)/\Xj wd Tg c/\(c<=300->∀H',Same H H'->Q (.int (c:Int)) H')/\(300<c->∀H',Same H H'->Q (.str "many") H')
set_option maxHeartbeats 4000000 in
theorem Fm(T:Tx K mg):FnOk P w K mg base CX0 23 T.aW.f T.aW.fd ["_law_word", "_law_web"] (Rn T.ac):=by
 have G_law_asked:=Di (P:=P) (w:=w) (base:=base) T;have sc:=Y1;refine T.aW.F.ok Y1 (fun vs H Q E h=>?_) (fun cdv A outer s H vs Q E hr h=>?_)
 .obtain⟨wd,wb,ns,qs,c,Tg,rfl,_⟩:=h;rfl
 .obtain⟨wd,wb,ns,qs,c,Tg,rfl,hW,ln,nm,hc,hs,q1,q2⟩:=h;refine⟨_,(B0 (C5 (i:=2) sc.nd rfl (.inl rfl) (D0 A8))
   (B0 (C5 (i:=3) sc.nd rfl (.inl rfl) Vm)
   (B0 (Wb (i:=4) (fun _ _ z=>z) rfl rfl sc.nd rfl rfl rfl T.bx T.bw (Xe (i:=2) sc.nd rfl (.inl rfl) (Rr (fun _ _ z=>z) G_law_asked (Rm hr) rfl T.aF.m T.aF.F.kp T.aF.b (@A6 _ _ _ _ _ (pv 0) (@A6 _ _ _ _ _ (pv 1) A8 (by rfl)) (by rfl))))
   (fun _=>(B2 (C5 (i:=3) sc.nd rfl (.inl rfl) (pv 4)))))
   (@B0 _ _ _ _ _ (@F4 _ _ _ _ _ _ _ _ (D4 Ys (pv 3) Vm (F0 _)) (@B0 _ _ _ _ _ (R9 PassesOwn.never rfl (piE K T.aE (A6 (pv 2) A8)) (pgT K (n:=2) (B8 (C3 (i:=5) sc.nd rfl (.inl rfl)) (B8 (C3 (i:=6) sc.nd rfl (.inl rfl)) F1)))
   (B2 (F4 (D4 (zCt K hr.units) (pv 6) (Io (slL K) (pv 2) Pu (On (pv 5))) rfl) (B2 (C0 F3)) C7)))
   (B2 (C0 (F2 (t6 K) T.aU X6 (A6 (pv 2) A8))))) C7)
   (@B0 _ _ _ _ _ (@F4 _ _ _ _ _ _ _ _ (J6 (F2 (Kp K) T.aB G0 (A6 (pv 3) (A6 (C2 (A6 (Y6 T.bM) (A6 (Y6 T.bO) (A6 (Y6 T.bE) (A6 (Y6 T.bF) (A6 (Y6 T.bQ) (A6 (Y6 T.bP) (A6 (Y6 T.bG) A8)))))))) A8)))) (B2 (C0 F3)) C7)
   (@B2 _ _ _ (@C0 _ _ _ _ (@E6 _ _ _ _ _ _ _ (ixL K) (@D0 _ _ _ _ (@A6 _ _ _ _ _ F3 (@A6 _ _ _ _ _ F3 A8 (by rfl)) (by rfl))) (Kl m9 T.bp Ng (A6 (Ve (F2 (Fq K) T.aB G0 (A6 (pv 3) (A6 (Y6 T.ba) A8))) (Uw (F2 (Fq K) T.aB G0 (A6 (pv 3) (A6 (Xx T.bD Br) A8))))) A8)) (fun _ _=>rfl))))))))),?_⟩
  refine B3 fun N1 hN1=>?_;refine⟨CD _,fun l0 hl0=>?_⟩;have u0:=Same.new (o:=.lst []) hl0;have W0:=hW.same u0;generalize upd H l0 (.lst [])=H0 at u0 W0⊢;refine hN1 _ _ (B3 fun N2 hN2=>?_);refine hN2 _ _ (B3 fun N3 hN3=>?_);refine ex1 rfl (ex1 rfl ⟨wd,wb,ns,qs,c,Tg,rfl,W0,ln,nm,hc,hs,fun le r us H1 s1 e1 el un lc=>?_,fun gt=>?_⟩)
  .refine hN3 _ _ (B3 fun N4 hN4=>?_);refine ex1 rfl ⟨rfl,true,rfl,Ht ?_⟩;have sH:=u0.trans s1;have lm:(us.map fun x=>V.ref x.1).length=us.length:=AB ..;refine B3 fun N5 hN5=>?_;refine ex1 rfl ⟨r,ex1 rfl ⟨SqL.of e1,Nw (n:=us.length) (fun i σ G=>(∃v5 v6,σ = [some (.str wd),some (.ref wb),some (.ref r),some .non,none,v5,v6])/\Same H1 G) ⟨⟨_,_,rfl⟩,Same.refl _⟩ ?_ ?_ ?_ ?_⟩⟩
   .rintro i σ G hi ⟨_,sG⟩;exact⟨_,_,SqL.of (sG _ _ e1),by rw[AJ,AC hi];rfl⟩
   .rintro σ G ⟨_,sG⟩;exact⟨_,SqL.of (sG _ _ e1),by rw[AB]⟩
   .rintro i σ G y H' hi ⟨⟨v2,v3,rfl⟩,sG⟩ ⟨tt,y,rfl,htt,rfl,hx⟩;have hx:=hx _ (SqL.of (sG _ _ e1));have hi':us[i]?=some us[i]:=AC hi;rw[AJ,hi']at hx;cases hx;refine⟨tt,ex1 rfl ⟨SqT.of A7,rfl,_,_,rfl,_,_,rfl,rfl,?_⟩⟩;have s2:=sG.trans (Same.new (o:=.tup [.int (i:Int),.ref us[i].1]) htt);generalize upd G tt (.tup [.int (i:Int),.ref us[i].1])=G1 at s2⊢;refine ex1 rfl (ex1 rfl (ex1 rfl ⟨_,rfl,r,_,rfl,SqL.of (s2 _ _ e1),fun z1 hz1=>?_⟩));have u1:=Same.new (o:=.lst (Lq (us.map fun x=>V.ref x.1) none (some (i:Int)))) hz1;have f1:(upd G1 z1 (.lst (Lq (us.map fun x=>V.ref x.1) none (some (i:Int))))) z1=some (.lst ((us.take i).map fun x=>V.ref x.1)):=by rw[A7,zBp (by rw[AB];omega),List.map_take]
    generalize upd G1 z1 (.lst (Lq (us.map fun x=>V.ref x.1) none (some (i:Int))))=G2 at u1 f1⊢;have s3:=s2.trans u1;have elI:∀x∈us.take i,El K G2 x:=fun x hx=>(el x (CK hx)).same s3;have eX:=(el us[i] (EB hi)).same s3;refine⟨us[i].2.1,_,eX.rp,.inl (zDf f1 elI),⟨eX.2.2.1,by have:=eX.2.2.2.1;omega⟩,?_,?_⟩
    .have:=(zDj elI).1;rw[PyData.canLay0]at this;exact this
    .have no:(((us.take i).map fun x=>x.2.1).any fun z=>PyData.eqv z us[i].2.1)=false:=List.any_eq_false.mpr fun z hz=>by
      obtain⟨x,hx,rfl⟩:=AI.mp hz;obtain⟨j,hj,ej⟩:=List.getElem_of_mem hx;rw[AY]at hj;rw[HX]at ej;have:=FV.mp un j i (by omega) hi (by omega);rw[ej]at this;rw[this];exact BB
     rw[no];exact⟨_,rfl,T0 ⟨⟨_,_,rfl⟩,s3⟩⟩
   .rintro σ G ⟨⟨v2,v3,rfl⟩,sG⟩;refine hN5 _ _ ?_;refine ex1 rfl (C1 (a:=r) rfl (.inl (SqL.of (sG _ _ e1))) ?_);have:=q1 le G (sH.trans sG);rw[<-lc,<-lm]at this;exact this
  .intro H1 y s1 ey;refine⟨T.ae,T.bN,rfl,T.a9,T.bl,fun y' ey'=>?_⟩;refine ex1 rfl (hN3 _ _ (B3 fun N4 hN4=>?_));refine ex1 rfl ⟨rfl,false,congrArg V.bl (AN fun z=>by cases z),T0 (hN4 _ _ (B3 fun N5 hN5=>?_))⟩;have s0:Same H H1:=u0.trans fun b o e=>s1 b o e BD;refine ex1 rfl ⟨by show 7<=sizeLine;decide,fun p hp=>?_⟩;have u6:=Same.new (o:=.tup ([T.bg,T.bi,T.a5,T.a7,T.bk,T.bj,T.a8].map V.ref)) hp;have ey6:=u6 _ _ ey';refine⟨y',T.ae,p,[T.bg,T.bi,T.a5,T.a7,T.bk,T.bj,T.a8],false,rfl,A7,ey6,T.bb,T.bc,T.bA,⟨_,rfl,T0 ?_⟩⟩;refine hN5 _ _ ?_;have s6:=s0.trans u6;refine⟨by show 2<=sizeLine;decide,fun kl hkl=>?_⟩;have u7:=Same.new (o:=.lst [.str "other",.str "many"]) hkl;have f7:(upd (upd H1 p (.tup ([T.bg,T.bi,T.a5,T.a7,T.bk,T.bj,T.a8].map V.ref))) kl (.lst [.str "other",.str "many"])) kl=some (.lst [.str "other",.str "many"]):=A7;have ey7:=u7 _ _ ey6;have s7:=s6.trans u7;refine ex1 rfl ⟨y',T.ae,_,_,true,rfl,rfl,ey7,T.bb,T.bc,T.bB,?_⟩;refine⟨true,rfl,?_⟩;refine Ht (ex1 rfl ⟨y',T.ae,_,_,true,rfl,rfl,ey7,T.bb,T.bc,T.bC,?_⟩);refine .inr ⟨true,rfl,?_⟩;exact⟨kl,_,_,_,rfl,rfl,SqL.of f7,rfl,q2 gt _ s7⟩
end
def PcAt(H:Hp)(a:Addr)(p:PC):Prop:=∃(l:Addr) (ts:List (Addr×(Nat×Nat))),H a=some (.tup (.int (p.k:Int) :: .ref l::p.cs.map D8))/\H l=some (.lst (ts.map fun t=>V.ref t.1))/\(∀t∈ts,H t.1=some (.tup [D8 t.2.1,D8 t.2.2]))/\(ts.map fun t=>t.2)=p.es
theorem PcAt.same{H H':Hp}{a:Addr}{p:PC}(h:PcAt H a p)(s:Same H H'):PcAt H' a p:=let⟨l,ts,e1,e2,e3,e4⟩:=h;⟨l,ts,s _ _ e1,s _ _ e2,fun t ht=>s _ _ (e3 t ht),e4⟩
def Nz:Ed->TA
 | []=>Cr
 | e::r=>K1 (Ur (K1 (tC (D8 e.1)) (K1 (tC (D8 e.2)) Cr))) (Nz r)
def Xn:List Nat->TA
 | []=>Cr
 | c::r=>K1 (tC (D8 c)) (Xn r)
def Dk(p:PC):TE:=Ur (K1 (tC (D8 p.k)) (K1 (Om (Nz p.es)) (Xn p.cs)))
def P5:List PC->TA
 | []=>Cr
 | p::r=>K1 (Dk p) (P5 r)
theorem Ix{σ:St}:∀(cs:List Nat) {H:Hp} {R:List V->Hp->Prop},R (cs.map D8) H->Xn cs σ H R
 | [],_,_,h=>h
 | c::r,H,R,h=>Ix r (R:=fun vs H'=>R (D8 c::vs) H') h
def PcNew(H0 H:Hp)(a:Addr)(p:PC):Prop:=∃(l:Addr) (ts:List (Addr×(Nat×Nat))),(H a=some (.tup (.int (p.k:Int) :: .ref l::p.cs.map D8))/\H0 a=none)/\(H l=some (.lst (ts.map fun t=>V.ref t.1))/\H0 l=none)/\(∀t∈ts,H t.1=some (.tup [D8 t.2.1,D8 t.2.2])/\H0 t.1=none)/\(ts.map fun t=>t.2)=p.es
theorem PcNew.at{H0 H:Hp}{a:Addr}{p:PC}(h:PcNew H0 H a p):PcAt H a p:=let⟨l,ts,e1,e2,e3,e4⟩:=h;⟨l,ts,e1.1,e2.1,fun t ht=>(e3 t ht).1,e4⟩
theorem PcNew.er{H0 H:Hp}{a r:Addr}{p:PC}{o:HO}(h:PcNew H0 H a p)(hr:H0 r=some o):PcAt (er H r) a p:=by
 have k:∀{b:Addr} {u:HO},H b=some u/\H0 b=none->Sw.er H r b=some u:=fun{b u} z=>by
  rw[o7 fun y=>by rw[y,hr]at z;cases z.2];exact z.1
 obtain⟨l,ts,e1,e2,e3,e4⟩:=h;exact⟨l,ts,k e1,k e2,fun t ht=>k (e3 t ht),e4⟩
theorem Db{σ:St}:∀(es:Ed) {H:Hp} {R:List V->Hp->Prop},(∀(ts:List (Addr×(Nat×Nat))) H',Same H H'->(∀t∈ts,H' t.1=some (.tup [D8 t.2.1,D8 t.2.2])/\H t.1=none)->(ts.map fun t=>t.2)=es->R (ts.map fun t=>V.ref t.1) H')->Nz es σ H R
 | [],H,R,h=>h [] H (Same.refl _) (fun _ z=>absurd z BD) rfl
 | e::r,H,R,h=>⟨by show 2<=sizeLine;decide,fun t ht=>Db r fun ts H' s a m=>h ((t,e)::ts) H' ((Same.new ht).trans s) (fun u hu=>(AV.mp hu).elim (fun z=>by rw[z];exact⟨s _ _ A7,ht⟩) fun z=>⟨(a u z).1,(Same.new ht).free (a u z).2⟩) (by rw[AW,m])⟩
theorem De{σ:St}{H:Hp}{R:V->Hp->Prop}(p:PC)(l1:p.es.length<=100)(l2:p.cs.length<=100)(h:∀a H',Same H H'->PcNew H H' a p->R (.ref a) H'):Dk p σ H R:=by
 refine Db p.es fun ts H1 s1 a1 m1=>⟨?_,fun l hl=>Ix p.cs ⟨?_,fun a ha=>?_⟩⟩
 .have:=congrArg List.length m1;rw[AB]at this;rw[AB,sizeLine_eq];omega
 .rw[BL,BL,AB,sizeLine_eq];omega
 .have ul:=Same.new (o:=.lst (ts.map fun t=>V.ref t.1)) hl;have ua:=Same.new (o:=.tup (D8 p.k :: .ref l::p.cs.map D8)) ha;exact h a _ (s1.trans (ul.trans ua)) ⟨l,ts,⟨A7,s1.free (ul.free ha)⟩,⟨ua _ _ A7,s1.free hl⟩,fun t ht=>⟨ua _ _ (ul _ _ (a1 t ht).1),(a1 t ht).2⟩,m1⟩
theorem Ae{σ:St}:∀(ps:List PC) {H:Hp} {R:List V->Hp->Prop},(∀p∈ps,p.es.length<=100/\p.cs.length<=100)->(∀(us:List (Addr×PC)) H',Same H H'->(∀u∈us,PcAt H' u.1 u.2)->(us.map fun u=>u.2)=ps->R (us.map fun u=>V.ref u.1) H')->P5 ps σ H R
 | [],H,R,_,h=>h [] H (Same.refl _) (fun _ z=>absurd z BD) rfl
 | p::r,H,R,l,h=>by
  show Dk p σ H fun x H1=>P5 r σ H1 fun xs H2=>R (x::xs) H2;refine De p (l p (BE ..)).1 (l p (BE ..)).2 fun a H1 s1 pa=>Ae r (fun q hq=>l q (AX _ hq)) fun us H' s' au m=>?_;exact h ((a,p)::us) H' (s1.trans s') (fun u hu=>(AV.mp hu).elim (fun z=>by rw[z];exact pa.at.same s') (au u)) (by rw[AW,m])
def KpAt(H0 H:Hp)(r:Addr)(us:List (Addr×PC)):Prop:=Same H0 H/\H0 r=none/\H r=some (.lst (us.map fun u=>V.ref u.1))/\∀u∈us,PcAt (er H r) u.1 u.2
theorem KpAt.all{H0 H:Hp}{r:Addr}{us:List (Addr×PC)}(h:KpAt H0 H r us):∀u∈us,PcAt H u.1 u.2:=fun u hu=>(h.2.2.2 u hu).same (K0 H r)
theorem Jt{σ:St}{H:Hp}{R:V->Hp->Prop}(ps:List PC)(l:∀p∈ps,p.es.length<=100/\p.cs.length<=100)(n:ps.length<=100)(h:∀r us H',KpAt H H' r us->(us.map fun u=>u.2)=ps->R (.ref r) H'):Om (P5 ps) σ H R:=by
 refine Ae ps l fun us H1 s1 a1 m1=>⟨?_,fun r hr=>?_⟩
 .have:=congrArg List.length m1;rw[AB]at this;rw[AB,sizeLine_eq];omega
 .refine h r us _ ⟨s1.trans (Same.new hr),s1.free hr,A7,fun u hu=>(a1 u hu).same fun b o e=>?_⟩ m1;have:b≠r:=A9 e hr;rw[o7 this,B5 this];exact e
section
variable{P:Program}{w:World}{K:PySem.W.Frag}{mg:Str->Option Value}{base:Heap}
theorem Pe{σ:St}{H0 H:Hp}{r:Addr}{us:List (Addr×PC)}{D:Ends}(p:PC)(l1:p.es.length<=100)(l2:p.cs.length<=100)(hσ:σ[0]?=some (some (.ref r)))(k:KpAt H0 H r us)(n:us.length<=100)(h:∀a H',KpAt H0 H' r (us ++ [(a,p)])->D.nx σ H') :
  Xt (tBM K "list" Gr (Y5 0) (K1 (Dk p) Cr)) D σ H:=by
 obtain⟨s0,hr,er0,al⟩:=k;refine⟨_,hσ,.inl ⟨rfl,_,SqL.of er0⟩,?_⟩;show Dk p σ H _;refine De p l1 l2 fun a H1 s1 pn=>⟨r,_,_,rfl,rfl,s1 _ _ er0,by rw[AB,sizeLine_eq];omega,h a _ ⟨(s0.trans s1).upd hr,hr,by rw[A7,AL];rfl,fun u hu=>?_⟩⟩;rw[Ka];rcases AU.mp hu with z | z
 .exact(al u z).same (Bh s1)
 .rw[AF.mp z];exact pn.er er0
theorem Pa{σ:St}{H0 H:Hp}{r:Addr}{us:List (Addr×PC)}{R:V->Hp->Prop}(ps:List PC)(l:∀p∈ps,p.es.length<=100/\p.cs.length<=100)(n:ps.length<=100)(hσ:σ[0]?=some (some (.ref r)))(k:KpAt H0 H r us)(n':us.length<=100)
  (h:∀r' vs H',(vs.map fun u=>u.2)=ps->KpAt H0 H' r' (us++vs)->R (.ref r') H'):tOp zCo (Y5 0) (Om (P5 ps)) σ H R:=by
 refine⟨_,hσ,Jt ps l n fun r1 vs H1 k1 m1=>?_⟩;have lv:=congrArg List.length m1;rw[AB]at lv;refine⟨r,r1,_,_,rfl,rfl,k1.1 _ _ k.2.2.1,k1.2.2.1,by rw[AB,AB,sizeLine_eq];omega,fun r2 h2=>h r2 vs _ m1 ⟨(k.1.trans k1.1).trans (Same.new h2),(k.1.trans k1.1).free h2,by rw[A7,AL],fun u hu=>?_⟩⟩;have up:Same H1 (er (upd H1 r2 (.lst ((us.map fun u=>V.ref u.1)++vs.map fun u=>V.ref u.1))) r2):=fun b o e=>by
  have:b≠r2:=A9 e h2;rw[o7 this,B5 this];exact e
 rcases AU.mp hu with z | z
 .exact((k.all u z).same k1.1).same up
 .exact(k1.all u z).same up
theorem X7:FnScope ["_law_some"] [] (B4 s_law_kinds):=fsc
def Ty:Sp:=fun vs H Q _=>vs = []/\∀r (us:List (Addr×PC)) H',Same H H'->H' r=some (.lst (us.map fun u=>V.ref u.1))->(∀u∈us,PcAt H' u.1 u.2)->(us.map fun u=>u.2)=kinds8->Q (.ref r) H'
set_option maxHeartbeats 4000000 in
theorem X3(T:Tx K mg):FnOk P w K mg base CX0 1 T.as.f T.as.fd [] Ty:=by
 have sc:=X7;refine T.as.F.ok X7 (fun vs H Q E h=>?_) (fun cdv A outer s H vs Q E hr h=>?_)
 .obtain⟨rfl,_⟩:=h;rfl
 .obtain⟨rfl,q⟩:=h;refine⟨_,(@B0 _ _ _ _ _ (@C5 _ _ 0 _ _ _ _ sc.nd rfl (.inl rfl) (@D0 _ _ _ _ (@A6 _ _ _ _ _ (@C2 _ _ _ _ _ (@A6 _ _ _ _ _ B1 (@A6 _ _ _ _ _ (D0 A8) (@A6 _ _ _ _ _ B1 (@A6 _ _ _ _ _ B1 (@A6 _ _ _ _ _ B1 (@A6 _ _ _ _ _ B1 A8 (by rfl)) (by rfl)) (by rfl)) (by rfl)) (by rfl)) (by rfl))) (@A6 _ _ _ _ _ (@C2 _ _ _ _ _ (@A6 _ _ _ _ _ B1 (@A6 _ _ _ _ _ (@D0 _ _ _ _ (@A6 _ _ _ _ _ (@C2 _ _ _ _ _ (@A6 _ _ _ _ _ B1 (@A6 _ _ _ _ _ B1 A8 (by rfl)) (by rfl))) (@A6 _ _ _ _ _ (@C2 _ _ _ _ _ (@A6 _ _ _ _ _ B1 (@A6 _ _ _ _ _ B1 A8 (by rfl)) (by rfl))) A8 (by rfl)) (by rfl))) (@A6 _ _ _ _ _ B1 (@A6 _ _ _ _ _ B1 (@A6 _ _ _ _ _ B1 (@A6 _ _ _ _ _ B1 A8 (by rfl)) (by rfl)) (by rfl)) (by rfl)) (by rfl)) (by rfl))) (@A6 _ _ _ _ _ (@C2 _ _ _ _ _ (@A6 _ _ _ _ _ B1 (@A6 _ _ _ _ _ (@D0 _ _ _ _ (@A6 _ _ _ _ _ (@C2 _ _ _ _ _ (@A6 _ _ _ _ _ B1 (@A6 _ _ _ _ _ B1 A8 (by rfl)) (by rfl))) (@A6 _ _ _ _ _ (@C2 _ _ _ _ _ (@A6 _ _ _ _ _ B1 (@A6 _ _ _ _ _ B1 A8 (by rfl)) (by rfl))) (@A6 _ _ _ _ _ (@C2 _ _ _ _ _ (@A6 _ _ _ _ _ B1 (@A6 _ _ _ _ _ B1 A8 (by rfl)) (by rfl))) A8 (by rfl)) (by rfl)) (by rfl))) (@A6 _ _ _ _ _ B1 (@A6 _ _ _ _ _ B1 (@A6 _ _ _ _ _ B1 (@A6 _ _ _ _ _ B1 A8 (by rfl)) (by rfl)) (by rfl)) (by rfl)) (by rfl)) (by rfl))) A8 (by rfl)) (by rfl)) (by rfl))) (by rfl) (by first | exact .inl rfl | exact .inr rfl | assumption))
   (@B0 _ _ _ _ _ (D9 (Ra K PySem.F.plainAttrs_list PySem.F.slot_list_append PySem.F.type_list_append E8 (pv 0) (@A6 _ _ _ _ _ (@C2 _ _ _ _ _ (@A6 _ _ _ _ _ B1 (@A6 _ _ _ _ _ (@D0 _ _ _ _ (@A6 _ _ _ _ _ (@C2 _ _ _ _ _ (@A6 _ _ _ _ _ B1 (@A6 _ _ _ _ _ B1 A8 (by rfl)) (by rfl))) (@A6 _ _ _ _ _ (@C2 _ _ _ _ _ (@A6 _ _ _ _ _ B1 (@A6 _ _ _ _ _ B1 A8 (by rfl)) (by rfl))) (@A6 _ _ _ _ _ (@C2 _ _ _ _ _ (@A6 _ _ _ _ _ B1 (@A6 _ _ _ _ _ B1 A8 (by rfl)) (by rfl))) (@A6 _ _ _ _ _ (@C2 _ _ _ _ _ (@A6 _ _ _ _ _ B1 (@A6 _ _ _ _ _ B1 A8 (by rfl)) (by rfl))) A8 (by rfl)) (by rfl)) (by rfl)) (by rfl))) (@A6 _ _ _ _ _ B1 (@A6 _ _ _ _ _ B1 (@A6 _ _ _ _ _ B1 (@A6 _ _ _ _ _ B1 A8 (by rfl)) (by rfl)) (by rfl)) (by rfl)) (by rfl)) (by rfl))) A8 (by rfl))))
   (@B0 _ _ _ _ _ (D9 (Ra K PySem.F.plainAttrs_list PySem.F.slot_list_append PySem.F.type_list_append E8 (pv 0) (@A6 _ _ _ _ _ (@C2 _ _ _ _ _ (@A6 _ _ _ _ _ B1 (@A6 _ _ _ _ _ (@D0 _ _ _ _ (@A6 _ _ _ _ _ (@C2 _ _ _ _ _ (@A6 _ _ _ _ _ B1 (@A6 _ _ _ _ _ B1 A8 (by rfl)) (by rfl))) (@A6 _ _ _ _ _ (@C2 _ _ _ _ _ (@A6 _ _ _ _ _ B1 (@A6 _ _ _ _ _ B1 A8 (by rfl)) (by rfl))) (@A6 _ _ _ _ _ (@C2 _ _ _ _ _ (@A6 _ _ _ _ _ B1 (@A6 _ _ _ _ _ B1 A8 (by rfl)) (by rfl))) (@A6 _ _ _ _ _ (@C2 _ _ _ _ _ (@A6 _ _ _ _ _ B1 (@A6 _ _ _ _ _ B1 A8 (by rfl)) (by rfl))) (@A6 _ _ _ _ _ (@C2 _ _ _ _ _ (@A6 _ _ _ _ _ B1 (@A6 _ _ _ _ _ B1 A8 (by rfl)) (by rfl))) (@A6 _ _ _ _ _ (@C2 _ _ _ _ _ (@A6 _ _ _ _ _ B1 (@A6 _ _ _ _ _ B1 A8 (by rfl)) (by rfl))) A8 (by rfl)) (by rfl)) (by rfl)) (by rfl)) (by rfl)) (by rfl))) (@A6 _ _ _ _ _ B1 (@A6 _ _ _ _ _ B1 (@A6 _ _ _ _ _ B1 (@A6 _ _ _ _ _ B1 A8 (by rfl)) (by rfl)) (by rfl)) (by rfl)) (by rfl)) (by rfl))) A8 (by rfl))))
   (@B0 _ _ _ _ _ (@C5 _ _ 0 _ _ _ _ sc.nd rfl (.inl rfl) (@C4 _ _ _ _ _ _ _ _ Av (pv 0) (@D0 _ _ _ _ (@A6 _ _ _ _ _ (@C2 _ _ _ _ _ (@A6 _ _ _ _ _ B1 (@A6 _ _ _ _ _ (@D0 _ _ _ _ (@A6 _ _ _ _ _ (@C2 _ _ _ _ _ (@A6 _ _ _ _ _ B1 (@A6 _ _ _ _ _ B1 A8 (by rfl)) (by rfl))) A8 (by rfl))) (@A6 _ _ _ _ _ B1 (@A6 _ _ _ _ _ B1 (@A6 _ _ _ _ _ B1 (@A6 _ _ _ _ _ B1 A8 (by rfl)) (by rfl)) (by rfl)) (by rfl)) (by rfl)) (by rfl))) (@A6 _ _ _ _ _ (@C2 _ _ _ _ _ (@A6 _ _ _ _ _ B1 (@A6 _ _ _ _ _ (@D0 _ _ _ _ (@A6 _ _ _ _ _ (@C2 _ _ _ _ _ (@A6 _ _ _ _ _ B1 (@A6 _ _ _ _ _ B1 A8 (by rfl)) (by rfl))) A8 (by rfl))) (@A6 _ _ _ _ _ B1 (@A6 _ _ _ _ _ B1 (@A6 _ _ _ _ _ B1 (@A6 _ _ _ _ _ B1 A8 (by rfl)) (by rfl)) (by rfl)) (by rfl)) (by rfl)) (by rfl))) A8 (by rfl)) (by rfl)))) (by rfl) (by first | exact .inl rfl | exact .inr rfl | assumption))
   (@B2 _ _ _ (@C0 _ _ _ _ (@C4 _ _ _ _ _ _ _ _ Av (pv 0) (@D0 _ _ _ _ (@A6 _ _ _ _ _ (@C2 _ _ _ _ _ (@A6 _ _ _ _ _ B1 (@A6 _ _ _ _ _ (@D0 _ _ _ _ (@A6 _ _ _ _ _ (@C2 _ _ _ _ _ (@A6 _ _ _ _ _ B1 (@A6 _ _ _ _ _ B1 A8 (by rfl)) (by rfl))) (@A6 _ _ _ _ _ (@C2 _ _ _ _ _ (@A6 _ _ _ _ _ B1 (@A6 _ _ _ _ _ B1 A8 (by rfl)) (by rfl))) (@A6 _ _ _ _ _ (@C2 _ _ _ _ _ (@A6 _ _ _ _ _ B1 (@A6 _ _ _ _ _ B1 A8 (by rfl)) (by rfl))) (@A6 _ _ _ _ _ (@C2 _ _ _ _ _ (@A6 _ _ _ _ _ B1 (@A6 _ _ _ _ _ B1 A8 (by rfl)) (by rfl))) A8 (by rfl)) (by rfl)) (by rfl)) (by rfl))) (@A6 _ _ _ _ _ B1 (@A6 _ _ _ _ _ B1 (@A6 _ _ _ _ _ B1 (@A6 _ _ _ _ _ B1 A8 (by rfl)) (by rfl)) (by rfl)) (by rfl)) (by rfl)) (by rfl))) A8 (by rfl)))))))))),?_⟩
  refine B3 fun N1 hN1=>?_;show Om (P5 (kinds8.take 3)) _ _ _;refine Jt _ (by decide) (by decide) fun r us H1 k1 m1=>?_;have ln:∀{ps:List PC} {vs:List (Addr×PC)},(vs.map fun u=>u.2)=ps->vs.length=ps.length:=fun h=>by rw[<-h,AB]
  have l1:=ln m1;refine hN1 _ _ (B3 fun N2 hN2=>?_);refine Pe (kinds8.getD 3 ⟨0,[],[]⟩) (by decide) (by decide) rfl k1 (by rw[l1];decide) fun a H2 k2=>?_;refine hN2 _ _ (B3 fun N3 hN3=>?_);refine Pe (kinds8.getD 4 ⟨0,[],[]⟩) (by decide) (by decide) rfl k2 (by simp only[BC,DT,l1];decide) fun b H3 k3=>?_;refine hN3 _ _ (B3 fun N4 hN4=>?_);show tOp zCo (Y5 0) (Om (P5 ((kinds8.drop 5).take 2))) _ _ _;refine Pa _ (by decide) (by decide) rfl k3 (by simp only[BC,DT,l1];decide) fun r' vs H4 m4 k4=>?_;refine hN4 _ _ ?_;show tOp zCo (Y5 0) (Om (P5 (kinds8.drop 7))) _ _ _;refine Pa _ (by decide) (by decide) rfl k4 (by simp only[BC,DT,l1,ln m4];decide) fun r2 ws H5 m5 k5=>?_;refine q r2 _ H5 k5.1 k5.2.2.1 k5.all ?_;rw[AL,AL,AL,AL,m1,m4,m5];rfl
end
theorem Nm{sq sr:Hp->Addr->List V->Prop}{l d:Addr}{xs ys:List V}(n:xs.length=ys.length){g:TG}{tc:TT}{em:TEm}{σ:St}{H:Hp}{Q:St->Hp->Prop}(Pv:Nat->St->Hp->Prop)(h0:Pv 0 σ H)(hk:∀i σ H,Pv i σ H->sq H l xs/\sr H d ys)
  (hs:∀i σ H T x y (N:St->Hp->Prop),xs[i]?=some x->ys[i]?=some y->Pv i σ H->H T=none->(∀σ' H',Pv (i+1) σ' H'->N σ' H')->g (.ref T) σ (upd H T (.tup [x,y])) fun σ2 H2=>tc σ2 H2 fun b H3=>if b=true then em σ2 H3 N else N σ2 H3)
  (hd:∀σ H,Pv xs.length σ H->Q σ H):o9 g tc em (Xy sq sr l d) σ H Q:=by
 refine u9 (n:=xs.length) Pv h0 (fun i σ H hi p=>?_) (fun σ H p=>?_) (fun i σ H v H' N hi p y hN=>?_) hd
 .exact⟨xs,ys,_,_,(hk i σ H p).1,(hk i σ H p).2,by omega,AC hi,AC (by omega)⟩
 .exact⟨xs,ys,(hk _ σ H p).1,(hk _ σ H p).2,by omega,rfl⟩
 .obtain⟨T,x,z,rfl,hT,rfl,e1,e2⟩:=y;exact hs i σ H T x z N (e1 xs (hk i σ H p).1) (e2 ys (hk i σ H p).2) p hT hN
def nmS(pos r:Nat):Str:=Rb ⟨#[97+pos]⟩ r
structure JS where
 nms:List Str
 es:Ed
 cs:List Nat
 ix:Nat
def Mc(n ix k:Nat):List Str:=(List.range k).map fun j=>nmS (n+j) (1+ix % 3)
def stp(s:JS)(p:PC):JS:=⟨s.nms++Mc s.nms.length s.ix p.k,s.es++sh s.nms.length p.es,List.zipWith (· * ·) s.cs p.cs,s.ix+1⟩
def JO(ps:List PC):JS:=ps.foldl stp ⟨[],[],[1,1,1,1],0⟩
theorem Xv(ps:List PC)(p:PC):JO (ps ++ [p])=stp (JO ps) p:=by unfold JO;rw[List.foldl_append];rfl
theorem Cl(n ix k:Nat):(Mc n ix k).length=k:=by unfold Mc;rw[AB,BW]
structure JOk(s:JS):Prop where
 ie:InE s.nms.length s.es
 ct:Cnt4 s.nms.length s.es s.cs
 le:s.es.length<=2*s.nms.length
 mx:(s.cs.getD 2 0)^3<=3^s.nms.length
 nd:s.es.Nodup
 nm:∀j,j<s.nms.length->∃r,1<=r/\r<=3/\s.nms[j]?=some (nmS j r)
theorem JOk.stp{s:JS}{p:PC}(h:JOk s)(g:Pok p):JOk (stp s p):=by
 have ln:(Sw.stp s p).nms.length=s.nms.length+p.k:=by show(s.nms++_).length=_;rw[BC,Cl]
 obtain⟨a,b,c,d,e1,_⟩:=id h.ct;obtain⟨a',b',c',d',e2,_⟩:=id g.ct;refine⟨by rw[ln];exact h.ie.jo g.ie,by rw[ln];exact h.ct.jo h.ie g.ct,?_,?_,?_,fun j hj=>?_⟩
 .rw[ln];show(s.es++sh _ _).length<=_;unfold sh;rw[BC,AB];have:=h.le;have:=g.le;omega
 .rw[ln];show((List.zipWith (· * ·) s.cs p.cs).getD 2 0)^3<=_;have h1:=h.mx;have h2:=g.mx;rw[e1]at h1⊢;rw[e2]at h2⊢;show(c*c')^3<=_;rw[Nat.mul_pow,Nat.pow_add];exact Nat.mul_le_mul h1 h2
 .show(s.es++sh _ _).Nodup;refine GC.mpr ⟨h.nd,?_,fun x hx y hy e=>?_⟩
  .unfold sh;exact BQ.mpr (g.nd.imp fun{x y} n e=>n (by
    obtain⟨e1,e2⟩:=Prod.mk.inj e;exact Prod.ext (Nat.add_right_cancel e1) (Nat.add_right_cancel e2)))
  .subst e;have:=(h.ie x.1 x.2 hx).1;have:=(Ug (i:=x.1) (j:=x.2).mp hy).1;omega
 .rw[ln]at hj;show ∃r,_/\_/\(s.nms++_)[j]?=_;by_cases c:j<s.nms.length
  .obtain⟨r,r1,r2,e⟩:=h.nm j c;exact⟨r,r1,r2,by rw[EC c];exact e⟩
  .refine⟨1+s.ix % 3,by omega,by omega,?_⟩;rw[DW (by omega)];unfold Mc;rw[AJ,List.getElem?_range (by omega),HR];congr 2;omega
theorem Zp:∀(ps:List PC),(∀p∈ps,Pok p)->JOk (JO ps):=fun ps h=>by
 have:∀(ps:List PC) (s:JS),JOk s->(∀p∈ps,Pok p)->JOk (ps.foldl Sw.stp s):=fun ps=>by
  induction ps with
  | nil=>exact fun s h _=>h
  | cons p r ih=>exact fun s h g=>ih _ (h.stp (g p (BE ..))) fun q hq=>g q (AX _ hq)
 exact this ps _ ⟨fun i j z=>absurd z BD,Cnt4.nil,Nat.le_refl _,by decide,GM,fun j hj=>absurd hj (Nat.not_lt_zero _)⟩ h
theorem zDu(ps:List PC):(JO ps).ix=ps.length:=by
 have:∀(ps:List PC) (s:JS),(ps.foldl Sw.stp s).ix=s.ix+ps.length:=fun ps=>by
  induction ps with
  | nil=>exact fun s=>rfl
  | cons p r ih =>
   intro s;rw[FX,ih,BL];show s.ix+1+r.length=_;omega
 exact(this ps _).trans (D_ _)
theorem Uo(ps:List PC):(JO ps).nms.length =(ps.map fun p=>p.k).sum:=by
 have:∀(ps:List PC) (s:JS),(ps.foldl Sw.stp s).nms.length=s.nms.length +(ps.map fun p=>p.k).sum:=fun ps=>by
  induction ps with
  | nil=>exact fun s=>rfl
  | cons p r ih =>
   intro s;rw[FX,ih,AW,FL];show(s.nms++_).length+_=_;rw[BC,Cl];omega
 exact(this ps _).trans (D_ _)
def prN(l:List Str)(e:Nat×Nat):Str×Str:=(l.getD e.1 "",l.getD e.2 "")
theorem Xp{l m:List Str}{e:Nat×Nat}(h1:e.1<l.length)(h2:e.2<l.length):prN (l++m) e=prN l e:=by
 unfold prN;rw[AS,AS,AS,AS,EC h1,EC h2]
theorem zAg{l m:List Str}{e:Nat×Nat}:prN (l++m) (e.1+l.length,e.2+l.length)=prN m e:=by
 unfold prN;rw[AS,AS,AS,AS,DW (by omega),DW (by omega),HU,HU]
theorem zAw{s:JS}{p:PC}(ie:InE s.nms.length s.es):(stp s p).es.map (prN (stp s p).nms)=s.es.map (prN s.nms)++p.es.map (prN (Mc s.nms.length s.ix p.k)):=by
 show(s.es++sh _ _).map (prN (s.nms++_))=_;rw[AL];congr 1
 .exact GG fun e he=>Xp (ie e.1 e.2 he).1 (ie e.1 e.2 he).2
 .unfold sh;rw[CH];exact GG fun e _=>zAg
theorem Zo:∀i:Nat,i<12->atI ("abcdefghijkl":Str).cps.toList (i:Int)=some (97+i:Nat):=by decide +kernel
theorem zBy{D:Addr}{H:Hp}{k:Nat}{r:St}{v0:Option V}{te:TE}{Q:St->Hp->Prop}(f:Nat->V)(hk:k<=1000)(hD:H D=none)(step:∀j,j<k->∀G (R:VK),Same H G->R (f j) G->te (some (.int (j:Int))::r) G R)
  (q:∀σ G,Same H G->G D=some (.lst ((List.range k).map f))->Q σ G):o9 (K9 0) V0 (o8 D te) (Itr 0 k) (v0::r) (upd H D (.lst [])) Q:=by
 refine u9 (n:=k) (fun i σ G=>(∃v,σ=v::r)/\Same H G/\G D=some (.lst ((List.range i).map f))) ⟨⟨_,rfl⟩,Same.new hD,A7⟩ (fun i σ G hi _=>hi) (fun σ G _=>Nat.le_refl _) ?_ ?_
 .rintro i σ G x H' N hi ⟨⟨v0,rfl⟩,sG,eG⟩ ⟨rfl,rfl⟩ hN;rw[Int.zero_add];refine Y4 (step i hi _ _ sG ⟨_,eG,by rw[AB,BW,sizeLine_eq];omega,hN _ _ ⟨⟨_,rfl⟩,sG.upd hD,?_⟩⟩);rw[A7,EF,AL];rfl
 .rintro σ G ⟨_,sG,eG⟩;exact q σ G sG eG
section
variable{K:PySem.W.Frag}
theorem Yf{lp o D:Addr}{H:Hp}{ts:List (Addr×(Nat×Nat))}{own:List Str}{v0 v1:Option V}{Q:St->Hp->Prop}(el:H lp=some (.lst (ts.map fun t=>V.ref t.1)))(et:∀t∈ts,H t.1=some (.tup [D8 t.2.1,D8 t.2.2]))(eo:H o=some (.lst (own.map V.str)))
  (ie:∀t∈ts,t.2.1<own.length/\t.2.2<own.length) (len:ts.length<=1000) (hD:H D=none) (q:∀σ G (rs:List PA2),Same H G->G D=some (.lst (M5 rs))->(∀r∈rs,E2 G r)->(rs.map fun r=>r.2) =(ts.map fun t=>t.2).map (prN own)->Q σ G) :
  o9 (zCq K 2 (Mr (K9 0) (Mr (K9 1) zEj))) V0 (o8 D (Ur (K1 (tOp (Zm K) (Y5 2) (Y5 0)) (K1 (tOp (Zm K) (Y5 2) (Y5 1)) Cr)))) (Itl K lp) [v0,v1,some (.ref o)] (upd H D (.lst [])) Q:=by
 refine M9 (asL (K:=K) (SqL.of el)) (fun i σ G=>(∃v0 v1,σ = [v0,v1,some (.ref o)])/\Same H G/\∃rs:List PA2,G D=some (.lst (M5 rs))/\(∀r∈rs,E2 G r)/\(rs.map fun r=>r.2) =((ts.take i).map fun t=>t.2).map (prN own)) ⟨⟨_,_,rfl⟩,Same.new hD,[],A7,fun r z=>absurd z BD,rfl⟩ (fun i σ G _ h=>h.2.1.at lp) ?_ ?_
 .rintro i σ G x N hx ⟨⟨v0,v1,rfl⟩,sG,rs,eD,pin,mr⟩ hN;rw[AJ]at hx;obtain⟨t,ht,rfl⟩:=BU.mp hx;have mt:=BJ ht;obtain⟨i1,i2⟩:=ie t mt;have li:=(AH.mp ht).1;have lr:=congrArg List.length mr;rw[AB,AB,AB,AY]at lr;refine⟨t.1,_,rfl,SqT.of (sG _ _ (et t mt)),rfl,⟨_,_,rfl,⟨_,_,rfl,⟨rfl,?_⟩⟩⟩⟩;dsimp only[V0];rw[AO rfl];have at_:∀j,j<own.length->atI (own.map V.str) (j:Int)=some (.str (own.getD j "")):=fun j hj=>M6 (by rw[AJ,AC hj,AS,AC hj];rfl);refine⟨_,rfl,_,rfl,⟨o,_,_,_,rfl,rfl,SqL.of (sG _ _ eo),at_ _ i1,⟨_,rfl,_,rfl,⟨o,_,_,_,rfl,rfl,SqL.of (sG _ _ eo),at_ _ i2,⟨by show 2<=sizeLine;decide,fun z hz=>?_⟩⟩⟩⟩⟩;have uz:=Same.new (o:=.tup [.str (own.getD t.2.1 ""),.str (own.getD t.2.2 "")]) hz;have nz:D≠z:=A9 eD hz;refine⟨_,uz _ _ eD,by unfold M5;rw[AB,sizeLine_eq];omega,hN _ _ ⟨⟨_,_,rfl⟩,(sG.trans uz).upd hD,rs ++ [(z,prN own t.2)],by unfold M5;rw[A7,AL];rfl,fun r hr=>?_,?_⟩⟩
  .rcases AU.mp hr with y | y
   .unfold E2;rw[B5 (Y8 (pin r y) eD (by intro z;cases z))];exact uz _ _ (pin r y)
   .rw[AF.mp y];unfold E2;rw[B5 nz.symm];exact A7
  .rw[AL,mr,take_succ ht,AL,AL];rfl
 .rintro σ G ⟨_,sG,rs,eD,pin,mr⟩;rw[AB,DB]at mr;exact q σ G rs sG eD pin mr
theorem zCc{l d D:Addr}{H:Hp}{xs ys:List Nat}{Q:St->Hp->Prop}(n:xs.length=ys.length)(el:H l=some (.lst (xs.map D8)))(ed:H d=some (.tup (ys.map D8)))(len:xs.length<=1000)(by_:∀y∈ys,y<=5)(hD:H D=none)
  (q:∀σ G,Same H G->G D=some (.lst ((List.zipWith (· * ·) xs ys).map D8))->Q σ G) :
  o9 (zCq K 2 (Mr (K9 0) (Mr (K9 1) zEj))) V0 (o8 D (tOp (rI CMul fun i j=>.int (i*j)) (Y5 0) (Y5 1))) (Xy (SqL K) (SqT K) l d) [none,none] (upd H D (.lst [])) Q:=by
 refine Nm (xs:=xs.map D8) (ys:=ys.map D8) (by rw[AB,AB,n]) (fun i σ G=>(∃v0 v1,σ = [v0,v1])/\Same H G/\G D=some (.lst (((List.zipWith (· * ·) xs ys).take i).map D8))) ⟨⟨_,_,rfl⟩,Same.new hD,A7⟩ (fun i σ G h=>⟨SqL.of (h.2.1 _ _ el),SqT.of (h.2.1 _ _ ed)⟩) ?_ ?_
 .rintro i σ G T vx vy N hvx hvy ⟨⟨v0,v1,rfl⟩,sG,eD⟩ hT hN;rw[AJ]at hvx hvy;obtain⟨x,hx,rfl⟩:=BU.mp hvx;obtain⟨y,hy,rfl⟩:=BU.mp hvy;have ut:=Same.new (o:=.tup [D8 x,D8 y]) hT;refine⟨T,_,rfl,SqT.of A7,rfl,⟨_,_,rfl,⟨_,_,rfl,⟨rfl,?_⟩⟩⟩⟩;dsimp only[V0];rw[AO rfl];have b2:=by_ y (BJ hy);refine⟨_,rfl,_,rfl,⟨_,_,rfl,rfl,?_,⟨_,ut _ _ eD,?_,hN _ _ ⟨⟨_,_,rfl⟩,(sG.trans ut).upd hD,?_⟩⟩⟩⟩
  .exact .inr ⟨by omega,by omega⟩
  .rw[AB,AY,List.length_zipWith,sizeLine_eq];omega
  .have hz:(List.zipWith (· * ·) xs ys)[i]?=some (x*y):=by rw[List.getElem?_zipWith,hx,hy]
   rw[A7,take_succ hz,AL];show some (HO.lst (_ ++ [V.int ((x:Int) *(y:Int))]))=some (HO.lst (_ ++ [V.int ((x*y:Nat):Int)]));rw[Int.natCast_mul]
 .rintro σ G ⟨_,sG,eD⟩;refine q σ G sG ?_;rw[AB,DD (by rw[List.length_zipWith];omega)]at eD;exact eD
end
section
variable{P:Program}{w:World}{K:PySem.W.Frag}{mg:Str->Option Value}{base:Heap}
theorem U4:FnScope ["_law_pieces_here", "_law_names", "_law_strikes", "_law_many", "_law_k", "_law_piece", "_law_own"] ["_law_pieces_here"] (B4 s_law_joined):=fsc
def La:Sp:=fun vs H Q _=>∃(l:Addr) (us:List (Addr×PC)),vs = [.ref l]/\H l=some (.lst (us.map fun u=>V.ref u.1))/\(∀u∈us,PcAt H u.1 u.2/\Pok u.2)/\(us.map fun u=>u.2.k).sum<=12 /\
 ∀t n a m (ps:List PA2) H',Same H H'->H' t=some (.tup [.ref n,.ref a,.ref m])->H' n=some (.lst ((JO (us.map fun u=>u.2)).nms.map V.str))->H' a=some (.lst (M5 ps))->(∀q∈ps,E2 H' q) ->
  (ps.map fun q=>q.2) =(JO (us.map fun u=>u.2)).es.map (prN (JO (us.map fun u=>u.2)).nms)->H' m=some (.lst ((JO (us.map fun u=>u.2)).cs.map D8))->Q (.ref t) H'
set_option maxHeartbeats 4000000 in
theorem Bq(T:Tx K mg):FnOk P w K mg base CX0 1 T.aS.f T.aS.fd ["_law_pieces_here"] La:=by
 have sc:=U4;refine T.aS.F.ok U4 (fun vs H Q E h=>?_) (fun cdv A outer s H vs Q E hr h=>?_)
 .obtain⟨l,us,rfl,_⟩:=h;rfl
 .obtain⟨l,us,rfl,el,ok,sm,q⟩:=h;refine⟨_,(@B0 _ _ _ _ _ (X5 (@C2 _ _ _ _ _ (@A6 _ _ _ _ _ (D0 A8) (@A6 _ _ _ _ _ (D0 A8) (@A6 _ _ _ _ _ (@D0 _ _ _ _ (@A6 _ _ _ _ _ B1 (@A6 _ _ _ _ _ B1 (@A6 _ _ _ _ _ B1 (@A6 _ _ _ _ _ B1 A8 (by rfl)) (by rfl)) (by rfl)) (by rfl))) A8 (by rfl)) (by rfl)) (by rfl))) (pgT K (n:=3) (B8 (C3 (i:=1) sc.nd rfl (.inr rfl)) (B8 (C3 (i:=2) sc.nd rfl (.inl rfl)) (B8 (C3 (i:=3) sc.nd rfl (.inl rfl)) F1)))))
   (@B0 _ _ _ _ _ (R9 PassesOwn.never rfl (piE K T.aE (A6 (pv 0) A8)) (pgT K (n:=2) (B8 (C3 (i:=4) sc.nd rfl (.inr rfl)) (B8 (C3 (i:=5) sc.nd rfl (.inl rfl)) F1)))
   (B0 (C5 (i:=6) sc.nd rfl (.inr rfl) (Q9 (N':=["_law_j", "_law_k", "_law_names"]) (cap:=[none,some 4,some 1]) (cl:=[("_law_names",_),("_law_k",_)]) (J8 ⟨⟨rfl,rfl,rfl,rfl⟩,⟨⟨rfl,rfl,rfl,rfl⟩,trivial⟩⟩ ⟨rfl,⟨rfl,trivial⟩⟩) rfl (zDi T.bm (A6 (E6 (ixT K) (pv 5) B1 (fun _ _=>rfl)) A8)) (fun _ _ _ _=>by exact⟨(pgC 0),E1,(C4 Km (E6 zBr F3 (C4 X9 (F2 (t6 K) T.aU X6 (A6 (pv 2) A8)) (pv 0)) (fun _ _=>rfl)) (C4 X9 B1 (C4 Au (pv 1) B1)))⟩)))
   (B0 (C5 (i:=1) sc.nd rfl (.inr rfl) (C4 Av (pv 1) (pv 6)))
   (@B0 _ _ _ _ _ (@C5 _ _ 2 _ _ _ _ sc.nd rfl (.inl rfl) (@C4 _ _ _ _ _ _ _ _ Av (pv 2) (Q9 (N':=["_law_one", "_law_other", "_law_own"]) (cap:=[none,none,some 6]) (cl:=[("_law_own",_)]) (J8 ⟨⟨rfl,rfl,rfl,rfl⟩,trivial⟩ ⟨rfl,trivial⟩) rfl (piL K (E6 (ixT K) (pv 5) B1 (fun _ _=>rfl))) (fun _ _ _ _=>by exact⟨(pgT K (n:=2) (B8 (pgC 0) (B8 (pgC 1) F1))),E1,(@C2 _ _ _ _ _ (@A6 _ _ _ _ _ (E6 (ixL K) (pv 2) (pv 0) (fun _ _=>rfl)) (@A6 _ _ _ _ _ (E6 (ixL K) (pv 2) (pv 1) (fun _ _=>rfl)) A8 (by rfl)) (by rfl)))⟩))) (by rfl) (by first | exact .inl rfl | exact .inr rfl | assumption))
   (@B2 _ _ _ (Tz (i:=3) (N':=["_law_one", "_law_other"]) (cap:=[none,none]) (cl:=[]) sc.nd rfl (.inl rfl) (J8 trivial trivial) rfl (zGf K T.bV (@A6 _ _ _ _ _ (pv 3) (@A6 _ _ _ _ _ (Io (slT K) (pv 5) (On B1) Pu) A8 (by rfl)) (by rfl))) (fun _ _ _ _=>by exact⟨(pgT K (n:=2) (B8 (pgC 0) (B8 (pgC 1) F1))),E1,(C4 w6 (pv 0) (pv 1))⟩)))))))
   (@B2 _ _ _ (@C0 _ _ _ _ (@C2 _ _ _ _ _ (@A6 _ _ _ _ _ (pv 1) (@A6 _ _ _ _ _ (pv 2) (@A6 _ _ _ _ _ (pv 3) A8 (by rfl)) (by rfl)) (by rfl))))))),?_⟩
  refine B3 fun N1 hN1=>?_;refine⟨CD _,fun n0 hn0=>⟨CD _,fun a0 ha0=>⟨by show 4<=sizeLine;decide,fun m0 hm0=>⟨by show 3<=sizeLine;decide,fun t0 ht0=>?_⟩⟩⟩⟩;have un:=Same.new (o:=.lst []) hn0;have ua:=Same.new (o:=.lst []) ha0;have um:=Same.new (o:=.lst [.int 1,.int 1,.int 1,.int 1]) hm0;have ut:=Same.new (o:=.tup [.ref n0,.ref a0,.ref m0]) ht0;have en:(upd (upd (upd (upd H n0 (.lst [])) a0 (.lst [])) m0 (.lst [.int 1,.int 1,.int 1,.int 1])) t0 (.tup [.ref n0,.ref a0,.ref m0])) n0=some (.lst []):=ut _ _ (um _ _ (ua _ _ A7));have ea:(upd (upd (upd (upd H n0 (.lst [])) a0 (.lst [])) m0 (.lst [.int 1,.int 1,.int 1,.int 1])) t0 (.tup [.ref n0,.ref a0,.ref m0])) a0=some (.lst []):=ut _ _ (um _ _ A7);have em:(upd (upd (upd (upd H n0 (.lst [])) a0 (.lst [])) m0 (.lst [.int 1,.int 1,.int 1,.int 1])) t0 (.tup [.ref n0,.ref a0,.ref m0])) m0=some (.lst ([1,1,1,1].map D8)):=ut _ _ A7;refine⟨t0,_,rfl,SqT.of A7,rfl,_,_,rfl,_,_,rfl,_,_,rfl,rfl,?_⟩;have s1:=un.trans (ua.trans (um.trans ut));generalize upd (upd (upd (upd H n0 (.lst [])) a0 (.lst [])) m0 (.lst [.int 1,.int 1,.int 1,.int 1])) t0 (.tup [.ref n0,.ref a0,.ref m0])=H1 at en ea em s1⊢;refine hN1 _ _ (B3 fun N2 hN2=>?_);refine ex1 rfl ⟨l,ex1 rfl ⟨SqL.of (s1 _ _ el),Nw (n:=us.length) (fun i σ G=>∃(n a m:Addr) (ps:List PA2) (v4 v5 v6:Option V),σ = [some (.ref l),some (.ref n),some (.ref a),some (.ref m),v4,v5,v6]/\Same H G/\G n=some (.lst ((JO ((us.take i).map fun u=>u.2)).nms.map V.str))/\G a=some (.lst (M5 ps))/\(∀q∈ps,E2 G q) /\
   (ps.map fun q=>q.2) =(JO ((us.take i).map fun u=>u.2)).es.map (prN (JO ((us.take i).map fun u=>u.2)).nms)/\G m=some (.lst ((JO ((us.take i).map fun u=>u.2)).cs.map D8))) ⟨n0,a0,m0,[],_,_,_,rfl,s1,en,ea,fun q z=>absurd z BD,rfl,em⟩ ?_ ?_ ?_ ?_⟩⟩
  .rintro i σ G hi ⟨_,_,_,_,_,_,_,_,sG,_⟩;exact⟨_,_,SqL.of (sG _ _ el),by rw[AJ,AC hi];rfl⟩
  .rintro σ G ⟨_,_,_,_,_,_,_,_,sG,_⟩;exact⟨_,SqL.of (sG _ _ el),by rw[AB]⟩
  .rintro i σ G y H' hi ⟨n,a,m,ps,v4,v5,v6,rfl,sG,eN,eA,pin,mP,eM⟩ ⟨tt,y,rfl,htt,rfl,hx⟩;have hx:=hx _ (SqL.of (sG _ _ el));have hi':us[i]?=some us[i]:=AC hi;rw[AJ,hi']at hx;cases hx;refine⟨tt,ex1 rfl ⟨SqT.of A7,rfl,_,_,rfl,_,_,rfl,rfl,?_⟩⟩;have ut:=Same.new (o:=.tup [.int (i:Int),.ref us[i].1]) htt;have eN:=ut _ _ eN;have eA:=ut _ _ eA;have eM:=ut _ _ eM;have pin:=C8 ut pin;have sG:=sG.trans ut;generalize upd G tt (.tup [.int (i:Int),.ref us[i].1])=G1 at eN eA eM pin sG⊢;obtain⟨pk,pok⟩:=ok us[i] (EB hi);obtain⟨lp,ts,p1,p2,p3,p4⟩:=pk.same sG;refine B3 fun M1 hM1=>?_;have lnm:(JO ((us.take i).map fun u=>u.2)).nms.length+us[i].2.k<=12:=by
    rw[Uo,CH];have h1:us=us.take i++us[i]::us.drop (i+1):=by rw[<-CG hi,BZ]
    have h2:=congrArg (fun l:List (Addr×PC)=>(l.map fun u=>u.2.k).sum) h1;rw[AL,AW,List.sum_append,FL]at h2;show((us.take i).map fun u=>u.2.k).sum+_<=12;omega
   have lix:(JO ((us.take i).map fun u=>u.2)).ix=i:=by rw[zDu,AB,AY];omega
   have jok:JOk (JO ((us.take i).map fun u=>u.2)):=Zp _ fun p hp=>by
    obtain⟨u,hu,rfl⟩:=AI.mp hp;exact(ok u (CK hu)).2
   have hstp:JO ((us.take (i+1)).map fun u=>u.2)=stp (JO ((us.take i).map fun u=>u.2)) us[i].2:=by rw[take_succ hi',AL,FS,Xv]
   rw[hstp];generalize JO ((us.take i).map fun u=>u.2)=J at *;refine⟨_,rfl,us[i].1,_,_,_,rfl,rfl,SqT.of p1,M6 (j:=0) rfl,⟨(us[i].2.k:Int),rfl,by omega,by omega,fun D hD=>?_⟩⟩;rw[FG];refine zBy (fun j=>V.str (nmS (J.nms.length+j) (1+i % 3))) (by omega) hD (fun j hj G R sG' h=>?_) fun σ' G sG2 eD=>?_
   .refine ex1 rfl (C1 (a:=n) rfl (.inl (SqL.of (sG' _ _ eN))) ?_);rw[AB];refine⟨_,rfl,_,_,rfl,rfl,?_⟩;refine⟨_,_,_,rfl,rfl,by show 12<=sizeLine;decide,Zo (J.nms.length+j) (by omega),?_⟩;refine⟨_,rfl,_,_,rfl,rfl,(show(0:Int)<3 by decide),?_⟩;refine⟨_,_,rfl,rfl,?_⟩;exact⟨_,_,1+i % 3,rfl,rfl,by omega,by omega,(show 1<=1000 by decide),h⟩
   .have s3:=sG.trans sG2;refine hM1 _ _ (B3 fun M2 hM2=>?_);have eN2:=sG2 _ _ eN;have eA2:=sG2 _ _ eA;have eM2:=sG2 _ _ eM;have pin2:=C8 sG2 pin;have eD:G D=some (.lst ((Mc J.nms.length i us[i].2.k).map V.str)):=by rw[eD];unfold Mc;rw[CH];rfl
    have lo:=Cl J.nms.length i us[i].2.k;refine⟨_,rfl,_,rfl,⟨n,D,_,_,rfl,rfl,eN2,eD,by rw[AB,AB,lo,sizeLine_eq];omega,fun n2 hn2=>?_⟩⟩;rw[<-AL];have u2:=Same.new (o:=.lst ((J.nms++Mc J.nms.length i us[i].2.k).map V.str)) hn2;have eN3:(upd G n2 (.lst ((J.nms++Mc J.nms.length i us[i].2.k).map V.str))) n2=some (.lst ((J.nms++Mc J.nms.length i us[i].2.k).map V.str)):=A7;have eD3:=u2 _ _ eD;have eA3:=u2 _ _ eA2;have eM3:=u2 _ _ eM2;have pin3:=C8 u2 pin2;have s4:=s3.trans u2;have s5:=sG2.trans u2;generalize upd G n2 (.lst ((J.nms++Mc J.nms.length i us[i].2.k).map V.str))=G3 at eN3 eD3 eA3 eM3 pin3 s4 s5⊢;refine hM2 _ _ (B3 fun M3 hM3=>?_);refine⟨_,rfl,⟨_,rfl,us[i].1,_,_,_,rfl,rfl,SqT.of (s5 _ _ p1),M6 (j:=1) rfl,⟨lp,rfl,⟨_,SqL.of (s5 _ _ p2)⟩,fun D2 hD2=>?_⟩⟩⟩;refine Yf (s5 _ _ p2) (fun t ht=>s5 _ _ (p3 t ht)) eD3 (fun t ht=>?_) ?_ hD2 fun σ' G4 rs s6 eD4 pin4 m4=>?_
    .rw[lo];exact pok.ie _ _ (by rw[<-p4];exact AI.mpr ⟨t,ht,rfl⟩)
    .have h1:=pok.le;have h2:=congrArg List.length p4;rw[AB]at h2;omega
    rw[p4]at m4;have eA4:=s6 _ _ eA3;have eM4:=s6 _ _ eM3;have eN4:=s6 _ _ eN3;have s7:=s4.trans s6;have pinA:=C8 s6 pin3;have lps:ps.length<=24:=by
     have h1:=congrArg List.length mP;have h2:=jok.le;rw[AB,AB]at h1;omega
    have lrs:rs.length<=24:=by
     have h1:=congrArg List.length m4;have h2:=pok.le;rw[AB,AB]at h1;omega
    refine⟨a,D2,_,_,rfl,rfl,eA4,eD4,by unfold M5;rw[AB,AB,sizeLine_eq];omega,fun a2 ha2=>?_⟩;have e5:M5 ps++M5 rs=M5 (ps++rs):=by unfold M5;rw[AL]
    rw[e5];have u5:=Same.new (o:=.lst (M5 (ps++rs))) ha2;have eA5:(upd G4 a2 (.lst (M5 (ps++rs)))) a2=some (.lst (M5 (ps++rs))):=A7;have eN5:=u5 _ _ eN4;have eM5:=u5 _ _ eM4;have pin5:∀q∈ps++rs,E2 (upd G4 a2 (.lst (M5 (ps++rs)))) q:=C8 u5 fun q hq=>(AU.mp hq).elim (pinA q) (pin4 q);have s8:=s7.trans u5;have p15:=(s5.trans (s6.trans u5)) _ _ p1;generalize upd G4 a2 (.lst (M5 (ps++rs)))=G5 at eA5 eN5 eM5 pin5 s8 p15⊢;refine hM3 _ _ ?_;obtain⟨c1,c2,c3,c4,ec,_⟩:=id jok.ct;obtain⟨d1,d2,d3,d4,ed,_⟩:=id pok.ct;refine⟨_,rfl,⟨_,rfl,⟨_,rfl,us[i].1,_,rfl,SqT.of p15,?_,fun t2 ht2=>?_⟩⟩⟩
    .rw[ed];exact fun z=>absurd z.1 (show ¬(2:Nat)=0 by decide)
    have u6:=Same.new (o:=.tup (Lq (.int (us[i].2.k:Int) :: .ref lp::us[i].2.cs.map D8) (some 2) none)) ht2;have e6:(upd G5 t2 (.tup (Lq (.int (us[i].2.k:Int) :: .ref lp::us[i].2.cs.map D8) (some 2) none))) t2=some (.tup (us[i].2.cs.map D8)):=by rw[A7,ed];rfl
    have eM6:=u6 _ _ eM5;refine⟨m,t2,_,_,rfl,.inr ⟨SqL.of eM6,SqT.of e6,fun D3 hD3=>?_⟩⟩;refine zCc (by rw[ec,ed];rfl) eM6 e6 (by rw[ec];show 4<=1000;decide) pok.c5 hD3 fun σ' G7 s7' e7=>?_;refine⟨n2,a2,D3,ps++rs,_,_,_,rfl,s8.trans (u6.trans s7'),?_,s7' _ _ (u6 _ _ eA5),C8 (u6.trans s7') pin5,?_,?_⟩
    .rw[hstp];show _=some (HO.lst ((J.nms++Mc J.nms.length J.ix us[i].2.k).map V.str));rw[lix];exact s7' _ _ (u6 _ _ eN5)
    .rw[hstp,zAw jok.ie,lix,AL,mP,m4]
    .rw[hstp];exact e7
  .rintro σ G ⟨n,a,m,ps,v4,v5,v6,rfl,sG,eN,eA,pin,mP,eM⟩;rw[DB]at eN mP eM;refine hN2 _ _ ?_;exact⟨_,rfl,_,rfl,_,rfl,⟨by show 3<=sizeLine;decide,fun t ht=>q t n a m ps _ (sG.trans (Same.new ht)) A7 (Same.new ht _ _ eN) (Same.new ht _ _ eA) (C8 (Same.new ht) pin) mP (Same.new ht _ _ eM)⟩⟩
end
theorem LeftAt.nR{H:Hp}{p n:Addr}{c:Int}{α:Type}{ts:List (Addr×α)}(h:LeftAt H p c)(hn:H n=some (.lst (ts.map fun t=>V.ref t.1))):n≠p:=by
 rintro rfl;obtain⟨a,b,e,_⟩:=h;rw[hn]at e;cases ts with
 | nil=>cases e
 | cons x r=>cases e
theorem zBc:∀vs:List (Addr×PC),(vs.map fun u=>(u.2.k:Int)).sum =(((vs.map fun u=>u.2.k).sum:Nat):Int)
 | []=>rfl
 | u::r=>by rw[AW,FL,AW,FL,zBc r,Int.natCast_add]
theorem PcAt.sm{H H':Hp}{p a:Addr}{c:Int}{pc:PC}(h:PcAt H a pc)(L:LeftAt H p c)(k:Sm [p] H H'):PcAt H' a pc:=by
 obtain⟨l,ts,e1,e2,e3,e4⟩:=h;obtain⟨x,y,e0,_⟩:=id L;exact⟨l,ts,Sm1 k e1 (Y8 e1 e0 (by intro z;cases z)),Sm1 k e2 (L.nR e2),fun t ht=>Sm1 k (e3 t ht) (Y8 (e3 t ht) e0 (by intro z;cases z)),e4⟩
theorem Yq{H G:Hp}{D:List Addr}{l:Addr}(s:Sm D H G):Sm D (er H l) (er G l):=fun b o e n=>by
 have:b≠l:=fun z=>by subst z;unfold er at e;rw[AO rfl]at e;cases e
 rw[o7 this]at e⊢;exact s b o e n
theorem LeftAt.er{H:Hp}{p r:Addr}{c:Int}(h:LeftAt H p c)(n:r≠p):LeftAt (Sw.er H r) p c:=by
 obtain⟨x,y,e,z⟩:=h;exact⟨x,y,by rw[o7 n.symm];exact e,z⟩
theorem Ro{a0 a1 a2:Addr}:∀d:Nat,d<4->∃j:Nat,atI [V.int 0,V.int 1,V.int 1,V.int 2] (d:Int)=some (.int (j:Int))/\∃a,atI [V.ref a0,V.ref a1,V.ref a2] (j:Int)=some (.ref a)/\(a=a0\/a=a1\/a=a2)
 | 0,_=>⟨0,rfl,a0,rfl,.inl rfl⟩
 | 1,_=>⟨1,rfl,a1,rfl,.inr (.inl rfl)⟩
 | 2,_=>⟨1,rfl,a1,rfl,.inr (.inl rfl)⟩
 | 3,_=>⟨2,rfl,a2,rfl,.inr (.inr rfl)⟩
theorem zCh:∀d:Nat,d<3->∃j:Nat,j<8/\atI [V.int 1,V.int 4,V.int 7] (d:Int)=some (.int (j:Int))
 | 0,_=>⟨1,by decide,rfl⟩
 | 1,_=>⟨4,by decide,rfl⟩
 | 2,_=>⟨7,by decide,rfl⟩
section
variable{P:Program}{w:World}{K:PySem.W.Frag}{mg:Str->Option Value}{base:Heap}
theorem T5:FnScope ["_law_left_here", "_law_most", "_law_kinds_here", "_law_sorts", "_law_pieces_here", "_law_k", "_law_piece"] ["_law_left_here", "_law_most"] (B4 s_law_pieces):=fsc
def Ev:Sp:=fun vs H Q _=>∃(p:Addr) (most:Nat),vs = [.ref p,.int (most:Int)]/\LeftAt H p 0 /\
 ∀r (us:List (Addr×PC)) H',Sm [p] H H'->H' r=some (.lst (us.map fun u=>V.ref u.1))->(∀u∈us,PcAt H' u.1 u.2/\u.2∈kinds8)->(us.map fun u=>u.2.k).sum<=most->Q (.ref r) H'
set_option maxHeartbeats 4000000 in
theorem Cc(T:Tx K mg):FnOk P w K mg base CX0 3 T.aT.f T.aT.fd ["_law_left_here", "_law_most"] Ev:=by
 have G_law_pick:=Hk (P:=P) (w:=w) (base:=base) T;have G_law_kinds:=X3 (P:=P) (w:=w) (base:=base) T;have sc:=T5;refine T.aT.F.ok T5 (fun vs H Q E h=>?_) (fun cdv A outer s H vs Q E hr h=>?_)
 .obtain⟨p,most,rfl,_⟩:=h;rfl
 .obtain⟨p,most,rfl,L0,q⟩:=h;refine⟨_,(B0 (C5 (i:=2) sc.nd rfl (.inl rfl) (Ij G_law_kinds (Rm hr) rfl T.as.m T.as.F.kp T.as.b .nil G6))
   (B0 (C5 (i:=3) sc.nd rfl (.inl rfl) (D0 (A6 (E6 (ixL K) (pv 2) (G9 T.ay G_law_pick (Rm hr) (A6 (pv 0) (A6 B1 A8))) (fun _ _=>rfl)) (A6 (E6 (ixL K) (pv 2) (C4 Hd (G9 T.ay G_law_pick (Rm hr) (A6 (pv 0) (A6 B1 A8))) B1) (fun _ _=>rfl)) (A6 (E6 (ixL K) (pv 2) (E6 (ixL K) (D0 (A6 B1 (A6 B1 (A6 B1 A8)))) (G9 T.ay G_law_pick (Rm hr) (A6 (pv 0) (A6 B1 A8))) (fun _ _=>rfl)) (fun _ _=>rfl)) A8)))))
   (B0 (C5 (i:=4) sc.nd rfl (.inl rfl) (D0 A8))
   (B0 (R9 PassesOwn.never rfl (zDi T.bm (A6 B1 A8)) (C3 (i:=5) sc.nd rfl (.inl rfl))
   (B0 (C5 (i:=6) sc.nd rfl (.inl rfl) (E6 (ixL K) (pv 3) (E6 (ixL K) (D0 (A6 B1 (A6 B1 (A6 B1 (A6 B1 A8))))) (G9 T.ay G_law_pick (Rm hr) (A6 (pv 0) (A6 B1 A8))) (fun _ _=>rfl)) (fun _ _=>rfl)))
   (B2 (F4 (PW.pt (Oh (D4 Xg (C4 X9 (F2 (Ir K) T.be Do (A6 (Q9 (N':=["_law_one"]) (cap:=[none]) (cl:=[]) (J8 trivial trivial) rfl (piL K (pv 4)) (fun _ _ _ _=>by exact⟨(pgC 0),E1,(E6 (ixT K) (pv 0) B1 (fun _ _=>rfl))⟩)) A8)) (E6 (ixT K) (pv 6) B1 (fun _ _=>rfl))) (pv 1) (F0 _)) (Ha (D4 zBj (G9 T.ay G_law_pick (Rm hr) (A6 (pv 0) (A6 B1 A8))) B1 (F0 _))))) (B2 (D9 (Ra K PySem.F.plainAttrs_list PySem.F.slot_list_append PySem.F.type_list_append E8 (pv 4) (A6 (pv 6) A8)))) C7))))
   (B2 (C0 (pv 4))))))),?_⟩
  refine B3 fun N1 hN1=>?_;refine⟨rfl,fun ka us H1 s1 e1 a1 m1=>?_⟩;have L1:=L0.same s1;have lu:us.length=8:=by rw[<-AB (as:=us) (fun u=>u.2),m1];rfl
  have at8:∀d:Nat,d<8->∃u∈us,atI (us.map fun u=>V.ref u.1) (d:Int)=some (.ref u.1):=fun d hd=>⟨us[d],EB _,M6 (by rw[AJ,AC (by omega)];rfl)⟩;refine hN1 _ _ (B3 fun N2 hN2=>?_);refine ex1 rfl (ex1 rfl (Mh (a:=p) rfl L1 (by omega) (by decide) (by decide) fun d0 H2 hd0 k2 L2=>?_));obtain⟨u0,m0,e0⟩:=at8 d0 (by omega);have nk:ka≠p:=L1.nR e1;have e2:=Sm1 k2 e1 nk;refine⟨ka,_,_,_,rfl,rfl,SqL.of e2,e0,?_⟩;refine ex1 rfl (ex1 rfl (Mh (a:=p) rfl L2 (by omega) (by decide) (by decide) fun d1 H3 hd1 k3 L3=>?_));obtain⟨u1,m1',e1'⟩:=at8 (d1 / 2) (by omega);have e3:=Sm1 k3 e2 nk;have ed:((d1:Int) / 2) =((d1 / 2:Nat):Int):=by omega
  refine⟨_,_,rfl,rfl,⟨by decide,by decide⟩,ka,_,_,_,rfl,rfl,SqL.of e3,ed▸e1',?_⟩;refine ex1 rfl ⟨by show 3<=sizeLine;decide,fun l3 hl3=>?_⟩;have ul:=Same.new (o:=.lst [.int 1,.int 4,.int 7]) hl3;have L3':=L3.same ul;have e3':=ul _ _ e3;have f3:(upd H3 l3 (.lst [.int 1,.int 4,.int 7])) l3=some (.lst [.int 1,.int 4,.int 7]):=A7;have k3':=(k2.trans k3).trans ul.sm;refine ex1 rfl (Mh (a:=p) rfl L3' (by omega) (by decide) (by decide) fun d2 H4 hd2 k4 L4=>?_);have k4':=(s1.sm (D:=[p])).trans (k3'.trans k4);obtain⟨j,hj,ej⟩:=zCh d2 (by omega);obtain⟨u2,m2,e2'⟩:=at8 j hj;have e4:=Sm1 k4 e3' nk;have n3:l3≠p:=by
   obtain⟨_,_,e0,_⟩:=L3;exact(A9 e0 hl3).symm
  refine⟨l3,_,_,_,rfl,rfl,SqL.of (Sm1 k4 f3 n3),ej,?_⟩;refine⟨ka,_,_,_,rfl,rfl,SqL.of e4,e2',⟨by show 3<=sizeLine;decide,fun so hso=>?_⟩⟩;have u5:=Same.new (o:=.lst [.ref u0.1,.ref u1.1,.ref u2.1]) hso;have f5:(upd H4 so (.lst [.ref u0.1,.ref u1.1,.ref u2.1])) so=some (.lst [.ref u0.1,.ref u1.1,.ref u2.1]):=A7;have ok5:∀u∈us,PcAt (upd H4 so (.lst [.ref u0.1,.ref u1.1,.ref u2.1])) u.1 u.2:=fun u hu=>(((((a1 u hu).sm L1 k2).sm L2 k3).same ul).sm L3' k4).same u5;have L5:=L4.same u5;have k5:=k4'.trans u5.sm;generalize upd H4 so (.lst [.ref u0.1,.ref u1.1,.ref u2.1])=H5 at f5 ok5 L5 k5⊢;refine hN2 _ _ (B3 fun N3 hN3=>?_);refine⟨CD _,fun r hr0=>?_⟩;obtain⟨y0,z0,p5,_⟩:=id L5;have nrp:r≠p:=(A9 p5 hr0).symm;have nso:so≠p:=by
   obtain⟨_,_,e0,_⟩:=L4;exact(A9 e0 hso).symm
  have nsr:so≠r:=A9 f5 hr0;have hrH:H r=none:=by
   cases e:H r with
   | none=>rfl
   | some o =>
    have:=k5 r o e (by simpa using nrp);rw[hr0]at this;cases this
  have ok6:∀u∈us,PcAt (er (upd H5 r (.lst [])) r) u.1 u.2:=fun u hu=>(ok5 u hu).same fun b o e=>by
   have:b≠r:=A9 e hr0;rw[o7 this,B5 this];exact e
  refine hN3 _ _ (B3 fun N4 hN4=>?_);refine ex1 rfl ⟨by decide,by decide,?_⟩;refine Aw (n:=12) (fun i σ G=>(∃v5 v6,σ = [some (.ref p),some (.int (most:Int)),some (.ref ka),some (.ref so),some (.ref r),v5,v6])/\Sm [p] H G/\(∃c:Int,c<=10+2*i/\LeftAt G p c)/\G so=some (.lst [.ref u0.1,.ref u1.1,.ref u2.1])/\∃vs:List (Addr×PC),G r=some (.lst (vs.map fun u=>V.ref u.1)) /\
   (∀u∈vs,u∈us)/\(vs.map fun u=>u.2.k).sum<=most/\vs.length<=i/\∀u∈us,PcAt (er G r) u.1 u.2) ⟨⟨_,_,rfl⟩,k5.trans (Same.new hr0).sm,⟨_,?_,L5.same (Same.new hr0)⟩,(Same.new hr0) _ _ f5,[],A7,fun u z=>absurd z BD,CD _,Nat.le_refl _,ok6⟩ ?_ ?_
  .omega
  .rintro i σ G hi ⟨⟨v5,v6,rfl⟩,kG,⟨c,hc,LG⟩,eS,vs,eR,vin,vsum,vlen,vok⟩ D1 hD1 _;refine zDd fun M1 hM1=>?_;refine ex1 rfl ⟨by show 4<=sizeLine;decide,fun l4 hl4=>?_⟩;have u4:=Same.new (o:=.lst [.int 0,.int 1,.int 1,.int 2]) hl4;have f4:(upd G l4 (.lst [.int 0,.int 1,.int 1,.int 2])) l4=some (.lst [.int 0,.int 1,.int 1,.int 2]):=A7;have n4:l4≠p:=by
    obtain⟨_,_,e0,_⟩:=LG;exact(A9 e0 hl4).symm
   refine ex1 rfl (Mh (a:=p) rfl (LG.same u4) (by omega) (by decide) (by decide) fun d G2 hd k2 L2=>?_);obtain⟨j,ej,aa,ea,ha⟩:=Ro (a0:=u0.1) (a1:=u1.1) (a2:=u2.1) d (by omega);refine⟨l4,_,_,_,rfl,rfl,SqL.of (Sm1 k2 f4 n4),ej,?_⟩;have eS2:=Sm1 k2 (u4 _ _ eS) nso;refine⟨so,_,_,_,rfl,rfl,SqL.of eS2,ea,?_⟩;obtain⟨uu,huu,rfl⟩:∃uu∈us,aa=uu.1:=by
    rcases ha with rfl | rfl | rfl
    .exact⟨_,m0,rfl⟩
    .exact⟨_,m1',rfl⟩
    .exact⟨_,m2,rfl⟩
   have eR2:=Sm1 k2 (u4 _ _ eR) nrp;have vok2:∀u∈us,PcAt (er G2 r) u.1 u.2:=fun u hu=>((vok u hu).same (Bh u4)).sm ((LG.same u4).er nrp) (Yq k2);have kG2:=(kG.trans u4.sm).trans k2;refine hM1 _ _ ?_;obtain⟨lp,ts,p1,p2,p3,p4⟩:=(vok2 uu huu).same (K0 G2 r);refine ex1 rfl ⟨r,rfl,⟨_,SqL.of eR2⟩,fun D hD=>?_⟩;refine Ps (fun u:Addr×PC=>V.int (u.2.k:Int)) (asL (SqL.of eR2)) (fun _=>true) (by omega) hD (fun u hu G3 s3 M hM=>hM G3 fun b o e=>e) (fun u hu G3 s3 M hM=>?_) fun σ' G3 s3 e3=>?_
   .obtain⟨_,_,f1,_⟩:=((vok2 u (vin u hu)).same (K0 G2 r)).same s3;exact ex1 rfl ⟨u.1,_,_,_,rfl,rfl,SqT.of f1,M6 (j:=0) rfl,hM⟩
   rw[GI.mpr fun _ _=>rfl]at e3;have e3:G3 D=some (.lst ((vs.map fun u=>(u.2.k:Int)).map V.int)):=by rw[e3,CH];rfl
   have kG3:=kG2.trans s3.sm;have eR3:=s3 _ _ eR2;have eS3:=s3 _ _ eS2;have L3:=L2.same s3;have vok3:∀u∈us,PcAt (er G3 r) u.1 u.2:=fun u hu=>(vok2 u hu).same (Bh s3);refine⟨D,_,rfl,SqL.of e3,⟨_,rfl,uu.1,_,_,_,rfl,rfl,SqT.of (s3 _ _ p1),M6 (j:=0) rfl,⟨_,_,rfl,rfl,⟨_,rfl,⟨_,_,rfl,rfl,⟨_,rfl,?_⟩⟩⟩⟩⟩⟩;rw[zBc];refine g9 (fun c1=>?_) (fun c1=>?_)
   .have c1:=BN c1;refine ex1 rfl (Mh (a:=p) rfl L3 (by omega) (by decide) (by decide) fun d' G4 hd' k4 L4=>?_);have eR4:=Sm1 k4 eR3 nrp;have eS4:=Sm1 k4 eS3 nso;have vok4:∀u∈us,PcAt (er G4 r) u.1 u.2:=fun u hu=>(vok3 u hu).sm (L3.er nrp) (Yq k4);refine⟨_,_,rfl,rfl,⟨_,rfl,g9 (fun c2=>?_) (fun c2=>?_)⟩⟩
    .refine ex1 rfl ⟨.inl ⟨rfl,_,SqL.of eR4⟩,ex1 rfl ⟨r,_,_,rfl,rfl,eR4,by rw[AB,sizeLine_eq];omega,?_⟩⟩;refine hD1 _ _ ⟨⟨_,_,rfl⟩,(kG3.trans k4).updN hrH,⟨_,?_,L4.upd nrp.symm⟩,by rw[B5 nsr];exact eS4,vs ++ [uu],by rw[A7,AL];rfl,fun u hu=>(AU.mp hu).elim (vin u) fun z=>by rw[AF.mp z];exact huu,?_,by rw[BC,DT];omega,fun u hu=>by rw[Ka];exact vok4 u hu⟩
     .omega
     .rw[AL,List.sum_append,FS,List.sum_singleton];omega
    .exact hD1 _ _ ⟨⟨_,_,rfl⟩,kG3.trans k4,⟨_,by omega,L4⟩,eS4,vs,eR4,vin,vsum,by omega,vok4⟩
   .exact hD1 _ _ ⟨⟨_,_,rfl⟩,kG3,⟨_,by omega,L3⟩,eS3,vs,eR3,vin,vsum,by omega,vok3⟩
  .rintro σ G ⟨⟨v5,v6,rfl⟩,kG,⟨c,hc,LG⟩,eS,vs,eR,vin,vsum,vlen,vok⟩;refine hN4 _ _ (ex1 rfl (q r vs G kG eR (fun u hu=>⟨(vok u (vin u hu)).same (K0 G r),?_⟩) vsum));rw[<-m1];exact AI.mpr ⟨u,vin u hu,rfl⟩
end
theorem zEc:∀j,j<12->∀r,r<4->1<=r->K8 (nmS j r)=true:=by decide +kernel
def ltB(a b:Str):Bool:=decide (¬b.cps.toList<a.cps.toList)&&decide (a≠b)
theorem zAu:((List.range 12).all fun j=>(List.range j).all fun i=>(List.range 4).all fun r=>(List.range 4).all fun s=>(r == 0||s == 0)||ltB (nmS i r) (nmS j s))=true:=by decide +kernel
theorem zDr(j:Nat)(hj:j<12)(i:Nat)(hi:i<j)(r:Nat)(hr:r<4)(r1:1<=r)(s:Nat)(hs:s<4)(s1:1<=s):ltB (nmS i r) (nmS j s)=true:=by
 have:=rng_all.mp (rng_all.mp (rng_all.mp (rng_all.mp zAu j hj) i hi) r hr) s hs;rw[CC,CC,beq_iff_eq,beq_iff_eq]at this;exact this.resolve_left fun z=>by omega
section
variable{J:JS}{n:Nat}
theorem JOk.name(h:JOk J)(l:J.nms.length<=12):∀x∈J.nms,K8 x=true:=fun x hx=>by
 obtain⟨j,hj,e⟩:=List.getElem_of_mem hx;obtain⟨r,r1,r2,er⟩:=h.nm j hj;rw[AC hj,e]at er;rw[BI er];exact zEc j (by omega) r (by omega) r1
theorem JOk.lt(h:JOk J)(l:J.nms.length<=12):J.nms.Pairwise fun a b=>leS a b/\a≠b:=FV.mpr fun i j hi hj hij=>by
 obtain⟨r,r1,r2,er⟩:=h.nm i hi;obtain⟨s,s1,s2,es⟩:=h.nm j hj;rw[AC hi]at er;rw[AC hj]at es;rw[BI er,BI es];have:=zDr j (by omega) i hij r (by omega) r1 s (by omega) s1;unfold ltB at this;rw[BG,CJ,CJ]at this;exact this
theorem JOk.nodup(h:JOk J)(l:J.nms.length<=12):J.nms.Nodup:=(h.lt l).imp fun z=>z.2
theorem JOk.names(h:JOk J)(l:J.nms.length<=12){ns:List Str}(p:ns.Perm J.nms.reverse)(s:ns.Pairwise leS):ns=J.nms :=
 Ky s ((h.lt l).imp fun z=>z.1) (p.trans (List.reverse_perm _))
theorem Dn(h:JOk J){e:Nat×Nat}(he:e∈J.es):J.nms[e.1]?=some (prN J.nms e).1/\J.nms[e.2]?=some (prN J.nms e).2:=by
 obtain⟨h1,h2⟩:=h.ie e.1 e.2 he;unfold prN;rw[AS,AS,AC h1,AC h2];exact⟨rfl,rfl⟩
theorem Jy{ns:List Str}(nd:ns.Nodup){i j:Nat}{x:Str}(h1:ns[i]?=some x)(h2:ns[j]?=some x):i=j:=(List.getElem?_inj (AH.mp h1).1 nd).mp (h1.trans h2.symm)
theorem Ux(h:JOk J)(l:J.nms.length<=12){i j:Nat}:(∃k∈J.es.map (prN J.nms),J.nms[i]?=some k.1/\J.nms[j]?=some k.2)↔(i,j)∈J.es:=by
 constructor
 .rintro⟨k,hk,h1,h2⟩;obtain⟨e,he,rfl⟩:=AI.mp hk;obtain⟨g1,g2⟩:=Dn h he;rw[Jy (h.nodup l) h1 g1,Jy (h.nodup l) h2 g2];exact he
 .intro he;exact⟨_,AI.mpr ⟨_,he,rfl⟩,Dn h he⟩
theorem JOk.strk(h:JOk J)(l:J.nms.length<=12){ps:List PA2}(m:(ps.map fun q=>q.2)=J.es.map (prN J.nms)):StrkOk J.nms.reverse ps:=by
 refine⟨fun q hq=>?_,?_,?_⟩
 .have:q.2∈J.es.map (prN J.nms):=m▸AI.mpr ⟨q,hq,rfl⟩;obtain⟨e,he,e2⟩:=AI.mp this;obtain⟨g1,g2⟩:=Dn h he;rw[<-e2];exact⟨List.mem_reverse.mpr (BJ g1),List.mem_reverse.mpr (BJ g2)⟩
 .rw[m];refine BQ.mpr ((DH.mp h.nd).imp fun{a b} ⟨ha,hb,n⟩ e=>n ?_);obtain⟨a1,a2⟩:=Dn h ha;obtain⟨b1,b2⟩:=Dn h hb;rw[e]at a1 a2;exact Prod.ext (Jy (h.nodup l) a1 b1) (Jy (h.nodup l) a2 b2)
 .have h1:=congrArg List.length m;rw[AB,AB]at h1;have:=h.le;omega
structure Says(n:Nat)(es:Ed)(A B:List Nat):Prop where
 b:∀i j,(B.getD i 0).testBit j=true↔(i,j)∈es
 a:∀i j,(A.getD i 0).testBit j=true↔(j,i)∈es
theorem JOk.says(h:JOk J)(l:J.nms.length<=12){ps qs:List PA2}{A B:List Nat}(m:(ps.map fun q=>q.2)=J.es.map (prN J.nms))(pq:qs.Perm ps)(mA:MB J.nms ((qs.map fun q=>q.2).map fun k=>(k.2,k.1)) A)(mB:MB J.nms (qs.map fun q=>q.2) B):Says J.nms.length J.es A B:=by
 have mem:∀k,k∈qs.map (fun q=>q.2)↔k∈J.es.map (prN J.nms):=fun k=>by rw[<-m];exact(pq.map _).mem_iff
 refine⟨fun i j=>?_,fun i j=>?_⟩
 .rw[mB.bit,<-Ux h l];exact⟨fun⟨k,hk,z⟩=>⟨k,(mem k).mp hk,z⟩,fun⟨k,hk,z⟩=>⟨k,(mem k).mpr hk,z⟩⟩
 .rw[mA.bit,<-Ux h l];constructor
  .rintro⟨k,hk,h1,h2⟩;obtain⟨k',hk',rfl⟩:=AI.mp hk;exact⟨k',(mem k').mp hk',h2,h1⟩
  .rintro⟨k,hk,h1,h2⟩;exact⟨(k.2,k.1),AI.mpr ⟨k,(mem k).mpr hk,rfl⟩,h2,h1⟩
variable{es:Ed}{A B:List Nat}{m:Nat}
theorem Says.hit(s:Says n es A B){x:Nat}:Cq B m x↔Hi es m x:=⟨fun⟨k,hk,e⟩=>⟨k,hk,(s.b k x).mp e⟩,fun⟨k,hk,e⟩=>⟨k,hk,(s.b k x).mpr e⟩⟩
theorem Says.quiet(s:Says n es A B):Ez B m↔Qu es m:=⟨fun h i j hi hj e=>h i j hi hj ((s.b i j).mpr e),fun h i j hi hj e=>h i j hi hj ((s.b i j).mp e)⟩
theorem Says.kept(s:Says n es A B){j:Nat}:Et n A B m j↔j<n/\Ke es m j:=by
 unfold Et Ke;exact⟨fun h=>⟨h.1,fun x e=>s.hit.mp (h.2 x ((s.a j x).mpr e))⟩,fun h=>⟨h.1,fun x e=>s.hit.mpr (h.2 x ((s.a j x).mp e))⟩⟩
theorem Says.stand(s:Says n es A B):K2 n A B m↔StE n es m:=by
 unfold K2 StE;rw[s.quiet];exact⟨fun h=>⟨h.1,h.2.1,fun j z=>(s.kept.mp (h.2.2 j z)).2⟩,fun h=>⟨h.1,h.2.1,fun j z=>s.kept.mpr ⟨h.1 j z,h.2.2 j z⟩⟩⟩
theorem Says.whole(s:Says n es A B):G8 n A B m↔WhE n es m:=by
 unfold G8 WhE;rw[s.stand];exact⟨fun h=>⟨h.1,fun j c z=>h.2 j (s.kept.mpr ⟨c,z⟩)⟩,fun h=>⟨h.1,fun j z=>h.2 j (s.kept.mp z).1 (s.kept.mp z).2⟩⟩
theorem Says.most(s:Says n es A B):MaxM G8 n A B m↔MxE n es m:=by
 unfold MaxM MxE;rw[s.whole];exact⟨fun h=>⟨h.1,fun z w=>h.2 z (s.whole.mpr w)⟩,fun h=>⟨h.1,fun z w=>h.2 z (s.whole.mp w)⟩⟩
theorem Says.out(s:Says n es A B):OutM n A B m↔OuE n es m:=by
 unfold OutM OuE;rw[s.quiet];refine⟨fun h=>⟨h.1,h.2.1,fun j c z=>s.hit.mp ((h.2.2 j c).resolve_left z)⟩,fun h=>⟨h.1,h.2.1,fun j c=>?_⟩⟩;by_cases z:m.testBit j=true
 .exact .inl z
 .exact .inr (s.hit.mpr (h.2.2 j c z))
end
theorem CntE.congr{p q:Nat->Prop}{c:Nat}(h:∀m,p m↔q m)(k:CntE q c):CntE p c:=by
 obtain⟨Ms,a,b,d⟩:=k;exact⟨Ms,a,fun m=>(b m).trans (h m).symm,d⟩
theorem zBi{c n:Nat}(h:c^3<=3^n)(l:n<=12):c<=300:=Classical.byContradiction fun z=>by
 have h1:3^n<=3^12:=Nat.pow_le_pow_right (by decide) l;have h2:301^3<=c^3:=Nat.pow_le_pow_left (by omega) 3;have h3:(3:Nat)^12<301^3:=by decide
 omega
abbrev WD27:=Addr×(Str×Nat)
def WAt(H:Hp)(ws:List WD27):Prop:=∀t∈ws,H t.1=some (.tup [.str t.2.1,D8 t.2.2])
theorem WAt.same{H H':Hp}{ws:List WD27}(h:WAt H ws)(s:Same H H'):WAt H' ws:=fun t ht=>s _ _ (h t ht)
def Af(K:PySem.W.Frag):List (Str×Nat)->TA
 | []=>Cr
 | z::r=>K1 (Ur (K1 (tC (.str z.1)) (K1 (tOp (Zm K) (Y5 3) (tC (D8 z.2))) Cr))) (Af K r)
theorem Ec{K:PySem.W.Frag}{σ:St}{m:Addr}{cs:List Nat}(hσ:σ[3]?=some (some (.ref m))):∀(zs:List (Str×Nat)) {H:Hp} {R:List V->Hp->Prop},(∀z∈zs,z.2<cs.length)->H m=some (.lst (cs.map D8))->(∀(ws:List WD27) H',Same H H'->WAt H' ws->(ws.map fun t=>t.2) =(zs.map fun z=>(z.1,cs.getD z.2 0))->R (ws.map fun t=>V.ref t.1) H')->Af K zs σ H R
 | [],H,R,_,_,h=>h [] H (Same.refl _) (fun _ z=>absurd z BD) rfl
 | z::r,H,R,l,em,h=>by
  refine⟨_,hσ,m,_,_,_,rfl,rfl,SqL.of em,Wu (l z (BE ..)),⟨by show 2<=sizeLine;decide,fun t ht=>?_⟩⟩;have ut:=Same.new (o:=.tup [.str z.1,D8 (cs.getD z.2 0)]) ht;show Af K r σ _ _;refine Ec hσ r (fun y hy=>l y (AX _ hy)) (ut _ _ em) fun ws H' s' a' m'=>?_;exact h ((t,z.1,cs.getD z.2 0)::ws) H' (ut.trans s') (fun y hy=>(AV.mp hy).elim (fun e=>by rw[e];exact s' _ _ A7) (a' y)) (by rw[AW,m'];rfl)
theorem Dl{K:PySem.W.Frag}{σ:St}{H:Hp}{R:V->Hp->Prop}{m:Addr}{cs:List Nat}(hσ:σ[3]?=some (some (.ref m)))(zs:List (Str×Nat))(l:∀z∈zs,z.2<cs.length)(n:zs.length<=10)(em:H m=some (.lst (cs.map D8)))
  (h:∀r (ws:List WD27) H',Same H H'->H' r=some (.lst (ws.map fun t=>V.ref t.1))->WAt H' ws->(ws.map fun t=>t.2) =(zs.map fun z=>(z.1,cs.getD z.2 0))->R (.ref r) H'):Om (Af K zs) σ H R:=by
 refine Ec hσ zs l em fun ws H1 s1 a1 m1=>⟨?_,fun r hr=>?_⟩
 .have:=congrArg List.length m1;rw[AB,AB]at this;rw[AB,sizeLine_eq];omega
 .have ur:=Same.new (o:=.lst (ws.map fun t=>V.ref t.1)) hr;exact h r ws _ (s1.trans ur) A7 (a1.same ur) m1
section
variable{P:Program}{w:World}{K:PySem.W.Frag}{mg:Str->Option Value}{base:Heap}
theorem X2:FnScope ["_law_pieces_here", "_law_names", "_law_strikes", "_law_many", "_law_web", "_law_words", "_law_word", "_law_due"] ["_law_pieces_here"] (B4 s_law_right):=fsc
def Dq:Sp:=fun vs H Q _=>∃(l:Addr) (us:List (Addr×PC)),vs = [.ref l]/\H l=some (.lst (us.map fun u=>V.ref u.1))/\(∀u∈us,PcAt H u.1 u.2/\u.2∈kinds8)/\(us.map fun u=>u.2.k).sum<=12/\∀H',Same H H'->Q (.bl true) H'
set_option maxHeartbeats 4000000 in
theorem Dc(T:Tx K mg):FnOk P w K mg base CX0 24 T.aG.f T.aG.fd ["_law_pieces_here"] Dq:=by
 have G_law_joined:=Bq (P:=P) (w:=w) (base:=base) T;have G_law_count:=Fm (P:=P) (w:=w) (base:=base) T;have G_Web___init__:=Hx (P:=P) (w:=w) (base:=base) T;have sc:=X2;refine T.aG.F.ok X2 (fun vs H Q E h=>?_) (fun cdv A outer s H vs Q E hr h=>?_)
 .obtain⟨l,us,rfl,_⟩:=h;rfl
 .obtain⟨l,us,rfl,el,ok,sm,q⟩:=h;refine⟨_,(@B0 _ _ _ _ _ (X5 (G9 T.aS G_law_joined (Rm hr) (A6 (pv 0) A8)) (pgT K (n:=3) (B8 (C3 (i:=1) sc.nd rfl (.inl rfl)) (B8 (C3 (i:=2) sc.nd rfl (.inl rfl)) (B8 (C3 (i:=3) sc.nd rfl (.inl rfl)) F1)))))
   (B0 (C5 (i:=4) sc.nd rfl (.inl rfl) (Gs T.bU G_Web___init__ (Rm hr) rfl T.bT T.bv .nil G6 (@A6 _ _ _ _ _ (Wk T.bh T.bJ (pv 1)) (@A6 _ _ _ _ _ (pv 2) A8 (by rfl)) (by rfl))))
   (@B0 _ _ _ _ _ (@C5 _ _ 5 _ _ _ _ sc.nd rfl (.inl rfl) (@D0 _ _ _ _ (@A6 _ _ _ _ _ (@C2 _ _ _ _ _ (@A6 _ _ _ _ _ F3 (@A6 _ _ _ _ _ (E6 (ixL K) (pv 3) B1 (fun _ _=>rfl)) A8 (by rfl)) (by rfl))) (@A6 _ _ _ _ _ (@C2 _ _ _ _ _ (@A6 _ _ _ _ _ F3 (@A6 _ _ _ _ _ (E6 (ixL K) (pv 3) B1 (fun _ _=>rfl)) A8 (by rfl)) (by rfl))) (@A6 _ _ _ _ _ (@C2 _ _ _ _ _ (@A6 _ _ _ _ _ F3 (@A6 _ _ _ _ _ (E6 (ixL K) (pv 3) B1 (fun _ _=>rfl)) A8 (by rfl)) (by rfl))) A8 (by rfl)) (by rfl)) (by rfl))) (by rfl) (by first | exact .inl rfl | exact .inr rfl | assumption))
   (@B0 _ _ _ _ _ (@R9 _ _ _ _ _ _ _ _ PassesOwn.never rfl (piL K (@C4 _ _ _ _ _ _ _ _ Av (pv 5) (@D0 _ _ _ _ (@A6 _ _ _ _ _ (@C2 _ _ _ _ _ (@A6 _ _ _ _ _ F3 (@A6 _ _ _ _ _ (E6 (ixL K) (pv 3) B1 (fun _ _=>rfl)) A8 (by rfl)) (by rfl))) (@A6 _ _ _ _ _ (@C2 _ _ _ _ _ (@A6 _ _ _ _ _ F3 (@A6 _ _ _ _ _ (E6 (ixL K) (pv 3) B1 (fun _ _=>rfl)) A8 (by rfl)) (by rfl))) A8 (by rfl)) (by rfl))))) (pgT K (n:=2) (B8 (C3 (i:=6) sc.nd rfl (.inl rfl)) (B8 (C3 (i:=7) sc.nd rfl (.inl rfl)) F1)))
   (@B2 _ _ _ (@F4 _ _ _ _ _ _ _ _ (D4 (zCu K hr.units) (G9 T.aW G_law_count (Rm hr) (@A6 _ _ _ _ _ (pv 6) (@A6 _ _ _ _ _ (pv 4) A8 (by rfl)) (by rfl))) (@E6 _ _ _ _ _ _ _ (ixL K) (@D0 _ _ _ _ (@A6 _ _ _ _ _ F3 (@A6 _ _ _ _ _ (pv 7) A8 (by rfl)) (by rfl))) (Kl m9 T.bp Ng (A6 (S7 zBa (pv 7) B1 (F0 _)) A8)) (fun _ _=>rfl)) (F0 _)) (B2 (C0 U8)) C7)) (fun _=>rfl))
   (B2 (C0 U8)))))),?_⟩
  have jok:JOk (JO (us.map fun u=>u.2)):=Zp _ fun p hp=>by
   obtain⟨u,hu,rfl⟩:=AI.mp hp;exact Uq (ok u hu).2
  have lnm:(JO (us.map fun u=>u.2)).nms.length<=12:=by rw[Uo,CH];exact sm
  refine B3 fun N1 hN1=>?_;refine ex1 rfl ⟨l,us,rfl,el,fun u hu=>⟨(ok u hu).1,Uq (ok u hu).2⟩,sm,fun t n a m ps H1 s1 et en ea pin mP em=>?_⟩;generalize JO (us.map fun u=>u.2)=J at jok lnm en mP em;refine⟨t,_,rfl,SqT.of et,rfl,_,_,rfl,_,_,rfl,_,_,rfl,rfl,?_⟩;refine hN1 _ _ (B3 fun N2 hN2=>?_);refine ex1 rfl ⟨n,_,rfl,en,fun lr hlr=>ex1 rfl ?_⟩;have ur:=Same.new (o:=.lst (J.nms.map V.str).reverse) hlr;have er1:(upd H1 lr (.lst (J.nms.map V.str).reverse)) lr=some (.lst (J.nms.reverse.map V.str)):=by rw[A7,List.map_reverse]
  have ea1:=ur _ _ ea;have em1:=ur _ _ em;have pin1:=C8 ur pin;have s2:=s1.trans ur;generalize upd H1 lr (.lst (J.nms.map V.str).reverse)=H2 at er1 ea1 em1 pin1 s2⊢;intro x dx nx ndx nex;have s0:Same H2 (upd (upd H2 dx (.own x)) x (.ins T.ac dx [])):=fun b o e=>by
   rw[B5 (A9 e nx),B5 (A9 e ndx)];exact e
  have nmr:Gw J.nms.reverse:=⟨fun y hy=>jok.name lnm y (List.mem_reverse.mp hy),(List.reverse_perm _).nodup_iff.mpr (jok.nodup lnm),by rw[List.length_reverse];omega⟩;refine⟨x,dx,lr,J.nms.reverse,a,ps,rfl,A7,s0 _ _ er1,nmr,s0 _ _ ea1,C8 s0 pin1,jok.strk lnm mP,fun ns qs H3 pn sn pq sq k3 W3=>⟨rfl,?_⟩⟩;have s3:Same H2 H3:=fun b o e=>k3 b o (s0 b o e) (by simpa using A9 e nx);have ens:=jok.names lnm pn sn;subst ens;have em3:=s3 _ _ em1;have sH:=s2.trans s3;obtain⟨c1,c2,c3,c4,ec,ct1,ct2,ct3,ct4⟩:=id jok.ct;have few:c3<=300:=zBi (by have:=jok.mx;rw[ec]at this;exact this) lnm;rw[ec]at em3;refine hN2 _ _ (B3 fun N3 hN3=>?_);show Om (Af K [("standing",0),("whole",1),("tellings",1)]) _ _ _;refine Dl rfl _ (by intro z hz;simp at hz;rcases hz with rfl | rfl | rfl <;>(show _<4;decide)) (by decide) em3 fun w1 ws H4 s4 e4 a4 m4=>?_;refine hN3 _ _ (B3 fun N4 hN4=>?_);refine⟨_,rfl,?_⟩;show Om (Af K [("greatest",2),("outright",3)]) _ _ _;refine Dl rfl _ (by intro z hz;simp at hz;rcases hz with rfl | rfl <;>(show _<4;decide)) (by decide) (s4 _ _ em3) fun w2 ws2 H5 s5 e5 a5 m5=>?_;have lw:ws.length=3:=by have:=congrArg List.length m4;rw[AB]at this;exact this
  have lw2:ws2.length=2:=by have:=congrArg List.length m5;rw[AB]at this;exact this
  refine⟨w1,w2,_,_,rfl,rfl,s5 _ _ e4,e5,by rw[AB,AB,lw,lw2];decide,fun w3 hw3=>?_⟩;rw[<-AL];have u6:=Same.new (o:=.lst ((ws++ws2).map fun t=>V.ref t.1)) hw3;have e6:(upd H5 w3 (.lst ((ws++ws2).map fun t=>V.ref t.1))) w3=some (.lst ((ws++ws2).map fun t=>V.ref t.1)):=A7;have a6:WAt (upd H5 w3 (.lst ((ws++ws2).map fun t=>V.ref t.1))) (ws++ws2):=fun t ht=>(AU.mp ht).elim (fun z=>u6 _ _ (s5 _ _ (a4 t z))) fun z=>u6 _ _ (a5 t z);have m6:((ws++ws2).map fun t=>t.2) = [(("standing":Str),c1),("whole",c2),("tellings",c2),("greatest",c3),("outright",c4)]:=by rw[AL,m4,m5];rfl
  have W6:=W3.same ((s4.trans s5).trans u6);have s6:=sH.trans ((s4.trans s5).trans u6);have l6:(ws++ws2).length=5:=by rw[BC,lw,lw2]
  generalize upd H5 w3 (.lst ((ws++ws2).map fun t=>V.ref t.1))=H6 at e6 a6 W6 s6⊢;generalize ws++ws2=ws at m6 e6 a6 l6⊢;have srt:∀z∈[(("standing":Str),c1),("whole",c2),("tellings",c2),("greatest",c3),("outright",c4)],∃Tg:Tgt,Xj z.1 Tg z.2/\∀A B,MB J.nms ((qs.map fun q=>q.2).map fun k=>(k.2,k.1)) A->MB J.nms (qs.map fun q=>q.2) B->CntE (Tg J.nms.length A B) z.2:=by
   intro z hz;simp only[AV,BD,or_false]at hz;rcases hz with rfl | rfl | rfl | rfl | rfl
   .exact⟨K2,.inl ⟨rfl,rfl⟩,fun A B mA mB=>CntE.congr (fun m=>(jok.says lnm mP pq mA mB).stand) ct1⟩
   .exact⟨G8,.inr (.inl ⟨rfl,rfl⟩),fun A B mA mB=>CntE.congr (fun m=>(jok.says lnm mP pq mA mB).whole) ct2⟩
   .exact⟨G8,.inr (.inr (.inl ⟨rfl,rfl⟩)),fun A B mA mB=>CntE.congr (fun m=>(jok.says lnm mP pq mA mB).whole) ct2⟩
   .exact⟨MaxM G8,.inr (.inr (.inr (.inl ⟨rfl,rfl,few⟩))),fun A B mA mB=>CntE.congr (fun m=>(jok.says lnm mP pq mA mB).most) ct3⟩
   .exact⟨OutM,.inr (.inr (.inr (.inr ⟨rfl,rfl⟩))),fun A B mA mB=>CntE.congr (fun m=>(jok.says lnm mP pq mA mB).out) ct4⟩
  refine⟨w3,rfl,⟨_,SqL.of e6⟩,Bm (asL (K:=K) (SqL.of e6)) (fun i σ G=>(∃v6 v7,σ = [some (.ref l),some (.ref n),some (.ref a),some (.ref m),some (.ref x),some (.ref w1),v6,v7])/\Same H6 G) ⟨⟨_,_,rfl⟩,Same.refl _⟩ (fun i σ G _ h=>h.2.at w3) ?_ ?_⟩
  .rintro i σ G v hv ⟨⟨v6,v7,rfl⟩,sG⟩ D1 hD1 hrt;rw[AJ]at hv;obtain⟨t,ht,rfl⟩:=BU.mp hv;have mt:=BJ ht;obtain⟨Tg,so,ct⟩:=srt t.2 (m6▸AI.mpr ⟨t,mt,rfl⟩);refine⟨t.1,_,rfl,SqT.of (sG _ _ (a6 t mt)),rfl,_,_,rfl,_,_,rfl,rfl,?_⟩;refine ex1 rfl (ex1 rfl ⟨t.2.1,x,J.nms,qs,t.2.2,Tg,rfl,W6.same sG,lnm,jok.name lnm,ct,so,fun le G2 s2=>?_,fun gt G2 s2=>?_⟩)
   .refine ex1 rfl ⟨by show 2<=sizeLine;decide,fun l2 hl2=>?_⟩;refine ex1 rfl ⟨_,_,rfl,rfl,.inr ⟨_,rfl,?_⟩⟩;rw[show decide ((t.2.2:Int)<301)=true from AZ (by omega)];refine⟨l2,_,_,D8 t.2.2,rfl,rfl,SqL.of A7,rfl,?_⟩;have rp:∀G:Hp,Rp K G (.int (t.2.2:Int)) (D8 t.2.2):=fun G=>by simp only[Rp];rfl
    refine Qm (rp _) (rp _) ⟨by simp only[PyData.canLay0],by simp[PyData.depth]⟩ ⟨_,rfl,T0 (hD1 _ _ ⟨⟨_,_,rfl⟩,sG.trans (s2.trans (Same.new hl2))⟩)⟩
   .refine ex1 rfl ⟨by show 2<=sizeLine;decide,fun l2 hl2=>?_⟩;refine ex1 rfl ⟨_,_,rfl,rfl,.inr ⟨_,rfl,?_⟩⟩;rw[show decide ((t.2.2:Int)<301)=false from AN (by omega)];refine⟨l2,_,_,.str "many",rfl,rfl,SqL.of A7,rfl,?_⟩;have rp:∀G:Hp,Rp K G (.str "many") (.str "many"):=fun G=>by simp only[Rp]
    refine Qm (rp _) (rp _) ⟨by rw[PyData.canLay0];decide +kernel,by rw[PyData.depth];decide⟩ ⟨_,rfl,T0 (hD1 _ _ ⟨⟨_,_,rfl⟩,sG.trans (s2.trans (Same.new hl2))⟩)⟩
  .rintro σ G ⟨⟨v6,v7,rfl⟩,sG⟩;exact hN4 _ _ (q _ (s6.trans sG))
theorem Vd:FnScope ["_law_script", "_law_kinds_here", "_law_k"] ["_law_script"] (B4 s_law):=fsc
def Kb(K:PySem.W.Frag):Sp:=fun vs H Q _=>∃(u:Addr) (xs:List Int),vs = [.ref u]/\SqL K H u (xs.map V.int)/\xs.length<=63/\∀H',Q (.bl true) H'
set_option maxHeartbeats 4000000 in
theorem zAz(T:Tx K mg){f:Addr}{fd:FuncData}(F:Fun K "law" "law" s_law f fd):FnOk P w K mg base CX0 25 f fd ["_law_script"] (Kb K):=by
 have G_law_kinds:=X3 (P:=P) (w:=w) (base:=base) T;have G_law_right:=Dc (P:=P) (w:=w) (base:=base) T;have G_law_pieces:=Cc (P:=P) (w:=w) (base:=base) T;have G_law_left:=Fy (P:=P) (w:=w) (base:=base) T;have sc:=Vd;refine F.ok Vd (fun vs H Q E h=>?_) (fun cdv A outer s H vs Q E hr h=>?_)
 .obtain⟨u,xs,rfl,_⟩:=h;rfl
 .obtain⟨u,xs,rfl,hS,hlen,q⟩:=h;refine⟨_,(B0 (C5 (i:=1) sc.nd rfl (.inl rfl) (Ij G_law_kinds (Rm hr) rfl T.as.m T.as.F.kp T.as.b .nil G6))
   (@B0 _ _ _ _ _ (@F4 _ _ _ _ _ _ _ _ (PW.pt (Gv (S3 (J6 (G9 T.aG G_law_right (Rm hr) (@A6 _ _ _ _ _ (@D0 _ _ _ _ (@A6 _ _ _ _ _ (E6 (ixL K) (pv 1) B1 (fun _ _=>rfl)) (@A6 _ _ _ _ _ (E6 (ixL K) (pv 1) B1 (fun _ _=>rfl)) (@A6 _ _ _ _ _ (E6 (ixL K) (pv 1) B1 (fun _ _=>rfl)) (@A6 _ _ _ _ _ (E6 (ixL K) (pv 1) B1 (fun _ _=>rfl)) A8 (by rfl)) (by rfl)) (by rfl)) (by rfl))) A8 (by rfl))))) (t9 (S3 (J6 (G9 T.aG G_law_right (Rm hr) (A6 (C4 Av (D0 (A6 (E6 (ixL K) (pv 1) B1 (fun _ _=>rfl)) A8)) (C4 Yv (D0 (A6 (E6 (ixL K) (pv 1) B1 (fun _ _=>rfl)) A8)) B1)) A8))))))) (B2 (C0 U8)) C7)
   (B0 (R9 PassesOwn.never rfl (zDi T.bm (A6 (F2 (Op rfl) T.bX zBd (@A6 _ _ _ _ _ B1 (@A6 _ _ _ _ _ (F2 (Mp rfl) T.bW zAy (@A6 _ _ _ _ _ (F2 (t6 K) T.aU X6 (A6 (pv 0) A8)) (@A6 _ _ _ _ _ B1 A8 (by rfl)) (by rfl))) A8 (by rfl)) (by rfl))) A8)) (C3 (i:=2) sc.nd rfl (.inl rfl))
   (B2 (F4 (S3 (J6 (G9 T.aG G_law_right (Rm hr) (A6 (G9 T.aT G_law_pieces (Rm hr) (@A6 _ _ _ _ _ (G9 T.a1 G_law_left (Rm hr) (@A6 _ _ _ _ _ (pv 0) (@A6 _ _ _ _ _ (pv 2) A8 (by rfl)) (by rfl))) (@A6 _ _ _ _ _ (Jz (D4 d6 (pv 2) B1 (F0 _)) B1 B1) A8 (by rfl)) (by rfl))) A8)))) (B2 (C0 U8)) C7)))
   (B2 (C0 U8))))),?_⟩
  refine B3 fun N1 hN1=>?_;refine⟨rfl,fun ka us H1 s1 e1 a1 m1=>?_⟩;have lu:us.length=8:=by rw[<-AB (as:=us) (fun u=>u.2),m1];rfl
  have k8:∀u∈us,u.2∈kinds8:=fun u hu=>by rw[<-m1];exact AI.mpr ⟨u,hu,rfl⟩
  have at8:∀d:Nat,d<8->∃u∈us,atI (us.map fun u=>V.ref u.1) (d:Int)=some (.ref u.1)/\u.2=kinds8.getD d ⟨0,[],[]⟩:=fun d hd=>⟨us[d],EB _,M6 (by rw[AJ,AC (by omega)];rfl),by rw[<-m1,AS,AJ,AC (by omega)];rfl⟩;refine hN1 _ _ (B3 fun N2 hN2=>?_);obtain⟨u7,i7,e7,k7⟩:=at8 7 (by decide);obtain⟨u1,i1,e1',k1⟩:=at8 1 (by decide);obtain⟨u4,i4,e4,k4⟩:=at8 4 (by decide);have sq:=SqL.of (K:=K) e1;refine⟨_,rfl,ka,_,_,_,rfl,rfl,sq,e7,?_⟩;refine⟨_,rfl,ka,_,_,_,rfl,rfl,sq,e7,?_⟩;refine⟨_,rfl,ka,_,_,_,rfl,rfl,sq,e1',?_⟩;refine⟨_,rfl,ka,_,_,_,rfl,rfl,sq,e4,?_⟩;refine⟨by show 4<=sizeLine;decide,fun l1 hl1=>?_⟩;have ul:=Same.new (o:=.lst [.ref u7.1,.ref u7.1,.ref u1.1,.ref u4.1]) hl1;have f1:(upd H1 l1 (.lst [.ref u7.1,.ref u7.1,.ref u1.1,.ref u4.1])) l1=some (.lst ([u7,u7,u1,u4].map fun u=>V.ref u.1)):=A7;refine⟨l1,[u7,u7,u1,u4],rfl,f1,fun v hv=>?_,?_,fun H2 s2=>⟨true,rfl,?_⟩⟩
  .have:v∈us:=by
    simp only[AV,BD,or_false]at hv;rcases hv with rfl | rfl | rfl | rfl<;>assumption
   exact⟨(a1 v this).same ul,k8 v this⟩
  .simp only[AW,IA,k7,k1,k4];decide
  have s3:=ul.trans s2;refine T0 ?_;have sq2:=SqL.of (K:=K) (s3 _ _ e1);refine⟨_,rfl,ka,_,_,_,rfl,rfl,sq2,e7,⟨by show 1<=sizeLine;decide,fun l2 hl2=>?_⟩⟩;have u2:=Same.new (o:=.lst [.ref u7.1]) hl2;have f2:(upd H2 l2 (.lst [.ref u7.1])) l2=some (.lst [.ref u7.1]):=A7;have s4:=s3.trans u2;generalize upd H2 l2 (.lst [.ref u7.1])=H3 at f2 s4⊢;refine⟨_,rfl,ka,_,_,_,rfl,rfl,SqL.of (s4 _ _ e1),e4,⟨by show 1<=sizeLine;decide,fun l3 hl3=>?_⟩⟩;have u3:=Same.new (o:=.lst [.ref u4.1]) hl3;have f3:(upd H3 l3 (.lst [.ref u4.1])) l3=some (.lst [.ref u4.1]):=A7;have f2:=u3 _ _ f2;have s5:=s4.trans u3;generalize upd H3 l3 (.lst [.ref u4.1])=H4 at f2 f3 s5⊢;refine⟨l3,_,_,rfl,rfl,f3,by decide,by decide,by show 1*3<=sizeLine;decide,fun l4 hl4=>?_⟩;have u5:=Same.new (o:=.lst (List.replicate (Int.toNat 3) [V.ref u4.1]).flatten) hl4;have f4:(upd H4 l4 (.lst (List.replicate (Int.toNat 3) [V.ref u4.1]).flatten)) l4=some (.lst [.ref u4.1,.ref u4.1,.ref u4.1]):=A7;have f2:=u5 _ _ f2;have s6:=s5.trans u5;generalize upd H4 l4 (.lst (List.replicate (Int.toNat 3) [V.ref u4.1]).flatten)=H5 at f2 f4 s6⊢;refine⟨l2,l4,_,_,rfl,rfl,f2,f4,by show 4<=sizeLine;decide,fun l5 hl5=>?_⟩;have u6:=Same.new (o:=.lst ([.ref u7.1] ++ [.ref u4.1,.ref u4.1,.ref u4.1])) hl5;have f5:(upd H5 l5 (.lst ([.ref u7.1] ++ [.ref u4.1,.ref u4.1,.ref u4.1]))) l5=some (.lst ([u7,u4,u4,u4].map fun u=>V.ref u.1)):=A7;have s7:=s6.trans u6;refine⟨l5,[u7,u4,u4,u4],rfl,f5,fun v hv=>?_,?_,fun H6 s8=>⟨true,rfl,?_⟩⟩
  .have:v∈us:=by
    simp only[AV,BD,or_false]at hv;rcases hv with rfl | rfl | rfl | rfl<;>assumption
   exact⟨(a1 v this).same s7,k8 v this⟩
  .simp only[AW,IA,k7,k4];decide
  have sE:=s1.trans (s7.trans s8);refine T0 (hN2 _ _ (B3 fun N3 hN3=>?_));have S6:SqL K H6 u (xs.map V.int):=(sE.at u).seqL hS;have hz:∀l:Int,∃z:Nat,(if(if(6:Int)<l then 6 else l)>1 then(if(6:Int)<l then 6 else l)else 1) =(z:Int)/\z<=6:=fun l=>by
   by_cases h1:(6:Int)<l
   .rw[AO h1];exact⟨6,by decide,by decide⟩
   .rw[AK h1];by_cases h2:l>1
    .rw[AO h2];exact⟨l.toNat,by omega,by omega⟩
    .rw[AK h2];exact⟨1,by decide,by decide⟩
  obtain⟨z,ez,hz⟩:=hz ((xs.map V.int).length:Int);refine ex1 rfl (C1 (a:=u) rfl (.inl S6) ⟨_,_,rfl,_,_,rfl,?_⟩);rw[ez];refine⟨_,rfl,by omega,by omega,?_⟩;rw[FG];refine Aw (fun i σ G=>(∃v2,σ = [some (.ref u),some (.ref ka),v2])/\Same H G) ⟨⟨_,rfl⟩,sE⟩ ?_ ?_
  .rintro i σ G hi ⟨⟨v2,rfl⟩,sG⟩ D1 hD1 hrt;rw[Int.zero_add];have SG:SqL K G u (xs.map V.int):=(sG.at u).seqL hS;refine ex1 rfl (ex1 rfl ⟨u,xs,i,rfl,SG,by omega,fun p G2 hp s2 L2=>?_⟩);have fin:∀most:Nat,most<=12->Ev [.ref p,.int (most:Int)] G2 (fun x H1=>Dq [x] H1 (fun x H1=>∃c,x = .bl c/\(if(!c)=true then Zt (tC (.bl false)) D1 [some (.ref u),some (.ref ka),some (.int (i:Int))] H1 else zCg D1 [some (.ref u),some (.ref ka),some (.int (i:Int))] H1)) E0) E0:=fun most hm=>by
    refine⟨p,most,rfl,L2,fun r vs G3 k3 e3 a3 m3=>⟨r,vs,rfl,e3,a3,by omega,fun G4 s4=>⟨true,rfl,T0 (hD1 _ _ ⟨⟨_,rfl⟩,?_⟩)⟩⟩⟩;exact fun b o e=>s4 b o (k3 b o (s2 b o (sG b o e)) (by simpa using A9 (sG b o e) hp))
   refine ex1 rfl ⟨rfl,_,rfl,g9 (fun _=>?_) (fun _=>?_)⟩
   .exact fin 12 (by decide)
   .exact fin 8 (by decide)
  .rintro σ G ⟨⟨v2,rfl⟩,sG⟩;exact hN3 _ _ (q _)
end
section
variable{K:PySem.W.Frag}{h:Heap}{mg:Str->Option Value}
def fn_mk{x:Str}{st:Stmt}{ps:List Str}{f:Addr}{oc:Value}{od an:Option Addr}{osl:Array (Option Value)}{kV doc pm cdv ct:Value}(X:K.In h)(G:h.Ns mainGlobals mg)(a:PySem.W.nsIn K mainGlobals x=some (some (.ref f)))
  (l:K.lookup f=some ⟨oc,od,.func (PySem.W.fnOf x x (K7 st) (I0 st) (B4 st) .none kV doc pm an cdv ct),osl⟩) (c:PySem.W.codeIn K cdv x=true) (k:PySem.W.keepIn K (.ref f)=true)
  (hb:∀(kV doc pm:Value) (an:Option Addr) (cdv ct:Value) (us:List Value),us.length=ps.length->bindArgs (PySem.W.fnOf x x (K7 st) (I0 st) (B4 st) .none kV doc pm an cdv ct) ⟨us,[]⟩=pure (ps.zip us)):Fn K mg x st ps :=
 ⟨f,_,fun_mk l c k,(fun_mk l c k).binds hb,PySem.W.mg_of X G a⟩
def mt_mk{C:Addr}{x q:Str}{st:Stmt}{ps:List Str}{f:Addr}{oc:Value}{od an:Option Addr}{osl:Array (Option Value)}{kV doc pm cdv ct:Value}(a:PySem.W.findIn K (.ref C) x=some (some (.ref f)))(i:PySem.W.isFn K (.ref f)=true)
  (l:K.lookup f=some ⟨oc,od,.func (PySem.W.fnOf x q (K7 st) (I0 st) (B4 st) .none kV doc pm an cdv ct),osl⟩) (c:PySem.W.codeIn K cdv q=true) (k:PySem.W.keepIn K (.ref f)=true)
  (hb:∀(kV doc pm:Value) (an:Option Addr) (cdv ct:Value) (us:List Value),us.length=ps.length->bindArgs (PySem.W.fnOf x q (K7 st) (I0 st) (B4 st) .none kV doc pm an cdv ct) ⟨us,[]⟩=pure (ps.zip us)):Mt K C x q st ps :=
 ⟨f,_,fun_mk l c k,(fun_mk l c k).binds hb,⟨a,i,k⟩⟩
theorem str_mk{x z:Str}{v:Value}(X:K.In h)(G:h.Ns mainGlobals mg)(a:PySem.W.nsIn K mainGlobals x=some (some v))(e:∃t,v = .str z t):∃t,mg x=some (.str z t):=by
 obtain⟨t,rfl⟩:=e;exact⟨t,PySem.W.mg_of X G a⟩
theorem int_mk{x:Str}{z:Int}{v:Value}(X:K.In h)(G:h.Ns mainGlobals mg)(a:PySem.W.nsIn K mainGlobals x=some (some v))(e:∃t,v = .int z t):∃t,mg x=some (.int z t):=by
 obtain⟨t,rfl⟩:=e;exact⟨t,PySem.W.mg_of X G a⟩
theorem len1{us:List Value}(h:us.length=1):∃a,us = [a]:=List.length_eq_one_iff.mp h
theorem len2{us:List Value}(h:us.length=2):∃a b,us = [a,b]:=by
 cases us with
 | nil=>cases h
 | cons a r=>obtain⟨b,rfl⟩:=len1 (Nat.succ.inj h);exact⟨a,b,rfl⟩
theorem len3{us:List Value}(h:us.length=3):∃a b c,us = [a,b,c]:=by
 cases us with
 | nil=>cases h
 | cons a r=>obtain⟨b,c,rfl⟩:=len2 (Nat.succ.inj h);exact⟨a,b,c,rfl⟩
theorem zFh{us:List Value}(h:us.length=4):∃a b c d,us = [a,b,c,d]:=by
 cases us with
 | nil=>cases h
 | cons a r=>obtain⟨b,c,d,rfl⟩:=len3 (Nat.succ.inj h);exact⟨a,b,c,d,rfl⟩
theorem zEq{us:List Value}(h:us.length=5):∃a b c d e,us = [a,b,c,d,e]:=by
 cases us with
 | nil=>cases h
 | cons a r=>obtain⟨b,c,d,e,rfl⟩:=zFh (Nat.succ.inj h);exact⟨a,b,c,d,e,rfl⟩
theorem len6{us:List Value}(h:us.length=6):∃a b c d e f,us = [a,b,c,d,e,f]:=by
 cases us with
 | nil=>cases h
 | cons a r=>obtain⟨b,c,d,e,f,rfl⟩:=zEq (Nat.succ.inj h);exact⟨a,b,c,d,e,f,rfl⟩
theorem ni_mk{C:Addr}(h:PySem.W.findIn K (.ref C) "__init__" = some (some (.builtin "ValueError.__init__"))):PySem.W.findIn K (.ref C) "__init__" = some (some (.builtin "ValueError.__init__")):=h
theorem noattr_mk{C:Addr}{f:Str}(h:PySem.W.findIn K (.ref C) f=some none):NoAttr K C f:=h
end
theorem all_mk{l:PySem.W.OpenLaw}{w:World}{K:PySem.W.Frag}{h:Heap}{mg:Str->Option Value}{fa f:Addr}{oc:Value}{od an:Option Addr}{osl:Array (Option Value)}{kV doc pm cdv ct:Value}(X:K.In h)(G:h.Ns mainGlobals mg)(hfa:mg "law" = some (.ref fa))
  (T:Tx K mg) (a:PySem.W.nsIn K mainGlobals "law" = some (some (.ref f))) (lk:K.lookup f=some ⟨oc,od,.func (PySem.W.fnOf "law" "law" (K7 s_law) (I0 s_law) (B4 s_law) .none kV doc pm an cdv ct),osl⟩) (c:PySem.W.codeIn K cdv "law" = true) (k:PySem.W.keepIn K (.ref f)=true) :
  ∃fd:FuncData,(∀(s:Shared) (v:Value),BindsTo s fd ⟨[v],[]⟩ [("_law_script",v)])/\∀base:Heap,K.In base->base.Ns mainGlobals mg->FnOk l.prog w K mg base CX0 25 fa fd ["_law_script"] (Kb K):=by
 have e:=hfa.symm.trans (PySem.W.mg_of X G a);cases e;exact⟨PySem.W.fnOf "law" "law" (K7 s_law) (I0 s_law) (B4 s_law) .none kV doc pm an cdv ct,fun s v=>.of_eq rfl,fun base _ _=>zAz T (fun_mk lk c k)⟩
theorem walk{l:PySem.W.OpenLaw}{q:Program}{loose:List Str}{XP:(Str->Option Value)->Heap->Prop}{YP:World->Heap->Prop}{d:DefRec}{K:Params->PySem.W.Frag}(hn:l.most=some 63)(hdf:d.params.defaults = [])
  (hY:∀(w:World) (h:Heap),YP w h->(K w.params).In h)
  (F:∀(w:World) (mg:Str->Option Value) (fa:Addr) (h:Heap),(K w.params).In h->h.Ns mainGlobals mg->mg d.name=some (.ref fa) ->
   ∃fd:FuncData,(∀(s:Shared) (u:Value),BindsTo s fd ⟨[u],[]⟩ [("_law_script",u)])/\∀base:Heap,(K w.params).In base->base.Ns mainGlobals mg->FnOk l.prog w (K w.params) mg base CX0 25 fa fd ["_law_script"] (Kb (K w.params))) :
  PySem.W.WalkO q loose XP YP l.row.toRowW d [] (fun f vs=>PySem.call f vs) :=
 L2.walk_of (n:=63) (k:=25) (x := "_law_script") (CX:=fun _=>CX0) (sp:=fun w=>Kb (K w.params)) hn (by decide) hdf ⟨rfl,by decide,by decide⟩ hY F (fun _ _ a ns hl _ hS=>⟨a,ns,rfl,hS,hl,fun _=>rfl⟩) fun _ _ _ _ _ z=>z
end Sw
open PySem PySem.W PyProof.Rows
set_option maxRecDepth 100000 in
set_option maxHeartbeats 0 in
theorem PySem.Challenge.cw_strikeweave_k27_too_many_sets_holds : PySem.Challenge.rw_strikeweave_k27_too_many_sets.Holds := by
 w_on;o_law;k_head;(case hw=>w_witness2)
 k_fill
 refine Sw.walk (l:=PySem.Challenge.rw_strikeweave_k27_too_many_sets) rfl rfl (fun w h Y=>PySem.W.kIn_of Y) ?F
 case F =>
  intro w mg fa h KX G hmg;refine' Sw.all_mk KX G hmg (Sw.Tx.mk (Sw.fn_mk KX G ?a1 ?l2 ?c3 ?k4 (fun _ _ _ _ _ _ us hl=>by obtain⟨a,b,rfl⟩:=Sw.len2 hl;rfl))
   (Sw.fn_mk KX G ?a5 ?l6 ?c7 ?k8 (fun _ _ _ _ _ _ us hl=>by obtain⟨a,b,rfl⟩:=Sw.len2 hl;rfl))
   (Sw.fn_mk KX G ?a9 ?l10 ?c11 ?k12 (fun _ _ _ _ _ _ us hl=>by obtain⟨a,rfl⟩:=Sw.len1 hl;rfl))
   (Sw.fn_mk KX G ?a13 ?l14 ?c15 ?k16 (fun _ _ _ _ _ _ us hl=>by obtain⟨a,rfl⟩:=Sw.len1 hl;rfl))
   (Sw.fn_mk KX G ?a17 ?l18 ?c19 ?k20 (fun _ _ _ _ _ _ us hl=>by obtain⟨a,rfl⟩:=Sw.len1 hl;rfl))
   (Sw.fn_mk KX G ?a21 ?l22 ?c23 ?k24 (fun _ _ _ _ _ _ us hl=>by obtain⟨a,rfl⟩:=Sw.len1 hl;rfl))
   (Sw.fn_mk KX G ?a25 ?l26 ?c27 ?k28 (fun _ _ _ _ _ _ us hl=>by obtain⟨a,rfl⟩:=Sw.len1 hl;rfl))
   (Sw.fn_mk KX G ?a29 ?l30 ?c31 ?k32 (fun _ _ _ _ _ _ us hl=>by obtain⟨a,rfl⟩:=Sw.len1 hl;rfl))
   (Sw.fn_mk KX G ?a33 ?l34 ?c35 ?k36 (fun _ _ _ _ _ _ us hl=>by obtain⟨a,rfl⟩:=Sw.len1 hl;rfl))
   (Sw.fn_mk KX G ?a37 ?l38 ?c39 ?k40 (fun _ _ _ _ _ _ us hl=>by obtain⟨a,b,c,rfl⟩:=Sw.len3 hl;rfl))
   (Sw.fn_mk KX G ?a41 ?l42 ?c43 ?k44 (fun _ _ _ _ _ _ us hl=>by obtain⟨a,b,c,d,e,f,rfl⟩:=Sw.len6 hl;rfl))
   (Sw.fn_mk KX G ?a45 ?l46 ?c47 ?k48 (fun _ _ _ _ _ _ us hl=>by obtain⟨a,b,c,rfl⟩:=Sw.len3 hl;rfl))
   (Sw.fn_mk KX G ?a49 ?l50 ?c51 ?k52 (fun _ _ _ _ _ _ us hl=>by obtain⟨a,b,c,rfl⟩:=Sw.len3 hl;rfl))
   (Sw.fn_mk KX G ?a53 ?l54 ?c55 ?k56 (fun _ _ _ _ _ _ us hl=>by obtain⟨a,b,c,rfl⟩:=Sw.len3 hl;rfl))
   (Sw.fn_mk KX G ?a57 ?l58 ?c59 ?k60 (fun _ _ _ _ _ _ us hl=>by obtain⟨a,rfl⟩:=Sw.len1 hl;rfl))
   (Sw.fn_mk KX G ?a61 ?l62 ?c63 ?k64 (fun _ _ _ _ _ _ us hl=>by obtain⟨a,rfl⟩:=Sw.len1 hl;rfl))
   (Sw.fn_mk KX G ?a65 ?l66 ?c67 ?k68 (fun _ _ _ _ _ _ us hl=>by obtain⟨a,b,rfl⟩:=Sw.len2 hl;rfl))
   (Sw.fn_mk KX G ?a69 ?l70 ?c71 ?k72 (fun _ _ _ _ _ _ us hl=>by obtain⟨a,b,rfl⟩:=Sw.len2 hl;rfl))
   (Sw.fn_mk KX G ?a73 ?l74 ?c75 ?k76 (fun _ _ _ _ _ _ us hl=>by obtain⟨a,b,rfl⟩:=Sw.len2 hl;rfl))
   (Sw.fn_mk KX G ?a77 ?l78 ?c79 ?k80 (fun _ _ _ _ _ _ us hl=>by obtain⟨a,b,rfl⟩:=Sw.len2 hl;rfl))
   (Sw.fn_mk KX G ?a81 ?l82 ?c83 ?k84 (fun _ _ _ _ _ _ us hl=>by obtain⟨a,b,rfl⟩:=Sw.len2 hl;rfl))
   (Sw.fn_mk KX G ?a85 ?l86 ?c87 ?k88 (fun _ _ _ _ _ _ us hl=>by obtain rfl:=HV.mp hl;rfl))
   (Sw.fn_mk KX G ?a89 ?l90 ?c91 ?k92 (fun _ _ _ _ _ _ us hl=>by obtain⟨a,rfl⟩:=Sw.len1 hl;rfl))
   (Sw.fn_mk KX G ?a93 ?l94 ?c95 ?k96 (fun _ _ _ _ _ _ us hl=>by obtain⟨a,b,rfl⟩:=Sw.len2 hl;rfl))
   (Sw.fn_mk KX G ?a97 ?l98 ?c99 ?k100 (fun _ _ _ _ _ _ us hl=>by obtain⟨a,b,rfl⟩:=Sw.len2 hl;rfl))
   (Sw.fn_mk KX G ?a101 ?l102 ?c103 ?k104 (fun _ _ _ _ _ _ us hl=>by obtain⟨a,b,rfl⟩:=Sw.len2 hl;rfl))
   (Sw.fn_mk KX G ?a105 ?l106 ?c107 ?k108 (fun _ _ _ _ _ _ us hl=>by obtain⟨a,rfl⟩:=Sw.len1 hl;rfl))
   _
   ⟨?g110,?g111,?g112,?g113⟩
   (PySem.W.mg_of KX G ?q109)
   (Sw.noattr_mk ?n114)
   (Sw.noattr_mk ?n115)
   (Sw.noattr_mk ?n116)
   (Sw.noattr_mk ?n117)
   (Sw.noattr_mk ?n118)
   (Sw.noattr_mk ?n119)
   _
   _
   (L2.fun_mk ?l122 ?c123 ?k124)
   (L2.Fun.binds (L2.fun_mk ?l122 ?c123 ?k124) (fun _ _ _ _ _ _ us hl=>by obtain⟨a,b,rfl⟩:=Sw.len2 hl;rfl))
   ⟨?g125,?a120,?i121,?k126⟩
   (Sw.mt_mk ?a127 ?i128 ?l129 ?c130 ?k131 (fun _ _ _ _ _ _ us hl=>by obtain⟨a,b,rfl⟩:=Sw.len2 hl;rfl))
   (Sw.mt_mk ?a132 ?i133 ?l134 ?c135 ?k136 (fun _ _ _ _ _ _ us hl=>by obtain⟨a,b,rfl⟩:=Sw.len2 hl;rfl))
   (Sw.mt_mk ?a137 ?i138 ?l139 ?c140 ?k141 (fun _ _ _ _ _ _ us hl=>by obtain⟨a,b,rfl⟩:=Sw.len2 hl;rfl))
   (Sw.mt_mk ?a142 ?i143 ?l144 ?c145 ?k146 (fun _ _ _ _ _ _ us hl=>by obtain⟨a,b,rfl⟩:=Sw.len2 hl;rfl))
   (Sw.mt_mk ?a147 ?i148 ?l149 ?c150 ?k151 (fun _ _ _ _ _ _ us hl=>by obtain⟨a,b,rfl⟩:=Sw.len2 hl;rfl))
   (Sw.mt_mk ?a152 ?i153 ?l154 ?c155 ?k156 (fun _ _ _ _ _ _ us hl=>by obtain⟨a,b,rfl⟩:=Sw.len2 hl;rfl))
   (Sw.mt_mk ?a157 ?i158 ?l159 ?c160 ?k161 (fun _ _ _ _ _ _ us hl=>by obtain⟨a,b,rfl⟩:=Sw.len2 hl;rfl))
   (Sw.mt_mk ?a162 ?i163 ?l164 ?c165 ?k166 (fun _ _ _ _ _ _ us hl=>by obtain⟨a,b,rfl⟩:=Sw.len2 hl;rfl))
   _
   ⟨?g168,?g169,?g170,?g171⟩
   (PySem.W.mg_of KX G ?q167)
   (Sw.noattr_mk ?n172)
   (Sw.noattr_mk ?n173)
   (Sw.noattr_mk ?n174)
   (Sw.noattr_mk ?n175)
   _
   _
   (L2.fun_mk ?l178 ?c179 ?k180)
   (L2.Fun.binds (L2.fun_mk ?l178 ?c179 ?k180) (fun _ _ _ _ _ _ us hl=>by obtain⟨a,b,c,rfl⟩:=Sw.len3 hl;rfl))
   ⟨?g181,?a176,?i177,?k182⟩
   (Sw.mt_mk ?a183 ?i184 ?l185 ?c186 ?k187 (fun _ _ _ _ _ _ us hl=>by obtain⟨a,rfl⟩:=Sw.len1 hl;rfl))
   (Sw.mt_mk ?a188 ?i189 ?l190 ?c191 ?k192 (fun _ _ _ _ _ _ us hl=>by obtain⟨a,rfl⟩:=Sw.len1 hl;rfl))
   (Sw.mt_mk ?a193 ?i194 ?l195 ?c196 ?k197 (fun _ _ _ _ _ _ us hl=>by obtain⟨a,b,rfl⟩:=Sw.len2 hl;rfl))
   (Sw.mt_mk ?a198 ?i199 ?l200 ?c201 ?k202 (fun _ _ _ _ _ _ us hl=>by obtain⟨a,b,rfl⟩:=Sw.len2 hl;rfl))
   (Sw.mt_mk ?a203 ?i204 ?l205 ?c206 ?k207 (fun _ _ _ _ _ _ us hl=>by obtain⟨a,b,rfl⟩:=Sw.len2 hl;rfl))
   _
   _
   (L2.xc_mk ?l209 ?t210 ?k211 ?g212 ?g213)
   (PySem.W.mg_of KX G ?q208)
   _
   _
   (L2.xc_mk ?l215 ?t216 ?k217 ?g218 ?g219)
   (PySem.W.mg_of KX G ?q214)
   _
   _
   (L2.xc_mk ?l221 ?t222 ?k223 ?g224 ?g225)
   (PySem.W.mg_of KX G ?q220)
   _
   _
   (L2.xc_mk ?l227 ?t228 ?k229 ?g230 ?g231)
   (PySem.W.mg_of KX G ?q226)
   _
   _
   (L2.xc_mk ?l233 ?t234 ?k235 ?g236 ?g237)
   (PySem.W.mg_of KX G ?q232)
   _
   _
   (L2.xc_mk ?l239 ?t240 ?k241 ?g242 ?g243)
   (PySem.W.mg_of KX G ?q238)
   _
   _
   (L2.xc_mk ?l245 ?t246 ?k247 ?g248 ?g249)
   (PySem.W.mg_of KX G ?q244)
   _
   _
   (L2.xc_mk ?l251 ?t252 ?k253 ?g254 ?g255)
   (PySem.W.mg_of KX G ?q250)
   _
   _
   (L2.xc_mk ?l257 ?t258 ?k259 ?g260 ?g261)
   (PySem.W.mg_of KX G ?q256)
   ⟨?g262,?g263,?g264,?g265⟩
   ⟨?g266,?g267,?g268,?g269,L2.kit_same _ _⟩
   ?u270
   ?w271
   ?w272
   ?w273
   (Sw.noattr_mk ?n274)
   _
   _
   (L2.fun_mk ?l277 ?c278 ?k279)
   (L2.Fun.binds (L2.fun_mk ?l277 ?c278 ?k279) (fun _ _ _ _ _ _ us hl=>by obtain⟨a,b,rfl⟩:=Sw.len2 hl;rfl))
   ⟨?a275,?i276,?k279⟩
   ⟨?g280,?g281,?g282,?g283⟩
   ⟨?g284,?g285,?g286,?g287,L2.kit_same _ _⟩
   ?u288
   ?w289
   ?w290
   ?w291
   (Sw.noattr_mk ?n292)
   _
   _
   (L2.fun_mk ?l295 ?c296 ?k297)
   (L2.Fun.binds (L2.fun_mk ?l295 ?c296 ?k297) (fun _ _ _ _ _ _ us hl=>by obtain⟨a,b,rfl⟩:=Sw.len2 hl;rfl))
   ⟨?a293,?i294,?k297⟩
   ⟨?g298,?g299,?g300,?g301⟩
   ⟨?g302,?g303,?g304,?g305,L2.kit_same _ _⟩
   ?u306
   ?w307
   ?w308
   ?w309
   (Sw.ni_mk ?g310)
   ⟨?g311,?g312,?g313,?g314⟩
   ⟨?g315,?g316,?g317,?g318,L2.kit_same _ _⟩
   ?u319
   ?w320
   ?w321
   ?w322
   (Sw.ni_mk ?g323)
   (Sw.int_mk KX G ?v324 ?e325)
   (Sw.str_mk KX G ?v326 ?e327)
   (Sw.int_mk KX G ?v328 ?e329)
   (PySem.W.mg_none_of KX G ?z330)
   (PySem.W.mg_none_of KX G ?z331)
   (PySem.W.mg_none_of KX G ?z332)
   (PySem.W.mg_none_of KX G ?z333)
   (PySem.W.mg_none_of KX G ?z334)
   (PySem.W.mg_none_of KX G ?z335)
   (PySem.W.mg_none_of KX G ?z336)
   (PySem.W.mg_none_of KX G ?z337)
   (PySem.W.mg_none_of KX G ?z338)
   (PySem.W.mg_none_of KX G ?z339)
   (PySem.W.mg_none_of KX G ?z340)
   (PySem.W.mg_none_of KX G ?z341)
   (PySem.W.mg_none_of KX G ?z342)
   (PySem.W.mg_none_of KX G ?z343)
   (PySem.W.mg_none_of KX G ?z344)
   (PySem.W.mg_none_of KX G ?z345)
   (PySem.W.mg_none_of KX G ?z346)
   (PySem.W.mg_none_of KX G ?z347)
   (PySem.W.mg_none_of KX G ?z348)) ?aL ?lL ?cL ?kL
  case a1|l2|c3|k4|a5|l6|c7|k8|a9|l10|c11|k12|a13|l14|c15|k16|a17|l18|c19|k20|a21|l22|c23|k24|a25|l26|c27|k28|a29|l30|c31|k32|a33|l34|c35|k36|a37|l38|c39|k40|a41|l42|c43|k44|a45|l46|c47|k48|a49|l50|c51|k52|a53|l54|c55|k56|a57|l58|c59|k60|a61|l62|c63|k64|a65|l66|c67|k68|a69|l70|c71|k72|a73|l74|c75|k76|a77|l78|c79|k80|a81|l82|c83|k84|a85|l86|c87|k88|a89|l90|c91|k92|a93|l94|c95|k96|a97|l98|c99|k100|a101|l102|c103|k104|a105|l106|c107|k108|q109|g110|g111|g112|g113|n114|n115|n116|n117|n118|n119|a120|i121|l122|c123|k124|g125|k126|a127|i128|l129|c130|k131|a132|i133|l134|c135|k136|a137|i138|l139|c140|k141|a142|i143|l144|c145|k146|a147|i148|l149|c150|k151|a152|i153|l154|c155|k156|a157|i158|l159|c160|k161|a162|i163|l164|c165|k166|q167|g168|g169|g170|g171|n172|n173|n174|n175|a176|i177|l178|c179|k180|g181|k182|a183|i184|l185|c186|k187|a188|i189|l190|c191|k192|a193|i194|l195|c196|k197|a198|i199|l200|c201|k202|a203|i204|l205|c206|k207|q208|l209=>k_is
  case t210=>kernel_rfl
  case k211|g212|g213|q214|l215=>k_is
  case t216=>kernel_rfl
  case k217|g218|g219|q220|l221=>k_is
  case t222=>kernel_rfl
  case k223|g224|g225|q226|l227=>k_is
  case t228=>kernel_rfl
  case k229|g230|g231|q232|l233=>k_is
  case t234=>kernel_rfl
  case k235|g236|g237|q238|l239=>k_is
  case t240=>kernel_rfl
  case k241|g242|g243|q244|l245=>k_is
  case t246=>kernel_rfl
  case k247|g248|g249|q250|l251=>k_is
  case t252=>kernel_rfl
  case k253|g254|g255|q256|l257=>k_is
  case t258=>kernel_rfl
  case k259|g260|g261|g262|g263|g264|g265|g266|g267|g268|g269=>k_is
  case u270=>kernel_rfl
  case w271=>kit_is
  case w272=>kit_is
  case w273=>kit_is
  case n274|a275|i276|l277|c278|k279|g280|g281|g282|g283|g284|g285|g286|g287=>k_is
  case u288=>kernel_rfl
  case w289=>kit_is
  case w290=>kit_is
  case w291=>kit_is
  case n292|a293|i294|l295|c296|k297|g298|g299|g300|g301|g302|g303|g304|g305=>k_is
  case u306=>kernel_rfl
  case w307=>kit_is
  case w308=>kit_is
  case w309=>kit_is
  case g310|g311|g312|g313|g314|g315|g316|g317|g318=>k_is
  case u319=>kernel_rfl
  case w320=>kit_is
  case w321=>kit_is
  case w322=>kit_is
  case g323|v324=>k_is
  case e325=>exact⟨_,rfl⟩
  case v326=>k_is
  case e327=>exact⟨_,rfl⟩
  case v328=>k_is
  case e329=>exact⟨_,rfl⟩
  case z330|z331|z332|z333|z334|z335|z336|z337|z338|z339|z340|z341|z342|z343|z344|z345|z346|z347|z348|aL|lL|cL|kL=>k_is
