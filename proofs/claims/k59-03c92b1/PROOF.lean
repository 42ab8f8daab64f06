import PyProof.Rows.All
import Wide.All
import OpenK.AllK
import Wide.FinOn
import PyProof.Rows.SortShellK
import KE.KSortTup
import Lean
import PyProof.EqAt
import PyProof.EqKinds
import PyProof.TupleCall
import PyProof.SetRoads
import PyProof.DictRoadsH
import PyProof.IsRules
import PyProof.CollectWalk
import PyProof.FactsAll.set
import PyProof.NeData
import PyProof.P3In
import PyProof.TupleOfSeq
import PyProof.ZipIter
import PyProof.Rows.ZipGen
import KE.KDictOf
import PyProof.AttrMissHeap
import PyProof.Rows.SumAny
import PyProof.DictIter
import PyProof.DictWalks
import PyProof.DictValues
import PyProof.ListRange
import PyProof.ListStr
import PyProof.DictTruth
import PySem.Challenge.RW_strikeweave_k59_woven
namespace PySem.W.Fast
def tw14771930498418307229:=0
def tw14633261909433991857:=0
def tw17107350072601793598:=0
def tw6731909766015960123:=0
def tw5601145569524674972:=0
def tw12437137815151936664:=0
def tw8494801935834444216:=0
def tw1577574511699235491:=0
def tw15364545224511713785:=0
def tw18230416573002325725:=0
def tw12223129926136711364:=0
def tw3505994953876373269:=0
def tw576772626551660310:=0
def tw8975756092761476572:=0
def tw17403795569005983996:=0
def tw10028012216299275887:=0
def tw1993184806082307245:=0
def tw8541680434931202535:=0
def tw17350578199393843090:=0
def tw137643194684245833:=0
def tw3711423831070671812:=0
def tw18103841982897237629:=0
def tw13321842996389515779:=0
def tw10941861468946708559:=0
def tw16751592772587285374:=0
def tw12649013377727942122:=0
def tw4073034229224598377:=0
def tw8675260453155571092:=0
def tw15824115453338333248:=0
def tw8095650778675999209:=0
def tw3669640912725960772:=0
def tw14129971292847149334:=0
def tw391467109664821212:=0
def tw15379695179171430045:=0
def tw6270112984146803827:=0
def tw11545891168270152255:=0
def tw15695206858506250122:=0
def tw5858669442106702790:=0
def tw13707673538355650295:=0
def tw1501608761776297340:=0
def tw6880606522394603422:=0
def tw9778709421103530070:=0
def tw2812033370798128364:=0
def tw3457950809335804262:=0
def tw2054639424615110384:=0
def tw9984071701019921498:=0
def tw6534567924183077567:=0
def tw4622360443418402800:=0
def tw9698018978850737512:=0
def tw18307769272366478765:=0
def tw13696983190687006888:=0
def tw16160431907179895421:=0
def tw12776589623123043851:=0
def tw727964639378595789:=0
def tw17563583762088058885:=0
def tw2247907038203139933:=0
def tw3153016953645226091:=0
def tw12297775718250371701:=0
def tw12086432532657971472:=0
def tw13422239245394027402:=0
def tw12743853040081539851:=0
def tw6822018569278980102:=0
def tw12597315761133359158:=0
def tw11079273896740500453:=0
def tw17900066286314845412:=0
def tw3864586332891373020:=0
def tw4443116354557290218:=0
def tw22409823775943999:=0
def tw12766259826575337841:=0
def tw1461591340252388309:=0
def tw17142875632801939007:=0
def tw13693421625896947464:=0
def tw974058108520541373:=0
def tw1053220218786143325:=0
def tw10057842473731101598:=0
def tw174050551020298730:=0
def tw5034314033232836500:=0
def tw3735913078955392529:=0
def tw4657069220112823892:=0
def tw664595582468103335:=0
def tw12552590687611022182:=0
def tw8809607310135268184:=0
def tw13634606963345484601:=0
def tw6519082019808058534:=0
def tw12461075446473107635:=0
def tw16346939528841198686:=0
def tw3370301693459407958:=0
def tw12338657129971709131:=0
def tw14165596480085058103:=0
def tw16879891713302082776:=0
def tw11854261869284813654:=0
def tw7209528512917700194:=0
def tw14807811315436776996:=0
def tw8087557568602363321:=0
def tw14969345567772950091:=0
def tw11045970703398241383:=0
def tw7900149752332774980:=0
def tw15522381267425643100:=0
def tw15424947287968642376:=0
def tw18212555288771344648:=0
def tw5589002647356813338:=0
def tw6703158584034811670:=0
def tw4771086260713184508:=0
def tw15540540661168233790:=0
def tw10967697532987671993:=0
def tw17893772474424596817:=0
def tw3300279448661616348:=0
def tw15202989152468410219:=0
def tw16568831643906712724:=0
def tw8559782607608121571:=0
def tw14600823563715388149:=0
def tw10590756813784745098:=0
def tw3405264746652453940:=0
def tw8180450708776316453:=0
def tw17340985279636882649:=0
def tw11237466323344108199:=0
def tw16286513109784177355:=0
def tw14150148371206583813:=0
def tw9736271045107795151:=0
def tw4825878116309072623:=0
def tw16868874392216237474:=0
def tw16260069719188445376:=0
def tw9502145515329388448:=0
def tw14320945380676599154:=0
def tw17307043474066059975:=0
def tw3238542308646628730:=0
def tw6719906918401725551:=0
def tw6152620850980511736:=0
def tw414926809510359944:=0
def tw5531115541637414027:=0
def tw3253338645088768327:=0
def tw1103819466778918164:=0
def tw3025105208721801952:=0
def tw3519608538117570789:=0
def tw3351276428183259395:=0
def tw6488738083265942051:=0
def tw16825014921117339432:=0
def tw6872673615390224224:=0
def tw10004224680534534219:=0
def tw254605824563429178:=0
def tw7377971936387808834:=0
def tw10431930629949430515:=0
def tw9642870920159458552:=0
def tw3935061615869829055:=0
def tw2413485135229507330:=0
def tw11730044350982635857:=0
def tw11270391211231227546:=0
def tw3979683628050584110:=0
def tw10461768356074502951:=0
def tw9742403522080911389:=0
def tw8803884503494683945:=0
def tw10504525741465708676:=0
def tw18401072564306723010:=0
def tw7813235103887475812:=0
def tw8057891612281747469:=0
def tw1049426899920506193:=0
def tw15319945675240851719:=0
def tw11450403168779952504:=0
def tw16292002364593805117:=0
def tw16966127952309086676:=0
def tw1698661172625605006:=0
def tw5242640638234456352:=0
def tw1546601618712788760:=0
def tw10126744463454835151:=0
def tw2966581367429946890:=0
def tw3911688900415956216:=0
def tw9349392621348722572:=0
def tw15687070921718353517:=0
def tw17417480223517702333:=0
def tw6940331747047465573:=0
def tw6833672863984965256:=0
def tw14763557142863475885:=0
def tw4345100773899227295:=0
def tw1257427793570394181:=0
def tw18143656164930378203:=0
def tw2531255776364107933:=0
def tw2443487008552621973:=0
def tw3066466611741788847:=0
def tw18219645639209394610:=0
def tw5848917295682350875:=0
def tw1027259246877539043:=0
def tw11313286498585952405:=0
def tw14073989929334696657:=0
def tw6988092679319040843:=0
def tw2297582206079658196:=0
def tw9146865045459331334:=0
def tw15381657385430703713:=0
def tw9699463394007898209:=0
def tw9625797721012076171:=0
def tw883564229114705103:=0
def tw3491421418050684989:=0
def tw17399871360628231450:=0
def tw13804997576865637075:=0
def tw10321720301390576738:=0
def tw373405456620825345:=0
def tw2511994276470791630:=0
def tw6694867876535283569:=0
def tw11855043795509869819:=0
def tw4047650620516509239:=0
def tw1035482133869392267:=0
def tw3158186923620445949:=0
def tw7520579374098110608:=0
def tw18062871866573900318:=0
def tw2804399545510911373:=0
def tw689506253890874829:=0
def tw15567433019933030518:=0
def tw18340965336497966839:=0
def tw911987431830236240:=0
def tw3981716729895073629:=0
def tw2491871098013581489:=0
def tw14860759314651992637:=0
def tw17840225698810195479:=0
def tw13282752819210433051:=0
def tw9987699109419056138:=0
def tw16131030779422038609:=0
def tw16740956604426558680:=0
def tw15100536593444308426:=0
def tw9881917546342978547:=0
def tw15152771348550804362:=0
def tw16347080434476479882:=0
def tw11714858232305735342:=0
def tw16255178711553832027:=0
def tw951512771254457563:=0
def tw697290039961294280:=0
def tw14534817218919506886:=0
def tw15132363240764999779:=0
def tw12957461400783859772:=0
def tw3791610968392271183:=0
def tw17034755490922557850:=0
def tw1055453544046184687:=0
def tw4004647813472754749:=0
def tw16003154819040529606:=0
def tw576087038284844472:=0
def tw1337269607462182947:=0
def tw41864574591234044:=0
def tw4913190140155308020:=0
def tw4224571903878782669:=0
def tw18156764741619724982:=0
def tw7390094104516584975:=0
def tw5016113225656015831:=0
def tw6942589410878885259:=0
def tw15651068173590639680:=0
def tw8482834587341035747:=0
def tw13025888733648143624:=0
def tw6040337976993090476:=0
def tw12205551753130289489:=0
def tw16534766579159960859:=0
def tw3124239298645596496:=0
def tw17208555968692475654:=0
def tw4903950050748920524:=0
def tw3609704708190845073:=0
def tw2423598792264661641:=0
def tw2184948712102741102:=0
def tw7461271400244175258:=0
def tw13749167458679720328:=0
def tw17132000295529399734:=0
def tw7714191967733718745:=0
def tw15329949878192604456:=0
def tw8468871066003593072:=0
def tw60313808789321948:=0
def tw17379495794041180053:=0
def tw17406434361513024238:=0
def tw17438244475552024099:=0
def tw15329507267507136484:=0
def tw11932507103506605636:=0
def tw16839250631459516859:=0
def tw4959636240666872520:=0
def tw2913087923548098604:=0
def tw15169097103844395659:=0
def tw17171239826371903573:=0
def tw7390536547945807874:=0
def tw11803593068025897214:=0
def tw15558237918104465196:=0
def tw7849884205269657939:=0
def tw2820206510305698939:=0
def tw16744443618597488684:=0
def tw12548225982507634920:=0
def tw9119798467930784925:=0
def tw9063667740384320751:=0
def tw1179793342452900275:=0
def tw8355337702061585946:=0
def tw9733669721660779852:=0
def tw1541529629594503499:=0
def tw2504995434672794343:=0
def tw10668119158657277202:=0
def tw4723898192265312075:=0
def tw9596353845661937361:=0
def tw8884201145342251976:=0
def tw16744622516415395177:=0
def tw13331574440190451688:=0
def tw11036016252350045414:=0
def tw10827035789973586700:=0
def tw10707865023552827821:=0
def tw11344692694482171910:=0
def tw16936958416008678765:=0
def tw7289628303306678:=0
def tw3306021465667965216:=0
def tw14598340649460857067:=0
def tw14904039998685686604:=0
def tw14005106723691437117:=0
def tw7426439473319693260:=0
def tw1555699562153332464:=0
def tw1571654142947107564:=0
def tw8350375800776412290:=0
def tw18240215135862737978:=0
def tw2209610515681301663:=0
def tw9503778185151791413:=0
def tw12973363914539052533:=0
def tw868418114459814208:=0
def tw4418719081907443690:=0
def tw217580785320155317:=0
def tw7109337941325691765:=0
def tw15033501410217410894:=0
def tw9530427362442342504:=0
def tw9157988982021260110:=0
def tw5033860107464728676:=0
def tw9110065735528688229:=0
def tw8338683012497060759:=0
def tw10401884299574926485:=0
def tw9783212673706067700:=0
def tw1824403562991552481:=0
def tw4590446186684691549:=0
def tw606662822366278854:=0
def tw11546429552592662274:=0
def tw1357586629286726542:=0
def tw5088861459152136125:=0
def tw4520562187418287494:=0
def tw13263177804324914330:=0
def tw1823783945876398756:=0
def tw12930692019453676456:=0
def tw12419621827752559045:=0
def tw12629216207557277361:=0
def tw2312098845448677581:=0
def tw15070278308786552168:=0
def tw11384836547154012757:=0
def tw14728272430672736656:=0
def tw5570922569656565444:=0
def tw5366182320607251034:=0
def tw11154203390283845325:=0
def tw7101432624970697364:=0
def tw6119399903650512003:=0
def tw15316926174740532445:=0
def tw3504576993401178770:=0
def tw8102193186239416302:=0
def tw12728124891400853751:=0
def tw15622178535738886557:=0
def tw18254429293331531644:=0
def tw5748400542954385602:=0
def tw805998230280247007:=0
def tw17269940856605586278:=0
def tw15351057122530239384:=0
def tw1775771997770939867:=0
def tw10187455420299856358:=0
def tw2536351869039237465:=0
def tw5668291309871186373:=0
def tw15747986245655787461:=0
def tw6585470262290855341:=0
def tw2031297689382771409:=0
def tw14032212879637561189:=0
def tw14723626204573112568:=0
def tw4528571753680636806:=0
def tw3631640592727348141:=0
def tw7653497009844626304:=0
def tw9593145481781291411:=0
def tw14963089537452222120:=0
def tw222758024395171019:=0
def tw12469741279494714792:=0
def tw3549405050702063363:=0
def tw9374504625657382523:=0
def tw16914659773133768125:=0
def tw14663255570314188129:=0
def tw6000180161134696385:=0
def tw6271821709327109196:=0
def tw15709727749574651253:=0
def tw8411757398669998264:=0
def tw9603096878466723956:=0
def tw12028656053508568600:=0
def tw14978426125830532363:=0
def tw6397147536426166928:=0
def tw8091244960762053324:=0
def tw17635288653300821567:=0
def tw9713585278232281310:=0
def tw728943056367701703:=0
def tw15076725988662300859:=0
def tw11919701174419054417:=0
def tw1243340902857474342:=0
def tw800206532689568432:=0
def tw17962115749441759250:=0
def tw9963247921778196971:=0
def tw14956350558395859604:=0
def tw16022061761916224820:=0
def tw4287744513006143988:=0
def tw14640147882599737382:=0
def tw4239131652543155743:=0
def tw6107387399627484276:=0
def tw9698619097736238395:=0
def tw1356844670787983529:=0
def tw3528989063518932605:=0
def tw1313760749280215952:=0
def tw11884847900630881262:=0
def tw4600580834907918700:=0
def tw8764621607281296024:=0
def tw8333242802070670166:=0
def tw15217160705063621860:=0
def tw9664784453263288561:=0
def tw13545655384655288441:=0
def tw372143654131367761:=0
def tw5566483447579355591:=0
def tw14857522525540898640:=0
def tw13628035504774221581:=0
def tw15337259219637002274:=0
def tw379220015538947006:=0
def tw4532295211695892247:=0
def tw12485992456289165064:=0
def tw2215822589354161583:=0
def tw17219704880916346543:=0
def tw15274225369450754199:=0
end PySem.W.Fast
set_option autoImplicit false
set_option genSizeOf false
set_option genSizeOfSpec false
set_option bootstrap.genMatcherCode false
set_option compiler.extract_closed false
set_option linter.all false
set_option maxRecDepth 100000
section
open PySem PySem.Spec PyProof.Rows
def AA:=@List.length_map
def AB:=@wpAny_bind
def AC:=@List.mem_singleton
def AD:=@wpAny_pure
def AE:=@Heap.get?_push_of_some
def AF:=@List.getElem?_map
def AG:=@decide_eq_true
def AH:=@List.mem_map
def AI:=@List.mem_append
def AJ:=@Heap.lt_size
def AK:=@List.mem_of_getElem?
def AL:=@List.map_append
def AM:=@List.not_mem_nil
def AN:=@List.getElem?_eq_getElem
def AO:=@List.mem_cons_of_mem
def AQ:=@Array.length_toList
def AR:=@List.length_take
def AS:=@if_neg
def AU:=@List.getElem?_eq_some_iff
def AV:=@Option.map_eq_some_iff
def AW:=@List.mem_cons_self
def AX:=@List.mem_cons
def AY:=@if_pos
def AZ:=@Bool.false_ne_true
def A_:=@List.size_toArray
def BA:=@List.map_map
def BB:=@List.length_append
def BC:=@decide_eq_false
def BD:=@Nat.ne_of_lt
def BE:=@Heap.get?_push_size
def BF:=@Bool.false_eq_true
def BG:=@of_decide_eq_true
def BH:=@Nat.lt_of_lt_of_le
def BI:=@List.append_assoc
def BJ:=@List.mem_append_right
def BK:=@List.length_cons
def BL:=@Array.getElem?_toList
def BM:=@List.map_cons
def BN:=@List.mem_append_left
def BO:=@List.mem_of_mem_take
def BP:=@Array.toList_append
def BQ:=@List.nodup_append
def BR:=@List.take_length
def BS:=@List.take_append_drop
def BT:=@Nat.zero_le
def BU:=@wpAny_holding
def BV:=@Option.some.inj
def BW:=@List.mem_filter
def BX:=@List.nodup_cons
def BZ:=@Heap.get?_update_other
def B_:=@wpAny_setState_of
def CA:=@wpAny_mono
def CB:=@Heap.size_push
def CC:=@List.length_drop
def CD:=@Bool.and_eq_true
def CF:=@Heap.get?_update_self
def CG:=@List.mem_of_find?_eq_some
def CH:=@Array.getD_eq_getD_getElem?
def CI:=@if_false
def CJ:=@List.pairwise_append
def CK:=@Nat.lt_irrefl
def CL:=@List.append_nil
def CM:=@List.perm_append_comm
def CN:=@List.take_of_length_le
def CO:=@wpAny_truthy_bool
def CP:=@wpAny_newObj_type
def CQ:=@List.filter_sublist
def CS:=@wpAny_call_entry
def CT:=@Array.getElem?_eq_some_iff
def CU:=@wpAny_seqItems
def CV:=@List.nodup_nil
def CY:=@Array.toList_push
def CZ:=@List.pairwise_map
def C_:=@Nat.le_succ
def DA:=@List.getElem?_take_of_lt
def DB:=@Option.isSome_iff_exists
def DC:=@Heap.SameBut.update
def DD:=@List.Perm.append_left
def DE:=@List.mem_range
def DF:=@codeAny_builtin
def DG:=@List.Perm.append_right
def DH:=@wpAny_rule
def DI:=@List.filterMap_cons
def DJ:=@Bool.eq_false_iff
def DK:=@Int.toNat_natCast
def DL:=@List.length_filter_le
def DM:=@Nat.le_of_lt
def DN:=@wpAny_ite_false
def DP:=@wpAny_Call_Name_kw
def DQ:=@List.mem_of_mem_drop
def DR:=@List.all_eq_true
def DT:=@wpAny_callSpecial?_slot
def DU:=@List.take_sublist
def DV:=@List.drop_zero
def DW:=@Nat.le_of_succ_le
def DX:=@List.getElem?_append_right
def DY:=@List.length_range
def DZ:=@Nat.min_eq_left
def D_:=@List.drop_eq_getElem_cons
def EA:=@List.extract_eq_take_drop
def EB:=@List.getElem?_append_left
def EC:=@List.length_singleton
def ED:=@List.getElem?_toArray
def EE:=@List.filter_cons
def EF:=@Bool.not_true
def EG:=@List.filterMap_cons_some
def EH:=@List.map_take
def EI:=@Array.toList_extract
def EJ:=@wpAny_of_eq
def EK:=@wpAny_field
def EL:=@if_true
def EM:=@Nat.lt_succ_of_lt
def EN:=@List.filter_eq_self
def EO:=@List.drop_eq_nil_of_le
def EQ:=@Nat.zero_add
def ER:=@Array.getElem?_eq_none
def ES:=@Nat.le_add_right
def ET:=@Nat.lt_succ_self
def EU:=@List.drop_drop
def EV:=@Bool.false_and
def EW:=@Int.emod_lt_of_pos
def EX:=@wpAny_setField
def EY:=@List.filter_append
def EZ:=@wpAny_passesOwn
def E_:=@List.drop_sublist
def FA:=@Array.toList_reverse
def FB:=@List.ext_getElem?
def FC:=@wpAny_standAt
def FD:=@Nat.add_le_add_left
def FE:=@List.lookup_cons
def FF:=@wpAny_tryCatch
def FG:=@Nat.zero_lt_succ
def FH:=@List.take_append_of_le_length
def FI:=@Nat.eq_zero_of_not_pos
def FJ:=@List.getElem?_drop
def FK:=@Array.size_extract
def FL:=@wpAny_setField_rec
def FM:=@List.find?_cons
def FN:=@Int.emod_nonneg
def FO:=@List.any_cons
def FP:=@List.getElem?_eq_none
def FQ:=@List.Pairwise.and_mem
def FR:=@Nat.lt_of_succ_lt
def FS:=@wpAny_pyIter_list
def FT:=@List.mem_iff_getElem
def FU:=@List.drop_take
def FV:=@List.getD_eq_getElem?_getD
def FW:=@codeAny_mono
def FX:=@wpAny_askSetting
def FY:=@List.getElem?_eq_none_iff
def FZ:=@List.reverse_append
def F_:=@Array.size_setIfInBounds
def GA:=@wpAny_comprehension_free
def GB:=@List.filterMap_cons_none
def GC:=@Nat.zero_lt_one
def GD:=@Bool.eq_iff_iff
def GE:=@List.of_mem_zip
def GF:=@Option.map_some
def GG:=@List.forIn_cons
def GH:=@wpAny_updateSeq
def GI:=@Nat.lt_of_le_of_ne
def GJ:=@List.find?_eq_none
def GK:=@wpAny_pyIter_tuple
def GL:=@List.pairwise_singleton
def GM:=@List.length_eq_zero_iff
def GN:=@wpAny_newTuple
def GO:=@Array.size_map
def GP:=@Nat.ne_of_gt
def GQ:=@Bool.not_false
def GR:=@wpAny_storeSet_of
def GS:=@wpAny_ite_true
def GT:=@Heap.size_update
def GU:=@List.le_antisymm
def GV:=@List.getElem_mem
def GW:=@wpAny_isInstance
def GX:=@Heap.ExtBut.push
def GY:=@wpAny_pyIter_zip
def G_:=@wpAny_attempt
def HA:=@wpAny_newList
def HB:=@wpAny_letGo
end
noncomputable section
namespace TS
open PySem PyProof.Rows
def kk(U:KeyKind)(p:Keyed):U.α:=(U.keyOf p.1).getD U.dflt
def Has(U:KeyKind)(p:Keyed):Prop:=∃a,U.keyOf p.1=some a
def le(U:KeyKind)(p q:Keyed):Prop:=U.kle (kk U p) (kk U q)
def Sor(U:KeyKind)(l:List Keyed):Prop:=l.Pairwise (le U)
structure Cmp(prog:Program)(w:World)(A:Around)(s:Shared)(U:KeyKind)(kd:SortKind):Prop where
 lt:∀(x y:Value) (a b:U.α) (Q:Bool->Shared->Prop) (E:Value->Shared->Prop),U.keyOf x=some a->U.keyOf y=some b->Q (U.blt a b) s->wpAny (model prog w) A (keyLt' kd x y) Q E s
section
variable{prog:Program}{w:World}{A:Around}{E:Value->Shared->Prop}{s:Shared}{U:KeyKind}{kd:SortKind}
theorem Gk(C:Cmp prog w A s U kd){st:SortSt}{x y:Keyed}{Q:Option Bool->SortSt->Prop}(hk:kindOf st=kd)(hx:Has U x)(hy:Has U y)
  (h:Q (some (U.blt (kk U x) (kk U y))) st):wpS (model prog w) A E s (lt' x y) Q st:=by
 obtain⟨a,ha⟩:=hx;obtain⟨b,hb⟩:=hy;have e1:kk U x=a:=by unfold kk;rw[ha];rfl
 have e2:kk U y=b:=by unfold kk;rw[hb];rfl
 rw[e1,e2]at h;rw[lt'_eq];refine wpS_bind (wpS_get ?_);rw[hk];refine wpS_bind (wpS_lift (G_ (C.lt x.1 y.1 a b _ _ ha hb ⟨rfl,?_⟩)));exact wpS_pure h
theorem D9{st:SortSt}{arr:Array Keyed}{i:Nat}{p:Keyed}{Q:Keyed->SortSt->Prop}(hi:arr[i]?=some p)(h:Q p st):wpS (model prog w) A E s (elem' arr i) Q st:=by
 rw[elem'_eq,hi];exact wpS_pure h
def R8:Bool->Keyed->Array Keyed->Nat->Nat->Nat->StateT SortSt Sem (Option Nat):=sortPriv% PySem.Builtin.gallop
def bey(left:Bool)(ky:Keyed)(ar:Array Keyed)(bs:Nat)(i:Nat):StateT SortSt Sem (Option Bool):=do
 let x <-elem' ar (bs+i)
 if left then lt' x ky else return(<-lt' ky x).map (!·)
theorem Mo(left:Bool)(ky:Keyed)(ar:Array Keyed)(bs n ht:Nat):R8 left ky ar bs n ht =(do
  let mut la:=0
  let mut of:=1
  let mut lo:=0
  let mut hi:=0
  let some ri <-bey left ky ar bs ht | return none
  if ri then
   let mx:=n-ht
   for _ in [0:n] do
    if of ≥ mx then break
    let some mo <-bey left ky ar bs (ht+of) | return none
    if !mo then break
    la:=of
    of:=2*of+1
   lo:=ht+la+1
   hi:=ht+min of mx
  else
   let mx:=ht+1
   for _ in [0:n] do
    if of ≥ mx then break
    let some fo <-bey left ky ar bs (ht-of) | return none
    if fo then break
    la:=of
    of:=2*of+1
   lo:=ht+1-min of mx
   hi:=ht-la
  for _ in [0:n] do
   if lo ≥ hi then break
   let m:=lo +(hi-lo) / 2
   let some mo <-bey left ky ar bs m | return none
   if mo then lo:=m+1 else hi:=m
  return some hi):=rfl
def PB(U:KeyKind)(left:Bool)(ky:Keyed)(p:Keyed):Bool:=if left then U.blt (kk U p) (kk U ky)else !U.blt (kk U ky) (kk U p)
theorem Yi(C:Cmp prog w A s U kd){st:SortSt}{left:Bool}{ky p:Keyed}{ar:Array Keyed}{bs i:Nat}{Q:Option Bool->SortSt->Prop}(hk:kindOf st=kd)(hky:Has U ky)(hp:Has U p)(hi:ar[bs+i]?=some p)
  (h:Q (some (PB U left ky p)) st):wpS (model prog w) A E s (bey left ky ar bs i) Q st:=by
 unfold bey;refine wpS_bind (D9 hi ?_);cases left with
 | true=>exact Gk C hk hp hky h
 | false =>
  simp only[BF,CI];refine wpS_bind (Gk C hk hky hp ?_);exact wpS_pure h
theorem Md(C:Cmp prog w A s U kd){st:SortSt}{left:Bool}{ky:Keyed}{ar:Array Keyed}{bs n ht:Nat}{Q:Option Nat->SortSt->Prop}(hk:kindOf st=kd)(hky:Has U ky)
  (P:Nat->Bool) (hP:∀i,i<n->∃p,ar[bs+i]?=some p/\Has U p/\PB U left ky p=P i) (mono:∀i j,i<=j->j<n->P j=true->P i=true) (hht:ht<n)
  (h:∀k,k<=n->(∀i,i<k->P i=true)->(∀i,k<=i->i<n->P i=false)->Q (some k) st):wpS (model prog w) A E s (R8 left ky ar bs n ht) Q st:=by
 have B:∀{st':SortSt} {i:Nat} {Q:Option Bool->SortSt->Prop},st'=st->i<n->Q (some (P i)) st'->wpS (model prog w) A E s (bey left ky ar bs i) Q st':=by
  intro st' i Q e hi q;subst e;obtain⟨p,h1,h2,h3⟩:=hP i hi;exact Yi C hk hky h2 h1 (by rw[h3];exact q)
 have nmono:∀i j,i<=j->j<n->P i=false->P j=false:=by
  intro i j hij hj hi;cases e:P j with
  | false=>rfl
  | true=>rw[mono i j hij hj e]at hi;cases hi
 rw[Mo];dsimp only;refine wpS_bind (B rfl hht ?_);dsimp only;have S:∀{lo hi:Nat} {f:Nat->(Option (Option Nat)×Nat×Nat)->StateT SortSt Sem (ForInStep (Option (Option Nat)×Nat×Nat))},
   (∀x l h,wpS (model prog w) A E s (f x (none,l,h)) (fun r st'=>st'=st/\(if h<=l then r = .done (none,l,h)else if P (l +(h-l) / 2)=true then r = .yield (none,l +(h-l) / 2+1,h)else r = .yield (none,l,l +(h-l) / 2))) st\/¬(h<=l\/l +(h-l) / 2<n)) ->
   lo<=hi->hi<=n->(∀i,i<lo->P i=true)->(∀i,hi<=i->i<n->P i=false) ->
   wpS (model prog w) A E s (forIn [0:n] (none,lo,hi) f) (fun c st'=>st'=st/\∃k,c =(none,k,k)/\k<=n/\(∀i,i<k->P i=true)/\(∀i,k<=i->i<n->P i=false)) st:=by
  intro lo hi f hf h1 h2 h3 h4;refine wpS_forRange (I:=fun x c st'=>st'=st/\∃l r,c =(none,l,r)/\l<=r/\r<=n/\r-l<=n-x/\(∀i,i<l->P i=true)/\(∀i,r<=i->i<n->P i=false)) ?_ ?_ ⟨rfl,lo,hi,rfl,h1,h2,by omega,h3,h4⟩
  .rintro x c st' _ hx ⟨rfl,l,r,rfl,hl,hr,hm,ha,hb⟩;have hin:r<=l\/l +(r-l) / 2<n:=by omega
   rcases hf x l r with q | q
   .refine wpS_mono q fun z st2 ⟨e,q2⟩=>?_;subst e;by_cases hge:r<=l
    .rw[AY hge]at q2;subst q2;have:l=r:=by omega
     subst this;exact⟨rfl,l,rfl,hr,ha,hb⟩
    .rw[AS hge]at q2;cases hp:P (l +(r-l) / 2)with
     | true =>
      rw[AY hp]at q2;subst q2;exact⟨rfl,_,_,rfl,by omega,by omega,by omega,fun i hi=>mono i (l +(r-l) / 2) (by omega) (by omega) hp,hb⟩
     | false =>
      rw[AS (by rw[hp];exact AZ)]at q2;subst q2;exact⟨rfl,_,_,rfl,by omega,by omega,by omega,ha,fun i hi1 hi2=>nmono (l +(r-l) / 2) i hi1 hi2 hp⟩
   .exact absurd hin q
  .rintro c st' ⟨rfl,l,r,rfl,hl,hr,hm,ha,hb⟩;have:l=r:=by omega
   subst this;exact⟨rfl,l,rfl,hr,ha,hb⟩
 cases hr:P ht with
 | true =>
  rw[AY rfl];refine wpS_bind (wpS_mono (wpS_forRange (I:=fun x c st'=>st'=st/\∃la of,c =(none,la,of)/\la<of/\x+1<=of/\ht+la<n/\P (ht+la)=true)
   (Q:=fun c st'=>st'=st/\∃la of,c =(none,la,of)/\la<of/\ht+la<n/\P (ht+la)=true/\(n-ht<=of\/(ht+of<n/\P (ht+of)=false))) ?st ?en ⟨rfl,0,1,rfl,by omega,by omega,by omega,hr⟩) ?po)
  case en =>
   rintro c st' ⟨rfl,la,of,rfl,a1,a2,a3,a4⟩;exact⟨rfl,la,of,rfl,a1,a3,a4,.inl (by omega)⟩
  case st =>
   rintro x c st' _ hx ⟨rfl,la,of,rfl,a1,a2,a3,a4⟩;dsimp only;by_cases hge:of ≥ n-ht
   .rw[AY hge];exact wpS_pure ⟨rfl,la,of,rfl,a1,a3,a4,.inl hge⟩
   .rw[AS hge];refine wpS_bind (B rfl (show ht+of<n by omega) ?_);cases hp:P (ht+of)with
    | true=>exact wpS_pure ⟨rfl,of,2*of+1,rfl,by omega,by omega,by omega,hp⟩
    | false=>exact wpS_pure ⟨rfl,la,of,rfl,a1,a3,a4,.inr ⟨by omega,hp⟩⟩
  case po =>
   rintro c st' ⟨rfl,la,of,rfl,a1,a3,a4,a5⟩;dsimp only;refine wpS_bind (wpS_mono (S (lo:=ht+la+1) (hi:=ht+min of (n-ht)) (fun x l h'=>by
    dsimp only;by_cases hge:h'<=l
    .refine .inl ?_;rw[AY hge];exact wpS_pure ⟨rfl,by rw[AY hge]⟩
    .by_cases hn:l +(h' - l) / 2<n
     .refine .inl ?_;rw[AS hge];refine wpS_bind (B rfl hn ?_);dsimp only;cases hp:P (l +(h' - l) / 2)with
      | true =>
       simp only[EL];exact wpS_pure ⟨rfl,by rw[AS hge]⟩
      | false =>
       simp only[BF,CI];exact wpS_pure ⟨rfl,by rw[AS hge]⟩
     .exact .inr (by omega)) (by omega) (by omega) (fun i hi=>mono i (ht+la) (by omega) a3 a4) fun i hi1 hi2=>?_) fun c st' ⟨e,k,e2,b1,b2,b3⟩=>?_)
   .rcases a5 with a5 | ⟨a5,a6⟩
    .omega
    .exact nmono (ht+of) i (by omega) hi2 a6
   .subst e e2;exact wpS_pure (h k b1 b2 b3)
 | false =>
  rw[AS AZ];refine wpS_bind (wpS_mono (wpS_forRange (I:=fun x c st'=>st'=st/\∃la of,c =(none,la,of)/\la<of/\x+1<=of/\la<=ht/\P (ht-la)=false)
   (Q:=fun c st'=>st'=st/\∃la of,c =(none,la,of)/\la<of/\la<=ht/\P (ht-la)=false/\(ht+1<=of\/(of<=ht/\P (ht-of)=true))) ?st ?en ⟨rfl,0,1,rfl,by omega,by omega,by omega,hr⟩) ?po)
  case en =>
   rintro c st' ⟨rfl,la,of,rfl,a1,a2,a3,a4⟩;exact⟨rfl,la,of,rfl,a1,a3,a4,.inl (by omega)⟩
  case st =>
   rintro x c st' _ hx ⟨rfl,la,of,rfl,a1,a2,a3,a4⟩;dsimp only;by_cases hge:of ≥ ht+1
   .rw[AY hge];exact wpS_pure ⟨rfl,la,of,rfl,a1,a3,a4,.inl hge⟩
   .rw[AS hge];refine wpS_bind (B rfl (show ht-of<n by omega) ?_);cases hp:P (ht-of)with
    | false=>exact wpS_pure ⟨rfl,of,2*of+1,rfl,by omega,by omega,by omega,hp⟩
    | true=>exact wpS_pure ⟨rfl,la,of,rfl,a1,a3,a4,.inr ⟨by omega,hp⟩⟩
  case po =>
   rintro c st' ⟨rfl,la,of,rfl,a1,a3,a4,a5⟩;dsimp only;refine wpS_bind (wpS_mono (S (lo:=ht+1-min of (ht+1)) (hi:=ht-la) (fun x l h'=>by
    dsimp only;by_cases hge:h'<=l
    .refine .inl ?_;rw[AY hge];exact wpS_pure ⟨rfl,by rw[AY hge]⟩
    .by_cases hn:l +(h' - l) / 2<n
     .refine .inl ?_;rw[AS hge];refine wpS_bind (B rfl hn ?_);dsimp only;cases hp:P (l +(h' - l) / 2)with
      | true =>
       simp only[EL];exact wpS_pure ⟨rfl,by rw[AS hge]⟩
      | false =>
       simp only[BF,CI];exact wpS_pure ⟨rfl,by rw[AS hge]⟩
     .exact .inr (by omega)) (by omega) (by omega) (fun i hi=>?_) fun i hi1 hi2=>nmono (ht-la) i (by omega) hi2 a4) fun c st' ⟨e,k,e2,b1,b2,b3⟩=>?_)
   .rcases a5 with a5 | ⟨a5,a6⟩
    .omega
    .exact mono i (ht-of) (by omega) (by omega) a6
   .subst e e2;exact wpS_pure (h k b1 b2 b3)
end
section
variable{U:KeyKind}
theorem le_refl(p:Keyed):le U p p:=KeyOrd.kle_refl _
theorem le_trans{p q r:Keyed}(h1:le U p q)(h2:le U q r):le U p r:=KeyOrd.kle_trans h1 h2
structure ML(U:KeyKind)(a b:List Keyed)(o:List Keyed)(i j:Nat):Prop where
 perm:o.Perm (a.take i++b.take j)
 sor:Sor U o
 la:∀x∈o,∀y∈a.drop i,le U x y
 lb:∀x∈o,∀y∈b.drop j,le U x y
theorem ML.sym{a b o:List Keyed}{i j:Nat}(m:ML U a b o i j):ML U b a o j i:=⟨m.perm.trans CM,m.sor,m.lb,m.la⟩
theorem Fp{l:List Keyed}(k:Nat)(h:Sor U l):∀x∈l.take k,∀y∈l.drop k,le U x y:=by
 have h':Sor U (l.take k++l.drop k):=by rw[BS];exact h
 exact(CJ.mp h').2.2
theorem ML.addA{a b o:List Keyed}{i j:Nat}(m:ML U a b o i j)(sa:Sor U a)(k:Nat)(hk:∀y∈(a.drop i).take k,∀z∈b.drop j,le U y z):ML U a b (o ++(a.drop i).take k) (i+k) j:=by
 have hs:Sor U (a.drop i):=sa.sublist (E_ _ _);refine⟨?_,?_,fun x hx y hy=>?_,fun x hx y hy=>?_⟩
 .rw[List.take_add];refine(DG _ m.perm).trans ?_;rw[BI,BI];exact DD _ CM
 .refine CJ.mpr ⟨m.sor,hs.sublist (DU _ _),fun x hx y hy=>m.la x hx y (BO hy)⟩
 .rw[<-EU]at hy;rcases AI.mp hx with hx | hx
  .exact m.la x hx y (DQ hy)
  .exact Fp k hs x hx y hy
 .rcases AI.mp hx with hx | hx
  .exact m.lb x hx y hy
  .exact hk x hx y hy
theorem ML.addB{a b o:List Keyed}{i j:Nat}(m:ML U a b o i j)(sb:Sor U b)(k:Nat)(hk:∀y∈(b.drop j).take k,∀z∈a.drop i,le U y z):ML U a b (o ++(b.drop j).take k) i (j+k) :=
 (m.sym.addA sb k hk).sym
theorem ML.endA{a b o:List Keyed}{i j:Nat}(m:ML U a b o i j)(sa:Sor U a)(sb:Sor U b)(h:∀y∈a.drop i,∀z∈b.drop j,le U y z):Sor U (o++a.drop i++b.drop j)/\(o++a.drop i++b.drop j).Perm (a++b):=by
 refine⟨?_,?_⟩
 .refine CJ.mpr ⟨CJ.mpr ⟨m.sor,sa.sublist (E_ _ _),m.la⟩,sb.sublist (E_ _ _),fun x hx y hy=>?_⟩;rcases AI.mp hx with hx | hx
  .exact m.lb x hx y hy
  .exact h x hx y hy
 .have h1:(o++a.drop i++b.drop j).Perm ((a.take i++b.take j)++a.drop i++b.drop j):=DG _ (DG _ m.perm);refine h1.trans ?_;have h2:((a.take i++b.take j)++a.drop i++b.drop j).Perm ((a.take i++a.drop i) ++(b.take j++b.drop j)):=by
   rw[BI,BI,BI];refine DD _ ?_;rw[<-BI,<-BI];exact DG _ CM
  rw[BS,BS]at h2;exact h2
theorem ML.endB{a b o:List Keyed}{i j:Nat}(m:ML U a b o i j)(sa:Sor U a)(sb:Sor U b)(h:∀y∈b.drop j,∀z∈a.drop i,le U y z):Sor U (o++b.drop j++a.drop i)/\(o++b.drop j++a.drop i).Perm (a++b) :=
 ⟨(m.sym.endA sb sa h).1,(m.sym.endA sb sa h).2.trans CM⟩
structure MH(U:KeyKind)(a b:List Keyed)(o:List Keyed)(i j:Nat):Prop where
 perm:o.Perm (a.drop i++b.drop j)
 sor:Sor U o
 la:∀x∈o,∀y∈a.take i,le U y x
 lb:∀x∈o,∀y∈b.take j,le U y x
theorem MH.sym{a b o:List Keyed}{i j:Nat}(m:MH U a b o i j):MH U b a o j i:=⟨m.perm.trans CM,m.sor,m.lb,m.la⟩
theorem MH.addA{a b o:List Keyed}{i j:Nat}(m:MH U a b o i j)(sa:Sor U a)(k:Nat)(hki:k<=i)(hk:∀y∈(a.take i).drop k,∀z∈b.take j,le U z y):MH U a b ((a.take i).drop k++o) k j:=by
 have hs:Sor U (a.take i):=sa.sublist (DU _ _);have e:a.drop k =(a.take i).drop k++a.drop i:=by
  conv=>lhs;rw[<-BS i a]
  rw[List.drop_append];by_cases hl:i<=a.length
  .rw[AR,DZ hl,Nat.sub_eq_zero_of_le hki,DV]
  .have:a.drop i = []:=EO (by lia);rw[this,List.drop_nil]
 have e2:(a.take i).take k=a.take k:=by rw[List.take_take,DZ hki]
 refine⟨?_,?_,fun x hx y hy=>?_,fun x hx y hy=>?_⟩
 .rw[e,BI];exact DD _ m.perm
 .exact CJ.mpr ⟨hs.sublist (E_ _ _),m.sor,fun x hx y hy=>m.la y hy x (DQ hx)⟩
 .rw[<-e2]at hy;rcases AI.mp hx with hx | hx
  .exact Fp k hs y hy x hx
  .exact m.la x hx y (BO hy)
 .rcases AI.mp hx with hx | hx
  .exact hk x hx y hy
  .exact m.lb x hx y hy
theorem MH.addB{a b o:List Keyed}{i j:Nat}(m:MH U a b o i j)(sb:Sor U b)(k:Nat)(hkj:k<=j)(hk:∀y∈(b.take j).drop k,∀z∈a.take i,le U z y):MH U a b ((b.take j).drop k++o) i k :=
 (m.sym.addA sb k hkj hk).sym
theorem MH.endA{a b o:List Keyed}{i j:Nat}(m:MH U a b o i j)(sa:Sor U a)(sb:Sor U b)(h:∀y∈a.take i,∀z∈b.take j,le U y z):Sor U (a.take i++b.take j++o)/\(a.take i++b.take j++o).Perm (a++b):=by
 refine⟨?_,?_⟩
 .refine CJ.mpr ⟨CJ.mpr ⟨sa.sublist (DU _ _),sb.sublist (DU _ _),h⟩,m.sor,fun x hx y hy=>?_⟩;rcases AI.mp hx with hx | hx
  .exact m.la y hy x hx
  .exact m.lb y hy x hx
 .have h1:(a.take i++b.take j++o).Perm (a.take i++b.take j ++(a.drop i++b.drop j)):=DD _ m.perm;refine h1.trans ?_;have h2:(a.take i++b.take j ++(a.drop i++b.drop j)).Perm ((a.take i++a.drop i) ++(b.take j++b.drop j)):=by
   rw[BI,BI];refine DD _ ?_;rw[<-BI,<-BI];exact DG _ CM
  rw[BS,BS]at h2;exact h2
theorem MH.endB{a b o:List Keyed}{i j:Nat}(m:MH U a b o i j)(sa:Sor U a)(sb:Sor U b)(h:∀y∈b.take j,∀z∈a.take i,le U y z):Sor U (b.take j++a.take i++o)/\(b.take j++a.take i++o).Perm (a++b) :=
 ⟨(m.sym.endA sb sa h).1,(m.sym.endA sb sa h).2.trans CM⟩
end
section
variable{prog:Program}{w:World}{A:Around}{E:Value->Shared->Prop}{s:Shared}{U:KeyKind}{kd:SortKind}
def Bb(g:Nat):StateT SortSt Sem Unit:=modify fun s=>SortSt.mk' (kindOf s) (arrOf s) (pendingOf s) g (failedOf s)
def Et:Array Keyed->Array Keyed->StateT SortSt Sem (Array Keyed):=sortPriv% PySem.Builtin.mergeLo
theorem Jw(a b:Array Keyed):Et a b =(do
  rule "list.sort.merge-lo"
  let tot:=a.size+b.size
  let dn (o:Array Keyed) (i j:Nat):=o++a.extract i a.size++b.extract j b.size
  let lA (o:Array Keyed) (i j:Nat):=o++b.extract j b.size++a.extract i a.size
  let mut o:Array Keyed:=#[<-elem' b 0]
  let mut i:=0
  let mut j:=1
  if j == b.size then return dn o i j
  if i+1 == a.size then return lA o i j
  let mut mg:=gallopOf (<-get)
  for _ in [0:tot] do
   let mut ac:=0
   let mut bc:=0
   for _ in [0:tot] do
    let some bw <-lt' (<-elem' b j) (<-elem' a i) | return dn o i j
    if bw then
     o:=o.push (<-elem' b j);j:=j+1;bc:=bc+1;ac:=0
     if j == b.size then return dn o i j
     if bc ≥ mg then break
    else
     o:=o.push (<-elem' a i);i:=i+1;ac:=ac+1;bc:=0
     if i+1 == a.size then return lA o i j
     if ac ≥ mg then break
   rule "list.sort.gallop"
   mg:=mg+1
   for _ in [0:tot] do
    if mg>1 then mg:=mg-1
    Bb mg
    let some k <-R8 false (<-elem' b j) a i (a.size-i) 0 | return dn o i j
    ac:=k
    if k>0 then
     o:=o++a.extract i (i+k);i:=i+k
     if i+1 == a.size then return lA o i j
     if i == a.size then return dn o i j
    o:=o.push (<-elem' b j);j:=j+1
    if j == b.size then return dn o i j
    let some k <-R8 true (<-elem' a i) b j (b.size-j) 0 | return dn o i j
    bc:=k
    if k>0 then
     o:=o++b.extract j (j+k);j:=j+k
     if j == b.size then return dn o i j
    o:=o.push (<-elem' a i);i:=i+1
    if i+1 == a.size then return lA o i j
    if ac<7&&bc<7 then break
   mg:=mg+1
   Bb mg
  unsupported "internal:list.sort.merge-bound"):=rfl
def Sm(st st':SortSt):Prop:=kindOf st'=kindOf st/\arrOf st'=arrOf st/\pendingOf st'=pendingOf st/\failedOf st'=failedOf st
theorem Sm.refl(st:SortSt):Sm st st:=⟨rfl,rfl,rfl,rfl⟩
theorem X2{st st0:SortSt}{g:Nat}{Q:Unit->SortSt->Prop}(hs:Sm st0 st)(h:∀st',Sm st0 st'->Q () st'):wpS (model prog w) A E s (Bb g) Q st :=
 wpS_modify (h _ ⟨hs.1,hs.2.1,hs.2.2.1,hs.2.2.2⟩)
theorem Cm{l:List Keyed}{i k:Nat}{y:Keyed}(h:y∈(l.drop i).take k):∃t,t<k/\l[i+t]?=some y:=by
 obtain⟨t,ht,e⟩:=FT.mp h;rw[AR,CC]at ht;refine⟨t,by lia,?_⟩;rw[List.getElem_take,List.getElem_drop]at e;rw[<-e];exact AN (by lia)
theorem Jv{l:List Keyed}{i:Nat}{y:Keyed}(h:y∈l.drop i):∃t,i+t<l.length/\l[i+t]?=some y:=by
 obtain⟨t,ht,e⟩:=FT.mp h;rw[CC]at ht;refine⟨t,by lia,?_⟩;rw[List.getElem_drop]at e;rw[<-e];exact AN (by lia)
theorem Mp{l:List Keyed}{i:Nat}{y:Keyed}(h:y∈l.take i):∃t,t<i/\t<l.length/\l[t]?=some y:=by
 obtain⟨t,ht,e⟩:=FT.mp h;rw[AR]at ht;refine⟨t,by lia,by lia,?_⟩;rw[List.getElem_take]at e;rw[<-e];exact AN (by lia)
theorem Vq{l:List Keyed}{i k:Nat}{y:Keyed}(h:y∈(l.take i).drop k):∃t,k<=t/\t<i/\l[t]?=some y:=by
 obtain⟨t,h1,h2⟩:=Jv h;rw[AR]at h1;rw[DA (by lia)]at h2;exact⟨k+t,by lia,by lia,h2⟩
theorem p9{l:List Keyed}(h:Sor U l){i j:Nat}{p q:Keyed}(hij:i<=j)(hp:l[i]?=some p)(hq:l[j]?=some q):le U p q:=by
 obtain⟨h1,rfl⟩:=AU.mp hp;obtain⟨h2,rfl⟩:=AU.mp hq;rcases Nat.lt_or_eq_of_le hij with z | z
 .exact List.pairwise_iff_getElem.mp h i j h1 h2 z
 .subst z;exact le_refl _
theorem Dy{l:List Keyed}(h:Sor U l){i:Nat}{p:Keyed}(hp:l[i]?=some p):∀z∈l.drop i,le U p z:=fun z hz=>by
 obtain⟨t,_,e⟩:=Jv hz;exact p9 h (ES _ _) hp e
theorem ar_get{a:Array Keyed}{i:Nat}{p:Keyed}:a[i]?=some p↔a.toList[i]?=some p:=by rw[BL]
theorem Y4{a:Array Keyed}{i:Nat}(h:i<a.size):∃p,a[i]?=some p:=⟨a[i],getElem?_pos a i h⟩
theorem On{l:List Keyed}{i:Nat}{p:Keyed}(h:l[i]?=some p):(l.drop i).take 1 = [p]:=by
 obtain⟨h1,rfl⟩:=AU.mp h;rw[D_ h1];rfl
theorem Ed(a:Array Keyed)(i k:Nat):(a.extract i (i+k)).toList =(a.toList.drop i).take k:=by
 rw[EI,EA,Nat.add_sub_cancel_left]
theorem j7(a:Array Keyed)(i:Nat):(a.extract i a.size).toList=a.toList.drop i:=by
 rw[EI,EA,CN];rw[CC,AQ];exact Nat.le_refl _
theorem j4(a:Array Keyed)(i:Nat):(a.extract 0 i).toList=a.toList.take i:=by
 rw[EI,EA,DV,Nat.sub_zero]
def Rm(U:KeyKind)(a b r:Array Keyed):Prop:=Sor U r.toList/\r.toList.Perm (a.toList++b.toList)
structure Pre(U:KeyKind)(a b:Array Keyed):Prop where
 sa:Sor U a.toList
 sb:Sor U b.toList
 ka:∀(i:Nat) p,a[i]?=some p->Has U p
 kb:∀(i:Nat) p,b[i]?=some p->Has U p
 na:1<=a.size
 nb:1<=b.size
 first:∀q,b[0]?=some q->∀z∈a.toList,le U q z
 last:∀p,a[a.size-1]?=some p->∀z∈b.toList,le U z p
section
variable{a b o:Array Keyed}{i j k:Nat}{p q:Keyed}
theorem Pre.pushB(P:Pre U a b)(m:ML U a.toList b.toList o.toList i j)(hq:b[j]?=some q)(h:∀z∈a.toList.drop i,le U q z):ML U a.toList b.toList (o.push q).toList i (j+1):=by
 have h1:=m.addB P.sb 1 (by rw[On (ar_get.mp hq)];intro y hy;rw[AC.mp hy];exact h);rw[On (ar_get.mp hq)]at h1;rw[CY];exact h1
theorem Pre.pushA(P:Pre U a b)(m:ML U a.toList b.toList o.toList i j)(hp:a[i]?=some p)(h:∀z∈b.toList.drop j,le U p z):ML U a.toList b.toList (o.push p).toList (i+1) j:=by
 have h1:=m.addA P.sa 1 (by rw[On (ar_get.mp hp)];intro y hy;rw[AC.mp hy];exact h);rw[On (ar_get.mp hp)]at h1;rw[CY];exact h1
theorem Pre.extA(P:Pre U a b)(m:ML U a.toList b.toList o.toList i j)(h:∀y∈(a.toList.drop i).take k,∀z∈b.toList.drop j,le U y z):ML U a.toList b.toList (o++a.extract i (i+k)).toList (i+k) j:=by
 rw[BP,Ed];exact m.addA P.sa k h
theorem Pre.extB(P:Pre U a b)(m:ML U a.toList b.toList o.toList i j)(h:∀y∈(b.toList.drop j).take k,∀z∈a.toList.drop i,le U y z):ML U a.toList b.toList (o++b.extract j (j+k)).toList i (j+k):=by
 rw[BP,Ed];exact m.addB P.sb k h
theorem Pre.doneB(P:Pre U a b)(m:ML U a.toList b.toList o.toList i j)(hj:j=b.size):Rm U a b (o++a.extract i a.size++b.extract j b.size):=by
 unfold Rm;rw[BP,BP,j7,j7];refine m.endA P.sa P.sb fun y _ z hz=>?_;rw[EO (by rw[AQ];lia)]at hz;exact absurd hz (by simp)
theorem Pre.doneA(P:Pre U a b)(m:ML U a.toList b.toList o.toList i j)(hi:i=a.size):Rm U a b (o++a.extract i a.size++b.extract j b.size):=by
 unfold Rm;rw[BP,BP,j7,j7];refine m.endA P.sa P.sb fun y hy z _=>?_;rw[EO (by rw[AQ];lia)]at hy;exact absurd hy (by simp)
theorem Pre.lastA(P:Pre U a b)(m:ML U a.toList b.toList o.toList i j)(hi:i+1=a.size):Rm U a b (o++b.extract j b.size++a.extract i a.size):=by
 unfold Rm;rw[BP,BP,j7,j7];refine m.endB P.sa P.sb fun y hy z hz=>?_;obtain⟨t,h1,h2⟩:=Jv hz;rw[AQ]at h1;have e:i+t=a.size-1:=by lia
 rw[e]at h2;exact P.last z (ar_get.mpr h2) y (DQ hy)
end
theorem Sm.knd{st st':SortSt}(h:Sm st st'){k:SortKind}(hk:kindOf st=k):kindOf st'=k:=h.1.trans hk
theorem n8(C:Cmp prog w A s U kd){st:SortSt}{left:Bool}{ky:Keyed}{ar:Array Keyed}{bs n ht:Nat}{Q:Option Nat->SortSt->Prop}(hk:kindOf st=kd)(hky:Has U ky)
  (hsz:bs+n<=ar.size) (hh:∀(i:Nat) p,ar[i]?=some p->Has U p) (hs:∀(u v:Nat) p q,u<=v->v<n->ar[bs+u]?=some p->ar[bs+v]?=some q->le U p q) (hht:ht<n)
  (h:∀k,k<=n->(∀(t:Nat) p,t<k->ar[bs+t]?=some p->PB U left ky p=true)->(∀(t:Nat) p,k<=t->t<n->ar[bs+t]?=some p->PB U left ky p=false)->Q (some k) st) :
  wpS (model prog w) A E s (R8 left ky ar bs n ht) Q st:=by
 have key:∀t,t<n->∃p,ar[bs+t]?=some p:=fun t ht=>Y4 (by lia);refine Md C hk hky (fun t=>match ar[bs+t]? with | some p=>PB U left ky p | none=>false) (fun i hi=>?_) (fun i j hij hj hp=>?_) hht fun k hk1 h1 h2=>?_
 .obtain⟨p,hp⟩:=key i hi;exact⟨p,hp,hh _ p hp,by rw[hp]⟩
 .obtain⟨p,e1⟩:=key i (by lia);obtain⟨q,e2⟩:=key j hj;rw[e2]at hp;rw[e1];have l:=hs i j p q hij hj e1 e2;dsimp only at hp⊢;unfold PB at hp⊢;cases left with
  | true =>
   simp only[EL]at hp⊢;exact KeyOrd.klt_of_kle_of_klt l hp
  | false =>
   simp only[BF,CI,Bool.not_eq_true']at hp⊢;exact KeyOrd.kle_trans l hp
 .refine h k hk1 (fun t p ht hp=>?_) fun t p ht1 ht2 hp=>?_
  .have:=h1 t ht;rw[hp]at this;exact this
  .have:=h2 t ht1 ht2;rw[hp]at this;exact this
theorem Ea{ky p:Keyed}(h:PB U false ky p=true):le U p ky:=by
 unfold PB at h;show U.blt (kk U ky) (kk U p)=false;simpa using h
theorem Bp{ky p:Keyed}(h:PB U false ky p=false):U.klt (kk U ky) (kk U p):=by
 unfold PB at h;show U.blt (kk U ky) (kk U p)=true;simpa using h
theorem Ic{ky p:Keyed}(h:PB U true ky p=true):U.klt (kk U p) (kk U ky):=by
 unfold PB at h;show U.blt (kk U p) (kk U ky)=true;simpa using h
theorem Dt{ky p:Keyed}(h:PB U true ky p=false):le U ky p:=by
 unfold PB at h;show U.blt (kk U p) (kk U ky)=false;simpa using h
section
variable{α:Type}{Q:α->SortSt->Prop}{st:SortSt}
theorem Q4{c:Prop}{_:Decidable c}{t e:StateT SortSt Sem α}(h1:c->wpS (model prog w) A E s t Q st)(h2:¬c->wpS (model prog w) A E s e Q st):wpS (model prog w) A E s (if c then t else e) Q st:=by
 split
 .rename_i h;exact h1 h
 .rename_i h;exact h2 h
theorem K2{x y:Nat}{t e:StateT SortSt Sem α}(h1:x=y->wpS (model prog w) A E s t Q st)(h2:x≠y->wpS (model prog w) A E s e Q st):wpS (model prog w) A E s (if(x == y)=true then t else e) Q st :=
 Q4 (fun h=>h1 (eq_of_beq h)) fun h=>h2 fun z=>h (beq_iff_eq.mpr z)
theorem Su{c:Prop}{_:Decidable c}{t:StateT SortSt Sem α}{F:Nat->StateT SortSt Sem α}(x:Nat){y:Nat}(h:∀g,wpS (model prog w) A E s (F g) Q st)(e:t=F x):wpS (model prog w) A E s (if c then t else F y) Q st:=by
 subst e;exact Q4 (fun _=>h _) fun _=>h _
theorem Ey{c:Prop}{_:Decidable c}{t:StateT SortSt Sem α}{F:Array Keyed->Nat->StateT SortSt Sem α}{o:Array Keyed}{i:Nat}(R:Array Keyed->Nat->Prop)(h:∀o i,R o i->wpS (model prog w) A E s (F o i) Q st)
  (hT:(∀o i,R o i->wpS (model prog w) A E s (F o i) Q st)->c->wpS (model prog w) A E s t Q st) (hE:¬c->R o i):wpS (model prog w) A E s (if c then t else F o i) Q st:=Q4 (hT h) fun z=>h _ _ (hE z)
end
theorem Ot{α β:Type}{r0:Sem Unit}{el:StateT SortSt Sem Keyed}{x0:Keyed}{c1 c2:Prop}{_:Decidable c1}{_:Decidable c2}{t1 t2:Keyed->StateT SortSt Sem α}{ini:Keyed->SortSt->β}{n:Nat}{f:Nat->β->StateT SortSt Sem (ForInStep β)}{g:β->StateT SortSt Sem α}{Q:α->SortSt->Prop}{st:SortSt}
  (hr:∀R:Unit->SortSt->Prop,R () st->wpS (model prog w) A E s (liftM r0:StateT SortSt Sem Unit) R st) (he:∀R:Keyed->SortSt->Prop,R x0 st->wpS (model prog w) A E s el R st) (h1:c1->wpS (model prog w) A E s (t1 x0) Q st) (h2:¬c1->c2->wpS (model prog w) A E s (t2 x0) Q st)
  (h3:¬c1->¬c2->wpS (model prog w) A E s (forIn [0:n] (ini x0 st) f) (fun c st'=>wpS (model prog w) A E s (g c) Q st') st) :
  wpS (model prog w) A E s ((liftM r0:StateT SortSt Sem Unit) >>= fun _=>el >>= fun x=>if c1 then t1 x else if c2 then t2 x else get >>= fun st'=>forIn [0:n] (ini x st') f >>= g) Q st :=
 wpS_bind (hr _ (wpS_bind (he _ (Q4 h1 fun z1=>Q4 (h2 z1) fun z2=>wpS_bind (wpS_get (wpS_bind (h3 z1 z2)))))))
def MR(U:KeyKind)(a b:Array Keyed)(st:SortSt){β:Type}(c:Option (Array Keyed)×β)(st':SortSt):Prop:=Sm st st'/\∃r,c.1=some r/\Rm U a b r
theorem MR.mk{a b r:Array Keyed}{st st':SortSt}{β:Type}{c:β}(sm:Sm st st')(h:Rm U a b r):MR U a b st (some r,c) st':=⟨sm,r,rfl,h⟩
structure LoP(U:KeyKind)(a b:Array Keyed)(n:Nat)(o:Array Keyed)(i j:Nat):Prop where
 m:ML U a.toList b.toList o.toList i j
 hi:i+1<a.size
 hj:j<b.size
 hn:n<=i+j
theorem LoP.putB{a b o o':Array Keyed}{n i j:Nat}(h:LoP U a b n o i j)(m:ML U a.toList b.toList o'.toList i (j+1))(e:j+1≠b.size):LoP U a b (n+1) o' i (j+1):=⟨m,h.hi,GI h.hj e,Nat.succ_le_succ h.hn⟩
theorem LoP.putA{a b o o':Array Keyed}{n i j:Nat}(h:LoP U a b n o i j)(m:ML U a.toList b.toList o'.toList (i+1) j)(e:i+1+1≠a.size):LoP U a b (n+1) o' (i+1) j:=⟨m,GI h.hi e,h.hj,by rw[Nat.add_right_comm];exact Nat.succ_le_succ h.hn⟩
theorem LoP.mono{a b o:Array Keyed}{n n' i j:Nat}(h:LoP U a b n o i j)(l:n'<=n):LoP U a b n' o i j:=⟨h.m,h.hi,h.hj,Nat.le_trans l h.hn⟩
def zFh(U:KeyKind)(a b:Array Keyed)(st:SortSt)(n:Nat)(c:Option (Array Keyed)×Array Keyed×Nat×Nat×Nat)(st':SortSt):Prop:=Sm st st'/\∃o i j mg,c =(none,o,i,j,mg)/\LoP U a b n o i j
def LoI2(U:KeyKind)(a b:Array Keyed)(st:SortSt)(n:Nat)(c:Option (Array Keyed)×Array Keyed×Nat×Nat×Nat×Nat)(st':SortSt):Prop:=Sm st st'/\∃o i j ac bc,c =(none,o,i,j,ac,bc)/\LoP U a b n o i j
def LoI3(U:KeyKind)(a b:Array Keyed)(st:SortSt)(n:Nat)(c:Option (Array Keyed)×Array Keyed×Nat×Nat×Nat×Nat×Nat)(st':SortSt):Prop:=Sm st st'/\∃o i j mg ac bc,c =(none,o,i,j,mg,ac,bc)/\LoP U a b n o i j
theorem LoI2.mk{a b o:Array Keyed}{st st':SortSt}{n i j ac bc:Nat}(sm:Sm st st')(h:LoP U a b n o i j):LoI2 U a b st n (none,o,i,j,ac,bc) st':=⟨sm,_,_,_,_,_,rfl,h⟩
theorem LoI3.mk{a b o:Array Keyed}{st st':SortSt}{n i j mg ac bc:Nat}(sm:Sm st st')(h:LoP U a b n o i j):LoI3 U a b st n (none,o,i,j,mg,ac,bc) st':=⟨sm,_,_,_,_,_,_,rfl,h⟩
theorem Jn(C:Cmp prog w A s U kd){st:SortSt}{a b:Array Keyed}{Q:Array Keyed->SortSt->Prop}(hk:kindOf st=kd)(P:Pre U a b)
  (h:∀r st',Sm st st'->Rm U a b r->Q r st'):wpS (model prog w) A E s (Et a b) Q st:=by
 rw[Jw];obtain⟨b0,hb0⟩:=Y4 (a:=b) (i:=0) P.nb;have m0:ML U a.toList b.toList (#[]:Array Keyed).toList 0 0:=⟨by simp,List.Pairwise.nil,fun x hx=>absurd hx (by simp),fun x hx=>absurd hx (by simp)⟩;have m1:ML U a.toList b.toList (#[b0]:Array Keyed).toList 0 1:=by
  have:=P.pushB m0 hb0 (by rw[DV];exact P.first b0 hb0);simpa using this
 apply Ot (x0:=b0) (fun R z=>wpS_lift (DH ⟨rfl,z⟩)) (fun R z=>D9 hb0 z)
 case h1=>exact fun hb1=>wpS_pure (h _ _ (Sm.refl _) (P.doneB m1 (eq_of_beq hb1)))
 case h2=>exact fun _ ha1=>wpS_pure (h _ _ (Sm.refl _) (P.lastA m1 (eq_of_beq ha1)))
 intro hb1 ha1;have p1:LoP U a b 1 #[b0] 0 1:=⟨m1,GI P.na fun z=>ha1 (beq_iff_eq.mpr z),GI P.nb fun z=>hb1 (beq_iff_eq.mpr z),Nat.le_refl _⟩;refine wpS_mono (wpS_forRange (I:=fun x=>zFh U a b st (x+1)) (Q:=MR U a b st) ?st ?en ⟨Sm.refl _,_,_,_,_,rfl,p1⟩) ?po
 case po =>
  rintro⟨c1,c2⟩ st' ⟨sm,r,e,hr⟩;cases e;exact wpS_pure (h r st' sm hr)
 case en =>
  rintro c st' ⟨sm,o,i,j,mg,rfl,p⟩;obtain⟨_,h1,h2,h3⟩:=p;exfalso;lia
 case st =>
  rintro x c st' _ hx ⟨sm,o,i,j,mg,rfl,p⟩;refine wpS_bind (wpS_mono (wpS_forRange (I:=fun _=>LoI2 U a b st (x+1)) (Q:=fun c st'=>MR U a b st c st'\/LoI2 U a b st (x+1) c st') ?st1 ?en1 (LoI2.mk sm p)) ?po1)
  case en1=>exact fun c st2 z=>.inr z
  case st1 =>
   rintro x2 c st2 _ _ ⟨sm2,o,i',j',ac,bc,rfl,p2⟩;obtain⟨bj,hbj⟩:=Y4 (a:=b) (i:=j') p2.hj;obtain⟨ai,hai⟩:=Y4 (a:=a) (i:=i') (FR p2.hi);refine wpS_bind (D9 hbj (wpS_bind (D9 hai (wpS_bind (Gk C (sm2.knd hk) (P.kb _ _ hbj) (P.ka _ _ hai) ?_)))));refine Q4 (fun hlt=>wpS_bind (D9 hbj ?_)) fun hlt=>wpS_bind (D9 hai ?_)
   .have m3:=P.pushB p2.m hbj fun z hz=>le_trans (KeyOrd.kle_of_klt hlt) (Dy P.sa (ar_get.mp hai) z hz);refine K2 (fun e1=>wpS_pure (.inl (MR.mk sm2 (P.doneB m3 e1)))) fun e1=>?_;have p3:=(p2.putB m3 e1).mono (C_ _);exact Q4 (fun _=>wpS_pure (.inr (LoI2.mk sm2 p3))) fun _=>wpS_pure (LoI2.mk sm2 p3)
   .have m3:=P.pushA p2.m hai fun z hz=>le_trans (show le U ai bj from DJ.mpr hlt) (Dy P.sb (ar_get.mp hbj) z hz);refine K2 (fun e1=>wpS_pure (.inl (MR.mk sm2 (P.lastA m3 e1)))) fun e1=>?_;have p3:=(p2.putA m3 e1).mono (C_ _);exact Q4 (fun _=>wpS_pure (.inr (LoI2.mk sm2 p3))) fun _=>wpS_pure (LoI2.mk sm2 p3)
  case po1 =>
   rintro⟨c1,c2⟩ st2 (⟨sm2,r,e,hr⟩ | ⟨sm2,o2,i2,j2,ac,bc,e,p2⟩)
   .cases e;exact wpS_pure (MR.mk sm2 hr)
   .cases e;refine wpS_bind (wpS_lift (DH ⟨rfl,?_⟩));refine wpS_bind (wpS_mono (wpS_forRange (I:=fun x3=>LoI3 U a b st (x+1+x3)) (Q:=fun c st'=>MR U a b st c st'\/LoI3 U a b st (x+1+1) c st') ?st2 ?en2 (LoI3.mk sm2 p2)) ?po2)
    case en2 =>
     rintro c st3 ⟨sm3,o',i',j',mg',ac,bc,rfl,p3⟩;refine .inr (LoI3.mk sm3 (p3.mono ?_));have:=P.na;lia
    case po2 =>
     rintro⟨c1,c2⟩ st3 (⟨sm3,r,e,hr⟩ | ⟨sm3,o',i',j',mg',ac,bc,e,p3⟩)
     .cases e;exact wpS_pure (MR.mk sm3 hr)
     .cases e;refine wpS_bind (X2 sm3 fun st4 sm4=>?_);exact wpS_pure ⟨sm4,_,_,_,_,rfl,p3⟩
    case st2 =>
     rintro x3 c st3 _ _ ⟨sm3,o3,i3,j3,mg3,ac3,bc3,rfl,p3⟩;obtain⟨bj,hbj⟩:=Y4 (a:=b) (i:=j3) p3.hj;have hi3:i3 +(a.size-i3)<=a.size:=by rw[Nat.add_sub_cancel' (DM (FR p3.hi))];exact Nat.le_refl _
     have hj3:=p3.hj;apply Su (mg3-1) (y:=mg3)
     case e=>exact rfl
     intro g;refine wpS_bind (X2 sm3 fun st4 sm4=>?_);refine wpS_bind (D9 hbj (wpS_bind (n8 C (sm4.knd hk) (P.kb _ _ hbj) hi3 P.ka (fun u v p q huv _ e1 e2=>p9 P.sa (FD huv _) (ar_get.mp e1) (ar_get.mp e2)) (Nat.sub_pos_of_lt (FR p3.hi)) fun k hk1 k1 k2=>?_)));have m4:ML U a.toList b.toList (o3++a.extract i3 (i3+k)).toList (i3+k) j3:=P.extA p3.m fun y hy z hz=>by
      obtain⟨t,ht,e⟩:=Cm hy;exact le_trans (Ea (k1 t y ht (ar_get.mpr e))) (Dy P.sb (ar_get.mp hbj) z hz)
     have hbz:∀z∈a.toList.drop (i3+k),le U bj z:=fun z hz=>by
      obtain⟨t,ht,e⟩:=Jv hz;rw[AQ]at ht;exact KeyOrd.kle_of_klt (Bp (k2 (k+t) z (ES _ _) (by lia) (by rw[<-Nat.add_assoc];exact ar_get.mpr e)))
     apply Ey (o:=o3) (i:=i3) (fun o i=>LoP U a b (x+1+x3) o i j3/\∀z∈a.toList.drop i,le U bj z)
     .rintro o4 i4 ⟨p4,hbz⟩;refine wpS_bind (D9 hbj ?_);have m5:=P.pushB p4.m hbj hbz;refine K2 (fun e3=>wpS_pure (.inl (MR.mk sm4 (P.doneB m5 e3)))) fun e3=>?_;have p5:=p4.putB m5 e3;generalize o4.push bj=o5 at m5 p5⊢;generalize j3+1=j5 at m5 p5⊢;obtain⟨ai,hai⟩:=Y4 (a:=a) (i:=i4) (FR p5.hi);refine wpS_bind (D9 hai (wpS_bind (n8 C (sm4.knd hk) (P.ka _ _ hai) (by rw[Nat.add_sub_cancel' (DM p5.hj)];exact Nat.le_refl _) P.kb (fun u v p q huv _ e1 e2=>p9 P.sb (FD huv _) (ar_get.mp e1) (ar_get.mp e2)) (Nat.sub_pos_of_lt p5.hj) fun k' hk1' k1' k2'=>?_)));have haz:∀z∈b.toList.drop (j5+k'),le U ai z:=fun z hz=>by
       obtain⟨t,ht,e⟩:=Jv hz;rw[AQ]at ht;exact Dt (k2' (k'+t) z (ES _ _) (by lia) (by rw[<-Nat.add_assoc];exact ar_get.mpr e))
      apply Ey (o:=o5) (i:=j5) (fun o j=>LoP U a b (x+1+x3+1) o i4 j/\∀z∈b.toList.drop j,le U ai z)
      .rintro o6 j6 ⟨p6,haz⟩;refine wpS_bind (D9 hai ?_);have m7:=P.pushA p6.m hai haz;refine K2 (fun e5=>wpS_pure (.inl (MR.mk sm4 (P.lastA m7 e5)))) fun e5=>?_;have p7:=p6.putA m7 e5;exact Q4 (fun _=>wpS_pure (.inr (LoI3.mk sm4 (p7.mono (by lia))))) fun _=>wpS_pure (LoI3.mk sm4 (p7.mono (by lia)))
      .intro hF hk0;have m6:ML U a.toList b.toList (o5++b.extract j5 (j5+k')).toList i4 (j5+k'):=P.extB m5 fun y hy z hz=>by
        obtain⟨t,ht,e⟩:=Cm hy;exact le_trans (KeyOrd.kle_of_klt (Ic (k1' t y ht (ar_get.mpr e)))) (Dy P.sa (ar_get.mp hai) z hz)
       have hj5:=p5.hj;exact K2 (fun e4=>wpS_pure (.inl (MR.mk sm4 (P.doneB m6 e4)))) fun e4=>hF _ _ ⟨⟨m6,p5.hi,by lia,Nat.le_trans p5.hn (by lia)⟩,haz⟩
      .intro hk0;have z0:k'=0:=FI hk0;subst z0;exact⟨p5,haz⟩
     .intro hF hk0;have hi:=p3.hi;exact K2 (fun e1=>wpS_pure (.inl (MR.mk sm4 (P.lastA m4 e1)))) fun e1=>K2 (fun e2=>wpS_pure (.inl (MR.mk sm4 (P.doneA m4 e2)))) fun e2=>hF _ _ ⟨⟨m4,by lia,p3.hj,Nat.le_trans p3.hn (by lia)⟩,hbz⟩
     .intro hk0;have z0:k=0:=FI hk0;subst z0;exact⟨p3,hbz⟩
end
section
variable{prog:Program}{w:World}{A:Around}{E:Value->Shared->Prop}{s:Shared}{U:KeyKind}{kd:SortKind}
def Eh:Array Keyed->Array Keyed->StateT SortSt Sem (Array Keyed):=sortPriv% PySem.Builtin.mergeHi
theorem Iu(a b:Array Keyed):Eh a b =(do
  rule "list.sort.merge-hi"
  let tot:=a.size+b.size
  let dn (o:Array Keyed) (i j:Nat):=a.extract 0 i++b.extract 0 j++o.reverse
  let fB (o:Array Keyed) (i j:Nat):=b.extract 0 j++a.extract 0 i++o.reverse
  let mut i:=a.size-1
  let mut j:=b.size
  let mut o:Array Keyed:=#[<-elem' a i]
  if i == 0 then return dn o i j
  if j == 1 then return fB o i j
  let mut mg:=gallopOf (<-get)
  for _ in [0:tot] do
   let mut ac:=0
   let mut bc:=0
   for _ in [0:tot] do
    let some aw <-lt' (<-elem' b (j-1)) (<-elem' a (i-1)) | return dn o i j
    if aw then
     i:=i-1;o:=o.push (<-elem' a i);ac:=ac+1;bc:=0
     if i == 0 then return dn o i j
     if ac ≥ mg then break
    else
     j:=j-1;o:=o.push (<-elem' b j);bc:=bc+1;ac:=0
     if j == 1 then return fB o i j
     if bc ≥ mg then break
   rule "list.sort.gallop"
   mg:=mg+1
   for _ in [0:tot] do
    if mg>1 then mg:=mg-1
    Bb mg
    let some at_ <-R8 false (<-elem' b (j-1)) a 0 i (i-1) | return dn o i j
    let k:=i-at_
    ac:=k
    if k>0 then
     o:=o ++(a.extract at_ i).reverse;i:=at_
     if i == 0 then return dn o i j
    j:=j-1;o:=o.push (<-elem' b j)
    if j == 1 then return fB o i j
    let some at_ <-R8 true (<-elem' a (i-1)) b 0 j (j-1) | return dn o i j
    let k:=j-at_
    bc:=k
    if k>0 then
     o:=o ++(b.extract at_ j).reverse;j:=at_
     if j == 1 then return fB o i j
     if j == 0 then return dn o i j
    i:=i-1;o:=o.push (<-elem' a i)
    if i == 0 then return dn o i j
    if ac<7&&bc<7 then break
   mg:=mg+1
   Bb mg
  unsupported "internal:list.sort.merge-bound"):=rfl
abbrev MHa(U:KeyKind)(a b o:Array Keyed)(i j:Nat):Prop:=MH U a.toList b.toList o.toList.reverse i j
section
variable{a b o:Array Keyed}{i j k:Nat}{p q:Keyed}
theorem td1{l:List Keyed}{i:Nat}{p:Keyed}(hi:1<=i)(h:l[i-1]?=some p):(l.take i).drop (i-1) = [p]:=by
 rw[FU,show i-(i-1)=1 by lia];exact On h
theorem Hx(a:Array Keyed)(k i:Nat):(a.extract k i).toList =(a.toList.take i).drop k:=by
 rw[EI,EA,FU]
theorem Fd{l:List Keyed}(h:Sor U l){i:Nat}{p:Keyed}(hp:l[i-1]?=some p):∀z∈l.take i,le U z p:=fun z hz=>by
 obtain⟨t,h1,_,e⟩:=Mp hz;exact p9 h (by lia) e hp
theorem Pre.hpA(P:Pre U a b)(m:MHa U a b o i j)(hi:1<=i)(hp:a[i-1]?=some p)(h:∀z∈b.toList.take j,le U z p):MHa U a b (o.push p) (i-1) j:=by
 have h1:=m.addA P.sa (i-1) (by lia) (by rw[td1 hi (ar_get.mp hp)];intro y hy;rw[AC.mp hy];exact h);rw[td1 hi (ar_get.mp hp)]at h1;unfold MHa;rw[CY,FZ];exact h1
theorem Pre.hpB(P:Pre U a b)(m:MHa U a b o i j)(hj:1<=j)(hq:b[j-1]?=some q)(h:∀z∈a.toList.take i,le U z q):MHa U a b (o.push q) i (j-1):=by
 have h1:=m.addB P.sb (j-1) (by lia) (by rw[td1 hj (ar_get.mp hq)];intro y hy;rw[AC.mp hy];exact h);rw[td1 hj (ar_get.mp hq)]at h1;unfold MHa;rw[CY,FZ];exact h1
theorem Pre.heA(P:Pre U a b)(m:MHa U a b o i j)(hk:k<=i)(h:∀y∈(a.toList.take i).drop k,∀z∈b.toList.take j,le U z y):MHa U a b (o ++(a.extract k i).reverse) k j:=by
 unfold MHa;rw[BP,FA,FZ,List.reverse_reverse,Hx];exact m.addA P.sa k hk h
theorem Pre.heB(P:Pre U a b)(m:MHa U a b o i j)(hk:k<=j)(h:∀y∈(b.toList.take j).drop k,∀z∈a.toList.take i,le U z y):MHa U a b (o ++(b.extract k j).reverse) i k:=by
 unfold MHa;rw[BP,FA,FZ,List.reverse_reverse,Hx];exact m.addB P.sb k hk h
theorem Pre.hdA(P:Pre U a b)(m:MHa U a b o i j)(hi:i=0):Rm U a b (a.extract 0 i++b.extract 0 j++o.reverse):=by
 unfold Rm;rw[BP,BP,FA,j4,j4];refine m.endA P.sa P.sb fun y hy z _=>?_;rw[hi,List.take_zero]at hy;exact absurd hy (by simp)
theorem Pre.hdB(P:Pre U a b)(m:MHa U a b o i j)(hj:j=0):Rm U a b (a.extract 0 i++b.extract 0 j++o.reverse):=by
 unfold Rm;rw[BP,BP,FA,j4,j4];refine m.endA P.sa P.sb fun y _ z hz=>?_;rw[hj,List.take_zero]at hz;exact absurd hz (by simp)
theorem Pre.hfB(P:Pre U a b)(m:MHa U a b o i j)(hj:j=1):Rm U a b (b.extract 0 j++a.extract 0 i++o.reverse):=by
 unfold Rm;rw[BP,BP,FA,j4,j4];refine m.endB P.sa P.sb fun y hy z hz=>?_;obtain⟨t,h1,_,e⟩:=Mp hy;have e0:t=0:=by lia
 rw[e0]at e;exact P.first y (ar_get.mpr e) z (BO hz)
end
structure HiP(U:KeyKind)(a b:Array Keyed)(n:Nat)(o:Array Keyed)(i j:Nat):Prop where
 m:MHa U a b o i j
 hi:1<=i
 hj:2<=j
 ia:i<=a.size
 jb:j<=b.size
 hn:n+i+j<=a.size+b.size
theorem HiP.putA{a b o o':Array Keyed}{n i j:Nat}(h:HiP U a b n o i j)(m:MHa U a b o' (i-1) j)(e:i-1≠0):HiP U a b (n+1) o' (i-1) j:=by
 obtain⟨_,h1,h2,h3,h4,h5⟩:=h;exact⟨m,by lia,h2,by lia,h4,by lia⟩
theorem HiP.putB{a b o o':Array Keyed}{n i j:Nat}(h:HiP U a b n o i j)(m:MHa U a b o' i (j-1))(e:j-1≠1):HiP U a b (n+1) o' i (j-1):=by
 obtain⟨_,h1,h2,h3,h4,h5⟩:=h;exact⟨m,h1,by lia,h3,by lia,by lia⟩
theorem HiP.mono{a b o:Array Keyed}{n n' i j:Nat}(h:HiP U a b n o i j)(l:n'<=n):HiP U a b n' o i j:=⟨h.m,h.hi,h.hj,h.ia,h.jb,Nat.le_trans (Nat.add_le_add_right (Nat.add_le_add_right l _) _) h.hn⟩
theorem HiP.la{a b o:Array Keyed}{n i j:Nat}(h:HiP U a b n o i j):i-1<a.size:=BH (Nat.sub_lt h.hi (GC)) h.ia
theorem HiP.lb{a b o:Array Keyed}{n i j:Nat}(h:HiP U a b n o i j):j-1<b.size:=BH (Nat.sub_lt (FR h.hj) (GC)) h.jb
theorem HiP.hj1{a b o:Array Keyed}{n i j:Nat}(h:HiP U a b n o i j):1<=j:=DW h.hj
def zFr(U:KeyKind)(a b:Array Keyed)(st:SortSt)(n:Nat)(c:Option (Array Keyed)×Nat×Nat×Array Keyed×Nat)(st':SortSt):Prop:=Sm st st'/\∃i j o mg,c =(none,i,j,o,mg)/\HiP U a b n o i j
def HiI2(U:KeyKind)(a b:Array Keyed)(st:SortSt)(n:Nat)(c:Option (Array Keyed)×Nat×Nat×Array Keyed×Nat×Nat)(st':SortSt):Prop:=Sm st st'/\∃i j o ac bc,c =(none,i,j,o,ac,bc)/\HiP U a b n o i j
def HiI3(U:KeyKind)(a b:Array Keyed)(st:SortSt)(n:Nat)(c:Option (Array Keyed)×Nat×Nat×Array Keyed×Nat×Nat×Nat)(st':SortSt):Prop:=Sm st st'/\∃i j o mg ac bc,c =(none,i,j,o,mg,ac,bc)/\HiP U a b n o i j
theorem HiI2.mk{a b o:Array Keyed}{st st':SortSt}{n i j ac bc:Nat}(sm:Sm st st')(h:HiP U a b n o i j):HiI2 U a b st n (none,i,j,o,ac,bc) st':=⟨sm,_,_,_,_,_,rfl,h⟩
theorem HiI3.mk{a b o:Array Keyed}{st st':SortSt}{n i j mg ac bc:Nat}(sm:Sm st st')(h:HiP U a b n o i j):HiI3 U a b st n (none,i,j,o,mg,ac,bc) st':=⟨sm,_,_,_,_,_,_,rfl,h⟩
theorem Jm(C:Cmp prog w A s U kd){st:SortSt}{a b:Array Keyed}{Q:Array Keyed->SortSt->Prop}(hk:kindOf st=kd)(P:Pre U a b)
  (h:∀r st',Sm st st'->Rm U a b r->Q r st'):wpS (model prog w) A E s (Eh a b) Q st:=by
 rw[Iu];have hna:=P.na;have hnb:=P.nb;obtain⟨b0,hb0⟩:=Y4 (a:=a) (i:=a.size-1) (Nat.sub_lt hna GC);have m0:MHa U a b (#[]:Array Keyed) a.size b.size:=⟨by simp,List.Pairwise.nil,fun x hx=>absurd hx (by simp),fun x hx=>absurd hx (by simp)⟩;have m1:MHa U a b (#[b0]:Array Keyed) (a.size-1) b.size:=by
  have:=P.hpA m0 hna hb0 (fun z hz=>P.last b0 hb0 z (BO hz));simpa using this
 apply Ot (x0:=b0) (fun R z=>wpS_lift (DH ⟨rfl,z⟩)) (fun R z=>D9 hb0 z)
 case h1=>exact fun ha1=>wpS_pure (h _ _ (Sm.refl _) (P.hdA m1 (eq_of_beq ha1)))
 case h2=>exact fun _ hb1=>wpS_pure (h _ _ (Sm.refl _) (P.hfB m1 (eq_of_beq hb1)))
 intro ha1 hb1;have ha1:¬a.size-1=0:=fun z=>ha1 (beq_iff_eq.mpr z);have hb1:¬b.size=1:=fun z=>hb1 (beq_iff_eq.mpr z);have p1:HiP U a b 1 #[b0] (a.size-1) b.size:=⟨m1,by lia,by lia,by lia,by lia,by lia⟩;refine wpS_mono (wpS_forRange (I:=fun x=>zFr U a b st (x+1)) (Q:=MR U a b st) ?st ?en ⟨Sm.refl _,_,_,_,_,rfl,p1⟩) ?po
 case po =>
  rintro⟨c1,c2⟩ st' ⟨sm,r,e,hr⟩;cases e;exact wpS_pure (h r st' sm hr)
 case en =>
  rintro c st' ⟨sm,i,j,o,mg,rfl,p⟩;obtain⟨_,h1,h2,_,_,h3⟩:=p;exfalso;lia
 case st =>
  rintro x c st' _ hx ⟨sm,i,j,o,mg,rfl,p⟩;refine wpS_bind (wpS_mono (wpS_forRange (I:=fun _=>HiI2 U a b st (x+1)) (Q:=fun c st'=>MR U a b st c st'\/HiI2 U a b st (x+1) c st') ?st1 ?en1 (HiI2.mk sm p)) ?po1)
  case en1=>exact fun c st2 z=>.inr z
  case st1 =>
   rintro x2 c st2 _ _ ⟨sm2,i',j',o,ac,bc,rfl,p2⟩;obtain⟨bj,hbj⟩:=Y4 (a:=b) (i:=j' - 1) p2.lb;obtain⟨ai,hai⟩:=Y4 (a:=a) (i:=i' - 1) p2.la;refine wpS_bind (D9 hbj (wpS_bind (D9 hai (wpS_bind (Gk C (sm2.knd hk) (P.kb _ _ hbj) (P.ka _ _ hai) ?_)))));refine Q4 (fun hlt=>wpS_bind (D9 hai ?_)) fun hlt=>wpS_bind (D9 hbj ?_)
   .have m3:=P.hpA p2.m p2.hi hai fun z hz=>le_trans (Fd P.sb (ar_get.mp hbj) z hz) (KeyOrd.kle_of_klt hlt);refine K2 (fun e1=>wpS_pure (.inl (MR.mk sm2 (P.hdA m3 e1)))) fun e1=>?_;have p3:=(p2.putA m3 e1).mono (C_ _);exact Q4 (fun _=>wpS_pure (.inr (HiI2.mk sm2 p3))) fun _=>wpS_pure (HiI2.mk sm2 p3)
   .have m3:=P.hpB p2.m p2.hj1 hbj fun z hz=>le_trans (Fd P.sa (ar_get.mp hai) z hz) (show le U ai bj from DJ.mpr hlt);refine K2 (fun e1=>wpS_pure (.inl (MR.mk sm2 (P.hfB m3 e1)))) fun e1=>?_;have p3:=(p2.putB m3 e1).mono (C_ _);exact Q4 (fun _=>wpS_pure (.inr (HiI2.mk sm2 p3))) fun _=>wpS_pure (HiI2.mk sm2 p3)
  case po1 =>
   rintro⟨c1,c2⟩ st2 (⟨sm2,r,e,hr⟩ | ⟨sm2,i2,j2,o2,ac,bc,e,p2⟩)
   .cases e;exact wpS_pure (MR.mk sm2 hr)
   .cases e;refine wpS_bind (wpS_lift (DH ⟨rfl,?_⟩));refine wpS_bind (wpS_mono (wpS_forRange (I:=fun x3=>HiI3 U a b st (x+1+x3)) (Q:=fun c st'=>MR U a b st c st'\/HiI3 U a b st (x+1+1) c st') ?st2 ?en2 (HiI3.mk sm2 p2)) ?po2)
    case en2 =>
     rintro c st3 ⟨sm3,i',j',o',mg',ac,bc,rfl,p3⟩;exact .inr (HiI3.mk sm3 (p3.mono (by lia)))
    case po2 =>
     rintro⟨c1,c2⟩ st3 (⟨sm3,r,e,hr⟩ | ⟨sm3,i',j',o',mg',ac,bc,e,p3⟩)
     .cases e;exact wpS_pure (MR.mk sm3 hr)
     .cases e;refine wpS_bind (X2 sm3 fun st4 sm4=>?_);exact wpS_pure ⟨sm4,_,_,_,_,rfl,p3⟩
    case st2 =>
     rintro x3 c st3 _ _ ⟨sm3,i3,j3,o3,mg3,ac3,bc3,rfl,p3⟩;obtain⟨bj,hbj⟩:=Y4 (a:=b) (i:=j3-1) p3.lb;apply Su (mg3-1) (y:=mg3)
     case e=>exact rfl
     intro g;refine wpS_bind (X2 sm3 fun st4 sm4=>?_);refine wpS_bind (D9 hbj (wpS_bind (n8 C (sm4.knd hk) (P.kb _ _ hbj) (by rw[EQ];exact p3.ia) P.ka (fun u v p q huv _ e1 e2=>p9 P.sa (FD huv _) (ar_get.mp e1) (ar_get.mp e2)) (Nat.sub_lt p3.hi GC) fun k hk1 k1 k2=>?_)));dsimp only;have m4:MHa U a b (o3 ++(a.extract k i3).reverse) k j3:=P.heA p3.m hk1 fun y hy z hz=>by
      obtain⟨t,ht1,ht2,e⟩:=Vq hy;exact le_trans (Fd P.sb (ar_get.mp hbj) z hz) (KeyOrd.kle_of_klt (Bp (k2 t y ht1 ht2 (by rw[EQ];exact ar_get.mpr e))))
     have hbz:∀z∈a.toList.take k,le U z bj:=fun z hz=>by
      obtain⟨t,ht,_,e⟩:=Mp hz;exact Ea (k1 t z ht (by rw[EQ];exact ar_get.mpr e))
     generalize hd:i3-k=d;apply Ey (o:=o3) (i:=i3) (fun o i=>HiP U a b (x+1+x3) o i j3/\∀z∈a.toList.take i,le U z bj)
     .rintro o4 i4 ⟨p4,hbz⟩;refine wpS_bind (D9 hbj ?_);have m5:=P.hpB p4.m p4.hj1 hbj hbz;refine K2 (fun e3=>wpS_pure (.inl (MR.mk sm4 (P.hfB m5 e3)))) fun e3=>?_;have p5:=p4.putB m5 e3;generalize o4.push bj=o5 at m5 p5⊢;generalize j3-1=j5 at m5 p5⊢;obtain⟨ai,hai⟩:=Y4 (a:=a) (i:=i4-1) p5.la;refine wpS_bind (D9 hai (wpS_bind (n8 C (sm4.knd hk) (P.ka _ _ hai) (by rw[EQ];exact p5.jb) P.kb (fun u v p q huv _ e1 e2=>p9 P.sb (FD huv _) (ar_get.mp e1) (ar_get.mp e2)) (Nat.sub_lt p5.hj1 GC) fun k' hk1' k1' k2'=>?_)));dsimp only;have haz:∀z∈b.toList.take k',le U z ai:=fun z hz=>by
       obtain⟨t,ht,_,e⟩:=Mp hz;exact KeyOrd.kle_of_klt (Ic (k1' t z ht (by rw[EQ];exact ar_get.mpr e)))
      generalize hd':j5-k'=d';apply Ey (o:=o5) (i:=j5) (fun o j=>HiP U a b (x+1+x3+1) o i4 j/\∀z∈b.toList.take j,le U z ai)
      .rintro o6 j6 ⟨p6,haz⟩;refine wpS_bind (D9 hai ?_);have m7:=P.hpA p6.m p6.hi hai haz;refine K2 (fun e5=>wpS_pure (.inl (MR.mk sm4 (P.hdA m7 e5)))) fun e5=>?_;have p7:=p6.putA m7 e5;exact Q4 (fun _=>wpS_pure (.inr (HiI3.mk sm4 (p7.mono (by lia))))) fun _=>wpS_pure (HiI3.mk sm4 (p7.mono (by lia)))
      .intro hF hk0;have m6:MHa U a b (o5 ++(b.extract k' j5).reverse) i4 k':=P.heB m5 hk1' fun y hy z hz=>by
        obtain⟨t,ht1,ht2,e⟩:=Vq hy;exact le_trans (Fd P.sa (ar_get.mp hai) z hz) (Dt (k2' t y ht1 ht2 (by rw[EQ];exact ar_get.mpr e)))
       obtain⟨_,h1,h2,h3,h4,h5⟩:=p5;exact K2 (fun e4=>wpS_pure (.inl (MR.mk sm4 (P.hfB m6 e4)))) fun e4=>K2 (fun e5=>wpS_pure (.inl (MR.mk sm4 (P.hdB m6 e5)))) fun e5=>hF _ _ ⟨⟨m6,h1,by lia,h3,Nat.le_trans hk1' h4,by lia⟩,haz⟩
      .intro hk0;have z0:k'=j5:=Nat.le_antisymm hk1' (Nat.le_of_sub_eq_zero (hd'.trans (FI hk0)));subst z0;exact⟨p5,haz⟩
     .intro hF hk0;obtain⟨_,h1,h2,h3,h4,h5⟩:=p3;exact K2 (fun e1=>wpS_pure (.inl (MR.mk sm4 (P.hdA m4 e1)))) fun e1=>hF _ _ ⟨⟨m4,by lia,h2,Nat.le_trans hk1 h3,h4,by lia⟩,hbz⟩
     .intro hk0;have z0:k=i3:=Nat.le_antisymm hk1 (Nat.le_of_sub_eq_zero (hd.trans (FI hk0)));subst z0;exact⟨p3,hbz⟩
end
section
variable{prog:Program}{w:World}{A:Around}{E:Value->Shared->Prop}{s:Shared}{U:KeyKind}{kd:SortKind}
def seg(l:List Keyed)(lo n:Nat):List Keyed:=(l.drop lo).take n
theorem Sv(m:List Keyed)(lo:Nat):∀(n:Nat) (a:Array Keyed),lo+n+m.length<=a.size ->
  ((m.zipIdx n).foldl (fun a (x:Keyed×Nat)=>a.setIfInBounds (lo+x.2) x.1) a).size=a.size /\
  ∀t:Nat,((m.zipIdx n).foldl (fun a (x:Keyed×Nat)=>a.setIfInBounds (lo+x.2) x.1) a)[t]?=if lo+n<=t/\t<lo+n+m.length then m[t-(lo+n)]? else a[t]?:=by
 induction m with
 | nil =>
  intro n a h;refine⟨rfl,fun t=>?_⟩;rw[AS (by simp only[List.length_nil];omega)];rfl
 | cons p m ih =>
  intro n a h;rw[BK]at h;rw[List.zipIdx_cons,List.foldl_cons];obtain⟨i1,i2⟩:=ih (n+1) (a.setIfInBounds (lo+n) p) (by rw[F_];omega);refine⟨i1.trans F_,fun t=>?_⟩;rw[i2 t,BK];by_cases h1:lo+n=t
  .subst h1;rw[AS (by omega),AY (by omega),Array.getElem?_setIfInBounds_self_of_lt (by omega),Nat.sub_self];rfl
  .by_cases h2:lo +(n+1)<=t/\t<lo +(n+1)+m.length
   .rw[AY h2,AY (by omega),show t-(lo+n) =(t-(lo +(n+1)))+1 by omega,List.getElem?_cons_succ]
   .rw[AS h2,AS (by omega),Array.getElem?_setIfInBounds_ne h1]
theorem Ce(m:List Keyed)(lo:Nat)(a:Array Keyed)(h:lo+m.length<=a.size) :
  (m.zipIdx.foldl (fun a (x:Keyed×Nat)=>a.setIfInBounds (lo+x.2) x.1) a).toList=a.toList.take lo++m++a.toList.drop (lo+m.length):=by
 obtain⟨h1,h2⟩:=Sv m lo 0 a (by omega);refine FB fun t=>?_;rw[BL,h2 t];have hl:(a.toList.take lo).length=lo:=by rw[AR,AQ];omega
 by_cases c1:t<lo
 .rw[AS (by omega),BI,EB (by omega),DA c1,BL]
 .by_cases c2:t<lo+m.length
  .rw[AY (by omega),EB (by rw[BB];omega),DX (by omega),hl];rfl
  .rw[AS (by omega),DX (by rw[BB];omega),BB,hl,FJ,BL];congr 1;omega
theorem Qm(l:List Keyed)(lo n:Nat):l=l.take lo++seg l lo n++l.drop (lo+n):=by
 unfold seg;rw[BI,<-EU,BS,BS]
theorem Jk(l:List Keyed)(lo n m:Nat):seg l lo (n+m)=seg l lo n++seg l (lo+n) m:=by
 unfold seg;rw[List.take_add,EU]
structure Part(U:KeyKind)(l l':List Keyed)(lo n:Nat):Prop where
 perm:l'.Perm l
 front:l'.take lo=l.take lo
 back:l'.drop (lo+n)=l.drop (lo+n)
theorem Part.refl(l:List Keyed)(lo n:Nat):Part U l l lo n:=⟨List.Perm.refl _,rfl,rfl⟩
theorem Part.seg_front{l l':List Keyed}{lo n:Nat}(h:Part U l l' lo n){u m:Nat}(hu:u+m<=lo):seg l' u m=seg l u m:=by
 have:∀x:List Keyed,seg x u m =((x.take lo).drop u).take m:=fun x=>by
  unfold seg;rw[FU,List.take_take,DZ (by omega)]
 rw[this,this,h.front]
theorem Part.seg_back{l l':List Keyed}{lo n:Nat}(h:Part U l l' lo n){u m:Nat}(hu:lo+n<=u):seg l' u m=seg l u m:=by
 have:∀x:List Keyed,seg x u m =((x.drop (lo+n)).drop (u-(lo+n))).take m:=fun x=>by
  unfold seg;rw[EU,show lo+n +(u-(lo+n))=u by omega]
 rw[this,this,h.back]
theorem Part.of{l z:List Keyed}{lo n:Nat}(hz:z.Perm (seg l lo n))(hl:lo+n<=l.length):Part U l (l.take lo++z++l.drop (lo+n)) lo n/\seg (l.take lo++z++l.drop (lo+n)) lo n=z:=by
 have h1:(l.take lo).length=lo:=by rw[AR];omega
 have h2:z.length=n:=by
  rw[hz.length_eq];unfold seg;rw[AR,CC];omega
 refine⟨⟨?_,?_,?_⟩,?_⟩
 .conv=>rhs;rw[Qm l lo n]
  exact DG _ (DD _ hz)
 .rw[BI,FH (by omega),CN (by omega)]
 .rw[List.drop_append,EO (by rw[BB];omega),List.nil_append,BB,h1,h2,Nat.sub_self,DV]
 .unfold seg;rw[BI,List.drop_append,EO (by omega),List.nil_append,h1,Nat.sub_self,DV,FH (by omega),CN (by omega)]
structure St(U:KeyKind)(kd:SortKind)(a₀:Array Keyed)(st:SortSt):Prop where
 perm:(arrOf st).toList.Perm a₀.toList
 kind:kindOf st=kd
 failed:failedOf st=none
theorem St.size{a₀:Array Keyed}{st:SortSt}(h:St U kd a₀ st):(arrOf st).size=a₀.size:=by
 have:=h.perm.length_eq;simpa using this
theorem St.has{a₀:Array Keyed}{st:SortSt}(h:St U kd a₀ st)(h0:KeysOf U a₀)(i:Nat)(p:Keyed)(e:(arrOf st)[i]?=some p):Has U p :=
 h0 p (h.perm.mem_iff.mp (AK (ar_get.mp e)))
theorem M9{l:List Keyed}{lo n t:Nat}(ht:t<n):(seg l lo n)[t]?=l[lo+t]?:=by
 unfold seg;rw[DA ht,FJ]
theorem Il(i:Nat):mergeAt' i =(do
  let u <-get
  let(some (sa,na,pw),some (sb,nb,_)):=((pendingOf u)[i]?,(pendingOf u)[i+1]?) | unsupported "internal:list.sort.pending"
  set (setPending u (((pendingOf u).setIfInBounds i (sa,na+nb,pw)).eraseIdxIfInBounds (i+1)))
  let some k <-R8 false (<-elem' (arrOf u) sb) (arrOf u) sa na 0 | return false
  let(sa,na):=(sa+k,na-k)
  if na == 0 then return true
  let some nb <-R8 true (<-elem' (arrOf u) (sa+na-1)) (arrOf u) sb nb (nb-1) | return false
  if nb == 0 then return true
  let x:=(arrOf u).extract sa sb
  let y:=(arrOf u).extract sb (sb+nb)
  let mm <-if na<=nb then Et x y else Eh x y
  modify fun v=>setArr v (mm.toList.zipIdx.foldl (fun a (z:Keyed×Nat)=>a.setIfInBounds (sa+z.2) z.1) (arrOf v))
  return(failedOf (<-get)).isNone):=rfl
theorem Xy{st st2:SortSt}{Q:PUnit->SortSt->Prop}(h:Q ⟨⟩ st2):wpS (model prog w) A E s (set st2:StateT SortSt Sem PUnit) Q st:=by
 unfold wpS;rw[StateT.run_set];exact AD ⟨rfl,h⟩
theorem Hw(C:Cmp prog w A s U kd){a₀:Array Keyed}(h0:KeysOf U a₀){st:SortSt}{i sa na pw sb nb pw2:Nat}{Q:Bool->SortSt->Prop}(hS:St U kd a₀ st)
  (hi:(pendingOf st)[i]?=some (sa,na,pw)) (hj:(pendingOf st)[i+1]?=some (sb,nb,pw2)) (hsb:sb=sa+na) (hsz:sb+nb<=a₀.size) (hna:1<=na) (hnb:1<=nb)
  (sx:Sor U (seg (arrOf st).toList sa na)) (sy:Sor U (seg (arrOf st).toList sb nb))
  (h:∀st',St U kd a₀ st'->Part U (arrOf st).toList (arrOf st').toList sa (na+nb)->Sor U (seg (arrOf st').toList sa (na+nb)) ->
   pendingOf st' =((pendingOf st).setIfInBounds i (sa,na+nb,pw)).eraseIdxIfInBounds (i+1)->Q true st'):wpS (model prog w) A E s (mergeAt' i) Q st:=by
 subst hsb;have hL:(arrOf st).toList.length=a₀.size:=by rw[AQ];exact hS.size
 have hsz':=hS.size;rw[Il];refine wpS_bind (wpS_get ?_);rw[hi,hj];dsimp only;refine wpS_bind (Xy ?_);obtain⟨b0,hb0⟩:=Y4 (a:=arrOf st) (i:=sa+na) (by omega);have sxl:∀u v p q,u<=v->v<na->(arrOf st)[sa+u]?=some p->(arrOf st)[sa+v]?=some q->le U p q:=fun u v p q huv hv e1 e2 =>
  p9 sx huv (by rw[M9 (by omega)];exact ar_get.mp e1) (by rw[M9 hv];exact ar_get.mp e2)
 have syl:∀u v p q,u<=v->v<nb->(arrOf st)[sa+na+u]?=some p->(arrOf st)[sa+na+v]?=some q->le U p q:=fun u v p q huv hv e1 e2 =>
  p9 sy huv (by rw[M9 (by omega)];exact ar_get.mp e1) (by rw[M9 hv];exact ar_get.mp e2)
 refine wpS_bind (D9 hb0 (wpS_bind (n8 C hS.kind (hS.has h0 _ _ hb0) (by omega) (hS.has h0) sxl (by omega) fun k hk1 k1 k2=>?_)));dsimp only;have b0y:∀z∈seg (arrOf st).toList (sa+na) nb,le U b0 z:=fun z hz=>by
  obtain⟨t,ht,e⟩:=Cm hz;exact syl 0 t b0 z (by omega) ht hb0 (ar_get.mpr e)
 have xk:∀x∈(seg (arrOf st).toList sa na).take k,le U x b0:=fun x hx=>by
  obtain⟨t,ht,ht2,e⟩:=Mp hx;unfold seg at ht2;rw[AR]at ht2;rw[M9 (by omega)]at e;exact Ea (k1 t x ht (ar_get.mpr e))
 have kx:∀x∈(seg (arrOf st).toList sa na).drop k,le U b0 x:=fun x hx=>by
  obtain⟨t,ht,e⟩:=Jv hx;unfold seg at ht;rw[AR]at ht;rw[M9 (by omega)]at e;exact KeyOrd.kle_of_klt (Bp (k2 (k+t) x (by omega) (by omega) (ar_get.mpr e)))
 have S1:St U kd a₀ (setPending st (((pendingOf st).setIfInBounds i (sa,na+nb,pw)).eraseIdxIfInBounds (i+1))):=⟨hS.perm,hS.kind,hS.failed⟩;by_cases hk0:na-k=0
 .rw[AY (by simpa using hk0)];have hkk:k=na:=by omega
  refine wpS_pure (h _ S1 (Part.refl _ _ _) ?_ rfl);show Sor U (seg (arrOf st).toList sa (na+nb));rw[Jk];refine CJ.mpr ⟨sx,sy,fun x hx y hy=>le_trans (xk x ?_) (b0y y hy)⟩;rw[CN (by unfold seg;rw[AR];omega)];exact hx
 rw[AS (by simpa using hk0)];obtain⟨al,hal⟩:=Y4 (a:=arrOf st) (i:=sa+k +(na-k)-1) (by omega);refine wpS_bind (D9 hal (wpS_bind (n8 C S1.kind (hS.has h0 _ _ hal) (by omega) (hS.has h0) syl (by omega) fun k' hk1' k1' k2'=>?_)));dsimp only;have hal':(arrOf st)[sa +(na-1)]?=some al:=by rw[show sa +(na-1)=sa+k +(na-k)-1 by omega];exact hal
 have xal:∀x∈seg (arrOf st).toList sa na,le U x al:=fun x hx=>by
  obtain⟨t,ht,e⟩:=Cm hx;exact sxl t (na-1) x al (by omega) (by omega) (ar_get.mpr e) hal'
 have yk:∀y∈(seg (arrOf st).toList (sa+na) nb).take k',le U y al:=fun y hy=>by
  obtain⟨t,ht,ht2,e⟩:=Mp hy;unfold seg at ht2;rw[AR]at ht2;rw[M9 (by omega)]at e;exact KeyOrd.kle_of_klt (Ic (k1' t y ht (ar_get.mpr e)))
 have ky:∀y∈(seg (arrOf st).toList (sa+na) nb).drop k',le U al y:=fun y hy=>by
  obtain⟨t,ht,e⟩:=Jv hy;unfold seg at ht;rw[AR]at ht;rw[M9 (by omega)]at e;exact Dt (k2' (k'+t) y (by omega) (by omega) (ar_get.mpr e))
 by_cases hk0':k'=0
 .rw[AY (by simpa using hk0')];refine wpS_pure (h _ S1 (Part.refl _ _ _) ?_ rfl);show Sor U (seg (arrOf st).toList sa (na+nb));rw[Jk];refine CJ.mpr ⟨sx,sy,fun x hx y hy=>le_trans (xal x hx) (ky y ?_)⟩;rw[hk0',DV];exact hy
 rw[AS (by simpa using hk0')];have ex:((arrOf st).extract (sa+k) (sa+na)).toList =(seg (arrOf st).toList sa na).drop k:=by
  rw[Hx];unfold seg;rw[FU,FU,EU];congr 1;omega
 have ey:((arrOf st).extract (sa+na) (sa+na+k')).toList =(seg (arrOf st).toList (sa+na) nb).take k':=by
  rw[Ed];unfold seg;rw[List.take_take,DZ hk1']
 have P:Pre U ((arrOf st).extract (sa+k) (sa+na)) ((arrOf st).extract (sa+na) (sa+na+k')):=by
  refine⟨by rw[ex];exact sx.sublist (E_ _ _),by rw[ey];exact sy.sublist (DU _ _),fun t p e=>?_,fun t p e=>?_,?_,?_,fun q e z hz=>?_,fun p e z hz=>?_⟩
  .have m:=AK (ar_get.mp e);rw[ex]at m;obtain⟨u,_,e2⟩:=Cm (DQ m);exact hS.has h0 _ p (ar_get.mpr e2)
  .have m:=AK (ar_get.mp e);rw[ey]at m;obtain⟨u,_,e2⟩:=Cm (BO m);exact hS.has h0 _ p (ar_get.mpr e2)
  .rw[FK];omega
  .rw[FK];omega
  .have m:=ar_get.mp e;rw[ey,DA (by omega),M9 (by omega)]at m;have:q=b0:=by
    have:=ar_get.mp hb0;rw[Nat.add_zero,this]at m;exact(BV m).symm
   subst this;rw[ex]at hz;exact kx z hz
  .have m:=ar_get.mp e;rw[ex,FK,FJ,M9 (by omega)]at m;have:p=al:=by
    have q:=ar_get.mp hal';rw[show k +(min (sa+na) (arrOf st).size-(sa+k)-1)=na-1 by omega,q]at m;exact(BV m).symm
   subst this;rw[ey]at hz;exact yk z hz
 have fin:∀(r:Array Keyed) (st2:SortSt),Sm (setPending st (((pendingOf st).setIfInBounds i (sa,na+nb,pw)).eraseIdxIfInBounds (i+1))) st2->Rm U ((arrOf st).extract (sa+k) (sa+na)) ((arrOf st).extract (sa+na) (sa+na+k')) r ->
   Q (failedOf (setArr st2 (r.toList.zipIdx.foldl (fun a (z:Keyed×Nat)=>a.setIfInBounds (sa+k+z.2) z.1) (arrOf st2)))).isNone (setArr st2 (r.toList.zipIdx.foldl (fun a (z:Keyed×Nat)=>a.setIfInBounds (sa+k+z.2) z.1) (arrOf st2))):=by
  rintro r st2 ⟨q1,q2,q3,q4⟩ ⟨r1,r2⟩;rw[ex,ey]at r2;have hrl:r.toList.length =(na-k)+k':=by
   rw[r2.length_eq,BB];unfold seg;rw[CC,AR,AR,CC,AR,CC];omega
  have q2':arrOf st2=arrOf st:=q2;have ef:failedOf (setArr st2 (r.toList.zipIdx.foldl (fun a (z:Keyed×Nat)=>a.setIfInBounds (sa+k+z.2) z.1) (arrOf st2)))=none:=q4.trans hS.failed;rw[ef];have el:=Ce r.toList (sa+k) (arrOf st2) (by rw[q2'];omega);have eq:(r.toList.zipIdx.foldl (fun a (z:Keyed×Nat)=>a.setIfInBounds (sa+k+z.2) z.1) (arrOf st2)).toList =(arrOf st).toList.take sa ++((seg (arrOf st).toList sa na).take k++r.toList ++(seg (arrOf st).toList (sa+na) nb).drop k') ++(arrOf st).toList.drop (sa +(na+nb)):=by
   rw[el,q2',hrl];have e1:(arrOf st).toList.take (sa+k) =(arrOf st).toList.take sa ++(seg (arrOf st).toList sa na).take k:=by
    unfold seg;rw[List.take_add,List.take_take,DZ hk1]
   have e2:(arrOf st).toList.drop (sa+k +(na-k+k')) =(seg (arrOf st).toList (sa+na) nb).drop k' ++(arrOf st).toList.drop (sa +(na+nb)):=by
    unfold seg;rw[FU,EU,show sa+k +(na-k+k')=sa+na+k' by omega]
    conv=>lhs;rw[<-BS (nb-k') ((arrOf st).toList.drop (sa+na+k'))]
    rw[EU,show sa+na+k' +(nb-k')=sa +(na+nb) by omega]
   rw[e1,e2];simp only[BI]
  have hp:((seg (arrOf st).toList sa na).take k++r.toList ++(seg (arrOf st).toList (sa+na) nb).drop k').Perm (seg (arrOf st).toList sa (na+nb)):=by
   rw[Jk];have a1:((seg (arrOf st).toList sa na).take k++r.toList ++(seg (arrOf st).toList (sa+na) nb).drop k').Perm ((seg (arrOf st).toList sa na).take k ++((seg (arrOf st).toList sa na).drop k ++(seg (arrOf st).toList (sa+na) nb).take k') ++(seg (arrOf st).toList (sa+na) nb).drop k') :=
    DG _ (DD _ r2)
   refine a1.trans (List.Perm.of_eq ?_);rw[<-BI,BS,BI,BS]
  obtain⟨pa,ps⟩:=Part.of (U:=U) hp (by rw[hL];omega);have hs:Sor U ((seg (arrOf st).toList sa na).take k++r.toList ++(seg (arrOf st).toList (sa+na) nb).drop k'):=by
   refine CJ.mpr ⟨CJ.mpr ⟨sx.sublist (DU _ _),r1,fun x hx y hy=>?_⟩,sy.sublist (E_ _ _),fun x hx y hy=>?_⟩
   .rcases AI.mp (r2.mem_iff.mp hy)with hy | hy
    .exact le_trans (xk x hx) (kx y hy)
    .exact le_trans (xk x hx) (b0y y (BO hy))
   .rcases AI.mp hx with hx | hx
    .exact le_trans (xal x (BO hx)) (ky y hy)
    .rcases AI.mp (r2.mem_iff.mp hx)with hx | hx
     .exact le_trans (xal x (DQ hx)) (ky y hy)
     .exact le_trans (yk x hx) (ky y hy)
  refine h _ ⟨?_,q1.trans hS.kind,q4.trans hS.failed⟩ ?_ ?_ q3
  .show(r.toList.zipIdx.foldl (fun a (z:Keyed×Nat)=>a.setIfInBounds (sa+k+z.2) z.1) (arrOf st2)).toList.Perm a₀.toList;rw[eq];exact pa.perm.trans hS.perm
  .show Part U (arrOf st).toList (r.toList.zipIdx.foldl (fun a (z:Keyed×Nat)=>a.setIfInBounds (sa+k+z.2) z.1) (arrOf st2)).toList sa (na+nb);rw[eq];exact pa
  .show Sor U (seg (r.toList.zipIdx.foldl (fun a (z:Keyed×Nat)=>a.setIfInBounds (sa+k+z.2) z.1) (arrOf st2)).toList sa (na+nb));rw[eq,ps];exact hs
 by_cases hab:na-k<=k'
 .rw[AY hab];refine wpS_bind (Jn C S1.kind P fun r st2 q r1=>?_);exact wpS_bind (wpS_modify (wpS_bind (wpS_get (wpS_pure (fin r st2 q r1)))))
 .rw[AS hab];refine wpS_bind (Jm C S1.kind P fun r st2 q r1=>?_);exact wpS_bind (wpS_modify (wpS_bind (wpS_get (wpS_pure (fin r st2 q r1)))))
end
section
variable{prog:Program}{w:World}{A:Around}{E:Value->Shared->Prop}{s:Shared}{U:KeyKind}{kd:SortKind}{a₀:Array Keyed}
theorem To{xs:Array Keyed}{i:Nat}{p:Keyed}(h:xs[i]?=some p):KK U xs i=kk U p:=by unfold KK kk;rw[h]
def SI(U:KeyKind)(xs:Array Keyed)(lo m:Nat):Prop:=∀i j,i<=j->j<m->U.kle (KK U xs (lo+i)) (KK U xs (lo+j))
def NI(U:KeyKind)(xs:Array Keyed)(lo m:Nat):Prop:=∀i j,i<=j->j<m->U.kle (KK U xs (lo+j)) (KK U xs (lo+i))
theorem SI.sor{xs:Array Keyed}{lo m:Nat}(h:SI U xs lo m):Sor U (seg xs.toList lo m):=by
 refine List.pairwise_iff_getElem.mpr fun i j hi hj hij=>?_;unfold seg at hi hj;rw[AR]at hi hj;have e1:xs[lo+i]?=some (seg xs.toList lo m)[i]:=by
  rw[ar_get,<-M9 (n:=m) (by omega)];exact AN _
 have e2:xs[lo+j]?=some (seg xs.toList lo m)[j]:=by
  rw[ar_get,<-M9 (n:=m) (by omega)];exact AN _
 have:=h i j (by omega) (by omega);rw[To e1,To e2]at this;exact this
structure Lo(U:KeyKind)(kd:SortKind)(a₀:Array Keyed)(st0:SortSt)(lo n:Nat)(st:SortSt):Prop where
 S:St U kd a₀ st
 pend:pendingOf st=pendingOf st0
 out:∀t,t<lo\/lo+n<=t->(arrOf st)[t]? =(arrOf st0)[t]?
theorem Lo.part{st0 st:SortSt}{lo n:Nat}(h:Lo U kd a₀ st0 lo n st)(h0:St U kd a₀ st0):Part U (arrOf st0).toList (arrOf st).toList lo n:=by
 refine⟨h.S.perm.trans h0.perm.symm,FB fun t=>?_,FB fun t=>?_⟩
 .by_cases ht:t<lo
  .rw[DA ht,DA ht,BL,BL];exact h.out t (.inl ht)
  .rw[FP (by rw[AR];omega),FP (by rw[AR];omega)]
 .rw[FJ,FJ,BL,BL];exact h.out _ (.inr (by omega))
theorem Lo.mirror{st0 st:SortSt}{lo n i j:Nat}(h:Lo U kd a₀ st0 lo n st)(hi:lo<=i)(hj:j<=lo+n)(hn:lo+n<=a₀.size):Lo U kd a₀ st0 lo n (setArr st (mirror (arrOf st) i j ((j-i) / 2))):=by
 refine⟨⟨(Array.perm_iff_toList_perm.mp (mirror_perm _ _ _ _)).trans h.S.perm,h.S.kind,h.S.failed⟩,h.pend,fun t ht=>?_⟩;show(PyProof.Rows.mirror (arrOf st) i j ((j-i) / 2))[t]?=_;have:=h.S.size;rw[getElem?_mirror_all (by omega),AS (by omega)];exact h.out t ht
theorem O9(C:Cmp prog w A s U kd)(h0:KeysOf U a₀){st:SortSt}(hS:St U kd a₀ st){i j:Nat}{Q:Option Bool->SortSt->Prop}(hi:i<a₀.size)(hj:j<a₀.size)
  (h:Q (some (U.blt (KK U (arrOf st) i) (KK U (arrOf st) j))) st):wpS (model prog w) A E s (ltAt' i j) Q st:=by
 have:=hS.size;obtain⟨p,hp⟩:=Y4 (a:=arrOf st) (i:=i) (by omega);obtain⟨q,hq⟩:=Y4 (a:=arrOf st) (i:=j) (by omega);rw[ltAt'_eq];refine wpS_bind (wpS_get ?_);refine wpS_bind (D9 hp (wpS_bind (D9 hq (Gk C hS.kind (hS.has h0 _ _ hp) (hS.has h0 _ _ hq) ?_))));rw[To hp,To hq]at h;exact h
theorem zBr{st:SortSt}{lo a nrem:Nat}{f:Nat->(Option (Option Nat)×Nat)->StateT SortSt Sem (ForInStep (Option (Option Nat)×Nat))}{Q:(Option (Option Nat)×Nat)->SortSt->Prop}
  (hf:∀x n,1<=n->n<nrem->wpS (model prog w) A E s (f x (none,n)) (fun r st'=>st'=st/\r=if U.blt (KK U (arrOf st) (lo+n)) (KK U (arrOf st) (lo+n-1))=true then .done (none,n)else .yield (none,n+1)) st)
  (ha:1<=a) (han:a<=nrem) (hs:SI U (arrOf st) lo a)
  (h:∀n,a<=n->n<=nrem->SI U (arrOf st) lo n->(n=nrem\/U.klt (KK U (arrOf st) (lo+n)) (KK U (arrOf st) (lo+n-1)))->Q (none,n) st):wpS (model prog w) A E s (forIn [a:nrem] (none,a) f) Q st:=by
 refine wpS_forRange (I:=fun x c st'=>st'=st/\c =(none,x)/\SI U (arrOf st) lo x) ?_ ?_ ⟨rfl,rfl,hs⟩
 .rintro x c st' hax hxn ⟨rfl,rfl,hs'⟩;refine wpS_mono (hf x x (by omega) hxn) fun r st2 ⟨e,er⟩=>?_;subst e;cases hless:U.blt (KK U (arrOf st2) (lo+x)) (KK U (arrOf st2) (lo+x-1))
  .rw[hless,AS AZ]at er;subst er;refine⟨rfl,rfl,fun i j hij hj=>?_⟩;by_cases hjx:j<x
   .exact hs' i j hij hjx
   .have hj':j=x:=by omega
    subst hj';by_cases hi':i=j
    .subst hi';exact KeyOrd.kle_refl _
    .have:=hs' i (j-1) (by omega) (by omega);rw[show lo +(j-1)=lo+j-1 by omega]at this;exact KeyOrd.kle_trans this hless
  .rw[hless,AY rfl]at er;subst er;exact h x hax (by omega) hs' (.inr hless)
 .rintro c st' ⟨rfl,rfl,hs'⟩;rw[show max a nrem=nrem by omega]at hs'⊢;exact h nrem han (Nat.le_refl _) hs' (.inl rfl)
theorem NI.step{xs ys:Array Keyed}{lo x:Nat}(hx:1<=x)(hk:∀k,KK U ys k=KK U xs k)(hs:NI U xs lo x)(hl:U.kle (KK U xs (lo+x)) (KK U xs (lo+x-1))):NI U ys lo (x+1):=by
 intro i j hij hj;rw[hk,hk];by_cases hjx:j<x
 .exact hs i j hij hjx
 .have hj':j=x:=by omega
  subst hj';by_cases hi':i=j
  .subst hi';exact KeyOrd.kle_refl _
  .have:=hs i (j-1) (by omega) (by omega);rw[show lo +(j-1)=lo+j-1 by omega]at this;exact KeyOrd.kle_trans hl this
abbrev DS:=Option (Option Nat)×Nat×Nat
theorem zCf{st0 st:SortSt}{lo n nrem:Nat}(hsz:lo+nrem<=a₀.size){f:Nat->DS->StateT SortSt Sem (ForInStep DS)}{Q:DS->SortSt->Prop}
  (hf:∀x n q st',1<=n->n<nrem->Lo U kd a₀ st0 lo nrem st'->wpS (model prog w) A E s (f x (none,n,q)) (fun r st2 =>
   if U.blt (KK U (arrOf st') (lo+n)) (KK U (arrOf st') (lo+n-1))=true then(st2=if q>0 then setArr st' (mirror (arrOf st') (lo+n-(q+1)) (lo+n) ((lo+n-(lo+n-(q+1))) / 2))else st')/\r = .yield (none,n+1,0)
   else st2=st'/\r=if U.blt (KK U (arrOf st') (lo+n-1)) (KK U (arrOf st') (lo+n))=true then .done (none,n,q)else .yield (none,n+1,q+1)) st')
  (h1:1<=n) (hnn:n<=nrem) (hB:Lo U kd a₀ st0 lo nrem st) (hs:NI U (arrOf st) lo n)
  (h:∀m q st',Lo U kd a₀ st0 lo nrem st'->n<=m->m<=nrem->NI U (arrOf st') lo m->q+1<=m->(∀i,m-(q+1)<=i->i<m->KK U (arrOf st') (lo+i)=KK U (arrOf st') (lo+m-1))->Q (none,m,q) st') :
  wpS (model prog w) A E s (forIn [n:nrem] (none,n,0) f) Q st:=by
 refine wpS_forRange (I:=fun x c st'=>∃q,c =(none,x,q)/\Lo U kd a₀ st0 lo nrem st'/\NI U (arrOf st') lo x/\q+1<=x /\
   (∀i,x-(q+1)<=i->i<x->KK U (arrOf st') (lo+i)=KK U (arrOf st') (lo+x-1))) ?_ ?_ ⟨0,rfl,hB,hs,by omega,fun i h1 h2=>by congr 1;omega⟩
 .rintro x c st' hax hxn ⟨q,rfl,hB',hs',hq,he⟩;have hs0:=hB'.S.size;refine wpS_mono (hf x x q st' (by omega) hxn hB') fun r st2 hr=>?_;cases hless:U.blt (KK U (arrOf st') (lo+x)) (KK U (arrOf st') (lo+x-1))
  .rw[hless,AS AZ]at hr;obtain⟨e,er⟩:=hr;subst e;cases hl:U.blt (KK U (arrOf st2) (lo+x-1)) (KK U (arrOf st2) (lo+x))
   .rw[hl,AS AZ]at er;subst er;have heqx:KK U (arrOf st2) (lo+x)=KK U (arrOf st2) (lo+x-1):=KeyOrd.kle_antisymm hl hless;refine⟨q+1,rfl,hB',NI.step (by omega) (fun _=>rfl) hs' hl,by omega,fun i g1 g2=>?_⟩;rw[show lo +(x+1)-1=lo+x by omega];by_cases hix:i=x
    .subst hix;rfl
    .rw[heqx];exact he i (by omega) (by omega)
   .rw[hl,AY rfl]at er;subst er;exact h x q st2 hB' hax (by omega) hs' hq he
  .rw[hless,AY rfl]at hr;obtain⟨e,er⟩:=hr;subst er;have hl:U.kle (KK U (arrOf st') (lo+x)) (KK U (arrOf st') (lo+x-1)):=KeyOrd.kle_of_klt hless;by_cases hq0:q>0
   .rw[AY hq0]at e;subst e;refine⟨0,rfl,hB'.mirror (by omega) (by omega) hsz,NI.step (by omega) (KK_mirror_equal (by omega) fun k g1 g2=>?_) hs' hl,by omega,fun i g1 g2=>by congr 1;omega⟩;have:=he (k-lo) (by omega) (by omega);rw[show lo +(k-lo)=k by omega]at this;exact this
   .rw[AS hq0]at e;subst e;exact⟨0,rfl,hB',NI.step (by omega) (fun _=>rfl) hs' hl,by omega,fun i g1 g2=>by congr 1;omega⟩
 .rintro c st' ⟨q,rfl,hB',hs',hq,he⟩;rw[show max n nrem=nrem by omega]at hs' hq he⊢;exact h nrem q st' hB' hnn (Nat.le_refl _) hs' hq he
theorem NI.turn{xs:Array Keyed}{lo n:Nat}(hn:lo+n<=xs.size)(h:NI U xs lo n):SI U (mirror xs lo (lo+n) ((lo+n-lo) / 2)) lo n:=by
 intro i j hij hj;rw[KK_mirror hn,KK_mirror hn,AY (by omega),AY (by omega)];have:=h (n-1-j) (n-1-i) (by omega) (by omega);rw[show lo +(n-1-i)=lo +(lo+n)-1-(lo+i) by omega,show lo +(n-1-j)=lo +(lo+n)-1-(lo+j) by omega]at this;exact this
theorem Fl(C:Cmp prog w A s U kd)(h0:KeysOf U a₀){st:SortSt}{lo nrem:Nat}{Q:Option Nat->SortSt->Prop}(hS:St U kd a₀ st)(hsz:lo+nrem<=a₀.size)(h1:1<=nrem)
  (h:∀m st',Lo U kd a₀ st lo nrem st'->1<=m->m<=nrem->SI U (arrOf st') lo m->Q (some m) st'):wpS (model prog w) A E s (countRun' lo nrem) Q st:=by
 have L0:Lo U kd a₀ st lo nrem st:=⟨hS,rfl,fun _ _=>rfl⟩;rw[countRun'_eq];dsimp only;refine wpS_bind (zBr (U:=U) (lo:=lo) (fun x n g1 g2=>?_) (Nat.le_refl 1) h1 (fun i j hij hj=>by have:i=j:=(by omega);subst this;exact KeyOrd.kle_refl _) fun n hn1 hn2 hsn hor=>?_)
 .dsimp only;refine wpS_bind (O9 C h0 hS (by omega) (by omega) ?_);dsimp only;cases U.blt (KK U (arrOf st) (lo+n)) (KK U (arrOf st) (lo+n-1))
  .exact wpS_pure ⟨rfl,rfl⟩
  .exact wpS_pure ⟨rfl,rfl⟩
 dsimp only;by_cases hnn:n=nrem
 .rw[AY (by simpa using hnn)];exact wpS_pure (h n st L0 hn1 hn2 hsn)
 rw[AS (by simpa using hnn)];have hlt:U.klt (KK U (arrOf st) (lo+n)) (KK U (arrOf st) (lo+n-1)):=hor.resolve_left hnn;have hz:=hS.size;by_cases hgt:n>1
 .rw[AY hgt];refine wpS_bind (O9 C h0 hS (by omega) (by omega) ?_);dsimp only;cases hrose:U.blt (KK U (arrOf st) lo) (KK U (arrOf st) (lo+n-1))with
  | true =>
   simp only[EL];exact wpS_pure (h n st L0 hn1 hn2 hsn)
  | false =>
   simp only[BF,CI];have hall:∀k,lo<=k->k<lo+n->KK U (arrOf st) k=KK U (arrOf st) (lo+n-1):=by
    intro k hk1 hk2;have a1:=hsn 0 (k-lo) (by omega) (by omega);have a2:=hsn (k-lo) (n-1) (by omega) (by omega);rw[Nat.add_zero,show lo +(k-lo)=k by omega]at a1;rw[show lo +(k-lo)=k by omega,show lo +(n-1)=lo+n-1 by omega]at a2;exact KeyOrd.kle_antisymm a2 (KeyOrd.kle_trans hrose a1)
   have hk:=KK_mirror_equal (κ:=U) (xs:=arrOf st) (i:=lo) (j:=lo+n) (by omega) hall;refine wpS_bind (wpS_reverse ?_);have hB2:=L0.mirror (i:=lo) (j:=lo+n) (by omega) (by omega) hsz;have hN:NI U (mirror (arrOf st) lo (lo+n) ((lo+n-lo) / 2)) lo (n+1):=by
    refine NI.step (by omega) hk (fun i j hij hj=>?_) (KeyOrd.kle_of_klt hlt);rw[hall (lo+i) (by omega) (by omega),hall (lo+j) (by omega) (by omega)];exact KeyOrd.kle_refl _
   refine wpS_bind (wpS_lift (DH ⟨rfl,?_⟩));refine wpS_bind (zCf (U:=U) (kd:=kd) (a₀:=a₀) (st0:=st) (lo:=lo) hsz (fun x n' q st' g1 g2 hB'=>?_) (by omega) (by omega) hB2 hN fun m q st' hB3 hm1 hm2 hs3 hq he=>?_)
   .dsimp only;refine wpS_bind (O9 C h0 hB'.S (by omega) (by omega) ?_);dsimp only;cases U.blt (KK U (arrOf st') (lo+n')) (KK U (arrOf st') (lo+n' - 1))
    .simp only[BF,CI];refine wpS_bind (O9 C h0 hB'.S (by omega) (by omega) ?_);dsimp only;cases U.blt (KK U (arrOf st') (lo+n' - 1)) (KK U (arrOf st') (lo+n'))
     .exact wpS_pure ⟨rfl,rfl⟩
     .exact wpS_pure ⟨rfl,rfl⟩
    .simp only[EL];by_cases hq:q>0
     .rw[AY hq,AY hq];exact wpS_bind (wpS_reverse (wpS_pure ⟨rfl,rfl⟩))
     .rw[AS hq,AS hq];exact wpS_pure ⟨rfl,rfl⟩
   .dsimp only;have hz3:=hB3.S.size;by_cases hq0:q>0
    .rw[AY hq0];refine wpS_bind (wpS_reverse (wpS_bind (wpS_reverse ?_)));have hB4':=hB3.mirror (i:=lo+m-(q+1)) (j:=lo+m) (by omega) (by omega) hsz;have hB4:=hB4'.mirror (i:=lo) (j:=lo+m) (by omega) (by omega) hsz;have hz4:=hB4'.S.size;have hN4:NI U (mirror (arrOf st') (lo+m-(q+1)) (lo+m) ((lo+m-(lo+m-(q+1))) / 2)) lo m:=by
      have hk:=KK_mirror_equal (κ:=U) (xs:=arrOf st') (i:=lo+m-(q+1)) (j:=lo+m) (by omega) (fun k g1 g2=>by
       have:=he (k-lo) (by omega) (by omega);rw[show lo +(k-lo)=k by omega]at this;exact this)
      intro i j hij hj;rw[hk,hk];exact hs3 i j hij hj
     have hT:=hN4.turn (U:=U) (lo:=lo) (n:=m) (by rw[mirror_size];omega);refine wpS_bind (zBr (U:=U) (lo:=lo) (fun x n' g1 g2=>?_) (by omega) hm2 hT fun m' hm1' hm2' hsm _=>wpS_pure (h m' _ hB4 (by omega) hm2' hsm));dsimp only;refine wpS_bind (O9 C h0 hB4.S (by omega) (by omega) ?_);dsimp only;cases U.blt (KK U _ (lo+n')) (KK U _ (lo+n' - 1))
     .exact wpS_pure ⟨rfl,rfl⟩
     .exact wpS_pure ⟨rfl,rfl⟩
    .rw[AS hq0];refine wpS_bind (wpS_reverse ?_);have hB4:=hB3.mirror (i:=lo) (j:=lo+m) (by omega) (by omega) hsz;have hT:=hs3.turn (U:=U) (lo:=lo) (n:=m) (by omega);refine wpS_bind (zBr (U:=U) (lo:=lo) (fun x n' g1 g2=>?_) (by omega) hm2 hT fun m' hm1' hm2' hsm _=>wpS_pure (h m' _ hB4 (by omega) hm2' hsm));dsimp only;refine wpS_bind (O9 C h0 hB4.S (by omega) (by omega) ?_);dsimp only;cases U.blt (KK U _ (lo+n')) (KK U _ (lo+n' - 1))
     .exact wpS_pure ⟨rfl,rfl⟩
     .exact wpS_pure ⟨rfl,rfl⟩
 .rw[AS hgt];have hn1':n=1:=by omega
  have hB2:=L0;have hN:NI U (arrOf st) lo (n+1):=by
   refine NI.step (by omega) (fun _=>rfl) (fun i j hij hj=>?_) (KeyOrd.kle_of_klt hlt);have:i=j:=by omega
   subst this;exact KeyOrd.kle_refl _
  refine wpS_bind (wpS_lift (DH ⟨rfl,?_⟩));refine wpS_bind (zCf (U:=U) (kd:=kd) (a₀:=a₀) (st0:=st) (lo:=lo) hsz (fun x n' q st' g1 g2 hB'=>?_) (by omega) (by omega) hB2 hN fun m q st' hB3 hm1 hm2 hs3 hq he=>?_)
  .dsimp only;refine wpS_bind (O9 C h0 hB'.S (by omega) (by omega) ?_);dsimp only;cases U.blt (KK U (arrOf st') (lo+n')) (KK U (arrOf st') (lo+n' - 1))
   .simp only[BF,CI];refine wpS_bind (O9 C h0 hB'.S (by omega) (by omega) ?_);dsimp only;cases U.blt (KK U (arrOf st') (lo+n' - 1)) (KK U (arrOf st') (lo+n'))
    .exact wpS_pure ⟨rfl,rfl⟩
    .exact wpS_pure ⟨rfl,rfl⟩
   .simp only[EL];by_cases hq:q>0
    .rw[AY hq,AY hq];exact wpS_bind (wpS_reverse (wpS_pure ⟨rfl,rfl⟩))
    .rw[AS hq,AS hq];exact wpS_pure ⟨rfl,rfl⟩
  .dsimp only;have hz3:=hB3.S.size;by_cases hq0:q>0
   .rw[AY hq0];refine wpS_bind (wpS_reverse (wpS_bind (wpS_reverse ?_)));have hB4':=hB3.mirror (i:=lo+m-(q+1)) (j:=lo+m) (by omega) (by omega) hsz;have hB4:=hB4'.mirror (i:=lo) (j:=lo+m) (by omega) (by omega) hsz;have hz4:=hB4'.S.size;have hN4:NI U (mirror (arrOf st') (lo+m-(q+1)) (lo+m) ((lo+m-(lo+m-(q+1))) / 2)) lo m:=by
     have hk:=KK_mirror_equal (κ:=U) (xs:=arrOf st') (i:=lo+m-(q+1)) (j:=lo+m) (by omega) (fun k g1 g2=>by
      have:=he (k-lo) (by omega) (by omega);rw[show lo +(k-lo)=k by omega]at this;exact this)
     intro i j hij hj;rw[hk,hk];exact hs3 i j hij hj
    have hT:=hN4.turn (U:=U) (lo:=lo) (n:=m) (by rw[mirror_size];omega);refine wpS_bind (zBr (U:=U) (lo:=lo) (fun x n' g1 g2=>?_) (by omega) hm2 hT fun m' hm1' hm2' hsm _=>wpS_pure (h m' _ hB4 (by omega) hm2' hsm));dsimp only;refine wpS_bind (O9 C h0 hB4.S (by omega) (by omega) ?_);dsimp only;cases U.blt (KK U _ (lo+n')) (KK U _ (lo+n' - 1))
    .exact wpS_pure ⟨rfl,rfl⟩
    .exact wpS_pure ⟨rfl,rfl⟩
   .rw[AS hq0];refine wpS_bind (wpS_reverse ?_);have hB4:=hB3.mirror (i:=lo) (j:=lo+m) (by omega) (by omega) hsz;have hT:=hs3.turn (U:=U) (lo:=lo) (n:=m) (by omega);refine wpS_bind (zBr (U:=U) (lo:=lo) (fun x n' g1 g2=>?_) (by omega) hm2 hT fun m' hm1' hm2' hsm _=>wpS_pure (h m' _ hB4 (by omega) hm2' hsm));dsimp only;refine wpS_bind (O9 C h0 hB4.S (by omega) (by omega) ?_);dsimp only;cases U.blt (KK U _ (lo+n')) (KK U _ (lo+n' - 1))
    .exact wpS_pure ⟨rfl,rfl⟩
    .exact wpS_pure ⟨rfl,rfl⟩
theorem Lo.bubble{st0 st:SortSt}{lo n src d:Nat}(h:Lo U kd a₀ st0 lo n st)(h1:lo+d<=src)(h2:src<lo+n)(hn:lo+n<=a₀.size):Lo U kd a₀ st0 lo n (setArr st (bubble (arrOf st) src d)):=by
 refine⟨⟨(Array.perm_iff_toList_perm.mp (bubble_perm _ _ _)).trans h.S.perm,h.S.kind,h.S.failed⟩,h.pend,fun t ht=>?_⟩;show(PyProof.Rows.bubble (arrOf st) src d)[t]?=_;have:=h.S.size;rw[getElem?_bubble (by omega) d (by omega),AS (by omega),AS (by omega)];exact h.out t ht
theorem By(C:Cmp prog w A s U kd)(h0:KeysOf U a₀){st0 st:SortSt}{lo nrem n ok:Nat}{Q:Bool->SortSt->Prop}(hB:Lo U kd a₀ st0 lo nrem st)(hsz:lo+nrem<=a₀.size)(hn:n<=nrem)(hok:ok<=n)(hs:SI U (arrOf st) lo ok)
  (h:∀st',Lo U kd a₀ st0 lo nrem st'->SI U (arrOf st') lo n->Q true st'):wpS (model prog w) A E s (binarySort' lo n ok) Q st:=by
 rw[binarySort'_eq];refine wpS_bind (wpS_mono (wpS_forRange (I:=fun k c st'=>c =(none,())/\Lo U kd a₀ st0 lo nrem st'/\SI U (arrOf st') lo (min k n))
  (Q:=fun c st'=>c =(none,())/\Lo U kd a₀ st0 lo nrem st'/\SI U (arrOf st') lo n) ?step ?fin ?init) ?post)
 case post =>
  rintro c st' ⟨rfl,hB',hs'⟩;exact wpS_pure (h st' hB' hs')
 case init =>
  refine⟨rfl,hB,fun i j hij hj=>?_⟩;by_cases h1:ok=0
  .have:i=j:=by omega
   subst this;exact KeyOrd.kle_refl _
  .exact hs i j hij (by omega)
 case fin =>
  rintro c st' ⟨hc,hB',hs'⟩;refine⟨hc,hB',?_⟩
  rwa [show min (max (max ok 1) n) n=n by omega]at hs'
 case step =>
  rintro k c st' hak hkn ⟨rfl,hB',hs'⟩;rw[show min k n=k by omega]at hs';dsimp only;refine wpS_bind (wpS_mono (wpS_forRange (I:=fun x c st''=>st''=st'/\∃l r,c =(none,l,r)/\l<=r/\r<=k/\r-l<=k-x /\
    (∀i,i<l->U.kle (KK U (arrOf st') (lo+i)) (KK U (arrOf st') (lo+k)))/\(∀i,r<=i->i<k->U.klt (KK U (arrOf st') (lo+k)) (KK U (arrOf st') (lo+i))))
   (Q:=fun c st''=>st''=st'/\∃l r,c =(none,l,r)/\l<=k /\
    (∀i,i<l->U.kle (KK U (arrOf st') (lo+i)) (KK U (arrOf st') (lo+k)))/\(∀i,l<=i->i<k->U.klt (KK U (arrOf st') (lo+k)) (KK U (arrOf st') (lo+i)))) ?istep ?ifin ?iinit) ?ipost)
  case iinit=>exact⟨rfl,0,k,rfl,by omega,by omega,by omega,fun i hi=>by omega,fun i h1 h2=>by omega⟩
  case ifin =>
   rintro c st'' ⟨rfl,l,r,rfl,hlr,hrk,hm,hlo,hhi⟩;have:l=r:=by omega
   subst this;exact⟨rfl,l,l,rfl,hrk,hlo,hhi⟩
  case istep =>
   rintro x c st'' _ hxk ⟨rfl,l,r,rfl,hlr,hrk,hm,hlo,hhi⟩;dsimp only;by_cases hge:l ≥ r
   .rw[AY hge];have:l=r:=by omega
    subst this;exact wpS_pure ⟨rfl,l,l,rfl,hrk,hlo,hhi⟩
   .rw[AS hge];refine wpS_bind (O9 C h0 hB'.S (by omega) (by omega) ?_);dsimp only;cases hless:U.blt (KK U (arrOf st'') (lo+k)) (KK U (arrOf st'') (lo +(l+r) / 2))
    case true =>
     simp only[EL];refine wpS_pure ⟨rfl,l,(l+r) / 2,rfl,by omega,by omega,by omega,hlo,fun i h1 h2=>?_⟩;exact KeyOrd.klt_of_klt_of_kle hless (hs' _ _ h1 h2)
    case false =>
     simp only[BF,CI];refine wpS_pure ⟨rfl,(l+r) / 2+1,r,rfl,by omega,by omega,by omega,fun i h1=>?_,hhi⟩;exact KeyOrd.kle_trans (hs' i ((l+r) / 2) (by omega) (by omega)) (show U.kle _ _ from hless)
  case ipost =>
   rintro c st'' ⟨rfl,l,r,rfl,hlk,hlo,hhi⟩;have hz:=hB'.S.size;show wpS _ _ _ _ (do moveDown' (lo+k) (lo+l);pure (ForInStep.yield (none,()))) _ _;rw[moveDown'_eq];refine wpS_bind (wpS_modify (wpS_pure ⟨rfl,hB'.bubble (by omega) (by omega) hsz,?_⟩));rw[show min (k+1) n=k+1 by omega];intro i j hij hj;show U.kle (KK U (bubble (arrOf st'') (lo+k) (lo+k-(lo+l))) (lo+i)) (KK U (bubble (arrOf st'') (lo+k) (lo+k-(lo+l))) (lo+j));rw[KK_bubble (by omega) (by omega),KK_bubble (by omega) (by omega),show lo+k-(lo+k-(lo+l))=lo+l by omega];have shift:∀z,1<=z->lo+z-1=lo +(z-1):=fun z _=>by omega
   repeat' split
   all_goals first
    | (exfalso;omega)
    | exact KeyOrd.kle_refl _
    | exact hlo _ (by omega)
    | exact KeyOrd.kle_of_klt (hhi _ (by omega) (by omega))
    | exact hs' _ _ (by omega) (by omega)
    | (rw[shift j (by omega)];exact KeyOrd.kle_of_klt (hhi _ (by omega) (by omega)))
    | (rw[shift i (by omega)];exact hlo _ (by omega))
    | (rw[shift j (by omega)];exact hs' _ _ (by omega) (by omega))
    | (rw[shift i (by omega),shift j (by omega)];exact hs' _ _ (by omega) (by omega))
    | (rw[shift i (by omega)];exact hs' _ _ (by omega) (by omega))
end
abbrev Run:=Nat×Nat×Nat
def Cov:List Run->Nat->Nat->Prop
 | [],a,b=>a=b
 | x::r,a,b=>x.1=a/\1<=x.2.1/\Cov r (a+x.2.1) b
theorem Cov.app:∀{l1 l2:List Run} {a b:Nat},Cov (l1++l2) a b↔∃c,Cov l1 a c/\Cov l2 c b
 | [],l2,a,b=>⟨fun h=>⟨a,rfl,h⟩,fun⟨c,h1,h2⟩=>by have:a=c:=h1;subst this;exact h2⟩
 | x::r,l2,a,b=>by
  constructor
  .rintro⟨h1,h2,h3⟩;obtain⟨c,h4,h5⟩:=Cov.app.mp h3;exact⟨c,⟨h1,h2,h4⟩,h5⟩
  .rintro⟨c,⟨h1,h2,h4⟩,h5⟩;exact⟨h1,h2,Cov.app.mpr ⟨c,h4,h5⟩⟩
theorem Cov.le:∀{l:List Run} {a b:Nat},Cov l a b->a+l.length<=b
 | [],a,b,h=>by have:a=b:=h;subst this;simp
 | x::r,a,b,⟨h1,h2,h3⟩=>by have:=Cov.le h3;rw[BK];omega
theorem Cov.mem:∀{l:List Run} {a b:Nat} {x:Run},Cov l a b->x∈l->a<=x.1/\x.1+x.2.1<=b
 | [],_,_,_,_,hx=>absurd hx (by simp)
 | y::r,a,b,x,⟨h1,h2,h3⟩,hx=>by
  have hl:=Cov.le h3;rcases AX.mp hx with e | hx
  .subst e;omega
  .have:=Cov.mem h3 hx;omega
theorem zEf{l:List Run}{i:Nat}{x y:Run}(hx:l[i]?=some x)(hy:l[i+1]?=some y):l=l.take i++x::y::l.drop (i+2):=by
 obtain⟨h1,rfl⟩:=AU.mp hx;obtain⟨h2,rfl⟩:=AU.mp hy
 conv=>lhs;rw[<-BS i l]
 rw[D_ h1,D_ h2]
theorem zCr{l:List Run}{i:Nat}{x y:Run}(z:Run)(hx:l[i]?=some x)(hy:l[i+1]?=some y):(l.set i z).eraseIdx (i+1)=l.take i++z::l.drop (i+2):=by
 obtain⟨h1,_⟩:=AU.mp hx;obtain⟨h2,_⟩:=AU.mp hy;have e:=zEf hx hy;have hl:(l.take i).length=i:=by rw[AR];omega
 generalize l.take i=p at *;generalize l.drop (i+2)=q at *;subst e;rw[List.set_append_right _ _ (by omega),hl,Nat.sub_self,List.eraseIdx_append_of_length_le (by omega),hl,show i+1-i=1 by omega];rfl
section
variable{prog:Program}{w:World}{A:Around}{E:Value->Shared->Prop}{s:Shared}{U:KeyKind}{kd:SortKind}{a₀:Array Keyed}
structure RI(U:KeyKind)(kd:SortKind)(a₀:Array Keyed)(lo:Nat)(st:SortSt):Prop where
 S:St U kd a₀ st
 cov:Cov (pendingOf st).toList 0 lo
 sor:∀x∈(pendingOf st).toList,Sor U (seg (arrOf st).toList x.1 x.2.1)
theorem Jf(C:Cmp prog w A s U kd)(h0:KeysOf U a₀){st:SortSt}{lo i:Nat}{Q:Bool->SortSt->Prop}(R:RI U kd a₀ lo st)(hlo:lo<=a₀.size)(hi:i+1 <(pendingOf st).size)
  (h:∀st',RI U kd a₀ lo st'->(pendingOf st').size+1 =(pendingOf st).size->Part U (arrOf st).toList (arrOf st').toList 0 lo->Q true st'):wpS (model prog w) A E s (mergeAt' i) Q st:=by
 obtain⟨⟨sa,na,pw⟩,hx⟩:∃x,(pendingOf st)[i]?=some x:=⟨_,getElem?_pos _ i (by omega)⟩;obtain⟨⟨sb,nb,pw2⟩,hy⟩:∃x,(pendingOf st)[i+1]?=some x:=⟨_,getElem?_pos _ (i+1) hi⟩;have hx':(pendingOf st).toList[i]?=some (sa,na,pw):=by rw[BL];exact hx
 have hy':(pendingOf st).toList[i+1]?=some (sb,nb,pw2):=by rw[BL];exact hy
 have e:=zEf hx' hy';have c:=R.cov;rw[e]at c;obtain⟨c0,c1,c2⟩:=Cov.app.mp c;obtain⟨d1,d2,d3,d4,d5⟩:=c2;dsimp only at d1 d2 d3 d4 d5;have hl5:=Cov.le d5;refine Hw C h0 R.S hx hy (by omega) (by omega) d2 d4 (R.sor _ (AK hx')) (R.sor _ (AK hy')) fun st' S' P' s' p'=>?_;have ep:(pendingOf st').toList =(pendingOf st).toList.take i ++(sa,na+nb,pw) ::(pendingOf st).toList.drop (i+2):=by
  rw[p',<-zCr (sa,na+nb,pw) hx' hy'];simp
 refine h st' ⟨S',?_,fun x hxm=>?_⟩ ?_ ?_
 .rw[ep];exact Cov.app.mpr ⟨c0,c1,d1,(by show 1<=na+nb;omega),(by show Cov _ (c0 +(na+nb)) lo;rw[<-Nat.add_assoc];exact d5)⟩
 .rw[ep]at hxm;have old:∀y∈(pendingOf st).toList,(y.1+y.2.1<=sa\/sa +(na+nb)<=y.1)->Sor U (seg (arrOf st').toList y.1 y.2.1):=fun y hy ho=>by
   have:=R.sor y hy;rcases ho with ho | ho
   .rw[P'.seg_front ho];exact this
   .rw[P'.seg_back ho];exact this
  rcases AI.mp hxm with hm | hm
  .have:=Cov.mem c1 hm;exact old x (BO hm) (.inl (by omega))
  .rcases AX.mp hm with hm | hm
   .subst hm;exact s'
   .have:=Cov.mem d5 hm;exact old x (DQ hm) (.inr (by omega))
 .have:=congrArg List.length ep;rw[AQ,BB,BK,AR,CC,AQ]at this;omega
 .have hb:∀z:List Keyed,z.drop (0+lo) =(z.drop (sa +(na+nb))).drop (lo-(sa +(na+nb))):=fun z=>by
   rw[EU];congr 1;omega
  exact⟨P'.perm,rfl,by rw[hb,hb,P'.back]⟩
theorem At{l:Array Run}{pw:Nat}:(l.modify (l.size-1) fun x=>(x.1,x.2.1,pw)).toList.map (fun x:Run=>(x.1,x.2.1))=l.toList.map fun x:Run=>(x.1,x.2.1):=by
 refine FB fun t=>?_;rw[AF,AF,BL,BL,Array.getElem?_modify];split
 .cases l[t]?<;>rfl
 .rfl
theorem Cov.congr:∀{l l':List Run} {a b:Nat},l'.map (fun x:Run=>(x.1,x.2.1))=l.map (fun x:Run=>(x.1,x.2.1))->Cov l a b->Cov l' a b
 | [],[],_,_,_,h=>h
 | [],_::_,_,_,e,_=>by simp at e
 | _::_,[],_,_,e,_=>by simp at e
 | x::r,y::r',a,b,e,⟨h1,h2,h3⟩=>by
  rw[BM,BM]at e;obtain⟨e1,e2⟩:=List.cons.inj e;obtain⟨e3,e4⟩:=Prod.mk.inj e1;exact⟨e3.trans h1,by rw[e4];exact h2,by rw[e4];exact Cov.congr e2 h3⟩
theorem RI.congr{lo:Nat}{st:SortSt}(R:RI U kd a₀ lo st){p:Array Run}(e:p.toList.map (fun x:Run=>(x.1,x.2.1)) =(pendingOf st).toList.map fun x:Run=>(x.1,x.2.1)):RI U kd a₀ lo (setPending st p):=by
 refine⟨⟨R.S.perm,R.S.kind,R.S.failed⟩,Cov.congr e R.cov,fun x hx=>?_⟩;have:(x.1,x.2.1)∈(pendingOf st).toList.map fun x:Run=>(x.1,x.2.1):=by
  rw[<-e];exact AH.mpr ⟨x,hx,rfl⟩
 obtain⟨y,hy,ey⟩:=AH.mp this;obtain⟨e1,e2⟩:=Prod.mk.inj ey;have:=R.sor y hy;rw[e1,e2]at this;exact this
theorem Fc(C:Cmp prog w A s U kd)(h0:KeysOf U a₀){st:SortSt}{Q:Unit->SortSt->Prop}(hS:St U kd a₀ st)(hp:pendingOf st = #[])
  (h:∀st',St U kd a₀ st'->Sor U (arrOf st').toList->Q () st'):wpS (model prog w) A E s sortRuns' Q st:=by
 rw[sortRuns'_eq];refine wpS_bind (wpS_get ?_);dsimp only;have hz:=hS.size;rw[hz];generalize minRun' a₀.size a₀.size 0=mr;refine wpS_bind (wpS_mono (wpS_forRange (I:=fun x c st'=>∃lo,c =(none,lo)/\RI U kd a₀ lo st'/\lo<=a₀.size/\min x a₀.size<=lo)
  (Q:=fun c st'=>∃lo,c =(none,lo)/\RI U kd a₀ lo st'/\lo=a₀.size) ?st ?en ⟨0,rfl,⟨hS,by rw[hp];rfl,fun x hx=>by rw[hp]at hx;exact absurd hx (by simp)⟩,BT _,by omega⟩) ?po)
 case en =>
  rintro c st' ⟨lo,rfl,R,h1,h2⟩;exact⟨lo,rfl,R,by omega⟩
 case po =>
  rintro c st' ⟨lo,rfl,R,rfl⟩;dsimp only;refine wpS_bind (wpS_mono (wpS_forRange (I:=fun x c st'=>c =(none,())/\RI U kd a₀ a₀.size st'/\(pendingOf st').size+x<=a₀.size+1)
   (Q:=fun c st'=>c =(none,())/\RI U kd a₀ a₀.size st'/\(pendingOf st').size<=1) ?st3 ?en3 ⟨rfl,R,?in3⟩) ?po3)
  case in3 =>
   have:=Cov.le R.cov;rw[AQ]at this;omega
  case en3 =>
   rintro c st2 ⟨rfl,R2,g⟩;exact⟨rfl,R2,by omega⟩
  case po3 =>
   rintro c st2 ⟨rfl,R2,g⟩;refine wpS_pure (h st2 R2.S ?_);have c:=R2.cov;have so:=R2.sor;have hz2:=R2.S.size;have hl:(pendingOf st2).toList.length<=1:=by rw[AQ];exact g
   generalize (pendingOf st2).toList=l at c so hl
   match l,c,so,hl with
   | [],c,_,_ =>
    have c':0=a₀.size:=c;have:(arrOf st2).toList = []:=List.eq_nil_of_length_eq_zero (by rw[AQ];omega);rw[this];exact List.Pairwise.nil
   | [x],⟨c1,c2,c3⟩,so,_ =>
    have c3':0+x.2.1=a₀.size:=c3;have:=so x (AC.mpr rfl);unfold seg at this;rw[c1,DV,CN (by rw[AQ];omega)]at this;exact this
   | _::_::_,_,_,hl=>exact absurd hl (by simp)
  case st3 =>
   rintro x c st2 _ hx ⟨rfl,R2,g⟩
   try dsimp only
   refine wpS_bind (wpS_get ?_);by_cases hle:(pendingOf st2).size<=1
   .rw[AY hle];exact wpS_pure ⟨rfl,R2,hle⟩
   rw[AS hle];refine wpS_bind (Jf C h0 R2 (Nat.le_refl _) ?_ fun st3 R3 e3 _=>?_)
   .have hi2:∀{c:Prop} [Decidable c] {n:Nat},(if c then n-1 else n)+1<=n+1:=by intro c _ n;split<;>omega
    exact Nat.lt_of_le_of_lt hi2 (by omega)
   .simp only[EF,BF,CI];exact wpS_pure ⟨rfl,R3,by omega⟩
 case st =>
  rintro x c st' _ hx ⟨lo,rfl,R,h1,h2⟩;dsimp only;by_cases hge:lo ≥ a₀.size
  .rw[AY hge];exact wpS_pure ⟨lo,rfl,R,by omega⟩
  rw[AS hge];refine wpS_bind (Fl C h0 R.S (by omega) (by omega) fun m st2 L2 hm1 hm2 hs2=>?_);dsimp only;by_cases hmr:m<mr
  .rw[AY hmr];refine wpS_bind (wpS_lift (DH ⟨rfl,?_⟩));refine wpS_bind (By C h0 L2 (by omega) (show min (a₀.size-lo) mr<=a₀.size-lo by omega) (by omega) hs2 fun st5 L5 s5=>?_);simp only[EF,BF,CI];have hN:1<=min (a₀.size-lo) mr/\min (a₀.size-lo) mr<=a₀.size-lo:=by omega
   generalize min (a₀.size-lo) mr=N at hN s5⊢;have R5:RI U kd a₀ lo st5:=by
    refine⟨L5.S,by rw[L5.pend];exact R.cov,fun y hy=>?_⟩;rw[L5.pend]at hy;have hc:=Cov.mem R.cov hy;rw[(L5.part R.S).seg_front (by omega)];exact R.sor y hy
   refine wpS_bind (wpS_get ?_);have push:∀(st6:SortSt),RI U kd a₀ lo st6->Sor U (seg (arrOf st6).toList lo N)->RI U kd a₀ (lo+N) (setPending st6 ((pendingOf st6).push (lo,N,0))):=fun st6 R6 s6=>by
    refine⟨⟨R6.S.perm,R6.S.kind,R6.S.failed⟩,?_,fun y hy=>?_⟩
    .show Cov ((pendingOf st6).push (lo,N,0)).toList 0 (lo+N);rw[CY];exact Cov.app.mpr ⟨lo,R6.cov,rfl,(by show 1<=N;omega),rfl⟩
    .have hy':y∈((pendingOf st6).push (lo,N,0)).toList:=hy;rw[CY]at hy';rcases AI.mp hy' with hy' | hy'
     .exact R6.sor y hy'
     .rw[AC.mp hy'];exact s6
   cases hbk:(pendingOf st5).back? with
   | none =>
    dsimp only;refine wpS_bind (wpS_modify (wpS_pure ⟨_,rfl,push _ R5 s5.sor,by omega,by omega⟩))
   | some bk =>
    obtain⟨s1,n1,pb⟩:=bk;dsimp only;generalize power' a₀.size (2*s1+n1) (2*s1+n1+n1+N) a₀.size=pw;refine wpS_bind (wpS_mono (wpS_forRange (I:=fun x c st6=>c =(none,())/\RI U kd a₀ lo st6/\Part U (arrOf st5).toList (arrOf st6).toList 0 lo)
     (Q:=fun c st6=>c =(none,())/\RI U kd a₀ lo st6/\Part U (arrOf st5).toList (arrOf st6).toList 0 lo) ?stc1 (fun _ _ z=>z) ⟨rfl,R5,Part.refl _ _ _⟩) ?poc1)
    case stc1 =>
     rintro x' c st6 _ _ ⟨rfl,R6,P6⟩
     try dsimp only
     refine wpS_bind (wpS_get ?_);by_cases hp1:(pendingOf st6).size>1
     .rw[AY hp1];obtain⟨⟨u1,u2,ol⟩,hu⟩:∃y,(pendingOf st6)[(pendingOf st6).size-2]?=some y:=⟨_,getElem?_pos _ _ (by omega)⟩;rw[hu];dsimp only;by_cases hol:ol<=pw
      .rw[AY hol];exact wpS_pure ⟨rfl,R6,P6⟩
      rw[AS hol];refine wpS_bind (Jf C h0 R6 h1 (by omega) fun st7 R7 _ P7=>?_);simp only[EF,BF,CI];exact wpS_pure ⟨rfl,R7,⟨P7.perm.trans P6.perm,rfl,P7.back.trans P6.back⟩⟩
     .rw[AS hp1];exact wpS_pure ⟨rfl,R6,P6⟩
    case poc1 =>
     rintro c st6 ⟨rfl,R6,P6⟩;dsimp only;refine wpS_bind (wpS_modify (wpS_bind (wpS_modify (wpS_pure ⟨_,rfl,push _ (R6.congr At) ?_,by omega,by omega⟩))));show Sor U (seg (arrOf st6).toList lo N);rw[P6.seg_back (by omega)];exact s5.sor
  .rw[AS hmr];have R5:RI U kd a₀ lo st2:=by
    refine⟨L2.S,by rw[L2.pend];exact R.cov,fun y hy=>?_⟩;rw[L2.pend]at hy;have hc:=Cov.mem R.cov hy;rw[(L2.part R.S).seg_front (by omega)];exact R.sor y hy
   refine wpS_bind (wpS_get ?_);have push:∀(st6:SortSt),RI U kd a₀ lo st6->Sor U (seg (arrOf st6).toList lo m)->RI U kd a₀ (lo+m) (setPending st6 ((pendingOf st6).push (lo,m,0))):=fun st6 R6 s6=>by
    refine⟨⟨R6.S.perm,R6.S.kind,R6.S.failed⟩,?_,fun y hy=>?_⟩
    .show Cov ((pendingOf st6).push (lo,m,0)).toList 0 (lo+m);rw[CY];exact Cov.app.mpr ⟨lo,R6.cov,rfl,(by show 1<=m;omega),rfl⟩
    .have hy':y∈((pendingOf st6).push (lo,m,0)).toList:=hy;rw[CY]at hy';rcases AI.mp hy' with hy' | hy'
     .exact R6.sor y hy'
     .rw[AC.mp hy'];exact s6
   cases hbk:(pendingOf st2).back? with
   | none =>
    dsimp only;refine wpS_bind (wpS_modify (wpS_pure ⟨_,rfl,push _ R5 hs2.sor,by omega,by omega⟩))
   | some bk =>
    obtain⟨s1,n1,pb⟩:=bk;dsimp only;generalize power' a₀.size (2*s1+n1) (2*s1+n1+n1+m) a₀.size=pw;refine wpS_bind (wpS_mono (wpS_forRange (I:=fun x c st6=>c =(none,())/\RI U kd a₀ lo st6/\Part U (arrOf st2).toList (arrOf st6).toList 0 lo)
     (Q:=fun c st6=>c =(none,())/\RI U kd a₀ lo st6/\Part U (arrOf st2).toList (arrOf st6).toList 0 lo) ?stc2 (fun _ _ z=>z) ⟨rfl,R5,Part.refl _ _ _⟩) ?poc2)
    case stc2 =>
     rintro x' c st6 _ _ ⟨rfl,R6,P6⟩
     try dsimp only
     refine wpS_bind (wpS_get ?_);by_cases hp1:(pendingOf st6).size>1
     .rw[AY hp1];obtain⟨⟨u1,u2,ol⟩,hu⟩:∃y,(pendingOf st6)[(pendingOf st6).size-2]?=some y:=⟨_,getElem?_pos _ _ (by omega)⟩;rw[hu];dsimp only;by_cases hol:ol<=pw
      .rw[AY hol];exact wpS_pure ⟨rfl,R6,P6⟩
      rw[AS hol];refine wpS_bind (Jf C h0 R6 h1 (by omega) fun st7 R7 _ P7=>?_);simp only[EF,BF,CI];exact wpS_pure ⟨rfl,R7,⟨P7.perm.trans P6.perm,rfl,P7.back.trans P6.back⟩⟩
     .rw[AS hp1];exact wpS_pure ⟨rfl,R6,P6⟩
    case poc2 =>
     rintro c st6 ⟨rfl,R6,P6⟩;dsimp only;refine wpS_bind (wpS_modify (wpS_bind (wpS_modify (wpS_pure ⟨_,rfl,push _ (R6.congr At) ?_,by omega,by omega⟩))));show Sor U (seg (arrOf st6).toList lo m);rw[P6.seg_back (by omega)];exact hs2.sor
end
def kd1(U:KeyKind)(v:Value):U.α:=(U.keyOf v).getD U.dflt
section
variable{prog:Program}{w:World}{A:Around}{E:Value->Shared->Prop}{s:Shared}{U:KeyKind}{kd:SortKind}
def Ext(a:Addr)(s s':Shared):Prop:=∀b o,b≠a->s.heap.get? b=some o->s'.heap.get? b=some o
structure Keys(prog:Program)(w:World)(a:Addr)(s:Shared)(U:KeyKind)(kd:SortKind)(vs:List Value):Prop where
 cmp:∀(A:Around) (s':Shared),Ext a s s'->Cmp prog w A s' U kd
 key:∀v∈vs,∃k,U.keyOf v=some k
 kind:2<=vs.length->∀(A:Around) (E:Value->Shared->Prop) (s':Shared) (Q:SortKind->Shared->Prop),Ext a s s'->Q kd s'->wpAny (model prog w) A (keyKind' vs.toArray) Q E s'
def Out(U:KeyKind)(vs:List Value)(out:Array Value):Prop:=out.toList.Perm vs/\out.toList.Pairwise fun u v=>U.kle (kd1 U u) (kd1 U v)
theorem Wg{vs:List Value}{xs:Array Keyed}(hp:xs.toList.Perm (pairsOf vs).toList)(hs:Sor U xs.toList):Out U vs (xs.map (·.2)):=by
 rw[pairsOf_toList]at hp;have hm:∀p∈xs.toList,p.1=p.2:=fun p h=>(mem_zip_self (hp.mem_iff.mp h)).1;have e:(xs.map (·.2)).toList=xs.toList.map (·.1):=by
  rw[Array.toList_map];exact List.map_congr_left fun p h=>(hm p h).symm
 refine⟨?_,?_⟩
 .rw[e];have:=hp.map Prod.fst
  rwa [List.map_fst_zip (Nat.le_refl _)]at this
 .rw[e,CZ];exact hs
theorem Fe{a:Addr}{vs:List Value}{n:Nat}{P:Fin->Shared->Prop}(ho:s.heap.get? a=some (seqObj "list" vs.toArray n))(hz:vs.length<=sizeLine)(K:Keys prog w a s U kd vs)
  (h:∀out:Array Value,Out U vs out->P (.done (.ret .none)) { s with heap:=sortedHeap s.heap a vs out }) :
  wpAny (model prog w) A (Builtin.«list.sort» ⟨[.ref a],[]⟩) P E s:=by
 rw[list_sort_plain];have ha:a<s.heap.objs.size:=AJ ho;have hsz:vs.toArray.size=vs.length:=by simp
 refine AB (listItems_at ho rfl ?_);refine AB (listUpdate_at ho rfl ?_ (by rw[hsz];exact hz) (by simp));obtain⟨e1,ho1⟩:∃e1,(s.heap.update a (Obj.mapSeq fun _=>#[])).get? a=some (seqObj "list" #[] e1):=⟨_,get?_update_seq ho (fun _=>#[])⟩;refine AB (seqEpoch_at ho1 rfl ?_);refine AB (GN ?_ (by simpa using hz));refine AB (HA ?_);refine BU ?_;have ho6:(((s.heap.update a (Obj.mapSeq fun _=>#[])).push (seqObj "tuple" vs.toArray 0)).push (seqObj "list" #[] 0)).get? a=some (seqObj "list" #[] e1):=by
  rw[Heap.get?_push_ne _ _ _ (by rw[size_push',GT];exact BD (EM ha)),Heap.get?_push_ne _ _ _ (by rw[GT];exact BD ha)];exact ho1
 show wpAny (model prog w) A _ P E { s with heap:=((s.heap.update a (Obj.mapSeq fun _=>#[])).push (seqObj "tuple" vs.toArray 0)).push (seqObj "list" #[] 0) };dsimp only;have hE:Ext a s { s with heap:=((s.heap.update a (Obj.mapSeq fun _=>#[])).push (seqObj "tuple" vs.toArray 0)).push (seqObj "list" #[] 0) }:=fun b o hb e =>
  AE _ (AE _ ((BZ s.heap _ (Ne.symm hb)).trans e))
 by_cases h2:vs.toArray.size<2
 .rw[AY h2,AY h2];refine AB (AD ?_);rw[StateT.run_pure];refine AB (AD ?_);dsimp only;refine AB (seqEpoch_at ho6 rfl ?_);refine AB (listUpdate_at ho6 rfl ?_ (by simp) (by rw[GO];show(pairsOf vs).size<=_;rw[pairsOf_size];omega));simp only[bne_self_eq_false,BF,CI];refine AD (h _ (Wg (U:=U) (xs:=pairsOf vs) (List.Perm.refl _) ?_));rw[pairsOf_toList];rw[hsz]at h2
  match vs,h2 with
  | [],_=>exact List.Pairwise.nil
  | [v],_=>exact GL _ _
  | _::_::_,h2=>simp at h2;omega
 .rw[AS h2,AS h2];refine AB (K.kind (by omega) A E _ _ hE ?_);refine AB (CA (Fc (K.cmp A _ hE) (a₀:=pairsOf vs) (st:=SortSt.mk' kd (vs.toArray.zip vs.toArray) #[] 7 none)
   (Q:=fun _ st'=>St U kd (pairsOf vs) st'/\Sor U (arrOf st').toList)
   (fun p hp=>?_) ⟨List.Perm.refl _,rfl,rfl⟩ rfl fun st' a1 a2=>⟨a1,a2⟩) ?_ fun _ _ e=>e)
  .rw[pairsOf_toList]at hp;exact K.key _ (mem_zip_self hp).2
  rintro⟨⟨⟩,st'⟩ s' ⟨rfl,hp,hs⟩;dsimp only;refine AB (seqEpoch_at ho6 rfl ?_);refine AB (listUpdate_at ho6 rfl ?_ (by simp) (by rw[GO];show(arrOf st').size<=_;rw[hp.size,pairsOf_size];omega));rw[show failedOf st'=none from hp.failed];simp only[bne_self_eq_false,BF,CI];exact AD (h _ (Wg hp.perm hs))
theorem sorted_gen{x:Value}{Q:Value->Shared->Prop}
  (hc:wpAny (model prog w) A.in1 (collect x) (fun vs s1=>s1.os=s.os/\vs.length<=sizeLine/\(∃(U:KeyKind) (kd:SortKind),(∀s2:Shared,Ext s1.heap.objs.size s1 s2->Keys prog w s1.heap.objs.size s2 U kd vs) /\
   ∀(out:Array Value) (h':Heap) (e:Nat),Out U vs out->(∀b o,s1.heap.get? b=some o->h'.get? b=some o)->h'.get? s1.heap.objs.size=some (seqObj "list" out e)->Q (.ref s1.heap.objs.size) { s1 with heap:=h' })) E s) :
  wpAny (model prog w) A (call (.builtin "sorted") [x]) Q E s:=by
 refine Calls.call_function_entry kind_sorted plain_sorted entry_sorted (args_sorted1 _) ?_;unfold Builtin.«sorted»;refine AB (m:=checkCount "sorted" 1 1 _) (AD ?_);refine AB (CA hc (fun vs s1 ⟨eos,hz,U,kd,K,q⟩=>?_) fun _ _ z=>z);refine AB (HA ?_);have hoL:(s1.heap.push (seqObj "list" vs.toArray 0)).get? s1.heap.objs.size=some (seqObj "list" vs.toArray 0):=BE _ rfl;show wpAny _ _ _ _ _ { s1 with heap:=s1.heap.push (seqObj "list" vs.toArray 0) };have hE:Ext s1.heap.objs.size s1 { s1 with heap:=s1.heap.push (seqObj "list" vs.toArray 0) }:=fun b o _ e=>AE _ e;refine AB (BU (CS slot_list_sort ⟨_,hoL,rfl⟩ entry_list_sort (Fe (s:={ s1 with heap:=s1.heap.push (seqObj "list" vs.toArray 0) }) hoL hz (K _ hE) fun out ho=>⟨_,rfl,?_⟩) (args_list_sort _)));obtain⟨e,he⟩:=sortedHeap_at (h:=s1.heap.push (seqObj "list" vs.toArray 0)) (out:=out) hoL;refine AD ⟨_,rfl,q out _ e ho (fun b o eb=>?_) he⟩;have hlt:=AJ eb;rw[sortedHeap_old (BD hlt) (by rw[size_push'];exact EM hlt)];exact AE _ eb
theorem keys_strs{a:Addr}{vs:List Value}{ss:List Str}(hS:StrsAre vs ss):Keys prog w a s strKind oneType' vs:=by
 refine⟨fun A s' _=>⟨fun x y k l Q E hx hy q=>?_⟩,fun v hv=>?_,fun h2 A E s' Q _ q=>?_⟩
 .rw[keyLt'_oneType];exact strKind_oneLt prog w A E s' x y k l hx hy q
 .obtain⟨x,t,rfl⟩:=hS.all v hv;exact⟨_,rfl⟩
 .match vs,h2,hS with
  | v1::v2::r,_,hS =>
   rw[keyKind_strs hS];exact AD q
def pairLt(a b:List Nat×List Nat):Bool:=decide (a.1<b.1)||(decide (a.1=b.1)&&decide (a.2<b.2))
theorem pairLt_iff{a b:List Nat×List Nat}:pairLt a b=true↔a.1<b.1\/(a.1=b.1/\a.2<b.2):=by
 unfold pairLt;simp
theorem tri(a b:List Nat):a<b\/a=b\/b<a:=by
 by_cases h:a<b
 .exact .inl h
 .by_cases h':b<a
  .exact .inr (.inr h')
  .exact .inr (.inl (GU (List.not_lt.mp h') (List.not_lt.mp h)))
def Ss:List Value->Option (List Nat×List Nat)
 | [.str x _,.str y _]=>some (x.cps.toList,y.cps.toList)
 | _=>none
def Pq(c:Value):Data->Option (List Nat×List Nat)
 | .seq xs _=>if c = .type "tuple" then Ss xs.toList else none
 | _=>none
def pairOf(h:Heap):Value->Option (List Nat×List Nat)
 | .ref p=>(h.get? p).bind fun o=>Pq o.cls o.data
 | _=>none
@[reducible] def pairKind(h:Heap):KeyKind where
 α:=List Nat×List Nat
 blt:=pairLt
 irrefl a:=by
  rw[DJ];intro z;rcases pairLt_iff.mp z with z | ⟨_,z⟩
  .exact List.lt_irrefl _ z
  .exact List.lt_irrefl _ z
 trans a b c h1 h2:=by
  rw[pairLt_iff]at *;rcases h1 with h1 | ⟨h1,h1'⟩
  .rcases h2 with h2 | ⟨h2,_⟩
   .exact .inl (List.lt_trans h1 h2)
   .exact .inl (h2▸h1)
  .rcases h2 with h2 | ⟨h2,h2'⟩
   .exact .inl (h1▸h2)
   .exact .inr ⟨h1.trans h2,List.lt_trans h1' h2'⟩
 negTrans a b c h:=by
  rw[pairLt_iff]at h;simp only[pairLt_iff];rcases h with h | ⟨h,h'⟩
  .rcases tri a.1 b.1 with q | q | q
   .exact .inl (.inl q)
   .exact .inr (.inl (q▸h))
   .exact .inr (.inl (List.lt_trans q h))
  .rcases tri a.1 b.1 with q | q | q
   .exact .inl (.inl q)
   .rcases tri a.2 b.2 with r | r | r
    .exact .inl (.inr ⟨q,r⟩)
    .exact .inr (.inr ⟨q▸h,r▸h'⟩)
    .exact .inr (.inr ⟨q▸h,List.lt_trans r h'⟩)
   .exact .inr (.inl (h▸q))
 total a b h1 h2:=by
  rw[DJ]at h1 h2;rcases tri a.1 b.1 with q | q | q
  .exact absurd (pairLt_iff.mpr (.inl q)) h1
  .rcases tri a.2 b.2 with r | r | r
   .exact absurd (pairLt_iff.mpr (.inr ⟨q,r⟩)) h1
   .exact Prod.ext q r
   .exact absurd (pairLt_iff.mpr (.inr ⟨q.symm,r⟩)) h2
  .exact absurd (pairLt_iff.mpr (.inl q)) h2
 keyOf:=pairOf h
 dflt:=([],[])
def PairAt(h:Heap)(v:Value)(x y:Str):Prop:=∃p o n t u,v = .ref p/\h.get? p=some o/\o.cls = .type "tuple"/\o.data = .seq #[.str x t,.str y u] n
theorem PairAt.key{h:Heap}{v:Value}{x y:Str}(z:PairAt h v x y):pairOf h v=some (x.cps.toList,y.cps.toList):=by
 obtain⟨p,o,n,t,u,rfl,e,c,d⟩:=z;show(h.get? p).bind (fun o=>Pq o.cls o.data)=_;rw[e];show Pq o.cls o.data=_;rw[d,c];unfold Pq;exact(AY rfl).trans rfl
theorem zAe{l:List Value}{k:List Nat×List Nat}(e:Ss l=some k):∃x t y u,l = [.str x t,.str y u]:=by
 match l,e with
 | [.str x t,.str y u],_=>exact⟨x,t,y,u,rfl⟩
theorem Pu{h:Heap}{v:Value}{k:List Nat×List Nat}(e:pairOf h v=some k):∃x y,PairAt h v x y:=by
 match v,e with
 | .ref p,e =>
  have e':(h.get? p).bind (fun o=>Pq o.cls o.data)=some k:=e;obtain⟨o,ho,es⟩:=Option.bind_eq_some_iff.mp e';cases d:o.data with
  | seq xs n =>
   rw[d]at es;have es':(if o.cls = .type "tuple" then Ss xs.toList else none)=some k:=es;by_cases c:o.cls = .type "tuple"
   .rw[AY c]at es';obtain⟨x,t,y,u,el⟩:=zAe es';refine⟨x,y,p,o,n,t,u,rfl,ho,c,?_⟩;rw[d];have:xs = #[.str x t,.str y u]:=by rw[<-Array.toList_inj,el]
    rw[this]
   .rw[AS c]at es';cases es'
  | _=>rw[d]at es;cases es
theorem Kg{h:Heap}{v:Value}{k:List Nat×List Nat}{x y:Str}(z:PairAt h v x y)(e:pairOf h v=some k):k =(x.cps.toList,y.cps.toList):=by
 rw[z.key]at e;exact(BV e).symm
theorem keys_pairs{a:Addr}{vs:List Value}{h0:Heap}(hv:∀v∈vs,∃x y,PairAt h0 v x y)(hk:∀b o,h0.get? b=some o->b≠a/\s.heap.get? b=some o) :
  Keys prog w a s (pairKind h0) (tuples' true) vs:=by
 refine⟨fun A s' hE=>⟨fun x y k l Q E hx hy q=>?_⟩,fun v hvm=>?_,fun h2 A E s' Q hE q=>?_⟩
 .obtain⟨x1,x2,zx⟩:=Pu hx;obtain⟨y1,y2,zy⟩:=Pu hy;have ek:=Kg zx hx;have el:=Kg zy hy;subst ek el;obtain⟨px,ox,nx,t1,u1,rfl,e1,_,d1⟩:=zx;obtain⟨py,oy,ny,t2,u2,rfl,e2,_,d2⟩:=zy;have f1:=hE _ _ (hk _ _ e1).1 (hk _ _ e1).2;have f2:=hE _ _ (hk _ _ e2).1 (hk _ _ e2).2;refine PySem.W.kat_lt f1 d1 f2 d2 ?_;show PySem.W.KatLex prog w A true _ Q [(.str x1 t1,.str y1 t2),(.str x2 u1,.str y2 u2)] 0 s';refine PySem.W.kat_cons (wpAny_eqBool_str (PySem.W.kat_go (fun he=>?_) fun he=>?_))
  .have he:x1=y1:=by simpa using he
   refine PySem.W.kat_yes (PySem.W.kat_cons (wpAny_eqBool_str (PySem.W.kat_go (fun he2=>?_) fun he2=>?_)))
   .have he2:x2=y2:=by simpa using he2
    refine PySem.W.kat_yes (PySem.W.kat_nil ?_);have:pairLt (x1.cps.toList,x2.cps.toList) (y1.cps.toList,y2.cps.toList)=decide (2<2):=by
     rw[he,he2];exact(pairKind h0).irrefl (y1.cps.toList,y2.cps.toList)
    show Q (decide (2<2)) s';rw[<-this];exact q
   .refine PySem.W.kat_no (PySem.W.kat_one _ _ (lt_str ?_));have:pairLt (x1.cps.toList,x2.cps.toList) (y1.cps.toList,y2.cps.toList)=decide (x2.cps.toList<y2.cps.toList):=by
     rw[he];unfold pairLt;simp[List.lt_irrefl]
    show Q (decide (x2.cps.toList<y2.cps.toList)) s';rw[<-this];exact q
  .have he:¬x1=y1:=by simpa using he
   refine PySem.W.kat_no (oneLt_str ?_);have hne:¬x1.cps.toList=y1.cps.toList:=fun z=>he (by cases x1;cases y1;simp at z;simp[z]);have:pairLt (x1.cps.toList,x2.cps.toList) (y1.cps.toList,y2.cps.toList)=decide (x1.cps.toList<y1.cps.toList):=by
    unfold pairLt;simp[hne]
   rw[<-this];exact q
 .obtain⟨x,y,z⟩:=hv v hvm;exact⟨_,z.key⟩
 .have hT:∀(us:List Value),(∀v∈us,∃x y,PairAt h0 v x y)->∃fs,PySem.W.KatTups s'.heap us fs/\fs.length=us.length/\∀v∈fs,∃x t,v = .str x t:=by
   intro us
   induction us with
   | nil=>exact fun _=>⟨[],.nil,rfl,fun v hv=>by simp at hv⟩
   | cons v r ih =>
    intro hus;obtain⟨fs,g1,g2,g3⟩:=ih fun u hu=>hus u (AO _ hu);obtain⟨x,y,p,o,n,t,u,rfl,e,c,d⟩:=hus v (AW ..);refine⟨.str x t::fs,.cons (hE _ _ (hk _ _ e).1 (hk _ _ e).2) c d rfl g1,by simp[g2],fun z hz=>?_⟩;rcases AX.mp hz with rfl | hz
    .exact⟨x,t,rfl⟩
    .exact g3 z hz
  obtain⟨fs,g1,g2,g3⟩:=hT vs hv;refine PySem.W.kat_kind (T:=.type "str") g1 (by omega) (fun v hv=>?_) (by rfl) q;obtain⟨x,t,rfl⟩:=g3 v hv;exact .now
end
end TS
set_option Elab.async false
namespace L2
open PySem PySem.Spec PyProof.Rows
abbrev Key:=Sum Int Str
def Ex:Key->Value->Bool
 | .inl k,v=>Value.isInt k v
 | .inr x,v=>Value.isStrOf x v
def zEw(w:World):Key->Int
 | .inl k=>hashInt k
 | .inr x=>hashStr w x
theorem E6:∀{k:Key} {v:Value},Ex k v=true->(∃i t,k=Sum.inl i/\v=Value.int i t)\/(∃x t,k=Sum.inr x/\v=Value.str x t)
 | .inl i,v,h=>by
  obtain⟨t,e⟩:=Value.isInt_shape (k:=i) (v:=v) h;exact .inl ⟨i,t,rfl,e⟩
 | .inr x,v,h=>by
  obtain⟨t,e⟩:=Value.isStrOf_shape (x:=x) (v:=v) h;exact .inr ⟨x,t,rfl,e⟩
theorem Rn(i:Int)(t:Tok):Ex (.inl i) (.int i t)=true:=by simp[Ex,Value.isInt]
theorem U2(x:Str)(t:Tok):Ex (.inr x) (.str x t)=true:=by simp[Ex,Value.isStrOf]
theorem Zs(a b:Int):decide ((Sum.inl a:Key)=Sum.inl b) =(a == b):=by
 by_cases e:a=b
 .subst e;simp
 .have h:¬(Sum.inl a:Key)=Sum.inl b:=fun q=>e (Sum.inl.inj q);rw[BC h];exact(beq_eq_false_iff_ne.mpr e).symm
theorem zAn(a b:Str):decide ((Sum.inr a:Key)=Sum.inr b)=decide (a=b):=by
 by_cases e:a=b
 .subst e;simp
 .have h:¬(Sum.inr a:Key)=Sum.inr b:=fun q=>e (Sum.inr.inj q);rw[BC h,BC e]
theorem zCd(a:Int)(b:Str):decide ((Sum.inl a:Key)=Sum.inr b)=false:=BC (fun q=>nomatch q)
theorem zBi(a:Str)(b:Int):decide ((Sum.inr a:Key)=Sum.inl b)=false:=BC (fun q=>nomatch q)
def C7(prog:Program)(w:World):PySem.KeyKind prog w Key where
 is:=Ex
 hash:=zEw w
 inj:=fun v a b ha hb=>by
  rcases E6 ha with⟨i,t,rfl,rfl⟩ | ⟨x,t,rfl,rfl⟩
  .rcases E6 hb with⟨j,u,rfl,e⟩ | ⟨y,u,rfl,e⟩
   .injection e with e1 _;rw[e1]
   .exact nomatch e
  .rcases E6 hb with⟨j,u,rfl,e⟩ | ⟨y,u,rfl,e⟩
   .exact nomatch e
   .injection e with e1 _;rw[e1]
 byValue:=fun k v h=>by
  rcases E6 h with⟨i,t,rfl,rfl⟩ | ⟨x,t,rfl,rfl⟩<;>rfl
 pyHash:=fun hv h=>by
  rcases E6 hv with⟨i,t,rfl,rfl⟩ | ⟨x,t,rfl,rfl⟩
  .exact wpAny_pyHash_int h
  .exact wpAny_pyHash_str h
 eqBool:=fun hu hv h=>by
  rcases E6 hu with⟨i,t,rfl,rfl⟩ | ⟨x,t,rfl,rfl⟩
  .rcases E6 hv with⟨j,u,rfl,rfl⟩ | ⟨y,u,rfl,rfl⟩
   .rw[Zs]at h;exact wpAny_eqBool_int h
   .rw[zCd]at h;exact SeqAt.EqAt.int_str i t y u _ _ _ _ h
  .rcases E6 hv with⟨j,u,rfl,rfl⟩ | ⟨y,u,rfl,rfl⟩
   .rw[zBi]at h;exact SeqAt.EqAt.str_int x t j u _ _ _ _ h
   .rw[zAn]at h;exact wpAny_eqBool_str h
 «strs»:=fun k x t v h=>by
  rcases E6 h with⟨i,u,rfl,e⟩ | ⟨y,u,rfl,e⟩
  .exact nomatch e
  .injection e with e1 _;subst e1;cases v<;>rfl
theorem Jg(prog:Program)(w:World)(i:Int)(t:Tok):(C7 prog w).is (.inl i) (.int i t)=true:=Rn i t
theorem Hz(prog:Program)(w:World)(x:Str)(t:Tok):(C7 prog w).is (.inr x) (.str x t)=true:=U2 x t
inductive V where
 | non | bl (b:Bool) | int (i:Int) | str (x:Str) | byt (b:Array UInt8) | flt (b:UInt64) | ref (a:Addr) | ty (n:String)
 deriving DecidableEq
def RelV:V->Value->Prop
 | .non,u=>u=Value.none
 | .bl b,u=>u=Value.bool b
 | .int i,u=>∃t,u=Value.int i t
 | .str x,u=>∃t,u=Value.str x t
 | .byt b,u=>∃t,u=Value.bytes b t
 | .flt b,u=>∃t,u=Value.float b t
 | .ref a,u=>u=Value.ref a
 | .ty n,u=>u=Value.type n
abbrev Vals:List V->List Value->Prop:=Paired RelV
theorem Vals.length{xs:List V}{us:List Value}(r:Vals xs us):xs.length=us.length:=Paired.length r
theorem Vals.get:∀{xs:List V} {us:List Value} {i:Nat} {x:V},Vals xs us->xs[i]?=some x->∃u,us[i]?=some u/\RelV x u
 | _,_,_,_,.nil,e=>by simp at e
 | _,_,0,_,.cons r _,e=>by simp at e;subst e;exact⟨_,rfl,r⟩
 | _,_,i+1,x,.cons _ t,e=>by
  obtain⟨u,h1,h2⟩:=Vals.get (i:=i) (x:=x) t (by simpa using e);exact⟨u,by simpa using h1,h2⟩
theorem Vals.set{x:V}{u:Value}(r:RelV x u):∀{xs:List V} {us:List Value} (i:Nat),Vals xs us->Vals (xs.set i x) (us.set i u)
 | _,_,_,.nil=>.nil
 | _,_,0,.cons _ t=>.cons r t
 | _,_,i+1,.cons q t=>.cons q (Vals.set r i t)
theorem Vals.append:∀{xs ys:List V} {us ws:List Value},Vals xs us->Vals ys ws->Vals (xs++ys) (us++ws)
 | _,_,_,_,.nil,s=>s
 | _,_,_,_,.cons r t,s=>.cons r (Vals.append t s)
theorem Vals.take:∀{xs:List V} {us:List Value} (n:Nat),Vals xs us->Vals (xs.take n) (us.take n)
 | _,_,0,_=>.nil
 | _,_,_+1,.nil=>.nil
 | _,_,n+1,.cons r t=>.cons r (Vals.take n t)
theorem Vals.drop:∀{xs:List V} {us:List Value} (n:Nat),Vals xs us->Vals (xs.drop n) (us.drop n)
 | _,_,0,r=>r
 | _,_,_+1,.nil=>.nil
 | _,_,n+1,.cons _ t=>Vals.drop n t
theorem Vals.none_of:∀{xs:List V} {us:List Value} {i:Nat},Vals xs us->xs[i]?=none->us[i]?=none:=fun{xs us i} r e=>by
 have h1:=r.length;have h2:xs.length<=i:=FY.mp e;exact FY.mpr (by omega)
def RelO:Option V->Option Value->Prop
 | some v,some u=>RelV v u
 | none,none=>True
 | _,_=>False
def KV{U:Type}:List (U×V)->List (U×Value)->Prop:=Paired fun(p:U×V) (q:U×Value)=>p.1=q.1/\RelV p.2 q.2
def kV:Key->V
 | .inl i=>.int i
 | .inr x=>.str x
inductive HO where
 | lst (xs:List V)
 | tup (xs:List V)
 | dK (kvs:List (Key×V)) | dT (kvs:List (List Key×V))
 | set (S:Int->Bool) (n:Nat)
 | ins (C dx:Addr) (fs:List (Str×V))
 | own (x:Addr)
 | xd (fs:List (Str×V))
 | met (f x:Addr)
 | rng (lo hi:Int)
 | frz (o:Obj) (u:HO)
 | tbl (ps:Array Value)
 | ext (φ:Heap->Prop)
set_option genInjectivity false
abbrev Hp:=Addr->Option HO
def upd(H:Hp)(a:Addr)(o:HO):Hp:=fun b=>if b=a then some o else H b
theorem A9{H:Hp}{a:Addr}{o:HO}:upd H a o a=some o:=by unfold upd;rw[AY rfl]
theorem B6{H:Hp}{a b:Addr}{o:HO}(h:b≠a):upd H a o b=H b:=by unfold upd;rw[AS h]
theorem P8{H:Hp}{a b:Addr}{o u:HO}(h:H a=some o)(h':H b=some u)(d:o≠u):a≠b:=by
 intro e;subst e;rw[h]at h';exact d (BV h')
theorem B2{H:Hp}{a b:Addr}{o:HO}(h:H a=some o)(h':H b=none):a≠b:=by
 intro e;subst e;rw[h]at h';cases h'
section
variable(P:Program)(w:World)
def ObjOk(H:Hp)(h:Heap)(a:Addr):HO->Prop
 | .lst xs=>xs.length<=sizeLine/\∃(its:List Value) (n:Nat),Vals xs its/\h.get? a=some { cls:=.type "list",data:=.seq its.toArray n }
 | .tup xs=>xs.length<=sizeLine/\∃its:List Value,Vals xs its/\IsTup h a its.toArray
 | .dK kvs=>kvs.length<=sizeLine/\(a == sysModules)=false/\∃vs,KV kvs vs/\h.DictOf (C7 P w) a vs
 | .dT kvs=>kvs.length<=sizeLine/\(a == sysModules)=false/\∃xs:List (List Key×Addr×Value),
   Paired (fun(p:List Key×V) (q:List Key×Addr×Value)=>p.1=q.1/\H q.2.1=some (.tup (p.1.map kV))/\RelV p.2 q.2.2) kvs xs /\
   ∃o es ep,h.get? a=some o/\o.ExactDict/\o.data = .dict es ep/\es.toList=xs.map (entryOfKey (tupleKind (C7 P w)))/\(xs.map (·.1)).Nodup
 | .set S n=>h.SetOf (intKind P w) a S n
 | .ins C dx fs=>H dx=some (.own a)/\fs.length<=1000/\dx≠a/\h.get? a=some (PySem.W.instObj C dx) /\
   ∃mA,h.Ns1 dx mA/\(∀f,RelO (fs.lookup f) (mA f))/\PySem.Within mA (fs.map (·.1))
 | .own _=>∃o,h.get? a=some o
 | .xd fs=>∃mA,h.Ns1 a mA/\∀f,RelO (fs.lookup f) (mA f)
 | .rng lo hi=>∃t u v,h.get? a=some { cls:=.type "range",data:=.fields #[.int lo t,.int hi u,.int 1 v] }
 | .frz o u=>h.get? a=some o/\ObjOk H h a u
 | .tbl ps=>h.get? a=some { cls:=.none,data:=.fields ps }
 | .met f x=>h.get? a=some (PySem.W.methodObj (.ref f) (.ref x))
 | .ext φ=>φ h/\(∃o,h.get? a=some o)/\∀h1 h2:Heap,φ h1->(∀o,h1.get? a=some o->h2.get? a=some o)->φ h2
def HOk(H:Hp)(h:Heap):Prop:=∀a o,H a=some o->ObjOk P w H h a o
end
section
variable{P:Program}{w:World}{H H':Hp}{h h':Heap}{a:Addr}{o:HO}
theorem ObjOk.lt(x:ObjOk P w H h a o):a<h.objs.size:=by
 cases o with
 | lst xs=>obtain⟨_,_,_,_,e⟩:=x;exact AJ e
 | tup xs=>obtain⟨_,_,_,p⟩:=x;exact p.lt
 | dK kvs=>obtain⟨_,_,_,_,o,_,_,e,_⟩:=x;exact AJ e
 | dT kvs=>obtain⟨_,_,_,_,o,_,_,e,_⟩:=x;exact AJ e
 | set S n=>obtain⟨o,_,_,_,e,_⟩:=x;exact AJ e
 | ins C dx fs=>obtain⟨_,_,_,e,_⟩:=x;exact AJ e
 | own y=>obtain⟨_,e⟩:=x;exact AJ e
 | xd fs=>obtain⟨_,⟨_,_,_,e,_⟩,_⟩:=x;exact AJ e
 | rng lo hi=>obtain⟨_,_,_,e⟩:=x;exact AJ e
 | frz ob u=>obtain⟨e,_⟩:=x;exact AJ e
 | tbl ps=>exact AJ (show h.get? a=some _ from x)
 | met f y=>exact AJ (show h.get? a=some _ from x)
 | ext φ=>obtain⟨_,⟨_,e⟩,_⟩:=x;exact AJ e
theorem Paired.mapP{α β:Type}{F G:α->β->Prop}:∀{l₁:List α} {l₂:List β},Paired F l₁ l₂->(∀a b,F a b->G a b)->Paired G l₁ l₂
 | _,_,.nil,_=>.nil
 | _,_,.cons r t,f=>.cons (f _ _ r) (Paired.mapP t f)
theorem ObjOk.stay(x:ObjOk P w H h a o)(k:∀b u,(b=a\/H b=some (.own a))->h.get? b=some u->h'.get? b=some u)
  (ho:∀b,H b=some (.own a)->H' b=some (.own a)) (ht:∀b xs,H b=some (.tup xs)->H' b=some (.tup xs)):ObjOk P w H' h' a o:=by
 induction o with
 | lst xs=>obtain⟨z,its,n,r,e⟩:=x;exact⟨z,its,n,r,k _ _ (.inl rfl) e⟩
 | tup xs=>obtain⟨z,its,r,ob,e,c⟩:=x;exact⟨z,its,r,ob,k _ _ (.inl rfl) e,c⟩
 | dK kvs=>obtain⟨z,y,vs,r,ob,es,ep,e,c⟩:=x;exact⟨z,y,vs,r,ob,es,ep,k _ _ (.inl rfl) e,c⟩
 | dT kvs =>
  obtain⟨z,y,xs,r,ob,es,ep,e,c⟩:=x;exact⟨z,y,xs,Paired.mapP r fun p q z=>⟨z.1,ht _ _ z.2.1,z.2.2⟩,ob,es,ep,k _ _ (.inl rfl) e,c⟩
 | set S n=>obtain⟨ob,es,ep,t,e,c⟩:=x;exact⟨ob,es,ep,t,k _ _ (.inl rfl) e,c⟩
 | ins C dx fs =>
  obtain⟨d,z,ne,e,mA,⟨od,es,ep,e2,c⟩,r⟩:=x;exact⟨ho _ d,z,ne,k _ _ (.inl rfl) e,mA,⟨od,es,ep,k _ _ (.inr d) e2,c⟩,r⟩
 | own y=>obtain⟨ob,e⟩:=x;exact⟨ob,k _ _ (.inl rfl) e⟩
 | xd fs=>obtain⟨mA,⟨od,es,ep,e,c⟩,r⟩:=x;exact⟨mA,⟨od,es,ep,k _ _ (.inl rfl) e,c⟩,r⟩
 | rng lo hi=>obtain⟨t,u,v,e⟩:=x;exact⟨t,u,v,k _ _ (.inl rfl) e⟩
 | frz ob u ih=>obtain⟨e,q⟩:=x;exact⟨k _ _ (.inl rfl) e,ih q⟩
 | tbl ps =>
  have e:h.get? a=some { cls:=.none,data:=.fields ps }:=x;show h'.get? a=some { cls:=.none,data:=.fields ps };exact k a _ (.inl rfl) e
 | met f y =>
  have e:h.get? a=some (PySem.W.methodObj (.ref f) (.ref y)):=x;show h'.get? a=some (PySem.W.methodObj (.ref f) (.ref y));exact k a _ (.inl rfl) e
 | ext φ=>obtain⟨p,⟨o,e⟩,st⟩:=x;exact⟨st _ _ p fun o q=>k _ _ (.inl rfl) q,⟨o,k _ _ (.inl rfl) e⟩,st⟩
theorem HOk.lt(x:HOk P w H h)(e:H a=some o):a<h.objs.size:=(x a o e).lt
theorem HOk.fresh(x:HOk P w H h)(e:h.objs.size<=a):H a=none:=by
 cases q:H a with
 | none=>rfl
 | some u=>exact absurd (BH (x.lt q) e) (CK _)
theorem HOk.kept(x:HOk P w H h)(k:∀b u,h.get? b=some u->h'.get? b=some u):HOk P w H h':=fun a o e =>
 (x a o e).stay (fun b u _ q=>k b u q) (fun _ q=>q) fun _ _ q=>q
theorem HOk.laid(x:HOk P w H h)(k:∀b u,h.get? b=some u->h'.get? b=some u)(hp:h.objs.size<=a)(new:ObjOk P w (upd H a o) h' a o):HOk P w (upd H a o) h':=fun b u e=>by
 have hn:=x.fresh hp;by_cases hb:b=a
 .subst hb;rw[A9]at e;cases e;exact new
 .rw[B6 hb]at e;exact(x b u e).stay (fun c v _ q=>k c v q) (fun c q=>by rw[B6 (B2 q hn)];exact q) fun c xs q=>by rw[B6 (B2 q hn)];exact q
end
def Rd(H:Hp)(a:Addr)(u:HO):Prop:=H a=some u\/∃o,H a=some (.frz o u)
theorem Rd.ok{P:Program}{w:World}{H:Hp}{h:Heap}{a:Addr}{u:HO}(r:Rd H a u)(x:HOk P w H h):ObjOk P w H h a u:=by
 rcases r with r | ⟨o,r⟩
 .exact x a u r
 .obtain⟨_,q⟩:=x a _ r;exact q
def Mut:Option HO->Prop
 | some (.lst _)=>True
 | some (.dK _)=>True
 | some (.dT _)=>True
 | some (.set _ _)=>True
 | some (.ins _ _ _)=>True
 | some (.ext _)=>True
 | _=>False
section
variable{P:Program}{w:World}{H:Hp}{h h':Heap}{x e:Addr}{o':HO}
theorem HOk.write(ok:HOk P w H h)(mu:Mut (H x))(he:e=x\/H e=some (.own x))(k:∀b u,b≠e->h.get? b=some u->h'.get? b=some u)(heo:∃u,h'.get? e=some u)
  (new:ObjOk P w (upd H x o') h' x o'):HOk P w (upd H x o') h':=fun b u q=>by
 have nown:∀c y,H c=some (.own y)->c≠x:=fun c y r z=>by subst z;rw[r]at mu;exact mu
 have ntup:∀c xs,H c=some (.tup xs)->c≠x:=fun c xs r z=>by subst z;rw[r]at mu;exact mu
 by_cases hb:b=x
 .subst hb;rw[A9]at q;cases q;exact new
 .rw[B6 hb]at q;by_cases hbe:b=e
  .have q':H b=some (.own x):=by
    rcases he with z | z
    .exact absurd (hbe.trans z) hb
    .rw[hbe];exact z
   rw[q]at q';cases q';obtain⟨v,hv⟩:=heo;exact⟨v,by rw[hbe];exact hv⟩
  .refine(ok b u q).stay (fun c v hc r=>k c v ?_ r) (fun c r=>by rw[B6 (nown c b r)];exact r) fun c xs r=>by rw[B6 (ntup c xs r)];exact r
   rcases hc with rfl | hc
   .exact hbe
   .rintro rfl;rcases he with z | z
    .exact nown c b hc z
    .rw[hc]at z;cases z;exact hb rfl
end
structure Un(fs ex:List Addr)(H H':Hp)(h h':Heap):Prop where
 keep:∀b o,h.get? b=some o->H b=none->b∉fs->b∉ex->h'.get? b=some o
 slot:∀b o,h.get? b=some o->H b=none->b∈fs->b∉ex->∃sl,h'.get? b=some { o with slots:=sl }
 free:∀b o,h.get? b=some o->H b=none->b∉ex->H' b=none
 there:∀b o,h.get? b=some o->b∉ex->∃o',h'.get? b=some o'
 tups:∀b xs,H b=some (.tup xs)->H' b=some (.tup xs)
 frzs:∀b o u,H b=some (.frz o u)->H' b=some (.frz o u)
 tbls:∀b ps,H b=some (.tbl ps)->∃more,H' b=some (.tbl (ps++more))
section
variable{fs fs' ex ex':List Addr}{H H1 H2:Hp}{h h1 h2 h':Heap}{a x e:Addr}{o:HO}
theorem Un.any(u:Un fs ex H H1 h h1){b:Addr}{ob:Obj}(q:h.get? b=some ob)(n:H b=none)(hx:b∉ex):∃sl,h1.get? b=some { ob with slots:=sl }:=by
 by_cases hb:b∈fs
 .exact u.slot b ob q n hb hx
 .exact⟨ob.slots,u.keep b ob q n hb hx⟩
theorem Un.kept(k:∀b u,h.get? b=some u->h'.get? b=some u):Un fs ex H H h h' :=
 ⟨fun b ob q _ _ _=>k b ob q,fun b ob q _ _ _=>⟨ob.slots,k b ob q⟩,fun _ _ _ n _=>n,fun b ob q _=>⟨ob,k b ob q⟩,fun _ _ q=>q,fun _ _ _ q=>q,fun _ ps q=>⟨#[],by rw[q];simp⟩⟩
theorem Un.refl:Un fs ex H H h h:=Un.kept fun _ _ q=>q
theorem Un.laid(k:∀b u,h.get? b=some u->h'.get? b=some u)(hp:h.objs.size<=a)(hn:H a=none):Un fs ex H (upd H a o) h h' where
 keep:=fun b u q _ _ _=>k b u q
 slot:=fun b u q _ _ _=>⟨u.slots,k b u q⟩
 free:=fun b u q n _=>by rw[B6 (BD (BH (AJ q) hp))];exact n
 there:=fun b u q _=>⟨u,k b u q⟩
 tups:=fun b xs q=>by rw[B6 (B2 q hn)];exact q
 frzs:=fun b u xs q=>by rw[B6 (B2 q hn)];exact q
 tbls:=fun b ps q=>⟨#[],by rw[B6 (B2 q hn),q];simp⟩
theorem Un.write(mu:Mut (H x))(he:e=x\/H e=some (.own x))(k:∀b u,b≠e->h.get? b=some u->h'.get? b=some u)(heo:∃u,h'.get? e=some u):Un fs ex H (upd H x o) h h':=by
 have hx:∀b,H b=none->b≠x:=fun b n z=>by subst z;rw[n]at mu;exact mu
 have hb:∀b,H b=none->b≠e:=fun b n z=>by
  subst z;rcases he with r | r
  .exact hx b n r
  .rw[n]at r;cases r
 have hm:∀b u,H b=some u->¬Mut (some u)->b≠x:=fun b u q nm z=>by subst z;rw[q]at mu;exact nm mu
 refine⟨fun b u q n _ _=>k b u (hb b n) q,fun b u q n _ _=>⟨u.slots,k b u (hb b n) q⟩,fun b u q n _=>by rw[B6 (hx b n)];exact n,fun b u q _=>?_,
  fun b xs q=>by rw[B6 (hm b _ q fun z=>z)];exact q,fun b u xs q=>by rw[B6 (hm b _ q fun z=>z)];exact q,fun b ps q=>⟨#[],by rw[B6 (hm b _ q fun z=>z),q];simp⟩⟩
 by_cases hbe:b=e
 .subst hbe;exact heo
 .exact⟨u,k b u hbe q⟩
end
def trk(h:Heap)(H:Hp):List Addr:=(List.range h.objs.size).filter fun a=>(H a).isSome
def Sx(h:Heap)(H:Hp):Heap:=PySem.W.hideAll h (trk h H)
theorem Gg(h:Heap)(H:Hp):(Sx h H).objs.size=h.objs.size:=PySem.W.hideAll_size _ _
theorem Ab{h:Heap}{H:Hp}{b:Addr}{o:Obj}(e:h.get? b=some o)(n:H b=none):(Sx h H).get? b=some o :=
 PySem.W.hideAll_get _ e fun hm=>by
  have q:(H b).isSome=true:=(BW.mp hm).2;rw[n]at q;simp at q
theorem Pa{h:Heap}{H:Hp}{b:Addr}{o:Obj}(e:(Sx h H).get? b=some o):h.get? b=some o/\H b=none:=by
 have e':h.get? b=some o:=PySem.W.of_hideAll (trk h H) e;refine⟨e',?_⟩;cases q:H b with
 | none=>rfl
 | some x =>
  have hm:b∈trk h H:=BW.mpr ⟨DE.mpr (AJ e'),by simp[q]⟩;have z:(Sx h H).get? b=none:=PySem.W.hideAll_none (trk h H) hm;rw[z]at e;cases e
structure Mod(K:PySem.W.Frag)(mg:Str->Option Value)(base:Heap):Prop where
 kin:K.In base
 glob:base.Ns mainGlobals mg
 blt:∃mb,base.Ns builtinsNs mb/\∀x:Str,x≠ "__name__"->mb x=bootBuiltins x
 nolimit:base.NoLimit
structure Cx where
 prog:Program
 w:World
 K:PySem.W.Frag
 mg:Str->Option Value
 base:Heap
 A:Around
 N:List Str
 s₀:Shared
 H₀:Hp
 env:Env
 outer:List Env
 stack:List Env
 ex:List Addr
 fn:Str->Bool
 calm:Bool
 pn:List (Addr×Obj)
 xe:Value->Shared->Prop
def frs(l:List Env):List Addr:=l.filterMap (·.frame)
abbrev Cx.fs(X:Cx):List Addr:=frs X.outer
def Vis(sc:Scope)(x:Str):Prop:=sc.names.lookup x=some .local\/sc.names.lookup x=some .cell\/sc.names.lookup x=some .free
def Loc(sc:Scope)(x:Str):Prop:=sc.names.lookup x=some .local\/sc.names.lookup x=some .cell
def zEu(env:Env)(h:Heap)(m:Str->Option Value)(x:Str)(u:Value):Prop :=
 (env.kindOf x=some .local/\m x=some u)\/((env.kindOf x=some .cell\/env.kindOf x=some .free)/\∃c,env.cells.lookup x=some c/\h.IsCell c (some u))
structure Cx.Ok(X:Cx):Prop where
 mod:Mod X.K X.mg X.base
 kind:X.env.scope.kind = .function
 glob:X.env.globals=mainGlobals
 blt:X.env.builtins=builtinsNs
 above:X.s₀.heap.objs.size<=X.env.locals
 inj:∀x y c,X.env.cells.lookup x=some c->X.env.cells.lookup y=some c->x=y
 has:∀x,(X.env.kindOf x=some .cell\/X.env.kindOf x=some .free)->∃c,X.env.cells.lookup x=some c
 cab:∀x c,X.fn x=true->X.env.cells.lookup x=some c->X.s₀.heap.objs.size<=c
 hd:X.calm=true->X.A.handled=none
 frames:X.A.frames=some X.stack
 stk:X.stack=X.outer\/(X.stack=X.env::X.outer/\X.env.frame=some X.env.locals)
 exf:∀b∈X.ex,b≠X.env.locals/\∀x c,X.env.cells.lookup x=some c->c≠b
 bs:∀b o,X.base.get? b=some o->X.s₀.heap.get? b=some o/\X.H₀ b=none
 bsz:X.base.objs.size<=X.s₀.heap.objs.size
 noex:∀b o,X.base.get? b=some o->b∉X.ex
 exfs:∀b∈X.ex,b∉X.fs
 funs:X.s₀.heap.FunFrames X.base X.outer
 frf:∀b∈X.fs,X.H₀ b=none
structure Inv(X:Cx)(pins:List (Addr×Obj))(σ:List (Option V))(H:Hp)(s:Shared):Prop where
 ok:X.Ok
 os:s.os=X.s₀.os
 bare:AllBare s.gens
 base:Un X.fs X.ex X.H₀ H X.s₀.heap s.heap
 loc:∃m,s.heap.Ns X.env.locals m/\∀(i:Nat) (x:Str) (v:V),X.N[i]?=some x->σ[i]?=some (some v)->Vis X.env.scope x->∃u,RelV v u/\zEu X.env s.heap m x u
 cell:∀x c,X.env.cells.lookup x=some c->∃v,s.heap.IsCell c v
 free:H X.env.locals=none
 freeC:∀x c,X.env.cells.lookup x=some c->H c=none
 pin:∀p∈X.pn++pins,s.heap.get? p.1=some p.2/\H p.1=none/\p.1≠X.env.locals/\p.1∉X.fs/\∀v,p.2.data≠ .cell v
 hok:HOk X.prog X.w H s.heap
 len:σ.length=X.N.length
section
variable{X:Cx}{pins:List (Addr×Obj)}{σ:List (Option V)}{H H':Hp}{s:Shared}{h':Heap}
theorem Cx.Ok.nofr(ok:X.Ok){b:Addr}{o:Obj}(e:X.base.get? b=some o):b∉X.fs:=fun hb=>by
 have:=(ok.funs.mem hb).1;rw[e]at this;cases this
theorem Inv.bs(I:Inv X pins σ H s):∀b o,X.base.get? b=some o->s.heap.get? b=some o/\H b=none:=fun b o e =>
 ⟨I.base.keep b o (I.ok.bs b o e).1 (I.ok.bs b o e).2 (I.ok.nofr e) (I.ok.noex b o e),I.base.free b o (I.ok.bs b o e).1 (I.ok.bs b o e).2 (I.ok.noex b o e)⟩
theorem Inv.bk(I:Inv X pins σ H s):∀b o,X.base.get? b=some o->s.heap.get? b=some o:=fun b o e=>(I.bs b o e).1
theorem Inv.mod(I:Inv X pins σ H s):Mod X.K X.mg X.base:=I.ok.mod
theorem Inv.kIn(I:Inv X pins σ H s):X.K.In s.heap:=I.ok.mod.kin.keeps I.bk
theorem Inv.lt(I:Inv X pins σ H s):X.env.locals<s.heap.objs.size:=let⟨_,hn,_⟩:=I.loc;hn.lt
theorem Inv.sz(I:Inv X pins σ H s):X.s₀.heap.objs.size<=s.heap.objs.size:=Nat.le_trans I.ok.above (DM I.lt)
theorem Inv.nofs(I:Inv X pins σ H s){a:Addr}(h:s.heap.objs.size<=a):a∉X.fs:=fun hb=>by
 obtain⟨_,o,ho,_⟩:=I.ok.funs.mem hb;exact absurd (BH (AJ ho) (Nat.le_trans I.sz h)) (CK _)
theorem Inv.cne(I:Inv X pins σ H s):∀x c,X.env.cells.lookup x=some c->c≠X.env.locals:=fun x c e z=>by
 obtain⟨v,o,ho,hd⟩:=I.cell x c e;obtain⟨m,⟨o',es,ep,ho',hd',_⟩,_⟩:=I.loc;rw[z,ho']at ho;cases ho;rw[hd']at hd;cases hd
theorem Inv.funs(I:Inv X pins σ H s):s.heap.FunFrames X.base X.outer:=by
 have all:∀(l:List Env),(∀b∈frs l,b∈X.fs)->X.s₀.heap.FunFrames X.base l->s.heap.FunFrames X.base l:=by
  intro l
  induction l with
  | nil=>intro _ _;trivial
  | cons env r ih =>
   intro hs hl;obtain⟨hk,⟨L,o,hf,hn,ho,hd⟩,hr⟩:=hl;have hL:L∈X.fs:=hs L (by unfold frs;rw[DI,hf];exact AW);obtain⟨sl,e⟩:=I.base.slot L o ho (I.ok.frf L hL) hL fun z=>I.ok.exfs L z hL;exact⟨hk,⟨L,_,hf,hn,e,hd⟩,ih (fun b hb=>hs b (by unfold frs;rw[DI,hf];exact AO _ hb)) hr⟩
 exact all X.outer (fun _ hb=>hb) I.ok.funs
theorem Inv.stack(I:Inv X pins σ H s):s.heap.FunFrames X.base X.stack:=by
 rcases I.ok.stk with e | ⟨e,hf⟩
 .rw[e];exact I.funs
 .rw[e];obtain⟨m,hn,_⟩:=I.loc;refine .cons (by rw[I.ok.kind];decide) hf hn ?_ I.funs;exact Heap.get?_none_of_le (Nat.le_trans I.ok.bsz I.ok.above)
theorem Inv.stkSub(I:Inv X pins σ H s):∀b∈frs X.stack,b∈X.env.locals::X.fs:=fun b hb=>by
 rcases I.ok.stk with e | ⟨e,hf⟩
 .rw[e]at hb;exact AO _ hb
 .rw[e]at hb;unfold frs at hb;rw[DI,hf]at hb;exact hb
theorem Inv.stkFree(I:Inv X pins σ H s):∀b∈frs X.stack,H b=none:=fun b hb=>by
 rcases AX.mp (I.stkSub b hb)with e | hb
 .rw[e];exact I.free
 .obtain⟨_,o,ho,_⟩:=I.ok.funs.mem hb;exact I.base.free b o ho (I.ok.frf b hb) fun z=>I.ok.exfs b z hb
theorem Inv.step{g':Array GenState}{t':Nat}{d':Drawn}{ch:List Addr}(I:Inv X pins σ H s)
  (hch:∀b∈ch,(b∈X.ex\/X.s₀.heap.objs.size<=b)/\b≠X.env.locals/\(∀x c,X.env.cells.lookup x=some c->c≠b)/\∀p∈X.pn++pins,p.1≠b)
  (keep:∀b o,b≠X.env.locals->b∉X.fs->b∉ch->s.heap.get? b=some o->H b=none->h'.get? b=some o)
  (slot:∀b o,b≠X.env.locals->b∈X.fs->b∉ch->s.heap.get? b=some o->H b=none->∃sl,h'.get? b=some { o with slots:=sl }) (free:∀b o,b∉ch->s.heap.get? b=some o->H b=none->H' b=none)
  (there:∀b o,b∉ch->s.heap.get? b=some o->∃o',h'.get? b=some o')
  (tups:∀b xs,H b=some (.tup xs)->H' b=some (.tup xs)) (frzs:∀b o u,H b=some (.frz o u)->H' b=some (.frz o u)) (tbls:∀b ps,H b=some (.tbl ps)->∃more,H' b=some (.tbl (ps++more)))
  (ns:∀m,s.heap.Ns X.env.locals m->h'.Ns X.env.locals m) (hok:HOk X.prog X.w H' h') (hg:AllBare g') :
  Inv X pins σ H' { s with heap:=h',gens:=g',drawn:=d',toks:=t' }:=by
 have neL:∀b o,X.s₀.heap.get? b=some o->b≠X.env.locals:=fun b o e=>BD (BH (AJ e) I.ok.above);have neC:∀b o,X.s₀.heap.get? b=some o->b∉X.ex->b∉ch:=fun b o e hx hb=>by
  rcases(hch b hb).1 with z | z
  .exact hx z
  .exact absurd (BH (AJ e) z) (CK _)
 have cellK:∀x c,X.env.cells.lookup x=some c->∀v,s.heap.IsCell c v->h'.IsCell c v:=fun x c e v ⟨o,ho,hd⟩=>by
  have nch:c∉ch:=fun z=>(hch c z).2.2.1 x c e rfl;by_cases hc:c∈X.fs
  .obtain⟨sl,q⟩:=slot c o (I.cne x c e) hc nch ho (I.freeC x c e);exact⟨_,q,hd⟩
  .exact⟨o,keep c o (I.cne x c e) hc nch ho (I.freeC x c e),hd⟩
 refine⟨I.ok,I.os,hg,⟨fun b o e n hb hx=>?_,fun b o e n hb hx=>?_,fun b o e n hx=>?_,fun b o e hx=>?_,fun b xs e=>tups b xs (I.base.tups b xs e),fun b o xs e=>frzs b o xs (I.base.frzs b o xs e),fun b ps e=>?_⟩,?_,fun x c e=>?_,?_,fun x c e=>?_,fun p hp=>?_,hok,I.len⟩
 .exact keep b o (neL b o e) hb (neC b o e hx) (I.base.keep b o e n hb hx) (I.base.free b o e n hx)
 .obtain⟨sl,e1⟩:=I.base.slot b o e n hb hx;obtain⟨sl',e2⟩:=slot b _ (neL b o e) hb (neC b o e hx) e1 (I.base.free b o e n hx);exact⟨sl',e2⟩
 .obtain⟨o',e1⟩:=I.base.there b o e hx;exact free b o' (neC b o e hx) e1 (I.base.free b o e n hx)
 .obtain⟨o',e1⟩:=I.base.there b o e hx;exact there b o' (neC b o e hx) e1
 .obtain⟨m1,e1⟩:=I.base.tbls b ps e;obtain⟨m2,e2⟩:=tbls b _ e1;exact⟨m1++m2,by rw[e2,Array.append_assoc]⟩
 .obtain⟨m,hn,hl⟩:=I.loc;refine⟨m,ns m hn,fun i x v e1 e2 e3=>?_⟩;obtain⟨u,r,l⟩:=hl i x v e1 e2 e3;refine⟨u,r,?_⟩;rcases l with l | ⟨k,c,e,z⟩
  .exact .inl l
  .exact .inr ⟨k,c,e,cellK x c e _ z⟩
 .obtain⟨v,z⟩:=I.cell x c e;exact⟨v,cellK x c e v z⟩
 .obtain⟨m,⟨o,_,_,ho,_⟩,_⟩:=I.loc;exact free _ o (fun z=>(hch _ z).2.1 rfl) ho I.free
 .obtain⟨v,o,ho,hd⟩:=I.cell x c e;exact free c o (fun z=>(hch c z).2.2.1 x c e rfl) ho (I.freeC x c e)
 .obtain⟨e,n,ne,nf,d⟩:=I.pin p hp;have nch:p.1∉ch:=fun z=>(hch p.1 z).2.2.2 p hp rfl;exact⟨keep p.1 p.2 ne nf nch e n,free p.1 p.2 nch e n,ne,nf,d⟩
theorem Inv.un{t':Nat}(I:Inv X pins σ H s)(u:Un X.fs [] H H' s.heap h')(hok:HOk X.prog X.w H' h'):Inv X pins σ H' { s with heap:=h',toks:=t' }:=by
 obtain⟨m,⟨o,es,ep,ho,r⟩,_⟩:=id I.loc;obtain⟨sl,hL⟩:=u.any ho I.free (by simp);exact I.step (g':=s.gens) (d':=s.drawn) (ch:=[]) (fun _ z=>nomatch z) (fun b o _ hb _ e n=>u.keep b o e n hb (by simp)) (fun b o _ hb _ e n=>u.slot b o e n hb (by simp)) (fun b o _ e n=>u.free b o e n (by simp)) (fun b o _ e=>u.there b o e (by simp)) u.tups u.frzs u.tbls (fun m' hm=>by
  obtain⟨o',es',ep',ho',r'⟩:=hm;rw[ho]at ho';cases ho';exact⟨_,es',ep',hL,r'⟩) hok I.bare
theorem Inv.call{g':Array GenState}{t':Nat}{d':Drawn}{ch:List Addr}(I:Inv X pins σ H s)(u:Un (frs X.stack) ch H H' s.heap h')(hok:HOk X.prog X.w H' h')(hg:AllBare g')
  (hch:∀b∈ch,(b∈X.ex\/X.s₀.heap.objs.size<=b)/\b≠X.env.locals/\(∀x c,X.env.cells.lookup x=some c->c≠b)/\∀p∈X.pn++pins,p.1≠b) :
  Inv X pins σ H' { s with heap:=h',gens:=g',drawn:=d',toks:=t' }:=by
 obtain⟨m,⟨o,es,ep,ho,r⟩,_⟩:=id I.loc;obtain⟨sl,hL⟩:=u.any ho I.free fun z=>(hch _ z).2.1 rfl;exact I.step (ch:=ch) hch (fun b o hL hb hc e n=>u.keep b o e n (fun z=>(AX.mp (I.stkSub b z)).elim hL hb) hc) (fun b o _ _ hc e n=>u.any e n hc) (fun b o hc e n=>u.free b o e n hc) (fun b o hc e=>u.there b o e hc) u.tups u.frzs u.tbls (fun m' hm=>by
  obtain⟨o',es',ep',ho',r'⟩:=hm;rw[ho]at ho';cases ho';exact⟨_,es',ep',hL,r'⟩) hok hg
theorem Inv.turned{t':Nat}{it:Addr}(I:Inv X pins σ H s)(k:∀b o,b≠it->s.heap.get? b=some o->h'.get? b=some o)(hn:H it=none)(hL:it≠X.env.locals)
  (h1:it∈X.ex\/X.s₀.heap.objs.size<=it) (h2:∀x c,X.env.cells.lookup x=some c->c≠it) (h3:∀p∈X.pn++pins,p.1≠it):Inv X pins σ H { s with heap:=h',toks:=t' }:=by
 have nit:∀b u,H b=some u->b≠it:=fun b u e z=>by rw[z,hn]at e;cases e
 refine I.step (g':=s.gens) (d':=s.drawn) (ch:=[it]) (fun b hb=>?_) (fun b o _ _ hc e _=>k b o (fun z=>hc (by simp[z])) e) (fun b o _ _ hc e _=>⟨o.slots,k b o (fun z=>hc (by simp[z])) e⟩) (fun _ _ _ _ n=>n)
  (fun b o hc e=>⟨o,k b o (fun z=>hc (by simp[z])) e⟩) (fun _ _ e=>e) (fun _ _ _ e=>e) (fun b ps e=>⟨#[],by rw[e];simp⟩) (fun m hm=>?_) (fun b u e=>?_) I.bare
 .have e:b=it:=by simpa using hb
  subst e;exact⟨h1,hL,h2,h3⟩
 .obtain⟨o,es,ep,ho,r⟩:=hm;exact⟨o,es,ep,k _ o (Ne.symm hL) ho,r⟩
 .refine(I.hok b u e).stay (fun c v hc q=>k c v ?_ q) (fun _ q=>q) fun _ _ q=>q;rcases hc with z | z
  .rw[z];exact nit b u e
  .exact nit c _ z
theorem Inv.tok(I:Inv X pins σ H s)(t:Nat):Inv X pins σ H { s with toks:=t }:=I.un (h':=s.heap) (t':=t) Un.refl I.hok
theorem Inv.kept{t':Nat}(I:Inv X pins σ H s)(k:∀b u,s.heap.get? b=some u->h'.get? b=some u):Inv X pins σ H { s with heap:=h',toks:=t' }:=I.un (Un.kept k) (I.hok.kept k)
theorem Inv.laid{a:Addr}{o:HO}{t':Nat}(I:Inv X pins σ H s)(k:∀b u,s.heap.get? b=some u->h'.get? b=some u)(hp:s.heap.objs.size<=a)(new:ObjOk X.prog X.w (upd H a o) h' a o) :
  Inv X pins σ (upd H a o) { s with heap:=h',toks:=t' }:=I.un (Un.laid k hp (I.hok.fresh hp)) (I.hok.laid k hp new)
theorem Inv.write{x e:Addr}{o:HO}{t':Nat}(I:Inv X pins σ H s)(mu:Mut (H x))(he:e=x\/H e=some (.own x))(k:∀b u,b≠e->s.heap.get? b=some u->h'.get? b=some u)(heo:∃u,h'.get? e=some u)
  (new:ObjOk X.prog X.w (upd H x o) h' x o):Inv X pins σ (upd H x o) { s with heap:=h',toks:=t' }:=I.un (Un.write mu he k heo) (I.hok.write mu he k heo new)
theorem Inv.pins_of{pins':List (Addr×Obj)}(I:Inv X pins σ H s)(h:∀p∈pins',s.heap.get? p.1=some p.2/\H p.1=none/\p.1≠X.env.locals/\p.1∉X.fs/\∀v,p.2.data≠ .cell v):Inv X pins' σ H s :=
 ⟨I.ok,I.os,I.bare,I.base,I.loc,I.cell,I.free,I.freeC,fun p hp=>(AI.mp hp).elim (fun z=>I.pin p (BN _ z)) (h p),I.hok,I.len⟩
theorem Ku{N:List Str}(hN:N.Nodup){i j:Nat}{x:Str}(a:N[i]?=some x)(b:N[j]?=some x):i=j:=by
 obtain⟨h1,e1⟩:=AU.mp a;obtain⟨h2,e2⟩:=AU.mp b;exact(List.getElem_inj hN).mp (e1.trans e2.symm)
theorem Bl{M:Model}{A:Around}{E:Value->Shared->Prop}{i:Nat}{x:Str}{v:V}{u:Value}{Q:Unit->Shared->Prop}(I:Inv X pins σ H s)(hN:X.N.Nodup)(hi:X.N[i]?=some x)(hx:Loc X.env.scope x)(r:RelV v u)
  (h:∀s',Inv X pins (σ.set i (some v)) H s'->(∃a,Heap.SameBut a s.heap s'.heap/\(a=X.env.locals\/X.env.cells.lookup x=some a))->Q () s') (hf:X.fn x=true\/X.env.scope.names.lookup x=some .local:=by first | exact .inl rfl | exact .inr rfl | assumption):wpAny M A (storeName X.env x u) Q E s:=by
 obtain⟨m,hn,hl⟩:=id I.loc;have hcls:(X.env.scope.kind == .class||(X.env.scope.kind == .module&&X.env.locals != X.env.globals))=false:=by rw[I.ok.kind];rfl
 have hiσ:i<σ.length:=by rw[I.len];exact(AU.mp hi).1
 have cne:=I.cne;have tracked:∀{a:Addr} {h':Heap},(∃o,s.heap.get? a=some o/\H a=none)->Heap.SameBut a s.heap h'->HOk X.prog X.w H h':=fun{a h'} ha hs b ob e=>by
  obtain⟨_,_,hfree⟩:=ha;refine(I.hok b ob e).stay (fun c w' hc q=>(hs.2 c ?_).trans q) (fun _ q=>q) fun _ _ q=>q;rintro rfl;rcases hc with rfl | hc
  .rw[hfree]at e;cases e
  .rw[hfree]at hc;cases hc
 rcases hx with hk | hk
 .refine wpAny_storeName_local hk hn (fun h' hn' hs=>?_) hcls;obtain⟨oL,_,_,hoL,_⟩:=id hn;refine h _ ⟨I.ok,I.os,I.bare,⟨fun b o e n hb hx=>?_,fun b o e n hb hx=>?_,I.base.free,fun b o e hx=>?_,I.base.tups,I.base.frzs,I.base.tbls⟩,⟨_,hn',fun j y v' e1 e2 e3=>?_⟩,fun y c e=>?_,I.free,I.freeC,fun p hp=>?_,tracked ⟨oL,hoL,I.free⟩ hs,by simpa using I.len⟩ ⟨_,hs,.inl rfl⟩
  .exact(hs.2 b (BD (BH (AJ e) I.ok.above))).trans (I.base.keep b o e n hb hx)
  .obtain⟨sl,e1⟩:=I.base.slot b o e n hb hx;exact⟨sl,(hs.2 b (BD (BH (AJ e) I.ok.above))).trans e1⟩
  .obtain⟨o',e1⟩:=I.base.there b o e hx;exact⟨o',(hs.2 b (BD (BH (AJ e) I.ok.above))).trans e1⟩
  .by_cases hj:j=i
   .subst hj;rw[hi]at e1;cases e1;rw[List.getElem?_set_self hiσ]at e2;cases e2;exact⟨u,r,.inl ⟨hk,by simp⟩⟩
   .rw[List.getElem?_set_ne (Ne.symm hj)]at e2;obtain⟨u',r',q⟩:=hl j y v' e1 e2 e3;refine⟨u',r',?_⟩;rcases q with⟨k,e⟩ | ⟨k,c,e,z⟩
    .refine .inl ⟨k,?_⟩;have:y≠x:=fun e=>hj (Ku hN e1 (e▸hi));simp[this,e]
    .exact .inr ⟨k,c,e,z.sameBut hs (cne y c e)⟩
  .obtain⟨w',z⟩:=I.cell y c e;exact⟨w',z.sameBut hs (cne y c e)⟩
  .obtain⟨e,n,ne,nf,d⟩:=I.pin p hp;exact⟨(hs.2 p.1 ne).trans e,n,ne,nf,d⟩
 .have hfn:X.fn x=true:=by
   rcases hf with z | z
   .exact z
   .rw[z]at hk;cases hk
  obtain⟨c,hc⟩:=I.ok.has x (.inl hk);obtain⟨w',z⟩:=I.cell x c hc;refine wpAny_storeName_cell I.ok.kind hk hc z (fun h' hc' hs=>?_);obtain⟨oc,hoc,hocd⟩:=id z;refine h { s with heap:=h' } ⟨I.ok,I.os,I.bare,⟨fun b o e n hb hx=>?_,fun b o e n hb hx=>?_,I.base.free,fun b o e hx=>?_,I.base.tups,I.base.frzs,I.base.tbls⟩,⟨m,hn.sameBut hs (Ne.symm (cne x c hc)),fun j y v' e1 e2 e3=>?_⟩,fun y c' e=>?_,I.free,I.freeC,fun p hp=>?_,tracked ⟨oc,hoc,I.freeC x c hc⟩ hs,by simpa using I.len⟩ ⟨c,hs,.inr hc⟩
  .exact(hs.2 b (BD (BH (AJ e) (I.ok.cab x c hfn hc)))).trans (I.base.keep b o e n hb hx)
  .obtain⟨sl,e1⟩:=I.base.slot b o e n hb hx;exact⟨sl,(hs.2 b (BD (BH (AJ e) (I.ok.cab x c hfn hc)))).trans e1⟩
  .obtain⟨o',e1⟩:=I.base.there b o e hx;exact⟨o',(hs.2 b (BD (BH (AJ e) (I.ok.cab x c hfn hc)))).trans e1⟩
  .by_cases hj:j=i
   .subst hj;rw[hi]at e1;cases e1;rw[List.getElem?_set_self hiσ]at e2;cases e2;exact⟨u,r,.inr ⟨.inl hk,c,hc,hc'⟩⟩
   .rw[List.getElem?_set_ne (Ne.symm hj)]at e2;obtain⟨u',r',q⟩:=hl j y v' e1 e2 e3;refine⟨u',r',?_⟩;rcases q with q | ⟨k,c',e,z'⟩
    .exact .inl q
    .refine .inr ⟨k,c',e,z'.sameBut hs ?_⟩;rintro rfl;exact hj (Ku hN e1 (I.ok.inj _ _ _ e hc▸hi))
  .by_cases hcc:c'=c
   .subst hcc;exact⟨_,hc'⟩
   .obtain⟨w2,z2⟩:=I.cell y c' e;exact⟨w2,z2.sameBut hs hcc⟩
  .obtain⟨e,n,ne,nf,d⟩:=I.pin p hp;refine⟨(hs.2 p.1 ?_).trans e,n,ne,nf,d⟩;intro q;rw[q,hoc]at e;have q':oc=p.2:=BV e;exact d w' (by rw[<-q'];exact hocd)
theorem Ks{M:Model}{A:Around}{E:Value->Shared->Prop}{i:Nat}{x:Str}{v:V}{u:Value}{Q:Unit->Shared->Prop}(I:Inv X pins σ H s)(hN:X.N.Nodup)(hi:X.N[i]?=some x)(hx:Loc X.env.scope x)(r:RelV v u)
  (h:∀s',Inv X pins (σ.set i (some v)) H s'->Q () s') (hf:X.fn x=true\/X.env.scope.names.lookup x=some .local:=by first | exact .inl rfl | exact .inr rfl | assumption):wpAny M A (storeName X.env x u) Q E s :=
 Bl I hN hi hx r (fun s' I' _=>h s' I') hf
theorem Inv.call'{s':Shared}{ch:List Addr}(I:Inv X pins σ H s)(ho:s'.os=s.os)(u:Un (frs X.stack) ch H H' s.heap s'.heap)(hok:HOk X.prog X.w H' s'.heap)(hg:AllBare s'.gens)
  (hch:∀b∈ch,(b∈X.ex\/X.s₀.heap.objs.size<=b)/\b≠X.env.locals/\(∀x c,X.env.cells.lookup x=some c->c≠b)/\∀p∈X.pn++pins,p.1≠b):Inv X pins σ H' s':=by
 obtain⟨h',g',d',t',o'⟩:=s';have e:o'=s.os:=ho;subst e;exact I.call (g':=g') (t':=t') (d':=d') u hok hg hch
end
abbrev XK:=Value->Option Addr->Hp->Prop
abbrev St:=List (Option V)
abbrev VK:=V->Hp->Prop
abbrev TE:=St->Hp->VK->Prop
abbrev TT:=St->Hp->(Bool->Hp->Prop)->Prop
abbrev TA:=St->Hp->(List V->Hp->Prop)->Prop
structure Ends where
 nx:St->Hp->Prop
 rt:VK
 bk:St->Hp->Prop:=fun _ _=>False
 ct:St->Hp->Prop:=fun _ _=>False
abbrev TS:=Ends->St->Hp->Prop
def EP(X:Cx)(pins:List (Addr×Obj))(σ:St)(Q:VK)(u:Value)(s':Shared):Prop:=∃v H',Inv X pins σ H' s'/\RelV v u/\Q v H'
def TP(X:Cx)(pins:List (Addr×Obj))(σ:St)(Q:Bool->Hp->Prop)(b:Bool)(s':Shared):Prop:=∃H',Inv X pins σ H' s'/\Q b H'
def AP(X:Cx)(pins:List (Addr×Obj))(σ:St)(Q:List V->Hp->Prop)(us:List Value)(s':Shared):Prop:=∃vs H',Inv X pins σ H' s'/\Vals vs us/\Q vs H'
def SP(X:Cx)(pins:List (Addr×Obj))(D:Ends)(f:Flow)(s':Shared):Prop :=
 match f with
 | .next=>∃σ' H',Inv X pins σ' H' s'/\D.nx σ' H'
 | .brk=>∃σ' H',Inv X pins σ' H' s'/\D.bk σ' H'
 | .cont=>∃σ' H',Inv X pins σ' H' s'/\D.ct σ' H'
 | .ret u=>∃v σ' H',Inv X pins σ' H' s'/\RelV v u/\D.rt v H'
def PE(X:Cx)(e:Expr)(t:TE):Prop :=
 ∀(pins:List (Addr×Obj)) (s:Shared) (σ:St) (H:Hp) (Q:VK),Inv X pins σ H s->t σ H Q->wpAny (model X.prog X.w) X.A (eval e X.env) (EP X pins σ Q) X.xe s
def PT(X:Cx)(e:Expr)(t:TT):Prop :=
 ∀(pins:List (Addr×Obj)) (s:Shared) (σ:St) (H:Hp) (Q:Bool->Hp->Prop),Inv X pins σ H s->t σ H Q->wpAny (model X.prog X.w) X.A (isTrue e X.env (eval e X.env)) (TP X pins σ Q) X.xe s
def PW(X:Cx)(e:Expr)(t:TT):Prop :=
 ∀(whole:Sem Value) (pins:List (Addr×Obj)) (s:Shared) (σ:St) (H:Hp) (Q:Bool->Hp->Prop),Inv X pins σ H s->t σ H Q->wpAny (model X.prog X.w) X.A (isTrue e X.env whole) (TP X pins σ Q) X.xe s
theorem PW.pt{X:Cx}{e:Expr}{t:TT}(h:PW X e t):PT X e t:=h _
def PA(X:Cx)(es:List Expr)(t:TA):Prop :=
 ∀(pos:Pos) (pins:List (Addr×Obj)) (s:Shared) (σ:St) (H:Hp) (Q:List V->Hp->Prop),Inv X pins σ H s->t σ H Q->wpAny (model X.prog X.w) X.A (spliced (backTo pos (starEach es X.env))) (AP X pins σ Q) X.xe s
def PS(X:Cx)(st:Stmt)(t:TS):Prop :=
 ∀(pins:List (Addr×Obj)) (s:Shared) (σ:St) (H:Hp) (D:Ends),Inv X pins σ H s->t D σ H->wpAny (model X.prog X.w) X.A (exec st X.env) (SP X pins D) X.xe s
def PSs(X:Cx)(st:List Stmt)(t:TS):Prop :=
 ∀(pins:List (Addr×Obj)) (s:Shared) (σ:St) (H:Hp) (D:Ends),Inv X pins σ H s->t D σ H->wpAny (model X.prog X.w) X.A (execs st X.env) (SP X pins D) X.xe s
theorem thn{α:Type}{t:Sem α}{Q Q':α->Shared->Prop}{M:Model}{A:Around}{E:Value->Shared->Prop}{s:Shared}(h:wpAny M A t Q E s)(hQ:∀a s,Q a s->Q' a s):wpAny M A t Q' E s:=CA h hQ fun _ _ x=>x
section
variable{X:Cx}
def Ob(i:Nat):TE:=fun σ H Q=>∃v,σ[i]?=some (some v)/\Q v H
def tC(v:V):TE:=fun _ H Q=>Q v H
theorem Wh{i:Nat}{x:Str}{pos:Pos}(hN:X.N[i]?=some x)(hv:Vis X.env.scope x)(hd:(x ==("__debug__":Str))=false:=by decide)(hcd:(x ==("__classdict__":Str))=false:=by decide):PE X (.Name x pos) (Ob i):=by
 intro pins s σ H Q I h;obtain⟨v,e,h⟩:=h;obtain⟨m,hn,hl⟩:=I.loc;obtain⟨u,r,l⟩:=hl i x v hN e hv;have fin:EP X pins σ Q u s:=⟨v,H,I,r,h⟩;rcases l with⟨hk,hm⟩ | ⟨hk,c,hc,hcell⟩
 .exact wpAny_Name (wpAny_loadName_local I.ok.kind hk hn hm fin) hd
 .rcases hk with hk | hk
  .exact wpAny_Name (wpAny_loadName_cell I.ok.kind hk hc hcell fin) hd
  .exact wpAny_Name (wpAny_loadName_free I.ok.kind hk hc hcell fin hcd) hd
theorem B3{i j pos}:PE X (.Constant (.int i) j pos) (tC (.int i)):=fun _ _ _ H _ I h=>wpAny_Constant_int ⟨.int i,H,I.tok _,⟨_,rfl⟩,h⟩
theorem b7{b j pos}:PE X (.Constant (.bool b) j pos) (tC (.bl b)):=fun _ _ _ H _ I h=>Constant_bool ⟨.bl b,H,I,rfl,h⟩
theorem Cs{j pos}:PE X (.Constant .none j pos) (tC .non):=fun _ _ _ H _ I h=>Constant_none ⟨.non,H,I,rfl,h⟩
theorem P0{x j pos}:PE X (.Constant (.str x) j pos) (tC (.str x)):=fun _ _ _ H _ I h=>Calls.Constant_str ⟨.str x,H,I.tok _,⟨_,rfl⟩,h⟩
def Gl(X:Cx)(x:Str):Prop:=X.env.kindOf x=some .globalImplicit
theorem Df{E:Value->Shared->Prop}{pins:List (Addr×Obj)}{s:Shared}{σ:St}{H:Hp}{x:Str}{u:Value}{pos:Pos}{Q:Value->Shared->Prop}(I:Inv X pins σ H s)(hg:Gl X x)(hm:X.mg x=some u)(h:Q u s)
  (hd:(x ==("__debug__":Str))=false:=by decide):wpAny (model X.prog X.w) X.A (eval (.Name x pos) X.env) Q E s :=
 Calls.Name_function_global I.ok.kind hg (Calls.loadGlobal_global (by rw[I.ok.glob];exact I.mod.glob.keeps I.bk) hm h) hd
theorem t6{E:Value->Shared->Prop}{pins:List (Addr×Obj)}{s:Shared}{σ:St}{H:Hp}{x:Str}{u:Value}{pos:Pos}{Q:Value->Shared->Prop}(I:Inv X pins σ H s)(hg:Gl X x)(hm:X.mg x=none)(hv:bootBuiltins x=some u)(h:Q u s)
  (hn:x≠ "__name__":=by decide) (hd:(x ==("__debug__":Str))=false:=by decide):wpAny (model X.prog X.w) X.A (eval (.Name x pos) X.env) Q E s:=by
 obtain⟨mb,h1,h2⟩:=I.mod.blt;exact Calls.Name_function_global I.ok.kind hg (Calls.loadGlobal_builtin (by rw[I.ok.glob];exact I.mod.glob.keeps I.bk) hm (by rw[I.ok.blt];exact h1.keeps I.bk) ((h2 x hn).trans hv) h) hd
theorem Je{x:Str}{v:V}{u:Value}{pos:Pos}(hg:Gl X x)(hm:X.mg x=some u)(r:RelV v u)(hd:(x ==("__debug__":Str))=false:=by decide):PE X (.Name x pos) (tC v) :=
 fun _ _ _ H _ I h=>Df I hg hm ⟨v,H,I,r,h⟩ hd
theorem Zb{x:Str}{v:V}{u:Value}{pos:Pos}(hg:Gl X x)(hm:X.mg x=none)(hv:bootBuiltins x=some u)(r:RelV v u)(hn:x≠ "__name__":=by decide)(hd:(x ==("__debug__":Str))=false:=by decide):PE X (.Name x pos) (tC v) :=
 fun _ _ _ H _ I h=>t6 I hg hm hv ⟨v,H,I,r,h⟩ hn hd
variable{a b:Expr}{ta tb:TE}{pos:Pos}
def tB(t:TE):TT:=fun σ H Q=>t σ H fun x H1=>∃c,x = .bl c/\Q c H1
theorem J0{e:Expr}{t:TE}(h:PE X e t)(he:∀whole,isTrue e X.env whole =(do let v <-whole;standAt e.pos;holding [v] (truthy v)):=by intro _;rfl):PT X e (tB t):=by
 intro pins s σ H Q I hw;refine isTrue_plain (thn (h pins s σ H _ I hw) fun v s1 ⟨x,H1,I1,r1,q1⟩=>?_) (he _);obtain⟨d,rfl,q⟩:=q1;cases r1;exact CO ⟨H1,I1,q⟩
variable{tA tB':TT}{rest:List Expr}
def zFf(t u:TT):TT:=fun σ H Q=>t σ H fun c H1=>if c=true then u σ H1 Q else Q false H1
def tOr(t u:TT):TT:=fun σ H Q=>t σ H fun c H1=>if c=true then Q true H1 else u σ H1 Q
def zEz(t:TT):TT:=fun σ H Q=>t σ H fun c H1=>Q (!c) H1
theorem Ie(ha:PT X a tA):PW X (.BoolOp .And [a] pos) tA:=by
 intro wh pins s σ H Q I h;refine isTrue_and (thn (ha pins s σ H Q I h) fun c s1 e=>?_);cases c with
 | true=>exact isTrue_and_nil e
 | false=>exact e
theorem S4(ha:PT X a tA):PW X (.BoolOp .Or [a] pos) tA:=by
 intro wh pins s σ H Q I h;refine isTrue_or (thn (ha pins s σ H Q I h) fun c s1 e=>?_);cases c with
 | false=>exact isTrue_or_nil e
 | true=>exact e
theorem Qa(ha:PT X a tA)(hb:PW X (.BoolOp .And (b::rest) pos) tB'):PW X (.BoolOp .And (a::b::rest) pos) (zFf tA tB'):=by
 intro wh pins s σ H Q I h;refine isTrue_and (thn (ha pins s σ H _ I h) fun c s1 ⟨H1,I1,q1⟩=>?_);cases c with
 | true=>exact hb wh pins s1 σ H1 Q I1 q1
 | false=>exact⟨H1,I1,q1⟩
theorem y4(ha:PT X a tA)(hb:PW X (.BoolOp .Or (b::rest) pos) tB'):PW X (.BoolOp .Or (a::b::rest) pos) (tOr tA tB'):=by
 intro wh pins s σ H Q I h;refine isTrue_or (thn (ha pins s σ H _ I h) fun c s1 ⟨H1,I1,q1⟩=>?_);cases c with
 | true=>exact⟨H1,I1,q1⟩
 | false=>exact hb wh pins s1 σ H1 Q I1 q1
theorem K4(ha:PT X a tA):PT X (.UnaryOp .Not a pos) (zEz tA):=by
 intro pins s σ H Q I h;exact isTrue_not (ha pins s σ H (fun c H1=>Q (!c) H1) I h)
def zDo(ta tb:TE):TE:=fun σ H Q=>ta σ H fun x H1=>∃c,x = .bl c/\if c=true then tb σ H1 Q else Q (.bl false) H1
def zFm(ta tb:TE):TE:=fun σ H Q=>ta σ H fun x H1=>∃c,x = .bl c/\if c=true then Q (.bl true) H1 else tb σ H1 Q
def zDl(ta:TE):TE:=fun σ H Q=>ta σ H fun x H1=>∃c,x = .bl c/\Q (.bl (!c)) H1
theorem O3{op}{t:TE}(h:PE X a t):PE X (.BoolOp op [a] pos) t:=fun pins s σ H Q I hw=>BoolOp_one (h pins s σ H Q I hw)
theorem J8(ha:PE X a ta)(hb:PE X (.BoolOp .And (b::rest) pos) tb):PE X (.BoolOp .And (a::b::rest) pos) (zDo ta tb):=by
 intro pins s σ H Q I h;refine BoolOp_and (thn (ha pins s σ H _ I h) fun v s1 ⟨x,H1,I1,r1,q1⟩=>?_);obtain⟨c,rfl,q1⟩:=q1;cases r1;refine CO ?_;cases c with
 | true=>exact hb pins s1 σ H1 Q I1 q1
 | false=>exact⟨.bl false,H1,I1,rfl,q1⟩
theorem zCy(ha:PE X a ta)(hb:PE X (.BoolOp .Or (b::rest) pos) tb):PE X (.BoolOp .Or (a::b::rest) pos) (zFm ta tb):=by
 intro pins s σ H Q I h;refine BoolOp_or (thn (ha pins s σ H _ I h) fun v s1 ⟨x,H1,I1,r1,q1⟩=>?_);obtain⟨c,rfl,q1⟩:=q1;cases r1;refine CO ?_;cases c with
 | false=>exact hb pins s1 σ H1 Q I1 q1
 | true=>exact⟨.bl true,H1,I1,rfl,q1⟩
theorem Wb(ha:PE X a ta):PE X (.UnaryOp .Not a pos) (zDl ta):=by
 intro pins s σ H Q I h;refine UnaryOp_ (thn (ha pins s σ H _ I h) fun v s1 ⟨x,H1,I1,r1,q1⟩=>?_);obtain⟨c,rfl,q1⟩:=q1;cases r1;exact not_of (CO ⟨.bl (!c),H1,I1,rfl,q1⟩)
def tIf(t:TT)(ta tb:TE):TE:=fun σ H Q=>t σ H fun c H1=>if c=true then ta σ H1 Q else tb σ H1 Q
theorem Mc{c:Expr}(hc:PT X c tA)(ha:PE X a ta)(hb:PE X b tb):PE X (.IfExp c a b pos) (tIf tA ta tb):=by
 intro pins s σ H Q I h;refine wpAny_IfExp (thn (hc pins s σ H _ I h) fun d s1 ⟨H1,I1,q1⟩=>?_);cases d with
 | true=>exact ha pins s1 σ H1 Q I1 q1
 | false=>exact hb pins s1 σ H1 Q I1 q1
end
def SqL(K:PySem.W.Frag)(H:Hp)(a:Addr)(xs:List V):Prop :=
 Rd H a (.lst xs) \/
  ∃(o:Obj) (its:Array Value) (n:Nat),K.lookup a=some o/\o.cls = .type "list"/\o.dict=none/\o.data = .seq its n/\its.size<=sizeLine/\Vals xs its.toList
def SqT(K:PySem.W.Frag)(H:Hp)(a:Addr)(xs:List V):Prop :=
 Rd H a (.tup xs) \/
  ∃(o:Obj) (its:Array Value) (n:Nat),K.lookup a=some o/\o.cls = .type "tuple"/\o.data = .seq its n/\its.size<=sizeLine/\Vals xs its.toList
def zFt:Value->Option V
 | .none=>some .non
 | .bool b=>some (.bl b)
 | .int i _=>some (.int i)
 | .str x _=>some (.str x)
 | .bytes b _=>some (.byt b)
 | .float b _=>some (.flt b)
 | .ref a=>some (.ref a)
 | .type n=>some (.ty n)
 | _=>none
theorem RelV.abs{x:V}{u:Value}(r:RelV x u):zFt u=some x:=by
 cases x with
 | non=>cases r;rfl
 | bl _=>cases r;rfl
 | int _=>obtain⟨t,rfl⟩:=r;rfl
 | str _=>obtain⟨t,rfl⟩:=r;rfl
 | byt _=>obtain⟨t,rfl⟩:=r;rfl
 | flt _=>obtain⟨t,rfl⟩:=r;rfl
 | ref _=>cases r;rfl
 | ty _=>cases r;rfl
theorem RelV.inj{x y:V}{u:Value}(r:RelV x u)(q:RelV y u):x=y:=BV (r.abs.symm.trans q.abs)
theorem Vals.inj:∀{xs ys:List V} {us:List Value},Vals xs us->Vals ys us->xs=ys
 | _,_,_,.nil,.nil=>rfl
 | _,_,_,.cons r t,.cons r' t'=>by rw[r.inj r',Vals.inj t t']
section
variable{X:Cx}{pins:List (Addr×Obj)}{σ:St}{H:Hp}{s:Shared}{a:Addr}{xs ys:List V}
theorem SqL.of{K:PySem.W.Frag}(h:H a=some (.lst xs)):SqL K H a xs:=.inl (.inl h)
theorem SqT.of{K:PySem.W.Frag}(h:H a=some (.tup xs)):SqT K H a xs:=.inl (.inl h)
theorem Inv.list(I:Inv X pins σ H s)(h:SqL X.K H a xs):∃its:List Value,Vals xs its/\PlainL s.heap a its.toArray/\xs.length<=sizeLine:=by
 rcases h with h | ⟨o,its,n,hk,hc,hd,hs,hz,r⟩
 .obtain⟨z,its,n,r,e⟩:=h.ok I.hok;exact⟨its,r,⟨_,n,e,rfl,rfl,rfl⟩,z⟩
 .refine⟨its.toList,r,⟨o,n,I.kIn a o hk,hc,hd,by simpa using hs⟩,?_⟩;have e:=r.length;simp only[AQ]at e;omega
theorem Inv.tuple(I:Inv X pins σ H s)(h:SqT X.K H a xs):∃its:List Value,Vals xs its/\IsTup s.heap a its.toArray/\xs.length<=sizeLine:=by
 rcases h with h | ⟨o,its,n,hk,hc,hs,hz,r⟩
 .obtain⟨z,its,r,p⟩:=h.ok I.hok;exact⟨its,r,p,z⟩
 .refine⟨its.toList,r,⟨o,I.kIn a o hk,hc,n,by simpa using hs⟩,?_⟩;have e:=r.length;simp only[AQ]at e;omega
theorem Inv.list_inj(I:Inv X pins σ H s)(h:SqL X.K H a xs)(h':SqL X.K H a ys):xs=ys:=by
 obtain⟨its,r,⟨o,n,e,_,_,d⟩,_⟩:=I.list h;obtain⟨its',r',⟨o',n',e',_,_,d'⟩,_⟩:=I.list h';rw[e]at e';cases e';rw[d]at d';injection d' with d1 _;have:its=its':=by simpa using congrArg Array.toList d1
 subst this;exact r.inj r'
theorem Inv.tuple_inj(I:Inv X pins σ H s)(h:SqT X.K H a xs)(h':SqT X.K H a ys):xs=ys:=by
 obtain⟨its,r,⟨o,e,_,n,d⟩,_⟩:=I.tuple h;obtain⟨its',r',⟨o',e',_,n',d'⟩,_⟩:=I.tuple h';rw[e]at e';cases e';rw[d]at d';injection d' with d1 _;have:its=its':=by simpa using congrArg Array.toList d1
 subst this;exact r.inj r'
end
abbrev Cx.wish(X:Cx)(E:Value->Shared->Prop):Cx:={ X with xe:=E }
abbrev Cx.nox(X:Cx):Cx:=X.wish fun _ _=>False
theorem Cx.Ok.wish{X:Cx}(ok:X.Ok)(E:Value->Shared->Prop):(X.wish E).Ok :=
 ⟨ok.mod,ok.kind,ok.glob,ok.blt,ok.above,ok.inj,ok.has,ok.cab,ok.hd,ok.frames,ok.stk,ok.exf,ok.bs,ok.bsz,ok.noex,ok.exfs,ok.funs,ok.frf⟩
theorem Cx.Ok.unwish{X:Cx}{E:Value->Shared->Prop}(ok:(X.wish E).Ok):X.Ok :=
 ⟨ok.mod,ok.kind,ok.glob,ok.blt,ok.above,ok.inj,ok.has,ok.cab,ok.hd,ok.frames,ok.stk,ok.exf,ok.bs,ok.bsz,ok.noex,ok.exfs,ok.funs,ok.frf⟩
section
variable{X:Cx}{pins:List (Addr×Obj)}{σ:St}{H:Hp}{s:Shared}{E:Value->Shared->Prop}
theorem Inv.wish(I:Inv X pins σ H s)(E:Value->Shared->Prop):Inv (X.wish E) pins σ H s:=⟨I.ok.wish E,I.os,I.bare,I.base,I.loc,I.cell,I.free,I.freeC,I.pin,I.hok,I.len⟩
theorem Inv.unwish(I:Inv (X.wish E) pins σ H s):Inv X pins σ H s:=⟨I.ok.unwish,I.os,I.bare,I.base,I.loc,I.cell,I.free,I.freeC,I.pin,I.hok,I.len⟩
theorem SP.unwish{D:Ends}{f:Flow}{s':Shared}(h:SP (X.wish E) pins D f s'):SP X pins D f s':=by
 cases f with
 | next=>obtain⟨σ',H',I,q⟩:=h;exact⟨σ',H',I.unwish,q⟩
 | brk=>obtain⟨σ',H',I,q⟩:=h;exact⟨σ',H',I.unwish,q⟩
 | cont=>obtain⟨σ',H',I,q⟩:=h;exact⟨σ',H',I.unwish,q⟩
 | ret u=>obtain⟨v,σ',H',I,r,q⟩:=h;exact⟨v,σ',H',I.unwish,r,q⟩
theorem PSs.nox{st:List Stmt}{t:TS}(h:PSs X.nox st t):PSs X st t:=fun pins s σ H D I hw =>
 CA (h pins s σ H D (I.wish _) hw) (fun _ _ q=>q.unwish) fun _ _ z=>False.elim z
end
section
variable{X:Cx}{st:Stmt}{rest:List Stmt}{t u:TS}{e:Expr}{te:TE}{pos:Pos}
def zDw:TS:=fun D σ H=>D.nx σ H
def zAs(t u:TS):TS:=fun D σ H=>t { D with nx:=u D } σ H
theorem D0:PSs X [] zDw:=fun _ _ σ H _ I h=>wpAny_execs_nil ⟨σ,H,I,h⟩
theorem B1(h1:PS X st t)(h2:PSs X rest u):PSs X (st::rest) (zAs t u):=by
 intro pins s σ H D I h;refine wpAny_execs_cons (thn (h1 pins s σ H { D with nx:=u D } I h) fun f s1 q=>?_);cases f with
 | next =>
  obtain⟨σ',H',I',q⟩:=q;exact h2 pins s1 σ' H' D I' q
 | ret v=>exact q
 | brk=>exact q
 | cont=>exact q
theorem B4(h1:PS X st t):PSs X [st] t:=by
 intro pins s σ H D I h;refine wpAny_execs_cons (thn (h1 pins s σ H D I h) fun f s1 q=>?_);cases f with
 | next=>exact wpAny_execs_nil q
 | ret v=>exact q
 | brk=>exact q
 | cont=>exact q
theorem Inv.quiet{pins:List (Addr×Obj)}{σ:St}{H:Hp}{s:Shared}(I:Inv X pins σ H s):interactive X.env=false:=by simp[interactive,I.ok.kind]
def zDn(te:TE):TS:=fun D σ H=>te σ H fun _ H1=>D.nx σ H1
theorem G0(he:PE X e te)(hs:swapsWith e none pos.line X.env=pure false:=by rfl):PS X (.Expr e pos) (zDn te):=by
 intro pins s σ H D I h;exact wpAny_Expr_any (thn (he pins s σ H _ I h) fun v s1 ⟨x,H1,I1,r1,q1⟩=>⟨σ,H1,I1,q1⟩) I.quiet hs
def zFx(te:TE):TS:=fun D σ H=>te σ H D.rt
theorem C0(he:PE X e te):PS X (.Return (some e) pos) (zFx te):=by
 intro pins s σ H D I h;exact wpAny_Return_some (thn (he pins s σ H _ I h) fun v s1 ⟨x,H1,I1,r1,q1⟩=>⟨x,σ,H1,I1,r1,q1⟩)
def zEv(c:TT)(t u:TS):TS:=fun D σ H=>c σ H fun b H1=>if b=true then t D σ H1 else u D σ H1
theorem I0{c:Expr}{a b:List Stmt}{tc:TT}(hc:PT X c tc)(ha:PSs X a t)(hb:PSs X b u):PS X (.If c a b pos) (zEv tc t u):=by
 intro pins s σ H D I h;refine wpAny_If (thn (hc pins s σ H _ I h) fun d s1 ⟨H1,I1,q1⟩=>?_);cases d with
 | true=>exact ha pins s1 σ H1 D I1 q1
 | false=>exact hb pins s1 σ H1 D I1 q1
def Zr:TS:=fun _ _ _=>False
theorem X3:PS X st Zr:=fun _ _ _ _ _ _ h=>h.elim
end
abbrev TG:=V->St->Hp->(St->Hp->Prop)->Prop
abbrev TGs:=List V->St->Hp->(St->Hp->Prop)->Prop
def PG(X:Cx)(target:Expr)(t:TG):Prop :=
 ∀(pins:List (Addr×Obj)) (s:Shared) (σ:St) (H:Hp) (v:V) (u:Value) (Q:St->Hp->Prop),Inv X pins σ H s->RelV v u->t v σ H Q ->
  wpAny (model X.prog X.w) X.A (assign target X.env u) (fun _ s'=>∃σ' H',Inv X pins σ' H' s'/\Q σ' H') X.xe s
def PGs(X:Cx)(ts:List Expr)(t:TGs):Prop :=
 ∀(pins:List (Addr×Obj)) (s:Shared) (σ:St) (H:Hp) (vs:List V) (us:List Value) (Q:St->Hp->Prop),Inv X pins σ H s->Vals vs us->t vs σ H Q ->
  wpAny (model X.prog X.w) X.A (assignInOrder ((assignEach ts X.env).map (·.2)) us) (fun _ s'=>∃σ' H',Inv X pins σ' H' s'/\Q σ' H') X.xe s
abbrev TSet:=V->V->V->Hp->(Hp->Prop)->Prop
def zEk(X:Cx)(t:TSet):Prop :=
 ∀(pins:List (Addr×Obj)) (s:Shared) (σ:St) (H:Hp) (o i v:V) (ov iv u:Value) (Q:Hp->Prop),Inv X pins σ H s->RelV o ov->RelV i iv->RelV v u->t o i v H Q ->
  wpAny (model X.prog X.w) X.A (setItem ov iv u) (fun _ s'=>∃H',Inv X pins σ H' s'/\Q H') X.xe s
section
variable{X:Cx}{pos:Pos}
def S7(i:Nat):TG:=fun v σ H Q=>Q (σ.set i (some v)) H
theorem D6{i:Nat}{x:Str}(hN:X.N.Nodup)(hi:X.N[i]?=some x)(hx:Loc X.env.scope x)(hf:X.fn x=true\/X.env.scope.names.lookup x=some .local:=by first | exact .inl rfl | exact .inr rfl | assumption):PG X (.Name x pos) (S7 i):=by
 intro pins s σ H v u Q I r h;exact wpAny_assign_Name (Ks I hN hi hx r (fun s' I'=>⟨_,H,I',h⟩) hf)
def zDv:TGs:=fun vs σ H Q=>vs = []/\Q σ H
def Qk(t:TG)(u:TGs):TGs:=fun vs σ H Q=>∃v r,vs=v::r/\t v σ H fun σ' H'=>u r σ' H' Q
theorem J2:PGs X [] zDv:=by
 intro pins s σ H vs us Q I r h;obtain⟨e,h⟩:=h;subst e;cases r;exact assignInOrder_nil ⟨σ,H,I,h⟩
theorem C2{e:Expr}{es:List Expr}{t:TG}{u:TGs}(h1:PG X e t)(h2:PGs X es u)
  (hs:(assignEach (e::es) X.env).map (·.2)=assign e X.env ::(assignEach es X.env).map (·.2):=by rfl):PGs X (e::es) (Qk t u):=by
 intro pins s σ H vs us Q I r h;obtain⟨v,vr,e1,h⟩:=h;subst e1;cases r with
 | cons r rr =>
  rw[hs];refine assignInOrder_cons (thn (h1 pins s σ H _ _ _ I r h) fun _ s1 ⟨σ1,H1,I1,q1⟩=>?_);exact h2 pins s1 σ1 H1 _ _ Q I1 rr q1
def zCm(K:PySem.W.Frag)(n:Nat)(t:TGs):TG:=fun v σ H Q=>∃a xs,v = .ref a/\SqT K H a xs/\xs.length=n/\t xs σ H Q
theorem Zu{es:List Expr}{k:Nat}{t:TGs}{n:Nat}(hc:X.calm=true)(h:PGs X es t)
  (hn:(assignEach es X.env).length=n:=by rfl) (hst:(assignEach es X.env).findIdx? (·.1)=none:=by rfl):PG X (.Tuple es k pos) (zCm X.K n t):=by
 intro pins s σ H v u Q I r hw;obtain⟨a,xs,e1,hq,hl,hw⟩:=hw;subst e1;cases r;obtain⟨its,rv,ht,hz⟩:=I.tuple hq;refine assign_Tuple_tuple (I.ok.hd hc) ht (by simp[hn,<-hl,rv.length]) hst fun h' hx=>?_;have I1:Inv X pins σ H { s with heap:=h' }:=I.kept (t':=s.toks) fun b o e=>hx b o (BD (AJ e)) e;exact h pins _ σ H xs _ Q I1 (by simpa using rv) hw
def zFp(to ti:TE)(t:TSet):TG:=fun v σ H Q=>to σ H fun o H1=>ti σ H1 fun i H2=>t o i v H2 fun H3=>Q σ H3
theorem Sa{o i:Expr}{to ti:TE}{t:TSet}(ho:PE X o to)(hi:PE X i ti)(hs:zEk X t)
  (ha:∀v,assign (.Subscript o i pos) X.env v =(do
   let ov <-holding [v] (eval o X.env)
   let iv <-holding [v,ov] (eval i X.env)
   standAt pos
   holding [v,ov,iv] (setItem ov iv v)
   release [v,ov,iv] []):=by intro _;rfl):PG X (.Subscript o i pos) (zFp to ti t):=by
 intro pins s σ H v u Q I r h;rw[ha];refine AB (BU (thn (ho pins s σ H _ I h) fun ov s1 ⟨x,H1,I1,r1,q1⟩=>?_));refine AB (BU (thn (hi pins s1 σ H1 _ I1 q1) fun iv s2 ⟨y,H2,I2,r2,q2⟩=>?_));refine AB (FC (AB (BU (thn (hs pins s2 σ H2 x y v ov iv u _ I2 r1 r2 r q2) fun _ s3 ⟨H3,I3,q3⟩=>?_))));exact wpAny_release ⟨σ,H3,I3,q3⟩
def zCn(te:TE)(g:TG):TS:=fun D σ H=>te σ H fun x H1=>g x σ H1 D.nx
theorem Hh{tg e:Expr}{te:TE}{g:TG}(he:PE X e te)(hg:PG X tg g)(hs:swapsWithSole [tg] e pos.line X.env=pure false:=by rfl)(hw:swappedStores [tg] e X.env=pure none:=by rfl)
  (h1:(assignEach [tg] X.env).map (·.2) = [assign tg X.env]:=by rfl):PS X (.Assign [tg] e pos) (zCn te g):=by
 intro pins s σ H D I h;refine wpAny_Assign_stores (thn (he pins s σ H _ I h) fun v s1 ⟨x,H1,I1,r1,q1⟩=>?_) hs hw;rw[h1];exact thn (hg pins s1 σ H1 x v _ I1 r1 q1) fun _ s2 q=>q
theorem C5{i:Nat}{x:Str}{e:Expr}{te:TE}{pos':Pos}(hN:X.N.Nodup)(hi:X.N[i]?=some x)(hx:Loc X.env.scope x)(he:PE X e te)(hs:swapsWith e (some (.Name x pos')) pos.line X.env=pure false:=by rfl)(hf:X.fn x=true\/X.env.scope.names.lookup x=some .local:=by first | exact .inl rfl | exact .inr rfl | assumption) :
  PS X (.Assign [.Name x pos'] e pos) (zCn te (S7 i)):=by
 intro pins s σ H D I h;refine wpAny_Assign_Name (thn (he pins s σ H _ I h) fun v s1 ⟨y,H1,I1,r1,q1⟩=>?_) hs;exact Ks I1 hN hi hx r1 (fun s2 I2=>⟨_,H1,I2,q1⟩) hf
def Zk(c:TT)(tb:TS):TS:=fun D σ H=>∃W:Nat->St->Hp->Prop,(∃m,W m σ H)/\∀m σ H,W m σ H ->
 c σ H fun b H1=>if b=true then ∃N:St->Hp->Prop,(∀σ' H',N σ' H'->∃m',m' < m/\W m' σ' H')/\tb { D with nx:=N,ct:=N,bk:=D.nx } σ H1 else D.nx σ H1
theorem Kl{c:Expr}{body:List Stmt}{tc:TT}{tb:TS}(hp:PassesOwn (model X.prog X.w) X.A X.env X.xe)(hc:PT X c tc)(hb:PSs X body tb):PS X (.While c body [] pos) (Zk tc tb):=by
 intro pins s σ H D I h;obtain⟨W,⟨m0,w0⟩,turn⟩:=h;refine wpAny_While (codeAny_whileLoop (fun n s'=>∃σ' H',Inv X pins σ' H' s'/\W n σ' H') ?_ m0 ⟨σ,H,I,w0⟩);rintro n s1 ⟨σ1,H1,I1,w1⟩;refine EZ hp (thn (hc pins s1 σ1 H1 _ I1 (turn n σ1 H1 w1)) fun b s2 ⟨H2,I2,q2⟩=>?_);cases b with
 | true =>
  obtain⟨N,hN,q2⟩:=q2;rw[AY rfl];refine EZ hp (thn (hb pins s2 σ1 H2 _ I2 q2) fun f s3 q3=>?_);cases f with
  | next =>
   obtain⟨σ3,H3,I3,n3⟩:=q3;obtain⟨m',hm,w3⟩:=hN σ3 H3 n3;exact⟨m',hm,σ3,H3,I3,w3⟩
  | cont =>
   obtain⟨σ3,H3,I3,n3⟩:=q3;obtain⟨m',hm,w3⟩:=hN σ3 H3 n3;exact⟨m',hm,σ3,H3,I3,w3⟩
  | brk=>exact q3
  | ret v=>exact q3
 | false =>
  rw[AS AZ];exact wpAny_execs_nil ⟨σ1,H2,I2,q2⟩
end
structure It where
 go:Nat->Hp->Prop
 yld:Nat->Hp->V->Hp->Prop
 stop:Nat->Hp->Prop
def Aa(X:Cx)(pins:List (Addr×Obj))(H:Hp)(b:Addr):Prop :=
 H b=none/\b≠X.env.locals/\b∉X.fs/\(b∈X.ex\/X.s₀.heap.objs.size<=b)/\(∀x c,X.env.cells.lookup x=some c->c≠b)/\∀p∈X.pn++pins,p.1≠b
theorem Inv.fpOk{X:Cx}{pins:List (Addr×Obj)}{σ:St}{H H':Hp}{s:Shared}{b:Addr}(I:Inv X pins σ H s)(hb:s.heap.objs.size<=b)(hn:H' b=none):Aa X pins H' b:=by
 refine⟨hn,GP (BH I.lt hb),I.nofs hb,.inr (Nat.le_trans I.sz hb),fun x c e z=>?_,fun p hp z=>?_⟩
 .obtain⟨v,q⟩:=I.cell x c e;exact absurd (BH q.lt (by rw[z];exact hb)) (CK _)
 .exact absurd (BH (AJ (I.pin p hp).1) (by rw[z];exact hb)) (CK _)
structure Turn(P:Program)(w:World)(K:PySem.W.Frag)(tg:Expr)(J:It)(fp:List Addr)(it:Addr)(tn:Nat->Heap->Prop):Prop where
 mem:it∈fp
 obj:∀i h,tn i h->∀b∈fp,∃o,h.get? b=some o/\∀v,o.data≠ .cell v
 keep:∀i h h',tn i h->(∀b∈fp,∀o,h.get? b=some o->h'.get? b=some o)->tn i h'
 item:∀(X:Cx),X.prog=P->X.w=w->X.K=K->X.calm=true->∀(i:Nat) (pins:List (Addr×Obj)) (s:Shared) (σ:St) (H:Hp) (E:Value->Shared->Prop),Inv X pins σ H s->(∀b∈fp,Aa X pins H b)->tn i s.heap->J.go i H ->
  wpAny (model P w) X.A (pyNext (.ref it)) (fun r s1=>∃u,r=some u /\
   wpAny (model P w) X.A (letOwnedTupleGo tg (.ref it) u) (fun _ s2=>∃x H',Inv X pins σ H' s2/\RelV x u/\J.yld i H x H'/\tn (i+1) s2.heap/\∀b∈fp,H' b=none) E s1) E s
 done:∀(X:Cx),X.prog=P->X.w=w->X.K=K->X.calm=true->∀(i:Nat) (pins:List (Addr×Obj)) (s:Shared) (σ:St) (H:Hp) (E:Value->Shared->Prop),Inv X pins σ H s->(∀b∈fp,Aa X pins H b)->tn i s.heap->J.stop i H ->
  wpAny (model P w) X.A (pyNext (.ref it)) (fun r s1=>r=none/\Inv X pins σ H s1) E s
 self:∀(A:Around) (i:Nat) (s:Shared) (Q:Value->Shared->Prop) (E:Value->Shared->Prop),tn i s.heap->Q (.ref it) s->wpAny (model P w) A (pyIter (.ref it)) Q E s
abbrev TI:=St->Hp->(It->Hp->Prop)->Prop
def PIE(X:Cx)(pins:List (Addr×Obj))(σ:St)(tg:Expr)(R:It->Hp->Prop)(itv:Value)(s2:Shared):Prop :=
 ∃(it:Addr) (fp:List Addr) (tn:Nat->Heap->Prop) (J:It) (H':Hp),itv = .ref it/\Inv X pins σ H' s2/\Turn X.prog X.w X.K tg J fp it tn/\tn 0 s2.heap/\(∀b∈fp,Aa X pins H' b)/\R J H'
def PI(X:Cx)(tg iter:Expr)(wi:TI):Prop :=
 ∀(pins:List (Addr×Obj)) (s:Shared) (σ:St) (H:Hp) (R:It->Hp->Prop),Inv X pins σ H s->wi σ H R ->
  wpAny (model X.prog X.w) X.A (eval iter X.env) (fun v s1=>wpAny (model X.prog X.w) X.A (pyIter v) (PIE X pins σ tg R) X.xe s1) X.xe s
theorem Ws{M:Model}{A:Around}{E:Value->Shared->Prop}{s:Shared}{tg:Expr}{it:Addr}{u:Value}{o:Obj}{n:String}{vs:Array Value}{Q:Unit->Shared->Prop}(ho:s.heap.get? it=some o)(hc:o.cls = .type n)(hd:o.data = .fields vs)
    (hn:["enumerate", "zip", "dict_itemiterator", "dict_reverseitemiterator", "odict_iterator", "itertools.zip_longest", "itertools.pairwise"].contains n=false) (hQ:Q () s):wpAny M A (letOwnedTupleGo tg (.ref it) u) Q E s:=by
  unfold letOwnedTupleGo;cases tg<;>first
    | exact AD hQ
    | (cases u<;>first
        | exact AD hQ
        | (refine AB (wpAny_load ho ?_)
           rw[hc,hd];show wpAny M A (if(["enumerate", "zip", "dict_itemiterator", "dict_reverseitemiterator", "odict_iterator", "itertools.zip_longest", "itertools.pairwise"].contains n&&vs[0]? == some (rawInt _))=true then _ else _) Q E s;rw[AS (by intro h;rw[hn,EV]at h;cases h)];exact AD hQ))
def Itl(K:PySem.W.Frag)(a:Addr):It :=
 ⟨fun i H=>∃xs x,SqL K H a xs/\xs[i]?=some x,fun i H x H'=>H'=H/\∀xs,SqL K H a xs->xs[i]?=some x,fun i H=>∃xs,SqL K H a xs/\xs.length<=i⟩
def Itr(lo:Int)(n:Nat):It:=⟨fun i _=>i<n,fun i H x H'=>H'=H/\x = .int (lo+i),fun i _=>n<=i⟩
theorem Se{P:Program}{w:World}{K:PySem.W.Frag}{tg:Expr}(a it:Addr):Turn P w K tg (Itl K a) [it] it (fun i h=>h.IsListIter it a i) where
 mem:=by simp
 obj:=fun i h st b hb=>by
  have e:b=it:=by simpa using hb
  subst e;obtain⟨o,e,c,d⟩:=st;exact⟨o,e,fun v z=>by rw[d]at z;cases z⟩
 keep:=fun i h h' st k=>st.at fun o e=>k it (by simp) o e
 item:=by
  intro X hP hw hK hc i pins s σ H E I hf st hg;subst hP hw hK;obtain⟨xs,x,hq,hx⟩:=hg;obtain⟨its,rv,p,hz⟩:=I.list hq;obtain⟨u,hu,ru⟩:=rv.get hx;obtain⟨f0,f1,f2,f3,f4,f5⟩:=hf it (by simp);refine wpAny_pyNext_list_item st p.isList (x:=u) (by simpa using hu) fun h' st' sb=>?_;have I1:Inv X pins σ H { s with heap:=h' }:=I.turned (t':=s.toks) (fun b o hb e=>(sb.2 b hb).trans e) f0 f1 f3 f4 f5;obtain⟨o,e,c,d⟩:=id st';exact⟨u,rfl,Ws (s:={ s with heap:=h' }) e c d (by decide) ⟨x,H,I1,ru,⟨rfl,fun ys hy=>by rw[I.list_inj hy hq];exact hx⟩,st',fun b hb=>(hf b hb).1⟩⟩
 done:=by
  intro X hP hw hK hc i pins s σ H E I hf st hg;subst hP hw hK;obtain⟨xs,hq,hx⟩:=hg;obtain⟨its,rv,p,hz⟩:=I.list hq;obtain⟨f0,f1,f2,f3,f4,f5⟩:=hf it (by simp);have hl:=rv.length;exact wpAny_pyNext_list_end (I.ok.hd hc) st p.isList (by simp;omega) fun h' eb=>⟨rfl,I.turned (t':=s.toks) (fun b o hb e=>eb b o hb e) f0 f1 f3 f4 f5⟩
 self:=fun _ _ _ _ _ st h=>wpAny_pyIter_listiter st h
theorem Nj{P:Program}{w:World}{K:PySem.W.Frag}{tg:Expr}(it:Addr)(lo:Int)(n:Nat):Turn P w K tg (Itr lo n) [it] it (fun i h=>IsRangeIter h it (lo +(i:Nat)*1) ((n:Int)-(i:Nat)) 1) where
 mem:=by simp
 obj:=fun i h st b hb=>by
  have e:b=it:=by simpa using hb
  subst e;exact⟨_,st,fun v z=>by
   have z':Data.fields _=Data.cell v:=z;cases z'⟩
 keep:=fun i h h' st k=>k it (by simp) _ st
 item:=by
  intro X hP hw hK hc i pins s σ H E I hf st hg;subst hP hw hK;obtain⟨f0,f1,f2,f3,f4,f5⟩:=hf it (by simp);have W:=Walks.range (prog:=X.prog) (w:=X.w) (I.ok.hd hc) it lo 1 n;refine W.item i s _ _ hg st fun v h' tk hv st' kk=>?_;obtain⟨t,rfl⟩:=hv;have I1:Inv X pins σ H { s with heap:=h',toks:=tk }:=I.turned (fun b o hb e=>kk b o (by simpa using hb) e) f0 f1 f3 f4 f5;refine⟨_,rfl,Ws (s:={ s with heap:=h',toks:=tk }) (n := "range_iterator") st' rfl rfl (by decide) ⟨.int (lo+i),H,I1,⟨t,?_⟩,⟨rfl,rfl⟩,st',fun b hb=>(hf b hb).1⟩⟩;rw[Int.mul_one]
 done:=by
  intro X hP hw hK hc i pins s σ H E I hf st hg;subst hP hw hK;obtain⟨f0,f1,f2,f3,f4,f5⟩:=hf it (by simp);exact wpAny_pyNext_range_end (I.ok.hd hc) st (by have:n<=i:=hg;omega) fun h' eb=>⟨rfl,I.turned (t':=s.toks) (fun b o hb e=>eb b o hb e) f0 f1 f3 f4 f5⟩
 self:=fun _ _ _ _ _ st h=>wpAny_pyIter_rangeiter st h
section
variable{X:Cx}{tg:Expr}
def zAw(K:PySem.W.Frag)(tl:TE):TI:=fun σ H R=>tl σ H fun x H1=>∃a,x = .ref a/\(∃xs,SqL K H1 a xs)/\R (Itl K a) H1
theorem Xs{l:Expr}{tl:TE}(hl:PE X l tl):PI X tg l (zAw X.K tl):=by
 intro pins s σ H R I h;refine thn (hl pins s σ H _ I h) fun v s1 ⟨x,H1,I1,r1,q1⟩=>?_;obtain⟨a,e,⟨xs,hq⟩,q⟩:=q1;subst e;cases r1;obtain⟨its,rv,p,hz⟩:=I1.list hq;refine FS p.isList ?_;refine⟨s1.heap.objs.size,[s1.heap.objs.size],_,_,H1,rfl,I1.kept (t':=s1.toks) fun b o e=>AE _ e,Se a _,⟨_,BE _ rfl,rfl,rfl⟩,fun b hb=>?_,q⟩;have e:b=s1.heap.objs.size:=by simpa using hb
 subst e;exact I1.fpOk (Nat.le_refl _) (I1.hok.fresh (Nat.le_refl _))
theorem Tc{pins:List (Addr×Obj)}{σ:St}{H:Hp}{s:Shared}{R:It->Hp->Prop}{E:Value->Shared->Prop}{lo hi:Int}{t u v:Tok}{tk:Nat}(I:Inv X pins σ H s)(h1:-(2^62)<=lo)(h2:lo<2^62)(h3:-(2^62)<=hi)(h4:hi<2^62)
  (q:R (Itr lo (hi-lo).toNat) H):wpAny (model X.prog X.w) X.A (pyIter (.ref s.heap.objs.size)) (PIE X pins σ tg R) E { s with heap:=s.heap.push { cls:=.type "range",data:=.fields #[.int lo t,.int hi u,.int 1 v] },toks:=tk }:=by
 refine wpAny_pyIter_range (IsRange.new ..) (small_one h1 h2 h3 h4) ?_;have I1:Inv X pins σ H { s with heap:=s.heap.push { cls:=.type "range",data:=.fields #[.int lo t,.int hi u,.int 1 v] },toks:=tk }:=I.kept fun b o e=>AE _ e;refine⟨(s.heap.push { cls:=.type "range",data:=.fields #[.int lo t,.int hi u,.int 1 v] }).objs.size,[(s.heap.push { cls:=.type "range",data:=.fields #[.int lo t,.int hi u,.int 1 v] }).objs.size],_,_,H,rfl,
  I1.kept (t':=tk) fun b o e=>AE _ e,Nj _ lo (hi-lo).toNat,?_,fun b hb=>?_,q⟩
 .have e1:lo +((0:Nat):Int)*1=lo:=by simp
  have e2:(((hi-lo).toNat:Nat):Int)-((0:Nat):Int)=Builtin.Range.rangeSize lo hi 1:=by rw[rangeSize_one];split<;>omega
  show IsRangeIter _ _ (lo +((0:Nat):Int)*1) ((((hi-lo).toNat:Nat):Int)-((0:Nat):Int)) 1;rw[e1,e2];exact BE _ rfl
 .have e:b =(s.heap.push { cls:=.type "range",data:=.fields #[.int lo t,.int hi u,.int 1 v] }).objs.size:=by simpa using hb
  subst e;exact I1.fpOk (Nat.le_refl _) (I1.hok.fresh (Nat.le_refl _))
def Zi(ta:TA):TI:=fun σ H R=>ta σ H fun vs H1=>∃j:Int,vs = [.int j]/\-(2^62)<=j/\j<2^62/\R (Itr 0 j.toNat) H1
theorem Rr{a:Expr}{ta:TA}{p pos:Pos}(hg:Gl X "range")(hm:X.mg "range" = none)(ha:PA X [a] ta)(hs:starEach [a] X.env = [(false,eval a X.env)]:=by rfl):PI X tg (.Call (.Name "range" p) [a] [] pos) (Zi ta):=by
 intro pins s σ H R I h;refine Call_ (t6 I hg hm boot_range (PyProof.Rows.callWith_type1 (thn (ha pos pins s σ H _ I h) fun us s1 ⟨vs,H1,I1,r1,q1⟩=>?_) hs rfl));obtain⟨j,e,q1,q2,q⟩:=q1;subst e;cases r1 with
 | cons r rr =>
  cases rr;obtain⟨t,rfl⟩:=r;exact call_range_1 (Tc I1 (by omega) (by omega) q1 q2 (by simpa using q))
def zFo(wi:TI)(g:TG)(tb:TS):TS:=fun D σ H=>wi σ H fun J H1=>∃W:Nat->Nat->St->Hp->Prop,(∃m,W 0 m σ H1)/\∀i m σ H,W i m σ H ->
 (J.stop i H/\D.nx σ H)\/(J.go i H/\∃N:St->Hp->Prop,(∀σ' H',N σ' H'->∃m',m' < m/\W (i+1) m' σ' H')/\∀x H',J.yld i H x H'->g x σ H' fun σ2 H2=>tb { D with nx:=N,ct:=N,bk:=D.nx } σ2 H2)
def Fj(fp:List Addr)(h:Heap):List (Addr×Obj):=fp.filterMap fun b=>(h.get? b).map fun o=>(b,o)
theorem W0{fp:List Addr}{h:Heap}{b:Addr}{o:Obj}(hb:b∈fp)(e:h.get? b=some o):(b,o)∈Fj fp h:=List.mem_filterMap.mpr ⟨b,hb,by rw[e];rfl⟩
theorem Rb{fp:List Addr}{h:Heap}{p:Addr×Obj}(hp:p∈Fj fp h):p.1∈fp/\h.get? p.1=some p.2:=by
 obtain⟨b,hb,e⟩:=List.mem_filterMap.mp hp;cases q:h.get? b with
 | none=>rw[q]at e;cases e
 | some o =>
  rw[q]at e;have e':(b,o)=p:=BV e;subst e';exact⟨hb,q⟩
theorem Inv.pinned{pins:List (Addr×Obj)}{σ:St}{H:Hp}{s:Shared}{fp:List Addr}(I:Inv X pins σ H s)(hf:∀b∈fp,Aa X pins H b)(ho:∀b∈fp,∃o,s.heap.get? b=some o/\∀v,o.data≠ .cell v):Inv X (pins++Fj fp s.heap) σ H s :=
 I.pins_of fun p hp=>(AI.mp hp).elim (fun z=>I.pin p (BJ _ z)) fun z=>by
  obtain⟨hb,e⟩:=Rb z;obtain⟨f0,f1,f2,_⟩:=hf p.1 hb;obtain⟨o,e',d⟩:=ho p.1 hb;rw[e]at e';cases e';exact⟨e,f0,f1,f2,d⟩
theorem Inv.unpinned{pins pl:List (Addr×Obj)}{σ:St}{H:Hp}{s:Shared}(I:Inv X (pins++pl) σ H s):Inv X pins σ H s:=I.pins_of fun p hp=>I.pin p (BJ _ (BN _ hp))
theorem P4{iter:Expr}{body:List Stmt}{wi:TI}{g:TG}{tb:TS}{pos:Pos}(hp:PassesOwn (model X.prog X.w) X.A X.env X.xe)(hc:X.calm=true)(hi:PI X tg iter wi)(hg:PG X tg g)(hb:PSs X body tb)
  (hs:∀x,foldedSetIterable iter X.env x=pure x:=by intro _;rfl):PS X (.For tg iter body [] pos) (zFo wi g tb):=by
 intro pins s σ H D I h;refine wpAny_For (thn (hi pins s σ H _ I h) fun v s1 h1=>thn h1 fun itv s2 h2=>?_) hs;obtain⟨it,fp,tn,J,H2,e,I2,T,st2,f2,W,⟨m0,w0⟩,turn⟩:=h2;subst e;have stat:∀{H':Hp},(∀b∈fp,H' b=none)->∀b∈fp,Aa X pins H' b:=fun hn b hb=>⟨hn b hb,(f2 b hb).2⟩;refine codeAny_forLoop_any (fun n s'=>∃i σ' H',Inv X pins σ' H' s'/\tn i s'.heap/\(∀b∈fp,H' b=none)/\W i n σ' H') ?_ m0 ⟨0,σ,H2,I2,st2,fun b hb=>(f2 b hb).1,w0⟩;rintro n s3 ⟨i,σ3,H3,I3,st3,fr3,w3⟩;rcases turn i n σ3 H3 w3 with⟨stop,qn⟩ | ⟨go,N,hN,step⟩
 .refine EZ hp (thn (T.done X rfl rfl rfl hc i pins s3 σ3 H3 X.xe I3 (stat fr3) st3 stop) fun r s4 ⟨hr,I4⟩=>?_);subst hr;exact wpAny_execs_nil ⟨σ3,H3,I4,qn⟩
 .refine EZ hp (thn (T.item X rfl rfl rfl hc i pins s3 σ3 H3 X.xe I3 (stat fr3) st3 go) fun r s4 ⟨u,hr,h4⟩=>?_);subst hr;refine EZ hp (thn h4 fun _ s5 ⟨x,H5,I5,r5,y5,st5,fr5⟩=>?_);have I5':=I5.pinned (stat fr5) (T.obj _ _ st5);refine EZ hp (thn (hg _ s5 σ3 H5 x u _ I5' r5 (step x H5 y5)) fun _ s6 ⟨σ6,H6,I6,q6⟩=>?_);refine EZ hp (thn (hb _ s6 σ6 H6 _ I6 q6) fun f s7 q7=>?_);have again:∀{σ7:St} {H7:Hp},Inv X (pins++Fj fp s5.heap) σ7 H7 s7->N σ7 H7->∃m,m<n/\∃i σ' H',Inv X pins σ' H' s7/\tn i s7.heap/\(∀b∈fp,H' b=none)/\W i m σ' H':=fun{σ7 H7} I7 n7=>by
   obtain⟨m',hm,w7⟩:=hN σ7 H7 n7;refine⟨m',hm,i+1,σ7,H7,I7.unpinned,T.keep _ _ _ st5 fun b hb o e=>(I7.pin (b,o) (BJ _ (BJ _ (W0 hb e)))).1,fun b hb=>?_,w7⟩;obtain⟨o,e,d⟩:=T.obj _ _ st5 b hb;exact(I7.pin (b,o) (BJ _ (BJ _ (W0 hb e)))).2.1
  cases f with
  | next=>obtain⟨σ7,H7,I7,n7⟩:=q7;exact again I7 n7
  | cont=>obtain⟨σ7,H7,I7,n7⟩:=q7;exact again I7 n7
  | brk=>obtain⟨σ7,H7,I7,q7⟩:=q7;exact⟨σ7,H7,I7.unpinned,q7⟩
  | ret v=>obtain⟨x7,σ7,H7,I7,r7,q7⟩:=q7;exact⟨x7,σ7,H7,I7.unpinned,r7,q7⟩
end
theorem Of{lo:Int}{n:Nat}{g:TG}{tb:TS}{D:Ends}{σ:St}{H:Hp}(Pv:Nat->St->Hp->Prop)(h0:Pv 0 σ H)
  (hs:∀i σ H,i<n->Pv i σ H->g (.int (lo+i)) σ H fun σ2 H2=>tb { D with nx:=Pv (i+1),ct:=Pv (i+1),bk:=D.nx } σ2 H2) (hd:∀σ H,Pv n σ H->D.nx σ H) :
  ∃W:Nat->Nat->St->Hp->Prop,(∃m,W 0 m σ H)/\∀i m σ H,W i m σ H ->
   ((Itr lo n).stop i H/\D.nx σ H)\/((Itr lo n).go i H/\∃N:St->Hp->Prop,(∀σ' H',N σ' H'->∃m',m' < m/\W (i+1) m' σ' H')/\∀x H',(Itr lo n).yld i H x H'->g x σ H' fun σ2 H2=>tb { D with nx:=N,ct:=N,bk:=D.nx } σ2 H2):=by
 refine⟨fun i m σ H=>m=n-i/\i<=n/\Pv i σ H,⟨n,by simp,BT _,h0⟩,?_⟩;rintro i m σ H ⟨rfl,hi,p⟩;by_cases hlt:i<n
 .refine .inr ⟨hlt,Pv (i+1),fun σ' H' p'=>⟨n-(i+1),by omega,rfl,hlt,p'⟩,fun x H' y=>?_⟩;obtain⟨e,y⟩:=y;subst e y;exact hs i σ _ hlt p
 .have e:i=n:=by omega
  subst e;exact .inl ⟨Nat.le_refl _,hd σ H p⟩
abbrev R2:=V->V->Hp->VK->Prop
def OpR(X:Cx)(f:Value->Value->Sem Value)(r:R2):Prop :=
 ∀(pins:List (Addr×Obj)) (s:Shared) (σ:St) (H:Hp) (x y:V) (v u:Value) (Q:VK),Inv X pins σ H s->RelV x v->RelV y u->r x y H Q ->
  wpAny (model X.prog X.w) X.A (f v u) (EP X pins σ Q) X.xe s
def G8(X:Cx)(f:Value)(r:List V->Hp->VK->Prop):Prop :=
 ∀(pins:List (Addr×Obj)) (s:Shared) (σ:St) (H:Hp) (xs:List V) (us:List Value) (Q:VK),Inv X pins σ H s->Vals xs us->r xs H Q ->
  wpAny (model X.prog X.w) X.A (call f us) (EP X pins σ Q) X.xe s
def zEx(X:Cx)(r:V->Hp->(Bool->Hp->Prop)->Prop):Prop :=
 ∀(pins:List (Addr×Obj)) (s:Shared) (σ:St) (H:Hp) (x:V) (v:Value) (Q:Bool->Hp->Prop),Inv X pins σ H s->RelV x v->r x H Q ->
  wpAny (model X.prog X.w) X.A (truthy v) (TP X pins σ Q) X.xe s
def tOp(r:R2)(ta tb:TE):TE:=fun σ H Q=>ta σ H fun x H1=>tb σ H1 fun y H2=>r x y H2 Q
def rI(C:Int->Int->Prop)(g:Int->Int->V):R2:=fun x y H Q=>∃i j,x = .int i/\y = .int j/\C i j/\Q (g i j) H
def rI0(g:Int->Int->V):R2:=fun x y H Q=>∃i j,x = .int i/\y = .int j/\Q (g i j) H
section
variable{X:Cx}{a b c:Expr}{ta tb tc:TE}{pos:Pos}
theorem zDf(ha:PE X a ta)(hb:PE X b tb){pins:List (Addr×Obj)}{s:Shared}{σ:St}{H:Hp}{R:V->V->Hp->Prop}(I:Inv X pins σ H s)
  (h:ta σ H fun x H1=>tb σ H1 fun y H2=>R x y H2) {Q:Value->Shared->Prop} {f:Value->Value->Sem Value}
  (hf:∀v u s2 x y H2,Inv X pins σ H2 s2->RelV x v->RelV y u->R x y H2->wpAny (model X.prog X.w) X.A (f v u) Q X.xe s2) :
  wpAny (model X.prog X.w) X.A (eval a X.env) (fun v s₁=>wpAny (model X.prog X.w) X.A (eval b X.env) (fun u s₂=>wpAny (model X.prog X.w) X.A (f v u) Q X.xe s₂) X.xe s₁) X.xe s:=by
 refine thn (ha pins s σ H _ I h) fun v s1 ⟨x,H1,I1,r1,q1⟩=>?_;refine thn (hb pins s1 σ H1 _ I1 q1) fun u s2 ⟨y,H2,I2,r2,q2⟩=>?_;exact hf v u s2 x y H2 I2 r1 r2 q2
theorem F8{op:Operator}{r:R2}(ho:OpR X (binaryOp op) r)(ha:PE X a ta)(hb:PE X b tb):PE X (.BinOp a op b pos) (tOp r ta tb):=by
 intro pins s σ H Q I h;exact wpAny_BinOp (zDf ha hb I h fun v u s2 x y H2 I2 rx ry q=>ho pins s2 σ H2 x y v u Q I2 rx ry q)
theorem opI{f:Value->Value->Sem Value}{C:Int->Int->Prop}{g:Int->Int->Int}
  (rule:∀(i j:Int) (t u:Tok) (s:Shared) (Q:Value->Shared->Prop) (E:Value->Shared->Prop),C i j->Q (.int (g i j) s.toks) { s with toks:=s.toks+1 }->wpAny (model X.prog X.w) X.A (f (.int i t) (.int j u)) Q E s) :
  OpR X f (rI C fun i j=>.int (g i j)):=by
 intro pins s σ H x y v u Q I rx ry h;obtain⟨i,j,rfl,rfl,hc,q⟩:=h;obtain⟨t,rfl⟩:=rx;obtain⟨t',rfl⟩:=ry;exact rule i j t t' s _ _ hc ⟨.int (g i j),H,I.tok _,⟨_,rfl⟩,q⟩
theorem zEd{f:Value->Value->Sem Value}{g:Int->Int->Int}
  (rule:∀(i j:Int) (t u:Tok) (s:Shared) (Q:Value->Shared->Prop) (E:Value->Shared->Prop),Q (.int (g i j) s.toks) { s with toks:=s.toks+1 }->wpAny (model X.prog X.w) X.A (f (.int i t) (.int j u)) Q E s) :
  OpR X f (rI0 fun i j=>.int (g i j)):=by
 intro pins s σ H x y v u Q I rx ry h;obtain⟨i,j,rfl,rfl,q⟩:=h;obtain⟨t,rfl⟩:=rx;obtain⟨t',rfl⟩:=ry;exact rule i j t t' s _ _ ⟨.int (g i j),H,I.tok _,⟨_,rfl⟩,q⟩
theorem zCp{f:Value->Value->Sem Value}{g:Int->Int->Bool}
  (rule:∀(i j:Int) (t u:Tok) (s:Shared) (Q:Value->Shared->Prop) (E:Value->Shared->Prop),Q (.bool (g i j)) s->wpAny (model X.prog X.w) X.A (f (.int i t) (.int j u)) Q E s) :
  OpR X f (rI0 fun i j=>.bl (g i j)):=by
 intro pins s σ H x y v u Q I rx ry h;obtain⟨i,j,rfl,rfl,q⟩:=h;obtain⟨t,rfl⟩:=rx;obtain⟨t',rfl⟩:=ry;exact rule i j t t' s _ _ ⟨.bl (g i j),H,I,rfl,q⟩
def zFs(i j:Int):Prop:=0<j/\j<1073741824
def zFb(i j:Int):Prop:=0<=j/\j<=1000000/\i.natAbs<2^64
def CMul(i j:Int):Prop:=(-(2^64)<i/\i<2^64)\/(-(2^64)<j/\j<2^64)
theorem CMul.ok{i j:Int}(h:CMul i j):IntMulOk i j:=by
 rcases h with⟨h1,h2⟩ | ⟨h1,h2⟩
 .exact .of_left (intBits_le_64 h1 h2)
 .exact .of_right (intBits_le_64 h1 h2)
theorem U6:OpR X (binaryOp .Add) (rI0 fun i j=>.int (i+j)):=zEd fun _ _ _ _ _ _ _ q=>add_int q
theorem Oo:OpR X (binaryOp .Sub) (rI0 fun i j=>.int (i-j)):=zEd fun _ _ _ _ _ _ _ q=>sub_int q
theorem Bs:OpR X (binaryOp .Mult) (rI CMul fun i j=>.int (i*j)):=opI fun _ _ _ _ _ _ _ hc q=>mul_int q hc.ok
theorem Rf:OpR X (binaryOp .FloorDiv) (rI zFs fun i j=>.int (i / j)):=opI fun i j _ _ _ _ _ hc q=>by
 have h1:(0:Int)<j:=hc.1;have h2:j<1073741824:=hc.2;exact floordiv_int (by omega) (by rw[Int.fdiv_eq_ediv_of_nonneg i (by omega)];exact q) (.inl (PyProof.noPylong_small (by omega)))
theorem Gb:OpR X (binaryOp .Mod) (rI (fun _ j=>0<j) fun i j=>.int (i % j)):=opI fun i j _ _ _ _ _ hc q=>by
 have h1:(0:Int)<j:=hc;exact mod_int' (by omega) (by rw[Int.fmod_eq_emod_of_nonneg i (by omega)];exact q)
theorem zAo:OpR X (binaryOp .Pow) (rI zFb fun i j=>.int (i^j.toNat)):=opI fun _ _ _ _ _ _ _ hc q=>pow_int_small hc.1 hc.2.1 hc.2.2 q
end
def zEr:V->V->Bool
 | .non,.non=>true | .non,.int _=>true | .int _,.non=>true | .non,.bl _=>true | .bl _,.non=>true | .non,.str _=>true | .str _,.non=>true
 | .int _,.int _=>true | .bl _,.bl _=>true | .str _,.str _=>true | .byt _,.byt _=>true
 | .int _,.str _=>true | .str _,.int _=>true | .bl _,.str _=>true | .str _,.bl _=>true
 | _,_=>false
def rEq:R2:=fun x y H Q=>zEr x y=true/\Q (.bl (decide (x=y))) H
def rNe:R2:=fun x y H Q=>zEr x y=true/\Q (.bl (!decide (x=y))) H
theorem Qb{i j:Int}:decide (V.int i=V.int j) =(i == j):=by
 rw[GD];simp
theorem Vk{i j:Bool}:decide (V.bl i=V.bl j) =(i == j):=by
 rw[GD];simp
theorem Ou{i j:Str}:decide (V.str i=V.str j) =(i == j):=by
 rw[GD];simp
theorem Ro{i j:Array UInt8}:decide (V.byt i=V.byt j) =(i.toList == j.toList):=by
 rw[GD];cases i;cases j;simp
section
variable{X:Cx}{a b c:Expr}{ta tb tc:TE}{pos:Pos}
theorem E7{pins:List (Addr×Obj)}{σ:St}{H:Hp}{s:Shared}{Q:VK}{k k':Bool}(I:Inv X pins σ H s)(q:Q (.bl k) H)(e:k=k'):EP X pins σ Q (.bool k') s:=by
 subst e;exact⟨.bl k,H,I,rfl,q⟩
theorem Z8:OpR X (compareOp .Eq) rEq:=by
 intro pins s σ H x y v u Q I rx ry h;obtain⟨hs,q⟩:=h;cases x with
 | non =>
  cases rx;cases y with
  | non=>cases ry;exact PySem.EqNone.eq_none_none (E7 I q (by simp))
  | bl j=>cases ry;exact PySem.EqNone.eq_none_bool (E7 I q (by simp))
  | int j=>obtain⟨t',rfl⟩:=ry;exact PySem.EqNone.eq_none_int (E7 I q (by simp))
  | str j=>obtain⟨t',rfl⟩:=ry;exact PySem.EqNone.eq_none_str (E7 I q (by simp))
  | _=>exact absurd (show false=true from hs) AZ
 | bl i =>
  cases rx;cases y with
  | non=>cases ry;exact PySem.EqNone.eq_bool_none (E7 I q (by simp))
  | bl j=>cases ry;exact eq_bool (E7 I q Vk)
  | str j=>obtain⟨t',rfl⟩:=ry;exact PySem.EqMixed.eq_bool_str (E7 I q (by simp))
  | _=>exact absurd (show false=true from hs) AZ
 | int i =>
  obtain⟨t,rfl⟩:=rx;cases y with
  | non=>cases ry;exact PySem.EqNone.eq_int_none (E7 I q (by simp))
  | int j=>obtain⟨t',rfl⟩:=ry;exact eq_int (E7 I q Qb)
  | str j=>obtain⟨t',rfl⟩:=ry;exact PySem.EqMixed.eq_int_str (E7 I q (by simp))
  | _=>exact absurd (show false=true from hs) AZ
 | str i =>
  obtain⟨t,rfl⟩:=rx;cases y with
  | non=>cases ry;exact PySem.EqNone.eq_str_none (E7 I q (by simp))
  | bl j=>cases ry;exact PySem.EqMixed.eq_str_bool (E7 I q (by simp))
  | int j=>obtain⟨t',rfl⟩:=ry;exact PySem.EqMixed.eq_str_int (E7 I q (by simp))
  | str j=>obtain⟨t',rfl⟩:=ry;exact eq_str (E7 I q Ou)
  | _=>exact absurd (show false=true from hs) AZ
 | byt i =>
  obtain⟨t,rfl⟩:=rx;cases y with
  | byt j=>obtain⟨t',rfl⟩:=ry;exact PySem.W.eq_bytes (E7 I q Ro)
  | _=>exact absurd (show false=true from hs) AZ
 | _=>cases y<;>exact absurd (show false=true from hs) AZ
theorem Mg:OpR X (compareOp .NotEq) rNe:=by
 intro pins s σ H x y v u Q I rx ry h;obtain⟨hs,q⟩:=h;cases x with
 | non =>
  cases rx;cases y with
  | non=>cases ry;exact PySem.EqNone.ne_none_none (E7 I q (by simp))
  | bl j=>cases ry;exact PySem.EqNone.ne_none_bool (E7 I q (by simp))
  | int j=>obtain⟨t',rfl⟩:=ry;exact PySem.EqNone.ne_none_int (E7 I q (by simp))
  | str j=>obtain⟨t',rfl⟩:=ry;exact PySem.EqNone.ne_none_str (E7 I q (by simp))
  | _=>exact absurd (show false=true from hs) AZ
 | bl i =>
  cases rx;cases y with
  | non=>cases ry;exact PySem.EqNone.ne_bool_none (E7 I q (by simp))
  | bl j=>cases ry;exact ne_bool (E7 I q (congrArg not Vk))
  | str j=>obtain⟨t',rfl⟩:=ry;exact PySem.EqMixed.ne_bool_str (E7 I q (by simp))
  | _=>exact absurd (show false=true from hs) AZ
 | int i =>
  obtain⟨t,rfl⟩:=rx;cases y with
  | non=>cases ry;exact PySem.EqNone.ne_int_none (E7 I q (by simp))
  | int j=>obtain⟨t',rfl⟩:=ry;exact ne_int (E7 I q (congrArg not Qb))
  | str j=>obtain⟨t',rfl⟩:=ry;exact PySem.EqMixed.ne_int_str (E7 I q (by simp))
  | _=>exact absurd (show false=true from hs) AZ
 | str i =>
  obtain⟨t,rfl⟩:=rx;cases y with
  | non=>cases ry;exact PySem.EqNone.ne_str_none (E7 I q (by simp))
  | bl j=>cases ry;exact PySem.EqMixed.ne_str_bool (E7 I q (by simp))
  | int j=>obtain⟨t',rfl⟩:=ry;exact PySem.EqMixed.ne_str_int (E7 I q (by simp))
  | str j=>obtain⟨t',rfl⟩:=ry;exact ne_str (E7 I q (congrArg not Ou))
  | _=>exact absurd (show false=true from hs) AZ
 | byt i =>
  obtain⟨t,rfl⟩:=rx;cases y with
  | byt j=>obtain⟨t',rfl⟩:=ry;exact PySem.W.ne_bytes (E7 I q (congrArg not Ro))
  | _=>exact absurd (show false=true from hs) AZ
 | _=>cases y<;>exact absurd (show false=true from hs) AZ
theorem zAd:OpR X (compareOp .Lt) (rI0 fun i j=>.bl (decide (i<j))):=zCp fun _ _ _ _ _ _ _ q=>lt_int q
theorem Ua:OpR X (compareOp .LtE) (rI0 fun i j=>.bl (decide (i<=j))):=zCp fun _ _ _ _ _ _ _ q=>le_int q
theorem zBk:OpR X (compareOp .Gt) (rI0 fun i j=>.bl (decide (j<i))):=zCp fun _ _ _ _ _ _ _ q=>gt_int q
theorem Wx:OpR X (compareOp .GtE) (rI0 fun i j=>.bl (decide (j<=i))):=zCp fun _ _ _ _ _ _ _ q=>ge_int q
theorem Rq:OpR X (compareOp .In) (fun x y H Q=>∃i j,x = .str i/\y = .str j/\Q (.bl (!(Builtin.Str.occurrences j i 0 j.length 1).isEmpty)) H):=by
 intro pins s σ H x y v u Q I rx ry h;obtain⟨i,j,rfl,rfl,q⟩:=h;obtain⟨t,rfl⟩:=rx;obtain⟨t',rfl⟩:=ry;exact in_str (E7 I q rfl)
theorem Ow:OpR X (compareOp .Is) (fun x y H Q=>y = .non/\Q (.bl (decide (x = .non))) H):=by
 intro pins s σ H x y v u Q I rx ry h;obtain⟨rfl,q⟩:=h;cases ry;refine is_none_gen (E7 I q ?_);cases x<;>first
  | (cases rx;rfl)
  | (obtain⟨t,rfl⟩:=rx;rfl)
theorem Qi:OpR X (compareOp .IsNot) (fun x y H Q=>y = .non/\Q (.bl (!decide (x = .non))) H):=by
 intro pins s σ H x y v u Q I rx ry h;obtain⟨rfl,q⟩:=h;cases ry;refine isnot_none_gen (E7 I q ?_);cases x<;>first
  | (cases rx;rfl)
  | (obtain⟨t,rfl⟩:=rx;rfl)
theorem D8(b:Expr){op:CmpOp}(h:op≠ .In:=by decide)(h2:op≠ .NotIn:=by decide):behindInMarks op b=false:=by
 have e1:(op == CmpOp.In)=false:=by cases op<;>first | rfl | exact absurd rfl h
 have e2:(op == CmpOp.NotIn)=false:=by cases op<;>first | rfl | exact absurd rfl h2
 cases b<;>simp[behindInMarks,e1,e2]
theorem E8{op:CmpOp}{r:R2}(ho:OpR X (compareOp op) r)(ha:PE X a ta)(hb:PE X b tb)(hm:behindInMarks op b=false):PE X (.Compare a [op] [b] pos) (tOp r ta tb):=by
 intro pins s σ H Q I h;exact wpAny_Compare1 (zDf ha hb I h fun v u s2 x y H2 I2 rx ry q=>ho pins s2 σ H2 x y v u Q I2 rx ry q) hm
def Tv(t:TE):TT:=fun σ H Q=>t σ H fun x H'=>∃k,x = .bl k/\Q k H'
theorem C3{op:CmpOp}{r:R2}(ho:OpR X (compareOp op) r)(ha:PE X a ta)(hb:PE X b tb)(hm:behindInMarks op b=false):PT X (.Compare a [op] [b] pos) (Tv (tOp r ta tb)):=by
 intro pins s σ H Q I h;refine wpAny_isTrue_Compare1 (thn (ha pins s σ H _ I h) fun v s1 ⟨x,H1,I1,r1,q1⟩=>thn (hb pins s1 σ H1 _ I1 q1) fun u s2 ⟨y,H2,I2,r2,q2⟩ =>
  thn (ho pins s2 σ H2 x y v u _ I2 r1 r2 q2) fun c s3 ⟨z,H3,I3,r3,k,e,q3⟩=>?_) hm
 subst e;cases r3;exact CO ⟨H3,I3,q3⟩
def Vo(r r':R2)(ta tb tc:TE):TE:=fun σ H Q=>ta σ H fun x H1=>tb σ H1 fun y H2=>r x y H2 fun z H3=>∃k,z = .bl k /\
 (if k=true then tc σ H3 fun w' H4=>r' y w' H4 Q else Q (.bl false) H3)
theorem Tj{op op':CmpOp}{r r':R2}(ho:OpR X (compareOp op) r)(ho':OpR X (compareOp op') r')(ha:PE X a ta)(hb:PE X b tb)(hc:PE X c tc)
  (hm:lastMarks [op,op'] [b,c]=false:=by with_unfolding_all rfl):PE X (.Compare a [op,op'] [b,c] pos) (Vo r r' ta tb tc):=by
 intro pins s σ H Q I h;refine Compare_chain (thn (ha pins s σ H _ I h) fun v s1 ⟨x,H1,I1,r1,q1⟩=>chain_link (thn (hb pins s1 σ H1 _ I1 q1) fun u s2 ⟨y,H2,I2,r2,q2⟩ =>
  thn (ho pins s2 σ H2 x y v u _ I2 r1 r2 q2) fun d s3 ⟨z,H3,I3,r3,k,e,q3⟩=>?_)) hm
 subst e;cases r3;refine CO ?_;cases k with
 | false=>exact ite_ff ⟨.bl false,H3,I3,rfl,q3⟩
 | true=>exact ite_tt (chain_last (thn (hc pins s3 σ H3 _ I3 q3) fun w' s4 ⟨z',H4,I4,r4,q4⟩=>ho' pins s4 σ H4 y z' u w' Q I4 r2 r4 q4))
theorem Ux{op op':CmpOp}{r r':R2}(ho:OpR X (compareOp op) r)(ho':OpR X (compareOp op') r')(ha:PE X a ta)(hb:PE X b tb)(hc:PE X c tc)
  (hm:lastMarks [op,op'] [b,c]=false:=by with_unfolding_all rfl):PT X (.Compare a [op,op'] [b,c] pos) (Tv (Vo r r' ta tb tc)):=by
 intro pins s σ H Q I h;refine isTrue_chain (thn (ha pins s σ H _ I h) fun v s1 ⟨x,H1,I1,r1,q1⟩=>test_link (thn (hb pins s1 σ H1 _ I1 q1) fun u s2 ⟨y,H2,I2,r2,q2⟩ =>
  thn (ho pins s2 σ H2 x y v u _ I2 r1 r2 q2) fun d s3 ⟨z,H3,I3,r3,k,e,q3⟩=>?_)) hm
 subst e;cases r3;refine CO ?_;cases k with
 | false =>
  obtain⟨k',e',q'⟩:=q3;cases e';exact ite_ff ⟨H3,I3,q'⟩
 | true =>
  refine ite_tt (test_last (thn (hc pins s3 σ H3 _ I3 q3) fun w' s4 ⟨z',H4,I4,r4,q4⟩=>thn (ho' pins s4 σ H4 y z' u w' _ I4 r2 r4 q4) fun d' s5 ⟨z2,H5,I5,r5,k2,e2,q5⟩=>?_));subst e2;cases r5;exact CO ⟨H5,I5,q5⟩
def zDb(K:PySem.W.Frag)(x:V)(H:Hp)(k:Bool):Prop :=
 match x with
 | .non=>k=false
 | .bl b=>k=b
 | .int i=>k =(i != 0)
 | .str y=>y.length<=sizeLine/\k =((y.length:Int) != 0)
 | .byt y=>y.size<=sizeLine/\k =((y.size:Int) != 0)
 | .ref p=>(∃xs,SqL K H p xs/\k=!xs.isEmpty)\/(∃xs,SqT K H p xs/\k=!xs.isEmpty)\/∃kvs,H p=some (.dK kvs)/\k=!kvs.isEmpty
 | _=>False
theorem Mr{U:Type}{kvs:List (U×V)}{vs:List (U×Value)}(r:KV kvs vs):(!vs.isEmpty)=!kvs.isEmpty:=by
 cases r<;>rfl
theorem Cz{xs:List V}{its:List Value}(r:Vals xs its):(!its.toArray.isEmpty)=!xs.isEmpty:=by
 cases r<;>simp
theorem Ch:(sizeLine:Nat)<2^63:=by rw[sizeLine_eq];decide
theorem zAh:zEx X (fun x H Q=>∃k,zDb X.K x H k/\Q k H):=by
 intro pins s σ H x v Q I rx h;obtain⟨k,e,q⟩:=h;have hl:=Ch;have hs:sizeLine=16777216:=sizeLine_eq;cases x with
 | non =>
  cases rx;have e':k=false:=e;subst e';exact truthy_none ⟨H,I,q⟩
 | bl b =>
  cases rx;have e':k=b:=e;subst e';exact CO ⟨H,I,q⟩
 | int i =>
  obtain⟨t,rfl⟩:=rx;have e':k =(i != 0):=e;subst e';exact PySem.P.truthy_int ⟨H,I,q⟩
 | str y =>
  obtain⟨t,rfl⟩:=rx;obtain⟨hy,e'⟩:y.length<=sizeLine/\k =((y.length:Int) != 0):=e;subst e';exact PySem.P.truthy_str (by omega) ⟨H,I.tok _,q⟩
 | byt y =>
  obtain⟨t,rfl⟩:=rx;obtain⟨hy,e'⟩:y.size<=sizeLine/\k =((y.size:Int) != 0):=e;subst e';exact PySem.W.truthy_bytes (by omega) ⟨H,I.tok _,q⟩
 | ref p =>
  cases rx;have e':(∃xs,SqL X.K H p xs/\k=!xs.isEmpty)\/(∃xs,SqT X.K H p xs/\k=!xs.isEmpty)\/∃kvs,H p=some (.dK kvs)/\k=!kvs.isEmpty:=e;rcases e' with⟨xs,hx,e'⟩ | ⟨xs,hx,e'⟩ | ⟨kvs,hx,e'⟩
  .subst e';obtain⟨its,r,pl,hz⟩:=I.list hx;have hlen:=r.length;exact wpAny_truthy_list pl.isList (by simp only[A_];omega) ⟨H,I.tok _,by rw[Cz r];exact q⟩
  .subst e';obtain⟨its,r,pl,hz⟩:=I.tuple hx;have hlen:=r.length;exact truthy_tuple pl (by simp only[A_];omega) ⟨H,I.tok _,by rw[Cz r];exact q⟩
  .subst e';obtain⟨hz,hS,vs,r,m⟩:kvs.length<=sizeLine/\(p == sysModules)=false/\∃vs,KV kvs vs/\s.heap.DictOf (C7 X.prog X.w) p vs:=I.hok p _ hx;have hlen:kvs.length=vs.length:=Paired.length r;exact wpAny_truthy_dict hS m (by omega) ⟨H,I.tok _,by rw[Mr r];exact q⟩
 | _=>exact(show False from e).elim
theorem Ue(ha:PE X a ta)(he:∀whole,isTrue a X.env whole =(do let v <-whole;standAt a.pos;holding [v] (truthy v))) :
  PT X a (fun σ H Q=>ta σ H fun x H'=>∃k,zDb X.K x H' k/\Q k H'):=by
 intro pins s σ H Q I h;exact isTrue_plain (thn (ha pins s σ H _ I h) fun v s1 ⟨x,H1,I1,r1,q1⟩=>zAh pins s1 σ H1 x v Q I1 r1 q1) (he _)
theorem U7{x:V}{us:List Value}(r:Vals [x] us):∃u,us = [u]/\RelV x u:=by
 cases r with
 | cons r1 r2=>cases r2;exact⟨_,rfl,r1⟩
theorem zDy{x y:V}{us:List Value}(r:Vals [x,y] us):∃u w',us = [u,w']/\RelV x u/\RelV y w':=by
 cases r with
 | cons r1 r2 =>
  cases r2 with
  | cons r3 r4=>cases r4;exact⟨_,_,rfl,r1,r3⟩
theorem Lg:G8 X (.builtin "abs") (fun xs H Q=>∃i,xs = [.int i]/\Q (.int (if i<0 then -i else i)) H):=by
 intro pins s σ H xs us Q I r h;obtain⟨i,rfl,q⟩:=h;obtain⟨u,rfl,t,rfl⟩:=U7 r;exact call_abs_int fun u tk=>⟨.int (if i<0 then -i else i),H,I.tok _,⟨_,rfl⟩,q⟩
theorem Rw(hc:X.calm=true):G8 X (.builtin "min") (fun xs H Q=>∃i j,xs = [.int i,.int j]/\Q (.int (if j<i then j else i)) H):=by
 intro pins s σ H xs us Q I r h;obtain⟨i,j,rfl,q⟩:=h;obtain⟨u,w',rfl,⟨t,rfl⟩,⟨t',rfl⟩⟩:=zDy r;refine min_two_ints (I.ok.hd hc) fun h' tk k=>⟨_,H,I.kept k,?_,q⟩;by_cases hj:j<i
 .rw[AY hj,AY hj];exact⟨_,rfl⟩
 .rw[AS hj,AS hj];exact⟨_,rfl⟩
theorem Gm:G8 X (.type "int") (fun xs H Q=>(∃i,xs = [.int i]/\Q (.int i) H)\/∃k,xs = [.bl k]/\Q (.int (if k then 1 else 0)) H):=by
 intro pins s σ H xs us Q I r h;rcases h with⟨i,rfl,q⟩ | ⟨k,rfl,q⟩
 .obtain⟨u,rfl,t,rfl⟩:=U7 r;exact call_int_int ⟨.int i,H,I,⟨_,rfl⟩,q⟩
 .obtain⟨u,rfl,r1⟩:=U7 r;cases r1;exact call_int_bool ⟨.int (if k then 1 else 0),H,I.tok _,⟨_,rfl⟩,q⟩
end
structure ObjM(h:Heap)(x dx C:Addr)(mA:Str->Option Value):Prop where
 obj:h.get? x=some (PySem.W.instObj C dx)
 ns:h.Ns1 dx mA
 ne:dx≠x
theorem Sh{h:Heap}{dx:Addr}{mA:Str->Option Value}(n:h.Ns1 dx mA):∃od,h.get? dx=some od/\∀name,PySem.W.lookIn name od=some (mA name):=by
 obtain⟨o,es,ep,ho,hd,hk,_,hm⟩:=n;refine⟨o,ho,fun name=>?_⟩;have e:=hm name;unfold nsFind findBy at e;rw[<-Array.find?_toList]at e;unfold PySem.W.lookIn;rw[hd];dsimp only;split
 .rename_i y q;rw[q]at e;exact congrArg some e
 .rename_i q;rw[q]at e;have a:es.toList.any (·.refKey)=false:=by
   rw[List.any_eq_false];intro y hy;obtain⟨z,t,hkey⟩:=hk y (Array.mem_toList_iff.mp hy);simp[DictEntry.refKey,hkey]
  have a':¬es.toList.any (·.refKey)=true:=by rw[a];exact AZ
  rw[AS a'];exact congrArg some e
theorem ObjM.look{h:Heap}{x dx C:Addr}{mA:Str->Option Value}(I:ObjM h x dx C mA):∃od,PySem.W.InstAt h x (PySem.W.instObj C dx) C (some od)/\∀name,PySem.W.lookIn name od=some (mA name) :=
 let⟨od,ho,hl⟩:=Sh I.ns
 ⟨od,⟨I.obj,rfl,rfl,ho⟩,hl⟩
section
variable{prog:Program}{w:World}{A:Around}{E:Value->Shared->Prop}{s:Shared}{K:PySem.W.Frag}{x dx C f:Addr}{mA:Str->Option Value}{name:Str}{v:Value}
theorem Wr{expr:Bool}{Q:Value->Shared->Prop}(X:K.In s.heap)(I:ObjM s.heap x dx C mA)(hg:PySem.W.plainGet K C name=true)(hh:PySem.W.hasDictIn K C=true)
  (ha:PySem.W.findIn K (.ref C) name=some none) (hv:mA name=some v) (hv':PySem.W.handedIn v=true) (h:Q v { s with toks:=s.toks+1 }) :
  wpAny (model prog w) A (getAttr (.ref x) name expr) Q E s:=by
 obtain⟨od,J,hl⟩:=I.look;exact PySem.W.get_value X J (PySem.W.plainGet_of hg).1 (PySem.W.findObj_own hh ha rfl (by rw[hl,hv])) hv' h
theorem Th{pl:Sem Bool}{Q:Value×List Value->Shared->Prop}(X:K.In s.heap)(I:ObjM s.heap x dx C mA)(hg:PySem.W.plainGet K C name=true)
  (hf:PySem.W.findIn K (.ref C) name=some (some (.ref f))) (ht:PySem.W.isFn K (.ref f)=true) (hv:mA name=none) (h:Q (.ref f,[.ref x]) s) :
  wpAny (model prog w) A (getMethod (.ref x) name pl) Q E s:=by
 obtain⟨od,J,hl⟩:=I.look;exact PySem.W.method_fn X J (PySem.W.plainGet_of hg).1 (PySem.W.plainGet_of hg).2 hf (beq_iff_eq.mp ht) (by show(PySem.W.lookIn name od).map (·.isSome)=some false;rw[hl,hv];rfl) h
theorem Yh{ns:List Str}{Q:Unit->Shared->Prop}(X:K.In s.heap)(I:ObjM s.heap x dx C mA)
  (hs:PySem.W.findIn K (.ref C) "__setattr__" = some (some (.builtin "object.__setattr__"))) (hp:PySem.W.plainOver K C=true) (ht:PySem.W.takerIn K C name=some none) (hh:PySem.W.hasDictIn K C=true)
  (hw:PySem.Within mA ns) (hsz:ns.length<=sizeLine)
  (h:∀h',ObjM h' x dx C (fun y=>if y=name then some v else mA y)->Heap.SameBut dx s.heap h'->Q () { s with heap:=h',toks:=s.toks+2 }) :
  wpAny (model prog w) A (setAttr (.ref x) name v) Q E s:=by
 obtain⟨od,J,hl⟩:=I.look;refine PySem.W.set_plain X J hs (PySem.W.osa_open (s:={ s with toks:=s.toks+1 }) (r:=none) X J hp ht fun b=>?_);obtain⟨cd,hc,hd'⟩:=PySem.W.any_some hh;have hx:s.heap.get? x=some ⟨.ref C,some dx,.plain,#[]⟩:=I.obj;refine AB (AD (AB (AB (wpAny_loadPart hx (AB (PySem.W.Looks.here (s:={ s with toks:=s.toks+1 }) (PySem.W.looks_clsIn X hc) ?_))))));rw[hd'];refine AD (a:=some dx) (AB (AD (AB ?_)));refine wpAny_nsSet1 (s:={ s with toks:=s.toks+1 }) I.ns fun h' hn2 hs2=>?_;obtain⟨oD,esD,epD,hoD,hdD,hcD⟩:=hn2.count (PySem.Within.cons name v hw);refine AB (wpAny_lookBehind hoD (by rw[hdD];exact pastItsLine_dict (Nat.le_trans hcD (by rw[BK];omega))) ?_);exact AD (h _ ⟨(hs2.2 _ (Ne.symm I.ne)).trans I.obj,hn2,I.ne⟩ hs2)
theorem Va{R:Result->Shared->Prop}{vs:List Value}{kw:List (Str×Value)}(X:K.In s.heap)(hm:PySem.W.makesIn K C=true)
  (hi:PySem.W.findIn K (.ref C) "__init__" = some (some (.ref f))) (hf:PySem.W.typeIn K (.ref f)=some (.type "function"))
  (h:codeAny (model prog w) (A.under (.builtin "type.__call__" ⟨.ref C::vs,kw⟩)) (.call (.ref f) ⟨.ref (s.heap.objs.size+1)::vs,kw⟩) (PySem.W.InitBack (s.heap.objs.size+1) R)
   { s with heap:=(s.heap.push PySem.W.emptyDict).push (PySem.W.instObj C s.heap.objs.size) }) :
  codeAny (model prog w) A (.call (.ref C) ⟨vs,kw⟩) R s:=by
 obtain⟨hh,g,d,t,os⟩:=s;exact PySem.W.make_core (PySem.W.makes_of X hm) (PySem.W.looks_findIn X hi) (fun self=>PySem.W.bind_fn X self hf) (.inl rfl) h
end
def M8(f:Str)(v:V):List (Str×V)->List (Str×V)
 | []=>[(f,v)]
 | (g,x)::r=>if g=f then(g,v)::r else(g,x)::M8 f v r
theorem Bd(f g:Str)(v:V):∀fs:List (Str×V),(M8 f v fs).lookup g=if g=f then some v else fs.lookup g
 | []=>by
  show List.lookup g [(f,v)]=_;by_cases h:g=f
  .have hb:(g == f)=true:=beq_iff_eq.mpr h;simp only[List.lookup,hb,AY h]
  .have hb:(g == f)=false:=beq_eq_false_iff_ne.mpr h;simp only[List.lookup,hb,AS h]
 | (k,x)::r=>by
  have ih:=Bd f g v r;rw[show M8 f v ((k,x)::r) =(if k=f then(k,v)::r else(k,x)::M8 f v r)from rfl];by_cases hk:k=f
  .rw[AY hk];by_cases h:g=k
   .have hb:(g == k)=true:=beq_iff_eq.mpr h;simp only[List.lookup,hb,AY (h.trans hk)]
   .have hb:(g == k)=false:=beq_eq_false_iff_ne.mpr h;simp only[List.lookup,hb,AS (fun e:g=f=>h (e.trans hk.symm))]
  .rw[AS hk];by_cases h:g=k
   .have hb:(g == k)=true:=beq_iff_eq.mpr h;simp only[List.lookup,hb,AS (fun e:g=f=>hk (h.symm.trans e))]
   .have hb:(g == k)=false:=beq_eq_false_iff_ne.mpr h;simp only[List.lookup,hb];exact ih
theorem Aq(f:Str)(v:V):∀fs:List (Str×V),f∈(M8 f v fs).map (·.1)/\∀g,g∈fs.map (·.1)->g∈(M8 f v fs).map (·.1)
 | []=>⟨by simp[M8],fun g h=>by simp at h⟩
 | (k,x)::r=>by
  obtain⟨i1,i2⟩:=Aq f v r;rw[show M8 f v ((k,x)::r) =(if k=f then(k,v)::r else(k,x)::M8 f v r)from rfl];by_cases hk:k=f
  .rw[AY hk];subst hk;exact⟨by simp,fun g h=>by simpa using h⟩
  .rw[AS hk];refine⟨?_,fun g h=>?_⟩
   .rw[BM];exact AO _ i1
   .rw[BM]at h⊢;rcases AX.mp h with e | e
    .exact AX.mpr (.inl e)
    .exact AO _ (i2 g e)
theorem Am(f:Str)(v:V):∀fs:List (Str×V),(M8 f v fs).length<=fs.length+1
 | []=>by simp[M8]
 | (k,x)::r=>by
  have ih:=Am f v r;rw[show M8 f v ((k,x)::r) =(if k=f then(k,v)::r else(k,x)::M8 f v r)from rfl];by_cases hk:k=f
  .rw[AY hk,BK,BK];omega
  .rw[AS hk,BK,BK];omega
theorem RelO.some_of{v:V}{o:Option Value}(r:RelO (some v) o):∃u,o=some u/\RelV v u:=by
 cases o with
 | none=>exact(show False from r).elim
 | some u=>exact⟨u,rfl,r⟩
theorem RelO.none_of{o:Option Value}(r:RelO none o):o=none:=by
 cases o with
 | none=>rfl
 | some u=>exact(show False from r).elim
theorem Qy{v:V}{u:Value}(r:RelV v u):PySem.W.handedIn u=true:=by
 cases v with
 | non=>cases(show u=Value.none from r);rfl
 | bl b=>cases(show u=Value.bool b from r);rfl
 | int i=>obtain⟨t,e⟩:=(show ∃t,u=Value.int i t from r);cases e;rfl
 | str x=>obtain⟨t,e⟩:=(show ∃t,u=Value.str x t from r);cases e;rfl
 | byt b=>obtain⟨t,e⟩:=(show ∃t,u=Value.bytes b t from r);cases e;rfl
 | flt b=>obtain⟨t,e⟩:=(show ∃t,u=Value.float b t from r);cases e;rfl
 | ref a=>cases(show u=Value.ref a from r);rfl
 | ty n=>cases(show u=Value.type n from r);rfl
section
variable{P:Program}{w:World}{H H':Hp}{h h':Heap}{a C dx:Addr}{fs fs':List (Str×V)}
theorem Ef(hok:HOk P w H h)(e:H a=some (.ins C dx fs)):∃mA,ObjM h a dx C mA/\(∀f,RelO (fs.lookup f) (mA f))/\PySem.Within mA (fs.map (·.1))/\fs.length<=1000/\H dx=some (.own a):=by
 obtain⟨d,z,ne,ob,mA,n,r,q⟩:=(show ObjOk P w H h a (.ins C dx fs)from hok a _ e);exact⟨mA,⟨ob,n,ne⟩,r,q,z,d⟩
end
structure Cls(K:PySem.W.Frag)(C:Addr):Prop where
 pg:PySem.W.plainGet K C Str.empty=true
 hd:PySem.W.hasDictIn K C=true
 po:PySem.W.plainOver K C=true
 sa:PySem.W.findIn K (.ref C) "__setattr__" = some (some (.builtin "object.__setattr__"))
theorem Cls.get{K:PySem.W.Frag}{C:Addr}(c:Cls K C)(f:Str):PySem.W.plainGet K C f=true:=c.pg
def NoAttr(K:PySem.W.Frag)(C:Addr)(f:Str):Prop:=PySem.W.findIn K (.ref C) f=some none
theorem NoAttr.taker{K:PySem.W.Frag}{C:Addr}{f:Str}(n:NoAttr K C f):PySem.W.takerIn K C f=some none:=by
 unfold PySem.W.takerIn;rw[show PySem.W.findIn K (.ref C) f=some none from n];rfl
structure Meth(K:PySem.W.Frag)(C:Addr)(m:Str)(f:Addr):Prop where
 at_:PySem.W.findIn K (.ref C) m=some (some (.ref f))
 fn:PySem.W.isFn K (.ref f)=true
 kp:PySem.W.keepIn K (.ref f)=true
section
variable{X:Cx}{pins:List (Addr×Obj)}{σ:St}{H:Hp}{s:Shared}{a C dx:Addr}{fs:List (Str×V)}{f:Str}{v:V}{A:Around}{E:Value->Shared->Prop}
theorem Mz{b:Bool}{Q:Value->Shared->Prop}(I:Inv X pins σ H s)(e:H a=some (.ins C dx fs))(c:Cls X.K C)(n:NoAttr X.K C f)(l:fs.lookup f=some v)
  (h:∀u s',Inv X pins σ H s'->RelV v u->Q u s'):wpAny (model X.prog X.w) A (getAttr (.ref a) f b) Q E s:=by
 obtain⟨mA,O,r,_,_,_⟩:=Ef I.hok e;obtain⟨u,hu,ru⟩:=RelO.some_of (v:=v) (o:=mA f) (by rw[<-l];exact r f);exact Wr I.kIn O (c.get f) c.hd n hu (Qy ru) (h u _ (I.tok _) ru)
theorem Dc{m:Str}{g:Addr}{pl:Sem Bool}{Q:Value×List Value->Shared->Prop}(I:Inv X pins σ H s)(e:H a=some (.ins C dx fs))(c:Cls X.K C)(k:Meth X.K C m g)(l:fs.lookup m=none)
  (h:Q (.ref g,[.ref a]) s):wpAny (model X.prog X.w) A (getMethod (.ref a) m pl) Q E s:=by
 obtain⟨mA,O,r,_,_,_⟩:=Ef I.hok e;have hn:mA m=none:=RelO.none_of (by rw[<-l];exact r m);exact Th I.kIn O (c.get m) k.at_ k.fn hn h
theorem Ng{y:V}{u:Value}{Q:Unit->Shared->Prop}(I:Inv X pins σ H s)(e:H a=some (.ins C dx fs))(c:Cls X.K C)(n:NoAttr X.K C f)(hl:fs.length<1000)(ry:RelV y u)
  (h:∀s',Inv X pins σ (upd H a (.ins C dx (M8 f y fs))) s'->Q () s'):wpAny (model X.prog X.w) A (setAttr (.ref a) f u) Q E s:=by
 obtain⟨mA,O,r,wi,_,ho⟩:=Ef I.hok e;have hz:(fs.map (·.1)).length<=sizeLine:=by rw[AA,sizeLine_eq];omega
 refine Yh I.kIn O c.sa c.po n.taker c.hd wi hz fun h' O' sb=>h _ ?_;have hd:∃o,h'.get? dx=some o:=let⟨o,_,_,e',_⟩:=O'.ns;⟨o,e'⟩;refine I.write (x:=a) (e:=dx) (by rw[e];exact True.intro) (.inr ho) (fun b q hb z=>(sb.2 b hb).trans z) hd ?_;refine⟨by rw[B6 O.ne];exact ho,?_,O.ne,O'.obj,_,O'.ns,fun g=>?_,fun g hg=>?_⟩
 .have:=Am f y fs;omega
 .show RelO ((M8 f y fs).lookup g) (if g=f then some u else mA g);rw[Bd];by_cases q:g=f
  .rw[AY q,AY q];exact ry
  .rw[AS q,AS q];exact r g
 .by_cases q:g=f
  .rw[q];exact(Aq f y fs).1
  .refine(Aq f y fs).2 g (wi g fun z=>hg ?_);show(if g=f then some u else mA g)=none;rw[AS q];exact z
theorem Inv.made(I:Inv X pins σ H s):Inv X pins σ (upd (upd H s.heap.objs.size (.own (s.heap.objs.size+1))) (s.heap.objs.size+1) (.ins C s.heap.objs.size []))
  { s with heap:=(s.heap.push PySem.W.emptyDict).push (PySem.W.instObj C s.heap.objs.size) }:=by
 have e1:(s.heap.push PySem.W.emptyDict).get? s.heap.objs.size=some PySem.W.emptyDict:=BE s.heap rfl;have e2:((s.heap.push PySem.W.emptyDict).push (PySem.W.instObj C s.heap.objs.size)).get? (s.heap.objs.size+1)=some (PySem.W.instObj C s.heap.objs.size):=by
  have:=BE (s.heap.push PySem.W.emptyDict) (o:=PySem.W.instObj C s.heap.objs.size) rfl
  rwa [CB]at this
 have e3:(s.heap.push PySem.W.emptyDict).Ns s.heap.objs.size (fun _=>none):=⟨PySem.W.emptyDict,#[],_,e1,rfl,(fun e he=>absurd he (by simp)),fun _=>rfl⟩;have I1:=I.laid (a:=s.heap.objs.size) (o:=.own (s.heap.objs.size+1)) (h':=s.heap.push PySem.W.emptyDict) (t':=s.toks) (fun b u q=>AE _ q) (Nat.le_refl _) ⟨_,e1⟩;refine I1.laid (a:=s.heap.objs.size+1) (o:=.ins C s.heap.objs.size []) (t':=s.toks) (fun b u q=>AE _ q) (Nat.le_of_eq (CB _ _)) ?_;have ne:s.heap.objs.size≠s.heap.objs.size+1:=BD (ET _);refine⟨by rw[B6 ne,A9],BT _,ne,e2,fun _=>none,(Heap.Ns1.of_empty e3).at fun o q=>AE _ q,fun _=>True.intro,fun y hy=>absurd rfl hy⟩
theorem Xk{prog:Program}{w:World}{env:Env}{e:Expr}{f:Str}{pos:Pos}{s:Shared}{Q:Value->Shared->Prop}(hb:attributeBase e f env (eval e env)=eval e env)
  (h:wpAny (model prog w) A (eval e env) (fun o s₁=>wpAny (model prog w) A (getAttr o f true) Q E s₁) E s):wpAny (model prog w) A (eval (.Attribute e f pos) env) Q E s :=
 Attribute_any_ h (by rw[arm_eval_Attribute,hb])
end
def zEh(K:PySem.W.Frag)(ta:TE)(f:Str):TE:=fun σ H Q=>ta σ H fun x H1=>∃a C dx fs v,x = .ref a/\H1 a=some (.ins C dx fs)/\Cls K C/\NoAttr K C f/\fs.lookup f=some v/\Q v H1
def zDd(K:PySem.W.Frag)(ta tv:TE)(f:Str):TS:=fun D σ H=>tv σ H fun y H1=>ta σ H1 fun x H2=>∃a C dx fs,x = .ref a/\H2 a=some (.ins C dx fs)/\Cls K C/\NoAttr K C f/\fs.length<1000 /\
 D.nx σ (upd H2 a (.ins C dx (M8 f y fs)))
section
variable{X:Cx}{o e value:Expr}{f:Str}{pos pos' tpos:Pos}{ta tv:TE}
theorem zCi(he:PE X e ta)(hb:attributeBase e f X.env (eval e X.env)=eval e X.env):PE X (.Attribute e f pos) (zEh X.K ta f):=by
 intro pins s σ H Q I h;refine Xk hb (thn (he pins s σ H _ I h) fun u s1 ⟨x,H1,I1,rx,a,C,dx,fs,v,ex,ea,c,n,l,q⟩=>?_);subst ex;obtain rfl:u=Value.ref a:=rx;exact Mz I1 ea c n l fun u' s2 I2 ru=>⟨v,H1,I2,ru,q⟩
theorem zCh(ha:PE X o ta)(hv:PE X value tv)(hs:swapsWith value (some (.Attribute o f pos')) pos.line X.env=pure false):PS X (.Assign [.Attribute o f pos'] value pos) (zDd X.K ta tv f):=by
 intro pins s σ H D I h;refine plainObj_wpAny_Assign_Attribute (thn (hv pins s σ H _ I h) fun u s1 ⟨y,H1,I1,ry,q⟩=>thn (ha pins s1 σ H1 _ I1 q) fun ov s2 ⟨x,H2,I2,rx,a,C,dx,fs,ex,ea,c,n,l,q2⟩=>?_) hs;subst ex;obtain rfl:ov=Value.ref a:=rx;exact Ng I2 ea c n l ry fun s3 I3=>⟨σ,_,I3,q2⟩
end
section
variable{X:Cx}{pins:List (Addr×Obj)}{σ:St}{H:Hp}{s:Shared}{A:Around}{E:Value->Shared->Prop}{Q:Value->Shared->Prop}{c:Value}{b:Bool}
inductive TyOf(K:PySem.W.Frag)(H:Hp):V->Value->Prop where
 | non:TyOf K H .non (.type "NoneType")
 | bl (x:Bool):TyOf K H (.bl x) (.type "bool")
 | int (i:Int):TyOf K H (.int i) (.type "int")
 | str (x:Str):TyOf K H (.str x) (.type "str")
 | flt (x:UInt64):TyOf K H (.flt x) (.type "float")
 | lst {a:Addr} {xs:List V} (e:H a=some (.lst xs)):TyOf K H (.ref a) (.type "list")
 | frz {a:Addr} {o:Obj} {xs:List V} (e:H a=some (.frz o (.lst xs))):TyOf K H (.ref a) (.type "list")
 | tup {a:Addr} {xs:List V} (e:H a=some (.tup xs)):TyOf K H (.ref a) (.type "tuple")
 | dK {a:Addr} {kvs:List (Key×V)} (e:H a=some (.dK kvs)):TyOf K H (.ref a) (.type "dict")
 | dT {a:Addr} {kvs:List (List Key×V)} (e:H a=some (.dT kvs)):TyOf K H (.ref a) (.type "dict")
 | ins {a C dx:Addr} {fs:List (Str×V)} (e:H a=some (.ins C dx fs)) (cl:Cls K C) (ha:PySem.W.findIn K (.ref C) "__class__" = some (some (.builtin "object.__class__")))
   (hn:PySem.W.specialIn K (.builtin "object.__class__") "__get__" = some (some (.builtin "getset_descriptor.__get__"))) (htk:PySem.W.takesIn K (.builtin "object.__class__")=some true)
   (hm:PySem.W.mroIn K C (.type "object")=some true):TyOf K H (.ref a) (.ref C)
theorem Fi{x:V}{u t:Value}(I:Inv X pins σ H s)(rx:RelV x u)(ty:TyOf X.K H x t)(e:PySem.W.kitOne X.K t c=some b)(h:∀tk,Q (.bool b) { s with toks:=tk }) :
  wpAny (model X.prog X.w) A (call (.builtin "isinstance") [u,c]) Q E s:=by
 cases ty with
 | non=>cases(show u=Value.none from rx);exact PySem.W.kia_one PySem.W.kitx_none I.kIn True.intro e (fun z=>nomatch z) h
 | bl y=>cases(show u=Value.bool y from rx);exact PySem.W.kia_one PySem.W.kitx_bool I.kIn True.intro e (fun z=>nomatch z) h
 | int i=>obtain⟨t,q⟩:=(show ∃t,u=Value.int i t from rx);cases q;exact PySem.W.kia_one PySem.W.kitx_int I.kIn True.intro e (fun z=>nomatch z) h
 | str y=>obtain⟨t,q⟩:=(show ∃t,u=Value.str y t from rx);cases q;exact PySem.W.kia_one PySem.W.kitx_str I.kIn True.intro e (fun z=>nomatch z) h
 | flt y=>obtain⟨t,q⟩:=(show ∃t,u=Value.float y t from rx);cases q;exact PySem.W.kia_one PySem.W.kitx_float I.kIn True.intro e (fun z=>nomatch z) h
 | @lst a xs ea =>
  cases(show u=Value.ref a from rx);obtain⟨_,_,n,_,h1⟩:=(show ObjOk X.prog X.w H s.heap a (.lst xs)from I.hok a _ ea);exact PySem.W.kia_one PySem.W.kitx_list I.kIn ⟨_,h1,rfl⟩ e (fun z=>nomatch z) h
 | @frz a ob xs ea =>
  cases(show u=Value.ref a from rx);obtain⟨_,_,_,n,_,h1⟩:=(show ObjOk X.prog X.w H s.heap a (.frz ob (.lst xs))from I.hok a _ ea);exact PySem.W.kia_one PySem.W.kitx_list I.kIn ⟨_,h1,rfl⟩ e (fun z=>nomatch z) h
 | @tup a xs ea =>
  cases(show u=Value.ref a from rx);obtain⟨_,_,_,p⟩:=(show ObjOk X.prog X.w H s.heap a (.tup xs)from I.hok a _ ea);obtain⟨o,h1,h2,_⟩:=p;exact PySem.W.kia_one PySem.W.kitx_tuple I.kIn ⟨o,h1,h2⟩ e (fun z=>nomatch z) h
 | @dK a kvs ea =>
  cases(show u=Value.ref a from rx);obtain⟨_,_,vs,_,p⟩:=(show ObjOk X.prog X.w H s.heap a (.dK kvs)from I.hok a _ ea);obtain⟨o,es,ep,h1,h2,_⟩:=p;exact PySem.W.kia_one PySem.W.kitx_dict I.kIn ⟨o,h1,h2.1⟩ e (fun z=>nomatch z) h
 | @dT a kvs ea =>
  cases(show u=Value.ref a from rx);obtain⟨_,_,xs,_,o,es,ep,h1,h2,_⟩:=(show ObjOk X.prog X.w H s.heap a (.dT kvs)from I.hok a _ ea);exact PySem.W.kia_one PySem.W.kitx_dict I.kIn ⟨o,h1,h2.1⟩ e (fun z=>nomatch z) h
 | @ins a C dx fs ea cl ha hn htk hm =>
  cases(show u=Value.ref a from rx);obtain⟨mA,O,_⟩:=Ef I.hok ea;obtain⟨od,J,_⟩:=O.look;exact PySem.W.kia_one (PySem.W.kitx_own (cl.get _) cl.hd ha hn htk hm) I.kIn J e (fun z=>nomatch z) h
end
structure Room(k:Nat)(A:Around):Prop where
 hd:A.handled=none
 dp:A.depth+3*k+5<recursionLimit
 un:A.units+16*k+200<cLine
theorem Room.mono{j k:Nat}{A:Around}(r:Room k A)(h:j<=k):Room j A:=⟨r.hd,by have:=r.dp;omega,by have:=r.un;omega⟩
theorem Room.deeper{k:Nat}{A:Around}(r:Room (k+1) A)(env:Env):Room k (A.deeper env) :=
 ⟨r.hd,by have:=r.dp;show A.depth+1+3*k+5<_;omega,by have:=r.un;show A.units+3+16*k+200<_;omega⟩
theorem Nc{A:Around}{C:Addr}{us:List Value}{kw:List (Str×Value)}:(A.under (.builtin "type.__call__" ⟨.ref C::us,kw⟩)).depth=A.depth+1:=by
 first | rfl | simp[Around.under,Code.weight,Code.isCreation,Code.isGuard,Code.isCaller,Code.frames,Code.isFrame,guardIds]
theorem No{A:Around}{C:Addr}{us:List Value}{kw:List (Str×Value)}:(A.under (.builtin "type.__call__" ⟨.ref C::us,kw⟩)).units=A.units+1:=by
 first | rfl | simp[Around.under,Code.cUnits,Code.frames,Code.isFrame]
theorem Room.make{k:Nat}{A:Around}(r:Room (k+1) A)(C:Addr)(us:List Value)(kw:List (Str×Value)):Room k (A.under (.builtin "type.__call__" ⟨.ref C::us,kw⟩)) :=
 ⟨r.hd,by have:=r.dp;rw[Nc];omega,by have:=r.un;rw[No];omega⟩
theorem Room.depth{k:Nat}{A:Around}(r:Room k A):A.depth<recursionLimit:=by have:=r.dp;omega
theorem Room.units{k:Nat}{A:Around}(r:Room k A):A.units+64<cLine:=by have:=r.un;omega
def Wa:TA:=fun _ H Q=>Q [] H
def Nl(ta:TE)(tr:TA):TA:=fun σ H Q=>ta σ H fun x H1=>tr σ H1 fun xs H2=>Q (x::xs) H2
section
variable{X:Cx}{e:Expr}{es:List Expr}{te:TE}{t:TA}{pos:Pos}
theorem B0:PA X [] Wa:=fun _ _ _ _ H Q I h=>Calls.spliced_nil ⟨[],H,I,.nil,h⟩
theorem A8(ha:PE X e te)(hr:PA X es t)(hs:starEach (e::es) X.env =(false,eval e X.env)::starEach es X.env:=by rfl):PA X (e::es) (Nl te t):=by
 intro pos pins s σ H Q I h;rw[hs];show wpAny _ _ (spliced ((false,eval e X.env)::backTo pos (starEach es X.env))) _ _ s;refine Calls.spliced_cons (thn (ha pins s σ H _ I h) fun u s1 ⟨x,H1,I1,r1,q1⟩=>?_);exact thn (hr pos pins s1 σ H1 _ I1 q1) fun us s2 ⟨xs,H2,I2,r2,q2⟩=>⟨x::xs,H2,I2,.cons r1 r2,q2⟩
def zEi(t:TA):TE:=fun σ H Q=>t σ H fun xs H1=>xs.length<=sizeLine/\∀p,H1 p=none->Q (.ref p) (upd H1 p (.tup xs))
def zEj(t:TA):TE:=fun σ H Q=>t σ H fun xs H1=>xs.length<=sizeLine/\∀p,H1 p=none->Q (.ref p) (upd H1 p (.lst xs))
theorem U8{x1}(h:PA X es t):PE X (.Tuple es x1 pos) (zEi t):=by
 intro pins s σ H Q I hq;refine wpAny_Tuple_spliced (thn (h pos pins s σ H _ I hq) fun us s1 ⟨xs,H1,I1,r,z,q⟩=>⟨by rw[<-r.length];exact z,?_⟩);have hf:H1 s1.heap.objs.size=none:=I1.hok.fresh (Nat.le_refl _);refine⟨.ref s1.heap.objs.size,upd H1 s1.heap.objs.size (.tup xs),I1.laid (t':=s1.toks) (fun b u e=>AE _ e) (Nat.le_refl _) ?_,rfl,q _ hf⟩;exact⟨z,us,r,⟨_,BE _ rfl,rfl,_,rfl⟩⟩
theorem E9(h:PA X es t):PE X (.List es pos) (zEj t):=by
 intro pins s σ H Q I hq;refine wpAny_List_spliced (thn (h pos pins s σ H _ I hq) fun us s1 ⟨xs,H1,I1,r,z,q⟩=>⟨by rw[<-r.length];exact z,?_⟩);have hf:H1 s1.heap.objs.size=none:=I1.hok.fresh (Nat.le_refl _);refine⟨.ref s1.heap.objs.size,upd H1 s1.heap.objs.size (.lst xs),I1.laid (t':=s1.toks) (fun b u e=>AE _ e) (Nat.le_refl _) ?_,rfl,q _ hf⟩;exact⟨z,us,0,r,BE _ rfl⟩
end
abbrev Sp:=List V->Hp->VK->XK->Prop
abbrev CXT:=List Env->Hp->Shared->XK->Value->Shared->Prop
structure Env0(P:Program)(w:World)(K:PySem.W.Frag)(mg:Str->Option Value)(base:Heap)(A:Around)(outer:List Env)(s:Shared)(H:Hp):Prop where
 frames:A.frames=some outer
 mod:Mod K mg base
 bs:∀b o,base.get? b=some o->s.heap.get? b=some o/\H b=none
 bsz:base.objs.size<=s.heap.objs.size
 funs:s.heap.FunFrames base outer
 frf:∀b∈frs outer,H b=none
 hok:HOk P w H s.heap
 bare:AllBare s.gens
def CE(outer:List Env)(P:Program)(w:World)(H:Hp)(s:Shared)(Q:VK)(u:Value)(s':Shared):Prop :=
 ∃v H',s'.os=s.os/\AllBare s'.gens/\Un (frs outer) [] H H' s.heap s'.heap/\HOk P w H' s'.heap/\RelV v u/\Q v H'
def CR(CX:CXT)(outer:List Env)(P:Program)(w:World)(H:Hp)(s:Shared)(Q:VK)(E:XK)(r:Result)(s':Shared):Prop :=
 match r with
 | .ok (.ret u)=>CE outer P w H s Q u s'
 | .ok _=>False
 | .error e=>CX outer H s E e s'
structure FnOk(P:Program)(w:World)(K:PySem.W.Frag)(mg:Str->Option Value)(base:Heap)(CX:CXT)(k:Nat)(f:Addr)(fd:FuncData)(ps:List Str)(sp:Sp):Prop where
 len:∀vs H Q E,sp vs H Q E->vs.length=ps.length
 run:∀(A:Around) (outer:List Env) (s:Shared) (H:Hp) (args:Args) (us:List Value) (vs:List V) (Q:VK) (E:XK),Room k A->Env0 P w K mg base A outer s H->BindsTo s fd args (ps.zip us)->Vals vs us->sp vs H Q E ->
  codeAny (model P w) A (.call (.ref f) args) (CR CX outer P w H s Q E) s
theorem FnOk.mono{P:Program}{w:World}{K:PySem.W.Frag}{mg:Str->Option Value}{base:Heap}{CX:CXT}{j k:Nat}{f:Addr}{fd:FuncData}{ps:List Str}{sp:Sp}(F:FnOk P w K mg base CX j f fd ps sp)(h:j<=k) :
  FnOk P w K mg base CX k f fd ps sp:=⟨F.len,fun A outer s H args us vs Q E hr=>F.run A outer s H args us vs Q E (hr.mono h)⟩
theorem Env0.make{P:Program}{w:World}{K:PySem.W.Frag}{mg:Str->Option Value}{base:Heap}{A:Around}{outer:List Env}{s:Shared}{H:Hp}(e:Env0 P w K mg base A outer s H)(C:Addr)(us:List Value)(kw:List (Str×Value)) :
  Env0 P w K mg base (A.under (.builtin "type.__call__" ⟨.ref C::us,kw⟩)) outer s H:=⟨by first | exact e.frames | (simpa [Around.under,Code.envs,Code.isFrame,pushEnvs] using e.frames),e.mod,e.bs,e.bsz,e.funs,e.frf,e.hok,e.bare⟩
section
variable{X:Cx}{pins:List (Addr×Obj)}{σ:St}{H:Hp}{s s':Shared}
theorem Inv.env0(I:Inv X pins σ H s):Env0 X.prog X.w X.K X.mg X.base X.A X.stack s H :=
 ⟨I.ok.frames,I.ok.mod,I.bs,Nat.le_trans I.ok.bsz I.sz,I.stack,I.stkFree,I.hok,I.bare⟩
theorem Inv.after{Q:VK}{u:Value}(I:Inv X pins σ H s)(h:CE X.stack X.prog X.w H s Q u s'):EP X pins σ Q u s':=by
 obtain⟨v,H',os,bare,un,hok,r,q⟩:=h;obtain⟨hh,g,d,t,os'⟩:=s';obtain rfl:os'=s.os:=os;exact⟨v,H',I.call (h':=hh) (g':=g) (d':=d) (t':=t) (ch:=[]) un hok bare (fun b z=>absurd z (by simp)),r,q⟩
end
def zBy(sp:Sp)(dvs:List V)(E:XK)(t:TA):TE:=fun σ H Q=>t σ H fun vs H1=>sp (vs++dvs) H1 Q E
def zBz(C:Addr)(m:Str)(sp:Sp)(dvs:List V)(E:XK)(ta:TE)(t:TA):TE:=fun σ H Q=>ta σ H fun x H1=>∃a dx fs,x = .ref a/\H1 a=some (.ins C dx fs)/\fs.lookup m=none /\
 t σ H1 fun vs H2=>sp (x ::(vs++dvs)) H2 Q E
def zDa(C:Addr)(sp:Sp)(dvs:List V)(E:XK)(t:TA):TE:=fun σ H Q=>t σ H fun vs H1=>∀x dx,H1 x=none->H1 dx=none->dx≠x ->
 sp (.ref x ::(vs++dvs)) (upd (upd H1 dx (.own x)) x (.ins C dx [])) (fun v H2=>v = .non/\Q (.ref x) H2) E
def Binds(K:PySem.W.Frag)(fd:FuncData)(ps:List Str)(ds:List Value):Prop :=
 ∀(s:Shared) (us:List Value),K.In s.heap->(us++ds).length=ps.length->BindsTo s fd ⟨us,[]⟩ (ps.zip (us++ds))
theorem Binds.all{K:PySem.W.Frag}{fd:FuncData}{ps:List Str}(h:∀us:List Value,us.length=ps.length->bindArgs fd ⟨us,[]⟩=pure (ps.zip us)):Binds K fd ps []:=fun s us _ hl=>by
 rw[CL]at hl⊢;exact .of_eq (h us hl)
def Ax(CX:CXT)(X:Cx)(E:XK):Prop:=∀(pins:List (Addr×Obj)) (σ:St) (H:Hp) (s:Shared) (e:Value) (s':Shared),Inv X pins σ H s->CX X.stack H s E e s'->X.xe e s'
section
variable{X:Cx}{CX:CXT}{k:Nat}{f C:Addr}{fd:FuncData}{ps:List Str}{sp:Sp}{dvs:List V}{ds:List Value}{E:XK}{x m:Str}{p pos apos:Pos}{e o:Expr}{es:List Expr}{ta:TE}{t:TA}
theorem Kn{pins:List (Addr×Obj)}{σ:St}{H:Hp}{s:Shared}{Q:VK}{us:List Value}{vs:List V}(F:FnOk X.prog X.w X.K X.mg X.base CX k f fd ps sp)(hr:Room k X.A)(hb:Binds X.K fd ps ds)(hd:Vals dvs ds)(hx:Ax CX X E)
  (I:Inv X pins σ H s) (r:Vals vs us) (h:sp (vs++dvs) H Q E):wpAny (model X.prog X.w) X.A (call (.ref f) us) (EP X pins σ Q) X.xe s:=by
 have r2:Vals (vs++dvs) (us++ds):=r.append hd;have hl:(us++ds).length=ps.length:=by rw[<-r2.length];exact F.len _ _ _ _ h
 refine wpAny_call (FW (F.run X.A X.stack s H ⟨us,[]⟩ (us++ds) (vs++dvs) Q E hr I.env0 (hb s us I.kIn hl) r2 h) fun r s' hq=>?_);cases r with
 | error e=>exact hx pins σ H s e s' I hq
 | ok fl =>
  cases fl with
  | ret u=>exact I.after hq
  | next=>exact False.elim hq
  | brk=>exact False.elim hq
  | cont=>exact False.elim hq
theorem Ze(F:FnOk X.prog X.w X.K X.mg X.base CX k f fd ps sp)(hr:Room k X.A)(hg:Gl X x)(hm:X.mg x=some (.ref f))(hk:PySem.W.keepIn X.K (.ref f)=true)(hb:Binds X.K fd ps ds)(hd:Vals dvs ds)(hx:Ax CX X E)
  (ha:PA X (e::es) t) (hdb:(x ==("__debug__":Str))=false:=by decide) (he:starEach (e::es) X.env =(false,eval e X.env)::starEach es X.env:=by rfl) (hpl:(backTo pos (starEach es X.env)).any (·.1)=false:=by rfl) :
  PE X (.Call (.Name x p) (e::es) [] pos) (zBy sp dvs E t):=by
 intro pins s σ H Q I h;refine DP (Df I hg hm ?_ hdb);refine PySem.W.callWith_K (h₀:=X.base) I.ok.mod.kin hk (thn (ha pos pins s σ H _ I h) fun us s1 ⟨vs,H1,I1,r,q⟩=>⟨I1.kIn,?_⟩) he hpl;exact Kn F hr hb hd hx I1 r q
theorem Bv{pl:Sem Bool}(he:PE X o ta)(c:Cls X.K C)(hm:Meth X.K C m f)(F:FnOk X.prog X.w X.K X.mg X.base CX k f fd ps sp)(hr:Room k X.A)(hb:Binds X.K fd ps ds)(hd:Vals dvs ds)(hx:Ax CX X E)(ha:PA X (e::es) t)
  (hst:starEach (e::es) X.env =(false,eval e X.env)::starEach es X.env:=by rfl) (hpl:(backTo pos (starEach es X.env)).any (·.1)=false:=by rfl)
  (ht:eval (.Call (.Attribute o m apos) (e::es) [] pos) X.env =(do
   let ov <-eval o X.env
   standAt apos.atName
   let(f,first) <-holding [ov] (getMethod ov m pl)
   callWith pos f first (backTo pos (starEach (e::es) X.env)) (backToKw pos (keywordEach [] X.env))):=by rfl) :
  PE X (.Call (.Attribute o m apos) (e::es) [] pos) (zBz C m sp dvs E ta t):=by
 intro pins s σ H Q I h;refine PySem.W.methodCall_KW (pl:=pl) (thn (he pins s σ H _ I h) fun u s1 ⟨x,H1,I1,rx,a,dx,fs,ex,ea,l,q⟩=>?_) ht;subst ex;obtain rfl:u=Value.ref a:=rx;refine Dc I1 ea c hm l ?_;refine PySem.W.callWith_K (first:=[.ref a]) (h₀:=X.base) I.ok.mod.kin hm.kp (thn (ha pos pins s1 σ H1 _ I1 q) fun us s2 ⟨vs,H2,I2,r,q2⟩=>⟨I2.kIn,?_⟩) hst hpl;exact Kn (us:=.ref a::us) (vs:=.ref a::vs) F hr hb hd hx I2 (.cons rfl r) q2
theorem Kd{pl:Sem Bool}(he:PE X o ta)(c:Cls X.K C)(hm:Meth X.K C m f)(F:FnOk X.prog X.w X.K X.mg X.base CX k f fd ps sp)(hr:Room k X.A)(hb:Binds X.K fd ps ds)(hd:Vals dvs ds)(hx:Ax CX X E)
  (ht:eval (.Call (.Attribute o m apos) [] [] pos) X.env =(do
   let ov <-eval o X.env
   standAt apos.atName
   let(f,first) <-holding [ov] (getMethod ov m pl)
   callWith pos f first (backTo pos (starEach [] X.env)) (backToKw pos (keywordEach [] X.env))):=by rfl) :
  PE X (.Call (.Attribute o m apos) [] [] pos) (zBz C m sp dvs E ta Wa):=by
 intro pins s σ H Q I h;refine PySem.W.methodCall_KW (pl:=pl) (thn (he pins s σ H _ I h) fun u s1 ⟨x,H1,I1,rx,a,dx,fs,ex,ea,l,q⟩=>?_) ht;subst ex;obtain rfl:u=Value.ref a:=rx;refine Dc I1 ea c hm l ?_;exact PySem.W.callWith_K0 (first:=[.ref a]) I1.kIn hm.kp (Kn (us:=[.ref a]) (vs:=[.ref a]) F hr hb hd hx I1 (.cons rfl .nil) q)
structure Mk(K:PySem.W.Frag)(C f:Addr):Prop where
 makes:PySem.W.makesIn K C=true
 init:PySem.W.findIn K (.ref C) "__init__" = some (some (.ref f))
 fn:PySem.W.isFn K (.ref f)=true
 kp:PySem.W.keepIn K (.ref C)=true
theorem Vc{pins:List (Addr×Obj)}{σ:St}{H:Hp}{s:Shared}{Q:VK}{us:List Value}{vs:List V}(M:Mk X.K C f)(F:FnOk X.prog X.w X.K X.mg X.base CX k f fd ps sp)(hr:Room (k+1) X.A)(hb:Binds X.K fd ps ds)(hd:Vals dvs ds)
  (hx:Ax CX X E) (I:Inv X pins σ H s) (r:Vals vs us)
  (h:∀x dx,H x=none->H dx=none->dx≠x->sp (.ref x ::(vs++dvs)) (upd (upd H dx (.own x)) x (.ins C dx [])) (fun v H2=>v = .non/\Q (.ref x) H2) E) :
  wpAny (model X.prog X.w) X.A (call (.ref C) us) (EP X pins σ Q) X.xe s:=by
 have hq:=h (s.heap.objs.size+1) s.heap.objs.size (I.hok.fresh (C_ _)) (I.hok.fresh (Nat.le_refl _)) (BD (ET _));have I2:=Inv.made (C:=C) I;have r2:Vals (V.ref (s.heap.objs.size+1) ::(vs++dvs)) (Value.ref (s.heap.objs.size+1) ::(us++ds)):=.cons rfl (r.append hd);have hl:(Value.ref (s.heap.objs.size+1)::us++ds).length=ps.length:=by
  have e:=r2.length;rw[F.len _ _ _ _ hq]at e;exact e.symm
 refine wpAny_call (Va (f:=f) I.kIn M.makes M.init (beq_iff_eq.mp M.fn) (FW (F.run _ X.stack _ _ ⟨Value.ref (s.heap.objs.size+1)::us,[]⟩ (Value.ref (s.heap.objs.size+1) ::(us++ds)) _ _ E (hr.make C us [])
  (I2.env0.make C us []) (hb _ (Value.ref (s.heap.objs.size+1)::us) I2.kIn hl) r2 hq) fun r s' hq'=>?_))
 cases r with
 | error e=>exact hx pins σ _ _ e s' I2 hq'
 | ok fl =>
  cases fl with
  | ret u =>
   obtain⟨v,H',I3,rv,ev,q3⟩:=I2.after hq';subst ev;exact⟨rv,⟨V.ref (s.heap.objs.size+1),H',I3,rfl,q3⟩⟩
  | next=>exact False.elim hq'
  | brk=>exact False.elim hq'
  | cont=>exact False.elim hq'
theorem Oe(M:Mk X.K C f)(F:FnOk X.prog X.w X.K X.mg X.base CX k f fd ps sp)(hr:Room (k+1) X.A)(hg:Gl X x)(hm:X.mg x=some (.ref C))(hb:Binds X.K fd ps ds)(hd:Vals dvs ds)(hx:Ax CX X E)
  (ha:PA X (e::es) t) (hdb:(x ==("__debug__":Str))=false:=by decide) (he:starEach (e::es) X.env =(false,eval e X.env)::starEach es X.env:=by rfl) (hpl:(backTo pos (starEach es X.env)).any (·.1)=false:=by rfl) :
  PE X (.Call (.Name x p) (e::es) [] pos) (zDa C sp dvs E t):=by
 intro pins s σ H Q I h;refine DP (Df I hg hm ?_ hdb);refine PySem.W.callWith_K (h₀:=X.base) I.ok.mod.kin M.kp (thn (ha pos pins s σ H _ I h) fun us s1 ⟨vs,H1,I1,r,q⟩=>⟨I1.kIn,?_⟩) he hpl;exact Vc M F hr hb hd hx I1 r q
end
structure FnScope(N P:List Str)(sc:Scope):Prop where
 kind:sc.kind = .function
 co:sc.isCoroutine=false
 gen:sc.isGenerator=false
 nd:N.Nodup
 pre:N.take P.length=P
 par:∀x∈P,sc.names.lookup x=some .local\/sc.names.lookup x=some .cell
 nofree:∀y∈sc.names,y.2≠ .free
theorem Hf{kindOf:Str->Option NameKind}{x:Str}:∀{binds:List (Str×Value)} {m:Str->Option Value},(∀v,(x,v)∉binds)->bindL kindOf binds m x=m x
 | [],_,_=>rfl
 | (n,v)::r,m,h=>by
  unfold bindL;rw[Hf fun w hw=>h w (AO _ hw)];split
  .have:x≠n:=by rintro rfl;exact h v AW
   simp[this]
  .rfl
theorem Gf{kindOf:Str->Option NameKind}{x:Str}:∀{binds:List (Str×Value)} {m:Str->Option Value},(∀v,(x,v)∉binds)->bindC kindOf binds m x=m x
 | [],_,_=>rfl
 | (n,v)::r,m,h=>by
  unfold bindC;rw[Gf fun w hw=>h w (AO _ hw)];split
  .rfl
  .have:x≠n:=by rintro rfl;exact h v AW
   simp[this]
theorem Gq{kindOf:Str->Option NameKind}{x:Str}{v:Value}:∀{P:List Str} {vs:List Value} {i:Nat} {m:Str->Option Value},P.Nodup->P[i]?=some x->vs[i]?=some v->kindOf x=some .local ->
  bindL kindOf (P.zip vs) m x=some v
 | [],_,_,_,_,h,_,_=>by simp at h
 | _::_,[],_,_,_,_,h,_=>by simp at h
 | p::P,w::vs,0,m,nd,h1,h2,hk=>by
  simp at h1 h2;subst h1;subst h2;show bindL kindOf ((p,w)::P.zip vs) m p=_;unfold bindL;rw[Hf fun v hv=>(BX.mp nd).1 (GE hv).1,AY hk];simp
 | p::P,w::vs,i+1,m,nd,h1,h2,hk=>by
  show bindL kindOf ((p,w)::P.zip vs) m x=_;unfold bindL;exact Gq (i:=i) (BX.mp nd).2 (by simpa using h1) (by simpa using h2) hk
theorem Fo{kindOf:Str->Option NameKind}{x:Str}{v:Value}:∀{P:List Str} {vs:List Value} {i:Nat} {m:Str->Option Value},P.Nodup->P[i]?=some x->vs[i]?=some v->kindOf x≠some .local ->
  bindC kindOf (P.zip vs) m x=some v
 | [],_,_,_,_,h,_,_=>by simp at h
 | _::_,[],_,_,_,_,h,_=>by simp at h
 | p::P,w::vs,0,m,nd,h1,h2,hk=>by
  simp at h1 h2;subst h1;subst h2;show bindC kindOf ((p,w)::P.zip vs) m p=_;unfold bindC;rw[Gf fun v hv=>(BX.mp nd).1 (GE hv).1,AS hk];simp
 | p::P,w::vs,i+1,m,nd,h1,h2,hk=>by
  show bindC kindOf ((p,w)::P.zip vs) m x=_;unfold bindC;exact Fo (i:=i) (BX.mp nd).2 (by simpa using h1) (by simpa using h2) hk
def El(N:List Str)(vs:List V):St:=vs.map some++List.replicate (N.length-vs.length) none
def Wn(CX:CXT)(P:Program)(w:World)(K:PySem.W.Frag)(mg:Str->Option Value)(base:Heap)(N:List Str)(qual:Str)(scope:Scope)(f:Addr)(cd:Value)(A:Around)(outer:List Env)(s:Shared)(H:Hp)(E:XK):Cx where
 prog:=P
 w:=w
 K:=K
 mg:=mg
 base:=base
 A:=A.deeper (envOfC qual scope s.heap.objs.size f cd)
 N:=N
 s₀:=s
 H₀:=H
 env:=envOfC qual scope s.heap.objs.size f cd
 outer:=outer
 stack:=envOfC qual scope s.heap.objs.size f cd::outer
 ex:=[]
 calm:=true
 fn:=fun _=>true
 pn:=[]
 xe:=fun e s'=>wpAny (model P w) (A.deeper (envOfC qual scope s.heap.objs.size f cd)) (leaving (envOfC qual scope s.heap.objs.size f cd) e) (fun _ s''=>CX outer H s E e s'') (fun e' s''=>CX outer H s E e' s'') s'
theorem Ka{sc:Scope}{n:Nat}{x:Str}(h:sc.names.lookup x=some .cell):∃c,(cellsFrom n sc.names []).lookup x=some c:=by
 have q:=PySem.W.cellsFrom_some sc.names n [] (.inl h);exact DB.mp q
theorem Oj{CX:CXT}{P:Program}{w:World}{K:PySem.W.Frag}{mg:Str->Option Value}{base:Heap}{N ps:List Str}{qual:Str}{scope:Scope}{f:Addr}{cd:Value}{A:Around}{outer:List Env}{s s1:Shared}{H:Hp}{E:XK}{us:List Value}{vs:List V}
  (S:FnScope N ps scope) (hd:A.handled=none) (e0:Env0 P w K mg base A outer s H) (hl:vs.length=ps.length) (r:Vals vs us)
  (x:InCallC s s.heap.objs.size (bindL (envOfC qual scope s.heap.objs.size f cd).kindOf (ps.zip us) fun _=>none) (cellsFrom (s.heap.objs.size+1) scope.names []) (bindC (envOfC qual scope s.heap.objs.size f cd).kindOf (ps.zip us) fun _=>none) s1) :
  Inv (Wn CX P w K mg base N qual scope f cd A outer s H E) [] (El N vs) H s1:=by
 have hpl:ps.length<=N.length:=by have:=congrArg List.length S.pre;rw[AR]at this;omega
 obtain⟨h1,tk,rfl,hk⟩:=x.done;have noA:∀b:Addr,b∉(Wn CX P w K mg base N qual scope f cd A outer s H E).ex:=fun b z=>absurd (show b∈([]:List Addr)from z) (by simp);refine⟨⟨e0.mod,S.kind,rfl,rfl,Nat.le_refl _,fun y z c h1 h2=>?_,fun y hy=>?_,fun y c _ h=>?_,fun _=>hd,Around.frames_deeper e0.frames,.inr ⟨rfl,rfl⟩,fun b z=>absurd z (noA b),e0.bs,e0.bsz,fun b _ _=>noA b,fun b z=>absurd z (noA b),e0.funs,e0.frf⟩,
  rfl,e0.bare,Un.kept hk,⟨_,x.toInCall.ns,fun i y v h1 h2 h3=>?_⟩,fun y c h=>⟨_,x.cell y c h⟩,e0.hok.fresh (Nat.le_refl _),fun y c h=>?_,fun p hp=>absurd (show p∈([]:List (Addr×Obj))from hp) (by simp),e0.hok.kept hk,?_⟩
 .exact name_of_addr x.apart (PySem.mem_of_lookup h1) (PySem.mem_of_lookup h2)
 .have hy:scope.names.lookup y=some .cell\/scope.names.lookup y=some .free:=hy;rcases hy with hy | hy
  .exact Ka hy
  .exact absurd rfl (S.nofree _ (PySem.mem_of_lookup hy))
 .exact DM (x.above y c (PySem.mem_of_lookup h))
 .have hi:i<vs.length:=by
   unfold El at h2;by_cases hi:i<vs.length
   .exact hi
   .rw[DX (by simpa using hi)]at h2;rw[List.getElem?_replicate]at h2;split at h2<;>cases h2
  have ha:vs[i]?=some v:=by
   unfold El at h2;rw[EB (by simpa using hi),AF]at h2;cases e:vs[i]? with
   | none=>rw[e]at h2;cases h2
   | some a=>rw[e]at h2;cases h2;rfl
  obtain⟨u,hu,rv⟩:=r.get ha;have hp:ps[i]?=some y:=by
   rw[<-S.pre,DA (by omega)];exact h1
  have ndP:ps.Nodup:=by rw[<-S.pre];exact S.nd.sublist (DU _ _)
  refine⟨u,rv,?_⟩;rcases S.par y (AK hp)with k | k
  .exact .inl ⟨k,Gq ndP hp hu k⟩
  .obtain⟨c,e⟩:=Ka (n:=s.heap.objs.size+1) k;refine .inr ⟨.inl k,c,e,?_⟩;have q:=x.cell y c e;rw[Fo ndP hp hu (by show scope.names.lookup y≠_;rw[k];decide)]at q;exact q
 .exact e0.hok.fresh (DM (x.above y c (PySem.mem_of_lookup h)))
 .unfold El;show _=N.length;rw[BB,AA,List.length_replicate];omega
theorem zBo{CX:CXT}{P:Program}{w:World}{K:PySem.W.Frag}{mg:Str->Option Value}{base:Heap}{k:Nat}{f:Addr}{name qual:Str}{params:Arguments}{body:List Stmt}{scope:Scope}{dV kV doc pm cdv ct oc:Value}{an od:Option Addr}
  {osl:Array (Option Value)} {N ps:List Str} {sp:Sp} (lk:K.lookup f=some ⟨oc,od,.func (PySem.W.fnOf name qual params body scope dV kV doc pm an cdv ct),osl⟩) (hcd:PySem.W.codeIn K cdv qual=true) (S:FnScope N ps scope)
  (len:∀vs H Q E,sp vs H Q E->vs.length=ps.length)
  (hbody:∀(A:Around) (outer:List Env) (s:Shared) (H:Hp) (vs:List V) (Q:VK) (E:XK),Room k (A.deeper (envOfC qual scope s.heap.objs.size f cdv))->sp vs H Q E ->
   ∃t,PSs (Wn CX P w K mg base N qual scope f cdv A outer s H E) body t/\t { nx:=fun _ H'=>Q .non H',rt:=Q } (El N vs) H) :
  FnOk P w K mg base CX (k+1) f (PySem.W.fnOf name qual params body scope dV kV doc pm an cdv ct) ps sp:=by
 refine⟨len,fun A outer s H args us vs Q E hr e0 hb r hsp=>?_⟩;have hl:=len _ _ _ _ hsp;have KX:K.In s.heap:=e0.mod.kin.keeps fun b o e=>(e0.bs b o e).1;have lim:s.heap.NoLimit:=e0.mod.nolimit.keeps fun b o e=>(e0.bs b o e).1;have hkind:∀y∈ps.zip us,scope.names.lookup y.1=some .local\/(scope.names.lookup y.1=some .cell/\((cellsFrom (s.heap.objs.size+1) scope.names []).lookup y.1).isSome=true):=fun⟨n,v⟩ hy=>by
  rcases S.par n (GE hy).1 with q | q
  .exact .inl q
  .exact .inr ⟨q,PySem.W.cellsFrom_some _ _ _ (.inl q)⟩
 refine codeAny_call_function hr.depth (KX _ _ lk) rfl S.co S.gen rfl (PySem.W.codeRec_of KX hcd) (hb _ _ _ _ ?_);refine wpAny_newFunctionEnv_cells S.kind hkind fun env he s1 x=>?_;subst he;refine⟨lim.keeps x.toInCall.keep,codeAny_func ?_⟩;obtain⟨t,ht,hq⟩:=hbody A outer s H vs Q E (hr.deeper _) hsp;have I:Inv (Wn CX P w K mg base N qual scope f cdv A outer s H E) [] (El N vs) H s1:=Oj S hr.hd e0 hl r x;refine CA (ht [] s1 (El N vs) H _ I hq) (fun fl s' hs=>?_) fun e s' hs=>hs;have fin:∀{σ':St} {H':Hp} {v:V} {u:Value},Inv (Wn CX P w K mg base N qual scope f cdv A outer s H E) [] σ' H' s'->RelV v u->Q v H'->CE outer P w H s Q u s' :=
  fun{σ' H' v u} J rv q=>⟨v,H',J.os,J.bare,J.base,J.hok,rv,q⟩
 cases fl with
 | ret u =>
  obtain⟨v,σ',H',J,rv,q⟩:=hs;exact fin J rv q
 | next =>
  obtain⟨σ',H',J,q⟩:=hs;exact fin (v:=V.non) (u:=Value.none) J rfl q
 | brk =>
  obtain⟨_,_,_,q⟩:=hs;exact False.elim q
 | cont =>
  obtain⟨_,_,_,q⟩:=hs;exact False.elim q
section
variable{X:Cx}{x:Str}{p pos:Pos}{e:Expr}{es:List Expr}{t:TA}{id T:String}{r:List V->Hp->VK->Prop}
def tCB(r:List V->Hp->VK->Prop)(t:TA):TE:=fun σ H Q=>t σ H fun vs H1=>r vs H1 Q
theorem Vg(hc:G8 X (.builtin id) r)(hg:Gl X x)(hm:X.mg x=none)(hv:bootBuiltins x=some (.builtin id))(ha:PA X (e::es) t)(hn:x≠ "__name__":=by decide)(hdb:(x ==("__debug__":Str))=false:=by decide)
  (he:starEach (e::es) X.env =(false,eval e X.env)::starEach es X.env:=by rfl) (hpl:(backTo pos (starEach es X.env)).any (·.1)=false:=by rfl):PE X (.Call (.Name x p) (e::es) [] pos) (tCB r t):=by
 intro pins s σ H Q I h;refine DP (t6 I hg hm hv ?_ hn hdb);exact PyProof.Rows.callWith_builtin1 (thn (ha pos pins s σ H _ I h) fun us s1 ⟨vs,H1,I1,r1,q1⟩=>hc pins s1 σ H1 vs us Q I1 r1 q1) he hpl
theorem Pz(hc:G8 X (.type T) r)(hg:Gl X x)(hm:X.mg x=none)(hv:bootBuiltins x=some (.type T))(ha:PA X (e::es) t)(hn:x≠ "__name__":=by decide)(hdb:(x ==("__debug__":Str))=false:=by decide)
  (he:starEach (e::es) X.env =(false,eval e X.env)::starEach es X.env:=by rfl) (hpl:(backTo pos (starEach es X.env)).any (·.1)=false:=by rfl):PE X (.Call (.Name x p) (e::es) [] pos) (tCB r t):=by
 intro pins s σ H Q I h;refine DP (t6 I hg hm hv ?_ hn hdb);exact PyProof.Rows.callWith_type1 (thn (ha pos pins s σ H _ I h) fun us s1 ⟨vs,H1,I1,r1,q1⟩=>hc pins s1 σ H1 vs us Q I1 r1 q1) he hpl
theorem Ci(hc:G8 X (.type T) r)(hg:Gl X x)(hm:X.mg x=none)(hv:bootBuiltins x=some (.type T))(hn:x≠ "__name__":=by decide)(hdb:(x ==("__debug__":Str))=false:=by decide) :
  PE X (.Call (.Name x p) [] [] pos) (tCB r Wa):=by
 intro pins s σ H Q I h;refine DP (t6 I hg hm hv ?_ hn hdb);exact PyProof.Rows.callWith_type0 (hc pins s σ H [] [] Q I .nil h)
end
end L2
namespace HT
open PySem PyProof.Rows
section
variable{prog:Program}{w:World}{A:Around}{E:Value->Shared->Prop}{s:Shared}
def sIx(n d:Nat):Option Int->Nat
 | none=>d
 | some v=>if v<0 then(v +(n:Int)).toNat else min v.toNat n
theorem sIx_none(n d:Nat):sIx n d none=d:=rfl
theorem sIx_nat(n d k:Nat):sIx n d (some (k:Int))=min k n:=by
 show(if(k:Int)<0 then((k:Int) +(n:Int)).toNat else min (k:Int).toNat n)=min k n;rw[AS (by omega),DK]
end
end HT
namespace L2
open PySem PySem.Spec PyProof.Rows
abbrev TO:=St->Hp->(Option Int->Hp->Prop)->Prop
def PO(X:Cx)(e:Option Expr)(t:TO):Prop :=
 ∀(pins:List (Addr×Obj)) (s:Shared) (σ:St) (H:Hp) (Q:Option Int->Hp->Prop),Inv X pins σ H s->t σ H Q ->
  wpAny (model X.prog X.w) X.A (evalPart e X.env) (fun u s'=>∃o H',Inv X pins σ H' s'/\IsPart u o/\Q o H') X.xe s
def Xw:TO:=fun _ H Q=>Q none H
def zCs(t:TE):TO:=fun σ H Q=>t σ H fun x H1=>∃i,x = .int i/\Q (some i) H1
theorem Cw{ns:List Int}:∀{us:List Value},Vals (ns.map V.int) us->IntsAre us ns:=by
 induction ns with
 | nil=>intro us r;rw[List.map_nil]at r;cases r;exact .nil
 | cons n ns ih =>
  intro us r;rw[BM]at r;cases r with
  | cons r1 r2 =>
   obtain⟨t,e⟩:=r1;subst e;exact .cons n t (ih r2)
section
variable{X:Cx}{e:Expr}{te:TE}{lo hi:Option Expr}{tl th:TO}{pos p2:Pos}
theorem Dv:PO X none Xw:=by
 intro pins s σ H Q I h;rw[evalPart_none];exact AD ⟨none,H,I,.none,h⟩
theorem Dn(h:PE X e te):PO X (some e) (zCs te):=by
 intro pins s σ H Q I hw;rw[evalPart_some];refine thn (h pins s σ H _ I hw) fun u s1 ⟨x,H1,I1,r1,q1⟩=>?_;obtain⟨i,rfl,q⟩:=q1;obtain⟨t,rfl⟩:=r1;exact⟨some i,H1,I1,.int i t,q⟩
def SlR(X:Cx)(r:V->Option Int->Option Int->Hp->VK->Prop):Prop :=
 ∀(pins:List (Addr×Obj)) (s:Shared) (σ:St) (H:Hp) (x:V) (v vl vu:Value) (lo hi:Option Int) (sl:Addr) (Q:VK),Inv X pins σ H s->RelV x v->s.heap.IsSliceOf sl vl vu .none->IsPart vl lo->IsPart vu hi->r x lo hi H Q ->
  ∃T id,typeLookup (.type T) "__getitem__" = pure (some (.builtin id))/\s.TypeIs v T/\wpAny (model X.prog X.w) X.A (getItem v (.ref sl)) (EP X pins σ Q) X.xe s
def tSl(r:V->Option Int->Option Int->Hp->VK->Prop)(te:TE)(tl th:TO):TE:=fun σ H Q=>te σ H fun x H1=>tl σ H1 fun l H2=>th σ H2 fun u H3=>r x l u H3 Q
theorem Ad{r:V->Option Int->Option Int->Hp->VK->Prop}(hr:SlR X r)(he:PE X e te)(hl:PO X lo tl)(hu:PO X hi th):PE X (.Subscript e (.Slice lo hi none p2) pos) (tSl r te tl th):=by
 intro pins s σ H Q I h;refine Subscript_ (thn (he pins s σ H _ I h) fun v s1 ⟨x,H1,I1,r1,q1⟩=>?_);refine wpAny_Slice (thn (hl pins s1 σ H1 _ I1 q1) fun vl s2 ⟨l,H2,I2,pl,q2⟩=>thn (hu pins s2 σ H2 _ I2 q2) fun vu s3 ⟨u,H3,I3,pu,q3⟩=>?_);rw[evalPart_none];refine AD ?_;have I4:Inv X pins σ H3 { s3 with heap:=s3.heap.push { cls:=.type "slice",data:=.fields #[vl,vu,.none] } }:=I3.kept (t':=s3.toks) fun b ob q=>AE _ q;obtain⟨T,id,hT,ht,hg⟩:=hr pins { s3 with heap:=s3.heap.push { cls:=.type "slice",data:=.fields #[vl,vu,.none] } } σ H3 x v vl vu l u s3.heap.objs.size Q I4 r1 (Heap.IsSliceOf.new ..) pl pu q3;show wpAny (model X.prog X.w) X.A (subscriptTail e (.Slice lo hi none p2) v (.ref s3.heap.objs.size)) (EP X pins σ Q) X.xe { s3 with heap:=s3.heap.push { cls:=.type "slice",data:=.fields #[vl,vu,.none] } };exact tail_any (ops:=[.ref s3.heap.objs.size,v]) ht hT hg (by with_unfolding_all rfl)
def Cc(xs:List V)(lo hi:Option Int):List V:=(xs.drop (HT.sIx xs.length 0 lo)).take (HT.sIx xs.length xs.length hi-HT.sIx xs.length 0 lo)
theorem Jl(xs:List V)(lo hi:Option Int):(Cc xs lo hi).length<=xs.length:=by
 unfold Cc;rw[AR,CC];omega
end
def ixN(n:Nat)(i:Int):Option Nat:=if 0<=i then(if i<n then some i.toNat else none)else if -(n:Int)<=i then some (i+n).toNat else none
def atI{α:Type}(xs:List α)(i:Int):Option α:=(ixN xs.length i).bind fun j=>xs[j]?
theorem Rv{n:Nat}{i:Int}{j:Nat}(h:ixN n i=some j):seqIndex? i n=some j/\j<n/\-(n:Int)<=i/\i<n:=by
 unfold ixN at h;by_cases h0:0<=i
 .rw[AY h0]at h;by_cases h1:i<n
  .rw[AY h1]at h;have e:i.toNat=j:=BV h;exact⟨by rw[seqIndex_of h0 h1,e],by omega,by omega,h1⟩
  .rw[AS h1]at h;cases h
 .rw[AS h0]at h;by_cases h1:-(n:Int)<=i
  .rw[AY h1]at h;have e:(i+n).toNat=j:=BV h;exact⟨by rw[seqIndex_neg (by omega) h1,e],by omega,h1,by omega⟩
  .rw[AS h1]at h;cases h
theorem Rc{α:Type}{xs:List α}{i:Int}{v:α}(h:atI xs i=some v):∃j,seqIndex? i xs.length=some j/\xs[j]?=some v/\j<xs.length/\-(xs.length:Int)<=i/\i<xs.length:=by
 unfold atI at h;cases e:ixN xs.length i with
 | none=>rw[e]at h;cases h
 | some j =>
  rw[e]at h;obtain⟨h1,h2,h3,h4⟩:=Rv e;exact⟨j,h1,h,h2,h3,h4⟩
theorem B8{α:Type}{xs:List α}{j:Nat}{v:α}(h:xs[j]?=some v):atI xs (j:Int)=some v:=by
 have hj:j<xs.length:=(AU.mp h).1;have e:ixN xs.length (j:Int)=some j:=by
  unfold ixN;rw[AY (by omega),AY (by omega)];simp
 unfold atI;rw[e];exact h
def Wj(b:Expr):Prop:=∀o i,subscripted b false o i=operate [o,i] (getItem o i)
def IxR(X:Cx)(r:R2):Prop :=
 ∀(value slice:Expr) (pins:List (Addr×Obj)) (s:Shared) (σ:St) (H:Hp) (x y:V) (v u:Value) (Q:VK),Inv X pins σ H s->RelV x v->RelV y u->r x y H Q ->
  subscripted slice false v u=operate [v,u] (getItem v u)->wpAny (model X.prog X.w) X.A (subscriptTail value slice v u) (EP X pins σ Q) X.xe s
def MtR(X:Cx)(id:String)(r:V->List V->Hp->VK->Prop):Prop :=
 ∀(pins:List (Addr×Obj)) (s:Shared) (σ:St) (H:Hp) (x:V) (xs:List V) (v:Value) (us:List Value) (Q:VK),Inv X pins σ H s->RelV x v->Vals xs us->r x xs H Q ->
  wpAny (model X.prog X.w) X.A (call (.builtin id) (v::us)) (EP X pins σ Q) X.xe s
section
variable{X:Cx}{a b:Expr}{ta tb:TE}{pos:Pos}
theorem C6{r:R2}(hr:IxR X r)(ha:PE X a ta)(hb:PE X b tb)(hs:Wj b):PE X (.Subscript a b pos) (tOp r ta tb):=by
 intro pins s σ H Q I h;exact Subscript_ (zDf ha hb I h fun v u s2 x y H2 I2 rx ry q=>hr a b pins s2 σ H2 x y v u Q I2 rx ry q (hs _ _))
def zDz(K:PySem.W.Frag):R2:=fun x y H Q=>∃p xs i v,x = .ref p/\y = .int i/\SqL K H p xs/\atI xs i=some v/\Q v H
def zEq(K:PySem.W.Frag):R2:=fun x y H Q=>∃p xs i v,x = .ref p/\y = .int i/\SqT K H p xs/\atI xs i=some v/\Q v H
theorem Xh:IxR X (zDz X.K):=by
 intro value slice pins s σ H x y v u Q I rx ry h hs;obtain⟨p,xs,i,z,rfl,rfl,hq,he,q⟩:=h;cases rx;obtain⟨t,rfl⟩:=ry;obtain⟨its,r,pl,hz⟩:=I.list hq;obtain⟨j,h1,h2,h3,h4,h5⟩:=Rc he;obtain⟨w,ew,rw'⟩:=r.get h2;have hl:=r.length;have hn:=Ch;have fin:EP X pins σ Q w s:=⟨z,H,I,rw',q⟩;by_cases h0:0<=i
 .have hj:i.toNat=j:=by
   rw[seqIndex_of h0 h5]at h1;exact BV h1
  exact item_listR pl.isList h0 (by omega) (by rw[hj];simpa using ew) fin hs
 .have hj:(i +(its.toArray.size:Int)).toNat=j:=by
   rw[seqIndex_neg (by omega) h4]at h1;rw[A_,<-hl];exact BV h1
  exact subscriptTail_builtinR (x:=w) pl.isList.typeIs slot_list_getitem.lookup
   (wpAny_getItem_list_neg (Q:=fun r s'=>r=w/\EP X pins σ Q r s') pl.isList (by omega) (by rw[A_]<;>omega) (by omega) (by rw[hj];simpa using ew) ⟨rfl,fin⟩) hs
theorem Zj:IxR X (zEq X.K):=by
 intro value slice pins s σ H x y v u Q I rx ry h hs;obtain⟨p,xs,i,z,rfl,rfl,hq,he,q⟩:=h;cases rx;obtain⟨t,rfl⟩:=ry;obtain⟨its,r,pl,hz⟩:=I.tuple hq;obtain⟨j,h1,h2,h3,h4,h5⟩:=Rc he;obtain⟨w,ew,rw'⟩:=r.get h2;have hl:=r.length;have hn:=Ch;have fin:EP X pins σ Q w s:=⟨z,H,I,rw',q⟩;exact subscriptTail_builtinR (x:=w) pl.typeIs slot_tuple_getitem.lookup
  (getItem_tuple (j:=j) (Q:=fun r s'=>r=w/\EP X pins σ Q r s') pl (by omega) (by omega) (by rw[A_,<-hl];exact h1) (by simpa using ew) ⟨rfl,fin⟩) hs
theorem Mf(its:List Value)(n j:Nat)(u:Value):Obj.mapSeq (·.setIfInBounds j u) { cls:=.type "list",data:=.seq its.toArray n } ={ cls:=.type "list",data:=.seq (its.set j u).toArray n }:=by
 simp[Obj.mapSeq]
theorem Inv.lst{pins:List (Addr×Obj)}{σ:St}{H:Hp}{s:Shared}{p:Addr}{xs:List V}(I:Inv X pins σ H s)(h:H p=some (.lst xs)) :
  ∃(its:List Value) (n:Nat),Vals xs its/\s.heap.get? p=some { cls:=.type "list",data:=.seq its.toArray n }/\xs.length<=sizeLine:=by
 obtain⟨z,its,n,r,e⟩:=I.hok p _ h;exact⟨its,n,r,e,z⟩
theorem Inv.lstUpd{pins:List (Addr×Obj)}{σ:St}{H:Hp}{s:Shared}{p:Addr}{xs ys:List V}{its its':List Value}{n n':Nat}{f:Obj->Obj}(I:Inv X pins σ H s)(h:H p=some (.lst xs))
  (ho:s.heap.get? p=some { cls:=.type "list",data:=.seq its.toArray n }) (hf:f { cls:=.type "list",data:=.seq its.toArray n } ={ cls:=.type "list",data:=.seq its'.toArray n' }) (r:Vals ys its') (hz:ys.length<=sizeLine) (t:Nat) :
  Inv X pins σ (upd H p (.lst ys)) { s with heap:=s.heap.update p f,toks:=t }:=by
 have e:(s.heap.update p f).get? p=some { cls:=.type "list",data:=.seq its'.toArray n' }:=by
  rw[CF f ho (by rw[hf]<;>rfl),hf]
 refine I.write (x:=p) (e:=p) (by rw[h];trivial) (.inl rfl) (fun b u hb q=>(BZ _ _ (Ne.symm hb)).trans q) ⟨_,e⟩ ?_;exact⟨hz,its',n',r,e⟩
def zDj:V->V->V->Hp->(Hp->Prop)->Prop:=fun o i v H Q=>∃p xs k j,o = .ref p/\i = .int k/\H p=some (.lst xs)/\ixN xs.length k=some j/\Q (upd H p (.lst (xs.set j v)))
theorem Er:zEk X zDj:=by
 intro pins s σ H o i v ov iv u Q I ro ri rv h;obtain⟨p,xs,k,j,rfl,rfl,hp,hj,q⟩:=h;cases ro;obtain⟨t,rfl⟩:=ri;obtain⟨its,n,r,ho,hz⟩:=I.lst hp;obtain⟨h1,h2,h3,h4⟩:=Rv hj;have hl:=r.length;have hn:=Ch;have I':Inv X pins σ (upd H p (.lst (xs.set j v))) { s with heap:=s.heap.update p (Obj.mapSeq (·.setIfInBounds j u)) } :=
  I.lstUpd hp ho (Mf its n j u) (r.set rv j) (by rw[List.length_set];exact hz) s.toks
 by_cases h0:0<=k
 .have hk:k.toNat=j:=by
   rw[seqIndex_of h0 h4]at h1;exact BV h1
  exact PySem.W.ki_setAt ho h0 (by omega) (by rw[A_,<-hl];exact h4) (by rw[hk];exact⟨_,I',q⟩)
 .have hk:(k +(its.toArray.size:Int)).toNat=j:=by
   rw[seqIndex_neg (by omega) h3]at h1;rw[A_,<-hl];exact BV h1
  exact PySem.W.ki_setBack ho (by omega) (by rw[A_,<-hl];exact h3) (by omega) (by rw[hk];exact⟨_,I',q⟩)
theorem Hk(lo hi:Option Int)(n:Nat):(sliceBounds lo hi none n).1 =((HT.sIx n 0 lo:Nat):Int)/\(sliceBounds lo hi none n).2.1 =((HT.sIx n n hi:Nat):Int)/\(sliceBounds lo hi none n).2.2=1:=by
 refine⟨?_,?_,rfl⟩
 .cases lo with
  | none=>simp[sliceBounds,HT.sIx]
  | some i =>
   simp only[sliceBounds,HT.sIx,Option.getD_none,show(1:Int)>0 by decide,EL];by_cases h:i<0
   .simp only[h,EL]<;>omega
   .simp only[h,CI]<;>omega
 .cases hi with
  | none=>simp[sliceBounds,HT.sIx]
  | some i =>
   simp only[sliceBounds,HT.sIx,Option.getD_none,show(1:Int)>0 by decide,EL];by_cases h:i<0
   .simp only[h,EL]<;>omega
   .simp only[h,CI]<;>omega
theorem Eg(its:List Value)(lo hi:Option Int):slicePick its.toArray lo hi none =((its.drop (HT.sIx its.length 0 lo)).take (HT.sIx its.length its.length hi-HT.sIx its.length 0 lo)).toArray:=by
 obtain⟨h1,h2,h3⟩:=Hk lo hi its.toArray.size;unfold slicePick;rw[h1,h2,h3];simp only[sliceRange_one,pick_run,A_]<;>rfl
def zEn(K:PySem.W.Frag):V->Option Int->Option Int->Hp->VK->Prop:=fun x lo hi H Q=>∃a xs,x = .ref a/\SqL K H a xs/\∀p,H p=none->Q (.ref p) (upd H p (.lst (Cc xs lo hi)))
theorem Yj:SlR X (zEn X.K):=by
 intro pins s σ H x v vl vu lo hi sl Q I rx hs pl pu h;obtain⟨a,xs,rfl,hx,q⟩:=h;cases rx;obtain⟨its,r,ht,hz⟩:=I.list hx;have hlen:=r.length;refine⟨"list",_,slot_list_getitem.lookup,ht.isList.typeIs,?_⟩;refine wpAny_getItem_list_slice ht.isList hs pl pu .none (by simp) ?_ (by rw[A_]<;>omega);rw[Eg,<-hlen];refine⟨.ref s.heap.objs.size,_,I.laid (t':=s.toks) (o:=.lst (Cc xs lo hi)) (fun b ob q=>AE _ q) (Nat.le_refl _) ?_,rfl,q _ (I.hok.fresh (Nat.le_refl _))⟩;exact⟨Nat.le_trans (Jl xs lo hi) hz,_,0,(r.drop (HT.sIx xs.length 0 lo)).take (HT.sIx xs.length xs.length hi-HT.sIx xs.length 0 lo),BE _ rfl⟩
def Dg:V->Bool
 | .non=>true
 | .bl _=>true
 | .int _=>true
 | .str _=>true
 | _=>false
def eqV:V->V->Bool
 | .non,.non=>true
 | .bl a,.bl b=>a == b
 | .bl a,.int b=>(if a then 1 else 0) == b
 | .int a,.bl b=>a ==(if b then 1 else 0)
 | .int a,.int b=>a == b
 | .str a,.str b=>a == b
 | _,_=>false
theorem Zp{A:Around}{s:Shared}{y x:V}{u v:Value}(ry:RelV y u)(rx:RelV x v)(fy:Dg y=true)(fx:Dg x=true):SeqAt.EqAt A s u v (eqV y x):=by
 cases y with
 | non =>
  cases ry;cases x with
  | non=>cases rx;exact SeqAt.EqAt.same _
  | bl b=>cases rx;exact SeqAt.EqAt.none_bool b
  | int b=>obtain⟨t,rfl⟩:=rx;exact SeqAt.EqAt.none_int b t
  | str b=>obtain⟨t,rfl⟩:=rx;exact SeqAt.EqAt.none_str b t
  | _=>exact absurd (show false=true from fx) AZ
 | bl a =>
  cases ry;cases x with
  | non=>cases rx;exact SeqAt.EqAt.bool_none a
  | bl b=>cases rx;exact SeqAt.EqAt.bool_bool a b
  | int b=>obtain⟨t,rfl⟩:=rx;exact SeqAt.EqAt.bool_int a b t
  | str b=>obtain⟨t,rfl⟩:=rx;exact SeqAt.EqAt.bool_str a b t
  | _=>exact absurd (show false=true from fx) AZ
 | int a =>
  obtain⟨t',rfl⟩:=ry;cases x with
  | non=>cases rx;exact SeqAt.EqAt.int_none a t'
  | bl b=>cases rx;exact SeqAt.EqAt.int_bool a t' b
  | int b=>obtain⟨t,rfl⟩:=rx;exact SeqAt.EqAt.int_int a t' b t
  | str b=>obtain⟨t,rfl⟩:=rx;exact SeqAt.EqAt.int_str a t' b t
  | _=>exact absurd (show false=true from fx) AZ
 | str a =>
  obtain⟨t',rfl⟩:=ry;cases x with
  | non=>cases rx;exact SeqAt.EqAt.str_none a t'
  | bl b=>cases rx;exact SeqAt.EqAt.str_bool a t' b
  | int b=>obtain⟨t,rfl⟩:=rx;exact SeqAt.EqAt.str_int a t' b t
  | str b=>obtain⟨t,rfl⟩:=rx;exact SeqAt.EqAt.str_str a t' b t
  | _=>exact absurd (show false=true from fx) AZ
 | _=>exact absurd (show false=true from fy) AZ
def eqU(x:V)(u:Value):Bool:=match u with
 | .none=>eqV .non x
 | .bool b=>eqV (.bl b) x
 | .int i _=>eqV (.int i) x
 | .str z _=>eqV (.str z) x
 | _=>false
theorem Wc{x y:V}{u:Value}(r:RelV y u)(f:Dg y=true):eqU x u=eqV y x:=by
 cases y with
 | non=>cases r;rfl
 | bl b=>cases r;rfl
 | int i=>obtain⟨t,rfl⟩:=r;rfl
 | str z=>obtain⟨t,rfl⟩:=r;rfl
 | _=>exact absurd (show false=true from f) AZ
theorem Au{x:V}:∀{xs:List V} {us:List Value},Vals xs us->xs.all Dg=true->us.any (eqU x)=xs.any fun y=>eqV y x
 | _,_,.nil,_=>rfl
 | y::xs,u::us,.cons r t,f=>by
  rw[List.all_cons,CD]at f;rw[FO,FO,Wc r f.1,Au t f.2]
theorem i5{A:Around}{s:Shared}{x:V}{v:Value}(rx:RelV x v)(fx:Dg x=true):∀{xs:List V} {us:List Value},Vals xs us->xs.all Dg=true->∀u∈us,SeqAt.EqAt A s u v (eqU x u)
 | _,_,.nil,_=>fun u hu=>by cases hu
 | y::xs,u::us,.cons r t,f=>fun u' hu=>by
  rw[List.all_cons,CD]at f;rcases AX.mp hu with rfl | hu
  .rw[Wc r f.1];exact Zp r rx f.1 fx
  .exact i5 rx fx t f.2 u' hu
def inV(x:V)(xs:List V):Bool:=xs.any fun y=>eqV y x
def rIn(K:PySem.W.Frag)(neg:Bool):R2:=fun x y H Q=>∃p xs,y = .ref p/\(SqL K H p xs\/SqT K H p xs)/\Dg x=true/\xs.all Dg=true/\Q (.bl (if neg then !inV x xs else inV x xs)) H
theorem Ra:OpR X (compareOp .In) (rIn X.K false):=by
 intro pins s σ H x y v u Q I rx ry h;obtain⟨p,xs,rfl,hq,fx,fs,q⟩:=h;cases ry;rcases hq with hq | hq
 .obtain⟨its,r,pl,hz⟩:=I.list hq;refine SeqAt.in_listAt (eqU x) pl.isList (fun w hw=>i5 rx fx r fs w (by simpa using hw)) ⟨.bl _,H,I,rfl,?_⟩;rw[show its.toArray.any (eqU x)=its.any (eqU x) by simp,Au r fs];exact q
 .obtain⟨its,r,pl,hz⟩:=I.tuple hq;refine SeqAt.in_tupleAt (eqU x) pl (fun w hw=>i5 rx fx r fs w (by simpa using hw)) ⟨.bl _,H,I,rfl,?_⟩;rw[show its.toArray.any (eqU x)=its.any (eqU x) by simp,Au r fs];exact q
theorem Ht:OpR X (compareOp .NotIn) (rIn X.K true):=by
 intro pins s σ H x y v u Q I rx ry h;obtain⟨p,xs,rfl,hq,fx,fs,q⟩:=h;cases ry;rcases hq with hq | hq
 .obtain⟨its,r,pl,hz⟩:=I.list hq;refine SeqAt.notIn_listAt (eqU x) pl.isList (fun w hw=>i5 rx fx r fs w (by simpa using hw)) ⟨.bl _,H,I,rfl,?_⟩;rw[show its.toArray.any (eqU x)=its.any (eqU x) by simp,Au r fs];exact q
 .obtain⟨its,r,pl,hz⟩:=I.tuple hq;refine SeqAt.notIn_tupleAt (eqU x) pl (fun w hw=>i5 rx fx r fs w (by simpa using hw)) ⟨.bl _,H,I,rfl,?_⟩;rw[show its.toArray.any (eqU x)=its.any (eqU x) by simp,Au r fs];exact q
theorem Fr:G8 X (.builtin "len") (fun xs H Q=>∃p ys,xs = [.ref p]/\(SqL X.K H p ys\/SqT X.K H p ys)/\Q (.int ys.length) H):=by
 intro pins s σ H xs us Q I r h;obtain⟨p,ys,rfl,hq,q⟩:=h;obtain⟨u,rfl,rx⟩:=U7 r;cases rx;have hn:=Ch;rcases hq with hq | hq
 .obtain⟨its,r',pl,hz⟩:=I.list hq;have hlen:=r'.length;exact Calls.call_len_list pl.isList (by simp only[A_]<;>omega) ⟨.int ys.length,H,I.tok _,⟨s.toks+1,by rw[A_,hlen]⟩,q⟩
 .obtain⟨its,r',pl,hz⟩:=I.tuple hq;have hlen:=r'.length;exact len_tuple pl (by simp only[A_]<;>omega) ⟨.int ys.length,H,I.tok _,⟨s.toks+1,by rw[A_,hlen]⟩,q⟩
theorem Gc:G8 X (.builtin "len") (fun xs H Q=>∃z,xs = [.str z]/\z.length<=sizeLine/\Q (.int z.length) H):=by
 intro pins s σ H xs us Q I r h;obtain⟨z,rfl,hz,q⟩:=h;obtain⟨u,rfl,t,rfl⟩:=U7 r;have hn:=Ch;exact len_str (by omega) ⟨.int z.length,H,I.tok _,⟨_,rfl⟩,q⟩
theorem Hs:G8 X (.type "list") (fun xs H Q=>∃p ys,xs = [.ref p]/\(SqL X.K H p ys\/SqT X.K H p ys)/\∀l,H l=none->Q (.ref l) (upd H l (.lst ys))):=by
 intro pins s σ H xs us Q I r h;obtain⟨p,ys,rfl,hq,q⟩:=h;obtain⟨u,rfl,rx⟩:=U7 r;cases rx;have fin:∀(its:List Value),Vals ys its->ys.length<=sizeLine->∀(h':Heap) (c':Nat),(∀b o',s.heap.get? b=some o'->h'.get? b=some o') ->
   h'.get? s.heap.objs.size=some { cls:=.type "list",dict:=none,data:=.seq its.toArray c',slots:=#[] }->EP X pins σ Q (.ref s.heap.objs.size) { s with heap:=h' }:=fun its r' hz h' c' kp e =>
  ⟨.ref s.heap.objs.size,_,I.laid (t':=s.toks) kp (Nat.le_refl _) (show ObjOk X.prog X.w _ h' _ (.lst ys)from⟨hz,its,c',r',e⟩),rfl,q _ (I.hok.fresh (Nat.le_refl _))⟩
 rcases hq with hq | hq
 .obtain⟨its,r',pl,hz⟩:=I.list hq;have hlen:=r'.length;obtain⟨o,ho,hc,n,hd⟩:=pl.isList;exact call_list_seq p (.inl rfl) ho hc hd (fun h' c' kp e=>fin its r' hz h' c' kp e) (by simp only[A_]<;>omega)
 .obtain⟨its,r',pl,hz⟩:=I.tuple hq;have hlen:=r'.length;obtain⟨o,ho,hc,n,hd⟩:=pl;exact call_list_seq p (.inr rfl) ho hc hd (fun h' c' kp e=>fin its r' hz h' c' kp e) (by simp only[A_]<;>omega)
def tyV(K:PySem.W.Frag)(T:String)(x:V)(H:Hp):Prop:=match x with
 | .str _=>T = "str"
 | .int _=>T = "int"
 | .ref p=>(T = "list"/\∃xs,SqL K H p xs)\/(T = "tuple"/\∃o,K.lookup p=some o/\o.cls = .type "tuple"/\o.dict=none) \/
   (T = "dict"/\((∃kvs,H p=some (.dK kvs))\/∃kvs,H p=some (.dT kvs)))\/(T = "set"/\∃S n,H p=some (.set S n))
 | _=>False
theorem Vn{pins:List (Addr×Obj)}{σ:St}{H:Hp}{s:Shared}{T:String}{x:V}{v:Value}(I:Inv X pins σ H s)(r:RelV x v)(ty:tyV X.K T x H) :
  s.TypeIs v T/\∀a,v = .ref a->∃ob,s.heap.get? a=some ob/\ob.dict=none:=by
 cases x with
 | str z =>
  obtain⟨t,rfl⟩:=r;cases(show T = "str" from ty);exact⟨typeIs_str s z t,fun _ e=>nomatch e⟩
 | int i =>
  obtain⟨t,rfl⟩:=r;cases(show T = "int" from ty);exact⟨typeIs_int s i t,fun _ e=>nomatch e⟩
 | ref p =>
  cases r;rcases ty with⟨rfl,xs,hq⟩ | ⟨rfl,o,hk,hc,hd⟩ | ⟨rfl,hk⟩ | ⟨rfl,S,n,hk⟩
  .obtain⟨its,_,pl,_⟩:=I.list hq;refine⟨pl.isList.typeIs,fun a e=>?_⟩;cases e;obtain⟨o,n,e,c,hd,_⟩:=pl;exact⟨o,e,hd⟩
  .refine⟨⟨o,I.kIn p o hk,hc⟩,fun a e=>?_⟩;cases e;exact⟨o,I.kIn _ o hk,hd⟩
  .have z:∃o,s.heap.get? p=some o/\o.ExactDict:=by
    rcases hk with⟨kvs,hk⟩ | ⟨kvs,hk⟩
    .obtain⟨_,_,_,_,o,_,_,e,ex,_⟩:=I.hok p _ hk;exact⟨o,e,ex⟩
    .obtain⟨_,_,_,_,o,_,_,e,ex,_⟩:=I.hok p _ hk;exact⟨o,e,ex⟩
   obtain⟨o,e,ex⟩:=z;refine⟨⟨o,e,ex.1⟩,fun a e2=>?_⟩;cases e2;exact⟨o,e,ex.2.1⟩
  .obtain⟨o,_,_,_,e,ex,_⟩:=I.hok p _ hk;refine⟨⟨o,e,ex.1⟩,fun a e2=>?_⟩;cases e2;exact⟨o,e,ex.2.1⟩
 | _=>exact False.elim ty
def zEl(K:PySem.W.Frag)(T:String)(r:V->List V->Hp->VK->Prop)(to:TE):TE:=fun σ H Q=>to σ H fun x H1=>tyV K T x H1/\r x [] H1 Q
def tBM(K:PySem.W.Frag)(T:String)(r:V->List V->Hp->VK->Prop)(to:TE)(t:TA):TE:=fun σ H Q=>to σ H fun x H1=>tyV K T x H1/\t σ H1 fun xs H2=>r x xs H2 Q
variable{o e:Expr}{es:List Expr}{to:TE}{t:TA}{name:Str}{apos cpos:Pos}{T id:String}{r:V->List V->Hp->VK->Prop}
theorem zBe(pa:PlainAttrs T)(slot:Slot T name id)(hty:typeOf (.builtin id)=pure (.type "method_descriptor"))(hm:MtR X id r)(ho:PE X o to)
  (hbase:attributeBase o name X.env (eval o X.env)=eval o X.env:=by rfl) (hline:(apos.endLine == cpos.line)=true:=by rfl):PE X (.Call (.Attribute o name apos) [] [] cpos) (zEl X.K T r to):=by
 intro pins s σ H Q I h;refine wpAny_Call_method0_late hbase hline (thn (ho pins s σ H _ I h) fun v s1 ⟨x,H1,I1,r1,ty,q1⟩=>?_);obtain⟨h1,h2⟩:=Vn I1 r1 ty;exact⟨T,id,pa,slot,hty,h1,h2,Calls.callWith_builtin rfl (PySem.evalArgs_none (hm pins s1 σ H1 x [] v [] Q I1 r1 .nil q1))⟩
theorem zDk(pa:PlainAttrs T)(slot:Slot T name id)(hty:typeOf (.builtin id)=pure (.type "method_descriptor"))(hm:MtR X id r)(ho:PE X o to)(ha:PA X (e::es) t)
  (hbase:attributeBase o name X.env (eval o X.env)=eval o X.env:=by rfl)
  (hfew:((backTo cpos (starEach (e::es) X.env)).all (fun x=>!x.1) &&(backToKw cpos (keywordEach [] X.env)).all (fun x=>x.1.isSome)
   && decide ((e::es).length +([]:List Keyword).length +(if([]:List Keyword).isEmpty then 0 else 1)<30))=true:=by rfl)
  (hline:(apos.endLine == cpos.line)=true:=by rfl) (hs:starEach (e::es) X.env =(false,eval e X.env)::starEach es X.env:=by rfl) (hplain:(backTo cpos (starEach es X.env)).any (·.1)=false:=by rfl) :
  PE X (.Call (.Attribute o name apos) (e::es) [] cpos) (tBM X.K T r to t):=by
 intro pins s σ H Q I h;refine wpAny_Call_method_late hbase hfew hline rfl (thn (ho pins s σ H _ I h) fun v s1 ⟨x,H1,I1,r1,ty,q1⟩=>?_);obtain⟨h1,h2⟩:=Vn I1 r1 ty;refine⟨T,id,pa,slot,hty,h1,h2,?_⟩;have hA:=ha cpos pins s1 σ H1 _ I1 q1;rw[hs]at hA⊢;refine Calls.callWith_builtin (by show(false||(backTo cpos (starEach es X.env)).any (·.1))=false;rw[hplain]<;>rfl) (Calls.evalArgs_plain ?_);exact thn hA fun us s2 ⟨vs,H2,I2,r2,q2⟩=>hm pins s2 σ H2 x vs v us Q I2 r1 r2 q2
end
def MtM(X:Cx)(id:String)(r:V->List V->Hp->VK->Prop):Prop :=
 ∀(pins:List (Addr×Obj)) (s:Shared) (σ:St) (H:Hp) (x:V) (xs:List V) (v:Value) (us:List Value) (Q:VK),Inv X pins σ H s->RelV x v->Vals xs us->r x xs H Q ->
  wpAny (model X.prog X.w) X.A (call (.builtin id) (v::us)) (EP X pins σ Q) X.xe s
theorem Vals.one:∀{x:V} {us:List Value},Vals [x] us->∃u,us = [u]/\RelV x u
 | _,_,.cons r .nil=>⟨_,rfl,r⟩
theorem Vals.two:∀{x y:V} {us:List Value},Vals [x,y] us->∃u v,us = [u,v]/\RelV x u/\RelV y v
 | _,_,_,.cons r (.cons q .nil)=>⟨_,_,rfl,r,q⟩
theorem Vals.zero:∀{us:List Value},Vals [] us->us = []
 | _,.nil=>rfl
theorem Vals.dropLast{xs:List V}{us:List Value}(h:Vals xs us):Vals xs.dropLast us.dropLast:=by
 induction h with
 | nil=>exact .nil
 | cons r t ih =>
  cases t with
  | nil=>exact .nil
  | cons q t'=>exact .cons r ih
theorem Vals.eraseIdx:∀{xs:List V} {us:List Value} (i:Nat),Vals xs us->Vals (xs.eraseIdx i) (us.eraseIdx i)
 | _,_,_,.nil=>.nil
 | _,_,0,.cons _ t=>t
 | _,_,i+1,.cons r t=>.cons r (Vals.eraseIdx i t)
theorem Nf{α:Type}(l:List α):l.eraseIdx (l.length-1)=l.dropLast:=by
 induction l with
 | nil=>rfl
 | cons a r ih =>
  cases r with
  | nil=>rfl
  | cons b r =>
   have e:(a::b::r).length-1 =((b::r).length-1)+1:=by
    have h1:(a::b::r).length=r.length+2:=rfl;have h2:(b::r).length=r.length+1:=rfl;omega
   rw[e,List.eraseIdx_cons_succ,ih]
   all_goals rfl
theorem Gj{α:Type}:∀(l:List α) (i:Nat),(l.eraseIdx i).length<=l.length
 | [],_=>Nat.le_refl _
 | _::_,0=>C_ _
 | _::r,i+1=>Nat.succ_le_succ (Gj r i)
section
variable{X:Cx}{pins:List (Addr×Obj)}{σ:St}{H:Hp}{s:Shared}{l b:Addr}{xs ys zs:List V}
theorem Inv.lset{its its':List Value}{n:Nat}{f:Array Value->Array Value}{t':Nat}(I:Inv X pins σ H s)(hH:H l=some (.lst xs))
  (e:s.heap.get? l=some { cls:=.type "list",data:=.seq its.toArray n }) (hf:f its.toArray=its'.toArray) (hv:Vals ys its') (hz:ys.length<=sizeLine) :
  Inv X pins σ (upd H l (.lst ys)) { s with heap:=s.heap.update l (Obj.mapSeq f),toks:=t' }:=by
 have q:=PySem.IsL.update e f;rw[hf]at q;refine I.write (x:=l) (e:=l) (by rw[hH];exact trivial) (.inl rfl) (fun b' u hb hu=>(BZ s.heap (Obj.mapSeq f) (Ne.symm hb)).trans hu) ⟨_,q⟩ ?_;exact⟨hz,its',_,hv,q⟩
theorem Inv.lnew{its:List Value}{t':Nat}(I:Inv X pins σ H s)(hv:Vals ys its)(hz:ys.length<=sizeLine) :
  Inv X pins σ (upd H s.heap.objs.size (.lst ys)) { s with heap:=s.heap.push { cls:=.type "list",data:=.seq its.toArray },toks:=t' } :=
 I.laid (fun _ _ q=>AE _ q) (Nat.le_refl _) ⟨hz,its,0,hv,BE _ rfl⟩
theorem Inv.fresh(I:Inv X pins σ H s):H s.heap.objs.size=none:=I.hok.fresh (Nat.le_refl _)
theorem Inv.lstM(I:Inv X pins σ H s)(hH:H l=some (.lst xs)):xs.length<=sizeLine/\∃(its:List Value) (n:Nat),Vals xs its/\xs.length=its.length/\s.heap.get? l=some { cls:=.type "list",data:=.seq its.toArray n }:=by
 obtain⟨z,its,n,r,e⟩:=I.hok l _ hH;exact⟨z,its,n,r,r.length,e⟩
theorem Tm{n:Nat}(h:n<=sizeLine):Builtin.List.listTooLong n=false:=by
 unfold Builtin.List.listTooLong;exact BC (by omega)
end
section
variable{X:Cx}
def Yw:V->List V->Hp->VK->Prop:=fun x vs H Q=>∃l xs y,x = .ref l/\vs = [y]/\H l=some (.lst xs)/\xs.length<sizeLine/\Q .non (upd H l (.lst (xs ++ [y])))
theorem M0:MtM X "list.append" Yw:=by
 intro pins s σ H x vs v us Q I rx rv h;obtain⟨l,xs,y,rfl,rfl,hH,hz,q⟩:=h;cases rx;obtain⟨u,rfl,ru⟩:=rv.one;obtain⟨z,its,n,r,hl,e⟩:=I.lstM hH;refine call_meets F.slot_list_append ⟨_,e,rfl⟩ F.entry_list_append (F.args_list_append_2 _ _) (PySem.list_append l its.toArray n u (by rw[A_];omega)) ⟨e,?_⟩;refine⟨.non,_,I.lset (its':=its ++ [u]) hH e (by simp) (r.append (.cons ru .nil)) ?_,rfl,q⟩;rw[BB,EC];omega
def Xp:V->List V->Hp->VK->Prop:=fun x vs H Q=>∃l b xs zs,x = .ref l/\vs = [.ref b]/\H l=some (.lst xs)/\H b=some (.lst zs)/\xs.length+zs.length<=sizeLine/\Q .non (upd H l (.lst (xs++zs)))
theorem Qq:MtM X "list.extend" Xp:=by
 intro pins s σ H x vs v us Q I rx rv h;obtain⟨l,b,xs,zs,rfl,rfl,hH,hB,hz,q⟩:=h;cases rx;obtain⟨u,rfl,ru⟩:=rv.one;cases ru;obtain⟨z,its,n,r,hl,e⟩:=I.lstM hH;obtain⟨z2,its2,n2,r2,hl2,e2⟩:=I.lstM hB;have hsz:its.toArray.size+its2.toArray.size<=sizeLine:=by rw[A_,A_];omega
 have hlong:¬(!its.toArray.isEmpty&&Builtin.List.listTooLong (its.toArray.size+its2.toArray.size))=true:=by
  rw[Tm hsz,Bool.and_false];exact AZ
 refine call_meets F.slot_list_extend ⟨_,e,rfl⟩ F.entry_list_extend (F.args_list_extend_2 _ _)
  (AutoSeq1.list_extend_list_list_0 l its.toArray n b its2.toArray n2 hlong (by rw[A_];omega) (by omega)) ⟨e,e2,?_⟩
 refine⟨.non,_,I.lset (its':=its++its2) hH e (by simp) (r.append r2) ?_,rfl,q⟩;rw[BB];omega
def zFa:V->List V->Hp->VK->Prop:=fun x vs H Q=>∃l xs y,x = .ref l/\vs = []/\H l=some (.lst xs)/\xs[xs.length-1]?=some y/\Q y (upd H l (.lst xs.dropLast))
theorem zBc:MtM X "list.pop" zFa:=by
 intro pins s σ H x vs v us Q I rx rv h;obtain⟨l,xs,y,rfl,rfl,hH,hy,q⟩:=h;cases rx;have hus:=rv.zero;subst hus;obtain⟨z,its,n,r,hl,e⟩:=I.lstM hH;obtain⟨u,hu,ru⟩:=r.get hy;have hy':its.toArray[its.toArray.size-1]?=some u:=by
  show its.toArray[its.length-1]?=some u;rw[<-BL,<-hl];exact hu
 refine call_meets F.slot_list_pop ⟨_,e,rfl⟩ F.entry_list_pop (F.args_list_pop_1 _) (MeetsSeq.list_pop_last l its.toArray n u hy' (by rw[A_];omega)) ⟨e,?_⟩;refine⟨y,_,I.lset (its':=its.dropLast) hH e ?_ r.dropLast ?_,ru,q⟩
 .show its.toArray.eraseIdxIfInBounds (its.toArray.size-1)=its.dropLast.toArray;rw[A_,List.eraseIdxIfInBounds_toArray,Nf]
 .rw[List.length_dropLast];omega
def Zq:V->List V->Hp->VK->Prop:=fun x vs H Q=>∃l xs i k y,x = .ref l/\vs = [.int i]/\H l=some (.lst xs)/\-(2^63)<=i/\i<2^63/\seqIndex? i xs.length=some k/\xs[k]?=some y/\Q y (upd H l (.lst (xs.eraseIdx k)))
theorem Ta:MtM X "list.pop" Zq:=by
 intro pins s σ H x vs v us Q I rx rv h;obtain⟨l,xs,i,k,y,rfl,rfl,hH,h1,h2,hk,hy,q⟩:=h;cases rx;obtain⟨u,rfl,ru⟩:=rv.one;obtain⟨t,rfl⟩:=ru;obtain⟨z,its,n,r,hl,e⟩:=I.lstM hH;obtain⟨w,hw,rw'⟩:=r.get hy;refine call_meets F.slot_list_pop ⟨_,e,rfl⟩ F.entry_list_pop (F.args_list_pop_2 _ _)
  (MeetsSeq.list_pop_at l its.toArray n i t k w (fitsIndex_both h1 h2) (by rw[A_,<-hl];exact hk) (by rw[<-BL];exact hw) (by rw[A_];omega)) ⟨e,?_⟩
 refine⟨y,_,I.lset (its':=its.eraseIdx k) hH e ?_ (r.eraseIdx k) ?_,rw',q⟩
 .show its.toArray.eraseIdxIfInBounds k =(its.eraseIdx k).toArray;rw[List.eraseIdxIfInBounds_toArray]
 .have:=Gj xs k;omega
def zFi:R2:=fun x y H Q=>∃l b xs zs,x = .ref l/\y = .ref b/\H l=some (.lst xs)/\H b=some (.lst zs)/\xs.length+zs.length<=sizeLine/\∀p,H p=none->Q (.ref p) (upd H p (.lst (xs++zs)))
theorem X9:OpR X (binaryOp .Add) zFi:=by
 intro pins s σ H x y v u Q I rx ry h;obtain⟨l,b,xs,zs,rfl,rfl,hH,hB,hz,q⟩:=h;cases rx;cases ry;obtain⟨z,its,n,r,hl,e⟩:=I.lstM hH;obtain⟨z2,its2,n2,r2,hl2,e2⟩:=I.lstM hB;refine PySem.P.add_list e e2 ?_ (by rw[A_,A_];omega);have ea:its.toArray++its2.toArray =(its++its2).toArray:=by simp
 rw[ea];exact⟨.ref _,_,I.lnew (t':=s.toks) (r.append r2) (by rw[BB];omega),rfl,q _ I.fresh⟩
end
section
variable{U:Type}[DecidableEq U]
def Y5(kvs:List (U×V))(k:U):Option V:=(kvs.find? fun kv=>decide (kv.1=k)).map (·.2)
def Fa(kvs:List (U×V))(k:U)(v:V):List (U×V) :=
 if(kvs.any fun kv=>decide (kv.1=k))=true then kvs.map (fun kv=>if kv.1=k then(kv.1,v)else kv)else kvs ++ [(k,v)]
theorem J9{p:U×V}{r:List (U×V)}{k:U}(e:p.1=k):Y5 (p::r) k=some p.2:=by simp[Y5,FM,e]
theorem K1{p:U×V}{r:List (U×V)}{k:U}(e:¬p.1=k):Y5 (p::r) k=Y5 r k:=by simp[Y5,FM,e]
theorem Dq(k:U):∀kvs:List (U×V),(kvs.any fun kv=>decide (kv.1=k)) =(Y5 kvs k).isSome
 | []=>rfl
 | p::r=>by
  rw[FO];by_cases e:p.1=k
  .simp only[J9 e,AG e,Bool.true_or,Option.isSome_some]
  .rw[K1 e,BC e,Bool.false_or];exact Dq k r
theorem Lb(k j:U)(y:V):∀kvs:List (U×V),Y5 (kvs.map fun kv=>if kv.1=k then(kv.1,y)else kv) j =(Y5 kvs j).map fun x=>if j=k then y else x
 | []=>rfl
 | p::r=>by
  have ih:=Lb k j y r;rw[BM];by_cases h:p.1=k
  .rw[AY h];by_cases e:p.1=j
   .rw[J9 (p:=(p.1,y)) e,J9 e,GF,AY (e.symm.trans h)]
   .rw[K1 (p:=(p.1,y)) e,K1 e,ih]
  .rw[AS h];by_cases e:p.1=j
   .rw[J9 (p:=p) e,J9 e,GF,AS (fun z=>h (e.trans z))]
   .rw[K1 (p:=p) e,K1 e,ih]
theorem Gn(k j:U)(y:V):∀kvs:List (U×V),Y5 kvs k=none->Y5 (kvs ++ [(k,y)]) j=if j=k then some y else Y5 kvs j
 | [],_=>by
  by_cases e:k=j
  .rw[AY e.symm];exact J9 (p:=(k,y)) e
  .rw[AS (fun z=>e z.symm)];exact K1 (p:=(k,y)) e
 | p::r,hn=>by
  rw[List.cons_append];have hk:¬p.1=k:=fun z=>by rw[J9 z]at hn;cases hn
  rw[K1 hk]at hn;have ih:=Gn k j y r hn;by_cases e:p.1=j
  .rw[J9 e,J9 e,AS (fun z=>hk (e.trans z))]
  .rw[K1 e,K1 e,ih]
theorem Ul(kvs:List (U×V))(k j:U)(y:V):Y5 (Fa kvs k y) j=if j=k then some y else Y5 kvs j:=by
 unfold Fa;by_cases a:(kvs.any fun kv=>decide (kv.1=k))=true
 .rw[AY a,Lb];rw[Dq]at a;by_cases e:j=k
  .obtain⟨x,hx⟩:=DB.mp a;rw[AY e,e,hx,GF,AY rfl]
  .rw[AS e];cases Y5 kvs j with
   | none=>rfl
   | some x=>rw[GF,AS e]
 .rw[AS a];refine Gn k j y kvs ?_;rw[Dq]at a;cases q:Y5 kvs k with
  | none=>rfl
  | some x=>rw[q]at a;exact(a rfl).elim
theorem S0(kvs:List (U×V))(k:U)(v:V):(Fa kvs k v).length<=kvs.length+1:=by
 unfold Fa;split
 .rw[AA];omega
 .rw[BB,BK,List.length_nil];omega
theorem RelO.getD{o:Option V}{u:Option Value}{d:V}{d':Value}(r:RelO o u)(rd:RelV d d'):RelV (o.getD d) (u.getD d'):=by
 cases o with
 | none=>cases u with
  | none=>exact rd
  | some _=>exact(show False from r).elim
 | some _=>cases u with
  | none=>exact(show False from r).elim
  | some _=>exact r
theorem KV.val{kvs:List (U×V)}{vs:List (U×Value)}(r:KV kvs vs)(k:U):RelO (Y5 kvs k) (valueAt vs k):=by
 unfold KV at r
 induction r with
 | nil=>exact True.intro
 | @cons p q ps qs h t ih =>
  obtain⟨h1,h2⟩:=h;by_cases e:p.1=k
  .have e':q.1=k:=h1.symm.trans e;have b:valueAt (q::qs) k=some q.2:=by simp[valueAt,FM,e']
   rw[J9 e,b];exact h2
  .have e':¬q.1=k:=fun z=>e (h1.trans z);have b:valueAt (q::qs) k=valueAt qs k:=by simp[valueAt,FM,e']
   rw[K1 e,b];exact ih
theorem KV.any{kvs:List (U×V)}{vs:List (U×Value)}(r:KV kvs vs)(k:U):(kvs.any fun kv=>decide (kv.1=k))=vs.any fun kv=>decide (kv.1=k):=by
 unfold KV at r
 induction r with
 | nil=>rfl
 | cons h t ih=>rw[FO,FO,ih,h.1]
theorem KV.repl{kvs:List (U×V)}{vs:List (U×Value)}(r:KV kvs vs)(k:U){y:V}{u:Value}(ry:RelV y u) :
  KV (kvs.map fun kv=>if kv.1=k then(kv.1,y)else kv) (vs.map fun kv=>if kv.1=k then(kv.1,u)else kv):=by
 unfold KV at r⊢
 induction r with
 | nil=>exact .nil
 | @cons p q ps qs h t ih =>
  rw[BM,BM];refine .cons ?_ ih;obtain⟨h1,h2⟩:=h;by_cases e:p.1=k
  .rw[AY e,AY (h1.symm.trans e)];exact⟨h1,ry⟩
  .rw[AS e,AS (fun z=>e (h1.trans z))];exact⟨h1,h2⟩
theorem KV.put{kvs:List (U×V)}{vs:List (U×Value)}(r:KV kvs vs)(k:U){y:V}{u:Value}(ry:RelV y u):KV (Fa kvs k y) (stored vs k u):=by
 unfold Fa stored;rw[r.any k];by_cases e:(vs.any fun kv=>decide (kv.1=k))=true
 .rw[AY e,AY e];exact r.repl k ry
 .rw[AS e,AS e];exact Paired.snoc r ⟨rfl,ry⟩
theorem KV.length{kvs:List (U×V)}{vs:List (U×Value)}(r:KV kvs vs):kvs.length=vs.length:=Paired.length r
end
theorem Jd{P:Program}{w:World}{k:Key}{u:Value}(r:RelV (kV k) u):(C7 P w).is k u=true:=by
 cases k with
 | inl i=>obtain⟨t,e⟩:=(show ∃t,u=Value.int i t from r);subst e;exact Jg P w i t
 | inr x=>obtain⟨t,e⟩:=(show ∃t,u=Value.str x t from r);subst e;exact Hz P w x t
theorem Hv{P:Program}{w:World}:∀{ks:List Key} {us:List Value},Vals (ks.map kV) us->ItemsAre (C7 P w) ks us
 | [],_,r=>by rw[List.map_nil]at r;cases r;exact .nil
 | k::ks,_,r=>by
  rw[BM]at r;cases r with
  | cons h t=>exact .cons (Jd h) (Hv t)
abbrev KT(H:Hp):List (List Key×V)->List (List Key×Addr×Value)->Prop:=Paired fun p q=>p.1=q.1/\H q.2.1=some (.tup (p.1.map kV))/\RelV p.2 q.2.2
theorem KT.val{H:Hp}{kvs:List (List Key×V)}{xs:List (List Key×Addr×Value)}(r:KT H kvs xs)(k:List Key):RelO (Y5 kvs k) ((atKey xs k).map (·.2)):=by
 induction r with
 | nil=>exact True.intro
 | @cons p q ps qs h t ih =>
  obtain⟨h1,_,h2⟩:=h;by_cases e:p.1=k
  .have e':q.1=k:=h1.symm.trans e;have b:atKey (q::qs) k=some q.2:=by simp[atKey,FM,e']
   rw[J9 e,b];exact h2
  .have e':¬q.1=k:=fun z=>e (h1.trans z);have b:atKey (q::qs) k=atKey qs k:=by simp[atKey,FM,e']
   rw[K1 e,b];exact ih
section
variable{P:Program}{w:World}{H:Hp}{h:Heap}{a:Addr}
theorem zAz{u:HO}(ok:HOk P w H h)(e:Rd H a u):ObjOk P w H h a u:=e.ok ok
theorem Oq{kvs:List (Key×V)}(ok:HOk P w H h)(e:Rd H a (.dK kvs)):kvs.length<=sizeLine/\(a == sysModules)=false/\∃vs,KV kvs vs/\h.DictOf (C7 P w) a vs :=
 show ObjOk P w H h a (.dK kvs)from zAz ok e
theorem zDs{kvs:List (Key×V)}(ok:HOk P w H h)(e:H a=some (.dK kvs)):kvs.length<=sizeLine/\(a == sysModules)=false/\∃vs,KV kvs vs/\h.DictOf (C7 P w) a vs:=Oq ok (.inl e)
theorem Aw{ks:List Key}(ok:HOk P w H h)(e:H a=some (.tup (ks.map kV))):(tupleKind (C7 P w)).is h ks a:=by
 obtain⟨_,its,r,o,h1,h2,n,h3⟩:=(show ObjOk P w H h a (.tup (ks.map kV))from ok a _ e);exact⟨o,its.toArray,n,h1,h2,h3,by simpa using Hv r⟩
theorem Ty{kvs:List (List Key×V)}(ok:HOk P w H h)(e:Rd H a (.dT kvs)):kvs.length<=sizeLine/\(a == sysModules)=false /\
  ∃xs,KT H kvs xs/\h.DictOfH (tupleKind (C7 P w)) a xs:=by
 obtain⟨z,y,xs,r,o,es,ep,h1,h2,h3,h4,h5⟩:=(show ObjOk P w H h a (.dT kvs)from zAz ok e);refine⟨z,y,xs,r,o,es,ep,h1,h2,h3,h4,fun x hx=>?_,h5⟩;have all:∀{l:List (List Key×V)} {m:List (List Key×Addr×Value)},KT H l m->∀x∈m,(tupleKind (C7 P w)).is h x.1 x.2.1:=by
  intro l m q
  induction q with
  | nil=>intro x hx;exact nomatch hx
  | @cons p q ps qs hq t ih =>
   intro x hx;rcases AX.mp hx with e | hx
   .subst e;exact Aw ok (by rw[<-hq.1];exact hq.2.1)
   .exact ih x hx
 exact all r x hx
end
def DGet(H:Hp)(a:Addr)(y:V)(r:Option V):Prop :=
 (∃kvs k,Rd H a (.dK kvs)/\y=kV k/\r=Y5 kvs k)\/∃kvs k b,Rd H a (.dT kvs)/\y = .ref b/\H b=some (.tup (k.map kV))/\r=Y5 kvs k
theorem DGet.k{H:Hp}{a:Addr}{kvs:List (Key×V)}{k:Key}(e:H a=some (.dK kvs)):DGet H a (kV k) (Y5 kvs k):=.inl ⟨kvs,k,.inl e,rfl,rfl⟩
section
variable{X:Cx}{pins:List (Addr×Obj)}{σ:St}{H:Hp}{s:Shared}{a:Addr}{y v:V}{u r:Value}{o:Option V}{A:Around}{E:Value->Shared->Prop}
theorem Inv.big(I:Inv X pins σ H s):sysModules<s.heap.objs.size:=by
 have h:mainGlobals<s.heap.objs.size:=(I.mod.glob.keeps I.bk).lt;exact Nat.lt_trans (by decide) h
theorem Op{Q:Value->Shared->Prop}(hu:A.units+1<cLine)(I:Inv X pins σ H s)(g:DGet H a y (some v))(ry:RelV y u)(h:∀w' s',Inv X pins σ H s'->RelV v w'->Q w' s') :
  wpAny (model X.prog X.w) A (getItem (.ref a) u) Q E s:=by
 rcases g with⟨kvs,k,e,ey,l⟩ | ⟨kvs,k,b,e,ey,eb,l⟩
 .subst ey;obtain⟨z,hd,vs,rel,dd⟩:=Oq I.hok e;obtain⟨w',hw,rw'⟩:=RelO.some_of (v:=v) (o:=valueAt vs k) (by rw[l];exact rel.val k);exact wpAny_getItem_of (Jd ry) dd.mapOf hw (h w' _ (I.tok _) rw')
 .subst ey;cases(show u=Value.ref b from ry);obtain⟨z,hd,xs,rel,dd⟩:=Ty I.hok e;obtain⟨w',hw,rw'⟩:=RelO.some_of (v:=v) (o:=(atKey xs k).map (·.2)) (by rw[l];exact rel.val k);obtain⟨p,hp,hp2⟩:=AV.mp hw;refine wpAny_getItem_heap (tupleKind_room_in1 hu) (Aw I.hok eb) dd hp ?_;rw[hp2];exact h w' _ (I.tok _) rw'
theorem Xo{h':Heap}{t':Nat}{ob:HO}(I:Inv X pins σ H s)(mu:Mut (H a))(hs:Heap.SameBut a s.heap h')(he:∃q,h'.get? a=some q)(new:ObjOk X.prog X.w (upd H a ob) h' a ob) :
  Inv X pins σ (upd H a ob) { s with heap:=h',toks:=t' } :=
 I.write (x:=a) (e:=a) mu (.inl rfl) (fun b q hb z=>(hs.2 b hb).trans z) he new
theorem Vy{P:Program}{w:World}{H':Hp}{h':Heap}{kvs:List (Key×V)}{vs:List (Key×Value)}(z:kvs.length<=sizeLine)(hd:(a == sysModules)=false)(rel:KV kvs vs)(dd:h'.DictOf (C7 P w) a vs) :
  ObjOk P w H' h' a (.dK kvs):=⟨z,hd,vs,rel,dd⟩
end
def zEo(i:Expr):Prop:=∀ov iv,subscripted i false ov iv=operate [ov,iv] (getItem ov iv)
theorem Yc{prog:Program}{w:World}{A:Around}{E:Value->Shared->Prop}{s:Shared}{env:Env}{value slice:Expr}{pos:Pos}{T id:String}{Q:Value->Shared->Prop}
  (hl:typeLookup (.type T) "__getitem__" = pure (some (.builtin id))) (hs:zEo slice)
  (h:wpAny (model prog w) A (eval value env) (fun o s₁=>wpAny (model prog w) A (eval slice env) (fun i s₂=>s₂.TypeIs o T/\wpAny (model prog w) A (getItem o i) Q E s₂) E s₁) E s) :
  wpAny (model prog w) A (eval (.Subscript value slice pos) env) Q E s:=by
 refine Subscript_ (CA h (fun o s₁ h₁=>CA h₁ (fun i s₂ h₂=>?_) fun _ _ x=>x) fun _ _ x=>x);obtain⟨hT,h₂⟩:=h₂;unfold subscriptTail;refine AB ?_;rw[getitemInPython_of_ne hT.not_modules];refine AB (wpAny_specialOf hT hl ?_);have fin:wpAny (model prog w) A (subscripted slice false o i) (fun r s₃=>wpAny (model prog w) A (letTemporaryGo value o r >>= fun _=>pure r) Q E s₃) E s₂:=by
  rw[hs o i];exact wpAny_operating (CA h₂ (fun r s₃ h₃=>AB (wpAny_letTemporaryGo (AD h₃))) fun _ _ x=>x)
 first
  | exact AD (AB fin)
  | exact AB (AD (AB fin))
  | exact AB fin
theorem Jq{X:Cx}{pins:List (Addr×Obj)}{σ:St}{H:Hp}{s:Shared}{a:Addr}{y:V}{o:Option V}(I:Inv X pins σ H s)(g:DGet H a y o):s.TypeIs (.ref a) "dict":=by
 rcases g with⟨kvs,k,e,_,_⟩ | ⟨kvs,k,b,e,_,_,_⟩
 .obtain⟨_,_,vs,_,dd⟩:=Oq I.hok e;exact dd.typeIs
 .obtain⟨_,_,xs,_,dd⟩:=Ty I.hok e;exact dd.typeIs
def zCz(td ty:TE):TE:=fun σ H Q=>td σ H fun x H1=>ty σ H1 fun y H2=>∃a v,x = .ref a/\DGet H2 a y (some v)/\Q v H2
section
variable{X:Cx}{o i e value:Expr}{pos pos' tpos:Pos}{td ty tv:TE}
theorem j8(hu:X.A.units+1<cLine)(ho:PE X o td)(hi:PE X i ty)(hs:zEo i):PE X (.Subscript o i pos) (zCz td ty):=by
 intro pins s σ H Q I h;refine Yc PySem.F.slot_dict_getitem.lookup hs (thn (ho pins s σ H _ I h) fun u s1 ⟨x,H1,I1,rx,q1⟩=>thn (hi pins s1 σ H1 _ I1 q1) fun iv s2 ⟨y,H2,I2,ry,a,v,ex,g,q2⟩=>?_);subst ex;obtain rfl:u=Value.ref a:=rx;exact⟨Jq I2 g,Op hu I2 g ry fun w' s3 I3 rw'=>⟨v,H2,I3,rw',q2⟩⟩
end
theorem Kp{P:Program}{w:World}{H:Hp}(h:Heap)(hb:sysModules<h.objs.size):ObjOk P w H (h.push { cls:=.type "dict",data:=.dict #[] }) h.objs.size (.dK []) :=
 ⟨BT _,beq_eq_false_iff_ne.mpr (Ne.symm (BD hb)),[],.nil,Heap.DictOf.new h⟩
structure M2(X:Cx)(o:Expr)(m:Str)(apos:Pos)(e f:Expr)(cpos:Pos):Prop where
 base:attributeBase o m X.env (eval o X.env)=eval o X.env
 few:((backTo cpos (starEach [e,f] X.env)).all (fun x=>!x.1) &&(backToKw cpos (keywordEach [] X.env)).all (fun x=>x.1.isSome)
  && decide (([e,f]:List Expr).length +([]:List Keyword).length +(if([]:List Keyword).isEmpty then 0 else 1)<30))=true
 line:(apos.endLine == cpos.line)=true
 trees:backTo cpos (starEach [e,f] X.env) = [(false,eval e X.env),(false,eval f X.env)]
def IsD(H:Hp)(a:Addr):Prop:=(∃kvs,Rd H a (.dK kvs))\/∃kvs,Rd H a (.dT kvs)
theorem zBd{X:Cx}{pins:List (Addr×Obj)}{σ:St}{H:Hp}{s:Shared}{a:Addr}(I:Inv X pins σ H s)(d:IsD H a) :
  s.TypeIs (.ref a) "dict"/\(∀b,Value.ref a = .ref b->∃ob,s.heap.get? b=some ob/\ob.dict=none)/\(a == sysModules)=false:=by
 rcases d with⟨kvs,e⟩ | ⟨kvs,e⟩
 .obtain⟨_,hd,vs,_,dd⟩:=Oq I.hok e;refine⟨dd.typeIs,fun b q=>?_,hd⟩;cases q;obtain⟨ob,_,_,h1,h2,_⟩:=dd;exact⟨ob,h1,h2.2.1⟩
 .obtain⟨_,hd,xs,_,dd⟩:=Ty I.hok e;refine⟨dd.typeIs,fun b q=>?_,hd⟩;cases q;obtain⟨ob,_,_,h1,h2,_⟩:=dd;exact⟨ob,h1,h2.2.1⟩
section
variable{X:Cx}{pins:List (Addr×Obj)}{σ:St}{H:Hp}{s:Shared}{a:Addr}{y d:V}{u r:Value}{o:Option V}{A:Around}{E:Value->Shared->Prop}
theorem zCj{Q:Value->Shared->Prop}(hu:A.units+1<cLine)(I:Inv X pins σ H s)(g:DGet H a y o)(ry:RelV y u)(rd:RelV d r)(h:∀w' s',Inv X pins σ H s'->RelV (o.getD d) w'->Q w' s') :
  wpAny (model X.prog X.w) A (call (.builtin "dict.get") [.ref a,u,r]) Q E s:=by
 rcases g with⟨kvs,k,e,ey,l⟩ | ⟨kvs,k,b,e,ey,eb,l⟩
 .subst ey;obtain⟨z,hd,vs,rel,dd⟩:=Oq I.hok e;refine call_meetsIn PySem.F.slot_dict_get dd.typeIs PySem.F.entry_dict_get (PySem.F.args_dict_get_3 _ _ _) (meets_dict_get_default (C7 X.prog X.w) a (Jd ry) hd r) ⟨_,dd.mapOf,h _ _ (I.tok _) ?_⟩;rw[l];exact(rel.val k).getD rd
 .subst ey;cases(show u=Value.ref b from ry);obtain⟨z,hd,xs,rel,dd⟩:=Ty I.hok e;refine call_meetsIn PySem.F.slot_dict_get dd.typeIs PySem.F.entry_dict_get (PySem.F.args_dict_get_3 _ _ _) (meetsH_dict_get_default (tupleKind (C7 X.prog X.w)) a b hd r) ⟨tupleKind_room_in1 hu,k,xs,Aw I.hok eb,dd,h _ _ (I.tok _) ?_⟩;rw[l];exact(rel.val k).getD rd
end
def zBu(td ty tx:TE):TE:=fun σ H Q=>td σ H fun x H1=>∃a,x = .ref a/\IsD H1 a/\ty σ H1 fun y H2=>tx σ H2 fun z H3=>∃o,DGet H3 a y o/\Q (o.getD z) H3
section
variable{X:Cx}{o e f:Expr}{apos cpos:Pos}{td ty tx:TE}
theorem Tg(hu:X.A.units+1<cLine)(ho:PE X o td)(he:PE X e ty)(hf:PE X f tx)(m:M2 X o "get" apos e f cpos):PE X (.Call (.Attribute o "get" apos) [e,f] [] cpos) (zBu td ty tx):=by
 intro pins s σ H Q I h;refine wpAny_Call_method m.base m.few m.line PySem.F.plainAttrs_dict PySem.F.slot_dict_get PySem.F.type_dict_get (thn (ho pins s σ H _ I h) fun u s1 ⟨x,H1,I1,rx,a,ex,d,q1⟩=>?_);subst ex;obtain rfl:u=Value.ref a:=rx;obtain⟨t1,t2,_⟩:=zBd I1 d;refine⟨t1,t2,?_⟩;rw[m.trees];refine Calls.callWith_builtin rfl (Calls.evalArgs_plain (Calls.spliced_cons (thn (he pins s1 σ H1 _ I1 q1) fun iv s2 ⟨y,H2,I2,ry,q2⟩ =>
  Calls.spliced_cons (thn (hf pins s2 σ H2 _ I2 q2) fun fv s3 ⟨z,H3,I3,rz,ov,g,q3⟩=>Calls.spliced_nil ?_))))
 exact zCj hu I3 g ry rz fun w' s4 I4 rw'=>⟨_,H3,I4,rw',q3⟩
end
end L2
namespace Att
open PySem PySem.W PySem.Calls PyProof.Rows
theorem Bm{P:Params}{h:Heap}:∀(ns:List Int) (vs:List Value),WellAll P h vs (ns.map WData.int)->IntsAre vs ns:=by
 intro ns
 induction ns with
 | nil =>
  intro vs w;rw[List.map_nil]at w;cases w;exact .nil
 | cons n ns ih =>
  intro vs w;rw[BM]at w;cases w with
  | cons a b =>
   cases a;exact .cons _ _ (ih _ b)
theorem Qx{l:OpenLaw}{n:Nat}(hn:l.most=some n){P:Params}{h:Heap}{args:List WData}{vals:List Value}
  (hpre:l.row.toRowW.claim.pre args=true) (hwl:WellAll P h vals args) :
  ∃a vs ns,vals = [Value.ref a]/\args = [WData.list (ns.map WData.int)]/\h.get? a=some { cls:=.type "list",data:=.seq vs.toArray }/\IntsAre vs ns/\ns.length<=n:=by
 have hsh:WShape.hasAll [] args [.list .int]=true:=(pre_splitW hpre).1;have hc:l.pre.holds [] { args:=args }=true:=(pre_splitW hpre).2;obtain⟨d,r,rfl,h1,h2⟩:=hasAllW_cons hsh;obtain rfl:=hasAllW_nil h2;obtain⟨xs,rfl,h3⟩:=hasW_list h1;obtain⟨ns,rfl⟩:=items_int h3;have hlen:ns.length<=n:=by
  unfold OpenLaw.pre at hc;have h4:(WTm.not (.lt (.lit (.int (n:Int))) (.len (.arg 0)))).holds [] { args:=[.list (ns.map .int)] }=true:=by
   have h4:=(holds_andW hc).1;rw[hn]at h4;exact h4
  have h5:=condW_of h4 (w_not (w_lt w_lit (w_len_list (w_arg rfl))));rw[AA]at h5;refine Nat.le_of_not_lt fun q=>?_;have q':(n:Int) <((ns.length:Nat):Int):=by omega
  first
   | (rw[AG q']at h5;exact absurd h5 (by decide))
   | (simp at h5;omega)
 cases hwl with
 | cons w1 w2 =>
  cases w2;cases w1 with
  | list ho hall=>exact⟨_,_,ns,rfl,rfl,ho,Bm ns _ hall,hlen⟩
theorem Sg(l:OpenLaw)(args:List WData):l.row.toRowW.claim.post args (.bool true) args=true :=
 postW_of (r:=l.row.toRowW) (X:=(true == true))
  (show WShape.has [] (.bool true) .bool=true by first | rfl | decide | simp[WShape.has,WShape.arms,WShape.armsAll])
  (show(WTm.eq .res (.lit (.bool true))).value [] { args:=args,res:=some (.bool true),after:=args }=some (.bool (true == true))from w_eq_bool (w_res rfl) w_lit) rfl
theorem attach_call{l:OpenLaw}{n:Nat}{q:Program}{loose:List Str}{XP:(Str->Option Value)->Heap->Prop}{YP:World->Heap->Prop}{d:DefRec}
  (hn:l.most=some n) (hdf:d.params.defaults = [])
  (call:∀(w:World) (s₀ s₁:Shared) (mg mb:Str->Option Value) (fa:Addr) (o:Obj) (pm cd doc:Value) (a:Addr) (vs:List Value) (ns:List Int),
   Ground q loose [] XP w s₀ mg mb s₁.heap->YP w s₁.heap ->
   s₁.heap.get? fa=some o->o.data = .func (docDef d.name d.params d.body d.scope pm cd doc)->s₁.heap.CodeRec cd d.name->mg d.name=some (.ref fa) ->
   s₁.heap.get? a=some { cls:=.type "list",data:=.seq vs.toArray }->IntsAre vs ns->ns.length<=n->s₁.gens = #[] ->
   codeAny (model l.prog w) callerA (.call (.ref fa) ⟨[.ref a],[]⟩) (fun r s'=>r = .ok (.ret (.bool true))/\OldK s₁.heap s'.heap/\s'.os=s₁.os/\AllBare s'.gens) s₁) :
  WalkO q loose XP YP l.row.toRowW d [] (fun f vs=>PySem.call f vs):=by
 intro w s₀ s₁ mg mb G Y fa o pm cd doc dV kV ho hd hcd hD hmg hg args vals as hpre hlay hrd hwl hlo;obtain rfl:dV = .none:=Dflts.none hD hdf;obtain rfl:kV = .none:=Dflts.noKw hD;obtain⟨a,vs,ns,rfl,rfl,hobj,hints,hlen⟩:=Qx hn hpre hwl;refine enter_call (FW (call w s₀ s₁ mg mb fa o pm cd doc a vs ns G Y ho (fd_plain hd) hcd hmg hobj hints hlen hg) fun r s' hq=>?_);obtain⟨rfl,h2,h3,h4⟩:=hq;exact⟨.inl ⟨.bool true,.bool true,[],rfl,fun _=>rfl,.bool true,Sg l _,fun _=>⟨List.Pairwise.nil,fun _ hm=>(nomatch hm)⟩⟩,h2,h3,h4⟩
end Att
namespace L2
open PySem PySem.Spec PyProof.Rows
theorem Fu:∀{vs:List Value} {ns:List Int},IntsAre vs ns->Vals (ns.map V.int) vs
 | _,_,.nil=>.nil
 | _,_,.cons n t h=>.cons ⟨t,rfl⟩ (Fu h)
def Z0(s:Stmt)(j:Nat):Stmt:=match s with
 | .ClassDef _ _ _ body _ _ _ _ _ _ _=>body.getD j (.Pass ⟨0,0,0,0⟩)
 | _=>.Pass ⟨0,0,0,0⟩
def Q1(s:Stmt):Arguments:=match s with
 | .FunctionDef _ a _ _ _ _ _ _ _ _=>a
 | _=>{ posonlyargs:=[],args:=[],vararg:=none,kwonlyargs:=[],kw_defaults:=[],kwarg:=none,defaults:=[] }
def O0(s:Stmt):List Stmt:=match s with
 | .FunctionDef _ _ b _ _ _ _ _ _ _=>b
 | _=>[]
def B5(s:Stmt):Scope:=match s with
 | .FunctionDef _ _ _ _ _ _ sc _ _ _=>sc
 | _=>{ kind:=.function,names:=[],isGenerator:=false,isCoroutine:=false }
abbrev CX0:CXT:=fun _ _ _ _ _ _=>False
abbrev E0:XK:=fun _ _ _=>False
theorem Bi{X:Cx}:Ax CX0 X E0:=fun _ _ _ _ _ _ _ h=>h.elim
structure Fun(K:PySem.W.Frag)(x qual:Str)(st:Stmt)(f:Addr)(fd:FuncData):Prop where
 ex:∃(oc:Value) (od:Option Addr) (kV doc pm:Value) (an:Option Addr) (cdv ct:Value) (osl:Array (Option Value)),
  fd=PySem.W.fnOf x qual (Q1 st) (O0 st) (B5 st) .none kV doc pm an cdv ct/\K.lookup f=some ⟨oc,od,.func fd,osl⟩/\PySem.W.codeIn K cdv qual=true
 kp:PySem.W.keepIn K (.ref f)=true
section
variable{P:Program}{w:World}{K:PySem.W.Frag}{mg:Str->Option Value}{base:Heap}
theorem Fun.ok{x qual:Str}{st:Stmt}{f:Addr}{fd:FuncData}{N ps:List Str}{k:Nat}{sp:Sp}(F:Fun K x qual st f fd)(S:FnScope N ps (B5 st))(len:∀vs H Q E,sp vs H Q E->vs.length=ps.length)
  (hbody:∀(cdv:Value) (A:Around) (outer:List Env) (s:Shared) (H:Hp) (vs:List V) (Q:VK) (E:XK),Room k (A.deeper (envOfC qual (B5 st) s.heap.objs.size f cdv))->sp vs H Q E ->
   ∃t,PSs (Wn CX0 P w K mg base N qual (B5 st) f cdv A outer s H E).nox (O0 st) t/\t { nx:=fun _ H'=>Q .non H',rt:=Q } (El N vs) H):FnOk P w K mg base CX0 (k+1) f fd ps sp:=by
 obtain⟨oc,od,kV,doc,pm,an,cdv,ct,osl,rfl,lk,hcd⟩:=F.ex;refine zBo lk hcd S len fun A outer s H vs Q E hr hsp=>?_;obtain⟨t,h,q⟩:=hbody cdv A outer s H vs Q E hr hsp;exact⟨t,h.nox,q⟩
theorem Fun.binds{x qual:Str}{st:Stmt}{f:Addr}{fd:FuncData}{ps:List Str}(F:Fun K x qual st f fd)
  (h:∀(kV doc pm:Value) (an:Option Addr) (cdv ct:Value) (us:List Value),us.length=ps.length->bindArgs (PySem.W.fnOf x qual (Q1 st) (O0 st) (B5 st) .none kV doc pm an cdv ct) ⟨us,[]⟩=pure (ps.zip us)):Binds K fd ps []:=by
 obtain⟨oc,od,kV,doc,pm,an,cdv,ct,osl,rfl,lk,hcd⟩:=F.ex;exact .all (h kV doc pm an cdv ct)
theorem fun_mk{x qual:Str}{st:Stmt}{f:Addr}{oc:Value}{od an:Option Addr}{osl:Array (Option Value)}{kV doc pm cdv ct:Value}(l:K.lookup f=some ⟨oc,od,.func (PySem.W.fnOf x qual (Q1 st) (O0 st) (B5 st) .none kV doc pm an cdv ct),osl⟩)
  (c:PySem.W.codeIn K cdv qual=true) (k:PySem.W.keepIn K (.ref f)=true):Fun K x qual st f (PySem.W.fnOf x qual (Q1 st) (O0 st) (B5 st) .none kV doc pm an cdv ct):=⟨⟨oc,od,kV,doc,pm,an,cdv,ct,osl,rfl,l,c⟩,k⟩
end
theorem w8{A:Around}{k:Nat}(hr:Room k A):A.units+1<cLine:=Nat.lt_of_le_of_lt (FD (by decide:1<=64) _) hr.units
section
variable{X:Cx}
theorem pv(i:Nat){x:Str}{pos:Pos}(hN:X.N[i]?=some x:=by rfl)(hv:Vis X.env.scope x:=by first | exact Or.inl rfl | exact Or.inr (Or.inl rfl) | exact Or.inr (Or.inr rfl))(hd:(x ==("__debug__":Str))=false:=by decide)
  (hcd:(x ==("__classdict__":Str))=false:=by decide):PE X (.Name x pos) (Ob i):=Wh hN hv hd hcd
end
theorem X4{A B:Prop}(h:B):if false=true then A else B:=by
 rw[AS AZ];exact h
theorem y8{A B:Prop}(h:A):if true=true then A else B:=by
 rw[AY rfl];exact h
theorem Z7{c A B:Prop}[Decidable c](h1:c->A)(h2:¬c->B):if c then A else B:=by
 by_cases h:c
 .rw[AY h];exact h1 h
 .rw[AS h];exact h2 h
def Same(H H':Hp):Prop:=∀b o,H b=some o->H' b=some o
theorem Same.refl(H:Hp):Same H H:=fun _ _ h=>h
theorem Same.trans{H H1 H2:Hp}(a:Same H H1)(b:Same H1 H2):Same H H2:=fun c o h=>b c o (a c o h)
theorem Same.free{H H':Hp}(e:Same H H'){l:Addr}(h:H' l=Option.none):H l=Option.none:=by
 cases q:H l with
 | none=>rfl
 | some o =>
  rw[e l o q]at h;cases h
section
variable{U:Type}[DecidableEq U]
theorem Sb:∀{l:List U} {k:U},l.Nodup->¬k∈l->(l ++ [k]).Nodup
 | [],k,_,_=>by simp
 | a::r,k,h,hk=>by
  obtain⟨h1,h2⟩:=BX.mp h;show(a ::(r ++ [k])).Nodup;refine BX.mpr ⟨fun m=>?_,Sb h2 fun m=>hk (AX.mpr (Or.inr m))⟩;rcases AI.mp m with q | q
  .exact h1 q
  .exact hk (AX.mpr (Or.inl (AC.mp q).symm))
end
def cxC(X:Cx)(scope:Scope)(cl:List (Str×Addr))(N':List Str)(pins:List (Addr×Obj))(ex:List Addr)(s3:Shared)(H3:Hp):Cx where
 prog:=X.prog
 w:=X.w
 K:=X.K
 mg:=X.mg
 base:=X.base
 A:=X.A
 N:=N'
 s₀:=s3
 H₀:=H3
 env:=compEnvC scope cl s3.heap.objs.size X.env
 outer:=X.stack
 stack:=X.stack
 ex:=ex
 fn:=fun _=>false
 calm:=X.calm
 pn:=X.pn++pins
 xe:=fun _ _=>False
def Caps(X:Cx)(scope:Scope)(cl:List (Str×Addr)):List Str->List (Option Nat)->Prop
 | [],[]=>True
 | _::N,none::c=>Caps X scope cl N c
 | x::N,some j::c=>(X.N[j]?=some x/\X.env.scope.names.lookup x=some .cell/\(relabel scope X.env).names.lookup x=some .cell/\cl.lookup x=X.env.cells.lookup x)/\Caps X scope cl N c
 | _,_=>False
def ClIn(X:Cx):List (Str×Addr)->Prop
 | []=>True
 | p::r=>X.env.cells.lookup p.1=some p.2/\ClIn X r
structure CScope(X:Cx)(scope:Scope)(cl:List (Str×Addr))(N':List Str)(cap:List (Option Nat)):Prop where
 kind:scope.kind = .function
 nocell:∀y∈scope.names,y.2≠ .cell
 loc:∀y∈scope.names,y.2 = .local->scope.names.lookup y.1=some .local
 clos:closureFor scope X.env=pure cl
 cin:ClIn X cl
 has:((relabel scope X.env).names.all fun y=>!(y.2 == .cell||y.2 == .free)||(cl.lookup y.1).isSome)=true
 caps:Caps X scope cl N' cap
def Mq(cap:List (Option Nat))(σ:St):St:=cap.map fun o=>o.bind fun j=>(σ[j]?).join
theorem ClIn.get{X:Cx}:∀{cl:List (Str×Addr)} {x:Str} {c:Addr},ClIn X cl->cl.lookup x=some c->X.env.cells.lookup x=some c
 | [],_,_,_,h=>by simp at h
 | (y,d)::r,x,c,⟨h1,h2⟩,h=>by
  rw[FE]at h;cases e:x == y with
  | true =>
   rw[e]at h;cases h;rw[beq_iff_eq.mp e];exact h1
  | false =>
   rw[e]at h;exact ClIn.get h2 h
theorem Caps.len{X:Cx}{scope:Scope}{cl:List (Str×Addr)}:∀{N:List Str} {cap:List (Option Nat)},Caps X scope cl N cap->cap.length=N.length
 | [],[],_=>rfl
 | _::N,none::c,h=>by rw[BK,BK,Caps.len (N:=N) (cap:=c) h]
 | _::N,some j::c,h=>by rw[BK,BK,Caps.len h.2]
 | [],_::_,h=>h.elim
 | _::_,[],h=>h.elim
theorem Caps.get{X:Cx}{scope:Scope}{cl:List (Str×Addr)}{j:Nat}{x:Str}:∀{N:List Str} {cap:List (Option Nat)} {i:Nat},Caps X scope cl N cap->N[i]?=some x->cap[i]?=some (some j) ->
  X.N[j]?=some x/\X.env.scope.names.lookup x=some .cell/\(relabel scope X.env).names.lookup x=some .cell/\cl.lookup x=X.env.cells.lookup x
 | [],_,_,_,h,_=>by simp at h
 | _::_,[],_,_,_,h=>by simp at h
 | y::N,none::c,0,_,_,h=>by simp at h
 | y::N,none::c,i+1,h,h1,h2=>Caps.get (N:=N) (cap:=c) (i:=i) h (by simpa using h1) (by simpa using h2)
 | y::N,some k::c,0,h,h1,h2=>by
  simp at h1 h2;subst h1;subst h2;exact h.1
 | y::N,some k::c,i+1,h,h1,h2=>Caps.get (N:=N) (cap:=c) (i:=i) h.2 (by simpa using h1) (by simpa using h2)
section
variable{X:Cx}{scope:Scope}{cl:List (Str×Addr)}{N':List Str}{cap:List (Option Nat)}{pins:List (Addr×Obj)}{σ:St}{H3:Hp}{s3:Shared}{ex:List Addr}
theorem o0{p:NameKind->Bool}:∀{names:List (Str×NameKind)} {q:Str->NameKind->Bool} {x:Str} {k:NameKind},(names.all fun y=>q y.1 y.2)=true->names.lookup x=some k->q x k=true
 | [],_,_,_,_,h=>by simp at h
 | (y,d)::r,q,x,k,ha,h=>by
  rw[List.all_cons,CD]at ha;rw[FE]at h;cases e:x == y with
  | true =>
   rw[e]at h;cases h;rw[beq_iff_eq.mp e];exact ha.1
  | false =>
   rw[e]at h;exact o0 (p:=p) (names:=r) (q:=q) ha.2 h
theorem Inv.block(I:Inv X pins σ H3 s3)(S:CScope X scope cl N' cap)(hc:X.calm=true)(hex:∀b∈ex,Aa X pins H3 b/\∃o,s3.heap.get? b=some o){h1:Heap}{tk:Nat}
  (hns:h1.Ns s3.heap.objs.size (fun _=>none)) (hk:∀b o,s3.heap.get? b=some o->h1.get? b=some o) :
  Inv (cxC X scope cl N' pins ex s3 H3) [] (Mq cap σ) H3 { s3 with heap:=h1,toks:=tk }:=by
 have lt3:∀b o,s3.heap.get? b=some o->b≠s3.heap.objs.size:=fun b o e=>BD (AJ e);have hcell:∀x c,cl.lookup x=some c->∃v,s3.heap.IsCell c v:=fun x c e=>I.cell x c (S.cin.get e);have hfree:H3 s3.heap.objs.size=none:=I.hok.fresh (Nat.le_refl _);refine⟨⟨I.ok.mod,?_,I.ok.glob,I.ok.blt,Nat.le_refl _,fun x y c e1 e2=>I.ok.inj x y c (S.cin.get e1) (S.cin.get e2),fun x hx=>?_,fun x c h _=>absurd h AZ,I.ok.hd,I.ok.frames,.inl rfl,fun b hb=>?_,I.bs,Nat.le_trans I.ok.bsz I.sz,fun b o e hb=>?_,fun b hb=>?_,I.stack,I.stkFree⟩,
  rfl,I.bare,Un.kept hk,⟨_,hns,fun i x v e1 e2 e3=>?_⟩,fun x c e=>?_,hfree,fun x c e=>I.freeC x c (S.cin.get e),fun p hp=>?_,I.hok.kept hk,?_⟩
 .exact S.kind
 .have q:∀k,(relabel scope X.env).names.lookup x=some k->(!(k == .cell||k == .free)||(cl.lookup x).isSome)=true:=fun k e=>o0 (p:=fun _=>true) (q:=fun a k=>!(k == .cell||k == .free)||(cl.lookup a).isSome) S.has e;have hx':(relabel scope X.env).names.lookup x=some .cell\/(relabel scope X.env).names.lookup x=some .free:=hx;have:(cl.lookup x).isSome=true:=by
   rcases hx' with e | e
   .exact q _ e
   .exact q _ e
  exact DB.mp this
 .obtain⟨⟨_,_,_,_,f4,_⟩,o,e⟩:=hex b hb;exact⟨lt3 b o e,fun x c ec=>f4 x c (S.cin.get ec)⟩
 .obtain⟨⟨f0,f1,f2,f3,_⟩,_⟩:=hex b hb;rcases f3 with f3 | f3
  .exact I.ok.noex b o e f3
  .have:=(I.ok.bs b o e).1;exact absurd (BH (AJ this) f3) (CK _)
 .intro hf;obtain⟨⟨_,f1,f2,_⟩,_⟩:=hex b hb;rcases AX.mp (I.stkSub b hf)with z | z
  .exact f1 z
  .exact f2 z
 .unfold Mq at e2;rw[AF]at e2;cases ec:cap[i]? with
  | none=>rw[ec]at e2;cases e2
  | some o =>
   rw[ec]at e2;cases o with
   | none=>cases e2
   | some j =>
    have e2':(σ[j]?).join=some v:=BV e2;obtain⟨c1,c2,c3,c4⟩:=S.caps.get e1 ec;have ej:σ[j]?=some (some v):=by
     cases ej:σ[j]? with
     | none=>rw[ej]at e2';cases e2'
     | some z=>rw[ej]at e2';cases z with
      | none=>cases e2'
      | some z=>cases e2';rfl
    obtain⟨m,hn,hl⟩:=I.loc;obtain⟨u,r,l⟩:=hl j x v c1 ej (.inr (.inl c2));refine⟨u,r,?_⟩;rcases l with⟨k,_⟩ | ⟨_,c,hc',hcell'⟩
    .have:X.env.scope.names.lookup x=some .local:=k;rw[c2]at this;cases this
    .exact .inr ⟨.inl c3,c,c4.trans hc',let⟨o,ho,hd⟩:=hcell';⟨o,hk _ _ ho,hd⟩⟩
 .obtain⟨v,o,ho,hd⟩:=hcell x c e;exact⟨v,o,hk _ _ ho,hd⟩
 .have hp':p∈X.pn++pins:=by simpa [cxC] using hp
  obtain⟨e,n,ne,nf,d⟩:=I.pin p hp';refine⟨hk _ _ e,n,lt3 _ _ e,fun hf=>?_,d⟩;rcases AX.mp (I.stkSub p.1 hf)with z | z
  .exact ne z
  .exact nf z
 .unfold Mq;rw[AA];exact S.caps.len
theorem Inv.unblock{σ':St}{H':Hp}{s':Shared}{h':Heap}(I:Inv X pins σ H3 s3)(hex:∀b∈ex,Aa X pins H3 b)(J:Inv (cxC X scope cl N' pins ex s3 H3) [] σ' H' s')(hb:Heap.SameBut s3.heap.objs.size s'.heap h') :
  Inv X pins σ H' { s' with heap:=h' }:=by
 have hfr:H' s3.heap.objs.size=none:=J.free;refine I.call' (ch:=ex) J.os ⟨fun b o e n h1 h2=>?_,fun b o e n h1 h2=>?_,fun b o e n h2=>?_,fun b o e h2=>?_,J.base.tups,J.base.frzs,J.base.tbls⟩ (fun b ob e=>?_) J.bare fun b hbx=>?_
 .exact(hb.2 b (BD (AJ e))).trans (J.base.keep b o e n h1 h2)
 .obtain⟨sl,q⟩:=J.base.slot b o e n h1 h2;exact⟨sl,(hb.2 b (BD (AJ e))).trans q⟩
 .exact J.base.free b o e n h2
 .obtain⟨o',q⟩:=J.base.there b o e h2;exact⟨o',(hb.2 b (BD (AJ e))).trans q⟩
 .refine(J.hok b ob e).stay (fun c w' hc q=>(hb.2 c ?_).trans q) (fun _ q=>q) fun _ _ q=>q;rintro rfl;rcases hc with z | z
  .rw[<-z,hfr]at e;cases e
  .rw[hfr]at z;cases z
 .obtain⟨_,f1,_,f3,f4,f5⟩:=hex b hbx;exact⟨f3,f1,f4,f5⟩
end
def Cp(e:Expr)(d:Nat)(iter tg:Expr)(ifs:List Expr)(emit:Sem Fin->Sem Fin)(it acc:Value)(env:Env):Sem Fin:=do
 standAt iter.pos
 match <-pyNext it with
 | none=>pure (.done .next)
 | some v =>
  letOwnedTupleGo tg it v
  assign tg env v
  let mut ok:=true
  for c in ifs do
   if ok then ok <-isTrue c env (eval c env)
  if ok then emit (again (.compLoop e d it acc env))else again (.compLoop e d it acc env)
def emL(elt:Expr)(acc:Value)(env:Env)(k:Sem Fin):Sem Fin:=(do let _ <-call (.builtin "list.append") [acc,<-eval elt env]:Sem Unit) >>= fun _=>k
def emD(a b:Expr)(D:Addr)(env:Env)(k:Sem Fin):Sem Fin:=(do
   let kv <-eval a env
   let vv <-holding [kv] (eval b env)
   standAt { a.pos with endLine:=b.pos.endLine,endCol:=b.pos.endCol }
   holding [kv,vv] (dictSet D kv vv):Sem Unit) >>= fun _=>k
def emN(e iter2:Expr)(d:Nat)(acc:Value)(env:Env)(k:Sem Fin):Sem Fin:=do
    let x <-eval iter2 env
    standAt iter2.pos
    let x <-foldedSetIterable iter2 env x
    let _ <-runOwn (.compStart e d (<-holding [x] (pyIter x)) acc env) env
    k
theorem Ct(elt tg iter:Expr)(ifs:List Expr)(scope:Scope)(pos:Pos)(it acc:Value)(env:Env) :
  compTurn (.ListComp elt [⟨tg,iter,ifs,0⟩] scope pos) 0 it acc env=Cp (.ListComp elt [⟨tg,iter,ifs,0⟩] scope pos) 0 iter tg ifs (emL elt acc env) it acc env:=rfl
theorem Cv(k v tg iter:Expr)(ifs:List Expr)(scope:Scope)(pos:Pos)(it:Value)(D:Addr)(env:Env) :
  compTurn (.DictComp k v [⟨tg,iter,ifs,0⟩] scope pos) 0 it (.ref D) env=Cp (.DictComp k v [⟨tg,iter,ifs,0⟩] scope pos) 0 iter tg ifs (emD k v D env) it (.ref D) env:=rfl
abbrev TEm:=St->Hp->(St->Hp->Prop)->Prop
def PEm(X:Cx)(emit:Sem Fin->Sem Fin)(t:TEm):Prop :=
 ∀(pins:List (Addr×Obj)) (s:Shared) (σ:St) (H:Hp) (Q:St->Hp->Prop) (k:Sem Fin) (F:Fin->Shared->Prop) (E:Value->Shared->Prop),Inv X pins σ H s->t σ H Q ->
  (∀s' σ' H',Inv X pins σ' H' s'->Q σ' H'->wpAny (model X.prog X.w) X.A k F E s')->wpAny (model X.prog X.w) X.A (emit k) F E s
def PTs(X:Cx)(ifs:List Expr)(t:TT):Prop :=
 ∀(pins:List (Addr×Obj)) (s:Shared) (σ:St) (H:Hp) (Q:Bool->Hp->Prop),Inv X pins σ H s->t σ H Q ->
  wpAny (model X.prog X.w) X.A (forIn ifs true fun c r=>if r=true then do let ok <-isTrue c X.env (eval c X.env);pure (ForInStep.yield ok)else pure (ForInStep.yield r)) (TP X pins σ Q) X.xe s
def Dj:TT:=fun _ H Q=>Q true H
theorem F9{X:Cx}:PTs X [] Dj:=fun _ _ _ H _ I h=>wpAny_tests_nil ⟨H,I,h⟩
theorem K6{X:Cx}{c:Expr}{t:TT}(h:PT X c t):PTs X [c] t:=fun pins s σ H Q I q=>wpAny_tests_one (h pins s σ H Q I q)
def Ej(g:TG)(tc:TT)(em:TEm)(J:It)(σ:St)(H:Hp)(Q:St->Hp->Prop):Prop :=
 ∃W:Nat->Nat->St->Hp->Prop,(∃m,W 0 m σ H)/\∀i m σ H,W i m σ H->(J.stop i H/\Q σ H)\/(J.go i H/\∀x H',J.yld i H x H'->g x σ H' fun σ2 H2=>tc σ2 H2 fun b H3 =>
  if b=true then em σ2 H3 fun σ3 H4=>∃m',m' < m/\W (i+1) m' σ3 H4 else ∃m',m' < m/\W (i+1) m' σ2 H3)
section
variable{X:Cx}{e tg iter:Expr}{d:Nat}{ifs:List Expr}{emit:Sem Fin->Sem Fin}{it:Addr}{acc:Value}{g:TG}{tc:TT}{em:TEm}{J:It}{fp:List Addr}{tn:Nat->Heap->Prop}{R:Result->Shared->Prop}
theorem Q2(hun:X.A.under (.compLoop e d (.ref it) acc X.env)=X.A)(hden:(model X.prog X.w).den (.compLoop e d (.ref it) acc X.env) =(compTurn e d (.ref it) acc X.env).onRaise (fun x=>do noteFrame x X.env;theTreesLotGoes x))(hc:X.calm=true)(hxe:X.xe=fun _ _=>False)(hct:compTurn e d (.ref it) acc X.env=Cp e d iter tg ifs emit (.ref it) acc X.env)(hg:PG X tg g)(ht:PTs X ifs tc)(hem:PEm X emit em)
  (T:Turn X.prog X.w X.K tg J fp it tn) {pins:List (Addr×Obj)} {s:Shared} {σ:St} {H:Hp} {Q:St->Hp->Prop} (I:Inv X pins σ H s) (st:tn 0 s.heap) (hf:∀b∈fp,Aa X pins H b) (h:Ej g tc em J σ H Q)
  (hR:∀s' σ' H',Inv X pins σ' H' s'->Q σ' H'->R (.ok .next) s'):codeAny (model X.prog X.w) X.A (.compLoop e d (.ref it) acc X.env) R s:=by
 obtain⟨W,⟨m0,w0⟩,turn⟩:=h;have stat:∀{H':Hp},(∀b∈fp,H' b=none)->∀b∈fp,Aa X pins H' b:=fun hn b hb=>⟨hn b hb,(hf b hb).2⟩;have no:∀{α:Type} {m:Sem α} {P:α->Shared->Prop} {E:Value->Shared->Prop} {s:Shared},wpAny (model X.prog X.w) X.A m P X.xe s->wpAny (model X.prog X.w) X.A m P E s:=fun q=>by
  rw[hxe]at q;exact CA q (fun _ _ z=>z) fun _ _ z=>z.elim
 refine codeAny_loop rfl (fun n s'=>∃i σ' H',Inv X pins σ' H' s'/\tn i s'.heap/\(∀b∈fp,H' b=none)/\W i n σ' H') (fun n s3 hI=>?_) m0 ⟨0,σ,H,I,st,fun b hb=>(hf b hb).1,w0⟩;obtain⟨i,σ3,H3,I3,st3,fr3,w3⟩:=hI;rw[hun,hden];refine wpAny_noted ?_;rw[hct];unfold Cp;refine AB (FC (AB ?_));rcases turn i n σ3 H3 w3 with⟨stop,qn⟩ | ⟨go,step⟩
 .refine CA (T.done X rfl rfl rfl hc i pins s3 σ3 H3 _ I3 (stat fr3) st3 stop) (fun r s4 ⟨hr,I4⟩=>?_) fun _ _ z=>z;subst hr;exact AD (hR s4 σ3 H3 I4 qn)
 .refine CA (T.item X rfl rfl rfl hc i pins s3 σ3 H3 _ I3 (stat fr3) st3 go) (fun r s4 ⟨u,hr,h4⟩=>?_) fun _ _ z=>z;subst hr;refine AB (CA h4 (fun _ s5 ⟨x,H5,I5,r5,y5,st5,fr5⟩=>?_) fun _ _ z=>z);have I5':=I5.pinned (stat fr5) (T.obj _ _ st5);have again:∀{σ7:St} {H7:Hp} {s7:Shared},Inv X (pins++Fj fp s5.heap) σ7 H7 s7->(∃m',m' < n/\W (i+1) m' σ7 H7)->∃m,m<n/\∃i σ' H',Inv X pins σ' H' s7/\tn i s7.heap/\(∀b∈fp,H' b=none)/\W i m σ' H':=fun{σ7 H7 s7} I7 n7=>by
   obtain⟨m',hm,w7⟩:=n7;refine⟨m',hm,i+1,σ7,H7,I7.unpinned,T.keep _ _ _ st5 fun b hb o e=>(I7.pin (b,o) (BJ _ (BJ _ (W0 hb e)))).1,fun b hb=>?_,w7⟩;obtain⟨o,e,d⟩:=T.obj _ _ st5 b hb;exact(I7.pin (b,o) (BJ _ (BJ _ (W0 hb e)))).2.1
  refine AB (CA (no (hg _ s5 σ3 H5 x u _ I5' r5 (step x H5 y5))) (fun _ s6 ⟨σ6,H6,I6,q6⟩=>?_) fun _ _ z=>z);refine AB (CA (no (ht _ s6 σ6 H6 _ I6 q6)) (fun ok s7 ⟨H7,I7,q7⟩=>?_) fun _ _ z=>z);cases ok with
  | false=>exact AD ⟨rfl,again I7 q7⟩
  | true =>
   exact hem _ s7 σ6 H7 _ _ _ _ I7 q7 fun s8 σ8 H8 I8 q8=>AD ⟨rfl,again I8 q8⟩
theorem X0(hun:X.A.under (.compStart e d (.ref it) acc X.env)=X.A)(hden:(model X.prog X.w).den (.compStart e d (.ref it) acc X.env) =(compStart e d (.ref it) acc X.env).onRaise (fun x=>do noteFrame x X.env;standAt theWindowsPlace)){gs:List Comprehension}(hgs:clausesOf e=gs)(hd:gs[d]?=some ⟨tg,iter,ifs,0⟩){s:Shared}(T:Turn X.prog X.w X.K tg J fp it tn)(st:tn 0 s.heap)
  (h:codeAny (model X.prog X.w) X.A (.compLoop e d (.ref it) acc X.env) R s):codeAny (model X.prog X.w) X.A (.compStart e d (.ref it) acc X.env) R s:=by
 refine codeAny_of_tree ?_;rw[hun,hden];refine wpAny_notedAt ?_;unfold compStart;rw[hgs,hd];show wpAny _ X.A (ask >>= _) _ _ s;refine AB (FX (wpAny_ite ?_));have h1:=T.self X.A 0 s (fun it' s'=>codeAny (model X.prog X.w) X.A (.compLoop e d it' acc X.env) R s') (notedBy (model X.prog X.w) X.A X.env fun x s'=>R (.error x) s') st h;split
 .first
   | exact AB (AD (AD (And.intro rfl h)))
   | exact AD (And.intro rfl h)
 .first
   | exact AB (DH (AB (FC (AB (CA h1 (fun it' s' h'=>AD (And.intro rfl h')) fun _ _ x=>x)))))
   | (refine AB (DH ?_);show wpAny _ _ (standAt iter.pos >>= _) _ _ s;exact AB (FC (AB (CA h1 (fun it' s' h'=>AD (And.intro rfl h')) fun _ _ x=>x))))
end
section
variable{X:Cx}{tg iter:Expr}{ifs:List Expr}{g:TG}{tc:TT}{em:TEm}{scope:Scope}{cl:List (Str×Addr)}{N':List Str}{cap:List (Option Nat)}{pos:Pos}{wi:TI}
def Fg(wi:TI)(o:Addr->HO)(cap:List (Option Nat))(lp:Addr->It->St->Hp->(St->Hp->Prop)->Prop):TE:=fun σ H Q=>wi σ H fun J H1=>∀D,H1 D=none->lp D J (Mq cap σ) (upd H1 D (o D)) fun _ H2=>Q (.ref D) H2
theorem Ez{e:Expr}{gs:List Comprehension}{newAcc:Sem Value}{p2:Pos}(hcl:clausesOf e =⟨tg,iter,ifs,0⟩::gs)(o:Addr->HO)(hs:∀x,foldedSetIterable iter X.env x=pure x)(S:CScope X scope cl N' cap)(hc:X.calm=true)(hi:PI X tg iter wi)
  {lp:Addr->It->St->Hp->(St->Hp->Prop)->Prop}
  (hnew:∀(pins:List (Addr×Obj)) (s:Shared) (σ:St) (H:Hp) (Q:Value->Shared->Prop) (E:Value->Shared->Prop),Inv X pins σ H s->(∀s',Inv X pins σ (upd H s.heap.objs.size (o s.heap.objs.size)) s'->(∀b ob,s.heap.get? b=some ob->s'.heap.get? b=some ob)->Q (.ref s.heap.objs.size) s')->wpAny (model X.prog X.w) X.A newAcc Q E s)
  (hlp:∀(pins:List (Addr×Obj)) (ex:List Addr) (s3:Shared) (H3:Hp) (D it:Addr) (fp:List Addr) (tn:Nat->Heap->Prop) (J:It) (σ:St) (s:Shared) (H:Hp) (Q:St->Hp->Prop) (R:Result->Shared->Prop),
   Turn X.prog X.w X.K tg J fp it tn->Inv (cxC X scope cl N' pins ex s3 H3) [] σ H s->tn 0 s.heap->(∀b∈fp,Aa (cxC X scope cl N' pins ex s3 H3) [] H b)->lp D J σ H Q ->
   (∀s' σ' H',Inv (cxC X scope cl N' pins ex s3 H3) [] σ' H' s'->Q σ' H'->R (.ok .next) s') ->
   codeAny (model X.prog X.w) X.A (.compLoop e 0 (.ref it) (.ref D) (compEnvC scope cl s3.heap.objs.size X.env)) R s)
  (hun:∀it D env,X.A.under (.compStart e 0 (.ref it) (.ref D) env)=X.A) (hden:∀it D env,(model X.prog X.w).den (.compStart e 0 (.ref it) (.ref D) env) =(compStart e 0 (.ref it) (.ref D) env).onRaise (fun x=>do noteFrame x env;standAt theWindowsPlace))
  (hev:∀E Q s,wpAny (model X.prog X.w) X.A (comprehension e scope X.env p2 newAcc false (eval iter X.env)) Q E s->wpAny (model X.prog X.w) X.A (eval e X.env) Q E s) :
  PE X e (Fg wi o cap lp):=by
 intro pins s σ H Q I h;refine hev _ _ _ (GA (use:=none) hcl hs S.clos S.kind S.loc (thn (hi pins s σ H _ I h) fun v s1 h1=>thn h1 fun itv s2 h2=>?_));obtain⟨it,fp,tn,J,H2,eit,I2,T,st2,f2,R2⟩:=h2;subst eit;refine hnew pins s2 σ H2 _ _ I2 fun s3 I3 k3=>?_;have hD:H2 s2.heap.objs.size=none:=I2.hok.fresh (Nat.le_refl _);have fok:∀b∈fp,Aa X pins (upd H2 s2.heap.objs.size (o s2.heap.objs.size)) b/\∃ob,s3.heap.get? b=some ob:=fun b hb=>by
  obtain⟨ob,e,_⟩:=T.obj _ _ st2 b hb;obtain⟨f0,fr⟩:=f2 b hb;exact⟨⟨by rw[B6 (BD (AJ e))];exact f0,fr⟩,ob,k3 b ob e⟩
 refine wpAny_newFunctionEnv S.nocell (by intro y hy;simp at hy) (fun h1 hns hsb=>?_) S.kind;have hk:∀b ob,s3.heap.get? b=some ob->h1.get? b=some ob:=fun b ob e=>(hsb.2 b (BD (AJ e))).trans (AE _ e);have I4:Inv (cxC X scope cl N' pins fp s3 (upd H2 s2.heap.objs.size (o s2.heap.objs.size))) [] (Mq cap σ) (upd H2 s2.heap.objs.size (o s2.heap.objs.size)) { s3 with heap:=h1,toks:=s3.toks +([]:List (Str×Value)).length } :=
  I3.block S hc fok hns hk
 have st4:tn 0 h1:=T.keep 0 _ _ st2 fun b hb ob e=>hk b ob (k3 b ob e);refine X0 (X:=cxC X scope cl N' pins fp s3 (upd H2 s2.heap.objs.size (o s2.heap.objs.size))) (gs:=⟨tg,iter,ifs,0⟩::gs) (e:=e) (d:=0) (tg:=tg) (iter:=iter) (ifs:=ifs) (hun _ _ _) (hden _ _ _) hcl rfl T st4 ?_;refine hlp pins fp s3 _ s2.heap.objs.size it fp tn J (Mq cap σ) _ _ _ _ T I4 st4 (fun b hb=>?_) (R2 _ hD) fun s' σ' H' I' q'=>?_
 .obtain⟨⟨f0,f1,f2',f3,f4,f5⟩,ob,eo⟩:=fok b hb;refine⟨f0,BD (AJ eo),fun hf=>?_,.inl hb,fun x c e=>f4 x c (S.cin.get e),fun p hp=>f5 p (by simpa [cxC] using hp)⟩;rcases AX.mp (I3.stkSub b hf)with z | z
  .exact f1 z
  .exact f2' z
 .obtain⟨m,hn,_⟩:=I'.loc;exact⟨m,hn,fun h' hb=>⟨.ref _,H',I3.unblock (fun b hb=>(fok b hb).1) I' hb,rfl,q'⟩⟩
end
section
variable{X:Cx}{tg iter elt:Expr}{ifs:List Expr}{g:TG}{tc:TT}{te:TE}{scope:Scope}{cl:List (Str×Addr)}{N':List Str}{cap:List (Option Nat)}{pos:Pos}{wi:TI}
def w4(D:Addr)(te:TE):TEm:=fun σ H Q=>te σ H fun y H1=>∃ys,H1 D=some (.lst ys)/\ys.length<sizeLine/\Q σ (upd H1 D (.lst (ys ++ [y])))
theorem Kw{α:Type}{X:Cx}(hxe:X.xe=fun _ _=>False){m:Sem α}{P:α->Shared->Prop}{E:Value->Shared->Prop}{s:Shared}(q:wpAny (model X.prog X.w) X.A m P X.xe s):wpAny (model X.prog X.w) X.A m P E s:=by
 rw[hxe]at q;exact CA q (fun _ _ z=>z) fun _ _ z=>z.elim
theorem Ec{D:Addr}(hxe:X.xe=fun _ _=>False)(he:PE X elt te):PEm X (emL elt (.ref D) X.env) (w4 D te):=by
 intro pins s σ H Q k F E I h hk;unfold emL;refine AB (AB (CA (Kw hxe (he pins s σ H _ I h)) (fun u s1 ⟨y,H1,I1,r1,ys,e1,z1,q1⟩=>?_) fun _ _ z=>z));refine AB (CA (Kw hxe (M0 pins s1 σ H1 (.ref D) [y] (.ref D) [u] (fun v H2=>v = .non/\Q σ H2) I1 rfl (.cons r1 .nil) ⟨D,ys,y,rfl,rfl,e1,z1,rfl,q1⟩)) (fun v s2 ⟨y2,H2,I2,r2,_,q2⟩=>?_) fun _ _ z=>z);exact AD (hk s2 σ H2 I2 q2)
theorem O2(S:CScope X scope cl N' cap)(hc:X.calm=true)(hi:PI X tg iter wi)
  (hb:∀(pins:List (Addr×Obj)) (ex:List Addr) (s3:Shared) (H3:Hp),PG (cxC X scope cl N' pins ex s3 H3) tg g/\PTs (cxC X scope cl N' pins ex s3 H3) ifs tc/\PE (cxC X scope cl N' pins ex s3 H3) elt te)
  (hs:∀x,foldedSetIterable iter X.env x=pure x:=by intro _;rfl) :
  PE X (.ListComp elt [⟨tg,iter,ifs,0⟩] scope pos) (Fg wi (fun _=>.lst []) cap fun D J σ H Q=>Ej g tc (w4 D te) J σ H Q):=by
 refine Ez (newAcc:=newList []) (p2:=firstIterPos [⟨tg,iter,ifs,0⟩] pos) rfl (fun _=>.lst []) hs S hc hi (fun pins s σ H Q E I h=>?_) (fun pins ex s3 H3 D it fp tn J σ s H Q R T I st hf h hR=>?_) (fun _ _ _=>rfl) (fun _ _ _=>rfl) (fun E Q s h=>h)
 .refine HA ?_;exact h _ (I.lnew (t':=s.toks) (its:=[]) .nil (BT _)) fun b ob e=>AE _ e
 .obtain⟨b1,b2,b3⟩:=hb pins ex s3 H3;exact Q2 (X:=cxC X scope cl N' pins ex s3 H3) rfl rfl hc rfl (Ct elt tg iter ifs scope pos _ _ _) b1 b2 (Ec rfl b3) T I st hf h hR
def Re(D:Addr)(tk tv:TE):TEm:=fun σ H Q=>tk σ H fun y H1=>tv σ H1 fun v H2=>∃kvs k,H2 D=some (.dK kvs)/\y=kV k/\kvs.length<sizeLine/\Q σ (upd H2 D (.dK (Fa kvs k v)))
theorem Ky{D:Addr}{a b:Expr}{ta tb:TE}(hxe:X.xe=fun _ _=>False)(ha:PE X a ta)(hb:PE X b tb):PEm X (emD a b D X.env) (Re D ta tb):=by
 intro pins s σ H Q k F E I h hk;unfold emD;refine AB (AB (CA (Kw hxe (ha pins s σ H _ I h)) (fun u s1 ⟨y,H1,I1,r1,q1⟩=>?_) fun _ _ z=>z));refine AB (BU (CA (Kw hxe (hb pins s1 σ H1 _ I1 q1)) (fun r s2 ⟨v,H2,I2,rv,kvs,kk,e,ey,l,q2⟩=>?_) fun _ _ z=>z));refine AB (FC (BU ?_));subst ey;obtain⟨z,hd,vs,rel,dd⟩:=zDs I2.hok e;have hz:vs.length<=sizeLine:=by rw[<-rel.length];exact z
 have hl:(Fa kvs kk v).length<=sizeLine:=by have:=S0 kvs kk v;omega
 refine wpAny_dictSet_pairs (hsz:=hz) (Jd r1) dd fun h' dd' hs=>?_;have he:∃q,h'.get? D=some q:=let⟨q,_,_,hq,_⟩:=dd';⟨q,hq⟩;exact hk _ σ _ (Xo (t':=s2.toks+1) I2 (by rw[e];exact True.intro) hs he (Vy hl hd (rel.put kk rv) dd')) q2
theorem zBb{a b:Expr}{ta tb:TE}(S:CScope X scope cl N' cap)(hc:X.calm=true)(hi:PI X tg iter wi)
  (hb:∀(pins:List (Addr×Obj)) (ex:List Addr) (s3:Shared) (H3:Hp),PG (cxC X scope cl N' pins ex s3 H3) tg g/\PTs (cxC X scope cl N' pins ex s3 H3) ifs tc/\PE (cxC X scope cl N' pins ex s3 H3) a ta/\PE (cxC X scope cl N' pins ex s3 H3) b tb)
  (hs:∀x,foldedSetIterable iter X.env x=pure x:=by intro _;rfl) :
  PE X (.DictComp a b [⟨tg,iter,ifs,0⟩] scope pos) (Fg wi (fun _=>.dK []) cap fun D J σ H Q=>Ej g tc (Re D ta tb) J σ H Q):=by
 refine Ez (newAcc:=newDict) (p2:=firstIterPos [⟨tg,iter,ifs,0⟩] pos) rfl (fun _=>.dK []) hs S hc hi (fun pins s σ H Q E I h=>?_) (fun pins ex s3 H3 D it fp tn J σ s H Q R T I st hf h hR=>?_) (fun _ _ _=>rfl) (fun _ _ _=>rfl) (fun E Q s h=>h)
 .refine CP ?_;exact h _ (I.laid (a:=s.heap.objs.size) (o:=.dK []) (t':=s.toks) (fun _ _ q=>AE _ q) (Nat.le_refl _) (Kp s.heap I.big)) fun b ob e=>AE _ e
 .obtain⟨b1,b2,b3,b4⟩:=hb pins ex s3 H3;exact Q2 (X:=cxC X scope cl N' pins ex s3 H3) rfl rfl hc rfl (Cv a b tg iter ifs scope pos _ _ _) b1 b2 (Ky rfl b3 b4) T I st hf h hR
end
instance:LawfulBEq Key where
 rfl {a}:=by cases a with
  | inl i=>show(i == i)=true;simp
  | inr x=>show(x == x)=true;simp
 eq_of_beq {a b} h:=by
  cases a with
  | inl i=>cases b with
   | inl j=>exact congrArg Sum.inl (eq_of_beq (show(i == j)=true from h))
   | inr j=>exact absurd h (by intro z;cases z)
  | inr i=>cases b with
   | inl j=>exact absurd h (by intro z;cases z)
   | inr j=>exact congrArg Sum.inr (eq_of_beq (show(i == j)=true from h))
def Oc(P:Program)(w:World)(a:Addr)(l:List Key):HO:=.ext fun h=>h.SetOf (C7 P w) a (fun k=>decide (k∈l)) l.length
section
variable{X:Cx}{pins:List (Addr×Obj)}{σ:St}{H:Hp}{s:Shared}{a:Addr}{l:List Key}
theorem zBt{P:Program}{w:World}{H:Hp}{h:Heap}(z:h.SetOf (C7 P w) a (fun k=>decide (k∈l)) l.length):ObjOk P w H h a (Oc P w a l) :=
 ⟨z,let⟨o,_,_,_,e,_⟩:=z;⟨o,e⟩,fun h1 h2 ⟨o,es,ep,t,e,r⟩ k=>⟨o,es,ep,t,k o e,r⟩⟩
theorem Inv.set(I:Inv X pins σ H s)(e:H a=some (Oc X.prog X.w a l)):s.heap.SetOf (C7 X.prog X.w) a (fun k=>decide (k∈l)) l.length:=by
 obtain⟨z,_⟩:=(show ObjOk X.prog X.w H s.heap a (Oc X.prog X.w a l)from I.hok a _ e);exact z
theorem Lr{k:Key}{u:Value}(r:RelV (kV k) u):u.scannable=true:=by
 cases k with
 | inl i=>obtain⟨t,rfl⟩:=r;rfl
 | inr x=>obtain⟨t,rfl⟩:=r;rfl
def zCo(l:List Key)(k:Key):List Key:=if k∈l then l else l ++ [k]
theorem Iy{P:Program}{w:World}{h:Heap}{S S':Key->Bool}{n n':Nat}(z:h.SetOf (C7 P w) a S n)(e:∀k,S' k=S k)(en:n'=n):h.SetOf (C7 P w) a S' n':=by
 have:S'=S:=funext e;subst this;subst en;exact z
theorem Qj:G8 X (.type "set") (fun xs H Q=>xs = []/\∀p,H p=none->Q (.ref p) (upd H p (Oc X.prog X.w p []))):=by
 intro pins s σ H xs us Q I r h;obtain⟨rfl,q⟩:=h;cases r;refine call_set_0 fun led=>⟨.ref s.heap.objs.size,_,I.laid (t':=s.toks) (fun b o e=>AE _ e) (Nat.le_refl _) (zBt ?_),rfl,q _ (I.hok.fresh (Nat.le_refl _))⟩;exact(setObjOf_fresh led).setOf (BE _ rfl) (by decide)
def zBg(P:Program)(w:World):V->List V->Hp->VK->Prop:=fun x vs H Q=>∃a l k,x = .ref a/\vs = [kV k]/\H a=some (Oc P w a l)/\l.length+1<4096/\Q .non (upd H a (Oc P w a (zCo l k)))
theorem Zt:MtM X "set.add" (zBg X.prog X.w):=by
 intro pins s σ H x vs v us Q I rx rv h;obtain⟨a,l,k,rfl,rfl,hH,hz,q⟩:=h;cases rx;obtain⟨u,rfl,ru⟩:=rv.one;refine call_set_add (Jd ru) (Lr ru) (I.set hH) hz fun h' hs z=>?_;refine⟨.non,_,I.write (x:=a) (e:=a) (t':=s.toks+1) (by rw[hH];exact True.intro) (.inl rfl) (fun b q hb e=>(hs.2 b hb).trans e) (let⟨o,_,_,_,e,_⟩:=z;⟨o,e⟩) (zBt (Iy z (fun k'=>?_) ?_)),rfl,q⟩
 .unfold zCo;by_cases e:k∈l
  .rw[AY e];by_cases ek:k'=k
   .subst ek;simp[e]
   .simp[ek]
  .rw[AS e];simp
 .unfold zCo;by_cases e:k∈l
  .rw[AY e];simp[e]
  .rw[AS e];simp[e]
def zEg(P:Program)(w:World)(neg:Bool):R2:=fun x y H Q=>∃a l k,y = .ref a/\x=kV k/\H a=some (Oc P w a l)/\Q (.bl (if neg then !decide (k∈l)else decide (k∈l))) H
theorem Pe:OpR X (compareOp .In) (zEg X.prog X.w false):=by
 intro pins s σ H x y v u Q I rx ry h;obtain⟨a,l,k,rfl,rfl,hH,q⟩:=h;cases ry;exact wpAny_inSet_of (Jd rx) (Lr rx) (I.set hH) ⟨.bl (decide (k∈l)),H,I.tok _,rfl,q⟩
end
section
variable{X:Cx}{tg iter elt tg2 iter2:Expr}{g g2:TG}{tc tc2:TT}{te:TE}{ifs ifs2:List Expr}{scope:Scope}{cl:List (Str×Addr)}{N':List Str}{cap:List (Option Nat)}{pos:Pos}{wi wi2:TI}
def zEs(wi:TI)(lp:It->St->Hp->(St->Hp->Prop)->Prop):TEm:=fun σ H Q=>wi σ H fun J H1=>lp J σ H1 Q
end
def Its(x:Str):It:=⟨fun i _=>i<x.cps.size,fun i H v H'=>H'=H/\∃c,x.cps[i]?=some c/\v = .str ⟨#[c]⟩,fun i _=>i=x.cps.size⟩
theorem Jz{P:Program}{w:World}{K:PySem.W.Frag}{tg:Expr}(it:Addr)(x:Str)(t:Tok)(ty:String)(hty:["enumerate", "zip", "dict_itemiterator", "dict_reverseitemiterator", "odict_iterator", "itertools.zip_longest", "itertools.pairwise"].contains ty=false)
  (W:∀A':Around,A'.handled=none->Walks P w A' it [it] [it] x.cps.size (SignAt x) (fun i h=>h.IsStrIter it ty x t i))
  (hself:∀(A:Around) (i:Nat) (s:Shared) (Q:Value->Shared->Prop) (E:Value->Shared->Prop),s.heap.IsStrIter it ty x t i->Q (.ref it) s->wpAny (model P w) A (pyIter (.ref it)) Q E s):Turn P w K tg (Its x) [it] it (fun i h=>h.IsStrIter it ty x t i) where
 mem:=by simp
 obj:=fun i h st b hb=>by
  have e:b=it:=by simpa using hb
  subst e;obtain⟨o,e,c,d⟩:=st;exact⟨o,e,fun v z=>by rw[d]at z;cases z⟩
 keep:=fun i h h' st k=>let⟨o,e,r⟩:=st;⟨o,k it (by simp) o e,r⟩
 item:=by
  intro X hP hw hK hc i pins s σ H E I hf st hg;subst hP hw hK;obtain⟨f0,f1,f2,f3,f4,f5⟩:=hf it (by simp);refine(W X.A (I.ok.hd hc)).item i s _ _ hg st fun v h' tk hv st' k=>?_;obtain⟨c,u,ec,ev⟩:=hv;have I1:Inv X pins σ H { s with heap:=h',toks:=tk }:=I.turned (fun b o hb e=>k b o (by simpa using hb) e) f0 f1 f3 f4 f5;obtain⟨o,e,c',d⟩:=id st';exact⟨v,rfl,Ws (s:={ s with heap:=h',toks:=tk }) e c' d hty ⟨.str ⟨#[c]⟩,H,I1,⟨u,ev⟩,⟨rfl,c,ec,rfl⟩,st',fun b hb=>(hf b hb).1⟩⟩
 done:=by
  intro X hP hw hK hc i pins s σ H E I hf st hg;subst hP hw hK;obtain⟨f0,f1,f2,f3,f4,f5⟩:=hf it (by simp);have hg':i=x.cps.size:=hg;subst hg';exact(W X.A (I.ok.hd hc)).done s _ _ st fun h' tk k=>⟨rfl,I.turned (fun b o hb e=>k b o (by simpa using hb) e) f0 f1 f3 f4 f5⟩
 self:=fun A i s Q E st h=>hself A i s Q E st h
section
variable{X:Cx}{tg:Expr}
def zFc(te:TE):TI:=fun σ H R=>te σ H fun x H1=>∃z,x = .str z/\R (Its z) H1
theorem zBn{l:Expr}{tl:TE}(hl:PE X l tl):PI X tg l (zFc tl):=by
 intro pins s σ H R I h;refine thn (hl pins s σ H _ I h) fun v s1 ⟨x,H1,I1,r1,q1⟩=>?_;obtain⟨z,e,q⟩:=q1;subst e;obtain⟨t,rfl⟩:=r1;have fin:∀(o:Obj) (ty:String),o.cls = .type ty->o.data = .fields #[.str z t,.int (0:Nat) 0]->o.isFreed=false->Turn X.prog X.w X.K tg (Its z) [s1.heap.objs.size] s1.heap.objs.size (fun i h=>h.IsStrIter s1.heap.objs.size ty z t i) ->
   PIE X pins σ tg R (.ref s1.heap.objs.size) { s1 with heap:=s1.heap.push o }:=fun o ty c d hf T=>by
  refine⟨s1.heap.objs.size,[s1.heap.objs.size],_,_,H1,rfl,I1.kept (t':=s1.toks) fun b o e=>AE _ e,T,⟨o,BE _ hf,c,d⟩,fun b hb=>?_,q⟩;have e:b=s1.heap.objs.size:=by simpa using hb
  subst e;exact I1.fpOk (Nat.le_refl _) (I1.hok.fresh (Nat.le_refl _))
 cases ha:z.cps.all (· < 128)
 .exact wpAny_pyIter_wide ha (fin _ _ rfl rfl rfl (Jz _ z t "str_iterator" (by decide) (fun A' hA=>Walks.strWide hA _ z t) fun A i s Q E st h=>wpAny_pyIter_striter_wide st h))
 .exact wpAny_pyIter_ascii ha (fin _ _ rfl rfl rfl (Jz _ z t "str_ascii_iterator" (by decide) (fun A' hA=>Walks.strAscii hA _ z t) fun A i s Q E st h=>wpAny_pyIter_striter_ascii st h))
end
section
variable{X:Cx}
theorem Ts(hc:X.calm=true):G8 X (.builtin "all") (fun xs H Q=>∃(p:Addr) (bs:List Bool),xs = [.ref p]/\SqL X.K H p (bs.map V.bl)/\Q (.bl (bs.all id)) H):=by
 intro pins s σ H xs us Q I r h;obtain⟨p,bs,rfl,hq,q⟩:=h;obtain⟨u,rfl,ru⟩:=U7 r;cases ru;obtain⟨its,rv,pl,hz⟩:=I.list hq;refine call_all_walk (FS pl.isList ?_);have hne:p≠s.heap.objs.size:=by
  obtain⟨o,n,e,_⟩:=pl;exact BD (AJ e)
 refine⟨s.heap.objs.size,_,_,_,_,_,fun i=>bs.getD i true,rfl,Walks.list (A:=X.A.in1) (show X.A.in1.handled=none from I.ok.hd hc) _ p hne its.toArray,⟨⟨_,BE _ rfl,rfl,rfl⟩,?_⟩,fun i v s' Q' E' hv q'=>?_,fun h' tk k=>?_⟩
 .obtain⟨o,n,e,c,d,e2⟩:=pl;exact⟨o,AE _ e,c,n,e2⟩
 .have hb:(bs.map V.bl)[i]?=some (V.bl (bs.getD i true))/\RelV (V.bl (bs.getD i true)) v:=by
   have hv':its[i]?=some v:=by simpa using hv
   have hi:i<its.length:=(AU.mp hv').1;have hl:=rv.length;rw[AA]at hl;have e:(bs.map V.bl)[i]?=some (V.bl (bs.getD i true)):=by
    rw[AF,AN (by omega)];simp[FV,AN (show i<bs.length by omega)]
   obtain⟨u,hu,ru⟩:=rv.get e;rw[hv']at hu;cases hu;exact⟨e,ru⟩
  cases hb.2;exact CO q'
 .have hl:=rv.length;rw[AA]at hl;have e:(List.range its.toArray.size).all (fun i=>bs.getD i true)=bs.all id:=by
   rw[A_,<-hl];rw[GD,DR,DR];constructor
   .intro z b hb;obtain⟨i,hi,rfl⟩:=FT.mp hb;have:=z i (DE.mpr hi);simpa [FV,AN hi] using this
   .intro z i hi;have hi':=DE.mp hi;have:=z bs[i] (GV hi');simpa [FV,AN hi'] using this
  rw[e];exact⟨.bl (bs.all id),H,I.kept fun b o eb=>k b o (by
   intro hb;have:b=s.heap.objs.size:=by simpa using hb
   exact absurd (AJ eb) (by rw[this];exact CK _)) (AE _ eb),rfl,q⟩
theorem Cj:∀{ss:List Str} {us:List Value},Vals (ss.map V.str) us->StrsAre us ss
 | [],_,.nil=>.nil
 | _::_,_,.cons ⟨t,e⟩ r=>by subst e;exact .cons _ _ (Cj r)
def leS(a b:Str):Prop:=¬b.cps.toList<a.cps.toList
theorem Fh:G8 X (.builtin "sorted") (fun xs H Q=>∃(p:Addr) (ss:List Str),xs = [.ref p]/\SqL X.K H p (ss.map V.str)/\∀(l:Addr) (ss':List Str),H l=none->ss'.Perm ss->ss'.Pairwise leS->Q (.ref l) (upd H l (.lst (ss'.map V.str)))):=by
 intro pins s σ H xs us Q I r h;obtain⟨p,ss,rfl,hq,q⟩:=h;obtain⟨u,rfl,ru⟩:=U7 r;cases ru;obtain⟨its,rv,pl,hz⟩:=I.list hq;have hS:=Cj rv;have hl:=rv.length;refine TS.sorted_gen (collect_list (vs:=its) pl.isList ?_ (by omega));refine⟨rfl,by omega,strKind,oneType',fun s2 _=>TS.keys_strs hS,fun out h' e ho k hg=>?_⟩;have hsz:((s.heap.push (seqObj "list" #[] 0)).update s.heap.objs.size (Obj.mapSeq (· ++ its.toArray))).objs.size=s.heap.objs.size+1:=by rw[GT,size_push']
 obtain⟨hp,hs⟩:=ho;have hm:∀v∈out.toList,∃x t,v = .str x t:=fun v hv=>hS.all v (hp.mem_iff.mp hv);have hv:Vals ((out.toList.map strOf).map V.str) out.toList:=by
  have:∀us:List Value,(∀v∈us,∃x t,v = .str x t)->Vals ((us.map strOf).map V.str) us:=by
   intro us
   induction us with
   | nil=>exact fun _=>.nil
   | cons v r ih =>
    intro h;obtain⟨x,t,rfl⟩:=h v (AW ..);exact .cons ⟨t,rfl⟩ (ih fun u hu=>h u (AO _ hu))
  exact this _ hm
 have hperm:(out.toList.map strOf).Perm ss:=by
  have:=hp.map strOf
  rwa [hS.strs]at this
 have hpw:(out.toList.map strOf).Pairwise leS:=by
  rw[CZ];refine(FQ.mp hs).imp fun{u v} ⟨hu,hv',q⟩=>?_;obtain⟨x,t,rfl⟩:=hm u hu;obtain⟨y,t',rfl⟩:=hm v hv';have q':decide (y.cps.toList<x.cps.toList)=false:=q;exact of_decide_eq_false q'
 have hk0:∀b o,s.heap.get? b=some o->h'.get? b=some o:=fun b o eb=>k b o (by
  rw[Heap.get?_update_ne _ _ _ _ (BD (AJ eb))];exact AE _ eb)
 have hn:H (s.heap.objs.size+1)=none:=I.hok.fresh (C_ _);have hg':h'.get? (s.heap.objs.size+1)=some (seqObj "list" out e):=by rw[<-hsz];exact hg
 refine⟨.ref (s.heap.objs.size+1),upd H (s.heap.objs.size+1) (.lst ((out.toList.map strOf).map V.str)),?_,by show Value.ref _=_;rw[<-hsz],q _ _ hn hperm hpw⟩;refine I.laid (t':=s.toks) hk0 (C_ _) ⟨?_,out.toList,e,hv,by simpa using hg'⟩;rw[AA,AA,hp.length_eq];omega
end
theorem He{α β:Type}(f:α->β){l m:List β}(h:l.Perm m):∀ps:List α,m=ps.map f->∃ps':List α,ps'.Perm ps/\l=ps'.map f:=by
 induction h with
 | nil=>intro ps e;exact⟨ps,.refl _,e⟩
 | cons x _ ih =>
  intro ps e;cases ps with
  | nil=>cases e
  | cons p ps =>
   rw[BM]at e;obtain⟨rfl,e2⟩:=List.cons.inj e;obtain⟨ps',h1,h2⟩:=ih ps e2;exact⟨p::ps',.cons _ h1,by rw[BM,h2]⟩
 | swap x y l =>
  intro ps e
  match ps,e with
  | p::q::ps,e =>
   rw[BM,BM]at e;obtain⟨rfl,e2⟩:=List.cons.inj e;obtain⟨rfl,e3⟩:=List.cons.inj e2;exact⟨q::p::ps,.swap _ _ _,by rw[BM,BM,e3]⟩
 | trans _ _ ih1 ih2 =>
  intro ps e;obtain⟨ps1,h1,h2⟩:=ih2 ps e;obtain⟨ps2,h3,h4⟩:=ih1 ps1 h2;exact⟨ps2,h3.trans h1,h4⟩
abbrev PA2:=Addr×Str×Str
def Ff(q:PA2):List Nat×List Nat:=(q.2.1.cps.toList,q.2.2.cps.toList)
def leP(q r:PA2):Prop:=TS.pairLt (Ff r) (Ff q)=false
def F4(H:Hp)(q:PA2):Prop:=H q.1=some (.tup [.str q.2.1,.str q.2.2])
theorem Hd:∀{ps:List PA2} {us:List Value},Vals (ps.map fun q=>V.ref q.1) us->us=ps.map fun q=>Value.ref q.1
 | [],_,.nil=>rfl
 | _::_,_,.cons r t=>by rw[BM,Hd t];cases r;rfl
theorem Gi:∀(ps:List PA2),Vals (ps.map fun q=>V.ref q.1) (ps.map fun q=>Value.ref q.1)
 | []=>.nil
 | _::ps=>.cons rfl (Gi ps)
section
variable{X:Cx}
theorem Inv.pairAt{pins:List (Addr×Obj)}{σ:St}{H:Hp}{s:Shared}{q:PA2}(I:Inv X pins σ H s)(h:F4 H q):TS.PairAt s.heap (.ref q.1) q.2.1 q.2.2:=by
 obtain⟨its,rv,⟨o,e,c,n,d⟩,_⟩:=I.tuple (SqT.of h);obtain⟨u1,u2,rfl,⟨t,rfl⟩,⟨t',rfl⟩⟩:=rv.two;exact⟨q.1,o,n,t,t',rfl,e,c,d⟩
theorem Fw:G8 X (.builtin "sorted") (fun xs H Q=>∃(p:Addr) (ps:List PA2),xs = [.ref p]/\SqL X.K H p (ps.map fun q=>V.ref q.1)/\(∀q∈ps,F4 H q) /\
  ∀(l:Addr) (ps':List PA2),H l=none->ps'.Perm ps->ps'.Pairwise leP->Q (.ref l) (upd H l (.lst (ps'.map fun q=>V.ref q.1)))):=by
 intro pins s σ H xs us Q I r h;obtain⟨p,ps,rfl,hq,hpi,q⟩:=h;obtain⟨u,rfl,ru⟩:=U7 r;cases ru;obtain⟨its,rv,pl,hz⟩:=I.list hq;have ei:=Hd rv;have hl:=rv.length;refine TS.sorted_gen (collect_list (vs:=its) pl.isList ?_ (by omega));have hsz:((s.heap.push (seqObj "list" #[] 0)).update s.heap.objs.size (Obj.mapSeq (· ++ its.toArray))).objs.size=s.heap.objs.size+1:=by rw[GT,size_push']
 have hk1:∀b o,s.heap.get? b=some o->((s.heap.push (seqObj "list" #[] 0)).update s.heap.objs.size (Obj.mapSeq (· ++ its.toArray))).get? b=some o:=fun b o eb=>by
  rw[Heap.get?_update_ne _ _ _ _ (BD (AJ eb))];exact AE _ eb
 have hpa:∀q∈ps,TS.PairAt s.heap (.ref q.1) q.2.1 q.2.2:=fun q hq=>I.pairAt (hpi q hq);refine⟨rfl,by omega,TS.pairKind s.heap,tuples' true,fun s2 hE=>TS.keys_pairs (fun v hv=>?_) (fun b o eb=>?_),fun out h' e ho k hg=>?_⟩
 .rw[ei]at hv;obtain⟨q,hq,rfl⟩:=AH.mp hv;exact⟨_,_,hpa q hq⟩
 .have hne:b≠((s.heap.push (seqObj "list" #[] 0)).update s.heap.objs.size (Obj.mapSeq (· ++ its.toArray))).objs.size:=by
   rw[hsz];exact BD (EM (AJ eb))
  exact⟨hne,hE b o hne (hk1 b o eb)⟩
 .obtain⟨hp,hs⟩:=ho;rw[ei]at hp;obtain⟨ps',h1,h2⟩:=He (fun q:PA2=>Value.ref q.1) hp ps rfl;have hpw:ps'.Pairwise leP:=by
   rw[h2,CZ]at hs;refine(FQ.mp hs).imp fun{a b} ⟨ha,hb,z⟩=>?_;have ka:=(hpa a (h1.mem_iff.mp ha)).key;have kb:=(hpa b (h1.mem_iff.mp hb)).key;have z':TS.pairLt ((TS.pairOf s.heap (.ref b.1)).getD ([],[])) ((TS.pairOf s.heap (.ref a.1)).getD ([],[]))=false:=z;rw[ka,kb]at z';exact z'
  have hn:H (s.heap.objs.size+1)=none:=I.hok.fresh (C_ _);have hg':h'.get? (s.heap.objs.size+1)=some (seqObj "list" out e):=by rw[<-hsz];exact hg
  refine⟨.ref (s.heap.objs.size+1),upd H (s.heap.objs.size+1) (.lst (ps'.map fun q=>V.ref q.1)),?_,by show Value.ref _=_;rw[<-hsz],q _ _ hn h1 hpw⟩;refine I.laid (t':=s.toks) (fun b o eb=>k b o (hk1 b o eb)) (C_ _) ⟨?_,out.toList,e,by rw[h2];exact Gi ps',by simpa using hg'⟩;rw[AA,h1.length_eq];rw[AA]at hz;exact hz
end
theorem Inv.turnLaid{X:Cx}{pins:List (Addr×Obj)}{σ:St}{H:Hp}{s:Shared}{h':Heap}{t':Nat}{fp:List Addr}{T:Addr}{o:HO}(I:Inv X pins σ H s)(k:∀b ob,b∉fp->s.heap.get? b=some ob->h'.get? b=some ob)
  (hf:∀b∈fp,Aa X pins H b) (hfo:∀b∈fp,∃ob,s.heap.get? b=some ob) (hT:s.heap.objs.size<=T) (new:ObjOk X.prog X.w (upd H T o) h' T o):Inv X pins σ (upd H T o) { s with heap:=h',toks:=t' }:=by
 have hn:=I.hok.fresh hT;have nT:∀b ob,s.heap.get? b=some ob->b≠T:=fun b ob e=>BD (BH (AJ e) hT);have nf:∀b u,H b=some u->b∉fp:=fun b u e hb=>by rw[(hf b hb).1]at e;cases e
 refine I.step (g':=s.gens) (d':=s.drawn) (ch:=fp) (fun b hb=>let⟨_,f1,_,f3,f4,f5⟩:=hf b hb;⟨f3,f1,f4,f5⟩) (fun b ob _ _ hc e _=>k b ob hc e) (fun b ob _ _ hc e _=>⟨ob.slots,k b ob hc e⟩) (fun b ob _ e n=>by rw[B6 (nT b ob e)];exact n)
  (fun b ob hc e=>⟨ob,k b ob hc e⟩) (fun b xs e=>by rw[B6 (B2 e hn)];exact e) (fun b u xs e=>by rw[B6 (B2 e hn)];exact e) (fun b ps e=>⟨#[],by rw[B6 (B2 e hn),e];simp⟩) (fun m hm=>?_) (fun b u e=>?_) I.bare
 .obtain⟨ob,es,ep,ho,r⟩:=hm;exact⟨ob,es,ep,k _ ob (fun hb=>(hf _ hb).2.1 rfl) ho,r⟩
 .by_cases hb:b=T
  .subst hb;rw[A9]at e;cases e;exact new
  .rw[B6 hb]at e;refine(I.hok b u e).stay (fun c v hc q=>k c v ?_ q) (fun c q=>by rw[B6 (B2 q hn)];exact q) fun c xs q=>by rw[B6 (B2 q hn)];exact q
   rcases hc with z | z
   .rw[z];exact nf b u e
   .exact nf c _ z
def Ite(K:PySem.W.Frag)(a:Addr):It :=
 ⟨fun i H=>∃xs x,SqL K H a xs/\xs[i]?=some x,fun i H v H'=>∃T x,v = .ref T/\H T=none/\H'=upd H T (.tup [.int i,x])/\∀xs,SqL K H a xs->xs[i]?=some x,fun i H=>∃xs,SqL K H a xs/\xs.length=i⟩
theorem Sl{P:Program}{w:World}{K:PySem.W.Frag}{elts:List Expr}{kk:Nat}{tp:Pos}(a it e:Addr)(hei:e≠it):Turn P w K (.Tuple elts kk tp) (Ite K a) [e,it] e (fun i h=>(∃old,IsEnum h e it i old)/\h.IsListIter it a i) where
 mem:=by simp
 obj:=fun i h st b hb=>by
  obtain⟨⟨old,h1⟩,o,h2,c,d⟩:=st;rcases AX.mp hb with rfl | hb
  .exact⟨_,h1,fun v z=>by cases z⟩
  .rw[AC.mp hb];exact⟨o,h2,fun v z=>by rw[d]at z;cases z⟩
 keep:=fun i h h' st k=>⟨let⟨old,h1⟩:=st.1;⟨old,k e (by simp) _ h1⟩,st.2.at fun o x=>k it (by simp) o x⟩
 item:=by
  intro X hP hw hK hc i pins s σ H E I hf st hg;subst hP hw hK;obtain⟨xs,x,hq,hx⟩:=hg;obtain⟨its,rv,p,hz⟩:=I.list hq;obtain⟨u,hu,ru⟩:=rv.get hx;obtain⟨f0,f1,f2,f3,f4,f5⟩:=hf e (by simp);obtain⟨g0,g1,g2,g3,g4,g5⟩:=hf it (by simp);have hae:a≠e:=fun z=>by
   obtain⟨old,h1⟩:=st.1;obtain⟨o,n,e1,c,_⟩:=p;rw[z,h1]at e1;cases e1;exact absurd c (by show ¬Value.type "enumerate" = Value.type "list";decide)
  have hai:a≠it:=fun z=>by
   obtain⟨o2,h2,c2,d2⟩:=st.2;obtain⟨o,n,e1,c,_⟩:=p;rw[z,h2]at e1;cases e1;rw[c2]at c;exact absurd c (by decide)
  have hi:i<its.toArray.size:=by
   rw[A_];exact(AU.mp hu).1
  have W:=WalksT.enumerate (prog:=X.prog) (w:=X.w) (A:=X.A) (I.ok.hd hc) e it a hei hae hai its.toArray;refine W.item i s _ _ hi ⟨st.1,st.2,p.isList⟩ fun T vals h' tk hv hT ht hm k=>?_;obtain⟨t,x',hx',rfl⟩:=hv;have:x'=u:=by
   have:its.toArray[i]?=some u:=by simpa using hu
   rw[this]at hx';exact(BV hx').symm
  subst this;refine⟨.ref T,rfl,W.go elts kk tp i T _ _ _ hm fun h2 st2 k2=>?_⟩;have hTn:H T=none:=I.hok.fresh hT;have hTe:T≠e:=fun z=>W.apart i T h' hm (by simp[z]);have hTi:T≠it:=fun z=>W.apart i T h' hm (by simp[z]);have kk2:∀b o,b≠e->b≠it->s.heap.get? b=some o->h2.get? b=some o:=fun b o b1 b2 eb=>k2 b o (by simp[b1,b2]) (k b o (by simp[b1,b2]) eb);have hT2:h2.IsTuple T #[.int i t,x']:=by
   obtain⟨o,e1,r⟩:=ht;exact⟨o,k2 T o (by simp[hTe,hTi]) e1,r⟩
  refine⟨.ref T,upd H T (.tup [.int i,x]),I.turnLaid (fp:=[e,it]) (fun b o hb eb=>kk2 b o (fun z=>hb (by simp[z])) (fun z=>hb (by simp[z])) eb) hf (fun b hb=>?_) hT ⟨?_,[.int i t,x'],.cons ⟨t,rfl⟩ (.cons ru .nil),hT2⟩,rfl,⟨T,x,rfl,hTn,rfl,fun ys hy=>by rw[I.list_inj hy hq];exact hx⟩,⟨st2.1,st2.2.1⟩,fun b hb=>?_⟩
  .rcases AX.mp hb with rfl | hb
   .obtain⟨old,h1⟩:=st.1;exact⟨_,h1⟩
   .rw[AC.mp hb];obtain⟨o,h1,_⟩:=st.2;exact⟨o,h1⟩
  .show 2<=sizeLine;decide
  .rcases AX.mp hb with rfl | hb
   .rw[B6 (Ne.symm hTe)];exact f0
   .rw[AC.mp hb,B6 (Ne.symm hTi)];exact g0
 done:=by
  intro X hP hw hK hc i pins s σ H E I hf st hg;subst hP hw hK;obtain⟨xs,hq,hx⟩:=hg;obtain⟨its,rv,p,hz⟩:=I.list hq;obtain⟨f0,f1,f2,f3,f4,f5⟩:=hf e (by simp);obtain⟨g0,g1,g2,g3,g4,g5⟩:=hf it (by simp);have hae:a≠e:=fun z=>by
   obtain⟨old,h1⟩:=st.1;obtain⟨o,n,e1,c,_⟩:=p;rw[z,h1]at e1;cases e1;exact absurd c (by show ¬Value.type "enumerate" = Value.type "list";decide)
  have hai:a≠it:=fun z=>by
   obtain⟨o2,h2,c2,d2⟩:=st.2;obtain⟨o,n,e1,c,_⟩:=p;rw[z,h2]at e1;cases e1;rw[c2]at c;exact absurd c (by decide)
  have W:=WalksT.enumerate (prog:=X.prog) (w:=X.w) (A:=X.A) (I.ok.hd hc) e it a hei hae hai its.toArray;have hl:=rv.length;have hi:i=its.toArray.size:=by rw[A_];omega
  rw[hi]at st;refine W.done s _ _ ⟨st.1,st.2,p.isList⟩ fun h' tk k=>⟨rfl,?_⟩;have I1:=I.step (h':=h') (H':=H) (t':=tk) (g':=s.gens) (d':=s.drawn) (ch:=[e,it]) (fun b hb=>let⟨_,f1,_,f3,f4,f5⟩:=hf b hb;⟨f3,f1,f4,f5⟩) (fun b ob _ _ hc e _=>k b ob hc e) (fun b ob _ _ hc e _=>⟨ob.slots,k b ob hc e⟩) (fun _ _ _ _ n=>n)
   (fun b ob hc e=>⟨ob,k b ob hc e⟩) (fun _ _ e=>e) (fun _ _ _ e=>e) (fun b ps e=>⟨#[],by rw[e];simp⟩) (fun m hm=>?_) (fun b u eb=>?_) I.bare
  .exact I1
  .obtain⟨ob,es,ep,ho,r⟩:=hm;exact⟨ob,es,ep,k _ ob (fun hb=>(hf _ hb).2.1 rfl) ho,r⟩
  .have nf:∀b u,H b=some u->b∉[e,it]:=fun b u e hb=>by rw[(hf b hb).1]at e;cases e
   refine(I.hok b u eb).stay (fun c v hc q=>k c v ?_ q) (fun _ q=>q) fun _ _ q=>q;rcases hc with z | z
   .rw[z];exact nf b u eb
   .exact nf c _ z
 self:=fun A i s Q E st h=>by
  obtain⟨old,he⟩:=st.1;exact wpAny_pyIter_enum he h
section
variable{X:Cx}{elts:List Expr}{kk:Nat}{tp:Pos}
def zAj(K:PySem.W.Frag)(ta:TA):TI:=fun σ H R=>ta σ H fun vs H1=>∃a xs,vs = [.ref a]/\SqL K H1 a xs/\R (Ite K a) H1
theorem Xe{a:Expr}{ta:TA}{p pos:Pos}(hg:Gl X "enumerate")(hm:X.mg "enumerate" = none)(hv:bootBuiltins "enumerate" = some (.type "enumerate"))(ha:PA X [a] ta)(hs:starEach [a] X.env = [(false,eval a X.env)]:=by rfl):PI X (.Tuple elts kk tp) (.Call (.Name "enumerate" p) [a] [] pos) (zAj X.K ta):=by
 intro pins s σ H R I h;refine Call_ (t6 I hg hm hv (PyProof.Rows.callWith_type1 (thn (ha pos pins s σ H _ I h) fun us s1 ⟨vs,H1,I1,r1,q1⟩=>?_) hs rfl));obtain⟨l,xs,e,hq,q⟩:=q1;subst e;obtain⟨u,rfl,ru⟩:=U7 r1;cases ru;obtain⟨its,rv,pl,hz⟩:=I1.list hq;refine call_enumerate_list pl.isList fun h' he hit hsz k=>wpAny_pyIter_enum he ?_;have I2:Inv X pins σ H1 { s1 with heap:=h' }:=I1.kept (t':=s1.toks) k;refine⟨s1.heap.objs.size+1,[s1.heap.objs.size+1,s1.heap.objs.size],_,_,H1,rfl,I2,Sl l s1.heap.objs.size (s1.heap.objs.size+1) (Nat.succ_ne_self _),⟨⟨_,he⟩,hit⟩,fun b hb=>?_,q⟩;rcases AX.mp hb with z | hb
 .rw[z];exact I1.fpOk (C_ _) (I1.hok.fresh (C_ _))
 .rw[AC.mp hb];exact I1.fpOk (Nat.le_refl _) (I1.hok.fresh (Nat.le_refl _))
end
end L2
namespace ST
open PySem
def stp(mask i:Nat):Nat:=(5*i+1) %(mask+1)
def itr(mask:Nat):Nat->Nat->Nat
 | 0,i=>i
 | t+1,i=>itr mask t (stp mask i)
def orb(mask:Nat):Nat->Nat->List Nat
 | 0,_=>[]
 | n+1,i=>i::orb mask n (stp mask i)
theorem Ig(mask a b i:Nat):itr mask (a+b) i=itr mask b (itr mask a i):=by
 induction a generalizing i with
 | zero=>rw[EQ];rfl
 | succ a ih=>rw[Nat.succ_add];exact ih (stp mask i)
theorem Ry{mask j:Nat}:∀{n i:Nat},j∈orb mask n i->∃t,t<n/\itr mask t i=j
 | 0,_,h=>by simp[orb]at h
 | n+1,i,h=>by
  rcases AX.mp h with rfl | h
  .exact⟨0,by omega,rfl⟩
  .obtain⟨t,h1,h2⟩:=Ry h;exact⟨t+1,by omega,h2⟩
def Msk(mask:Nat):Prop:=mask=7\/mask=31\/mask=127\/mask=511
def full(mask:Nat):Bool:=(List.range (mask+1)).all (fun j=>(orb mask (mask+1) 0).contains j)&&itr mask (mask+1) 0 == 0
theorem zDr:full 7=true:=by decide +kernel
theorem zBf:full 31=true:=by decide +kernel
theorem Zd:full 127=true:=by decide +kernel
theorem Zf:full 511=true:=by decide +kernel
theorem Msk.full{mask:Nat}(h:Msk mask):full mask=true:=by
 rcases h with rfl | rfl | rfl | rfl
 .exact zDr
 .exact zBf
 .exact Zd
 .exact Zf
theorem cyc{mask:Nat}(h:Msk mask){i j:Nat}(hi:i<=mask)(hj:j<=mask):∃t,t<=mask/\itr mask t i=j:=by
 have f:=h.full;unfold ST.full at f;rw[CD,DR]at f;obtain⟨f1,f2⟩:=f;have f2:itr mask (mask+1) 0=0:=by simpa using f2
 have at_:∀k,k<=mask->∃t,t<mask+1/\itr mask t 0=k:=fun k hk=>Ry (by simpa using f1 k (DE.mpr (by omega)));obtain⟨a,ha,ea⟩:=at_ i hi;obtain⟨b,hb,eb⟩:=at_ j hj;by_cases hab:a<=b
 .refine⟨b-a,by omega,?_⟩;rw[<-ea,<-Ig,show a +(b-a)=b by omega,eb]
 .refine⟨mask+1-a+b,by omega,?_⟩;rw[<-ea,<-Ig,show a +(mask+1-a+b) =(mask+1)+b by omega,Ig,f2,eb]
def lps(mask:Nat):Nat->Nat×Nat->Nat×Nat
 | 0,x=>x
 | t+1,x=>lps mask t (SetTable.leap mask x.1 x.2)
theorem Yp(mask a b:Nat)(x:Nat×Nat):lps mask (a+b) x=lps mask b (lps mask a x):=by
 induction a generalizing x with
 | zero=>rw[EQ];rfl
 | succ a ih=>rw[Nat.succ_add];exact ih _
theorem Ma(mask:Nat):∀(t:Nat) (x:Nat×Nat),(lps mask t x).2=x.2 / 32^t
 | 0,x=>by simp[lps]
 | t+1,x=>by
  show(lps mask t (SetTable.leap mask x.1 x.2)).2=_;rw[Ma mask t];show x.2 / 32 / 32^t=_;rw[Nat.div_div_eq_div_mul,Nat.pow_succ,Nat.mul_comm]
theorem Wi(mask:Nat):∀(t:Nat) (x:Nat×Nat),x.1<=mask->(lps mask t x).1<=mask
 | 0,_,h=>h
 | t+1,x,_=>Wi mask t _ (Nat.lt_succ_iff.mp (Nat.mod_lt _ (Nat.succ_pos _)))
theorem Ll(mask:Nat):∀(t i:Nat),lps mask t (i,0) =(itr mask t i,0)
 | 0,_=>rfl
 | t+1,i=>by
  show lps mask t ((i*5+1+0 / 32) %(mask+1),0 / 32)=_;rw[Nat.zero_div,Nat.add_zero,Ll mask t,Nat.mul_comm];rfl
theorem Qe{mask:Nat}(h:Msk mask){i j p:Nat}(hi:i<=mask)(hj:j<=mask)(hp:p<2^64):∃t,t<=mask+13/\(lps mask t (i,p)).1=j:=by
 have e2:(lps mask 13 (i,p)).2=0:=by
  rw[Ma];exact Nat.div_eq_of_lt (BH hp (by decide))
 obtain⟨t,ht,et⟩:=cyc h (Wi mask 13 (i,p) hi) hj;refine⟨13+t,by omega,?_⟩;rw[Yp];have:lps mask 13 (i,p) =((lps mask 13 (i,p)).1,0):=Prod.ext rfl e2;rw[this,Ll];exact et
def adv(t:SetTable):Nat->SetTable.Probe->SetTable.Probe
 | 0,p=>p
 | n+1,p=>adv t n (t.advance p)
theorem Pr(t:SetTable)(a b:Nat)(p:SetTable.Probe):adv t (a+b) p=adv t b (adv t a p):=by
 induction a generalizing p with
 | zero=>rw[EQ];rfl
 | succ a ih=>rw[Nat.succ_add];exact ih _
theorem Qd(t:SetTable):∀(m:Nat) (p:SetTable.Probe),p.more=m->∃p',adv t (m+1) p=p'/\p'.i =(SetTable.leap t.mask p.i p.perturb).1/\p'.perturb =(SetTable.leap t.mask p.i p.perturb).2/\p'.j=p'.i/\p'.more=SetTable.runEnd t.mask p'.i-p'.i/\p'.dummy=p.dummy
 | 0,p,h=>by
  have ea:t.advance p ={ p with j:=(SetTable.leap t.mask p.i p.perturb).1,more:=SetTable.runEnd t.mask (SetTable.leap t.mask p.i p.perturb).1-(SetTable.leap t.mask p.i p.perturb).1,i:=(SetTable.leap t.mask p.i p.perturb).1,perturb:=(SetTable.leap t.mask p.i p.perturb).2 }:=by
   unfold SetTable.advance;rw[AS (by omega)]
  refine⟨t.advance p,rfl,?_⟩;rw[ea];exact⟨rfl,rfl,rfl,rfl,rfl⟩
 | m+1,p,h=>by
  have ea:t.advance p ={ p with j:=p.j+1,more:=p.more-1 }:=by unfold SetTable.advance;rw[AY (by omega)]
  obtain⟨p',h1,h2⟩:=Qd t m (t.advance p) (by rw[ea];show p.more-1=m;omega);rw[ea]at h2;exact⟨p',h1,h2⟩
theorem zAc(mask i:Nat):SetTable.runEnd mask i-i<=9:=by unfold SetTable.runEnd;split<;>omega
theorem Qu(t:SetTable):∀(n:Nat) (p:SetTable.Probe),p.j=p.i->p.more=SetTable.runEnd t.mask p.i-p.i->∃k,k<=10*n/\(adv t k p).j =(lps t.mask n (p.i,p.perturb)).1
 | 0,p,h1,_=>⟨0,by omega,h1⟩
 | n+1,p,h1,h2=>by
  obtain⟨p',e,a1,a2,a3,a4,_⟩:=Qd t p.more p rfl;obtain⟨k,hk,ek⟩:=Qu t n p' a3 a4;have:=zAc t.mask p.i;refine⟨p.more+1+k,by omega,?_⟩;rw[Pr,e,ek,a1,a2];rfl
theorem Hl(t:SetTable):∀(n:Nat) (p:SetTable.Probe),(adv t n p).dummy=p.dummy
 | 0,_=>rfl
 | n+1,p=>by
  show(adv t n (t.advance p)).dummy=_;rw[Hl t n];unfold SetTable.advance;split<;>rfl
theorem Oh{t:SetTable}(hm:Msk t.mask)(h:Int){j:Nat}(hj:j<=t.mask):∃n,n<10*SetTable.turns t.mask/\(adv t n (t.probeStart h)).j=j:=by
 have hb:SetTable.bits h<2^64:=by
  unfold SetTable.bits;have h1:0<=h %(2^64:Int):=FN _ (by decide);have h2:h %(2^64:Int)<2^64:=EW _ (by decide);omega
 have hi:SetTable.bits h %(t.mask+1)<=t.mask:=Nat.lt_succ_iff.mp (Nat.mod_lt _ (Nat.succ_pos _));obtain⟨n,hn,en⟩:=Qe hm hi hj hb;obtain⟨k,hk,ek⟩:=Qu t n (t.probeStart h) rfl rfl;refine⟨k,by unfold SetTable.turns;omega,ek.trans en⟩
theorem o7{t:SetTable}(hd:t.dummies = #[])(j:Nat):t.slot j = .empty\/∃i,t.slot j = .live i/\t.place[i]?=some j:=by
 unfold SetTable.slot;dsimp only;by_cases h:(t.place[SetTable.below t.place j]? == some j)=true
 .rw[AY h];exact .inr ⟨_,rfl,by simpa using h⟩
 .rw[AS h];have:SetTable.has t.dummies j=false:=by
   rw[hd];unfold SetTable.has;simp
  rw[this];exact .inl rfl
theorem Ni{t:SetTable}(hd:t.dummies = #[])(hs:t.place.size<=t.mask):∃j,j<=t.mask/\t.slot j = .empty:=by
 by_cases h:∃j,j<=t.mask/\t.slot j = .empty
 .exact h
 .exfalso;have all:∀j∈List.range (t.mask+1),j∈t.place.toList:=fun j hj=>by
   have hj':j<=t.mask:=by have:=DE.mp hj;omega
   rcases o7 hd j with e | ⟨i,_,e⟩
   .exact absurd ⟨j,hj',e⟩ h
   .exact AK (by rw[BL];exact e)
  have:=(List.nodup_range (n:=t.mask+1)).length_le_of_subset all;rw[DY,AQ]at this;omega
theorem Vs{t:SetTable}(hd:t.dummies = #[])(hashAt:Nat->Int)(h:Int)(p:SetTable.Probe)(hpd:p.dummy=none):∀(k m n fuel:Nat),m+k=n->t.slot (adv t n p).j = .empty->k<fuel ->
  (∃j,SetTable.probe.go t hashAt h fuel (adv t m p)=some (.empty j none)/\t.slot j = .empty) \/
   ∃l i,m<=l/\l<n/\t.slot (adv t l p).j = .live i/\hashAt i=h/\SetTable.probe.go t hashAt h fuel (adv t m p)=some (.candidate (adv t l p).j i (adv t (l+1) p))
 | k,m,n,0,_,_,hf=>absurd hf (Nat.not_lt_zero _)
 | k,m,n,fuel+1,e,he,hf=>by
  have hdm:(adv t m p).dummy=none:=(Hl t m p).trans hpd;have nx:adv t (m+1) p=t.advance (adv t m p):=Pr t m 1 p;rcases o7 hd (adv t m p).j with es | ⟨i,es,ep⟩
  .refine .inl ⟨(adv t m p).j,?_,es⟩;unfold SetTable.probe.go;rw[es,hdm]
  .have hk:k≠0:=by
    rintro rfl;have:m=n:=by omega
    subst this;rw[he]at es;cases es
   by_cases hh:hashAt i=h
   .refine .inr ⟨m,i,Nat.le_refl _,by omega,es,hh,?_⟩;unfold SetTable.probe.go;rw[es];dsimp only;rw[AY (by simpa using hh),nx]
   .have eg:SetTable.probe.go t hashAt h (fuel+1) (adv t m p)=SetTable.probe.go t hashAt h fuel (adv t (m+1) p):=by
     conv=>lhs;unfold SetTable.probe.go
     rw[es];dsimp only;rw[AS (by simpa using hh),nx]
    rcases Vs hd hashAt h p hpd (k-1) (m+1) n fuel (by omega) he (by omega)with⟨j,h1,h2⟩ | ⟨l,i',h1,h2,h3,h4,h5⟩
    .exact .inl ⟨j,eg.trans h1,h2⟩
    .exact .inr ⟨l,i',by omega,h2,h3,h4,eg.trans h5⟩
theorem Dl{α β:Type}{f g:α->Option β}:∀{l:List α},(∀x∈l,f x=g x)->l.filterMap f=l.filterMap g
 | [],_=>rfl
 | a::r,h=>by
  have h1:=h a (AW ..);have h2:=Dl (l:=r) fun x hx=>h x (AO _ hx);rw[DI,DI,h1,h2]
theorem We{α:Type}{f g:Nat->Option α}{j:Nat}{k:α}(hg:g j=some k)(hf:f j=none):∀{l:List Nat},l.Nodup->j∈l->(∀i,i≠j->g i=f i)->(l.filterMap g).Perm (k::l.filterMap f)
 | [],_,h,_=>by simp at h
 | i::r,nd,h,he=>by
  obtain⟨n1,n2⟩:=BX.mp nd;by_cases e:i=j
  .subst e;have er:r.filterMap g=r.filterMap f:=Dl fun x hx=>he x fun z=>n1 (z▸hx);rw[EG hg,GB hf,er]
  .have hr:=We hg hf n2 ((AX.mp h).resolve_left fun z=>e z.symm) he;cases ef:f i with
   | none=>rw[GB ((he i e).trans ef),GB ef];exact hr
   | some b =>
    rw[EG ((he i e).trans ef),EG ef];exact(List.Perm.cons b hr).trans (List.Perm.swap _ _ _)
def ocs(mask:Nat)(ow:Array (Option Nat)):List Nat:=(List.range (mask+1)).filterMap fun j=>ow.getD j none
structure LI(mask:Nat)(ow:Array (Option Nat))(k:Nat):Prop where
 sz:ow.size=mask+1
 pm:(ocs mask ow).Perm (List.range k)
theorem Pj{mask:Nat}{ow:Array (Option Nat)}{j:Nat}(hj:ow[j]?=some none):∀(t fuel i p:Nat),(lps mask t (i,p)).1=j->t<fuel->∃j',SetTable.layClean.free mask ow fuel i p=some j'/\ow[j']?=some none
 | t,0,_,_,_,h=>absurd h (Nat.not_lt_zero _)
 | t,fuel+1,i,p,e,h=>by
  unfold SetTable.layClean.free;cases q:(List.range (SetTable.runEnd mask i+1-i)).find? fun k=>(ow.getD (i+k) (some 0)).isNone with
  | some k =>
   refine⟨i+k,rfl,?_⟩;have:=List.find?_some q;rw[CH]at this;cases g:ow[i+k]? with
   | none=>rw[g]at this;simp at this
   | some z=>rw[g]at this;simp at this;rw[this]
  | none =>
   dsimp only;cases t with
   | zero =>
    exfalso;have e':i=j:=e;subst e';have hr:0∈List.range (SetTable.runEnd mask i+1-i):=DE.mpr (by unfold SetTable.runEnd;split<;>omega);have:=GJ.mp q 0 hr;rw[CH,Nat.add_zero,hj]at this;simp at this
   | succ t=>exact Pj hj t fuel _ _ e (by omega)
theorem LI.room{mask:Nat}{ow:Array (Option Nat)}{k:Nat}(h:LI mask ow k)(hk:k<=mask):∃j,j<=mask/\ow[j]?=some none:=by
 by_cases q:∃j,j<=mask/\ow[j]?=some none
 .exact q
 .exfalso;have all:∀j∈List.range (mask+1),∃v,ow.getD j none=some v:=fun j hj=>by
   have hj':j<ow.size:=by rw[h.sz];exact DE.mp hj
   cases e:ow[j]? with
   | none=>rw[Array.getElem?_eq_none_iff]at e;omega
   | some v =>
    cases v with
    | none=>exact absurd ⟨j,by have:=DE.mp hj;omega,e⟩ q
    | some v=>exact⟨v,by rw[CH,e];rfl⟩
  have hl:∀l:List Nat,(∀j∈l,∃v,ow.getD j none=some v)->(l.filterMap fun j=>ow.getD j none).length=l.length:=by
   intro l
   induction l with
   | nil=>intro _;rfl
   | cons j r ih =>
    intro ha;obtain⟨v,hv⟩:=ha j (AW ..);rw[EG (f:=fun j=>ow.getD j none) hv,BK,BK,ih fun x hx=>ha x (AO _ hx)]
  have:=h.pm.length_eq;unfold ocs at this;rw[hl _ all,DY,DY]at this;omega
theorem LI.put{mask:Nat}{ow:Array (Option Nat)}{k j:Nat}(h:LI mask ow k)(hj:ow[j]?=some none):LI mask (ow.setIfInBounds j (some k)) (k+1):=by
 have hlt:j<ow.size:=by
  obtain⟨h1,_⟩:=CT.mp hj;exact h1
 refine⟨by rw[F_];exact h.sz,?_⟩;have p:=We (f:=fun j=>ow.getD j none) (g:=fun i=>(ow.setIfInBounds j (some k)).getD i none) (j:=j) (k:=k) (by rw[CH,Array.getElem?_setIfInBounds_self_of_lt hlt];rfl) (by rw[CH,hj];rfl)
  (l:=List.range (mask+1)) List.nodup_range (DE.mpr (by rw[<-h.sz];exact hlt)) fun i hi=>by
   rw[CH,Array.getElem?_setIfInBounds_ne (Ne.symm hi),<-CH]
 have e:List.range (k+1)=List.range k ++ [k]:=List.range_succ;refine p.trans ?_;rw[e];exact(List.Perm.cons k h.pm).trans (CM (l₁:=[k]))
theorem Yk(h:Int):SetTable.bits h<2^64:=by
 unfold SetTable.bits;have h1:0<=h %(2^64:Int):=FN _ (by decide);have h2:h %(2^64:Int)<2^64:=EW _ (by decide);omega
theorem Vl{mask:Nat}(hm:Msk mask):∀(hs:List Int) (ow:Array (Option Nat)) (k:Nat),LI mask ow k->k+hs.length<=mask->∃ow',(hs.foldl (init:=some (ow,k)) fun acc h=>do
   let(owner,k) <-acc
   let j <-SetTable.layClean.free mask owner (SetTable.turns mask) (SetTable.bits h %(mask+1)) (SetTable.bits h)
   pure (owner.setIfInBounds j (some k),k+1))=some (ow',k+hs.length)/\LI mask ow' (k+hs.length)
 | [],ow,k,h,_=>⟨ow,rfl,h⟩
 | x::r,ow,k,h,hk=>by
  rw[BK]at hk;obtain⟨j,hj,ej⟩:=h.room (by omega);obtain⟨t,ht,et⟩:=Qe hm (i:=SetTable.bits x %(mask+1)) (j:=j) (Nat.lt_succ_iff.mp (Nat.mod_lt _ (Nat.succ_pos _))) hj (Yk x);obtain⟨j',h1,h2⟩:=Pj ej t (SetTable.turns mask) _ _ et (by unfold SetTable.turns;omega);obtain⟨ow',h3,h4⟩:=Vl hm r (ow.setIfInBounds j' (some k)) (k+1) (h.put h2) (by omega);refine⟨ow',?_,by rw[BK,show k +(r.length+1)=k+1+r.length by omega];exact h4⟩;rw[List.foldl_cons];show List.foldl _ ((SetTable.layClean.free mask ow (SetTable.turns mask) (SetTable.bits x %(mask+1)) (SetTable.bits x)).bind fun j=>some (ow.setIfInBounds j (some k),k+1)) r=_;rw[h1];show List.foldl _ (some (ow.setIfInBounds j' (some k),k+1)) r=_;rw[BK,show k +(r.length+1)=k+1+r.length by omega];exact h3
theorem Wo{mask:Nat}(hm:Msk mask)(finger moves:Nat)(led plain:Bool)(hs:Array Int)(hn:hs.size<=mask) :
  ∃place order,SetTable.laid mask finger moves led plain hs=some ({ mask,place,dummies:=#[],finger,led,moves,plain },order)/\place.size=hs.size/\order.toList.Perm (List.range hs.size):=by
 have h0:LI mask (Array.replicate (mask+1) none) 0:=by
  refine⟨Array.size_replicate,?_⟩;have:ocs mask (Array.replicate (mask+1) none) = []:=by
   unfold ocs;rw[List.filterMap_eq_nil_iff];intro j hj;rw[CH,Array.getElem?_replicate];split<;>rfl
  rw[this];exact List.Perm.refl _
 obtain⟨ow,h1,h2⟩:=Vl hm hs.toList _ 0 h0 (by rw[AQ];omega);rw[EQ,AQ]at h1 h2;have hc:SetTable.layClean mask hs=some ow:=by
  unfold SetTable.layClean;rw[<-Array.foldl_toList,h1];rfl
 have e2:((List.range (mask+1)).filterMap fun j=>(ow.getD j none).map (j,·)).map (·.2)=ocs mask ow:=by
  unfold ocs;rw[List.map_filterMap];refine Dl fun j _=>?_;cases ow.getD j none<;>rfl
 refine⟨(((List.range (mask+1)).filterMap fun j=>(ow.getD j none).map (j,·)).map (·.1)).toArray,(((List.range (mask+1)).filterMap fun j=>(ow.getD j none).map (j,·)).map (·.2)).toArray,?_,?_,?_⟩
 .unfold SetTable.laid;rw[hc];rfl
 .rw[A_,AA,<-AA (f:=(·.2)),e2,h2.pm.length_eq,DY]
 .show(((List.range (mask+1)).filterMap fun j=>(ow.getD j none).map (j,·)).map (·.2)).Perm _;rw[e2];exact h2.pm
theorem Ud{es:Array (Int×Value)}{order:Array Nat}(h:order.toList.Perm (List.range es.size)):(order.filterMap (es[·]?)).toList.Perm es.toList:=by
 rw[Array.toList_filterMap];refine(h.filterMap _).trans (List.Perm.of_eq ?_);refine FB fun t=>?_;have:(List.range es.size).filterMap (fun x=>es[x]?)=es.toList:=by
  have:∀(l:List (Int×Value)),(List.range l.length).filterMap (fun x=>l[x]?)=l:=by
   intro l
   induction l with
   | nil=>rfl
   | cons a r ih =>
    rw[BK,List.range_succ_eq_map,EG (by rfl:(a::r)[0]?=some a),List.filterMap_map];congr 1
  have q:=this es.toList;rw[AQ]at q;simpa using q
 rw[this]
section
variable{prog:Program}{w:World}{K:Type}[DecidableEq K]{knd:KeyKind prog w K}{A:Around}{E:Value->Shared->Prop}{s:Shared}
structure Tab(t:SetTable)(n:Nat):Prop where
 dm:t.dummies = #[]
 pl:t.place.size=n
 mm:Msk t.mask
 rm:n*5<t.mask*3
theorem Tab.fits{t:SetTable}{n:Nat}(h:Tab t n):t.fits n=true:=by
 have:=h.rm;have:=h.pl;unfold SetTable.fits SetTable.fill;rw[h.dm];simp;omega
theorem Tab.odd{t:SetTable}{n:Nat}(h:Tab t n):t.gaveWay=false:=by
 unfold SetTable.gaveWay;rcases h.mm with e | e | e | e<;>rw[e]<;>rfl
def Els(knd:KeyKind prog w K)(es:Array (Int×Value))(ks:List (List K×Addr)):Prop:=es.toList.Perm (ks.map fun q=>((tupleKind knd).hash q.1,Value.ref q.2))
def TSet(knd:KeyKind prog w K)(h:Heap)(a:Addr)(ks:List (List K×Addr)):Prop:=∃o es ep t,h.get? a=some o/\o.ExactSet/\o.data = .set es ep t/\Els knd es ks/\Tab t es.size
theorem Els.get{es:Array (Int×Value)}{ks:List (List K×Addr)}(h:Els knd es ks){i:Nat}{e:Int×Value}(he:es[i]?=some e):∃k p,(k,p)∈ks/\e =((tupleKind knd).hash k,.ref p):=by
 have:e∈es.toList:=AK (by rw[BL];exact he);obtain⟨q,hq,rfl⟩:=AH.mp (h.mem_iff.mp this);exact⟨q.1,q.2,hq,rfl⟩
theorem Bt{β:Type}{c:β}{f:Value->β->Sem (ForInStep β)}:∀{l:List Value},(∀y∈l,f y c=pure (.yield c))->forIn l c f=pure c
 | [],_=>List.forIn_nil
 | a::r,h=>by
  rw[GG,h a (AW ..),pure_bind];exact Bt fun y hy=>h y (AO _ hy)
theorem Hr{ks:List K}{vs:List Value}(h:ItemsAre knd ks vs):∀v∈vs,∃x,knd.is x v=true:=by
 induction h with
 | nil=>intro v hv;simp at hv
 | cons h1 _ ih =>
  intro v hv;rcases AX.mp hv with rfl | hv
  .exact⟨_,h1⟩
  .exact ih v hv
def Flat(knd:KeyKind prog w K):Prop:=∀v,(∃x,knd.is x v=true)->carriedByValue v=true
theorem Flat.no{v:Value}(hF:Flat knd)(h:∃x,knd.is x v=true)(d:Nat):ofAClassStatement d v=pure false:=by
 have:=hF v h;cases v<;>first
  | (cases d<;>rfl)
  | (exact absurd this (by intro z;cases z))
theorem Vv{k:List K}{p:Addr}{Q:Bool->Shared->Prop}(hF:Flat knd)(hk:(tupleKind knd).is s.heap k p)(h:Q false s):wpAny (model prog w) A (ofAClassStatement 8 (.ref p)) Q E s:=by
 obtain⟨o,items,n,ho,hc,hd,hi⟩:=hk;have hT:s.TypeIs (.ref p) "tuple":=⟨o,ho,hc⟩;unfold ofAClassStatement;refine AB (wpAny_typeOf hT ?_);dsimp only;rw[AY (by rfl)];refine AB (AD ?_);simp only[EF,BF,CI];refine AB (CU ho hd ?_);dsimp only;rw[<-Array.forIn_toList,Bt fun y hy=>by rw[hF.no (Hr hi y hy)];rfl];exact AB (AD (AD h))
theorem zAm{kx:List K}{px:Addr}{Q:Bool->Shared->Prop}(hF:Flat knd)(hx:(tupleKind knd).is s.heap kx px)(h:Q false s){l:List Value}(hl:∀v∈l,∃k p,v = .ref p/\(tupleKind knd).is s.heap k p) :
  wpAny (model prog w) A (searchCouldBeSeen (.ref px) l) Q E s:=by
 unfold searchCouldBeSeen;refine AB (wpAny_forIn_list _ (fun rest c s'=>s'=s/\c =(none,())/\∀v∈rest,v∈l) _ ?_ ?_ l _ ⟨rfl,rfl,fun _ h=>h⟩)
 .rintro v rest c s' ⟨rfl,rfl,hr⟩;obtain⟨k,p,rfl,hk⟩:=hl v (hr v (AW ..));dsimp only;have hc:carriedByValue (Value.ref px)=false:=rfl;rw[hc,EV,Bool.or_false];split
  .exact AD ⟨rfl,rfl,fun u hu=>hr u (AO _ hu)⟩
  .refine AB ((tupleKind knd).quiet hx ?_);simp only[EF,BF,CI];refine AB ((tupleKind knd).quiet hk ?_);simp only[EF,BF,CI];refine AB (Vv hF hx ?_);simp only[BF,CI];refine AB (Vv hF hk ?_);simp only[BF,CI];exact AD ⟨rfl,rfl,fun u hu=>hr u (AO _ hu)⟩
 .rintro c s' ⟨rfl,rfl,_⟩;exact AD h
theorem Tk(t:SetTable):t.sameMemory t.moves t.mask=some true:=by
 unfold SetTable.sameMemory;simp
theorem Hy{a:Addr}{o:Obj}{es:Array (Int×Value)}{ep:Nat}{t:SetTable}{ks:List (List K×Addr)}{kx:List K}{px:Addr}{adding:Bool}{Q:SetFound->Shared->Prop}{n:Nat}
  (hr:(tupleKind knd).room A) (hF:Flat knd) (ho:s.heap.get? a=some o) (hd:o.data = .set es ep t) (hE:Els knd es ks) (hT:Tab t es.size)
  (hks:∀q∈ks,(tupleKind knd).is s.heap q.1 q.2) (hx:(tupleKind knd).is s.heap kx px) (hne:∀q∈ks,q.1≠kx) (hn:n<10*SetTable.turns t.mask)
  (he:t.slot (adv t n (t.probeStart ((tupleKind knd).hash kx))).j = .empty) (h:∀j,t.slot j = .empty->Q (.free j false) s) :
  ∀(k m fuel:Nat) (stand:Option SetTable.Probe),stand.getD (t.probeStart ((tupleKind knd).hash kx))=adv t m (t.probeStart ((tupleKind knd).hash kx))->m+k=n->k<fuel ->
   wpAny (model prog w) A (setSearchFrom a (.ref px) ((tupleKind knd).hash kx) adding fuel stand) Q E s:=by
 intro k
 induction k using Nat.strongRecOn with
 | _ k ih =>
  intro m fuel stand hst hmk hf;cases fuel with
  | zero=>omega
  | succ fuel =>
   unfold setSearchFrom;refine AB (B_ ho hd hT.fits ?_);dsimp only;rw[hT.odd];simp only[BF,CI];rw[hst];unfold SetTable.probe;rcases Vs hT.dm _ ((tupleKind knd).hash kx) (t.probeStart ((tupleKind knd).hash kx)) rfl k m n (10*SetTable.turns t.mask) hmk he (by omega)with⟨j,e1,e2⟩ | ⟨l,i,h1,h2,e1,e2,e3⟩
   .rw[e1];dsimp only;exact AD (h j e2)
   .rw[e3];dsimp only;obtain⟨i',hi',hpl⟩:∃i',t.slot (adv t l (t.probeStart ((tupleKind knd).hash kx))).j = .live i'/\t.place[i']?=some (adv t l (t.probeStart ((tupleKind knd).hash kx))).j:=by
     rcases o7 hT.dm (adv t l (t.probeStart ((tupleKind knd).hash kx))).j with z | z
     .rw[z]at e1;cases e1
     .exact z
    rw[e1]at hi';cases hi';have hlt:i<es.size:=by
     have:=(CT.mp hpl).1;rw[hT.pl]at this;exact this
    obtain⟨ent,hent⟩:∃ent,es[i]?=some ent:=⟨es[i],CT.mpr ⟨hlt,rfl⟩⟩;obtain⟨k',p',hm',rfl⟩:=hE.get hent;have hseen:∀v∈(es.filter (·.1 ==(tupleKind knd).hash kx)).toList.map (·.2),∃k p,v = .ref p/\(tupleKind knd).is s.heap k p:=by
     intro v hv;obtain⟨z,hz,rfl⟩:=AH.mp hv;have hz':z∈es.toList:=by
      rw[Array.toList_filter]at hz;exact(BW.mp hz).1
     obtain⟨q,hq,rfl⟩:=AH.mp (hE.mem_iff.mp hz');exact⟨q.1,q.2,rfl,hks q hq⟩
    have rest:wpAny (model prog w) A (do
      let some (_,y):=es[i]? | unsupported "internal:set-entry"
      let equal <-holding [y] (eqBool y (.ref px))
      let(es',_,t') <-setState a
      if adding&&equal then return .there none
      let some same:=t'.sameMemory t.moves t.mask | unsupported "set.changed-during-lookup:is-the-new-block-at-the-old-address"
      let still <-match(if same then t'.slot (adv t l (t.probeStart ((tupleKind knd).hash kx))).j else .empty)with
       | .live i'=>match es'[i']? with
        | some (_,y')=>do pure (if <-isSame y' y then some i' else none)
        | none=>pure none
       | _=>pure none
      match still with
      | none=>rule "set.search.anew";setSearchFrom a (.ref px) ((tupleKind knd).hash kx) adding fuel none
      | some i'=>if equal then return .there (some i')else setSearchFrom a (.ref px) ((tupleKind knd).hash kx) adding fuel (some (adv t (l+1) (t.probeStart ((tupleKind knd).hash kx))))) Q E s:=by
     rw[hent];dsimp only;refine AB (BU ((tupleKind knd).eqBool hr (hks _ hm') hx ?_));rw[BC (hne _ hm')];refine AB (B_ ho hd hT.fits ?_);dsimp only;rw[Tk,Bool.and_false];simp only[BF,CI,EL];rw[e1];dsimp only;rw[hent];dsimp only;refine AB (wpAny_isSame_ref_self (AB (AD ?_)));simp only[EL];exact ih (n-(l+1)) (by omega) (l+1) fuel _ rfl (by omega) (by omega)
    cases hled:t.led with
    | true =>
     simp only[EF,BF,CI];exact rest
    | false =>
     simp only[GQ,EL];refine AB (zAm hF hx ?_ hseen);simp only[BF,CI];exact rest
theorem Ba{a:Addr}{o:Obj}{es:Array (Int×Value)}{ep:Nat}{t:SetTable}{ks:List (List K×Addr)}{kx:List K}{px:Addr}{adding:Bool}{Q:SetFound->Shared->Prop}
  (hr:(tupleKind knd).room A) (hF:Flat knd) (ho:s.heap.get? a=some o) (hd:o.data = .set es ep t) (hE:Els knd es ks) (hT:Tab t es.size)
  (hks:∀q∈ks,(tupleKind knd).is s.heap q.1 q.2) (hx:(tupleKind knd).is s.heap kx px) (hne:∀q∈ks,q.1≠kx) (h:∀j,t.slot j = .empty->Q (.free j false) s) :
  wpAny (model prog w) A (setSearch a (.ref px) ((tupleKind knd).hash kx) adding) Q E s:=by
 obtain⟨j,hj,hs⟩:=Ni hT.dm (by rw[hT.pl];have:=hT.rm;omega);obtain⟨n,hn,e⟩:=Oh hT.mm ((tupleKind knd).hash kx) hj;unfold setSearch;refine Hy hr hF ho hd hE hT hks hx hne hn (by rw[e];exact hs) h n 0 100000 none rfl (by omega) ?_;have:SetTable.turns t.mask<=526:=by
  unfold SetTable.turns;rcases hT.mm with e | e | e | e<;>omega
 omega
theorem TSet.typeIs{a:Addr}{ks:List (List K×Addr)}(h:TSet knd s.heap a ks):s.TypeIs (.ref a) "set":=let⟨o,_,_,_,ho,hc,_⟩:=h;⟨o,ho,hc.1⟩
theorem Ps{px:Addr}{es:Array (Int×Value)}:byScan (.ref px) es=false:=rfl
theorem Rk{a:Addr}{ks:List (List K×Addr)}{kx:List K}{px:Addr}{Q:Option Nat->Shared->Prop}(hr:(tupleKind knd).room A)(hF:Flat knd)(hS:TSet knd s.heap a ks)
  (hks:∀q∈ks,(tupleKind knd).is s.heap q.1 q.2) (hx:(tupleKind knd).is s.heap kx px) (hne:∀q∈ks,q.1≠kx) (h:Q none s):wpAny (model prog w) A (setFind a (.ref px) ((tupleKind knd).hash kx)) Q E s:=by
 obtain⟨o,es,ep,t,ho,_,hd,hE,hT⟩:=hS;unfold setFind setFindIn;refine AB (B_ ho hd hT.fits ?_);dsimp only;rw[Ps];simp only[BF,CI];refine AB (Ba hr hF ho hd hE hT hks hx hne fun j _=>?_);dsimp only;exact AD h
theorem in_free{neg:Bool}{a:Addr}{ks:List (List K×Addr)}{kx:List K}{px:Addr}{Q:Value->Shared->Prop}(hr:A.units+1<cLine)(hF:Flat knd)(hS:TSet knd s.heap a ks)
  (hks:∀q∈ks,(tupleKind knd).is s.heap q.1 q.2) (hx:(tupleKind knd).is s.heap kx px) (hne:∀q∈ks,q.1≠kx) (h:Q (.bool false) { s with toks:=s.toks +(tupleKind knd).draws kx }) :
  wpAny (model prog w) A (compareOp .In (.ref px) (.ref a)) Q E s:=by
 show wpAny _ _ (do return .bool (<-contains (.ref a) (.ref px))) Q E s;refine AB ?_;unfold contains
 try with_reducible refine BU ?_
 refine AB (wpAny_specialOf hS.typeIs F.slot_set_contains.lookup ?_);show wpAny _ _ (if(some (Value.builtin "set.__contains__") == some Value.none)=true then _ else _) _ E s;rw[AS (by rw[beq_builtin_none];exact AZ)];refine AB (wpAny_callSpecialUnlessNone?_slot (name:=Str.ofString "__contains__") hS.typeIs F.slot_set_contains
  (CS F.slot_set_contains hS.typeIs entry_set_contains ?_ (F.args_set_contains_2 _ _)))
 unfold Builtin.«frozenset.__contains__» Builtin.Frozenset.oneOther;simp only[List.isEmpty_nil,bind_assoc];unfold Builtin.Frozenset.addrOf Builtin.Frozenset.withSetAsKey setContains;refine AB (AD ?_)
 try dsimp only
 refine AB (AD ?_)
 try dsimp only
 refine AB (FF ?_);refine BU ?_;refine AB ((tupleKind knd).pyHash ?hroom hx ?_)
 case hroom=>exact hr
 refine AB (Rk (s:={ s with toks:=s.toks +(tupleKind knd).draws kx }) ?hroom hF hS hks hx hne ?_)
 case hroom=>exact hr
 refine AD ?_;show wpAny _ _ (ret (Value.bool false)) _ _ _;exact AD ⟨_,rfl,CO (AD h)⟩
def Scan(knd:KeyKind prog w K):Prop:=∀v,(∃x,knd.is x v=true)->v.scannable=true
theorem hbv{kx:List K}{px:Addr}{Q:Bool->Shared->Prop}(hB:Scan knd)(hx:(tupleKind knd).is s.heap kx px)(h:∀b,Q b s):wpAny (model prog w) A (hashByValue 8 (.ref px)) Q E s:=by
 obtain⟨o,items,n,ho,hc,hd,hi⟩:=hx;have hT:s.TypeIs (.ref px) "tuple":=⟨o,ho,hc⟩;unfold hashByValue;refine AB (wpAny_specialOf hT F.slot_tuple_hash.lookup ?_);dsimp only;refine AB (CU ho hd ?_);dsimp only[Option.getD_some];rw[<-Array.forIn_toList];refine AB (CA (wpAny_forIn_list _ (fun rest c s'=>s'=s/\c =(none,())/\∀v∈rest,v∈items.toList) (fun c s'=>s'=s/\(c =(none,())\/c =(some false,()))) ?_ ?_ _ _ ⟨rfl,rfl,fun _ z=>z⟩) ?_ fun _ _ q=>q)
 .rintro v rest c s' ⟨rfl,rfl,hr⟩;rw[hashByValue_scannable _ (hB v (Hr hi v (hr v (AW ..))))];refine AB (AD ?_);cases plainKind v with
  | true =>
   simp only[EF,BF,CI];exact AD ⟨rfl,rfl,fun u hu=>hr u (AO _ hu)⟩
  | false =>
   simp only[GQ,EL];exact AD ⟨rfl,.inr rfl⟩
 .rintro c s' ⟨rfl,rfl,_⟩;exact⟨rfl,.inl rfl⟩
 .rintro c s' ⟨rfl,rfl | rfl⟩
  .exact AD (h _)
  .exact AD (h _)
theorem g7{α:Type}(xs:Array α)(p:Nat)(x:α)(hp:p<=xs.size):(SetTable.insertAt xs p x).size=xs.size+1:=by
 unfold SetTable.insertAt;rw[Array.size_append,Array.size_push,FK,FK];omega
theorem Ei{α:Type}(xs:Array α)(p:Nat)(x:α)(hp:p<=xs.size):(SetTable.insertAt xs p x).toList.Perm (xs.toList ++ [x]):=by
 unfold SetTable.insertAt;rw[BP,CY,EI,EI];simp only[EA,DV,Nat.sub_zero];have e:List.take (xs.size-p) (List.drop p xs.toList)=List.drop p xs.toList:=by
  rw[CN];rw[CC,AQ];omega
 rw[e];have e2:xs.toList=xs.toList.take p++xs.toList.drop p:=(BS ..).symm
 conv=>rhs;rw[e2]
 rw[BI,BI];exact DD _ CM
theorem Y2(xs:Array Nat)(j:Nat):∀(f lo hi:Nat),lo<=hi->SetTable.below.go xs j f lo hi<=hi
 | 0,lo,hi,h=>h
 | f+1,lo,hi,h=>by
  unfold SetTable.below.go;split
  .rename_i h';dsimp only;split
   .exact Y2 xs j f _ _ (by omega)
   .exact Nat.le_trans (Y2 xs j f _ _ (by omega)) (by omega)
  .exact h
theorem Tn(xs:Array Nat)(j:Nat):SetTable.below xs j<=xs.size:=Y2 xs j _ _ _ (BT _)
theorem zBm{t:SetTable}(hd:t.dummies = #[])(j:Nat):t.put j =({ t with place:=SetTable.insertAt t.place (SetTable.below t.place j) j },SetTable.below t.place j):=by
 unfold SetTable.put;have:SetTable.has t.dummies j=false:=by
  rw[hd];unfold SetTable.has;simp
 rw[this];rfl
theorem zFd:SetTable.sizeAbove 20=32:=by decide
theorem zFg:SetTable.sizeAbove 76=128:=by decide
theorem zDt:SetTable.sizeAbove 308=512:=by decide
theorem Vh{f:Array (Int×Value)->Option (SetTable×Array Nat)->Sem (Array (Int×Value)×SetTable)}(hf:∀es laid,f es laid =(do
  let some (t,order):=laid | unsupported "internal:set-table-without-room"
  let es':=order.filterMap (es[·]?)
  if es'.size != es.size then unsupported "internal:set-table-lost-an-element"
  pure (es',t)))
  {a:Addr} {o:Obj} {es:Array (Int×Value)} {ep:Nat} {t:SetTable} {n m:Nat} {Q:Unit->Shared->Prop} (ho:s.heap.get? a=some o) (hd:o.data = .set es ep t) (hdm:t.dummies = #[]) (hfit:t.fits es.size=true)
  (hm:SetTable.sizeAbove n=m+1) (hmm:Msk m) (hsz:es.size*5<m*3)
  (h:∀(es':Array (Int×Value)) (t':SetTable),es'.toList.Perm es.toList->Tab t' es'.size->Q () { s with heap:=s.heap.update a (Obj.putSet es' t') }) :
  wpAny (model prog w) A (do
   let(es,_,t) <-setState a
   if SetTable.sizeAbove n>sizeLine then unsupported "set:memory"
   let(es,t) <-f es (t.relaid (es.map (·.1)) n)
   storeSet a es t) Q E s:=by
 refine AB (B_ ho hd hfit ?_);dsimp only;have hm512:m<=511:=by rcases hmm with e | e | e | e<;>omega
 rw[hm,AS (by rw[sizeLine_eq];omega)];rw[hf];have hs:(es.map (·.1)).size<=m:=by rw[GO];omega
 obtain⟨place,order,e1,e2,e3⟩:=Wo hmm t.finger (t.movedTo (SetTable.sizeAbove n-1)) t.led t.plain (es.map (·.1)) hs;have e0:t.relaid (es.map (·.1)) n=some ({ mask:=m,place,dummies:=#[],finger:=t.finger,led:=t.led,moves:=t.movedTo (SetTable.sizeAbove n-1),plain:=t.plain },order):=by
  unfold SetTable.relaid;rw[hm];rw[hm]at e1;exact e1
 rw[e0];dsimp only;have hp:(order.filterMap (es[·]?)).toList.Perm es.toList:=Ud (by rw[GO]at e3;exact e3);have hz:(order.filterMap (es[·]?)).size=es.size:=by rw[<-AQ,hp.length_eq,AQ]
 rw[AS (by rw[hz];simp)];refine AB (AD ?_);dsimp only;refine GR ho hd (h _ _ hp ⟨rfl,?_,hmm,?_⟩) (by rw[hz,sizeLine_eq];omega)
 .rw[hz,e2,GO]
 .rw[hz];exact hsz
theorem Ep{h:Heap}{a:Addr}{o:Obj}{es:Array (Int×Value)}{ep:Nat}{t:SetTable}(ho:h.get? a=some o)(hd:o.data = .set es ep t)(es':Array (Int×Value))(t':SetTable) :
  (h.update a (Obj.putSet es' t')).get? a=some { o with data:=.set es' (ep+1) t' }:=by
 have:=CF (Obj.putSet es' t') ho (by rw[putSet_of es' t' hd];rfl);rw[putSet_of es' t' hd]at this;exact this
theorem Nb{a:Addr}{ks:List (List K×Addr)}{kx:List K}{px:Addr}{Q:Bool->Shared->Prop}(hr:(tupleKind knd).room A)(hF:Flat knd)(hB:Scan knd)(hS:TSet knd s.heap a ks)
  (hks:∀q∈ks,(tupleKind knd).is s.heap q.1 q.2) (hx:(tupleKind knd).is s.heap kx px) (hne:∀q∈ks,q.1≠kx) (hl:ks.length+1<=300)
  (h:∀h',Heap.SameBut a s.heap h'->TSet knd h' a (ks ++ [(kx,px)])->Q true { s with heap:=h' }) :
  wpAny (model prog w) A (setAddHashed a (.ref px) ((tupleKind knd).hash kx)) Q E s:=by
 obtain⟨o,es,ep,t,ho,hex,hd,hE,hT⟩:=hS;have hsz:es.size=ks.length:=by
  have:=hE.length_eq;rw[AQ,AA]at this;exact this
 unfold setAddHashed setAddHashedIn;refine BU ?_;refine AB (B_ ho hd hT.fits ?_);dsimp only;rw[Ps];simp only[BF,CI];refine AB (Ba hr hF ho hd hE hT hks hx hne fun j hj=>?_);dsimp only;refine AB (B_ ho hd hT.fits ?_);dsimp only;rw[zBm hT.dm];dsimp only;have hb:=Tn t.place j;have hb':SetTable.below t.place j<=es.size:=by rw[hT.pl]at hb;exact hb
 have hrm:=hT.rm;have hmm:=hT.mm;have hsz1:=g7 es (SetTable.below t.place j) ((tupleKind knd).hash kx,Value.ref px) hb';have hpm:=Ei es (SetTable.below t.place j) ((tupleKind knd).hash kx,Value.ref px) hb';have hE1:∀es':Array (Int×Value),es'.toList.Perm (SetTable.insertAt es (SetTable.below t.place j) ((tupleKind knd).hash kx,Value.ref px)).toList->Els knd es' (ks ++ [(kx,px)]):=fun es' hp=>by
  unfold Els;rw[AL];exact hp.trans (hpm.trans (hE.append_right _))
 have key:∀t1:SetTable,t1.dummies = #[]->t1.mask=t.mask->t1.place.size=es.size+1->wpAny (model prog w) A (do
   storeSet a (SetTable.insertAt es (SetTable.below t.place j) ((tupleKind knd).hash kx,Value.ref px)) t1
   if(!false&&t1.tooFull)=true then do
    setRelay a (SetTable.grown (es.size+1))
    pure true
   else pure true) Q E s:=by
  intro t1 d1 m1 p1;refine AB (GR ho hd ?_ (by rw[hsz1,sizeLine_eq];omega));have ho1:=Ep ho hd (SetTable.insertAt es (SetTable.below t.place j) ((tupleKind knd).hash kx,Value.ref px)) t1;have sb1:=DC s.heap a (Obj.putSet (SetTable.insertAt es (SetTable.below t.place j) ((tupleKind knd).hash kx,Value.ref px)) t1);have htf:t1.tooFull=decide ((es.size+1)*5 ≥ t.mask*3):=by
   unfold SetTable.tooFull SetTable.fill;rw[d1,m1,p1];rfl
  rw[htf,GQ,Bool.true_and];by_cases hfull:(es.size+1)*5 ≥ t.mask*3
  .rw[AG hfull,AY rfl];have hcase:∃m,SetTable.sizeAbove (SetTable.grown (es.size+1))=m+1/\Msk m/\(es.size+1)*5<m*3:=by
    have hg:SetTable.grown (es.size+1) =(es.size+1)*4:=by
     unfold SetTable.grown;rw[AS (by omega)]
    rw[hg];rcases hmm with e | e | e | e
    .have:es.size+1=5:=by omega
     rw[this];exact⟨31,zFd,.inr (.inl rfl),by decide⟩
    .have:es.size+1=19:=by omega
     rw[this];exact⟨127,zFg,.inr (.inr (.inl rfl)),by decide⟩
    .have:es.size+1=77:=by omega
     rw[this];exact⟨511,zDt,.inr (.inr (.inr rfl)),by decide⟩
    .omega
   obtain⟨m,c1,c2,c3⟩:=hcase;refine AB ?_;unfold setRelay;refine Vh (fun _ _=>rfl) (s:={ s with heap:=_ }) ho1 rfl d1 ?_ c1 c2 (by rw[hsz1];exact c3) fun es' t' hp ht=>?_
   .unfold SetTable.fits SetTable.fill;rw[hsz1,p1,d1,m1];have h300:es.size+1+0<=t.mask:=by rcases hmm with e | e | e | e<;>omega
    simp;omega
   .refine AD (h _ (sb1.trans (DC _ a _)) ?_);exact⟨_,es',_,t',Ep ho1 rfl es' t',hex,rfl,hE1 es' hp,ht⟩
  .rw[BC hfull,AS (by decide)];refine AD (h _ sb1 ⟨_,_,_,t1,ho1,hex,rfl,hE1 _ (.refl _),⟨d1,?_,?_,?_⟩⟩)
   .rw[p1,hsz1]
   .rw[m1];exact hmm
   .rw[m1,hsz1];omega
 have hps:(SetTable.insertAt t.place (SetTable.below t.place j) j).size=es.size+1:=by rw[g7 _ _ _ hb,hT.pl]
 cases hpl:t.plain with
 | true =>
  simp only[EL];refine AB (hbv hB hx fun b=>?_);cases b with
  | true =>
   simp only[EL];exact key _ hT.dm rfl hps
  | false =>
   simp only[BF,CI];exact key _ hT.dm rfl hps
 | false =>
  simp only[BF,CI];refine AB (AD ?_);simp only[EL];exact key _ hT.dm rfl hps
theorem call_add{a:Addr}{ks:List (List K×Addr)}{kx:List K}{px:Addr}{Q:Value->Shared->Prop}(hr:A.units+1<cLine)(hF:Flat knd)(hB:Scan knd)(hS:TSet knd s.heap a ks)
  (hks:∀q∈ks,(tupleKind knd).is s.heap q.1 q.2) (hx:(tupleKind knd).is s.heap kx px) (hne:∀q∈ks,q.1≠kx) (hl:ks.length+1<=300)
  (h:∀h',Heap.SameBut a s.heap h'->TSet knd h' a (ks ++ [(kx,px)])->Q .none { s with heap:=h',toks:=s.toks +(tupleKind knd).draws kx }) :
  wpAny (model prog w) A (call (.builtin "set.add") [.ref a,.ref px]) Q E s:=by
 refine CS F.slot_set_add hS.typeIs F.entry_set_add ?_ (F.args_set_add_2 _ _);unfold Builtin.«set.add» Builtin.Frozenset.oneOther;simp only[List.isEmpty_nil,bind_assoc];unfold Builtin.Frozenset.addrOf setAdd;refine AB (AD ?_)
 try dsimp only
 refine AB (AD ?_)
 try dsimp only
 refine AB ?_;refine BU ?_;refine AB ((tupleKind knd).pyHash ?hroom hx ?_)
 case hroom=>exact hr
 refine Nb (s:={ s with toks:=s.toks +(tupleKind knd).draws kx }) ?hroom hF hB hS hks hx hne hl fun h' hsb hS'=>?_
 case hroom=>exact hr
 show wpAny _ _ (ret Value.none) _ _ _;exact AD ⟨_,rfl,h h' hsb hS'⟩
end
theorem Lq:Manifest.owners.lookup (String.ofList ['r','o','t','a','r','e','t','i','_','t','e','s'].reverse)=some Manifest.sig_set_iterator:=by kernel_rfl
theorem slot_si_next:Slot "set_iterator" "__next__" "set_iterator.__next__" :=
 .of (owner := "set_iterator") (n := "__next__") (by rw[typeLookup_type,builtinLookup_eq_fast];kernel_rfl) (by decide +kernel) (by decide +kernel) (by decide +kernel) (by first | exact .inl (by decide +kernel) | exact .inr (by decide +kernel)) (by rw[isSubtype_type];kernel_rfl)
theorem d0:entryFor table "set_iterator.__next__" = some Builtin.«set_iterator.__next__»:=entryFor_of_tree (by kernel_rfl)
theorem u0(a:Value):argsOk "set_iterator.__next__" ⟨[a],[]⟩:=by
 unfold argsOk;rw[signature?_of (id := "set_iterator.__next__") (n:=['_','_','t','x','e','n','_','_']) (o:=['r','o','t','a','r','e','t','i','_','t','e','s']) (by kernel_rfl) Lq];kernel_rfl
theorem u9:Slot "set_iterator" "__iter__" "set_iterator.__iter__" :=
 .of (owner := "set_iterator") (n := "__iter__") (by rw[typeLookup_type,builtinLookup_eq_fast];kernel_rfl) (by decide +kernel) (by decide +kernel) (by decide +kernel) (by first | exact .inl (by decide +kernel) | exact .inr (by decide +kernel)) (by rw[isSubtype_type];kernel_rfl)
theorem Ga(a:Value):argsOk "set_iterator.__iter__" ⟨[a],[]⟩:=by
 unfold argsOk;rw[signature?_of (id := "set_iterator.__iter__") (n:=['_','_','r','e','t','i','_','_']) (o:=['r','o','t','a','r','e','t','i','_','t','e','s']) (by kernel_rfl) Lq];kernel_rfl
theorem Fb:entryFor table "set_iterator.__iter__" = some Builtin.«dict_keyiterator.__iter__» :=
 entryFor_alias (id' := "dict_keyiterator.__iter__") (by kernel_rfl) (by first | rfl | decide +kernel | (unfold String.splitOn;simp +decide [String.splitOnAux])) (by decide +kernel) (by kernel_rfl)
theorem Hi:entryFor table "set.__iter__" = some Builtin.«frozenset.__iter__» :=
 entryFor_alias (id' := "frozenset.__iter__") (by kernel_rfl) rfl (by decide +kernel) (by kernel_rfl)
theorem zDe:typeLookup (.type "set") "__len__" = pure (some (.builtin "set.__len__")):=by rw[typeLookup_type,builtinLookup_eq_fast];kernel_rfl
section
variable{prog:Program}{w:World}{A:Around}{E:Value->Shared->Prop}{s:Shared}
theorem Qg{n:Nat}{Q:Nat->Shared->Prop}(hn:n≠0)(h:∀i d,i<n->Q i { s with drawn:=d }):wpAny (model prog w) A (choose .order n) Q E s:=fun Γ p hΓ=>by
 unfold choose;rw[Sem.wp_choose];exact⟨hn,h _ _ (Nat.mod_lt _ (Nat.pos_of_ne_zero hn))⟩
theorem erase_perm{α:Type}:∀{l:List α} {i:Nat} {x:α},l[i]?=some x->(x::l.eraseIdx i).Perm l
 | [],i,x,h=>by simp at h
 | y::l,0,x,h=>by
  have:y=x:=by simpa using h
  subst this;exact .refl _
 | y::l,i+1,x,h=>by
  have h':l[i]?=some x:=by simpa using h
  exact(List.Perm.swap y x _).trans ((erase_perm h').cons y)
theorem Gz{α:Type}{l:List α}{i:Nat}{x:α}(h:l[i]?=some x):(l.eraseIdx i).length+1=l.length:=(erase_perm h).length_eq
theorem Pb{α:Type}:∀(n:Nat) (l:List α) (s:Shared) (Q:List α->Shared->Prop),l.length=n->(∀l' d,l'.Perm l->Q l' { s with drawn:=d })->wpAny (model prog w) A (drawOrder n l) Q E s
 | 0,l,s,Q,hl,h=>by
  unfold drawOrder;obtain rfl:=GM.mp hl;exact AD (h [] s.drawn (.refl _))
 | n+1,[],s,Q,hl,h=>by simp at hl
 | n+1,x::xs,s,Q,hl,h=>by
  unfold drawOrder;refine AB (Qg (by simp) fun i d hi=>?_);have e:(x::xs)[i]?=some ((x::xs)[i]):=AN hi;rw[e];dsimp only;have hp:=erase_perm e;refine AB (Pb n _ _ _ (by have:=Gz e;omega) fun l' d' hp'=>?_);exact AD (h _ d' ((hp'.cons _).trans hp))
theorem Pm{α:Type}(nx:Nat->Nat):∀(f k:Nat) (left:List α) (out:Array α),left.length=f->(pickOrder.go nx f k left out).toList.Perm (out.toList++left)
 | 0,k,left,out,h=>by
  obtain rfl:=GM.mp h;unfold pickOrder.go;simp
 | f+1,k,left,out,h=>by
  have hlt:nx k % left.length<left.length:=Nat.mod_lt _ (by omega);have e:left[nx k % left.length]?=some left[nx k % left.length]:=AN hlt;unfold pickOrder.go;rw[e];dsimp only;have hp:=erase_perm e;refine(Pm nx f (k+1) _ _ (by have:=Gz e;omega)).trans ?_;rw[CY,BI];exact hp.append_left _
theorem As{α:Type}(nx:Nat->Nat)(xs:Array α):(pickOrder nx xs).toList.Perm xs.toList:=by
 unfold pickOrder;have:=Pm nx xs.size 0 xs.toList #[] (AQ ..);simpa using this
structure SAt(w:World)(h:Heap)(a:Addr)(o:Obj)(es:Array (Int×Value))(ep:Nat)(t:SetTable):Prop where
 ho:h.get? a=some o
 ex:o.ExactSet
 hd:o.data = .set es ep t
 ft:t.fits es.size=true
 led:t.led=!(w.params.followText "set-order")
 pln:t.plain=true->es.size=0
 few:es.size<4096
def sIt(first:Value)(i n ep:Nat)(a:Addr):Obj:={ cls:=.type "set_iterator",data:=.fields #[first,rawInt i,.ref a,rawInt n,rawInt ep] }
theorem P3{Q:Bool->Shared->Prop}(h:Q (w.params.followText "set-order") s):wpAny (model prog w) A setsByText Q E s:=by
 unfold setsByText;exact AB (FX (AD h))
variable{a it:Addr}{o:Obj}{es:Array (Int×Value)}{ep:Nat}{t:SetTable}
theorem Af{i sl:Nat}{r:Option (Value×Nat)}{Q:Option Value->Shared->Prop}(hh:A.handled=none)(S:SAt w s.heap a o es ep t)(hne:it≠a)(hi:s.heap.get? it=some (sIt (rawInt sl) i es.size ep a))
  (hin:∀(Q':Option (Value×Nat)->Shared->Prop) (A':Around) (E':Value->Shared->Prop),Q' r s->wpAny (model prog w) A' (setNext a sl i ep) Q' E' s)
  (hQ1:∀x nx h',r=some (x,nx)->h'.get? it=some (sIt (rawInt nx) (i+1) es.size ep a)->Heap.SameBut it s.heap h'->Q (some x) { s with heap:=h' })
  (hQ0:r=none->∀h',Heap.ExtBut it s.heap h'->Q none { s with heap:=h' }):wpAny (model prog w) A (pyNext (.ref it)) Q E s:=by
 have hT:s.TypeIs (.ref it) "set_iterator":=⟨_,hi,rfl⟩;unfold pyNext;refine AB (G_ (DT (name:=Str.ofString "__next__") hT slot_si_next (CS slot_si_next hT d0 ?_ (u0 _))));unfold Builtin.«set_iterator.__next__»;refine AB (EJ (a:=(Value.ref it,[])) rfl ?_);dsimp only;refine AB (wpAny_fieldsOf hi rfl ?_);dsimp only[rawInt];refine AB (wpAny_setEntries_of S.ho S.hd S.ft ?_);rw[AS (by simp)];simp only[DK];refine AB (hin _ _ _ ?_);cases r with
 | some p =>
  obtain⟨x,nx⟩:=p;dsimp only;refine AB (EX hi rfl (by simp) ?_);have h1:=CF (Obj.mapFields (·.setIfInBounds 0 (rawInt (nx:Nat)))) hi rfl;refine AB (EX h1 rfl (by simp) ?_);have h2:=CF (Obj.mapFields (·.setIfInBounds 1 (rawInt ((i:Int)+1)))) h1 rfl;refine AD ⟨x,rfl,AD (hQ1 x nx _ rfl ?_ ((DC ..).trans (DC ..)))⟩;exact h2
 | none =>
  dsimp only;refine AB (EX hi rfl (by simp) ?_);refine AB ?_;simp only[newExc,newTuple];refine AB (CP ?_ (by size_fits));refine AB (m:=firstArgMember _ _) (EJ (a:=Value.none) (by first | rfl | (simp only[firstArgMember];rfl)) ?_);refine CP ?_ (by size_fits);simp only[raiseNew];refine AB (wpAny_handled ?_)
  first | rw[show A.in1.handled=none from hh] | rw[hh]
  refine AB (AD (wpAny_throw ?_));refine AB (GW (T := "StopIteration") (b:=true) ⟨_,BE _ rfl,rfl⟩ isSubtype_stop ?_);exact AD (hQ0 rfl _ ((GX (GX (fun b o hb e=>(BZ _ _ (Ne.symm hb)).trans e) _)) _))
end
def zAv(ps:List Nat):Obj:={ cls:=.type "tuple",data:=.seq (ps.map fun(i:Nat)=>rawInt i).toArray }
section
variable{prog:Program}{w:World}{A:Around}{E:Value->Shared->Prop}{s:Shared}{a it T:Addr}{o:Obj}{es:Array (Int×Value)}{ep:Nat}{t:SetTable}
theorem Lw{i:Nat}{ps:List Nat}{Q:Option Value->Shared->Prop}(hh:A.handled=none)(S:SAt w s.heap a o es ep t)(hi:s.heap.get? it=some (sIt (.ref T) i es.size ep a))(hT:s.heap.get? T=some (zAv ps))
  (hQ1:∀p x h',ps[i]?=some p->es[p]?=some x->h'.get? it=some (sIt (.ref T) (i+1) es.size ep a)->Heap.SameBut it s.heap h'->Q (some x.2) { s with heap:=h' }) (hps:∀p∈ps,p<es.size)
  (hQ0:ps.length<=i->∀h',Heap.ExtBut it s.heap h'->Q none { s with heap:=h' }):wpAny (model prog w) A (pyNext (.ref it)) Q E s:=by
 have hTy:s.TypeIs (.ref it) "set_iterator":=⟨_,hi,rfl⟩;unfold pyNext;refine AB (G_ (DT (name:=Str.ofString "__next__") hTy slot_si_next (CS slot_si_next hTy d0 ?_ (u0 _))));unfold Builtin.«set_iterator.__next__»;refine AB (EJ (a:=(Value.ref it,[])) rfl ?_);dsimp only;refine AB (wpAny_fieldsOf hi rfl ?_);dsimp only[rawInt];refine AB (wpAny_setEntries_of S.ho S.hd S.ft ?_);rw[AS (by simp)];simp only[DK];refine AB (CU hT rfl ?_);dsimp only;cases e:ps[i]? with
 | some p =>
  have e':(ps.map fun(i:Nat)=>Value.int (i:Int) 0).toArray[i]?=some (.int (p:Int) 0):=by
   rw[ED,AF,e];rfl
  have e'':(ps.map fun(i:Nat)=>rawInt i).toArray[i]?=some (.int (p:Int) 0):=e';rw[e''];have hp:p<es.size:=hps p (AK e);obtain⟨x,hx⟩:∃x,es[p]?=some x:=⟨es[p],CT.mpr ⟨hp,rfl⟩⟩;dsimp only;simp only[DK];unfold setNextDrawn;refine AB (AB (B_ S.ho S.hd S.ft ?_));dsimp only;rw[AS (by simp),hx];dsimp only;refine AD ?_;refine AB (EX hi rfl (by simp) ?_);have h2:=CF (Obj.mapFields (·.setIfInBounds 1 (rawInt ((i:Int)+1)))) hi rfl;exact AD ⟨x.2,rfl,AD (hQ1 p x _ e hx h2 (DC ..))⟩
 | none =>
  have e'':(ps.map fun(i:Nat)=>rawInt i).toArray[i]?=none:=by
   rw[ED,AF,e];rfl
  rw[e''];dsimp only;refine AB (EX hi rfl (by simp) ?_);have h1:=CF (Obj.mapFields (·.setIfInBounds 0 (rawInt 0))) hi rfl;refine AB (EX h1 rfl (by simp) ?_);refine AB ?_;simp only[newExc,newTuple];refine AB (CP ?_ (by size_fits));refine AB (m:=firstArgMember _ _) (EJ (a:=Value.none) (by first | rfl | (simp only[firstArgMember];rfl)) ?_);refine CP ?_ (by size_fits);simp only[raiseNew];refine AB (wpAny_handled ?_);rw[show A.in1.handled=none from hh];refine AB (AD (wpAny_throw ?_));refine AB (GW (T := "StopIteration") (b:=true) ⟨_,BE _ rfl,rfl⟩ isSubtype_stop ?_);refine AD (hQ0 (FY.mp e) _ (GX (GX (fun b ob hb eb=>?_) _) _));exact(BZ _ _ (Ne.symm hb)).trans ((BZ _ _ (Ne.symm hb)).trans eb)
def zEm(w:World)(a T:Addr)(es:Array (Int×Value))(ep:Nat)(t:SetTable)(order:List Value)(i:Nat)(h:Heap)(first:Value):Prop :=
 (w.params.followText "set-order" = true/\first=rawInt (0:Nat)/\order =(pickOrder (w.params.setOrder a ep) es).toList.map (·.2)) \/
 (w.params.followText "set-order" = false/\∃ps:List Nat,first = .ref T/\h.get? T=some (zAv ps)/\ps.Perm (List.range es.size)/\order=ps.filterMap fun p=>es[p]?.map (·.2)) \/
 (w.params.followText "set-order" = false/\es.size<=1/\order=es.toList.map (·.2)/\∃sl:Nat,first=rawInt sl/\(i=0->sl=0)/\(i=1->∃j,t.place = #[j]/\sl=j+1))
def SSt(w:World)(a it T:Addr)(o:Obj)(es:Array (Int×Value))(ep:Nat)(t:SetTable)(order:List Value)(i:Nat)(h:Heap):Prop :=
 SAt w h a o es ep t/\∃first,h.get? it=some (sIt first i es.size ep a)/\zEm w a T es ep t order i h first
theorem SAt.at{h h':Heap}(S:SAt w h a o es ep t)(e:h'.get? a=some o):SAt w h' a o es ep t:=⟨e,S.ex,S.hd,S.ft,S.led,S.pln,S.few⟩
theorem zAi(j:Nat):SetTable.below #[j] 0=0:=by simp[SetTable.below,SetTable.below.go]
theorem zBv(j:Nat):SetTable.below #[j] (j+1)=1:=by simp[SetTable.below,SetTable.below.go]
theorem Ui(S:SAt w s.heap a o es ep t):t.place.size=es.size:=by
 have:=S.ft;unfold SetTable.fits at this;rw[CD]at this;simpa using this.1
theorem Qr(hh:A.handled=none){order:List Value}(hia:it≠a)(hiT:it≠T):Walks prog w A it [it,a,T] [it] es.size (fun i v=>order[i]?=some v) (SSt w a it T o es ep t order) where
 sub:=fun b hb=>by simp at hb;simp[hb]
 frame:=fun i h h' ⟨S,first,hi,hm⟩ k=>by
  refine⟨S.at (k a (by simp) _ S.ho),first,k it (by simp) _ hi,?_⟩;rcases hm with z | ⟨z1,ps,z2,z3,z4,z5⟩ | z
  .exact .inl z
  .exact .inr (.inl ⟨z1,ps,z2,k T (by simp) _ z3,z4,z5⟩)
  .exact .inr (.inr z)
 item:=fun i s Q E hlt ⟨S,first,hi,hm⟩ hQ=>by
  have keep:∀h',Heap.SameBut it s.heap h'->∀b ob,b∉[it]->s.heap.get? b=some ob->h'.get? b=some ob:=fun h' hs b ob hb e=>(hs.2 b (by simpa using hb)).trans e;rcases hm with⟨z1,rfl,z3⟩ | ⟨z1,ps,rfl,z3,z4,z5⟩ | ⟨z1,z2,z3,sl,rfl,z5,z6⟩
  .have hpk:=As (w.params.setOrder a ep) es;have hlen:(pickOrder (w.params.setOrder a ep) es).size=es.size:=by rw[<-AQ,hpk.length_eq,AQ]
   obtain⟨x,hx⟩:∃x,(pickOrder (w.params.setOrder a ep) es)[i]?=some x:=⟨_,CT.mpr ⟨by rw[hlen];exact hlt,rfl⟩⟩;refine Af (r:=some (x.2,0)) hh S hia hi (fun Q' A' E' q=>?_) (fun y nx h' e1 e2 hs=>?_) (fun e=>nomatch e)
   .unfold setNext setWalk;refine AB (B_ S.ho S.hd S.ft ?_);dsimp only;refine AB (P3 ?_);rw[z1,AY rfl,AS (by simp)];refine AB (AB (B_ S.ho S.hd S.ft ?_));dsimp only;refine AB (P3 ?_);rw[z1,AY rfl];refine AB (FX (AD (AD ?_)));show Q' (((pickOrder (w.params.setOrder a ep) es)[i]?).map fun e=>(e.2,0)) s;rw[hx];exact q
   .cases e1;have:=hQ x.2 h' s.toks (by rw[z3,AF,BL,hx];rfl) ⟨S.at ((hs.2 a (Ne.symm hia)).trans S.ho),_,e2,.inl ⟨z1,rfl,z3⟩⟩ (keep h' hs);exact this
  .refine Lw hh S hi z3 (fun p x h' e1 e2 e3 hs=>?_) (fun p hp=>DE.mp (z4.mem_iff.mp hp)) (fun hle=>?_)
   .have hall:∀q∈ps,(es[q]?.map (·.2)).isSome=true:=fun q hq=>by
     have:q<es.size:=DE.mp (z4.mem_iff.mp hq);rw[CT.mpr ⟨this,rfl⟩];rfl
    refine hQ x.2 h' s.toks ?_ ⟨S.at ((hs.2 a (Ne.symm hia)).trans S.ho),_,e3,.inr (.inl ⟨z1,ps,rfl,(hs.2 T (Ne.symm hiT)).trans z3,z4,z5⟩)⟩ (keep h' hs);have gen:∀(l:List Nat) (i p:Nat),(∀q∈l,(es[q]?.map (·.2)).isSome=true)->l[i]?=some p->(l.filterMap fun p=>es[p]?.map (·.2))[i]?=es[p]?.map (·.2):=by
     intro l
     induction l with
     | nil=>intro i p _ e;simp at e
     | cons q r ih =>
      intro i p hl e;obtain⟨v,hv⟩:=DB.mp (hl q (AW ..));rw[DI,hv];dsimp only;cases i with
      | zero =>
       have:q=p:=by simpa using e
       subst this;simpa using hv.symm
      | succ i=>simpa using ih i p (fun q hq=>hl q (AO _ hq)) (by simpa using e)
    rw[z5,gen ps i p hall e1,e2];rfl
   .have:=z4.length_eq;rw[DY]at this;omega
  .have h0:i=0:=by omega
   have h1:es.size=1:=by omega
   obtain⟨j,hj⟩:∃j,t.place = #[j]:=Array.size_eq_one_iff.mp ((Ui S).trans h1);obtain⟨x,hx⟩:∃x,es = #[x]:=Array.size_eq_one_iff.mp h1;have hs0:=z5 h0;subst hs0;have hx0:es[0]?=some x:=by rw[hx];rfl
   refine Af (r:=some (x.2,j+1)) hh S hia hi (fun Q' A' E' q=>?_) (fun y nx h' e1 e2 hs=>?_) (fun e=>nomatch e)
   .unfold setNext;refine AB (B_ S.ho S.hd S.ft ?_);dsimp only;refine AB (P3 ?_);rw[z1,AS (by decide)];show wpAny _ _ (if(!t.plain&&decide (es.size>1))=true then _ else _) _ _ _;rw[AS (by rw[h1];simp)];show wpAny _ _ (do (if(!t.led&&!es.isEmpty)=true then unsupported "set:maker-not-led" else pure ());_) _ _ _;rw[S.led,z1,AS (by simp)];refine AB (AD ?_);rw[hj,zAi,hx0];exact AD q
   .cases e1;refine hQ x.2 h' s.toks (by rw[z3,h0,hx];rfl) ⟨S.at ((hs.2 a (Ne.symm hia)).trans S.ho),_,e2,.inr (.inr ⟨z1,z2,z3,j+1,rfl,fun e=>by omega,fun _=>⟨j,hj,rfl⟩⟩)⟩ (keep h' hs)
 done:=fun s Q E ⟨S,first,hi,hm⟩ hQ=>by
  have keep:∀h',Heap.ExtBut it s.heap h'->∀b ob,b∉[it]->s.heap.get? b=some ob->h'.get? b=some ob:=fun h' hs b ob hb e=>hs b ob (by simpa using hb) e;rcases hm with⟨z1,rfl,z3⟩ | ⟨z1,ps,rfl,z3,z4,z5⟩ | ⟨z1,z2,z3,sl,rfl,z5,z6⟩
  .have hpk:=As (w.params.setOrder a ep) es;have hlen:(pickOrder (w.params.setOrder a ep) es).size=es.size:=by rw[<-AQ,hpk.length_eq,AQ]
   refine Af (r:=none) hh S hia hi (fun Q' A' E' q=>?_) (fun y nx h' e1=>nomatch e1) (fun _ h' hs=>hQ h' s.toks (keep h' hs));unfold setNext setWalk;refine AB (B_ S.ho S.hd S.ft ?_);dsimp only;refine AB (P3 ?_);rw[z1,AY rfl,AS (by simp)];refine AB (AB (B_ S.ho S.hd S.ft ?_));dsimp only;refine AB (P3 ?_);rw[z1,AY rfl];refine AB (FX (AD (AD ?_)));show Q' (((pickOrder (w.params.setOrder a ep) es)[es.size]?).map fun e=>(e.2,0)) s;rw[ER (by rw[hlen];exact Nat.le_refl _)];exact q
  .have hl:=z4.length_eq;rw[DY]at hl;refine Lw hh S hi z3 (fun p x h' e1 e2 e3 hs=>?_) (fun p hp=>DE.mp (z4.mem_iff.mp hp)) (fun _ h' hs=>hQ h' s.toks (keep h' hs));have:=(AU.mp e1).1;omega
  .refine Af (r:=none) hh S hia hi (fun Q' A' E' q=>?_) (fun y nx h' e1=>nomatch e1) (fun _ h' hs=>hQ h' s.toks (keep h' hs));unfold setNext;refine AB (B_ S.ho S.hd S.ft ?_);dsimp only;refine AB (P3 ?_);rw[z1,AS (by decide)];show wpAny _ _ (if(!t.plain&&decide (es.size>1))=true then _ else _) _ _ _;rw[AS (by simp;intro _;omega)];show wpAny _ _ (do (if(!t.led&&!es.isEmpty)=true then unsupported "set:maker-not-led" else pure ());_) _ _ _;rw[S.led,z1,AS (by simp)];refine AB (AD ?_);have hnone:es[SetTable.below t.place sl]?=none:=by
    by_cases h0:es.size=0
    .exact ER (by rw[h0];exact BT _)
    .obtain⟨j,hj,rfl⟩:=z6 (by omega);rw[hj,zBv];exact ER (by omega)
   rw[hnone];exact AD q
 self:=fun i s Q E ⟨S,first,hi,hm⟩ h=>by
  have hT:s.TypeIs (.ref it) "set_iterator":=⟨_,hi,rfl⟩;refine wpAny_pyIter_slot hT u9 (CS u9 hT Fb ?_ (Ga _));show wpAny _ _ (ret (.ref it)) _ _ s;exact AD ⟨_,rfl, "set_iterator",_,hT,slot_si_next.lookup,h⟩
theorem Tr{Q:Value->Shared->Prop}(S:SAt w s.heap a o es ep t)
  (h:∀(it T:Addr) (order:List Value) (h':Heap) (d:Drawn),it≠a->it≠T->(T=a\/s.heap.objs.size<=T)->s.heap.objs.size<=it->(∀b ob,s.heap.get? b=some ob->h'.get? b=some ob)->order.Perm (es.toList.map (·.2))->SSt w a it T o es ep t order 0 h'->(∀b∈[it,a,T],b<h'.objs.size) ->
   (∀A':Around,A'.handled=none->Walks prog w A' it [it,a,T] [it] es.size (fun i v=>order[i]?=some v) (SSt w a it T o es ep t order))->Q (.ref it) { s with heap:=h',drawn:=d }):wpAny (model prog w) A (pyIter (.ref a)) Q E s:=by
 have hT:s.TypeIs (.ref a) "set":=⟨_,S.ho,S.ex.1⟩;have ha:=AJ S.ho;refine wpAny_pyIter_slot hT F.slot_set_iter (CS F.slot_set_iter hT Hi ?_ (F.args_set_iter_1 _));unfold Builtin.«frozenset.__iter__» Builtin.Frozenset.slot0 Builtin.Frozenset.sizeOf;refine AB (AB (EJ (a:=(Value.ref a,[])) rfl ?_));dsimp only;refine EJ (a:=a) rfl ?_;refine AB (AB (wpAny_setEntries_of S.ho S.hd S.ft (AD ?_)));have fin:∀(first:Value) (T:Addr) (order:List Value) (h1:Heap) (d:Drawn),(∀b ob,s.heap.get? b=some ob->h1.get? b=some ob)->s.heap.objs.size<=h1.objs.size->order.Perm (es.toList.map (·.2))->T<h1.objs.size->(T=a\/s.heap.objs.size<=T) ->
   (∀h2:Heap,(∀b ob,h1.get? b=some ob->h2.get? b=some ob)->zEm w a T es ep t order 0 h2 first) ->
   wpAny (model prog w) A.in1 (do let e <-setEpoch a;let x <-newFields "set_iterator" [first,rawInt 0,.ref a,rawInt (es.size:Nat),rawInt (e:Nat)];ret x) (fun r s'=>∃v,r=Fin.done (Flow.ret v)/\∃T' r,s'.TypeIs v T'/\typeLookup (Value.type T') (Str.ofString "__next__")=pure (some r)/\Q v s') E { s with heap:=h1,drawn:=d }:=by
  intro first T order h1 d k hsz hp hTl hTa hm
  refine AB (wpAny_setEpoch_of (s:={ s with heap:=h1,drawn:=d }) (k a o S.ho) S.hd S.ft ?_);refine AB (CP ?_);have hg:(h1.push (sIt first 0 es.size ep a)).get? h1.objs.size=some (sIt first 0 es.size ep a):=BE _ rfl;have k2:∀b ob,h1.get? b=some ob->(h1.push (sIt first 0 es.size ep a)).get? b=some ob:=fun b ob e=>AE _ e;have hia:h1.objs.size≠a:=fun e=>absurd (BH ha hsz) (by rw[<-e];exact CK _);have hiT:h1.objs.size≠T:=fun e=>absurd hTl (by rw[<-e];exact CK _);refine AD ⟨.ref h1.objs.size,rfl, "set_iterator",_,⟨_,hg,rfl⟩,slot_si_next.lookup,?_⟩;refine h h1.objs.size T order (h1.push (sIt first 0 es.size ep a)) d hia hiT hTa hsz (fun b ob e=>k2 b ob (k b ob e)) hp ⟨S.at (k2 a o (k a o S.ho)),first,hg,hm _ k2⟩ (fun b hb=>?_) fun A' hh=>Qr hh hia hiT;rw[CB];simp only[AX,AM,or_false]at hb;rcases hb with rfl | rfl | rfl
  .exact ET _
  .exact EM (BH ha hsz)
  .exact EM hTl
 unfold setDrawn;refine AB (AB (B_ S.ho S.hd S.ft ?_));dsimp only;refine AB (P3 (AD ?_));cases hb:w.params.followText "set-order" with
 | true =>
  show wpAny _ _ (if(!true &&(!t.plain&&decide (es.size>1)))=true then _ else _) _ _ _;rw[EF,EV,AS (by decide)];refine AB (AD ?_);exact fin _ a _ s.heap s.drawn (fun _ _ e=>e) (Nat.le_refl _) ((As _ es).map _) ha (.inl rfl) fun h2 _=>.inl ⟨hb,rfl,rfl⟩
 | false =>
  show wpAny _ _ (if(!false &&(!t.plain&&decide (es.size>1)))=true then _ else _) _ _ _;by_cases hdr:(!t.plain&&decide (es.size>1))=true
  .rw[GQ,Bool.true_and,AY hdr];refine AB (Pb es.size (List.range es.size) s _ (DY ..) fun ps d hp=>AB ?_);unfold newTuple;refine CP ?_ ?_
   .have hg:(s.heap.push (zAv ps)).get? s.heap.objs.size=some (zAv ps):=BE _ rfl;refine fin _ s.heap.objs.size (ps.filterMap fun p=>es[p]?.map (·.2)) (s.heap.push (zAv ps)) d (fun b ob e=>AE _ e) (by rw[CB];exact C_ _) ?_ (by rw[CB];exact ET _) (.inr (Nat.le_refl _)) fun h2 k2=>.inr (.inl ⟨hb,ps,rfl,k2 _ _ hg,hp,rfl⟩);refine(hp.filterMap _).trans (List.Perm.of_eq ?_);have:=filterMap_getElem?_range es;rw[<-this,List.map_filterMap]
   .have h1:=hp.length_eq;have h2:=S.few;rw[DY]at h1;show(List.map _ ps).toArray.size<=sizeLine;rw[A_,AA,sizeLine_eq];omega
  .rw[GQ,Bool.true_and,AS hdr];refine AB (AD ?_);have hle:es.size<=1:=by
    by_cases hp:t.plain=true
    .have:=S.pln hp;omega
    .have hp':t.plain=false:=by simpa using hp
     rw[hp']at hdr;simp at hdr;omega
   exact fin _ a _ s.heap s.drawn (fun _ _ e=>e) (Nat.le_refl _) (.refl _) ha (.inl rfl) fun h2 _=>.inr (.inr ⟨hb,hle,rfl,0,rfl,fun _=>rfl,fun e=>absurd e (by decide)⟩)
end
section
variable{prog:Program}{w:World}{A:Around}{E:Value->Shared->Prop}{s:Shared}{a:Addr}{o:Obj}{es:Array (Int×Value)}{ep:Nat}{t:SetTable}
theorem Uk{order:List Value}{acc:Array Value}(h:ItemsOf (fun i v=>order[i]?=some v) acc order.length):acc.toList=order:=by
 refine FB fun i=>?_;rw[BL];by_cases hi:i<acc.size
 .have e:acc[i]?=some acc[i]:=CT.mpr ⟨hi,rfl⟩;rw[e,h.2 i _ e]
 .rw[ER (by omega),FP (by have:=h.1;omega)]
theorem collect_set{Q:List Value->Shared->Prop}(hh:A.handled=none)(S:SAt w s.heap a o es ep t)
  (hQ:∀s' acc,(∀b ob,s.heap.get? b=some ob->s'.heap.get? b=some ob)->s'.gens=s.gens->s'.os=s.os->s.heap.objs.size<s'.heap.objs.size->acc.Perm (es.toList.map (·.2))->Q acc s'):wpAny (model prog w) A (collect (.ref a)) Q E s:=by
 have ha:=AJ S.ho;unfold collect;refine AB (wpAny_runValue (DF F.entry_proto_collect ?_));rw[Around.under_plainId F.plain_proto_collect _];show wpAny _ A.in1 (newList [] >>= fun l=>again (.builtin "list.__iadd__" ⟨[l,.ref a],[]⟩)) _ _ s;refine AB (CP ?_);refine AD ⟨plainId_quiet F.plain_list_iadd _,DF F.entry_list_iadd ?_⟩;rw[Around.under_plainId F.plain_list_iadd _];show wpAny _ A.in1 (Builtin.List.listExtendWith (.ref s.heap.objs.size) (.ref a) (.ref s.heap.objs.size)) _ _ _;unfold Builtin.List.listExtendWith;have hne:s.heap.objs.size≠a:=fun e=>absurd ha (by rw[<-e];exact CK _);generalize hH:s.heap.push { cls:=.type "list",data:=.seq ([]:List Value).toArray }=H;have kH:∀b ob,s.heap.get? b=some ob->H.get? b=some ob:=fun b ob e=>by rw[<-hH];exact AE _ e
 have hHs:H.objs.size=s.heap.objs.size+1:=by rw[<-hH,CB]
 have hS:H.get? s.heap.objs.size=some { cls:=.type "list",data:=.seq ([]:List Value).toArray }:=by rw[<-hH];exact BE _ rfl
 have hT:Shared.TypeIs { s with heap:=H } (.ref a) "set":=⟨o,kH a o S.ho,S.ex.1⟩;refine AB (wpAny_typeOf hT ?_);have h1:Builtin.List.listSameRef (.ref s.heap.objs.size) (.ref a)=false:=by simp[Builtin.List.listSameRef,hne]
 have h2:(Value.type "set" == Value.type "list")=false:=by decide
 have h3:(Value.type "set" == Value.type "tuple")=false:=by decide
 simp only[h1,h2,h3,Bool.or_false,BF,CI];refine AB (Tr (s:={ s with heap:=H }) (S.at (kH a o S.ho)) fun it T order h' d hia hiT hTa hsz k hp st hlt W=>?_);have hT':Shared.TypeIs { s with heap:=h',drawn:=d } (.ref a) "set":=⟨o,k a o (kH a o S.ho),S.ex.1⟩;refine AB (BU ?_);unfold Builtin.List.listLengthHint;refine AB (wpAny_specialOf hT' zDe ?_);wp_delta;refine AB (GW hT' (b:=true) (by rw[isSubtype_type];kernel_rfl) ?_);show wpAny _ A.in1 (typeOf (Value.ref a) >>= _) _ _ _;refine AB (wpAny_typeOf hT' ?_);refine AD ?_;rw[AY (by decide)];refine AB (DH ?_);have hS1:h'.get? s.heap.objs.size=some { cls:=.type "list",data:=.seq ([]:List Value).toArray }:=k _ _ hS;refine AB ?_;show wpAny _ A.in1 (updateSeq s.heap.objs.size (·.push .none) >>= fun _=>updateSeq s.heap.objs.size (·.pop)) _ _ _;refine AB (GH hS1 rfl ?_);have hS2:=CF (Obj.mapSeq (·.push Value.none)) hS1 rfl;refine GH hS2 rfl ?_;have hS3:=CF (Obj.mapSeq (·.pop)) hS2 rfl;have oth:∀b ob,b≠s.heap.objs.size->h'.get? b=some ob->((h'.update s.heap.objs.size (Obj.mapSeq (·.push Value.none))).update s.heap.objs.size (Obj.mapSeq (·.pop))).get? b=some ob :=
  fun b ob hb e=>(BZ _ _ (Ne.symm hb)).trans ((BZ _ _ (Ne.symm hb)).trans e)
 have hSf:s.heap.objs.size∉[it,a,T]:=by
  have e1:s.heap.objs.size≠it:=fun e=>absurd hsz (by
   show ¬H.objs.size<=it;rw[hHs,<-e];exact Nat.not_succ_le_self _)
  have e2:s.heap.objs.size≠T:=fun e=>by
   rcases hTa with z | z
   .exact hne (e.trans z)
   .exact absurd z (by
     show ¬H.objs.size<=T;rw[hHs,<-e];exact Nat.not_succ_le_self _)
  simp only[AX,AM,or_false,not_or];exact⟨e1,hne,e2⟩
 have hle:es.size=order.length:=by
  have:=hp.length_eq;rw[AA,AQ]at this;exact this.symm
 have hfew:=S.few;refine AD ⟨plainId_quiet F.plain_extend_loop _,codeAny_extend_loopS (W A.in1 hh).toS (by rw[sizeLine_eq];omega) _ hSf _ es.size 0 _ _ _ rfl (BT _)
  ((W A.in1 hh).frame 0 h' _ st fun b hb ob e=>oth b ob (fun z=>hSf (z▸hb)) e) hS3 (ItemsOf.nil _) fun s' acc' c' hm hS' hacc=>?_⟩
 show wpAny _ A (load s.heap.objs.size >>= _) _ _ s';refine AB (wpAny_load hS' ?_);rw[hle]at hacc;refine AD (hQ s' acc'.toList (fun b ob e=>hm.heap b ob (fun hb=>?_) (oth b ob (fun z=>?_) (k b ob (kH b ob e)))) hm.gens hm.os (AJ hS') (by rw[Uk hacc];exact hp))
 .have hbl:=AJ e;rcases AX.mp hb with z | z
  .exact absurd hbl (by rw[z];exact CK _)
  .rw[AC.mp z]at hbl;have:H.objs.size<=it:=hsz;rw[hHs]at this;exact absurd (BH hbl (DW this)) (CK _)
 .exact absurd (AJ e) (by rw[z];exact CK _)
end
end ST
namespace ST
open PySem L2
theorem Zw(t:SetTable)(n:Nat):(t.orStandIn n).led=t.led:=by
 unfold SetTable.orStandIn;split<;>rfl
theorem Wt(t:SetTable)(es:Array (Int×Value))(h:Int)(x:Value):(layNew t es h x).2.1.led=t.led:=by
 unfold layNew;split
 .rename_i sl wd e;show((t.put sl).1.orStandIn _).led=_;rw[Zw];rfl
 .rfl
theorem Nr{t t':SetTable}{hs:Array Int}{n:Nat}{ord:Array Nat}(h:t.relaid hs n=some (t',ord)):t'.led=t.led/\t'.plain=t.plain:=by
 unfold SetTable.relaid SetTable.laid at h;cases e:SetTable.layClean (SetTable.sizeAbove n-1) hs with
 | none=>rw[e]at h;cases h
 | some ow =>
  rw[e]at h;cases h;exact⟨rfl,rfl⟩
theorem Qo(t:SetTable)(es:Array (Int×Value))(n:Nat)(hp:t.plain=false):(relayAll t es n).2.1.led=t.led/\(relayAll t es n).2.1.plain=false:=by
 unfold relayAll;split
 .rename_i t' ord e;obtain⟨e1,e2⟩:=Nr e;dsimp only;split
  .exact⟨e1,e2.trans hp⟩
  .exact⟨rfl,rfl⟩
 .exact⟨rfl,rfl⟩
def zFl:Value->Str
 | .str x _=>x
 | _=>Str.empty
section
variable{prog:Program}{w:World}{A:Around}{E:Value->Shared->Prop}{s:Shared}{a:Addr}
structure TxtEs(w:World)(es:Array (Int×Value))(ss:List Str):Prop where
 el:∀e∈es.toList,∃x tk,e =(hashStr w x,Value.str x tk)
 pm:(es.toList.map fun e=>zFl e.2).Perm ss
 nd:ss.Nodup
def WS(w:World)(h:Heap)(a:Addr)(ss:List Str):Prop:=∃o es ep t,SAt w h a o es ep t/\TxtEs w es ss
theorem TxtEs.elems{es:Array (Int×Value)}{ss:List Str}(h:TxtEs w es ss):ElemsOf (C7 prog w) es.toList:=fun e he=>by
 obtain⟨x,tk,rfl⟩:=h.el e he;exact⟨⟨.inr x,U2 x tk,rfl⟩,rfl⟩
theorem TxtEs.mem{es:Array (Int×Value)}{ss:List Str}(h:TxtEs w es ss)(x:Str):x∈ss↔∃e∈es.toList,(C7 prog w).is (.inr x) e.2=true:=by
 rw[<-h.pm.mem_iff];constructor
 .intro hm;obtain⟨e,he,rfl⟩:=AH.mp hm;obtain⟨y,tk,rfl⟩:=h.el e he;exact⟨_,he,U2 y tk⟩
 .rintro⟨e,he,hk⟩;obtain⟨y,tk,rfl⟩:=h.el e he;have:y=x:=by
   rcases E6 (show Ex (.inr x) (.str y tk)=true from hk)with⟨i,t,e1,e2⟩ | ⟨z,t,e1,e2⟩
   .cases e2
   .cases e1;cases e2;rfl
  subst this;exact AH.mpr ⟨_,he,rfl⟩
theorem TxtEs.int{es:Array (Int×Value)}{ss:List Str}(h:TxtEs w es ss)(i:Int):¬∃e∈es.toList,(C7 prog w).is (.inl i) e.2=true:=by
 rintro⟨e,he,hk⟩;obtain⟨y,tk,rfl⟩:=h.el e he;rcases E6 (show Ex (.inl i) (.str y tk)=true from hk)with⟨i,t,e1,e2⟩ | ⟨z,t,e1,e2⟩
 .cases e2
 .cases e1
theorem TxtEs.len{es:Array (Int×Value)}{ss:List Str}(h:TxtEs w es ss):es.size=ss.length:=by
 have:=h.pm.length_eq;rw[AA,AQ]at this;exact this
def inS(ss:List Str):Key->Bool
 | .inl _=>false
 | .inr x=>decide (x∈ss)
theorem WS.setOf{h:Heap}{ss:List Str}(S:WS w h a ss):h.SetOf (C7 prog w) a (inS ss) ss.length:=by
 obtain⟨o,es,ep,t,S,T⟩:=S;refine⟨o,es,ep,t,S.ho,S.ex,S.hd,T.elems,fun k=>?_,S.few,S.ft,T.len⟩;cases k with
 | inl i=>exact⟨fun z=>Bool.noConfusion (show false=true from z),fun z=>absurd z (T.int i)⟩
 | inr x =>
  show decide (x∈ss)=true↔_;rw[decide_eq_true_eq];exact T.mem x
theorem add_txt{ss:List Str}{x:Str}{tk:Tok}{Q:Bool->Shared->Prop}(S:WS w s.heap a ss)(hl:ss.length+1<4096)
  (h:∀h' b,Heap.SameBut a s.heap h'->WS w h' a (if x∈ss then ss else ss ++ [x])->Q b { s with heap:=h' }) :
  wpAny (model prog w) A (setAddHashed a (.str x tk) (hashStr w x)) Q E s:=by
 obtain⟨o,es,ep,t,S,T⟩:=id S;have hkey:(C7 prog w).is (.inr x) (.str x tk)=true:=U2 x tk;have hsz:=T.len;unfold setAddHashed setAddHashedIn;refine BU (AB (B_ S.ho S.hd S.ft ?_));dsimp only;rw[byScan_of (knd:=C7 prog w) rfl S.few T.elems,AY rfl];unfold setAddByScan;refine AB (AB (DH ?_));refine AB (wpAny_setScan_of hkey S.ho S.hd S.ft T.elems ?_);cases hr:List.findIdx? (fun e=>(C7 prog w).is (.inr x) e.2) es.toList with
 | some j =>
  dsimp only;obtain⟨hj,hpj,_⟩:=List.findIdx?_eq_some_iff_getElem.mp hr;have hx:x∈ss:=(T.mem (prog:=prog) x).mpr ⟨es.toList[j],GV hj,hpj⟩;refine AD (AD ?_);have:=h s.heap false (Heap.SameBut.refl a s.heap) (by rw[AY hx];exact⟨o,es,ep,t,S,T⟩);exact this
 | none =>
  dsimp only;have hx:¬x∈ss:=fun hx=>by
   obtain⟨e,he,hp⟩:=(T.mem (prog:=prog) x).mp hx;have:=List.findIdx?_eq_none_iff.mp hr e he;rw[hp]at this;exact Bool.noConfusion this
  have hgw:∀(b:Bool) {s1:Shared} {Q':Unit->Shared->Prop},Q' () s1->wpAny (model prog w) A (match b with | true=>rule "set.scan.the-table-gave-way" | false=>pure ()) Q' E s1 :=
   fun b s1 Q' hq=>by cases b<;>first | exact AD hq | exact DH hq
  have hperm:=layNew_perm t es (hashStr w x) (.str x tk);have hfits:=layNew_fits t es (hashStr w x) (.str x tk);have hled:=Wt t es (hashStr w x) (.str x tk);show wpAny _ _ (match layNew t es (hashStr w x) (.str x tk)with | (es,t,wasDummy,gave)=>_) _ _ _;generalize layNew t es (hashStr w x) (.str x tk)=L at hperm hfits hled⊢;obtain⟨es1,t1,wasDummy,gave⟩:=L;dsimp only at hperm hfits hled⊢;rw[CY]at hperm;have hT1:∀es2:Array (Int×Value),es2.toList.Perm es1.toList->TxtEs w es2 (ss ++ [x]):=fun es2 hp2=>by
   refine⟨fun e he=>?_,?_,?_⟩
   .rcases AI.mp (hperm.mem_iff.mp (hp2.mem_iff.mp he))with z | z
    .exact T.el e z
    .exact⟨x,tk,AC.mp z⟩
   .refine((hp2.trans hperm).map _).trans ?_;rw[AL];exact T.pm.append (.refl _)
   .rw[BQ];refine⟨T.nd,by simp,fun y hy z hz=>?_⟩;rw[AC.mp hz];rintro rfl;exact hx hy
  have hsz1:es1.size=ss.length+1:=by
   have:=(hT1 es1 (.refl _)).len;rw[BB]at this;exact this
  refine AB (hgw _ ?_);have key:∀t2:SetTable,t2.led=t.led->t2.plain=false->t2.fits es1.size=true->wpAny (model prog w) A (do
    storeSet a es1 t2
    if(!wasDummy&&t2.tooFull)=true then do
      (match(relayAll t2 es1 (SetTable.grown es1.size)).2.2 with | true=>rule "set.scan.the-table-gave-way" | false=>pure ())
      storeSet a (relayAll t2 es1 (SetTable.grown es1.size)).1 (relayAll t2 es1 (SetTable.grown es1.size)).2.1
      pure (some true)
     else pure (some true)) (fun r s'=>wpAny (model prog w) A (match r with | some added=>pure added | none=>setAddHashedIn a (.str x tk) (hashStr w x) 99999) Q E s') E s:=by
   intro t2 l2 p2 f2;refine AB (GR S.ho S.hd ?_ (by rw[hsz1,sizeLine_eq];omega));have ho1:=Ep S.ho S.hd es1 t2;have sb1:=DC s.heap a (Obj.putSet es1 t2);split
   .have hp:=relayAll_perm t2 es1 (SetTable.grown es1.size);have hf:=relayAll_fits t2 es1 (SetTable.grown es1.size);obtain⟨hl3,hp3⟩:=Qo t2 es1 (SetTable.grown es1.size) p2;have hz2:(relayAll t2 es1 (SetTable.grown es1.size)).1.size=es1.size:=by rw[<-AQ,hp.length_eq,AQ]
    refine AB (hgw _ ?_);refine AB (GR ho1 rfl ?_ (by rw[hz2,hsz1,sizeLine_eq];omega));refine AD (AD (h _ true (sb1.trans (DC _ a _)) ?_));rw[AS hx];exact⟨_,_,_,_,⟨Ep ho1 rfl _ _,S.ex,rfl,hf,hl3.trans (l2.trans S.led),(fun z=>by rw[hp3]at z;cases z),by rw[hz2,hsz1];omega⟩,hT1 _ hp⟩
   .refine AD (AD (h _ true sb1 ?_));rw[AS hx];exact⟨_,es1,_,t2,⟨ho1,S.ex,rfl,f2,l2.trans S.led,(fun z=>by rw[p2]at z;cases z),by rw[hsz1];omega⟩,hT1 _ (.refl _)⟩
  cases hpl:t1.plain with
  | true =>
   rw[AY rfl,hashByValue_scannable 8 (x:=Value.str x tk) rfl];refine AB (AD ?_);exact key { t1 with plain:=false } hled rfl (SetTable.fits_plain_off hfits)
  | false =>
   rw[AS (by decide)];refine AB (AD ?_);exact key t1 hled hpl hfits
end
end ST
namespace L2
open PySem PySem.Spec PyProof.Rows
def X7(w:World)(a:Addr)(ss:List Str):HO:=.ext fun h=>ST.WS w h a ss
section
variable{X:Cx}{pins:List (Addr×Obj)}{σ:St}{H:Hp}{s:Shared}{a:Addr}{ss:List Str}
theorem Ru{P:Program}{w:World}{H:Hp}{h:Heap}(z:ST.WS w h a ss):ObjOk P w H h a (X7 w a ss) :=
 ⟨z,let⟨o,_,_,_,S,_⟩:=z;⟨o,S.ho⟩,fun h1 h2 ⟨o,es,ep,t,S,r⟩ k=>⟨o,es,ep,t,S.at (k o S.ho),r⟩⟩
theorem Inv.setw(I:Inv X pins σ H s)(e:H a=some (X7 X.w a ss)):ST.WS X.w s.heap a ss:=by
 obtain⟨z,_⟩:=(show ObjOk X.prog X.w H s.heap a (X7 X.w a ss)from I.hok a _ e);exact z
def Nt(l:List Str)(x:Str):List Str:=if x∈l then l else l ++ [x]
def Zn(w:World):V->List V->Hp->VK->Prop:=fun x vs H Q=>∃a l k,x = .ref a/\vs = [.str k]/\H a=some (X7 w a l)/\l.length+1<4096/\Q .non (upd H a (X7 w a (Nt l k)))
theorem WS.typeIs{ss:List Str}(z:ST.WS X.w s.heap a ss):s.TypeIs (.ref a) "set":=let⟨o,_,_,_,S,_⟩:=z;⟨o,S.ho,S.ex.1⟩
theorem Xm:MtM X "set.add" (Zn X.w):=by
 intro pins s σ H x vs v us Q I rx rv h;obtain⟨a,l,k,rfl,rfl,hH,hz,q⟩:=h;cases rx;obtain⟨u,rfl,⟨tk,rfl⟩⟩:=rv.one;have z:=I.setw hH;refine CS F.slot_set_add (WS.typeIs z) F.entry_set_add ?_ (F.args_set_add_2 _ _);unfold Builtin.«set.add» Builtin.Frozenset.oneOther;simp only[List.isEmpty_nil,bind_assoc];unfold Builtin.Frozenset.addrOf setAdd;refine AB (AD ?_)
 try dsimp only
 refine AB (AD ?_)
 try dsimp only
 refine AB ?_;refine BU ?_;refine AB (wpAny_pyHash_str ?_);refine ST.add_txt (s:={ s with toks:=s.toks+1 }) z hz fun h' b hsb z'=>?_;show wpAny _ _ (ret Value.none) _ _ _;refine AD ⟨_,rfl,.non,_,I.write (x:=a) (e:=a) (t':=s.toks+1) (by rw[hH];exact True.intro) (.inl rfl) (fun b q hb e=>(hsb.2 b hb).trans e) (let⟨o,_,_,_,S,_⟩:=z';⟨o,S.ho⟩) (Ru z'),rfl,q⟩
def zEe(w:World)(neg:Bool):R2:=fun x y H Q=>∃a l k,y = .ref a/\x = .str k/\H a=some (X7 w a l)/\Q (.bl (if neg then !decide (k∈l)else decide (k∈l))) H
theorem Eb:OpR X (compareOp .NotIn) (zEe X.w true):=by
 intro pins s σ H x y v u Q I rx ry h;obtain⟨a,l,k,rfl,rfl,hH,q⟩:=h;cases ry;obtain⟨tk,rfl⟩:=rx;exact wpAny_notInSet_of (knd:=C7 X.prog X.w) (k:=.inr k) (U2 k tk) rfl (I.setw hH).setOf ⟨.bl (!decide (k∈l)),H,I.tok _,rfl,q⟩
end
theorem Inv.drawn{X:Cx}{pins:List (Addr×Obj)}{σ:St}{H:Hp}{s:Shared}(I:Inv X pins σ H s)(d:Drawn):Inv X pins σ H { s with drawn:=d } :=
 ⟨I.ok,I.os,I.bare,I.base,I.loc,I.cell,I.free,I.freeC,I.pin,I.hok,I.len⟩
section
variable{X:Cx}
theorem Hj(hc:X.calm=true):G8 X (.builtin "sorted") (fun xs H Q=>∃(p:Addr) (ss:List Str),xs = [.ref p]/\H p=some (X7 X.w p ss)/\∀(l:Addr) (ss':List Str),H l=none->ss'.Perm ss->ss'.Pairwise leS->Q (.ref l) (upd H l (.lst (ss'.map V.str)))):=by
 intro pins s σ H xs us Q I r h;obtain⟨p,ss,rfl,hq,q⟩:=h;obtain⟨u,rfl,ru⟩:=U7 r;cases ru;obtain⟨o,es,ep,t,S,T⟩:=I.setw hq;refine TS.sorted_gen (ST.collect_set (show X.A.in1.handled=none from I.ok.hd hc) S fun s1 its k1 g1 o1 tk1 hpi=>?_);have hS:∀v∈its,∃x tk,v=Value.str x tk:=fun v hv=>by
  obtain⟨e,he,rfl⟩:=AH.mp (hpi.mem_iff.mp hv);obtain⟨x,tk,rfl⟩:=T.el e he;exact⟨x,tk,rfl⟩
 have hstr:StrsAre its (its.map strOf):=by
  have:∀l:List Value,(∀v∈l,∃x tk,v=Value.str x tk)->StrsAre l (l.map strOf):=by
   intro l
   induction l with
   | nil=>exact fun _=>.nil
   | cons v r ih =>
    intro h;obtain⟨x,tk,rfl⟩:=h v (AW ..);exact .cons _ _ (ih fun u hu=>h u (AO _ hu))
  exact this its hS
 have hlen:its.length=es.size:=by rw[hpi.length_eq,AA,AQ]
 have hfew:=S.few;have hss:(its.map strOf).Perm ss:=by
  refine(hpi.map strOf).trans ?_;rw[BA];refine List.Perm.trans (List.Perm.of_eq ?_) T.pm;refine List.map_congr_left fun e he=>?_;obtain⟨x,tk,rfl⟩:=T.el e he;rfl
 refine⟨o1,by rw[sizeLine_eq];omega,strKind,oneType',fun s2 _=>TS.keys_strs hstr,fun out h' e ho k hg=>?_⟩;obtain⟨hp,hs⟩:=ho;have hm:∀v∈out.toList,∃x t,v = .str x t:=fun v hv=>hS v (hp.mem_iff.mp hv);have hv:Vals ((out.toList.map strOf).map V.str) out.toList:=by
  have:∀us:List Value,(∀v∈us,∃x t,v = .str x t)->Vals ((us.map strOf).map V.str) us:=by
   intro us
   induction us with
   | nil=>exact fun _=>.nil
   | cons v r ih =>
    intro h;obtain⟨x,t,rfl⟩:=h v (AW ..);exact .cons ⟨t,rfl⟩ (ih fun u hu=>h u (AO _ hu))
  exact this _ hm
 have hperm:(out.toList.map strOf).Perm ss:=(hp.map strOf).trans hss;have hpw:(out.toList.map strOf).Pairwise leS:=by
  rw[CZ];refine(FQ.mp hs).imp fun{u v} ⟨hu,hv',q⟩=>?_;obtain⟨x,t,rfl⟩:=hm u hu;obtain⟨y,t',rfl⟩:=hm v hv';have q':decide (y.cps.toList<x.cps.toList)=false:=q;exact of_decide_eq_false q'
 have k0:∀b o,s.heap.get? b=some o->h'.get? b=some o:=fun b o eb=>k b o (k1 b o eb);have hge:s.heap.objs.size<=s1.heap.objs.size:=DM tk1;have hn:H s1.heap.objs.size=none:=I.hok.fresh hge;obtain⟨h1,g',d',t',o'⟩:=s1;have eo:o'=s.os:=o1;have eg:g'=s.gens:=g1;subst eo;subst eg;refine⟨.ref h1.objs.size,upd H h1.objs.size (.lst ((out.toList.map strOf).map V.str)),?_,rfl,q _ _ hn hperm hpw⟩;exact(I.laid (a:=h1.objs.size) (o:=.lst ((out.toList.map strOf).map V.str)) (t':=t') k0 hge ⟨by rw[AA,AA,hp.length_eq,sizeLine_eq];omega,out.toList,e,hv,by simpa using hg⟩).drawn d'
end
def Ny(P:Program)(w:World)(a:Addr)(ks:List (List Key×Addr)):HO:=.ext fun h=>ST.TSet (C7 P w) h a ks
def Kq(H:Hp)(ks:List (List Key×Addr)):Prop:=∀q∈ks,H q.2=some (.tup (q.1.map kV))
section
variable{X:Cx}{pins:List (Addr×Obj)}{σ:St}{H:Hp}{s:Shared}{a:Addr}{ks:List (List Key×Addr)}
theorem Lp(P:Program)(w:World):ST.Flat (C7 P w):=fun v ⟨x,h⟩=>(C7 P w).byValue x v h
theorem Uu(P:Program)(w:World):ST.Scan (C7 P w):=fun v ⟨x,h⟩=>by
 rcases E6 (show Ex x v=true from h)with⟨i,t,_,rfl⟩ | ⟨y,t,_,rfl⟩<;>rfl
theorem Vx{P:Program}{w:World}{H:Hp}{h:Heap}(z:ST.TSet (C7 P w) h a ks):ObjOk P w H h a (Ny P w a ks) :=
 ⟨z,let⟨o,_,_,_,e,_⟩:=z;⟨o,e⟩,fun h1 h2 ⟨o,es,ep,t,e,r⟩ k=>⟨o,es,ep,t,k o e,r⟩⟩
theorem Inv.sett(I:Inv X pins σ H s)(e:H a=some (Ny X.prog X.w a ks)):ST.TSet (C7 X.prog X.w) s.heap a ks:=by
 obtain⟨z,_⟩:=(show ObjOk X.prog X.w H s.heap a (Ny X.prog X.w a ks)from I.hok a _ e);exact z
theorem Mm:G8 X (.type "set") (fun xs H Q=>xs = []/\∀p,H p=none->Q (.ref p) (upd H p (Ny X.prog X.w p []))):=by
 intro pins s σ H xs us Q I r h;obtain⟨rfl,q⟩:=h;cases r;refine call_set_0 fun led=>⟨.ref s.heap.objs.size,_,I.laid (t':=s.toks) (fun b o e=>AE _ e) (Nat.le_refl _) (Vx ?_),rfl,q _ (I.hok.fresh (Nat.le_refl _))⟩;exact⟨_,#[],0,_,BE _ rfl,⟨rfl,rfl,rfl⟩,rfl,.refl _,⟨rfl,rfl,.inl rfl,by show 0*5<7*3;decide⟩⟩
def zEp(P:Program)(w:World):R2:=fun x y H Q=>∃a p ks k,y = .ref a/\x = .ref p/\H a=some (Ny P w a ks)/\H p=some (.tup (k.map kV))/\Kq H ks/\(∀q∈ks,q.1≠k)/\Q (.bl false) H
theorem Mw(hu:X.A.units+1<cLine):OpR X (compareOp .In) (zEp X.prog X.w):=by
 intro pins s σ H x y v u Q I rx ry h;obtain⟨a,p,ks,k,rfl,rfl,hH,hp,ht,hn,q⟩:=h;cases ry;cases rx;exact ST.in_free (neg:=false) hu (Lp _ _) (I.sett hH) (fun z hz=>Aw I.hok (ht z hz)) (Aw I.hok hp) hn ⟨.bl false,H,I.tok _,rfl,q⟩
def zAa(P:Program)(w:World):V->List V->Hp->VK->Prop:=fun x vs H Q=>∃a p ks k,x = .ref a/\vs = [.ref p]/\H a=some (Ny P w a ks)/\H p=some (.tup (k.map kV))/\Kq H ks/\(∀q∈ks,q.1≠k)/\ks.length+1<=300/\Q .non (upd H a (Ny P w a (ks ++ [(k,p)])))
theorem Ys(hu:X.A.units+1<cLine):MtM X "set.add" (zAa X.prog X.w):=by
 intro pins s σ H x vs v us Q I rx rv h;obtain⟨a,p,ks,k,rfl,rfl,hH,hp,ht,hn,hl,q⟩:=h;cases rx;obtain⟨u,rfl,ru⟩:=rv.one;cases ru;refine ST.call_add hu (Lp _ _) (Uu _ _) (I.sett hH) (fun z hz=>Aw I.hok (ht z hz)) (Aw I.hok hp) hn hl fun h' hs z=>?_;exact⟨.non,_,I.write (x:=a) (e:=a) (by rw[hH];exact True.intro) (.inl rfl) (fun b q hb e=>(hs.2 b hb).trans e) (let⟨o,_,_,_,e,_⟩:=z;⟨o,e⟩) (Vx z),rfl,q⟩
end
section
variable{X:Cx}
theorem Pt:G8 X (.builtin "isinstance") (fun xs H Q=>∃x n t b,xs = [x,.ty n]/\TyOf X.K H x t/\PySem.W.kitOne X.K t (.type n)=some b/\Q (.bl b) H):=by
 intro pins s σ H xs us Q I r h;obtain⟨x,n,t,b,rfl,ht,he,q⟩:=h;obtain⟨u,v,rfl,ru,rv⟩:=r.two;cases rv;exact Fi I ru ht he fun tk=>⟨.bl b,H,I.tok _,rfl,q⟩
end
mutual
def Rp(K:PySem.W.Frag)(H:Hp):PyData->V->Prop
 | .none,v=>v = .non
 | .bool b,v=>v = .bl b
 | .int i,v=>v = .int i
 | .str x,v=>v = .str x
 | .list ds,v=>∃a xs,v = .ref a/\SqL K H a xs/\Rps K H ds xs
 | .tuple ds,v=>∃a xs,v = .ref a/\SqT K H a xs/\Rps K H ds xs
 | .dict _,_=>False
def Rps(K:PySem.W.Frag)(H:Hp):List PyData->List V->Prop
 | [],vs=>vs = []
 | d::ds,vs=>∃v r,vs=v::r/\Rp K H d v/\Rps K H ds r
end
section
variable{X:Cx}{pins:List (Addr×Obj)}{σ:St}{H:Hp}{s:Shared}
mutual
theorem Inv.reads(I:Inv X pins σ H s):∀(d:PyData) (v:V) (u:Value),Rp X.K H d v->RelV v u->∃as,Reads s.heap u d as
 | .none,v,u,h,r=>by
  cases(show v = .non by simpa [Rp] using h);cases r;exact⟨_,.none⟩
 | .bool b,v,u,h,r=>by
  cases(show v = .bl b by simpa [Rp] using h);cases r;exact⟨_,.bool b⟩
 | .int i,v,u,h,r=>by
  cases(show v = .int i by simpa [Rp] using h);obtain⟨t,rfl⟩:=r;exact⟨_,.int i t⟩
 | .str x,v,u,h,r=>by
  cases(show v = .str x by simpa [Rp] using h);obtain⟨t,rfl⟩:=r;exact⟨_,.str x t⟩
 | .list ds,v,u,h,r=>by
  obtain⟨a,xs,e,hq,hs⟩:=(show ∃a xs,v=V.ref a/\SqL X.K H a xs/\Rps X.K H ds xs by simpa [Rp] using h);subst e;cases r;obtain⟨its,rv,⟨o,n,e,hc,hd,hda⟩,_⟩:=I.list hq;obtain⟨as,z⟩:=I.readsAll ds xs its hs rv;exact⟨_,.list e hc hda (by simpa using z)⟩
 | .tuple ds,v,u,h,r=>by
  obtain⟨a,xs,e,hq,hs⟩:=(show ∃a xs,v=V.ref a/\SqT X.K H a xs/\Rps X.K H ds xs by simpa [Rp] using h);subst e;cases r;obtain⟨its,rv,⟨o,e,hc,n,hda⟩,_⟩:=I.tuple hq;obtain⟨as,z⟩:=I.readsAll ds xs its hs rv;exact⟨_,.tuple e hc hda (by simpa using z)⟩
 | .dict _,v,u,h,r=>by simp[Rp]at h
theorem Inv.readsAll(I:Inv X pins σ H s):∀(ds:List PyData) (vs:List V) (us:List Value),Rps X.K H ds vs->Vals vs us->∃as,ReadsAll s.heap us ds as
 | [],vs,us,h,r=>by
  cases(show vs = [] by simpa [Rps] using h);cases r;exact⟨_,.nil⟩
 | d::ds,vs,us,h,r=>by
  obtain⟨v,vr,e,h1,h2⟩:=(show ∃v r,vs=v::r/\Rp X.K H d v/\Rps X.K H ds r by simpa [Rps] using h);subst e;cases r with
  | cons r1 r2 =>
   obtain⟨as,z⟩:=I.reads d v _ h1 r1;obtain⟨bs,z'⟩:=I.readsAll ds vr _ h2 r2;exact⟨_,.cons z z'⟩
end
def Pl(d:PyData):Prop:=d.canLay0=true/\d.depth<=50
def zCl(K:PySem.W.Frag):R2:=fun x y H Q=>∃d e,Rp K H d x/\Rp K H e y/\Pl d/\Pl e/\Q (.bl (PyData.eqv d e)) H
def zCq(K:PySem.W.Frag):R2:=fun x y H Q=>∃d e,Rp K H d x/\Rp K H e y/\Pl d/\Pl e/\Q (.bl (!PyData.eqv d e)) H
theorem Zm(hu:X.A.units+64<cLine):OpR X (compareOp .Eq) (zCl X.K):=by
 intro pins s σ H x y v u Q I rx ry h;obtain⟨d,e,h1,h2,p1,p2,q⟩:=h;obtain⟨as,z1⟩:=I.reads d x v h1 rx;obtain⟨bs,z2⟩:=I.reads e y u h2 ry;exact PySem.SeqAt.compareEq_reads z1 z2 p1.1 p2.1 (by have:=p1.2;have:=p2.2;omega) ⟨.bl (PyData.eqv d e),H,I,rfl,q⟩
theorem zBq(hu:X.A.units+64<cLine):OpR X (compareOp .NotEq) (zCq X.K):=by
 intro pins s σ H x y v u Q I rx ry h;obtain⟨d,e,h1,h2,p1,p2,q⟩:=h;obtain⟨as,z1⟩:=I.reads d x v h1 rx;obtain⟨bs,z2⟩:=I.reads e y u h2 ry;exact PySem.SeqAt.compareNe_reads z1 z2 p1.1 p2.1 (by have:=p1.2;have:=p2.2;omega) ⟨.bl (!PyData.eqv d e),H,I,rfl,q⟩
def Zh(K:PySem.W.Frag)(neg:Bool):R2:=fun x y H Q=>∃d ds,Rp K H d x/\(Rp K H (.list ds) y\/Rp K H (.tuple ds) y)/\Pl d/\PyData.canLayAll0 ds=true/\Q (.bl (if neg then !(ds.any fun z=>PyData.eqv z d)else ds.any fun z=>PyData.eqv z d)) H
theorem zAy(hu:X.A.units+64<cLine):OpR X (compareOp .In) (Zh X.K false):=by
 intro pins s σ H x y v u Q I rx ry h;obtain⟨d,ds,h1,h2,p1,p2,q⟩:=h;obtain⟨as,z1⟩:=I.reads d x v h1 rx;have hu':X.A.units+1+min (PyData.depthAll ds) d.depth<cLine:=by have:=p1.2;omega
 rcases h2 with h2 | h2
 .obtain⟨bs,z2⟩:=I.reads (.list ds) y u h2 ry;exact PySem.SeqAt.in_list_reads z2 z1 p2 p1.1 hu' ⟨.bl _,H,I,rfl,q⟩
 .obtain⟨bs,z2⟩:=I.reads (.tuple ds) y u h2 ry;exact PySem.SeqAt.in_tuple_reads z2 z1 p2 p1.1 hu' ⟨.bl _,H,I,rfl,q⟩
theorem Pd(hu:X.A.units+64<cLine):OpR X (compareOp .NotIn) (Zh X.K true):=by
 intro pins s σ H x y v u Q I rx ry h;obtain⟨d,ds,h1,h2,p1,p2,q⟩:=h;obtain⟨as,z1⟩:=I.reads d x v h1 rx;have hu':X.A.units+1+min (PyData.depthAll ds) d.depth<cLine:=by have:=p1.2;omega
 rcases h2 with h2 | h2
 .obtain⟨bs,z2⟩:=I.reads (.list ds) y u h2 ry;exact PySem.SeqAt.notIn_list_reads z2 z1 p2 p1.1 hu' ⟨.bl _,H,I,rfl,q⟩
 .obtain⟨bs,z2⟩:=I.reads (.tuple ds) y u h2 ry;exact PySem.SeqAt.notIn_tuple_reads z2 z1 p2 p1.1 hu' ⟨.bl _,H,I,rfl,q⟩
end
section
variable{X:Cx}
def Kf:V->List V->Hp->VK->Prop:=fun x vs H Q=>∃z y ps,x = .str z/\vs = [.str y]/\(decide (z.length<y.length)||decide (Builtin.Str.strKind z<Builtin.Str.strKind y))=false/\(y.length == 0)=false /\
 (Builtin.Str.occurrences z y 0 z.length (z.length+1)).isEmpty=false/\z.length<=4000/\Builtin.Str.partsBetween z (Builtin.Str.occurrences z y 0 z.length (z.length+1)) y.length=ps/\ps.length<=4000/\∀l,H l=none->Q (.ref l) (upd H l (.lst (ps.map V.str)))
theorem Gx:∀(ps:List Str) (tk:Nat),Vals (ps.map V.str) (strsFrom tk ps)
 | [],_=>.nil
 | _::r,tk=>.cons ⟨tk,rfl⟩ (Gx r (tk+1))
theorem Ek:MtM X "str.split" Kf:=by
 intro pins s σ H x vs v us Q I rx rv h;obtain⟨z,y,ps,rfl,rfl,h1,h2,h3,h4,rfl,h6,q⟩:=h;obtain⟨t,rfl⟩:=rx;obtain⟨u,rfl,⟨tk,rfl⟩⟩:=rv.one;have hz:z.length<=sizeLine:=by rw[sizeLine_eq];omega
 have hp:(Builtin.Str.partsBetween z (Builtin.Str.occurrences z y 0 z.length (z.length+1)) y.length).length<=sizeLine:=by rw[sizeLine_eq];omega
 refine call_meets F.slot_str_split (typeIs_str _ _ _) F.entry_str_split (F.args_str_split_2 _ _) (PySem.meets_str_split_sep z y t tk h1 h2 h3 hz hp) ?_;exact⟨.ref s.heap.objs.size,_,I.lnew (Gx _ _) (by rw[AA];exact hp),rfl,q _ I.fresh⟩
end
end L2
namespace L2
open PySem PySem.Spec PyProof.Rows
structure Fn(K:PySem.W.Frag)(mg:Str->Option Value)(x:Str)(st:Stmt)(ps:List Str) where
 f:Addr
 fd:FuncData
 F:Fun K x x st f fd
 b:Binds K fd ps []
 m:mg x=some (.ref f)
structure Mt(K:PySem.W.Frag)(C:Addr)(m qual:Str)(st:Stmt)(ps:List Str) where
 f:Addr
 fd:FuncData
 F:Fun K m qual st f fd
 b:Binds K fd ps []
 m:Meth K C m f
section
variable{X:Cx}
theorem C4{x:Str}{st:Stmt}{ps:List Str}{k:Nat}{sp:Sp}{e:Expr}{es:List Expr}{t:TA}{p pos:Pos}(D:Fn X.K X.mg x st ps)(G:FnOk X.prog X.w X.K X.mg X.base CX0 k D.f D.fd ps sp)(hr:Room k X.A)(ha:PA X (e::es) t)
  (hg:Gl X x:=by rfl) (hdb:(x ==("__debug__":Str))=false:=by decide) (hs:starEach (e::es) X.env =(false,eval e X.env)::starEach es X.env:=by rfl) (hpl:(backTo pos (starEach es X.env)).any (·.1)=false:=by rfl) :
  PE X (.Call (.Name x p) (e::es) [] pos) (zBy sp [] E0 t):=Ze G hr hg D.m D.F.kp D.b .nil Bi ha hdb hs hpl
def Qp(P:Program)(w:World)(x:V)(H:Hp):Prop:=∃p,x = .ref p/\((∃l,H p=some (Oc P w p l))\/(∃l,H p=some (X7 w p l))\/∃ks,H p=some (Ny P w p ks))
theorem zAg{pins:List (Addr×Obj)}{σ:St}{H:Hp}{s:Shared}{x:V}{v:Value}(I:Inv X pins σ H s)(r:RelV x v)(ty:Qp X.prog X.w x H):s.TypeIs v "set"/\∀a,v = .ref a->∃ob,s.heap.get? a=some ob/\ob.dict=none:=by
 obtain⟨p,rfl,h⟩:=ty;cases r;have z:∃o,s.heap.get? p=some o/\o.ExactSet:=by
  rcases h with⟨l,h⟩ | ⟨l,h⟩ | ⟨l,h⟩
  .obtain⟨o,_,_,_,e,ex,_⟩:=I.set h;exact⟨o,e,ex⟩
  .obtain⟨o,_,_,_,S,_⟩:=I.setw h;exact⟨o,S.ho,S.ex⟩
  .obtain⟨o,_,_,_,e,ex,_⟩:=I.sett h;exact⟨o,e,ex⟩
 obtain⟨o,e,ex⟩:=z;refine⟨⟨o,e,ex.1⟩,fun a e2=>?_⟩;cases e2;exact⟨o,e,ex.2.1⟩
def zEa(P:Program)(w:World)(r:V->List V->Hp->VK->Prop)(to:TE)(t:TA):TE:=fun σ H Q=>to σ H fun x H1=>Qp P w x H1/\t σ H1 fun xs H2=>r x xs H2 Q
theorem Ye{o e:Expr}{to:TE}{t:TA}{apos cpos:Pos}{r:V->List V->Hp->VK->Prop}(hm:MtM X "set.add" r)(ho:PE X o to)(ha:PA X [e] t)
  (hbase:attributeBase o "add" X.env (eval o X.env)=eval o X.env:=by rfl)
  (hfew:((backTo cpos (starEach [e] X.env)).all (fun x=>!x.1) &&(backToKw cpos (keywordEach [] X.env)).all (fun x=>x.1.isSome)
   && decide ([e].length +([]:List Keyword).length +(if([]:List Keyword).isEmpty then 0 else 1)<30))=true:=by rfl)
  (hline:(apos.endLine == cpos.line)=true:=by rfl) (hs:starEach [e] X.env = [(false,eval e X.env)]:=by rfl) :
  PE X (.Call (.Attribute o "add" apos) [e] [] cpos) (zEa X.prog X.w r to t):=by
 intro pins s σ H Q I h;refine wpAny_Call_method_late hbase hfew hline rfl (thn (ho pins s σ H _ I h) fun v s1 ⟨x,H1,I1,r1,ty,q1⟩=>?_);obtain⟨h1,h2⟩:=zAg I1 r1 ty;refine⟨"set", "set.add",F.plainAttrs_set,F.slot_set_add,F.type_set_add,h1,h2,?_⟩;have hA:=ha cpos pins s1 σ H1 _ I1 q1;rw[hs]at hA⊢;refine Calls.callWith_builtin rfl (Calls.evalArgs_plain ?_);exact thn hA fun us s2 ⟨vs,H2,I2,r2,q2⟩=>hm pins s2 σ H2 x vs v us Q I2 r1 r2 q2
theorem Xx{x:Str}{i:Int}{pos:Pos}(h:∃t,X.mg x=some (.int i t))(hg:Gl X x:=by rfl)(hd:(x ==("__debug__":Str))=false:=by decide):PE X (.Name x pos) (tC (.int i)):=by
 obtain⟨t,e⟩:=h;exact Je hg e ⟨t,rfl⟩ hd
theorem zDc{x y:Str}{pos:Pos}(h:∃t,X.mg x=some (.str y t))(hg:Gl X x:=by rfl)(hd:(x ==("__debug__":Str))=false:=by decide):PE X (.Name x pos) (tC (.str y)):=by
 obtain⟨t,e⟩:=h;exact Je hg e ⟨t,rfl⟩ hd
theorem R0{x:Str}{n:String}{pos:Pos}(hm:X.mg x=none)(hv:bootBuiltins x=some (.type n))(hg:Gl X x:=by rfl)(hn:x≠ "__name__":=by decide)(hd:(x ==("__debug__":Str))=false:=by decide):PE X (.Name x pos) (tC (.ty n)) :=
 Zb hg hm hv rfl hn hd
theorem E2{x:Str}{id:String}{r:List V->Hp->VK->Prop}{e:Expr}{es:List Expr}{t:TA}{p pos:Pos}(hc:G8 X (.builtin id) r)(hm:X.mg x=none)(hv:bootBuiltins x=some (.builtin id))(ha:PA X (e::es) t)(hg:Gl X x:=by rfl)(hn:x≠ "__name__":=by decide)(hdb:(x ==("__debug__":Str))=false:=by decide)
  (hs:starEach (e::es) X.env =(false,eval e X.env)::starEach es X.env:=by rfl) (hpl:(backTo pos (starEach es X.env)).any (·.1)=false:=by rfl):PE X (.Call (.Name x p) (e::es) [] pos) (tCB r t):=Vg hc hg hm hv ha hn hdb hs hpl
theorem U1{x:Str}{T:String}{r:List V->Hp->VK->Prop}{e:Expr}{es:List Expr}{t:TA}{p pos:Pos}(hc:G8 X (.type T) r)(hm:X.mg x=none)(hv:bootBuiltins x=some (.type T))(ha:PA X (e::es) t)(hg:Gl X x:=by rfl)(hn:x≠ "__name__":=by decide)(hdb:(x ==("__debug__":Str))=false:=by decide)
  (hs:starEach (e::es) X.env =(false,eval e X.env)::starEach es X.env:=by rfl) (hpl:(backTo pos (starEach es X.env)).any (·.1)=false:=by rfl):PE X (.Call (.Name x p) (e::es) [] pos) (tCB r t):=Pz hc hg hm hv ha hn hdb hs hpl
theorem J6{scope:Scope}{cl:List (Str×Addr)}{N':List Str}{cap:List (Option Nat)}(caps:Caps X scope cl N' cap)(cin:ClIn X cl)(clos:closureFor scope X.env=pure cl:=by rfl)(kind:scope.kind = .function:=by rfl)(nocell:∀y∈scope.names,y.2≠ .cell:=by decide +kernel)
  (loc:∀y∈scope.names,y.2 = .local->scope.names.lookup y.1=some .local:=by decide +kernel) (has:((relabel scope X.env).names.all fun y=>!(y.2 == .cell||y.2 == .free)||(cl.lookup y.1).isSome)=true:=by rfl):CScope X scope cl N' cap:=⟨kind,nocell,loc,clos,cin,has,caps⟩
theorem pgC{scope:Scope}{cl:List (Str×Addr)}{N':List Str}{pins:List (Addr×Obj)}{ex:List Addr}{s3:Shared}{H3:Hp}{x:Str}{pos:Pos}(i:Nat)(hN:N'.Nodup:=by decide +kernel)(hi:N'[i]?=some x:=by rfl)(hx:Loc (cxC X scope cl N' pins ex s3 H3).env.scope x:=by exact Or.inl rfl)
  (hf:(cxC X scope cl N' pins ex s3 H3).env.scope.names.lookup x=some .local:=by rfl):PG (cxC X scope cl N' pins ex s3 H3) (.Name x pos) (S7 i):=D6 (X:=cxC X scope cl N' pins ex s3 H3) hN hi hx (.inr hf)
end
theorem K9:bootBuiltins "len" = some (.builtin "len"):=by decide +kernel
theorem Fy:bootBuiltins "enumerate" = some (.type "enumerate"):=by decide +kernel
theorem Zy:bootBuiltins "min" = some (.builtin "min"):=by decide +kernel
theorem Vt:bootBuiltins "max" = some (.builtin "max"):=by decide +kernel
theorem Vu:bootBuiltins "abs" = some (.builtin "abs"):=by decide +kernel
theorem F6:bootBuiltins "sorted" = some (.builtin "sorted"):=by decide +kernel
theorem Kj:bootBuiltins "int" = some (.type "int"):=by decide +kernel
theorem Ki:bootBuiltins "str" = some (.type "str"):=by decide +kernel
theorem Dw:bootBuiltins "bool" = some (.type "bool"):=by decide +kernel
theorem K5:bootBuiltins "list" = some (.type "list"):=by decide +kernel
theorem V4:bootBuiltins "tuple" = some (.type "tuple"):=by decide +kernel
theorem Ck:bootBuiltins "set" = some (.type "set"):=by decide +kernel
theorem C1:bootBuiltins "isinstance" = some (.builtin "isinstance"):=by decide +kernel
theorem Kh:bootBuiltins "all" = some (.builtin "all"):=by decide +kernel
def KeepAt(a:Addr)(H0 H:Hp):Prop:=∀o,H0 a=some o->H a=some o
def Sm(D:List Addr)(H H':Hp):Prop:=∀b o,H b=some o->b∉D->H' b=some o
theorem Same.at{H0 H:Hp}(h:Same H0 H)(a:Addr):KeepAt a H0 H:=fun o e=>h a o e
theorem Same.new{H:Hp}{p:Addr}{o:HO}(h:H p=none):Same H (upd H p o):=fun b u e=>by rw[B6 (B2 e h)];exact e
theorem Same.upd{H0 H:Hp}{p:Addr}{o:HO}(s:Same H0 H)(h:H0 p=none):Same H0 (upd H p o):=fun b u e=>by rw[B6 (B2 e h)];exact s b u e
theorem Same.sm{D:List Addr}{H H':Hp}(h:Same H H'):Sm D H H':=fun b o e _=>h b o e
theorem Sm.refl(D:List Addr)(H:Hp):Sm D H H:=fun _ _ e _=>e
theorem Sm.trans{D:List Addr}{H H1 H2:Hp}(a:Sm D H H1)(b:Sm D H1 H2):Sm D H H2:=fun c o h n=>b c o (a c o h n) n
theorem Sm.new{D:List Addr}{H H1:Hp}{p:Addr}{o:HO}(a:Sm D H H1)(h:H1 p=none):Sm D H (L2.upd H1 p o):=fun b u e n=>by
 have:=a b u e n;rw[B6 (B2 this h)];exact this
theorem Sm.upd{D:List Addr}{H H1:Hp}{p:Addr}{o:HO}(a:Sm D H H1)(h:p∈D):Sm D H (L2.upd H1 p o):=fun b u e n=>by
 rw[B6 (show b≠p from fun z=>n (by rw[z];exact h))];exact a b u e n
theorem Sm.updN{D:List Addr}{H H1:Hp}{p:Addr}{o:HO}(a:Sm D H H1)(h:H p=none):Sm D H (L2.upd H1 p o):=fun b u e n=>by rw[B6 (B2 e h)];exact a b u e n
theorem KeepAt.seqL{K:PySem.W.Frag}{H H':Hp}{a:Addr}{xs:List V}(e:KeepAt a H H')(h:SqL K H a xs):SqL K H' a xs:=by
 rcases h with(h | ⟨o,h⟩) | h
 .exact .inl (.inl (e _ h))
 .exact .inl (.inr ⟨o,e _ h⟩)
 .exact .inr h
theorem KeepAt.seqT{K:PySem.W.Frag}{H H':Hp}{a:Addr}{xs:List V}(e:KeepAt a H H')(h:SqT K H a xs):SqT K H' a xs:=by
 rcases h with(h | ⟨o,h⟩) | h
 .exact .inl (.inl (e _ h))
 .exact .inl (.inr ⟨o,e _ h⟩)
 .exact .inr h
def Sqs(K:PySem.W.Frag)(H:Hp)(a:Addr)(xs:List V):Prop:=SqL K H a xs\/SqT K H a xs
theorem KeepAt.seq{K:PySem.W.Frag}{H H':Hp}{a:Addr}{xs:List V}(e:KeepAt a H H')(h:Sqs K H a xs):Sqs K H' a xs:=h.imp e.seqL e.seqT
structure AsSeq(J:It)(xs:List V)(a:Addr)(H0:Hp):Prop where
 go:∀H i,KeepAt a H0 H->i<xs.length->J.go i H
 stop:∀H,KeepAt a H0 H->J.stop xs.length H
 yld:∀H i x H',KeepAt a H0 H->i<xs.length->J.yld i H x H'->H'=H/\xs[i]?=some x
theorem asL{K:PySem.W.Frag}{H0:Hp}{a:Addr}{xs:List V}(h:SqL K H0 a xs):AsSeq (Itl K a) xs a H0 :=
 ⟨fun H i k hi=>⟨xs,xs[i],k.seqL h,AN hi⟩,fun H k=>⟨xs,k.seqL h,Nat.le_refl _⟩,fun H i x H' k hi ⟨e,y⟩=>⟨e,y xs (k.seqL h)⟩⟩
theorem Uf{J:It}{n:Nat}{g:TG}{tb:TS}{D:Ends}{σ:St}{H:Hp}(Pv:Nat->St->Hp->Prop)(h0:Pv 0 σ H)(hgo:∀i σ H,i<n->Pv i σ H->J.go i H)(hst:∀σ H,Pv n σ H->J.stop n H)
  (hs:∀i σ H x H',i<n->Pv i σ H->J.yld i H x H'->g x σ H' fun σ2 H2=>tb { D with nx:=Pv (i+1),ct:=Pv (i+1),bk:=D.nx } σ2 H2) (hd:∀σ H,Pv n σ H->D.nx σ H) :
  ∃W:Nat->Nat->St->Hp->Prop,(∃m,W 0 m σ H)/\∀i m σ H,W i m σ H ->
   (J.stop i H/\D.nx σ H)\/(J.go i H/\∃N:St->Hp->Prop,(∀σ' H',N σ' H'->∃m',m' < m/\W (i+1) m' σ' H')/\∀x H',J.yld i H x H'->g x σ H' fun σ2 H2=>tb { D with nx:=N,ct:=N,bk:=D.nx } σ2 H2):=by
 refine⟨fun i m σ H=>m=n-i/\i<=n/\Pv i σ H,⟨n,by simp,BT _,h0⟩,?_⟩;rintro i m σ H ⟨rfl,hi,p⟩;by_cases hlt:i<n
 .exact .inr ⟨hgo i σ H hlt p,Pv (i+1),fun σ' H' p'=>⟨n-(i+1),by omega,rfl,hlt,p'⟩,fun x H' y=>hs i σ H x H' hlt p y⟩
 .have e:i=n:=by omega
  subst e;exact .inl ⟨hst σ H p,hd σ H p⟩
theorem zCc{J:It}{xs:List V}{a:Addr}{H0:Hp}(as:AsSeq J xs a H0){g:TG}{tb:TS}{D:Ends}{σ:St}{H:Hp}(Pv:Nat->St->Hp->Prop)(h0:Pv 0 σ H)(hk:∀i σ H,i<=xs.length->Pv i σ H->KeepAt a H0 H)
  (hs:∀i σ H x,xs[i]?=some x->Pv i σ H->g x σ H fun σ2 H2=>tb { D with nx:=Pv (i+1),ct:=Pv (i+1),bk:=D.nx } σ2 H2) (hd:∀σ H,Pv xs.length σ H->D.nx σ H) :
  ∃W:Nat->Nat->St->Hp->Prop,(∃m,W 0 m σ H)/\∀i m σ H,W i m σ H ->
   (J.stop i H/\D.nx σ H)\/(J.go i H/\∃N:St->Hp->Prop,(∀σ' H',N σ' H'->∃m',m' < m/\W (i+1) m' σ' H')/\∀x H',J.yld i H x H'->g x σ H' fun σ2 H2=>tb { D with nx:=N,ct:=N,bk:=D.nx } σ2 H2) :=
 Uf (n:=xs.length) Pv h0 (fun i σ H hi p=>as.go H i (hk i σ H (DM hi) p) hi) (fun σ H p=>as.stop H (hk _ σ H (Nat.le_refl _) p)) (fun i σ H x H' hi p y=>by
  obtain⟨rfl,e⟩:=as.yld H i x H' (hk i σ H (DM hi) p) hi y;exact hs i σ _ x e p) hd
theorem Ft{J:It}{n:Nat}{g:TG}{tc:TT}{em:TEm}{σ:St}{H:Hp}{Q:St->Hp->Prop}(Pv:Nat->St->Hp->Prop)(h0:Pv 0 σ H)(hgo:∀i σ H,i<n->Pv i σ H->J.go i H)(hst:∀σ H,Pv n σ H->J.stop n H)
  (hs:∀i σ H x H' (N:St->Hp->Prop),i<n->Pv i σ H->J.yld i H x H'->(∀σ' H',Pv (i+1) σ' H'->N σ' H')->g x σ H' fun σ2 H2=>tc σ2 H2 fun b H3=>if b=true then em σ2 H3 N else N σ2 H3)
  (hd:∀σ H,Pv n σ H->Q σ H):Ej g tc em J σ H Q:=by
 refine⟨fun i m σ H=>m=n-i/\i<=n/\Pv i σ H,⟨n,by simp,BT _,h0⟩,?_⟩;rintro i m σ H ⟨rfl,hi,p⟩;by_cases hlt:i<n
 .exact .inr ⟨hgo i σ H hlt p,fun x H' y=>hs i σ H x H' _ hlt p y fun σ3 H4 p'=>⟨n-(i+1),by omega,rfl,hlt,p'⟩⟩
 .have e:i=n:=by omega
  subst e;exact .inl ⟨hst σ H p,hd σ H p⟩
theorem K7{J:It}{xs:List V}{a:Addr}{H0:Hp}(as:AsSeq J xs a H0){g:TG}{tc:TT}{em:TEm}{σ:St}{H:Hp}{Q:St->Hp->Prop}(Pv:Nat->St->Hp->Prop)(h0:Pv 0 σ H)(hk:∀i σ H,i<=xs.length->Pv i σ H->KeepAt a H0 H)
  (hs:∀i σ H x (N:St->Hp->Prop),xs[i]?=some x->Pv i σ H->(∀σ' H',Pv (i+1) σ' H'->N σ' H')->g x σ H fun σ2 H2=>tc σ2 H2 fun b H3=>if b=true then em σ2 H3 N else N σ2 H3)
  (hd:∀σ H,Pv xs.length σ H->Q σ H):Ej g tc em J σ H Q :=
 Ft (n:=xs.length) Pv h0 (fun i σ H hi p=>as.go H i (hk i σ H (DM hi) p) hi) (fun σ H p=>as.stop H (hk _ σ H (Nat.le_refl _) p)) (fun i σ H x H' N hi p y hN=>by
  obtain⟨rfl,e⟩:=as.yld H i x H' (hk i σ H (DM hi) p) hi y;exact hs i σ _ x N e p hN) hd
theorem X6{em:TEm}{N:St->Hp->Prop}{σ:St}{H:Hp}{i:Nat}{x:V}(h:em (σ.set i (some x)) H N):S7 i x σ H fun σ2 H2=>Dj σ2 H2 fun b H3=>if b=true then em σ2 H3 N else N σ2 H3:=by
 show if true=true then em (σ.set i (some x)) H N else N (σ.set i (some x)) H
 rw[AY rfl];exact h
section
variable{X:Cx}(K:PySem.W.Frag)(P:Program)(w:World){tg:Expr}
theorem piL{l:Expr}{tl:TE}(hl:PE X l tl)(hK:X.K=K:=by rfl):PI X tg l (zAw K tl):=by subst hK;exact Xs hl
theorem piE{elts:List Expr}{kk:Nat}{tp:Pos}{a:Expr}{ta:TA}{p pos:Pos}(hm:X.mg "enumerate" = none)(ha:PA X [a] ta)(hg:Gl X "enumerate":=by rfl)(hs:starEach [a] X.env = [(false,eval a X.env)]:=by rfl)(hK:X.K=K:=by rfl) :
  PI X (.Tuple elts kk tp) (.Call (.Name "enumerate" p) [a] [] pos) (zAj K ta):=by subst hK;exact Xe hg hm Fy ha hs
theorem Wy{a:Expr}{ta:TA}{p pos:Pos}(hm:X.mg "range" = none)(ha:PA X [a] ta)(hg:Gl X "range":=by rfl)(hs:starEach [a] X.env = [(false,eval a X.env)]:=by rfl):PI X tg (.Call (.Name "range" p) [a] [] pos) (Zi ta):=Rr hg hm ha hs
theorem pgT{es:List Expr}{k:Nat}{t:TGs}{n:Nat}{pos:Pos}(h:PGs X es t)(hc:X.calm=true:=by rfl)(hn:(assignEach es X.env).length=n:=by rfl)(hst:(assignEach es X.env).findIdx? (·.1)=none:=by rfl)(hK:X.K=K:=by rfl):PG X (.Tuple es k pos) (zCm K n t):=by subst hK;exact Zu hc h hn hst
theorem peF{e:Expr}{ta:TE}{f:Str}{pos:Pos}(he:PE X e ta)(hb:attributeBase e f X.env (eval e X.env)=eval e X.env:=by rfl)(hK:X.K=K:=by rfl):PE X (.Attribute e f pos) (zEh K ta f):=by subst hK;exact zCi he hb
theorem psF{o value:Expr}{ta tv:TE}{f:Str}{pos pos':Pos}(ha:PE X o ta)(hv:PE X value tv)(hs:swapsWith value (some (.Attribute o f pos')) pos.line X.env=pure false:=by rfl)(hK:X.K=K:=by rfl):PS X (.Assign [.Attribute o f pos'] value pos) (zDd K ta tv f):=by subst hK;exact zCh ha hv hs
theorem O8(hK:X.K=K:=by rfl):G8 X (.builtin "len") (fun xs H Q=>∃p ys,xs = [.ref p]/\(SqL K H p ys\/SqT K H p ys)/\Q (.int ys.length) H):=by subst hK;exact Fr
theorem R1(hK:X.K=K:=by rfl):G8 X (.type "list") (fun xs H Q=>∃p ys,xs = [.ref p]/\(SqL K H p ys\/SqT K H p ys)/\∀l,H l=none->Q (.ref l) (upd H l (.lst ys))):=by subst hK;exact Hs
theorem Kv(hc:X.calm=true:=by rfl)(hK:X.K=K:=by rfl):G8 X (.builtin "all") (fun xs H Q=>∃(p:Addr) (bs:List Bool),xs = [.ref p]/\SqL K H p (bs.map V.bl)/\Q (.bl (bs.all id)) H):=by subst hK;exact Ts hc
theorem O5(hK:X.K=K:=by rfl):G8 X (.builtin "sorted") (fun xs H Q=>∃(p:Addr) (ss:List Str),xs = [.ref p]/\SqL K H p (ss.map V.str)/\∀(l:Addr) (ss':List Str),H l=none->ss'.Perm ss->ss'.Pairwise leS->Q (.ref l) (upd H l (.lst (ss'.map V.str)))):=by subst hK;exact Fh
theorem Lk(hK:X.K=K:=by rfl):G8 X (.builtin "sorted") (fun xs H Q=>∃(p:Addr) (ps:List PA2),xs = [.ref p]/\SqL K H p (ps.map fun q=>V.ref q.1)/\(∀q∈ps,F4 H q)/\∀(l:Addr) (ps':List PA2),H l=none->ps'.Perm ps->ps'.Pairwise leP->Q (.ref l) (upd H l (.lst (ps'.map fun q=>V.ref q.1)))):=by subst hK;exact Fw
theorem Dx(hc:X.calm=true:=by rfl)(hw:X.w=w:=by rfl):G8 X (.builtin "sorted") (fun xs H Q=>∃(p:Addr) (ss:List Str),xs = [.ref p]/\H p=some (X7 w p ss)/\∀(l:Addr) (ss':List Str),H l=none->ss'.Perm ss->ss'.Pairwise leS->Q (.ref l) (upd H l (.lst (ss'.map V.str)))):=by subst hw;exact Hj hc
theorem J1(hK:X.K=K:=by rfl):G8 X (.builtin "isinstance") (fun xs H Q=>∃x n t b,xs = [x,.ty n]/\TyOf K H x t/\PySem.W.kitOne K t (.type n)=some b/\Q (.bl b) H):=by subst hK;exact Pt
theorem Yf(hP:X.prog=P:=by rfl)(hw:X.w=w:=by rfl):G8 X (.type "set") (fun xs H Q=>xs = []/\∀p,H p=none->Q (.ref p) (upd H p (Oc P w p []))):=by subst hP;subst hw;exact Qj
theorem Um(hP:X.prog=P:=by rfl)(hw:X.w=w:=by rfl):G8 X (.type "set") (fun xs H Q=>xs = []/\∀p,H p=none->Q (.ref p) (upd H p (Ny P w p []))):=by subst hP;subst hw;exact Mm
theorem zCw(hu:X.A.units+64<cLine)(hK:X.K=K:=by rfl):OpR X (compareOp .In) (Zh K false):=by subst hK;exact zAy hu
theorem Ut(hu:X.A.units+64<cLine)(hK:X.K=K:=by rfl):OpR X (compareOp .NotIn) (Zh K true):=by subst hK;exact Pd hu
theorem Tb(hu:X.A.units+64<cLine)(hK:X.K=K:=by rfl):OpR X (compareOp .Eq) (zCl K):=by subst hK;exact Zm hu
theorem Wm(hu:X.A.units+64<cLine)(hK:X.K=K:=by rfl):OpR X (compareOp .NotEq) (zCq K):=by subst hK;exact zBq hu
theorem S9(hK:X.K=K:=by rfl):OpR X (compareOp .In) (rIn K false):=by subst hK;exact Ra
theorem y9(hK:X.K=K:=by rfl):OpR X (compareOp .NotIn) (rIn K true):=by subst hK;exact Ht
theorem zDh(hP:X.prog=P:=by rfl)(hw:X.w=w:=by rfl):OpR X (compareOp .In) (zEg P w false):=by subst hP;subst hw;exact Pe
theorem zDm(hu:X.A.units+1<cLine)(hP:X.prog=P:=by rfl)(hw:X.w=w:=by rfl):OpR X (compareOp .In) (zEp P w):=by subst hP;subst hw;exact Mw hu
theorem Zo(hP:X.prog=P:=by rfl)(hw:X.w=w:=by rfl):MtM X "set.add" (zBg P w):=by subst hP;subst hw;exact Zt
theorem Zz(hu:X.A.units+1<cLine)(hP:X.prog=P:=by rfl)(hw:X.w=w:=by rfl):MtM X "set.add" (zAa P w):=by subst hP;subst hw;exact Ys hu
theorem Pg{o e:Expr}{to:TE}{t:TA}{apos cpos:Pos}{r:V->List V->Hp->VK->Prop}(hm:MtM X "set.add" r)(ho:PE X o to)(ha:PA X [e] t)
  (hbase:attributeBase o "add" X.env (eval o X.env)=eval o X.env:=by rfl)
  (hfew:((backTo cpos (starEach [e] X.env)).all (fun x=>!x.1) &&(backToKw cpos (keywordEach [] X.env)).all (fun x=>x.1.isSome)
   && decide ([e].length +([]:List Keyword).length +(if([]:List Keyword).isEmpty then 0 else 1)<30))=true:=by rfl)
  (hline:(apos.endLine == cpos.line)=true:=by rfl) (hs:starEach [e] X.env = [(false,eval e X.env)]:=by rfl) (hP:X.prog=P:=by rfl) (hw:X.w=w:=by rfl) :
  PE X (.Call (.Attribute o "add" apos) [e] [] cpos) (zEa P w r to t):=by subst hP;subst hw;exact Ye hm ho ha hbase hfew hline hs
theorem ixL(hK:X.K=K:=by rfl):IxR X (zDz K):=by subst hK;exact Xh
theorem ixT(hK:X.K=K:=by rfl):IxR X (zEq K):=by subst hK;exact Zj
theorem slL(hK:X.K=K:=by rfl):SlR X (zEn K):=by subst hK;exact Yj
theorem ptV{a:Expr}{ta:TE}(ha:PE X a ta)(he:∀whole,isTrue a X.env whole =(do let v <-whole;standAt a.pos;holding [v] (truthy v)):=by intro _;rfl)(hK:X.K=K:=by rfl):PT X a (fun σ H Q=>ta σ H fun x H'=>∃k,zDb K x H' k/\Q k H'):=by subst hK;exact Ue ha he
theorem Nz{T id:String}{name:Str}{o e:Expr}{es:List Expr}{to:TE}{t:TA}{apos cpos:Pos}{r:V->List V->Hp->VK->Prop}(pa:PlainAttrs T)(slot:Slot T name id)(hty:typeOf (.builtin id)=pure (.type "method_descriptor"))(hm:MtM X id r)(ho:PE X o to)(ha:PA X (e::es) t)
  (hbase:attributeBase o name X.env (eval o X.env)=eval o X.env:=by rfl)
  (hfew:((backTo cpos (starEach (e::es) X.env)).all (fun x=>!x.1) &&(backToKw cpos (keywordEach [] X.env)).all (fun x=>x.1.isSome)
   && decide ((e::es).length +([]:List Keyword).length +(if([]:List Keyword).isEmpty then 0 else 1)<30))=true:=by rfl)
  (hline:(apos.endLine == cpos.line)=true:=by rfl) (hs:starEach (e::es) X.env =(false,eval e X.env)::starEach es X.env:=by rfl) (hplain:(backTo cpos (starEach es X.env)).any (·.1)=false:=by rfl) (hK:X.K=K:=by rfl) :
  PE X (.Call (.Attribute o name apos) (e::es) [] cpos) (tBM K T r to t):=by subst hK;exact zDk pa slot hty hm ho ha hbase hfew hline hs hplain
theorem zDu{T id:String}{name:Str}{o:Expr}{to:TE}{apos cpos:Pos}{r:V->List V->Hp->VK->Prop}(pa:PlainAttrs T)(slot:Slot T name id)(hty:typeOf (.builtin id)=pure (.type "method_descriptor"))(hm:MtM X id r)(ho:PE X o to)
  (hbase:attributeBase o name X.env (eval o X.env)=eval o X.env:=by rfl) (hline:(apos.endLine == cpos.line)=true:=by rfl) (hK:X.K=K:=by rfl):PE X (.Call (.Attribute o name apos) [] [] cpos) (zEl K T r to):=by subst hK;exact zBe pa slot hty hm ho hbase hline
end
section
variable{X:Cx}
theorem Mx{pins:List (Addr×Obj)}{σ:St}{H:Hp}{s:Shared}{A:Around}{E:Value->Shared->Prop}{Q:Value->Shared->Prop}{b:Bool}{x:V}{u t:Value}{tp:Addr}{its:List Value}(I:Inv X pins σ H s)(rx:RelV x u)(ty:TyOf X.K H x t)(htp:IsTup s.heap tp its.toArray)(e:PySem.W.kitAny X.K t its=some b)(hv:(∃y,x = .str y)\/(∃a xs,x = .ref a/\(H a=some (.lst xs)\/H a=some (.tup xs))))(h:∀tk,Q (.bool b) { s with toks:=tk }) :
  wpAny (model X.prog X.w) A (call (.builtin "isinstance") [u,.ref tp]) Q E s:=by
 obtain⟨⟨oc,od,odt,osl⟩,ho,hc,n,hd⟩:=htp;cases hc;cases hd;rcases hv with⟨y,rfl⟩ | ⟨a,xs,rfl,ea | ea⟩
 .cases ty;obtain⟨t,q⟩:=(show ∃t,u=Value.str y t from rx);cases q;exact PySem.W.kia_tup PySem.W.kitx_str I.kIn True.intro ho e (fun z=>nomatch z) h
 .cases(show u=Value.ref a from rx);have hty:t = .type "list":=by cases ty with
   | lst=>rfl
   | frz=>rfl
   | tup ea'=>rw[ea]at ea';cases ea'
   | dK ea'=>rw[ea]at ea';cases ea'
   | dT ea'=>rw[ea]at ea';cases ea'
   | ins ea'=>rw[ea]at ea';cases ea'
  subst hty;obtain⟨_,_,n,_,h1⟩:=(show ObjOk X.prog X.w H s.heap a (.lst xs)from I.hok a _ ea);exact PySem.W.kia_tup PySem.W.kitx_list I.kIn ⟨_,h1,rfl⟩ ho e (fun z=>nomatch z) h
 .cases(show u=Value.ref a from rx);have hty:t = .type "tuple":=by cases ty with
   | tup=>rfl
   | frz ea'=>rw[ea]at ea';cases ea'
   | lst ea'=>rw[ea]at ea';cases ea'
   | dK ea'=>rw[ea]at ea';cases ea'
   | dT ea'=>rw[ea]at ea';cases ea'
   | ins ea'=>rw[ea]at ea';cases ea'
  subst hty;obtain⟨_,_,_,p⟩:=(show ObjOk X.prog X.w H s.heap a (.tup xs)from I.hok a _ ea);obtain⟨o,h1,h2,_⟩:=p;exact PySem.W.kia_tup PySem.W.kitx_tuple I.kIn ⟨o,h1,h2⟩ ho e (fun z=>nomatch z) h
def Xb(K:PySem.W.Frag):List V->Hp->VK->Prop:=fun xs H Q=>∃(x:V) (p:Addr) (ns:List String) (t:Value) (b:Bool),xs = [x,.ref p]/\H p=some (.tup (ns.map V.ty))/\TyOf K H x t/\((∃y,x = .str y)\/(∃a xs,x = .ref a/\(H a=some (.lst xs)\/H a=some (.tup xs))))/\PySem.W.kitAny K t (ns.map Value.type)=some b/\Q (.bl b) H
theorem Im:∀{ns:List String} {us:List Value},Vals (ns.map V.ty) us->us=ns.map Value.type
 | [],_,.nil=>rfl
 | _::_,_,.cons r t=>by rw[BM,Im t];cases r;rfl
theorem Nn:G8 X (.builtin "isinstance") (Xb X.K):=by
 intro pins s σ H xs us Q I r h;obtain⟨x,p,ns,t,b,rfl,hp,ht,hv,he,q⟩:=h;obtain⟨u,v,rfl,ru,rv⟩:=r.two;cases rv;obtain⟨its,rv,pl,hz⟩:=I.tuple (SqT.of hp);rw[Im rv]at pl;exact Mx I ru ht pl he hv fun tk=>⟨.bl b,H,I.tok _,rfl,q⟩
variable(K:PySem.W.Frag)
theorem Lc(hK:X.K=K:=by rfl):G8 X (.builtin "isinstance") (Xb K):=by subst hK;exact Nn
end
section
variable{prog:Program}{w:World}{A:Around}{E:Value->Shared->Prop}{s:Shared}{it l:Addr}{i:Nat}{items:Array Value}{x:Value}{Q:Value->Shared->Prop}
theorem Wv{α:Type}{Q:α->Shared->Prop}(hA:A.handled=none)(h:∀h' e,(∀b o,s.heap.get? b=some o->h'.get? b=some o)->(∃o,h'.get? e=some o/\o.cls = .type "StopIteration")->E (.ref e) { s with heap:=h' }):wpAny (model prog w) A (Builtin.SmallTypes.stopIteration (α:=α)) Q E s:=by
 refine AB (AB (GN (AB (AD (CP ?_ (sizeOk_excFields ..)))) (by show 0<=sizeLine;decide)));refine AB (wpAny_handled ?_);rw[hA];exact wpAny_throw (h _ _ (fun b o e=>AE _ (AE _ e)) ⟨_,BE _ rfl,rfl⟩)
theorem V1(hit:s.heap.IsTupleIter it l i)(hl:s.heap.IsTuple l items)(hx:items[i]?=some x)
  (hQ:∀h',h'.IsTupleIter it l (i+1)->Heap.SameBut it s.heap h'->Q x { s with heap:=h' }):wpAny (model prog w) A (Builtin.SmallTypes.nextOf (.ref it)) Q E s:=by
 obtain⟨o,ho,hc,hd⟩:=id hit;obtain⟨ol,hol,_,nl,hdl⟩:=hl;refine AB (DT hit.typeIs F.slot_tuple_iterator_next (CS F.slot_tuple_iterator_next hit.typeIs F.entry_tuple_iterator_next ?_ (F.args_tuple_iterator_next_1 _)));refine AB (AD (AB (EK ho hd rfl ?_)));refine DN (c:=(Value.ref l == Value.none)=true) rfl ?_;refine AB (EK ho hd rfl (AB (CU hol hdl ?_)));dsimp only;rw[show items[(i:Int).toNat]?=some x from hx];refine AB (EX ho hd (ET 1) (AD ⟨x,rfl,AD (hQ _ ⟨_,CF _ ho (Obj.isFreed_of_fields (Obj.data_mapFields hd _)),(Obj.cls_mapFields o _).trans hc,(Obj.data_mapFields hd _).trans ?_⟩ (DC _ _ _))⟩));rfl
theorem Cb(hA:A.handled=none)(hit:s.heap.IsTupleIter it l i)(hl:s.heap.IsTuple l items)(hx:items[i]?=none)
  (hE:∀h' e,Heap.ExtBut it s.heap h'->(∃o,h'.get? e=some o/\o.cls = .type "StopIteration")->E (.ref e) { s with heap:=h' }):wpAny (model prog w) A (Builtin.SmallTypes.nextOf (.ref it)) Q E s:=by
 obtain⟨o,ho,hc,hd⟩:=id hit;obtain⟨ol,hol,_,nl,hdl⟩:=hl;refine AB (DT hit.typeIs F.slot_tuple_iterator_next (CS F.slot_tuple_iterator_next hit.typeIs F.entry_tuple_iterator_next ?_ (F.args_tuple_iterator_next_1 _)));refine AB (AD (AB (EK ho hd rfl ?_)));refine DN (c:=(Value.ref l == Value.none)=true) rfl ?_;refine AB (EK ho hd rfl (AB (CU hol hdl ?_)));dsimp only;rw[show items[(i:Int).toNat]?=none from hx];refine AB (DH (AB (EX ho hd (FG 1) ?_)));exact Wv hA fun h' e k ho=>hE h' e (fun b o hb e=>k b o (((DC _ _ _).2 b hb).trans e)) ho
theorem Sj{M:Model}{α β:Type}{a b:α}{i u v:β}{f:α->β->Sem (ForInStep β)}{Q:β->Shared->Prop}(h:wpAny M A (f a i) (fun r s'=>r = .yield u/\wpAny M A (f b u) (fun r s'=>r = .yield v/\Q v s') E s') E s):wpAny M A (forIn [a,b] i f) Q E s:=by
 rw[GG];refine AB (CA h (fun r s' z=>?_) fun e s' z=>z);obtain⟨rfl,z⟩:=z;show wpAny M A (forIn [b] u f) Q E s';rw[GG];refine AB (CA z (fun r s' z=>?_) fun e s' z=>z);obtain⟨rfl,z⟩:=z;exact AD z
theorem Cg{z TI TO i1 i2 l1 l2:Addr}{k1 k2:Nat}{xs ys:Array Value}{x y a b:Value}(D:ZipApart z TI TO i1 i2 l1 l2)(hz:IsZip s.heap z TI TO .none)(hti:IsPair s.heap TI (.ref i1) (.ref i2))(hto:IsPair s.heap TO a b)
  (h1:s.heap.IsTupleIter i1 l1 k1) (h2:s.heap.IsTupleIter i2 l2 k2) (g1:s.heap.IsTuple l1 xs) (g2:s.heap.IsTuple l2 ys) (hx:xs[k1]?=some x) (hy:ys[k2]?=some y)
  (hQ:∀h',IsZip h' z TI TO (rawInt s.heap.objs.size)->IsPair h' TO x y->h'.IsTupleIter i1 l1 (k1+1)->h'.IsTupleIter i2 l2 (k2+1)->IsPair h' s.heap.objs.size x y->h'.objs.size=s.heap.objs.size+1->(∀c o,c≠z->c≠TO->c≠i1->c≠i2->s.heap.get? c=some o->h'.get? c=some o)->Q (.ref s.heap.objs.size) { s with heap:=h' }) :
  wpAny (model prog w) A (Builtin.«zip.__next__» ⟨[.ref z],[]⟩) (fun fin s'=>∃v,fin = .done (.ret v)/\Q v s') E s:=by
 obtain⟨h0,gg,dd,tt,oo⟩:=s;refine AB (AD (AB (EK hz rfl rfl (AB (EK hz rfl rfl (AB (CU hti rfl ?_)))))));refine DN rfl (AB (AB (EK hz rfl rfl (AD (GS rfl ?_)))));refine AB (DH (AB (EK hz rfl rfl (AB (FL hz (FG 4) fun h3 z3 s3=>?_)))));have a3:=h1.extBut s3.extBut D.i1z;have b3:=h2.extBut s3.extBut D.i2z;have c3:=g1.extBut s3.extBut D.l1z;have d3:=g2.extBut s3.extBut D.l2z;have e3:=(s3.2 TO D.TOz).trans hto;refine AB ?_;rw[show(#[Value.ref i1,Value.ref i2].toList.zipIdx) = [(Value.ref i1,0),(Value.ref i2,1)]from rfl];refine Sj (u:=(none,())) (v:=(none,())) ?_;refine AB (wpAny_onRaise (DN rfl (AB (V1 a3 c3 hx fun h4 a4 s4=>AD ?_))));have e4:=(s4.2 TO D.TOi1).trans e3;refine AB (CU e4 rfl (AB (wpAny_updateSeq_pair e4 fun h5 e5 s5=>AB (HB (AD ⟨rfl,?_⟩)))));have b5:=(b3.extBut s4.extBut D.i12.symm).extBut s5.extBut D.TOi2.symm;have d5:=(d3.extBut s4.extBut D.l2i1).extBut s5.extBut D.l2TO;refine AB (wpAny_onRaise (DN rfl (AB (V1 b5 d5 hy fun h6 b6 s6=>AD ?_))));have e6:=(s6.2 TO D.TOi2).trans e5;refine AB (CU e6 rfl (AB (wpAny_updateSeq_pair e6 fun h7 e7 s7=>AB (HB (AD ⟨rfl,?_⟩)))));have z7:=(s7.2 z D.TOz.symm).trans ((s6.2 z D.i2z.symm).trans ((s5.2 z D.TOz.symm).trans ((s4.2 z D.i1z.symm).trans z3)));have hs:h7.objs.size=h0.objs.size:=s7.1.trans (s6.1.trans (s5.1.trans (s4.1.trans s3.1)));have n0:∀{c:Addr} {o:Obj},h0.get? c=some o->c≠h7.objs.size:=fun e=>by rw[hs];exact BD (AJ e)
 refine AB (CU e7 rfl (AB (GN (AB (AB (FL (AE _ z7) (FG 4) fun h8 z8 s8=>FL z8 (Nat.succ_lt_succ (FG 3)) fun h9 z9 s9=>AD ⟨_,rfl,?_⟩))) (by show 2<=sizeLine;decide))));have k9:∀{c:Addr} {o:Obj},c≠z->h7.get? c=some o->h9.get? c=some o:=fun nz e=>(s9.2 _ nz).trans ((s8.2 _ nz).trans (AE _ e));have sz9:h9.objs.size=h0.objs.size+1:=s9.1.trans (s8.1.trans ((CB ..).trans (congrArg (· + 1) hs)));have tk:h9.get? h7.objs.size=some ⟨.type "tuple",none,.seq #[x,y],#[]⟩:=(s9.2 _ (n0 hz).symm).trans ((s8.2 _ (n0 hz).symm).trans (BE _ rfl));rw[hs]at z9 tk⊢;refine hQ h9 z9 (k9 D.TOz e7) (a4.at fun o e=>?_) (b6.at fun o e=>?_) tk sz9 fun c o nz nt n1 n2 e=>k9 nz ?_
 .exact k9 D.i1z ((s7.2 _ D.TOi1.symm).trans ((s6.2 _ D.i12).trans ((s5.2 _ D.TOi1.symm).trans e)))
 .exact k9 D.i2z ((s7.2 _ D.TOi2.symm).trans e)
 .exact(s7.2 _ nt).trans ((s6.2 _ n2).trans ((s5.2 _ nt).trans ((s4.2 _ n1).trans ((s3.2 _ nz).trans e))))
theorem En{z TI TO i1 i2 l1 l2:Addr}{k1:Nat}{xs:Array Value}{Q:PySem.Fin->Shared->Prop}(hA:A.handled=none)(D:ZipApart z TI TO i1 i2 l1 l2)(hz:IsZip s.heap z TI TO .none)(hti:IsPair s.heap TI (.ref i1) (.ref i2))
  (h1:s.heap.IsTupleIter i1 l1 k1) (g1:s.heap.IsTuple l1 xs) (hx:xs[k1]?=none)
  (hE:∀h' e,(∀c o,c≠z->c≠TO->c≠i1->c≠i2->s.heap.get? c=some o->h'.get? c=some o)->(∃o,h'.get? e=some o/\o.cls = .type "StopIteration")->E (.ref e) { s with heap:=h' }) :
  wpAny (model prog w) A (Builtin.«zip.__next__» ⟨[.ref z],[]⟩) Q E s:=by
 obtain⟨h0,gg,dd,tt,oo⟩:=s;refine AB (AD (AB (EK hz rfl rfl (AB (EK hz rfl rfl (AB (CU hti rfl ?_)))))));refine DN rfl (AB (AB (EK hz rfl rfl (AD (GS rfl ?_)))));refine AB (DH (AB (EK hz rfl rfl (AB (FL hz (FG 4) fun h3 z3 s3=>?_)))));refine AB ?_;rw[show(#[Value.ref i1,Value.ref i2].toList.zipIdx) = [(Value.ref i1,0),(Value.ref i2,1)]from rfl,GG];refine AB (AB (wpAny_onRaise (DN rfl (AB (Cb hA (h1.extBut s3.extBut D.i1z) (g1.extBut s3.extBut D.l1z) hx fun h4 e k4 ho=>?_)))));refine FL (k4 z _ D.i1z.symm z3) (FG 4) fun h5 z5 s5=>hE h5 e (fun c o nz _ n1 _ e=>(s5.2 _ nz).trans (k4 c o n1 ((s3.2 _ nz).trans e))) ?_;obtain⟨o,ho,hc⟩:=ho;have ne:e≠z:=fun q=>by
  subst q;rw[k4 e _ D.i1z.symm z3]at ho;cases ho;exact absurd (show Value.type "zip" = .type "StopIteration" from hc) (by decide)
 exact⟨o,(s5.2 _ ne).trans ho,hc⟩
theorem Lh{z TI TO:Addr}{f0:Value}(hz:IsZip s.heap z TI TO f0):s.TypeIs (.ref z) "zip":=⟨_,hz,rfl⟩
theorem Ym(hA:A.handled=none)(z TI TO i1 i2 l1 l2:Addr)(D:ZipApart z TI TO i1 i2 l1 l2)(xs ys:Array Value)(hl:xs.size<=ys.size) :
  WalksT prog w A z [z,TI,TO,i1,i2,l1,l2] [z,TO,i1,i2] xs.size (fun i vals=>∃x y,xs[i]?=some x/\ys[i]?=some y/\vals = #[x,y])
   (fun i h=>IsZip h z TI TO .none/\IsPair h TI (.ref i1) (.ref i2)/\(∃a b,IsPair h TO a b)/\h.IsTupleIter i1 l1 i/\h.IsTupleIter i2 l2 i/\h.IsTuple l1 xs/\h.IsTuple l2 ys)
   (fun i T h=>IsZip h z TI TO (rawInt T)/\IsPair h TI (.ref i1) (.ref i2)/\(∃a b,IsPair h TO a b)/\h.IsTupleIter i1 l1 (i+1)/\h.IsTupleIter i2 l2 (i+1)/\h.IsTuple l1 xs/\h.IsTuple l2 ys/\T≠z/\T≠TO/\T≠i1/\T≠i2) where
 sub:=by simp
 frame:=fun i h h' ⟨h1,h2,⟨a,b,h3⟩,h4,h5,h6,h7⟩ k=>⟨k z (by simp) _ h1,k TI (by simp) _ h2,⟨a,b,k TO (by simp) _ h3⟩,h4.at (k i1 (by simp)),h5.at (k i2 (by simp)),h6.at (k l1 (by simp)),h7.at (k l2 (by simp))⟩
 item:=fun i s Q E hi ⟨h1,h2,⟨a,b,h3⟩,h4,h5,h6,h7⟩ hQ=>by
  have hx:xs[i]?=some xs[i]:=Array.getElem?_eq_getElem hi;have hy:ys[i]?=some (ys[i]'(BH hi hl)):=Array.getElem?_eq_getElem _;refine AB (G_ (DT (Lh h1) F.slot_zip_next (CS F.slot_zip_next (Lh h1) F.entry_zip_next (Cg D h1 h2 h3 h4 h5 h6 h7 hx hy fun h' z' o' a' b' t' sz k=>AD ?_) (F.args_zip_next_1 _))));refine hQ _ _ h' s.toks ⟨_,_,hx,hy,rfl⟩ (Nat.le_refl _) ⟨_,t',rfl,_,rfl⟩ ⟨z',k TI _ D.TIz D.TITO D.TIi1 D.TIi2 h2,⟨_,_,o'⟩,a',b',h6.at fun o e=>k l1 o D.l1z D.l1TO D.l1i1 D.l1i2 e,h7.at fun o e=>k l2 o D.l2z D.l2TO D.l2i1 D.l2i2 e,?_,?_,?_,?_⟩ fun b o hb e=>?_
  .exact(BD (AJ h1)).symm
  .exact(BD (AJ h3)).symm
  .obtain⟨o,e,_⟩:=h4;exact(BD (AJ e)).symm
  .obtain⟨o,e,_⟩:=h5;exact(BD (AJ e)).symm
  .simp only[AX,AM,or_false,not_or]at hb;exact k b o hb.1 hb.2.1 hb.2.2.1 hb.2.2.2 e
 go:=fun elts k pos i T s Q E ⟨h1,h2,⟨a,b,h3⟩,h4,h5,h6,h7,_⟩ hQ=>wpAny_letOwnedTupleGo_zip h1 fun h' z' k'=>hQ h' ⟨z',(k'.2 _ D.TIz).trans h2,⟨a,b,(k'.2 _ D.TOz).trans h3⟩,h4.extBut k'.extBut D.i1z,h5.extBut k'.extBut D.i2z,h6.extBut k'.extBut D.l1z,h7.extBut k'.extBut D.l2z⟩ fun b o hb e=>(k'.2 b fun q=>hb (by rw[q];exact AW ..)).trans e
 apart:=fun i T h ⟨_,_,_,_,_,_,_,n1,n2,n3,n4⟩ hm=>by
  simp only[AX,AM,or_false]at hm;rcases hm with e | e | e | e
  .exact n1 e
  .exact n2 e
  .exact n3 e
  .exact n4 e
 done:=fun s Q E ⟨h1,h2,⟨a,b,h3⟩,h4,h5,h6,h7⟩ hQ=>by
  have hx:xs[xs.size]?=none:=ER (Nat.le_refl _);refine AB (G_ (DT (Lh h1) F.slot_zip_next (CS F.slot_zip_next (Lh h1) F.entry_zip_next (En hA D h1 h2 h4 h6 hx fun h' e k ho=>?_) (F.args_zip_next_1 _))));obtain⟨o,ho,hc⟩:=ho;refine AB (GW ⟨o,ho,hc⟩ isSubtype_stop (AD (hQ h' s.toks fun b o hb e=>?_)));simp only[AX,AM,or_false,not_or]at hb;exact k b o hb.1 hb.2.1 hb.2.2.1 hb.2.2.2 e
 self:=fun i s Q E ⟨h1,_⟩ q=>GY h1 q
end
section
variable{prog:Program}{w:World}{A:Around}{E:Value->Shared->Prop}{s:Shared}
theorem Hu{M:Model}{T:String}{vs:List Value}{Q:Value->Shared->Prop}(h:Q (.ref s.heap.objs.size) { s with heap:=s.heap.push { cls:=.type T,data:=.fields vs.toArray } })(hs:sizeOk (.fields vs.toArray)):wpAny M A (Builtin.SmallTypes.newRecord (.type T) vs) Q E s:=CP h hs
theorem Rs{l1 l2:Addr}{xs ys:Array Value}{Q:Value->Shared->Prop}(g1:s.heap.IsTuple l1 xs)(g2:s.heap.IsTuple l2 ys)
  (hQ:∀h',IsZip h' (s.heap.objs.size+4) (s.heap.objs.size+2) (s.heap.objs.size+3) .none->IsPair h' (s.heap.objs.size+2) (.ref s.heap.objs.size) (.ref (s.heap.objs.size+1))->IsPair h' (s.heap.objs.size+3) .none .none ->
   h'.IsTupleIter s.heap.objs.size l1 0->h'.IsTupleIter (s.heap.objs.size+1) l2 0->(∀c o,s.heap.get? c=some o->h'.get? c=some o)->Q (.ref (s.heap.objs.size+4)) { s with heap:=h' }) :
  wpAny (model prog w) A (call (.type "zip") [.ref l1,.ref l2]) Q E s:=by
 refine callType_new (S:=fun A R s'=>s'=s/\∀h',IsZip h' (s.heap.objs.size+4) (s.heap.objs.size+2) (s.heap.objs.size+3) .none->IsPair h' (s.heap.objs.size+2) (.ref s.heap.objs.size) (.ref (s.heap.objs.size+1))->IsPair h' (s.heap.objs.size+3) .none .none ->
   h'.IsTupleIter s.heap.objs.size l1 0->h'.IsTupleIter (s.heap.objs.size+1) l2 0->(∀c o,s.heap.get? c=some o->h'.get? c=some o)->R (.ok (.ret (.ref (s.heap.objs.size+4)))) { s with heap:=h' }) F.called_zip rfl (F.typeCall_zip_2 _ _) (F.newCall_zip_2 _ _) (fun _=>F.args_object_init_3 _ _ _) F.entry_zip_new (.of_wp fun prog w A R s' hR=>?_) ⟨rfl,fun h' z1 z2 z3 z4 z5 k=>⟨⟨_,z1,rfl⟩,hQ h' z1 z2 z3 z4 z5 k⟩⟩
 obtain⟨rfl,hR⟩:=hR;obtain⟨h0,gg,dd,tt,oo⟩:=s';refine AB (AB (AD (DN rfl (AB (EJ sub_zip (DN rfl (AD ?_)))))))
 let h1:=h0.push { cls:=.type "tuple_iterator",data:=.fields #[.ref l1,.int 0 0] }
 let h2:=h1.push { cls:=.type "tuple_iterator",data:=.fields #[.ref l2,.int 0 0] }
 let h3:=h2.push { cls:=.type "tuple",data:=.seq #[.ref h0.objs.size,.ref h1.objs.size] }
 let h4:=h3.push { cls:=.type "tuple",data:=.seq #[.none,.none] }
 have e1:h1.objs.size=h0.objs.size+1:=CB ..;have e2:h2.objs.size=h0.objs.size+2:=(CB ..).trans (congrArg (· + 1) e1);have e3:h3.objs.size=h0.objs.size+3:=(CB ..).trans (congrArg (· + 1) e2);have e4:h4.objs.size=h0.objs.size+4:=(CB ..).trans (congrArg (· + 1) e3);have g2':h1.IsTuple l2 ys:=g2.at fun o e=>AE _ e;have p0:h1.get? h0.objs.size=some { cls:=.type "tuple_iterator",data:=.fields #[.ref l1,.int 0 0] }:=BE _ rfl;have p1:h2.get? h1.objs.size=some { cls:=.type "tuple_iterator",data:=.fields #[.ref l2,.int 0 0] }:=BE _ rfl;have p2:h3.get? h2.objs.size=some { cls:=.type "tuple",data:=.seq #[.ref h0.objs.size,.ref h1.objs.size] }:=BE _ rfl;have p3:h4.get? h3.objs.size=some { cls:=.type "tuple",data:=.seq #[.none,.none] }:=BE _ rfl;have u:∀{h:Heap} {o:Obj} {c:Addr} {q:Obj},h.get? c=some q->(h.push o).get? c=some q:=fun e=>AE _ e;refine DN rfl (AB (AB (Sj (u:=#[.ref h0.objs.size]) (v:=#[.ref h0.objs.size,.ref h1.objs.size]) (AB (BU (GK g1 (AD ⟨rfl,AB (BU (GK g2' (AD ⟨rfl,AD ?_⟩)))⟩)))))));refine AB (GN (AB (GN (AB (Hu (AD ⟨_,rfl,?_⟩) ?_)) (by show 2<=sizeLine;decide))) (by show 2<=sizeLine;decide))
 .have hz:=BE h4 (o:={ cls:=.type "zip",data:=.fields #[.none,.bool false,.bool false,.ref h2.objs.size,.ref h3.objs.size] }) rfl;have q:=hR (h4.push { cls:=.type "zip",data:=.fields #[.none,.bool false,.bool false,.ref h2.objs.size,.ref h3.objs.size] });rw[show(Shared.mk h0 gg dd tt oo).heap.objs.size=h0.objs.size from rfl,<-e1,<-e2,<-e3,<-e4]at q;exact q hz (u (u p2)) (u p3) ⟨_,u (u (u (u p0))),rfl,rfl⟩ ⟨_,u (u (u p1)),rfl,rfl⟩ fun c o e=>u (u (u (u (u e))))
 .show 5<=sizeLine+2;decide
end
def Zg(sq:Hp->Addr->List V->Prop)(a b:Addr):It :=
  ⟨fun i H=>∃xs ys x y,sq H a xs/\sq H b ys/\xs.length<=ys.length/\xs[i]?=some x/\ys[i]?=some y,fun i H v H'=>∃T x y,v = .ref T/\H T=none/\H'=upd H T (.tup [x,y])/\(∀xs,sq H a xs->xs[i]?=some x)/\∀ys,sq H b ys->ys[i]?=some y,
   fun i H=>∃xs ys,sq H a xs/\sq H b ys/\xs.length<=ys.length/\xs.length=i⟩
def So(isIt:Heap->Addr->Addr->Nat->Prop)(z TI TO i1 i2 a b:Addr)(i:Nat)(h:Heap):Prop:=IsZip h z TI TO .none/\IsPair h TI (.ref i1) (.ref i2)/\(∃u v,IsPair h TO u v)/\isIt h i1 a i/\isIt h i2 b i
section
variable{P:Program}{w:World}{K:PySem.W.Frag}{elts:List Expr}{kk:Nat}{tp:Pos}{isIt:Heap->Addr->Addr->Nat->Prop}{isq:Heap->Addr->Array Value->Prop}{sq:Hp->Addr->List V->Prop}
theorem Hn(oI:∀h c l i,isIt h c l i->∃o,h.get? c=some o/\∀v,o.data≠ .cell v)(kI:∀h h' c l i,isIt h c l i->(∀o,h.get? c=some o->h'.get? c=some o)->isIt h' c l i)
  (gI:∀(X:Cx) pins σ H s c xs,X.K=K->Inv X pins σ H s->sq H c xs->∃its,Vals xs its/\isq s.heap c its.toArray) (uI:∀(X:Cx) pins σ H s c xs ys,X.K=K->Inv X pins σ H s->sq H c xs->sq H c ys->xs=ys)
  (z TI TO i1 i2 a b:Addr) (WI:∀(A:Around),A.handled=none->∀xs ys:Array Value,xs.size<=ys.size->WalksT P w A z [z,TI,TO,i1,i2,a,b] [z,TO,i1,i2] xs.size (fun i vals=>∃x y,xs[i]?=some x/\ys[i]?=some y/\vals = #[x,y])
   (fun i h=>IsZip h z TI TO .none/\IsPair h TI (.ref i1) (.ref i2)/\(∃a b,IsPair h TO a b)/\isIt h i1 a i/\isIt h i2 b i/\isq h a xs/\isq h b ys)
   (fun i T h=>IsZip h z TI TO (rawInt T)/\IsPair h TI (.ref i1) (.ref i2)/\(∃a b,IsPair h TO a b)/\isIt h i1 a (i+1)/\isIt h i2 b (i+1)/\isq h a xs/\isq h b ys/\T≠z/\T≠TO/\T≠i1/\T≠i2)) :
  Turn P w K (.Tuple elts kk tp) (Zg sq a b) [z,TI,TO,i1,i2] z (So isIt z TI TO i1 i2 a b) where
 mem:=AW ..
 obj:=fun i h st c hc=>by
  obtain⟨h1,h2,⟨u,v,h3⟩,h4,h5⟩:=st;simp only[AX,AM,or_false]at hc;rcases hc with rfl | rfl | rfl | rfl | rfl
  .exact⟨_,h1,fun v z=>by cases z⟩
  .exact⟨_,h2,fun v z=>by cases z⟩
  .exact⟨_,h3,fun v z=>by cases z⟩
  .exact oI _ _ _ _ h4
  .exact oI _ _ _ _ h5
 keep:=fun i h h' st k=>by
  obtain⟨h1,h2,⟨u,v,h3⟩,h4,h5⟩:=st;exact⟨k z (by simp) _ h1,k TI (by simp) _ h2,⟨u,v,k TO (by simp) _ h3⟩,kI _ _ _ _ _ h4 (k i1 (by simp)),kI _ _ _ _ _ h5 (k i2 (by simp))⟩
 item:=by
  intro X hP hw hK hc i pins s σ H E I hf st hg;subst hP hw;obtain⟨xs,ys,x,y,hq,hr,hle,hx,hy⟩:=hg;obtain⟨its,rv,p⟩:=gI _ _ _ _ _ _ _ hK I hq;obtain⟨jts,rw_,p'⟩:=gI _ _ _ _ _ _ _ hK I hr;obtain⟨u,hu,ru⟩:=rv.get hx;obtain⟨v,hv,rv'⟩:=rw_.get hy;have hl:=rv.length;have hl':=rw_.length;have W:=WI X.A (I.ok.hd hc) its.toArray jts.toArray (by rw[A_,A_,<-hl,<-hl'];exact hle);have hi:i<its.toArray.size:=by rw[A_];exact(AU.mp hu).1
  obtain⟨s1,s2,s3,s4,s5⟩:=id st;refine W.item i s _ _ hi ⟨s1,s2,s3,s4,s5,p,p'⟩ fun T vals h' tk hvs hT ht hm k=>?_;obtain⟨x',y',hx',hy',rfl⟩:=hvs;have ex:x'=u:=BV (hx'.symm.trans ((ED ..).trans hu));have ey:y'=v:=BV (hy'.symm.trans ((ED ..).trans hv));subst ex ey;refine⟨.ref T,rfl,W.go elts kk tp i T _ _ _ hm fun h2 st2 k2=>?_⟩;have kk2:∀b o,b∉[z,TI,TO,i1,i2]->s.heap.get? b=some o->h2.get? b=some o:=fun c o hc' ec=>by
   have n4:c∉[z,TO,i1,i2]:=fun m=>hc' (by
    simp only[AX,AM,or_false]at m⊢;exact m.imp_right .inr)
   exact k2 c o n4 (k c o n4 ec)
  have hT2:h2.IsTuple T #[x',y']:=ht.at fun o e=>k2 T o (W.apart i T h' hm) e;have gone:∀c∈[z,TI,TO,i1,i2],∃ob,s.heap.get? c=some ob:=fun c hc'=>by
   obtain⟨u3,v3,h3⟩:=s3;obtain⟨o4,h4,_⟩:=oI _ _ _ _ s4;obtain⟨o5,h5,_⟩:=oI _ _ _ _ s5;simp only[AX,AM,or_false]at hc';rcases hc' with rfl | rfl | rfl | rfl | rfl
   .exact⟨_,s1⟩
   .exact⟨_,s2⟩
   .exact⟨_,h3⟩
   .exact⟨_,h4⟩
   .exact⟨_,h5⟩
  refine⟨.ref T,upd H T (.tup [x,y]),I.turnLaid (fp:=[z,TI,TO,i1,i2]) kk2 hf gone hT ⟨?_,[x',y'],.cons ru (.cons rv' .nil),hT2⟩,rfl,⟨T,x,y,rfl,I.hok.fresh hT,rfl,fun zs hz=>by rw[uI _ _ _ _ _ _ _ _ hK I hz hq];exact hx,fun zs hz=>by rw[uI _ _ _ _ _ _ _ _ hK I hz hr];exact hy⟩,⟨st2.1,st2.2.1,st2.2.2.1,st2.2.2.2.1,st2.2.2.2.2.1⟩,fun c hc'=>?_⟩
  .show 2<=sizeLine;decide
  .obtain⟨ob,eb⟩:=gone c hc';rw[B6 (BD (BH (AJ eb) hT))];exact(hf c hc').1
 done:=by
  intro X hP hw hK hc i pins s σ H E I hf st hg;subst hP hw;obtain⟨xs,ys,hq,hr,hle,hx⟩:=hg;obtain⟨its,rv,p⟩:=gI _ _ _ _ _ _ _ hK I hq;obtain⟨jts,rw_,p'⟩:=gI _ _ _ _ _ _ _ hK I hr;have hl:=rv.length;have hl':=rw_.length;have W:=WI X.A (I.ok.hd hc) its.toArray jts.toArray (by rw[A_,A_,<-hl,<-hl'];exact hle);have hi:i=its.toArray.size:=by rw[A_,<-hl,hx]
  obtain⟨s1,s2,s3,s4,s5⟩:=id st;rw[hi]at s4 s5;refine W.done s _ _ ⟨s1,s2,s3,s4,s5,p,p'⟩ fun h' tk k=>⟨rfl,?_⟩;have nf:∀b u,H b=some u->b∉[z,TI,TO,i1,i2]:=fun b u e hb=>by rw[(hf b hb).1]at e;cases e
  have k':∀c o,c∉[z,TI,TO,i1,i2]->s.heap.get? c=some o->h'.get? c=some o:=fun c o hc' ec=>k c o (fun m=>hc' (by
    simp only[AX,AM,or_false]at m⊢;exact m.imp_right .inr)) ec
  refine I.step (h':=h') (H':=H) (t':=tk) (g':=s.gens) (d':=s.drawn) (ch:=[z,TI,TO,i1,i2]) (fun b hb=>let⟨_,f1,_,f3,f4,f5⟩:=hf b hb;⟨f3,f1,f4,f5⟩) (fun b ob _ _ hc e _=>k' b ob hc e) (fun b ob _ _ hc e _=>⟨ob.slots,k' b ob hc e⟩) (fun _ _ _ _ n=>n)
   (fun b ob hc e=>⟨ob,k' b ob hc e⟩) (fun _ _ e=>e) (fun _ _ _ e=>e) (fun b ps e=>⟨#[],by rw[e];simp⟩) (fun m hm=>?_) (fun b u eb=>?_) I.bare
  .obtain⟨ob,es,ep,ho,r⟩:=hm;exact⟨ob,es,ep,k' _ ob (fun hb=>(hf _ hb).2.1 rfl) ho,r⟩
  .refine(I.hok b u eb).stay (fun c v hc q=>k' c v ?_ q) (fun _ q=>q) fun _ _ q=>q;rcases hc with z | z
   .rw[z];exact nf b u eb
   .exact nf c _ z
 self:=fun A i s Q E st h=>GY st.1 h
theorem Ol(z TI TO i1 i2 a b:Addr)(D:ZipApart z TI TO i1 i2 a b):Turn P w K (.Tuple elts kk tp) (Zg (SqL K) a b) [z,TI,TO,i1,i2] z (So Heap.IsListIter z TI TO i1 i2 a b) :=
 Hn (isq:=Heap.IsList) (fun h c l i ⟨o,e,_,d⟩=>⟨o,e,fun v z=>by rw[d]at z;cases z⟩) (fun h h' c l i z k=>z.at k) (fun X pins σ H s c xs hK I hq=>by subst hK;obtain⟨its,rv,p,_⟩:=I.list hq;exact⟨its,rv,p.isList⟩) (fun X pins σ H s c xs ys hK I hq hr=>by subst hK;exact I.list_inj hq hr)
  z TI TO i1 i2 a b fun A hA xs ys hl=>by
   have W:=WalksT.zip2 (prog:=P) (w:=w) hA z TI TO i1 i2 a b D xs ys
   rwa [DZ hl]at W
theorem Oy(z TI TO i1 i2 a b:Addr)(D:ZipApart z TI TO i1 i2 a b):Turn P w K (.Tuple elts kk tp) (Zg (SqT K) a b) [z,TI,TO,i1,i2] z (So Heap.IsTupleIter z TI TO i1 i2 a b) :=
 Hn (isq:=Heap.IsTuple) (fun h c l i ⟨o,e,_,d⟩=>⟨o,e,fun v z=>by rw[d]at z;cases z⟩) (fun h h' c l i z k=>z.at k) (fun X pins σ H s c xs hK I hq=>by subst hK;obtain⟨its,rv,p,_⟩:=I.tuple hq;exact⟨its,rv,p⟩) (fun X pins σ H s c xs ys hK I hq hr=>by subst hK;exact I.tuple_inj hq hr)
  z TI TO i1 i2 a b fun A hA xs ys hl=>Ym hA z TI TO i1 i2 a b D xs ys hl
end
section
variable{X:Cx}{elts:List Expr}{kk:Nat}{tp:Pos}
def zEb(K:PySem.W.Frag)(R:It->Hp->Prop)(a b:Addr)(xs ys:List V)(H:Hp):Prop:=SqL K H a xs/\SqL K H b ys/\R (Zg (SqL K) a b) H\/SqT K H a xs/\SqT K H b ys/\R (Zg (SqT K) a b) H
def zCa(K:PySem.W.Frag)(ta:TA):TI:=fun σ H R=>ta σ H fun vs H1=>∃a b xs ys,vs = [.ref a,.ref b]/\zEb K R a b xs ys H1
theorem Yo:bootBuiltins "zip" = some (.type "zip"):=by decide +kernel
theorem Xi{a b:Expr}{ta:TA}{p pos:Pos}(hg:Gl X "zip")(hm:X.mg "zip" = none)(ha:PA X [a,b] ta)(hs:starEach [a,b] X.env =(false,eval a X.env)::starEach [b] X.env:=by rfl)(hpl:(backTo pos (starEach [b] X.env)).any (·.1)=false:=by rfl):PI X (.Tuple elts kk tp) (.Call (.Name "zip" p) [a,b] [] pos) (zCa X.K ta):=by
 intro pins s σ H R I h;refine Call_ (t6 I hg hm Yo (PyProof.Rows.callWith_type1 (thn (ha pos pins s σ H _ I h) fun us s1 ⟨vs,H1,I1,r1,q1⟩=>?_) hs hpl));obtain⟨l,m,xs,ys,e,q⟩:=q1;subst e;obtain⟨u,v,rfl,ru,rv⟩:=r1.two;cases ru;cases rv;have fpk:∀c∈[s1.heap.objs.size+4,s1.heap.objs.size+2,s1.heap.objs.size+3,s1.heap.objs.size,s1.heap.objs.size+1],Aa X pins H1 c:=fun c hc=>by
  have hc':s1.heap.objs.size<=c:=by
   simp only[AX,AM,or_false]at hc;rcases hc with rfl | rfl | rfl | rfl | rfl
   .exact ES ..
   .exact ES ..
   .exact ES ..
   .exact Nat.le_refl _
   .exact ES ..
  exact I1.fpOk hc' (I1.hok.fresh hc')
 rcases q with⟨hq,hr,q⟩ | ⟨hq,hr,q⟩
 .obtain⟨its,rx,pl,hz⟩:=I1.list hq;obtain⟨jts,ry,pm,hz'⟩:=I1.list hr;have a1:l<s1.heap.objs.size:=by obtain⟨_,e,_⟩:=pl.isList;exact AJ e
  have a2:m<s1.heap.objs.size:=by obtain⟨_,e,_⟩:=pm.isList;exact AJ e
  refine call_zip_2 pl.isList pm.isList fun h' g1 g2 g3 g4 g5 hsz k=>GY g1 ?_;exact⟨s1.heap.objs.size+4,_,_,_,H1,rfl,I1.kept (t':=s1.toks) k,Ol _ _ _ _ _ l m (zipApart_new a1 a2),⟨g1,g2,⟨_,_,g3⟩,g4,g5⟩,fpk,q⟩
 .obtain⟨its,rx,pl,hz⟩:=I1.tuple hq;obtain⟨jts,ry,pm,hz'⟩:=I1.tuple hr;have a1:l<s1.heap.objs.size:=by obtain⟨_,e,_⟩:=id pl;exact AJ e
  have a2:m<s1.heap.objs.size:=by obtain⟨_,e,_⟩:=id pm;exact AJ e
  refine Rs pl pm fun h' g1 g2 g3 g4 g5 k=>GY g1 ?_;exact⟨s1.heap.objs.size+4,_,_,_,H1,rfl,I1.kept (t':=s1.toks) k,Oy _ _ _ _ _ l m (zipApart_new a1 a2),⟨g1,g2,⟨_,_,g3⟩,g4,g5⟩,fpk,q⟩
variable(K:PySem.W.Frag)
theorem zEy{a b:Expr}{ta:TA}{p pos:Pos}(hm:X.mg "zip" = none)(ha:PA X [a,b] ta)(hg:Gl X "zip":=by rfl)(hs:starEach [a,b] X.env =(false,eval a X.env)::starEach [b] X.env:=by rfl)(hpl:(backTo pos (starEach [b] X.env)).any (·.1)=false:=by rfl)(hK:X.K=K:=by rfl):PI X (.Tuple elts kk tp) (.Call (.Name "zip" p) [a,b] [] pos) (zCa K ta):=by subst hK;exact Xi hg hm ha hs hpl
end
section
variable{X:Cx}{tg iter elt:Expr}{ifs:List Expr}{scope:Scope}{cl:List (Str×Addr)}{N':List Str}{cap:List (Option Nat)}{wi:TI}{pos:Pos}
theorem Pk{e:Expr}{gs:List Comprehension}{newAcc:Sem Value}{p2:Pos}{use:Option (Value->Sem Unit)}{Qv:Value->Shared->Prop}(hcl:clausesOf e =⟨tg,iter,ifs,0⟩::gs)(o:Addr->HO)(hs:∀x,foldedSetIterable iter X.env x=pure x)(S:CScope X scope cl N' cap)(hc:X.calm=true)(hi:PI X tg iter wi)
  {lp:Addr->It->St->Hp->(St->Hp->Prop)->Prop}
  (hnew:∀(pins:List (Addr×Obj)) (s:Shared) (σ:St) (H:Hp) (Q:Value->Shared->Prop) (E:Value->Shared->Prop),Inv X pins σ H s->(∀s',Inv X pins σ (upd H s.heap.objs.size (o s.heap.objs.size)) s'->(∀b ob,s.heap.get? b=some ob->s'.heap.get? b=some ob)->Q (.ref s.heap.objs.size) s')->wpAny (model X.prog X.w) X.A newAcc Q E s)
  (hlp:∀(pins:List (Addr×Obj)) (ex:List Addr) (s3:Shared) (H3:Hp) (D it:Addr) (fp:List Addr) (tn:Nat->Heap->Prop) (J:It) (σ:St) (s:Shared) (H:Hp) (Q:St->Hp->Prop) (R:Result->Shared->Prop),
   Turn X.prog X.w X.K tg J fp it tn->Inv (cxC X scope cl N' pins ex s3 H3) [] σ H s->tn 0 s.heap->(∀b∈fp,Aa (cxC X scope cl N' pins ex s3 H3) [] H b)->lp D J σ H Q ->
   (∀s' σ' H',Inv (cxC X scope cl N' pins ex s3 H3) [] σ' H' s'->Q σ' H'->R (.ok .next) s') ->
   codeAny (model X.prog X.w) X.A (.compLoop e 0 (.ref it) (.ref D) (compEnvC scope cl s3.heap.objs.size X.env)) R s)
  (hun:∀it D env,X.A.under (.compStart e 0 (.ref it) (.ref D) env)=X.A) (hden:∀it D env,(model X.prog X.w).den (.compStart e 0 (.ref it) (.ref D) env) =(compStart e 0 (.ref it) (.ref D) env).onRaise (fun x=>do noteFrame x env;standAt theWindowsPlace))
  {pins:List (Addr×Obj)} {s:Shared} {σ:St} {H:Hp} {Q:V->Hp->Prop} (I:Inv X pins σ H s) (h:Fg wi o cap lp σ H Q)
  (hend:∀(D:Addr) (fp:List Addr) (H2:Hp) (s3 s':Shared) (σ':St) (H':Hp),Inv X pins σ H2 s3->(∀b∈fp,Aa X pins H2 b)->Inv (cxC X scope cl N' pins fp s3 H2) [] σ' H' s'->Q (.ref D) H'->compPost (model X.prog X.w) X.A X.xe use Qv (.ref D) s3.heap.objs.size (.ok .next) s') :
  wpAny (model X.prog X.w) X.A (comprehension e scope X.env p2 newAcc false (eval iter X.env) use) Qv X.xe s:=by
 refine GA hcl hs S.clos S.kind S.loc (thn (hi pins s σ H _ I h) fun v s1 h1=>thn h1 fun itv s2 h2=>?_);obtain⟨it,fp,tn,J,H2,eit,I2,T,st2,f2,R2⟩:=h2;subst eit;refine hnew pins s2 σ H2 _ _ I2 fun s3 I3 k3=>?_;have hD:H2 s2.heap.objs.size=none:=I2.hok.fresh (Nat.le_refl _);have fok:∀b∈fp,Aa X pins (upd H2 s2.heap.objs.size (o s2.heap.objs.size)) b/\∃ob,s3.heap.get? b=some ob:=fun b hb=>by
  obtain⟨ob,e,_⟩:=T.obj _ _ st2 b hb;obtain⟨f0,fr⟩:=f2 b hb;exact⟨⟨by rw[B6 (BD (AJ e))];exact f0,fr⟩,ob,k3 b ob e⟩
 refine wpAny_newFunctionEnv S.nocell (by intro y hy;simp at hy) (fun h1 hns hsb=>?_) S.kind;have hk:∀b ob,s3.heap.get? b=some ob->h1.get? b=some ob:=fun b ob e=>(hsb.2 b (BD (AJ e))).trans (AE _ e);have I4:Inv (cxC X scope cl N' pins fp s3 (upd H2 s2.heap.objs.size (o s2.heap.objs.size))) [] (Mq cap σ) (upd H2 s2.heap.objs.size (o s2.heap.objs.size)) { s3 with heap:=h1,toks:=s3.toks +([]:List (Str×Value)).length } :=
  I3.block S hc fok hns hk
 have st4:tn 0 h1:=T.keep 0 _ _ st2 fun b hb ob e=>hk b ob (k3 b ob e);refine X0 (X:=cxC X scope cl N' pins fp s3 (upd H2 s2.heap.objs.size (o s2.heap.objs.size))) (gs:=⟨tg,iter,ifs,0⟩::gs) (e:=e) (d:=0) (tg:=tg) (iter:=iter) (ifs:=ifs) (hun _ _ _) (hden _ _ _) hcl rfl T st4 ?_;refine hlp pins fp s3 _ s2.heap.objs.size it fp tn J (Mq cap σ) _ _ _ _ T I4 st4 (fun b hb=>?_) (R2 _ hD) fun s' σ' H' I' q'=>?_
 .obtain⟨⟨f0,f1,f2',f3,f4,f5⟩,ob,eo⟩:=fok b hb;refine⟨f0,BD (AJ eo),fun hf=>?_,.inl hb,fun x c e=>f4 x c (S.cin.get e),fun p hp=>f5 p (by simpa [cxC] using hp)⟩;rcases AX.mp (I3.stkSub b hf)with z | z
  .exact f1 z
  .exact f2' z
 .exact hend _ fp _ s3 s' σ' H' I3 (fun b hb=>(fok b hb).1) I' q'
theorem Ln{i:Nat}{x:Str}{pos' cpos:Pos}{g:TG}{tc:TT}{te:TE}(hN:X.N.Nodup)(hi:X.N[i]?=some x)(hx:Loc X.env.scope x)(S:CScope X scope cl N' cap)(hc:X.calm=true)(hI:PI X tg iter wi)
  (hb:∀(pins:List (Addr×Obj)) (ex:List Addr) (s3:Shared) (H3:Hp),PG (cxC X scope cl N' pins ex s3 H3) tg g/\PTs (cxC X scope cl N' pins ex s3 H3) ifs tc/\PE (cxC X scope cl N' pins ex s3 H3) elt te)
  (hs:∀x,foldedSetIterable iter X.env x=pure x:=by intro _;rfl)
  (hsw:swapsWith (.ListComp elt [⟨tg,iter,ifs,0⟩] scope cpos) (some (.Name x pos')) pos.line X.env=pure true:=by rfl)
  (hf:X.fn x=true\/X.env.scope.names.lookup x=some .local:=by first | exact .inl rfl | exact .inr rfl | assumption) :
  PS X (.Assign [.Name x pos'] (.ListComp elt [⟨tg,iter,ifs,0⟩] scope cpos) pos) (zCn (Fg wi (fun _=>.lst []) cap fun D J σ H Q=>Ej g tc (w4 D te) J σ H Q) (S7 i)):=by
 intro pins s σ H D I h;rw[exec_Assign];refine AB (FC (AB (EJ hsw (GS rfl (AB (AB ?_))))));refine Pk (newAcc:=newList []) (p2:=firstIterPos [⟨tg,iter,ifs,0⟩] cpos) rfl (fun _=>.lst []) hs S hc hI (fun pins s σ H Q E I h=>?_) (fun pins ex s3 H3 D it fp tn J σ s H Q R T I st hf h hR=>?_) (fun _ _ _=>rfl) (fun _ _ _=>rfl) I h fun E fp H2 s3 s' σ' H' I3 fok I' q=>?_
 .refine HA ?_;exact h _ (I.lnew (t':=s.toks) (its:=[]) .nil (BT _)) fun b ob e=>AE _ e
 .obtain⟨b1,b2,b3⟩:=hb pins ex s3 H3;exact Q2 (X:=cxC X scope cl N' pins ex s3 H3) rfl rfl hc rfl (Ct elt tg iter ifs scope cpos _ _ _) b1 b2 (Ec rfl b3) T I st hf h hR
 .have IX:Inv X pins σ H' s':=I3.unblock fok I' ⟨rfl,fun _ _=>rfl⟩;have fC:Aa X pins H' s3.heap.objs.size:=I3.fpOk (Nat.le_refl _) I'.free;obtain⟨m,hn,_⟩:=I'.loc;show wpAny _ _ (assign (.Name x pos') X.env (.ref E)) _ _ _;refine wpAny_assign_Name (Bl (v:=.ref E) IX hN hi hx rfl (fun s2 I2 ⟨a,hsb,ha⟩=>?_) hf);have nC:s3.heap.objs.size≠a:=by
   rcases ha with rfl | ha
   .exact fC.2.1
   .exact(fC.2.2.2.2.1 _ _ ha).symm
  refine⟨m,?_,fun h' hsb'=>AD (AD ?_)⟩
  .obtain⟨ob,es,ep,e1,r⟩:=hn;exact⟨ob,es,ep,(hsb.2 _ nC).trans e1,r⟩
  refine⟨_,H',?_,q⟩;have k:∀b ob,b∉[s3.heap.objs.size]->s2.heap.get? b=some ob->h'.get? b=some ob:=fun b ob hb e=>(hsb'.2 b fun z=>hb (AC.mpr z)).trans e;refine I2.step (h':=h') (H':=H') (t':=s2.toks) (g':=s2.gens) (d':=s2.drawn) (ch:=[s3.heap.objs.size]) (fun b hb=>by rw[AC.mp hb];exact⟨fC.2.2.2.1,fC.2.1,fC.2.2.2.2⟩) (fun b ob _ _ hc e _=>k b ob hc e) (fun b ob _ _ hc e _=>⟨ob.slots,k b ob hc e⟩) (fun _ _ _ _ n=>n)
   (fun b ob hc e=>⟨ob,k b ob hc e⟩) (fun _ _ e=>e) (fun _ _ _ e=>e) (fun b ps e=>⟨#[],by rw[e];simp⟩) (fun m hm=>?_) (fun b u eb=>?_) I2.bare
  .obtain⟨ob,es,ep,ho,r⟩:=hm;exact⟨ob,es,ep,k _ ob (fun hb=>fC.2.1 (AC.mp hb).symm) ho,r⟩
  .have nf:∀b u,H' b=some u->b∉[s3.heap.objs.size]:=fun b u e hb=>by rw[AC.mp hb,fC.1]at e;cases e
   refine(I2.hok b u eb).stay (fun c v hc q=>k c v ?_ q) (fun _ q=>q) fun _ _ q=>q;rcases hc with z | z
   .rw[z];exact nf b u eb
   .exact nf c _ z
end
structure IsC(K:PySem.W.Frag)(C:Addr):Prop where
 ha:PySem.W.findIn K (.ref C) "__class__" = some (some (.builtin "object.__class__"))
 hn:PySem.W.specialIn K (.builtin "object.__class__") "__get__" = some (some (.builtin "getset_descriptor.__get__"))
 htk:PySem.W.takesIn K (.builtin "object.__class__")=some true
 hm:PySem.W.mroIn K C (.type "object")=some true
 one:PySem.W.kitOne K (.ref C) (.ref C)=some true
theorem kit_same(K:PySem.W.Frag)(a:Addr):PySem.W.kitOne K (.ref a) (.ref a)=some true:=AY (beq_self_eq_true _)
section
variable{X:Cx}
theorem Ve(K:PySem.W.Frag)(hK:X.K=K:=by rfl):G8 X (.builtin "isinstance") (fun xs H Q=>∃x C t b,xs = [x,.ref C]/\TyOf K H x t/\PySem.W.kitOne K t (.ref C)=some b/\Q (.bl b) H):=by
 subst hK;intro pins s σ H xs us Q I r h;obtain⟨x,C,t,b,rfl,ht,he,q⟩:=h;obtain⟨u,v,rfl,ru,rv⟩:=r.two;cases rv;exact Fi I ru ht he fun tk=>⟨.bl b,H,I.tok _,rfl,q⟩
theorem Xt{x:Str}{C:Addr}{pos:Pos}(h:X.mg x=some (.ref C))(hg:Gl X x:=by rfl)(hd:(x ==("__debug__":Str))=false:=by decide):PE X (.Name x pos) (tC (.ref C)):=Je hg h rfl hd
end
def M7(l xs:List Str):List Str:=xs.foldl Nt l
theorem Tz(l:List Str)(x:Str):(Nt l x).length<=l.length+1:=by
 unfold Nt;split
 .omega
 .rw[BB];exact Nat.le_refl _
theorem zBa{w:World}{h h':Heap}{a:Addr}{ss:List Str}(z:ST.WS w h a ss)(k:∀o,h.get? a=some o->h'.get? a=some o):ST.WS w h' a ss:=by
 obtain⟨o,es,ep,t,S,r⟩:=z;exact⟨o,es,ep,t,S.at (k o S.ho),r⟩
section
variable{prog:Program}{w:World}{A:Around}{R:Result->Shared->Prop}{I:Addr}{fp wr:List Addr}{G:Array GenState->Array GenState->Prop}{n:Nat}{P:Nat->Value->Prop}{St:Nat->Shared->Prop}
theorem Sd(W:WalksS prog w A.in1 I fp wr G n P St)(S:Addr)(hSf:S∉fp)(xs:List Str)(hn:xs.length=n)(hval:∀i v,P i v->∃x t,xs[i]?=some x/\v = .str x t) :
  ∀(k i:Nat) (s:Shared) (ss:List Str),n-i=k->i<=n->St i s->ST.WS w s.heap S ss->ss.length+k<4096 ->
   (∀s',Moved (S::wr) G s s'->ST.WS w s'.heap S (M7 ss (xs.drop i))->R (.ok (.ret .none)) s') ->
   codeAny (model prog w) A (.builtin "set.update.loop" ⟨[.ref S,.ref I],[]⟩) R s:=by
 have hSw:S∉wr:=fun h=>hSf (W.sub _ h);have hsub:∀b∈wr,b∈S::wr:=fun b hb=>AO _ hb;intro k
 induction k with
 | zero =>
  intro i s ss hk hi hst hS _ hR;have hin:i=n:=by omega
  subst hin;refine DF F.entry_set_update_loop ?_;rw[Around.under_plainId F.plain_set_update_loop _];refine AB (W.done s _ _ hst fun s' hm=>?_);have q:=hR s' (hm.mono hsub);rw[<-hn,List.drop_length]at q;exact AD (q (zBa hS fun o=>hm.heap S o hSw))
 | succ k ih =>
  intro i s ss hk hi hst hS hz hR;refine DF F.entry_set_update_loop ?_;rw[Around.under_plainId F.plain_set_update_loop _];refine AB (W.item i s _ _ (by omega) hst fun v s' hP hst' hm=>?_);obtain⟨x,t,hx,rfl⟩:=hval i v hP;show wpAny _ A.in1 (holding [Value.str x t] (setAdd S (.str x t)) >>= _) _ _ s';refine AB (BU ?_);unfold setAdd;refine BU (AB (wpAny_pyHash_str ?_));refine ST.add_txt (s:={ s' with toks:=s'.toks+1 }) (zBa hS fun o=>hm.heap S o hSw) (by omega) fun h' b hsb z'=>?_;refine AD ⟨plainId_quiet F.plain_set_update_loop _,ih (i+1) _ (Nt ss x) (by omega) (by omega) (W.frame _ s' _ _ hst' (C_ _) fun b hb o e=>?_) z' (by have:=Tz ss x;omega) fun s'' hm'' hS''=>?_⟩
  .rw[hsb.2 b (fun h:b=S=>hSf (by rw[<-h];exact hb))];exact e
  .refine hR s'' (Moved.trans W.gtrans ((hm.mono hsub).then_heap (C_ _) fun b o hb e=>?_) hm'') ?_
   .rw[hsb.2 b (fun h:b=S=>hb (by rw[h];exact AW))];exact e
   .have hd:xs.drop i=x::xs.drop (i+1):=by
     obtain⟨hi',ex⟩:=AU.mp hx;rw[<-ex];exact D_ hi'
    rw[hd];exact hS''
end
section
variable{prog:Program}{w:World}{A:Around}{E:Value->Shared->Prop}{s:Shared}
abbrev freshW(w:World):Obj:={ cls:=.type "set",dict:=none,data:=.set #[] 0 (.fresh 0 0 (!(w.params.followText "set-order"))) }
theorem Td{h:Heap}{a:Addr}(e:h.get? a=some (freshW w)):ST.WS w h a [] :=
 ⟨_,#[],0,_,⟨e,⟨rfl,rfl,rfl⟩,rfl,by rfl,rfl,fun _=>rfl,by decide⟩,⟨fun e he=>by simp at he,by simp,CV⟩⟩
theorem Vb(a:Value){Q₁:Value->Shared->Prop}(h:Q₁ (.ref s.heap.objs.size) { s with heap:=s.heap.push (freshW w) }) :
  codeAny (model prog w) A (.call (.builtin "set.__new__") ⟨[.type "set",a],[]⟩) (wants Q₁ E) s:=by
 refine codeAny_of_tree ?_;show wpAny _ A.in1 (do checkBuiltinCall "set.__new__" ⟨[.type "set",a],[]⟩;again (.builtin "set.__new__" ⟨[.type "set",a],[]⟩)) _ _ s;refine AB (EJ (F.newCall_set_1 a) (AD ⟨plainId_quiet F.plain_set_new _,DF F.entry_set_new ?_⟩));rw[Around.under_plainId F.plain_set_new _];unfold Builtin.«set.__new__» Builtin.Frozenset.newClass;have hsub:=sub_set_self;obtain⟨hp,g,d,tk,os⟩:=s;dsimp only;wp_walk;refine FX (AD ?_);dsimp only;simp only[newObj];refine AB (wpAny_alloc (AD ?_));exact AD h
set_option maxHeartbeats 3200000 in
theorem V9{l:Addr}{ol it:Obj}{nm:String}{xs:List Str}{n:Nat}{P:Nat->Value->Prop}{St:Addr->Nat->Heap->Prop}{Q:Value->Shared->Prop}(hh:A.handled=none)(hol:s.heap.get? l=some ol)(hcl:ol.cls = .type nm)
  (hs1:isSubtype (.type nm) (.type "set")=pure false) (hs2:isSubtype (.type nm) (.type "frozenset")=pure false) (hne:(Value.type nm == Value.type "dict")=false)
  (hit:∀{A:Around} {E:Value->Shared->Prop} {Q:Value->Shared->Prop} (s1:Shared),s1.heap.get? l=some ol->Q (.ref s1.heap.objs.size) { s1 with heap:=s1.heap.push it }->wpAny (model prog w) A (pyIter (.ref l)) Q E s1)
  (hW:∀(A:Around) (I:Addr),A.handled=none->l≠I->Walks prog w A I [I,l] [I] n P (St I)) (hSt:∀(h:Heap) (I:Addr),h.get? I=some it->h.get? l=some ol->St I 0 h) (hiti:it.isFreed=false)
  (hn:xs.length=n) (hval:∀i v,P i v->∃x t,xs[i]?=some x/\v = .str x t) (hb:n<4096)
  (h:∀(h':Heap) (tk:Nat),ST.WS w h' s.heap.objs.size (M7 [] xs)->(∀b o,s.heap.get? b=some o->h'.get? b=some o)->Q (.ref s.heap.objs.size) { s with heap:=h',toks:=tk }) :
  wpAny (model prog w) A (call (.type "set") [.ref l]) Q E s:=by
 obtain⟨c,tl,hmro⟩:=F.called_set.mro;have hmade:=F.called_set.made;have hsub:=F.called_set.sub;refine wpAny_call (codeAny_of_tree ?_);show wpAny _ _ (callAny (.type "set") _) _ _ _;refine AD ⟨Code.quiet_builtin _ (by decide +kernel),DF F.entry_type_call ?_⟩;rw[Around.under_plain (weight_type_call_type "set" [.ref l] []) rfl];have h1:=F.called_set.notType;have h2:=F.called_set.canCreate;have hct:=F.typeCall_set_1 (.ref l)
 repeat (any_goals (first | assumption | wp_step))
 refine FW (Vb (.ref l) (E:=E) (Q₁:=fun obj s₁=>obj = .ref s.heap.objs.size/\s₁ ={ s with heap:=s.heap.push (freshW w) }) ⟨rfl,rfl⟩) fun r s₁ hr=>?_;cases r with
 | error e=>exact hr
 | ok fl =>
  cases fl with
  | ret obj =>
   obtain⟨rfl,rfl⟩:=hr;have hS:(s.heap.push (freshW w)).get? s.heap.objs.size=some (freshW w):=BE _ rfl;have hT:Shared.TypeIs { s with heap:=s.heap.push (freshW w) } (.ref s.heap.objs.size) "set":=⟨_,hS,rfl⟩;have hli:=F.called_set.init.lookup;have hbi:=F.called_set.init.bind (.ref s.heap.objs.size)
   repeat (any_goals (first | assumption | wp_step))
   refine FW (codeAny_call_builtin (R:=wants (fun r s₂=>r = .none/\∃h' tk,s₂ ={ s with heap:=h',toks:=tk }/\ST.WS w h' s.heap.objs.size (M7 [] xs) /\
     (∀b o,s.heap.get? b=some o->h'.get? b=some o)) E) F.called_set.init.plain F.entry_set_init (check_set_init_1 hT ?_)) fun r₂ s₂ hr₂=>?_
   .have hol':(s.heap.push (freshW w)).get? l=some ol:=AE _ hol;obtain⟨ocls,odict,odata,oslots⟩:=ol;simp only at hcl;subst hcl;unfold Builtin.«set.__init__» noKeywords Builtin.Frozenset.updateFrom;generalize hPI:pyIter=PI;wp_walk;subst hPI;refine hit _ hol' ?_;refine AB (wpAny_runValue ?_);have hlS:l<s.heap.objs.size:=AJ hol;have hh3:A.in1.in1.in1.handled=none:=by simp[hh]
    have hneI:l≠(s.heap.push (freshW w)).objs.size:=by
     rw[CB];exact BD (EM hlS)
    have hSf:s.heap.objs.size∉[(s.heap.push (freshW w)).objs.size,l]:=by
     rw[CB];simp only[AX,AM,or_false,not_or];exact⟨BD (ET _),GP hlS⟩
    refine Sd ((hW _ _ hh3 hneI).toS) s.heap.objs.size hSf xs hn hval (n-0) 0 _ [] rfl (BT _) (hSt _ _ (BE _ hiti) (AE _ hol')) (Td (AE _ hS)) (by simpa using hb) fun s' hm hS'=>?_;obtain⟨h',g',d',tk',os'⟩:=s';have eg:g'=s.gens:=hm.gens;have ed:d'=s.drawn:=hm.drawn;have eo:os'=s.os:=hm.os;subst eg;subst ed;subst eo;show wpAny _ _ _ _ _ _;refine AD ?_;show wpAny _ _ (ret Value.none) _ _ _;refine AD ⟨rfl,h',tk',rfl,hS',fun b o e=>?_⟩;have hb:=AJ e;have hb1:b≠s.heap.objs.size:=BD hb;have hb2:b≠(s.heap.push (freshW w)).objs.size:=by
     rw[CB];exact BD (EM hb)
    exact hm.heap b o (by simp only[AX,AM,or_false,not_or];exact⟨hb1,hb2⟩) (AE _ (AE _ e))
   .cases r₂ with
    | error e=>exact hr₂
    | ok fl₂ =>
     cases fl₂ with
     | ret r =>
      obtain⟨rfl,h',tk,rfl,hS',hk'⟩:=hr₂
      repeat (any_goals (first | assumption | wp_step))
      exact h _ _ hS' hk'
     | _=>exact hr₂.elim
  | _=>exact hr.elim
end
theorem i6:isSubtype (.type "tuple") (.type "set")=pure false:=by rw[isSubtype_type];kernel_rfl
theorem P2:isSubtype (.type "tuple") (.type "frozenset")=pure false:=by rw[isSubtype_type];kernel_rfl
theorem Hq:∀{xs l:List Str},xs.Nodup->(∀x∈xs,x∉l)->M7 l xs=l++xs
 | [],l,_,_=>(CL l).symm
 | x::xs,l,nd,ni=>by
  obtain⟨n1,n2⟩:=BX.mp nd;show M7 (Nt l x) xs=_;have e:Nt l x=l ++ [x]:=AS (ni x (AW ..));rw[e,Hq n2 fun y hy hm=>?_,BI]
  .rfl
  .rcases AI.mp hm with hm | hm
   .exact ni y (AO _ hy) hm
   .exact n1 (AC.mp hm▸hy)
theorem Em{ss:List Str}{its:List Value}(r:Vals (ss.map V.str) its)(i:Nat)(v:Value)(e:its.toArray[i]?=some v):∃x t,ss[i]?=some x/\v = .str x t:=by
 rw[ED]at e;cases h:ss[i]? with
 | none =>
  have:=r.none_of (i:=i) (by rw[AF,h];rfl);rw[this]at e;cases e
 | some x =>
  obtain⟨u,e1,t,e2⟩:=r.get (i:=i) (x:=.str x) (by rw[AF,h];rfl);rw[e1]at e;cases e;exact⟨x,t,rfl,e2⟩
section
variable{X:Cx}
theorem Iq(K:PySem.W.Frag)(w:World)(hc:X.calm=true:=by rfl)(hK:X.K=K:=by rfl)(hw:X.w=w:=by rfl):G8 X (.type "set") (fun xs H Q=>∃(p:Addr) (ss:List Str),xs = [.ref p]/\(SqL K H p (ss.map V.str)\/SqT K H p (ss.map V.str))/\ss.Nodup/\ss.length<4096/\∀l,H l=none->Q (.ref l) (upd H l (X7 w l ss))):=by
 subst hK;subst hw;intro pins s σ H xs us Q I r h;obtain⟨p,ss,rfl,hq,nd,hb,q⟩:=h;obtain⟨u,rfl,rx⟩:=U7 r;cases rx;have en:M7 [] ss=ss:=Hq nd fun _ _ h=>nomatch h
 have fin:∀(h':Heap) (tk:Nat),ST.WS X.w h' s.heap.objs.size (M7 [] ss)->(∀b o,s.heap.get? b=some o->h'.get? b=some o)->EP X pins σ Q (.ref s.heap.objs.size) { s with heap:=h',toks:=tk }:=fun h' tk z k=>by
  rw[en]at z;exact⟨.ref s.heap.objs.size,_,I.laid (t':=tk) k (Nat.le_refl _) (Ru z),rfl,q _ (I.hok.fresh (Nat.le_refl _))⟩
 rcases hq with hq | hq
 .obtain⟨its,r',pl,hz⟩:=I.list hq;have hlen:=r'.length;rw[AA]at hlen;obtain⟨o,ho,hc',n,hd⟩:=pl.isList;exact V9 (I.ok.hd hc) ho hc' F.sub_list_set F.sub_list_frozenset (by decide) (fun s1 e q=>FS ⟨_,e,hc',n,hd⟩ q) (fun A I hA hne=>Walks.list hA I p hne its.toArray) (fun h I e1 e2=>⟨⟨_,e1,rfl,rfl⟩,⟨_,e2,hc',n,hd⟩⟩) rfl (by simp[hlen]) (Em r') (by simpa [<-hlen] using hb) fin
 .obtain⟨its,r',pl,hz⟩:=I.tuple hq;have hlen:=r'.length;rw[AA]at hlen;obtain⟨o,ho,hc',n,hd⟩:=pl;exact V9 (I.ok.hd hc) ho hc' i6 P2 (by decide) (fun s1 e q=>GK ⟨_,e,hc',n,hd⟩ q) (fun A I hA hne=>Walks.tuple hA I p hne its.toArray) (fun h I e1 e2=>⟨⟨_,e1,rfl,rfl⟩,⟨_,e2,hc',n,hd⟩⟩) rfl (by simp[hlen]) (Em r') (by simpa [<-hlen] using hb) fin
theorem zBx(w:World)(hw:X.w=w:=by rfl):MtM X "set.add" (Zn w):=by subst hw;exact Xm
end
def Oa(kvs more:List (Key×V)):List (Key×V):=more.foldl (fun a kv=>Fa a kv.1 kv.2) kvs
theorem KV.mrg:∀{more:List (Key×V)} {vs':List (Key×Value)} {kvs:List (Key×V)} {vs:List (Key×Value)},KV kvs vs->KV more vs'->KV (Oa kvs more) (merged vs vs')
 | [],[],_,_,r,_=>r
 | [],_::_,_,_,_,r'=>by cases r'
 | _::_,[],_,_,_,r'=>by cases r'
 | (k,y)::m,(k',u)::n,kvs,vs,r,r'=>by
  cases r' with
  | cons h t =>
   obtain⟨e,ry⟩:=h;have e:k=k':=e;subst e;show KV (Oa (Fa kvs k y) m) (merged (stored vs k u) n);exact KV.mrg (r.put k ry) t
theorem Ib(kvs more:List (Key×V)):(Oa kvs more).length<=kvs.length+more.length:=by
 induction more generalizing kvs with
 | nil=>exact Nat.le_refl _
 | cons a r ih =>
  have h1:=ih (Fa kvs a.1 a.2);have h2:=S0 kvs a.1 a.2;show(Oa (Fa kvs a.1 a.2) r).length<=kvs.length +(r.length+1);omega
section
variable{X:Cx}
theorem Pf:bootBuiltins "dict" = some (.type "dict"):=by decide +kernel
end
theorem Kt:entryFor table "dict.update.loop" = some Builtin.«dict.update.loop»:=entryFor_of_tree (by kernel_rfl)
theorem Ae:plainId "dict.update.loop" = true:=by decide +kernel
section
variable{prog:Program}{w:World}{A:Around}{E:Value->Shared->Prop}{s:Shared}
theorem Dm{a:Addr}{xs:Array Value}{k:Nat}{sl:Array (Option Value)}{name:Str}{Q:Option Value->Shared->Prop}
  (hx:s.heap.get? a=some { cls:=.type "list",dict:=none,data:=.seq xs k,slots:=sl }) (hmiss:typeLookup (.type "list") name=pure none) (hname:(["__module__", "__name__", "__qualname__", "__doc__", "__annotations__"]:List Str).contains name=false) (hA:A.handled=none)
  (h:∀h' tk,(∀b ob,s.heap.get? b=some ob->h'.get? b=some ob)->Q none { s with heap:=h',toks:=tk }) (hsz:name.length+100<=sizeLine) :
  wpAny (model prog w) A (getAttr? (.ref a) name) Q E s:=by
 obtain⟨hp,g,d,tk,os⟩:=s;have hT:∀tk',(⟨hp,g,d,tk',os⟩:Shared).TypeIs (.ref a) "list":=fun _=>⟨_,hx,rfl⟩;have f1:=sub_AttributeError;have f3:=F.slot_list_getattribute.lookup;have f4:=F.slot_list_getattribute.bind (.ref a);have f5:=am_list_getattr_none;unfold getAttr? getAttrBy? getAttrBy
 repeat (any_goals (first | assumption | exact hT _ | ((with_reducible show wpAny _ _ (call (Value.builtin "list.__getattribute__") _ _) _ _ _);refine call_meets F.slot_list_getattribute (hT _) am_entry_list_getattribute (F.args_list_getattribute_2 _ _) (meets_getattribute_miss_list a xs k sl name _ hmiss hname hsz) ⟨hx,hA,fun h' tk' e hx'=>?_⟩) | wp_step))
 obtain⟨t',u',he⟩:=hx'.there;show wpAny _ _ (getattributeRaised _ _ _ _ _ _ _) _ _ _;unfold getattributeRaised
 repeat (any_goals (first | assumption | wp_step))
 exact h _ _ hx'.keeps
end
section
variable{prog:Program}{w:World}{A:Around}{R:Result->Shared->Prop}{I:Addr}{fp wr:List Addr}{G:Array GenState->Array GenState->Prop}{n:Nat}{P:Nat->Value->Prop}{St:Nat->Shared->Prop}{K:Type}[DecidableEq K]{knd:KeyKind prog w K}
theorem Rh(W:WalksS prog w A.in1 I fp wr G n P St)(D:Addr)(hDf:D∉fp)(h0:Heap)(more:List (K×Value))(hn:more.length=n)
  (hval:∀i v,P i v->∃t o k key u m,v = .ref t/\t∉D::wr/\h0.get? t=some o/\o.cls = .type "tuple"/\o.data = .seq #[key,u] m/\more[i]?=some (k,u)/\knd.is k key=true) :
  ∀(k i:Nat) (s:Shared) (kvs:List (K×Value)) (tk:Tok),n-i=k->i<=n->St i s->(∀b o,b∉D::wr->h0.get? b=some o->s.heap.get? b=some o)->s.heap.DictOf knd D kvs->kvs.length+k<=sizeLine ->
   (∀s',Moved (D::wr) G s s'->s'.heap.DictOf knd D (merged kvs (more.drop i))->R (.ok (.ret .none)) s') ->
   codeAny (model prog w) A (.builtin "dict.update.loop" ⟨[.ref D,.ref I,.int (i:Int) tk,.none],[]⟩) R s:=by
 have hDw:D∉wr:=fun h=>hDf (W.sub _ h);have hsub:∀b∈wr,b∈D::wr:=fun b hb=>AO _ hb;have dat:∀{h h':Heap} {kvs:List (K×Value)},h.DictOf knd D kvs->(∀o,h.get? D=some o->h'.get? D=some o)->h'.DictOf knd D kvs:=fun⟨o,es,ep,ho,r⟩ k=>⟨o,es,ep,k o ho,r⟩;intro k
 induction k with
 | zero =>
  intro i s kvs tk hk hi hst hh hS _ hR;have hin:i=n:=by omega
  subst hin;refine DF Kt ?_;rw[Around.under_plainId Ae _];refine AB (W.done s _ _ hst fun s' hm=>?_);have q:=hR s' (hm.mono hsub);rw[<-hn,List.drop_length]at q;show wpAny _ _ (Builtin.Dict.addKeywords D [] >>= _) _ _ _;exact AB (AD (AD (q (dat hS fun o=>hm.heap D o hDw))))
 | succ k ih =>
  intro i s kvs tk hk hi hst hh hS hz hR;refine DF Kt ?_;rw[Around.under_plainId Ae _];refine AB (W.item i s _ _ (by omega) hst fun v s' hP hst' hm=>?_);obtain⟨t,o,kk,key,u,m,rfl,htw,ht,hc,hd,hx,hkey⟩:=hval i v hP;have ht':s'.heap.get? t=some o:=hm.heap t o (fun z=>htw (hsub _ z)) (hh t o htw ht);refine AB (BU (AB (FF ?_)));unfold Builtin.Dict.pairItems;refine AB (wpAny_typeOf (T := "tuple") ⟨o,ht',hc⟩ ?_);rw[AY (by decide)];refine AB (CU ht' hd (AD ?_));show wpAny _ _ (holding [key,u] (dictSet D key u)) _ _ _;refine BU (wpAny_dictSet_pairs hkey (dat hS fun o=>hm.heap D o hDw) (fun h' d' hsb=>?_) (by omega));refine AD ⟨plainId_quiet Ae _,ih (i+1) _ (stored kvs kk u) _ (by omega) (by omega) (W.frame _ s' _ _ hst' (C_ _) fun b hb o e=>?_) (fun b o hb e=>?_) d' (by
   have:=stored_length_le kvs kk u;omega) fun s'' hm'' hS''=>?_⟩
  .rw[hsb.2 b (fun h:b=D=>hDf (by rw[<-h];exact hb))];exact e
  .rw[hsb.2 b (fun h:b=D=>hb (by rw[h];exact AW))];exact hm.heap b o (fun z=>hb (hsub _ z)) (hh b o hb e)
  .refine hR s'' (Moved.trans W.gtrans ((hm.mono hsub).then_heap (C_ _) fun b o hb e=>?_) hm'') ?_
   .rw[hsb.2 b (fun h:b=D=>hb (by rw[h];exact AW))];exact e
   .have hd:more.drop i =(kk,u)::more.drop (i+1):=by
     obtain⟨hi',ex⟩:=AU.mp hx;rw[<-ex];exact D_ hi'
    rw[hd];exact hS''
end
section
variable{X:Cx}
theorem De:∀{as:List Addr} {its:List Value},Vals (as.map V.ref) its->its=as.map Value.ref
 | [],_,.nil=>rfl
 | _::_,_,.cons r t=>by rw[BM,De t];cases r;rfl
theorem Po{pins:List (Addr×Obj)}{σ:St}{H:Hp}{s:Shared}(I:Inv X pins σ H s):∀ps:List (Addr×Key×V),(∀q∈ps,H q.1=some (.tup [kV q.2.1,q.2.2]))->∃more:List (Key×Value),KV (ps.map fun q=>q.2) more /\
  ∀(i:Nat) (q:Addr×Key×V),ps[i]?=some q->∃(o:Obj) (key u:Value) (m:Nat),s.heap.get? q.1=some o/\o.cls = .type "tuple"/\o.data = .seq #[key,u] m/\more[i]?=some (q.2.1,u)/\(C7 X.prog X.w).is q.2.1 key=true
 | [],_=>⟨[],.nil,fun i q h=>by simp at h⟩
 | p::ps,h=>by
  obtain⟨more,r,hm⟩:=Po I ps fun q hq=>h q (AO _ hq);obtain⟨_,its,rv,o,h1,h2,n,h3⟩:=(show ObjOk X.prog X.w H s.heap p.1 (.tup [kV p.2.1,p.2.2])from I.hok _ _ (h p (AW ..)));obtain⟨key,u,rfl,rk,ru⟩:=rv.two;refine⟨(p.2.1,u)::more,.cons ⟨rfl,ru⟩ r,fun i q hq=>?_⟩;cases i with
  | zero=>cases hq;exact⟨o,key,u,n,h1,h2,by simpa using h3,rfl,Jd rk⟩
  | succ i=>exact hm i q hq
theorem Tt(hc:X.calm=true):G8 X (.type "dict") (fun xs H Q=>∃(p:Addr) (ps:List (Addr×Key×V)),xs = [.ref p]/\H p=some (.lst (ps.map fun q=>V.ref q.1))/\(∀q∈ps,H q.1=some (.tup [kV q.2.1,q.2.2]))/\ps.length<=1000/\∀l,H l=none->Q (.ref l) (upd H l (.dK (Oa [] (ps.map fun q=>q.2))))):=by
 intro pins s σ H xs us Q I r h;obtain⟨p,ps,rfl,hp,ht,hl,q⟩:=h;obtain⟨u,rfl,ru⟩:=U7 r;cases ru;obtain⟨its,nn,rv,ho,hz⟩:=I.lst hp;have ei:its =(ps.map fun q=>q.1).map Value.ref:=De (by rw[BA];exact rv);obtain⟨more,rm,hm⟩:=Po I ps ht;have lm:more.length=ps.length:=by rw[<-rm.length,AA]
 have li:its.toArray.size=ps.length:=by rw[ei];simp
 have hps:p<s.heap.objs.size:=AJ ho;refine callType_codes (Q₁:=fun obj s₁=>obj = .ref s.heap.objs.size/\s₁ ={ s with heap:=s.heap.push { cls:=.type "dict",data:=.dict #[] } }) PySem.F.kt_called_dict (PySem.F.kt_typeCall_dict_1 _) PySem.F.entry_dict_init (kt_code_dict_new _ ⟨rfl,rfl⟩) ?_;rintro obj s₁ ⟨rfl,rfl⟩;have hnew:(s.heap.push { cls:=.type "dict",data:=.dict #[] }).DictOf (C7 X.prog X.w) s.heap.objs.size []:=Heap.DictOf.new s.heap;have ho':(s.heap.push { cls:=.type "dict",data:=.dict #[] }).get? p=some { cls:=.type "list",data:=.seq its.toArray nn }:=AE _ ho;refine⟨hnew.typeIs,PySem.F.args_dict_init_2 _ _,?_⟩;unfold Builtin.«dict.__init__»;refine AB ?_;unfold Builtin.Dict.selfAndRest;refine AB (wpAny_notOrdered_dict hnew.typeIs ?_);show wpAny _ _ (pure (s.heap.objs.size,[Value.ref p])) _ _ _;refine AD ?_;show wpAny _ _ (Builtin.Dict.updateFrom "dict.__init__" s.heap.objs.size (.ref p) [] .none) _ _ _;unfold Builtin.Dict.updateFrom;refine AB (wpAny_typeOf (T := "list") ⟨_,ho',rfl⟩ ?_);rw[AY (by decide)];have hh:X.A.in1.in1.handled=none:=I.ok.hd hc;refine AB (Dm ho' (am_miss_of_fast (by decide +kernel)) (by decide +kernel) hh (fun h1 tk1 k1=>?_) (by decide +kernel));refine GS rfl ?_;have hD1:h1.DictOf (C7 X.prog X.w) s.heap.objs.size []:=let⟨o,es,ep,ho,r⟩:=hnew;⟨o,es,ep,k1 _ _ ho,r⟩;have hp1:=k1 _ _ ho';have hDs:s.heap.objs.size<h1.objs.size:=let⟨_,_,_,ho,_⟩:=hD1;AJ ho;have hps1:p≠h1.objs.size:=BD (Nat.lt_trans hps hDs);refine AB (DH (AB (FS (l:=p) (items:=its.toArray) ⟨_,hp1,rfl,nn,rfl⟩ (AD ⟨plainId_quiet Ae _,?_⟩))));have k2:∀b o,s.heap.get? b=some o->h1.get? b=some o:=fun b o e=>k1 b o (AE _ e);refine Rh (A:=X.A.in1) (knd:=C7 X.prog X.w) ((Walks.list (A:=X.A.in1.in1) hh h1.objs.size p hps1 its.toArray).toS) s.heap.objs.size ?_ h1 more (lm.trans li.symm) (fun i v hv=>?_) _ 0 _ [] _ rfl (BT _) ⟨⟨_,BE _ rfl,rfl,rfl⟩,⟨_,AE _ hp1,rfl,nn,rfl⟩⟩ (fun b o _ e=>AE _ e) (let⟨o,es,ep,ho,r⟩:=hD1;⟨o,es,ep,AE _ ho,r⟩) ?_ fun s' hmv hS'=>?_
 .simp only[AX,AM,or_false,not_or];exact⟨BD hDs,GP hps⟩
 .have hv:its.toArray[i]?=some v:=hv;rw[ED,ei,BA,AF]at hv;obtain⟨z,hz',rfl⟩:=AV.mp hv;obtain⟨o,key,u,m,e1,e2,e3,e4,e5⟩:=hm i z hz';have lt:=AJ e1;refine⟨z.1,o,z.2.1,key,u,m,rfl,?_,k2 _ _ e1,e2,e3,e4,e5⟩;simp only[AX,AM,or_false,not_or];exact⟨BD lt,BD (Nat.lt_trans lt hDs)⟩
 .rw[li,sizeLine_eq];simp;omega
 .obtain⟨h',g',d',tk',os'⟩:=s';have eg:g'=s.gens:=hmv.gens;have ed:d'=s.drawn:=hmv.drawn;have eo:os'=s.os:=hmv.os;subst eg;subst ed;subst eo;refine⟨rfl,.ref s.heap.objs.size,upd H s.heap.objs.size (.dK (Oa [] (ps.map fun q=>q.2))),I.laid (fun b o eb=>?_) (Nat.le_refl _) (Vy ?_ (beq_eq_false_iff_ne.mpr (GP I.big)) (KV.mrg .nil rm) hS'),rfl,q _ I.fresh⟩
  .have lt:=AJ eb;refine hmv.heap b o ?_ (AE _ (k2 b o eb));simp only[AX,AM,or_false,not_or];exact⟨BD lt,BD (Nat.lt_trans lt hDs)⟩
  .have:=Ib [] (ps.map fun q=>q.2);rw[AA]at this;rw[sizeLine_eq];simp at this;omega
end
section
variable{X:Cx}{pos:Pos}
variable(K:PySem.W.Frag)
theorem Kr(hc:X.calm=true:=by rfl):G8 X (.type "dict") (fun xs H Q=>∃(p:Addr) (ps:List (Addr×Key×V)),xs = [.ref p]/\H p=some (.lst (ps.map fun q=>V.ref q.1))/\(∀q∈ps,H q.1=some (.tup [kV q.2.1,q.2.2]))/\ps.length<=1000/\∀l,H l=none->Q (.ref l) (upd H l (.dK (Oa [] (ps.map fun q=>q.2))))):=Tt hc
end
section
variable{X:Cx}
theorem Uz(K:PySem.W.Frag)(w:World)(hc:X.calm=true:=by rfl)(hK:X.K=K:=by rfl)(hw:X.w=w:=by rfl):G8 X (.type "set") (fun xs H Q=>∃(p:Addr) (ss:List Str),xs = [.ref p]/\(SqL K H p (ss.map V.str)\/SqT K H p (ss.map V.str))/\ss.length<4096/\∀l,H l=none->Q (.ref l) (upd H l (X7 w l (M7 [] ss)))):=by
 subst hK;subst hw;intro pins s σ H xs us Q I r h;obtain⟨p,ss,rfl,hq,hb,q⟩:=h;obtain⟨u,rfl,rx⟩:=U7 r;cases rx;have fin:∀(h':Heap) (tk:Nat),ST.WS X.w h' s.heap.objs.size (M7 [] ss)->(∀b o,s.heap.get? b=some o->h'.get? b=some o)->EP X pins σ Q (.ref s.heap.objs.size) { s with heap:=h',toks:=tk }:=fun h' tk z k=>by
  exact⟨.ref s.heap.objs.size,_,I.laid (t':=tk) k (Nat.le_refl _) (Ru z),rfl,q _ (I.hok.fresh (Nat.le_refl _))⟩
 rcases hq with hq | hq
 .obtain⟨its,r',pl,hz⟩:=I.list hq;have hlen:=r'.length;rw[AA]at hlen;obtain⟨o,ho,hc',n,hd⟩:=pl.isList;exact V9 (I.ok.hd hc) ho hc' F.sub_list_set F.sub_list_frozenset (by decide) (fun s1 e q=>FS ⟨_,e,hc',n,hd⟩ q) (fun A I hA hne=>Walks.list hA I p hne its.toArray) (fun h I e1 e2=>⟨⟨_,e1,rfl,rfl⟩,⟨_,e2,hc',n,hd⟩⟩) rfl (by simp[hlen]) (Em r') (by simpa [<-hlen] using hb) fin
 .obtain⟨its,r',pl,hz⟩:=I.tuple hq;have hlen:=r'.length;rw[AA]at hlen;obtain⟨o,ho,hc',n,hd⟩:=pl;exact V9 (I.ok.hd hc) ho hc' i6 P2 (by decide) (fun s1 e q=>GK ⟨_,e,hc',n,hd⟩ q) (fun A I hA hne=>Walks.tuple hA I p hne its.toArray) (fun h I e1 e2=>⟨⟨_,e1,rfl,rfl⟩,⟨_,e2,hc',n,hd⟩⟩) rfl (by simp[hlen]) (Em r') (by simpa [<-hlen] using hb) fin
end
def own(scope:Scope)(cl:List (Str×Addr))(n:Nat):List (Str×Addr):=cellsFrom (n+1) scope.names cl
theorem O6:∀(names:List (Str×NameKind)) (n:Nat) (acc:List (Str×Addr)),cellsFrom n names acc=cellsFrom n names []++acc
 | [],_,_=>rfl
 | (y,k)::r,n,acc=>by
  unfold cellsFrom;split
  .rw[O6 r (n+1) ((y,n)::acc),O6 r (n+1) [(y,n)],BI];rfl
  .exact O6 r n acc
theorem Cy{α:Type}(x:Str):∀(l m:List (Str×α)),(l++m).lookup x =(l.lookup x).or (m.lookup x)
 | [],m=>rfl
 | (y,c)::r,m=>by
  rw[List.cons_append,FE,FE];cases x == y with
  | true=>rfl
  | false=>exact Cy x r m
theorem Y6{scope:Scope}{cl:List (Str×Addr)}{n:Nat}{x:Str}{c:Addr}(h:(own scope cl n).lookup x=some c):(cellsFrom (n+1) scope.names []).lookup x=some c\/((cellsFrom (n+1) scope.names []).lookup x=none/\cl.lookup x=some c):=by
 unfold own at h;rw[O6,Cy]at h;cases e:(cellsFrom (n+1) scope.names []).lookup x with
 | some d=>rw[e]at h;exact .inl h
 | none=>rw[e]at h;exact .inr ⟨rfl,h⟩
def cxD(X:Cx)(scope:Scope)(cl:List (Str×Addr))(N':List Str)(pins:List (Addr×Obj))(ex:List Addr)(s3:Shared)(H3:Hp):Cx where
 prog:=X.prog
 w:=X.w
 K:=X.K
 mg:=X.mg
 base:=X.base
 A:=X.A
 N:=N'
 s₀:=s3
 H₀:=H3
 env:=compEnvC scope (own scope cl s3.heap.objs.size) s3.heap.objs.size X.env
 outer:=X.stack
 stack:=X.stack
 ex:=ex
 fn:=fun x=>scope.names.lookup x == some .cell
 calm:=X.calm
 pn:=X.pn++pins
 xe:=fun _ _=>False
structure DScope(X:Cx)(scope:Scope)(cl:List (Str×Addr))(N':List Str)(cap:List (Option Nat)):Prop where
 kind:scope.kind = .function
 loc:∀y∈scope.names,y.2 = .local->scope.names.lookup y.1=some .local
 clos:closureFor scope X.env=pure cl
 cin:ClIn X cl
 has:∀n,((relabel scope X.env).names.all fun y=>!(y.2 == .cell||y.2 == .free)||((own scope cl n).lookup y.1).isSome)=true
 caps:∀n,Caps X scope (own scope cl n) N' cap
section
variable{X:Cx}{scope:Scope}{cl:List (Str×Addr)}{N':List Str}{cap:List (Option Nat)}{pins:List (Addr×Obj)}{σ:St}{H3:Hp}{s3:Shared}{ex:List Addr}
theorem Inv.blockD(I:Inv X pins σ H3 s3)(S:DScope X scope cl N' cap)(hc:X.calm=true)(hex:∀b∈ex,Aa X pins H3 b/\∃o,s3.heap.get? b=some o){h1:Heap}{tk:Nat}
  (hns:h1.Ns s3.heap.objs.size (fun _=>none)) (hk:∀b o,s3.heap.get? b=some o->h1.get? b=some o) (ok:CellsOk h1 (s3.heap.objs.size+1) (cellsFrom (s3.heap.objs.size+1) scope.names [])) :
  Inv (cxD X scope cl N' pins ex s3 H3) [] (Mq cap σ) H3 { s3 with heap:=h1,toks:=tk }:=by
 have lt3:∀b o,s3.heap.get? b=some o->b≠s3.heap.objs.size:=fun b o e=>BD (AJ e);have old:∀x c,cl.lookup x=some c->∃v,s3.heap.IsCell c v:=fun x c e=>I.cell x c (S.cin.get e);have new:∀{x c},(cellsFrom (s3.heap.objs.size+1) scope.names []).lookup x=some c->h1.IsCell c none/\s3.heap.objs.size+1<=c:=fun e=>ok.empty _ _ (PySem.mem_of_lookup e);have hfree:H3 s3.heap.objs.size=none:=I.hok.fresh (Nat.le_refl _);have olt:∀x c,cl.lookup x=some c->c<s3.heap.objs.size:=fun x c e=>let⟨_,h⟩:=old x c e;h.lt;refine⟨⟨I.ok.mod,?_,I.ok.glob,I.ok.blt,Nat.le_refl _,fun x y c e1 e2=>?_,fun x hx=>?_,fun x c h e=>?_,I.ok.hd,I.ok.frames,.inl rfl,fun b hb=>?_,I.bs,Nat.le_trans I.ok.bsz I.sz,fun b o e hb=>?_,fun b hb=>?_,I.stack,I.stkFree⟩,
  rfl,I.bare,Un.kept hk,⟨_,hns,fun i x v e1 e2 e3=>?_⟩,fun x c e=>?_,hfree,fun x c e=>?_,fun p hp=>?_,I.hok.kept hk,?_⟩
 .exact S.kind
 .rcases Y6 e1 with a | ⟨_,a⟩<;>rcases Y6 e2 with b | ⟨_,b⟩
  .exact name_of_addr ok.apart (PySem.mem_of_lookup a) (PySem.mem_of_lookup b)
  .exact absurd (BH (olt _ _ b) (DW (new a).2)) (CK _)
  .exact absurd (BH (olt _ _ a) (DW (new b).2)) (CK _)
  .exact I.ok.inj x y c (S.cin.get a) (S.cin.get b)
 .have q:∀k,(relabel scope X.env).names.lookup x=some k->(!(k == .cell||k == .free)||((own scope cl s3.heap.objs.size).lookup x).isSome)=true:=fun k e=>o0 (p:=fun _=>true) (q:=fun a k=>!(k == .cell||k == .free)||((own scope cl s3.heap.objs.size).lookup a).isSome) (S.has _) e;have hx':(relabel scope X.env).names.lookup x=some .cell\/(relabel scope X.env).names.lookup x=some .free:=hx;have:((own scope cl s3.heap.objs.size).lookup x).isSome=true:=by
   rcases hx' with e | e
   .exact q _ e
   .exact q _ e
  exact DB.mp this
 .have h:scope.names.lookup x=some .cell:=beq_iff_eq.mp h;have q:=PySem.W.cellsFrom_some scope.names (s3.heap.objs.size+1) [] (.inl h);rcases Y6 e with a | ⟨a,_⟩
  .exact DW (new a).2
  .rw[a]at q;cases q
 .obtain⟨⟨_,_,_,_,f4,_⟩,o,e⟩:=hex b hb;refine⟨lt3 b o e,fun x c ec=>?_⟩;rcases Y6 ec with a | ⟨_,a⟩
  .exact GP (BH (AJ e) (DW (new a).2))
  .exact f4 x c (S.cin.get a)
 .obtain⟨⟨f0,f1,f2,f3,_⟩,_⟩:=hex b hb;rcases f3 with f3 | f3
  .exact I.ok.noex b o e f3
  .have:=(I.ok.bs b o e).1;exact absurd (BH (AJ this) f3) (CK _)
 .intro hf;obtain⟨⟨_,f1,f2,_⟩,_⟩:=hex b hb;rcases AX.mp (I.stkSub b hf)with z | z
  .exact f1 z
  .exact f2 z
 .unfold Mq at e2;rw[AF]at e2;cases ec:cap[i]? with
  | none=>rw[ec]at e2;cases e2
  | some o =>
   rw[ec]at e2;cases o with
   | none=>cases e2
   | some j =>
    have e2':(σ[j]?).join=some v:=BV e2;obtain⟨c1,c2,c3,c4⟩:=(S.caps s3.heap.objs.size).get e1 ec;have ej:σ[j]?=some (some v):=by
     cases ej:σ[j]? with
     | none=>rw[ej]at e2';cases e2'
     | some z=>rw[ej]at e2';cases z with
      | none=>cases e2'
      | some z=>cases e2';rfl
    obtain⟨m,hn,hl⟩:=I.loc;obtain⟨u,r,l⟩:=hl j x v c1 ej (.inr (.inl c2));refine⟨u,r,?_⟩;rcases l with⟨k,_⟩ | ⟨_,c,hc',hcell'⟩
    .have:X.env.scope.names.lookup x=some .local:=k;rw[c2]at this;cases this
    .exact .inr ⟨.inl c3,c,c4.trans hc',let⟨o,ho,hd⟩:=hcell';⟨o,hk _ _ ho,hd⟩⟩
 .rcases Y6 e with a | ⟨_,a⟩
  .exact⟨_,(new a).1⟩
  .obtain⟨v,o,ho,hd⟩:=old x c a;exact⟨v,o,hk _ _ ho,hd⟩
 .rcases Y6 e with a | ⟨_,a⟩
  .exact I.hok.fresh (DW (new a).2)
  .exact I.freeC x c (S.cin.get a)
 .have hp':p∈X.pn++pins:=by simpa [cxD] using hp
  obtain⟨e,n,ne,nf,d⟩:=I.pin p hp';refine⟨hk _ _ e,n,lt3 _ _ e,fun hf=>?_,d⟩;rcases AX.mp (I.stkSub p.1 hf)with z | z
  .exact ne z
  .exact nf z
 .unfold Mq;rw[AA];exact(S.caps 0).len
theorem Inv.unblockD{σ':St}{H':Hp}{s':Shared}{h':Heap}(I:Inv X pins σ H3 s3)(hex:∀b∈ex,Aa X pins H3 b)(J:Inv (cxD X scope cl N' pins ex s3 H3) [] σ' H' s')(hb:Heap.SameBut s3.heap.objs.size s'.heap h') :
  Inv X pins σ H' { s' with heap:=h' }:=by
 have hfr:H' s3.heap.objs.size=none:=J.free;refine I.call' (ch:=ex) J.os ⟨fun b o e n h1 h2=>?_,fun b o e n h1 h2=>?_,fun b o e n h2=>?_,fun b o e h2=>?_,J.base.tups,J.base.frzs,J.base.tbls⟩ (fun b ob e=>?_) J.bare fun b hbx=>?_
 .exact(hb.2 b (BD (AJ e))).trans (J.base.keep b o e n h1 h2)
 .obtain⟨sl,q⟩:=J.base.slot b o e n h1 h2;exact⟨sl,(hb.2 b (BD (AJ e))).trans q⟩
 .exact J.base.free b o e n h2
 .obtain⟨o',q⟩:=J.base.there b o e h2;exact⟨o',(hb.2 b (BD (AJ e))).trans q⟩
 .refine(J.hok b ob e).stay (fun c w' hc q=>(hb.2 c ?_).trans q) (fun _ q=>q) fun _ _ q=>q;rintro rfl;rcases hc with z | z
  .rw[<-z,hfr]at e;cases e
  .rw[hfr]at z;cases z
 .obtain⟨_,f1,_,f3,f4,f5⟩:=hex b hbx;exact⟨f3,f1,f4,f5⟩
end
theorem Np{M:Model}{A:Around}{E:Value->Shared->Prop}{s:Shared}{scope:Scope}{globals:Addr}{cl:List (Str×Addr)}{qual:Str}{env:Env}{Q:Env->Shared->Prop}
  (hQ:∀b,Q (newEnv scope s.heap.objs.size globals (own scope cl s.heap.objs.size) qual none .none (some env) b) { s with heap:=pushCells (s.heap.push { cls:=.type "dict",data:=.dict #[] }) scope.names }) :
  wpAny M A (newFunctionEnv scope globals cl [] qual none .none (some env)) Q E s:=by
 simp only[newFunctionEnv,Option.isSome_some,EL];refine AB (wpAny_alloc ?_);refine AB (wpAny_layCells _ (fun name kind cells=>by cases hkc:kind == NameKind.cell<;>simp[hkc]) _ _ _ _ ?_);rw[show({ s with heap:=s.heap.push { cls:=.type "dict",data:=.dict #[] } }:Shared).heap.objs.size=s.heap.objs.size+1 from CB ..];rw[List.forIn_nil];exact AB (AD (AD (hQ 0)))
section
variable{X:Cx}{tg iter:Expr}{ifs:List Expr}{g:TG}{tc:TT}{em:TEm}{scope:Scope}{cl:List (Str×Addr)}{N':List Str}{cap:List (Option Nat)}{pos:Pos}{wi:TI}
theorem zDx(caps:∀n,Caps X scope (own scope cl n) N' cap)(cin:ClIn X cl)(clos:closureFor scope X.env=pure cl:=by rfl)(kind:scope.kind = .function:=by rfl)
  (loc:∀y∈scope.names,y.2 = .local->scope.names.lookup y.1=some .local:=by decide +kernel) (has:∀n,((relabel scope X.env).names.all fun y=>!(y.2 == .cell||y.2 == .free)||((own scope cl n).lookup y.1).isSome)=true:=by intro _;rfl):DScope X scope cl N' cap:=⟨kind,loc,clos,cin,has,caps⟩
theorem pgD{pins:List (Addr×Obj)}{ex:List Addr}{s3:Shared}{H3:Hp}{x:Str}{pos:Pos}(i:Nat)(hN:N'.Nodup:=by decide +kernel)(hi:N'[i]?=some x:=by rfl)(hx:Loc (cxD X scope cl N' pins ex s3 H3).env.scope x:=by first | exact Or.inl rfl | exact Or.inr rfl)
  (hf:(cxD X scope cl N' pins ex s3 H3).fn x=true\/(cxD X scope cl N' pins ex s3 H3).env.scope.names.lookup x=some .local:=by first | exact Or.inr rfl | exact Or.inl rfl):PG (cxD X scope cl N' pins ex s3 H3) (.Name x pos) (S7 i):=D6 (X:=cxD X scope cl N' pins ex s3 H3) hN hi hx hf
end
def Us:List Str->List Value->Bool
 | [],[]=>true
 | x::xs,.str y _::us=>x == y&&Us xs us
 | _,_=>false
theorem Qw:∀{xs:List Str} {us:List Value},Us xs us=true->Vals (xs.map V.str) us
 | [],[],_=>.nil
 | x::xs,.str y t::us,h=>by
  obtain⟨h1,h2⟩:=(CD _ _).mp (show(x == y&&Us xs us)=true from h);have e:x=y:=beq_iff_eq.mp h1;exact .cons ⟨t,by rw[e]⟩ (Qw h2)
def GTup(K:PySem.W.Frag)(a:Addr)(xs:List Str):Prop:=∃(o:Obj) (its:Array Value) (n:Nat),K.lookup a=some o/\o.cls = .type "tuple"/\o.data = .seq its n/\its.size<=sizeLine/\Vals (xs.map V.str) its.toList
theorem GTup.sq{K:PySem.W.Frag}{H:Hp}{a:Addr}{xs:List Str}(h:GTup K a xs):SqT K H a (xs.map V.str):=.inr h
theorem Kx:∀{xs:List V} {us:List Value},Vals xs us->us.length=xs.length
 | _,_,.nil=>rfl
 | _,_,.cons _ t=>by rw[BK,BK,Kx t]
theorem gtup_mk{K:PySem.W.Frag}{a:Addr}{xs:List Str}{o:Obj}(l:K.lookup a=some o)(e:∃its n d osl,o =⟨.type "tuple",d,.seq its n,osl⟩/\(decide (xs.length<=100)&&Us xs its.toList)=true):GTup K a xs:=by
 obtain⟨its,n,d,osl,rfl,h⟩:=e;obtain⟨h1,h2⟩:=(CD _ _).mp h;have v:=Qw h2;refine⟨_,its,n,l,rfl,rfl,?_,v⟩;have e1:=Kx v;rw[AA,AQ]at e1;have:=BG h1;rw[sizeLine_eq,e1];omega
theorem j9{a b:Addr}{n:Nat}(h1:a<n)(h2:n<=b):b≠a:=fun z=>by subst z;exact absurd h2 (Nat.not_le_of_lt h1)
section
variable{fs ex:List Addr}{H:Hp}{h h':Heap}{a:Addr}
theorem HOk.table{P:Program}{w:World}{ps qs:Array Value}(ok:HOk P w H h)(hp:H a=some (.tbl ps))(k:∀b u,b≠a->h.get? b=some u->h'.get? b=some u)(he:h'.get? a=some { cls:=.none,data:=.fields qs }):HOk P w (upd H a (.tbl qs)) h':=fun b u q=>by
 by_cases hb:b=a
 .subst hb;rw[A9]at q;cases q;exact he
 .rw[B6 hb]at q;have n:∀c o,H c=some o->o≠ .tbl ps->c≠a:=fun c o e ne z=>by rw[z,hp]at e;cases e;exact ne rfl
  refine(ok b u q).stay (fun c v hc r=>k c v ?_ r) (fun c r=>by rw[B6 (n c _ r (by intro z;cases z))];exact r) fun c xs r=>by rw[B6 (n c _ r (by intro z;cases z))];exact r
  rcases hc with rfl | hc
  .exact hb
  .exact n c _ hc (by intro z;cases z)
end
section
variable{P:Program}{w:World}{fs ex:List Addr}{H H':Hp}{h h':Heap}{a:Addr}{o:HO}
theorem Un.more{p:Addr}{ps more:Array Value}(hp:H p=some (.tbl ps))(hp':H' p=some (.tbl (ps++more)))(old:∀b o,H b=some o->b≠p->H' b=some o)(fre:∀b,b<h.objs.size->H b=none->H' b=none)
  (k:∀b u,b≠p->h.get? b=some u->h'.get? b=some u) (he:∃u,h'.get? p=some u):Un fs ex H H' h h':=by
 have ne:∀b,H b=none->b≠p:=fun b n e=>by rw[e,hp]at n;cases n
 refine⟨fun b u q n _ _=>k b u (ne b n) q,fun b u q n _ _=>⟨u.slots,k b u (ne b n) q⟩,fun b u q n _=>fre b (AJ q) n,fun b u q _=>?_,fun b xs q=>old b _ q fun e=>?_,fun b o u q=>old b _ q fun e=>?_,fun b qs q=>?_⟩
 .by_cases e:b=p
  .subst e;exact he
  .exact⟨u,k b u e q⟩
 .rw[e,hp]at q;cases q
 .rw[e,hp]at q;cases q
 .by_cases e:b=p
  .subst e;rw[hp]at q;cases q;exact⟨more,hp'⟩
  .exact⟨#[],by rw[old b _ q e];simp⟩
theorem HOk.track(x:HOk P w H h)(hn:H a=none)(new:ObjOk P w (upd H a o) h a o):HOk P w (upd H a o) h:=fun b u e=>by
 by_cases hb:b=a
 .subst hb;rw[A9]at e;cases e;exact new
 .rw[B6 hb]at e;exact(x b u e).stay (fun c v _ q=>q) (fun c q=>by rw[B6 (B2 q hn)];exact q) fun c xs q=>by rw[B6 (B2 q hn)];exact q
end
def CodeO(c:Addr)(q:Str):HO:=.ext fun h=>h.CodeRec (.ref c) q
def LamO(f c:Addr)(q:Str)(ps:Arguments)(b:Expr)(sc:Scope)(cl:List (Str×Addr)):HO:=.ext fun h=>∃pm ct,h.get? f=some (PySem.W.kla_obj "<lambda>" q ps b sc cl pm c ct)
theorem CodeO.ok{P:Program}{w:World}{H:Hp}{h:Heap}{c:Addr}{q:Str}(r:h.CodeRec (.ref c) q):ObjOk P w H h c (CodeO c q):=by
 have r0:=r;obtain⟨c',o,vs,t,e,ho,hd,hv⟩:=r;cases e;refine⟨r0,⟨o,ho⟩,fun h1 h2 r1 k=>?_⟩;obtain⟨c',o,vs,t,e,ho,hd,hv⟩:=r1;cases e;exact⟨c,o,vs,t,rfl,k o ho,hd,hv⟩
theorem LamO.ok{P:Program}{w:World}{H:Hp}{h:Heap}{f c:Addr}{q:Str}{ps:Arguments}{b:Expr}{sc:Scope}{cl:List (Str×Addr)}{pm ct:Value}(r:h.get? f=some (PySem.W.kla_obj "<lambda>" q ps b sc cl pm c ct)):ObjOk P w H h f (LamO f c q ps b sc cl) :=
 ⟨⟨pm,ct,r⟩,⟨_,r⟩,fun h1 h2 ⟨pm,ct,e⟩ k=>⟨pm,ct,k _ e⟩⟩
def K3(cells:List (Str×Addr)):List (Str×NameKind)->List (Str×Addr)->List (Str×Addr)
 | [],cs=>cs
 | (n,k)::r,cs=>K3 cells r (if(k == NameKind.free)=true then(n,(cells.lookup n).getD 0)::cs else cs)
theorem d7{scope:Scope}{env:Env}(h:∀x∈scope.names,x.2 = .free->(env.cells.lookup x.1).isSome=true):closureFor scope env=pure (K3 env.cells scope.names []):=by
 have main:∀(l:List (Str×NameKind)) (cs:List (Str×Addr)),(∀x∈l,x.2 = .free->(env.cells.lookup x.1).isSome=true) ->
   (forIn (m:=Sem) l cs fun x __s=>match x with
    | (name,kind)=>if(kind == NameKind.free)=true then do
      let __do_lift <-cellOf env name
      pure (ForInStep.yield ((name,__do_lift)::__s))
     else pure (ForInStep.yield __s))=pure (K3 env.cells l cs):=by
  intro l
  induction l with
  | nil=>intro cs _;rfl
  | cons x r ih =>
   obtain⟨n,k⟩:=x;intro cs hx;rw[GG];by_cases e:(k == NameKind.free)=true
   .have hk:k = .free:=eq_of_beq e;obtain⟨c,hc⟩:=DB.mp (hx (n,k) (AW ..) hk);have hc':cellOf env n=pure c:=by
     unfold cellOf;rw[show List.lookup n env.cells=some c from hc]
    simp only[e,EL,hc',pure_bind];rw[ih _ fun y hy=>hx y (AO _ hy)];show _=pure (K3 env.cells r (if(k == NameKind.free)=true then(n,(env.cells.lookup n).getD 0)::cs else cs));rw[AY e,show List.lookup n env.cells=some c from hc];rfl
   .simp only[e,BF,CI,pure_bind];rw[ih _ fun y hy=>hx y (AO _ hy)];show _=pure (K3 env.cells r (if(k == NameKind.free)=true then(n,(env.cells.lookup n).getD 0)::cs else cs));rw[AS e]
 unfold closureFor;simp only[main scope.names [] h,pure_bind]
theorem Ah{pos q:Pos}{c:Value}:∀(l:List Value),TriplesOk l->¬(pos.line=q.line/\pos.col=q.col)->codeAmong q (l ++ [rawInt pos.line,rawInt pos.col,c])=codeAmong q l
 | [],_,n=>by
  show(if((pos.line:Int) ==(q.line:Int) &&(pos.col:Int) ==(q.col:Int))=true then some c else none)=none;rw[AS];intro z;rw[CD,beq_iff_eq,beq_iff_eq]at z;exact n ⟨by omega,by omega⟩
 | .int a _ :: .int b _::x::r,h,n=>by
  show(if(a ==(q.line:Int)&&b ==(q.col:Int))=true then some x else codeAmong q (r ++ [rawInt pos.line,rawInt pos.col,c]))=if(a ==(q.line:Int)&&b ==(q.col:Int))=true then some x else codeAmong q r
  rw[Ah r h n]
def y6(H:Hp)(P:Addr)(ls:List (Pos×Str)):Prop:=∃ps,H P=some (.tbl ps)/\TriplesOk ps.toList/\∀l∈ls,codeAmong l.1 ps.toList=none\/∃c,codeAmong l.1 ps.toList=some (.ref c)/\H c=some (CodeO c l.2)
structure TabAt(K:PySem.W.Frag)(mg:Str->Option Value)(c P:Addr):Prop where
 hd:∀h:Heap,K.In h->PySem.W.CodeHd h c P
 ne:mainGlobals≠P
def zFn(P:Addr)(ls:List (Pos×Str))(cl:List (Str×Addr))(q:Str)(ps:Arguments)(b:Expr)(sc:Scope):TE:=fun _ H Q=>y6 H P ls/\∀f c H',H f=none->y6 H' P ls->H' c=some (CodeO c q)->H' f=some (LamO f c q ps b sc cl)->f≠P->(∀a o,H a=some o->a≠P->H' a=some o)->Q (.ref f) H'
section
variable{X:Cx}
theorem Qz{args:Arguments}{body:Expr}{scope:Scope}{pos:Pos}{c P:Addr}{ls:List (Pos×Str)}(T:TabAt X.K X.mg c P)(hB:X.base.BuiltinsAt X.mg P)(hc:X.env.code = .ref c)(hd1:args.defaults = [])(hd2:args.kw_defaults = [])
  (hfr:∀x∈scope.names,x.2 = .free->X.env.scope.names.lookup x.1=some .cell) (hl:(pos,X.env.qual ++ "<lambda>")∈ls) (hu:∀l∈ls,∀l'∈ls,l.1.line=l'.1.line->l.1.col=l'.1.col->l=l') :
  PE X (.Lambda args body scope pos) (zFn P ls (K3 X.env.cells scope.names []) (X.env.qual ++ "<lambda>") args body scope):=by
 intro pins s σ H Q I h;obtain⟨⟨ps,hP,tr,hls⟩,q⟩:=h;have hdef:defaultsOf args X.env =([],[]):=by
  cases args;cases hd1;cases hd2;rfl
 rw[arm_eval_Lambda,hdef];refine AB (AD (AB (BU (AD ?_))));have hPs:s.heap.get? P=some (PySem.W.tabObj ps):=I.hok P _ hP;have hfr:∀x∈scope.names,x.2 = .free->(X.env.cells.lookup x.1).isSome=true:=fun x hx e=>by
  obtain⟨c,hc⟩:=I.ok.has x.1 (.inl (hfr x hx e));rw[hc];rfl
 have hns:s.heap.Ns mainGlobals X.mg:=I.mod.glob.keeps I.bk;have hB:s.heap.BuiltinsAt X.mg P:=let⟨bm,o,h1,h2,h3,h4,h5,h6⟩:=hB;⟨bm,o,h1,h2,h3,h4,I.bk _ _ h5,h6⟩;rcases hls _ hl with e | ⟨c',e,hc'⟩
 .refine PySem.W.kla_makeFunction (d7 hfr) I.ok.glob hns hc (T.hd _ I.kIn) hPs tr e T.ne hB fun c' ctv h' tk xb le lt cr eP=>?_;have szP:P<s.heap.objs.size:=AJ hPs;have ncP:c'≠P:=j9 szP le;have nfP:h'.objs.size≠P:=j9 szP (Nat.le_trans le (DM lt));have nfc:h'.objs.size≠c':=j9 lt (Nat.le_refl _);have hnc:H c'=none:=I.hok.fresh le;have hnf:H h'.objs.size=none:=I.hok.fresh (Nat.le_trans le (DM lt));have eO:(h'.push (PySem.W.kla_obj "<lambda>" (X.env.qual ++ "<lambda>") args body scope (K3 X.env.cells scope.names []) ((X.mg "__name__").getD .none) c' ctv)).get? h'.objs.size=some (PySem.W.kla_obj "<lambda>" (X.env.qual ++ "<lambda>") args body scope (K3 X.env.cells scope.names []) ((X.mg "__name__").getD .none) c' ctv):=BE _ rfl;have kk:∀b u,h'.get? b=some u->(h'.push (PySem.W.kla_obj "<lambda>" (X.env.qual ++ "<lambda>") args body scope (K3 X.env.cells scope.names []) ((X.mg "__name__").getD .none) c' ctv)).get? b=some u:=fun b u e=>AE _ e;generalize h'.push (PySem.W.kla_obj "<lambda>" (X.env.qual ++ "<lambda>") args body scope (K3 X.env.cells scope.names []) ((X.mg "__name__").getD .none) c' ctv)=h2 at eO kk⊢;have k:∀b u,b≠P->s.heap.get? b=some u->h2.get? b=some u:=fun b u n e=>kk b u (xb b u n e);have cr2:h2.CodeRec (.ref c') (X.env.qual ++ "<lambda>"):=by
   obtain⟨c1,o,vs,t,e1,ho,hd,hv⟩:=cr;exact⟨c1,o,vs,t,e1,kk _ _ ho,hd,hv⟩
  have eP2:=kk _ _ eP;have u1:upd H P (.tbl (ps ++ #[rawInt pos.line,rawInt pos.col,.ref c'])) c'=none:=by rw[B6 ncP];exact hnc
  have u2:upd (upd H P (.tbl (ps ++ #[rawInt pos.line,rawInt pos.col,.ref c']))) c' (CodeO c' (X.env.qual ++ "<lambda>")) h'.objs.size=none:=by rw[B6 nfc,B6 nfP];exact hnf
  have hok2:=((I.hok.table hP k eP2).track u1 (CodeO.ok cr2)).track u2 (LamO.ok eO);have hp':upd (upd (upd H P (.tbl (ps ++ #[rawInt pos.line,rawInt pos.col,.ref c']))) c' (CodeO c' (X.env.qual ++ "<lambda>"))) h'.objs.size (LamO h'.objs.size c' (X.env.qual ++ "<lambda>") args body scope (K3 X.env.cells scope.names [])) P=some (.tbl (ps ++ #[rawInt pos.line,rawInt pos.col,.ref c'])):=by rw[B6 nfP.symm,B6 ncP.symm,A9]
  have hc2:upd (upd (upd H P (.tbl (ps ++ #[rawInt pos.line,rawInt pos.col,.ref c']))) c' (CodeO c' (X.env.qual ++ "<lambda>"))) h'.objs.size (LamO h'.objs.size c' (X.env.qual ++ "<lambda>") args body scope (K3 X.env.cells scope.names [])) c'=some (CodeO c' (X.env.qual ++ "<lambda>")):=by rw[B6 nfc.symm,A9]
  have old:∀b o,H b=some o->b≠P->upd (upd (upd H P (.tbl (ps ++ #[rawInt pos.line,rawInt pos.col,.ref c']))) c' (CodeO c' (X.env.qual ++ "<lambda>"))) h'.objs.size (LamO h'.objs.size c' (X.env.qual ++ "<lambda>") args body scope (K3 X.env.cells scope.names [])) b=some o:=fun b o e n=>by
   rw[B6 (B2 e hnf),B6 (B2 e hnc),B6 n];exact e
  refine⟨.ref h'.objs.size,_,I.un (Un.more hP hp' old (fun b lb n=>?_) k ⟨_,eP2⟩) hok2,rfl,q _ c' _ hnf ⟨_,hp',?_,fun l ml=>?_⟩ hc2 A9 nfP old⟩
  .rw[B6 (j9 lb (Nat.le_trans le (DM lt))).symm,B6 (j9 lb le).symm,B6 (by intro z;rw[z,hP]at n;cases n)];exact n
  .rw[BP];exact TriplesOk_snoc _ _ _ _ tr
  .rw[BP];by_cases el:l =(pos,X.env.qual ++ "<lambda>")
   .subst el;exact .inr ⟨c',codeAmong_snoc _ tr e,hc2⟩
   .have ne:¬(pos.line=l.1.line/\pos.col=l.1.col):=fun z=>el (hu l ml _ hl z.1.symm z.2.symm);rw[show(#[rawInt pos.line,rawInt pos.col,Value.ref c']:Array Value).toList = [rawInt pos.line,rawInt pos.col,Value.ref c']from rfl,Ah _ tr ne];rcases hls l ml with z | ⟨cc,z,hz⟩
    .exact .inl z
    .exact .inr ⟨cc,z,old _ _ hz fun y=>by rw[y,hP]at hz;cases hz⟩
 .refine PySem.W.kla_makeFunctionHit (d7 hfr) I.ok.glob hns hc (T.hd _ I.kIn) hPs tr e hB fun ctv h' tk k le=>?_;have szP:P<s.heap.objs.size:=AJ hPs;have nfP:h'.objs.size≠P:=j9 szP le;have hnf:H h'.objs.size=none:=I.hok.fresh le;have old:∀b o,H b=some o->upd H h'.objs.size (LamO h'.objs.size c' (X.env.qual ++ "<lambda>") args body scope (K3 X.env.cells scope.names [])) b=some o:=fun b o e=>by rw[B6 (B2 e hnf)];exact e
  refine⟨.ref h'.objs.size,_,I.laid (t':=tk) (fun b u e=>AE _ (k b u e)) le (LamO.ok (BE _ rfl)),rfl,q _ c' _ hnf ⟨ps,old _ _ hP,tr,fun l ml=>?_⟩ (old _ _ hc') A9 nfP fun b o e _=>old b o e⟩;rcases hls l ml with z | ⟨cc,z,hz⟩
  .exact .inl z
  .exact .inr ⟨cc,z,old _ _ hz⟩
structure CellsIn(X:Cx)(base':Heap)(σ:St):Prop where
 val:∀(i:Nat) (x:Str) (v:V) (c:Addr),X.N[i]?=some x->σ[i]?=some (some v)->X.env.scope.names.lookup x=some .cell->X.env.cells.lookup x=some c->∃u,RelV v u/\base'.IsCell c (some u)
 inj:∀x y c,X.env.cells.lookup x=some c->X.env.cells.lookup y=some c->x=y
 has:∀x,X.env.scope.names.lookup x=some .cell->∃c,X.env.cells.lookup x=some c
def Cd(X:Cx)(h:Heap):Heap:=Sx h fun b=>open Classical in if(X.base.get? b).isSome=true\/∃x,X.fn x=true/\X.env.cells.lookup x=some b then none else some (.own 0)
theorem Fx{h:Heap}{b:Addr}{o:Obj}(e:h.get? b=some o)(p:(X.base.get? b).isSome=true\/∃x,X.fn x=true/\X.env.cells.lookup x=some b):(Cd X h).get? b=some o:=Ab e (by rw[AY p])
theorem Ls{h:Heap}{b:Addr}{o:Obj}(e:(Cd X h).get? b=some o):h.get? b=some o/\((X.base.get? b).isSome=true\/∃x,X.fn x=true/\X.env.cells.lookup x=some b):=by
 obtain⟨e1,e2⟩:=Pa e;refine⟨e1,Classical.byContradiction fun z=>?_⟩;rw[AS z]at e2;cases e2
variable{pins:List (Addr×Obj)}{σ:St}{H:Hp}{s:Shared}
theorem Inv.wbs(I:Inv X pins σ H s){b:Addr}{o:Obj}(e:X.base.get? b=some o):(Cd X s.heap).get? b=some o:=Fx (I.bk b o e) (.inl (by rw[e];rfl))
theorem Inv.wmod(I:Inv X pins σ H s):Mod X.K X.mg (Cd X s.heap):=by
 obtain⟨kin,glob,⟨mb,hb,hbb⟩,lim⟩:=I.ok.mod;exact⟨kin.keeps fun b o e=>I.wbs e,glob.keeps fun b o e=>I.wbs e,⟨mb,hb.keeps fun b o e=>I.wbs e,hbb⟩,lim.keeps fun b o e=>I.wbs e⟩
theorem Inv.cell_nofs(I:Inv X pins σ H s){x:Str}{c:Addr}(hf:X.fn x=true)(e:X.env.cells.lookup x=some c):c∉frs X.stack:=fun z=>by
 rcases AX.mp (I.stkSub c z)with y | y
 .exact I.cne x c e y
 .obtain⟨_,o,ho,_⟩:=I.ok.funs.mem y;exact absurd (AJ ho) (Nat.not_lt_of_le (I.ok.cab x c hf e))
theorem Inv.wfuns(I:Inv X pins σ H s):s.heap.FunFrames (Cd X s.heap) X.stack:=by
 have all:∀l:List Env,(∀b∈frs l,b∈frs X.stack)->s.heap.FunFrames X.base l->s.heap.FunFrames (Cd X s.heap) l:=by
  intro l
  induction l with
  | nil=>intro _ _;trivial
  | cons env r ih =>
   intro hs hl;obtain⟨hk,⟨L,o,hf,hn,ho,hd⟩,hr⟩:=hl;have hL:L∈frs X.stack:=hs L (by unfold frs;rw[DI,hf];exact AW);refine⟨hk,⟨L,o,hf,?_,ho,hd⟩,ih (fun b hb=>hs b (by unfold frs;rw[DI,hf];exact AO _ hb)) hr⟩;cases q:(Cd X s.heap).get? L with
   | none=>rfl
   | some u =>
    rcases(Ls q).2 with z | ⟨x,z,y⟩
    .rw[hn]at z;cases z
    .exact absurd hL (I.cell_nofs z y)
 exact all X.stack (fun _ h=>h) I.stack
theorem Inv.wenv(I:Inv X pins σ H s):Env0 X.prog X.w X.K X.mg (Cd X s.heap) X.A X.stack s H:=by
 refine⟨I.ok.frames,I.wmod,fun b o e=>?_,Nat.le_of_eq (Gg _ _),I.wfuns,I.stkFree,I.hok,I.bare⟩;obtain⟨e1,e2⟩:=Ls e;refine⟨e1,?_⟩;rcases e2 with z | ⟨x,_,y⟩
 .obtain⟨u,hu⟩:=DB.mp z;exact(I.bs b u hu).2
 .exact I.freeC x b y
theorem Inv.wcells(I:Inv X pins σ H s)(hf:∀x,X.fn x=true):CellsIn X (Cd X s.heap) σ:=by
 refine⟨fun i x v c e1 e2 e3 e4=>?_,I.ok.inj,fun x h=>I.ok.has x (.inl h)⟩;obtain⟨m,_,h⟩:=I.loc;obtain⟨u,r,l⟩:=h i x v e1 e2 (.inr (.inl e3));refine⟨u,r,?_⟩;rcases l with⟨z,_⟩ | ⟨_,c',e5,o,ho,hd⟩
 .rw[show X.env.kindOf x=some .cell from e3]at z;cases z
 .rw[e4]at e5;cases e5;exact⟨o,Fx ho (.inr ⟨x,hf x,e4⟩),hd⟩
end
def zBp(X:Cx)(k:Nat)(f:Addr)(fd:FuncData)(ps:List Str)(t:TA):TE:=fun σ H Q=>t σ H fun vs H1=>∀base':Heap,CellsIn X base' σ->X.K.In base'->∃sp:Sp,FnOk X.prog X.w X.K X.mg base' CX0 k f fd ps sp/\sp vs H1 Q E0
section
variable{X:Cx}{k:Nat}{x:Str}{st:Stmt}{ps:List Str}{e:Expr}{es:List Expr}{t:TA}{p pos:Pos}
theorem Ke(hf:∀x,X.fn x=true)(D:Fn X.K X.mg x st ps)(hr:Room k X.A)(ha:PA X (e::es) t)(hg:Gl X x:=by rfl)(hdb:(x ==("__debug__":Str))=false:=by decide)
  (he:starEach (e::es) X.env =(false,eval e X.env)::starEach es X.env:=by rfl) (hpl:(backTo pos (starEach es X.env)).any (·.1)=false:=by rfl) :
  PE X (.Call (.Name x p) (e::es) [] pos) (zBp X k D.f D.fd ps t):=by
 intro pins s σ H Q I h;refine DP (Df I hg D.m ?_ hdb);refine PySem.W.callWith_K (h₀:=X.base) I.ok.mod.kin D.F.kp (thn (ha pos pins s σ H _ I h) fun us s1 ⟨vs,H1,I1,r,q⟩=>⟨I1.kIn,?_⟩) he hpl;obtain⟨sp,F,hsp⟩:=q (Cd X s1.heap) (I1.wcells hf) I1.wmod.kin;have hl:us.length=ps.length:=by rw[<-r.length];exact F.len _ _ _ _ hsp
 have hb:=D.b s1 us I1.kIn (by rw[CL];exact hl);rw[CL]at hb;refine wpAny_call (FW (F.run X.A X.stack s1 H1 ⟨us,[]⟩ us vs Q E0 hr I1.wenv hb r hsp) fun r s' hq=>?_);cases r with
 | error e=>exact hq.elim
 | ok fl =>
  cases fl with
  | ret u=>exact I1.after hq
  | next=>exact False.elim hq
  | brk=>exact False.elim hq
  | cont=>exact False.elim hq
end
structure LamScope(N ps fr:List Str)(sc:Scope):Prop where
 kind:sc.kind = .function
 co:sc.isCoroutine=false
 gen:sc.isGenerator=false
 eq:N=ps++fr
 nd:N.Nodup
 par:∀x∈ps,sc.names.lookup x=some .local
 fre:∀x∈fr,sc.names.lookup x=some .free
 nocell:∀y∈sc.names,y.2≠ .cell
 has:∀y∈sc.names,y.2 = .free->y.1∈fr
def Sf(P:Program)(w:World)(K:PySem.W.Frag)(mg:Str->Option Value)(base:Heap)(N:List Str)(qual:Str)(scope:Scope)(f:Addr)(cd:Value)(cl:List (Str×Addr))(A:Around)(outer:List Env)(s:Shared)(H:Hp):Cx where
 prog:=P
 w:=w
 K:=K
 mg:=mg
 base:=base
 A:=A.deeper (PySem.W.envX qual scope s.heap.objs.size f cd cl)
 N:=N
 s₀:=s
 H₀:=H
 env:=PySem.W.envX qual scope s.heap.objs.size f cd cl
 outer:=outer
 stack:=PySem.W.envX qual scope s.heap.objs.size f cd cl::outer
 ex:=[]
 calm:=true
 fn:=fun _=>false
 pn:=[]
 xe:=fun _ _=>False
theorem Cq{us:List Value}:∀{ps:List Str} {us:List Value} {i:Nat} {x:Str} {u:Value},ps.Nodup->ps[i]?=some x->us[i]?=some u->(ps.zip us).reverse.lookup x=some u
 | [],_,_,_,_,_,h,_=>by simp at h
 | _::_,[],_,_,_,_,_,h=>by simp at h
 | p::ps,w::us,0,x,u,nd,h1,h2=>by
  simp at h1 h2;subst h1 h2;rw[List.zip_cons_cons,List.reverse_cons,List.lookup_append];have:(ps.zip us).reverse.lookup p=none:=by
   rw[List.lookup_eq_none_iff];intro q hq;have:=(GE (List.mem_reverse.mp hq)).1;simp;intro e;exact(BX.mp nd).1 (e▸this)
  rw[this];simp
 | p::ps,w::us,i+1,x,u,nd,h1,h2=>by
  rw[List.zip_cons_cons,List.reverse_cons,List.lookup_append,Cq (us:=us) (BX.mp nd).2 (by simpa using h1) (by simpa using h2)];rfl
section
variable{P:Program}{w:World}{K:PySem.W.Frag}{mg:Str->Option Value}{base:Heap}{N ps fr:List Str}{qual:Str}{scope:Scope}{f c:Addr}{cl:List (Str×Addr)}{A:Around}{outer:List Env}{s:Shared}{H:Hp}
structure ClosV(base:Heap)(cl:List (Str×Addr))(fr:List Str)(gs:List V):Prop where
 len:gs.length=fr.length
 val:∀(i:Nat) (x:Str) (v:V),fr[i]?=some x->gs[i]?=some v->∃c u,cl.lookup x=some c/\RelV v u/\base.IsCell c (some u)
 only:∀x c,cl.lookup x=some c->x∈fr
 inj:∀x y c,cl.lookup x=some c->cl.lookup y=some c->x=y
theorem Xv{us:List Value}{vs gs:List V}{h':Heap}{tk:Nat}(S:LamScope N ps fr scope)(C:ClosV base cl fr gs)(hd:A.handled=none)(e0:Env0 P w K mg base A outer s H)(hl:vs.length=ps.length)(r:Vals vs us)
  (ns:h'.Ns s.heap.objs.size fun x=>(ps.zip us).reverse.lookup x) (k:∀b o,s.heap.get? b=some o->h'.get? b=some o) :
  Inv (Sf P w K mg base N qual scope f (.ref c) cl A outer s H) [] (vs.map some++gs.map some) H { s with heap:=h',toks:=tk }:=by
 have cell:∀x d,cl.lookup x=some d->∃u o,base.get? d=some o/\o.data = .cell (some u):=fun x d e=>by
  obtain⟨i,hi⟩:=List.mem_iff_getElem?.mp (C.only x d e);have li:i<gs.length:=by rw[C.len];exact(AU.mp hi).1
  obtain⟨d',u,e',_,o,ho,hd⟩:=C.val i x gs[i] hi (AN li);rw[e]at e';cases e';exact⟨u,o,ho,hd⟩
 have noA:∀b:Addr,b∉(Sf P w K mg base N qual scope f (.ref c) cl A outer s H).ex:=fun b z=>absurd (show b∈([]:List Addr)from z) (by simp);refine⟨⟨e0.mod,S.kind,rfl,rfl,Nat.le_refl _,C.inj,fun y hy=>?_,fun y d z _=>?_,fun _=>hd,Around.frames_deeper e0.frames,.inr ⟨rfl,rfl⟩,fun b z=>absurd z (noA b),e0.bs,e0.bsz,fun b _ _=>noA b,fun b z=>absurd z (noA b),e0.funs,e0.frf⟩,
  rfl,e0.bare,Un.kept k,⟨_,ns,fun i y v h1 h2 h3=>?_⟩,fun y d h=>?_,e0.hok.fresh (Nat.le_refl _),fun y d h=>?_,fun p hp=>absurd (show p∈([]:List (Addr×Obj))from hp) (by simp),e0.hok.kept k,?_⟩
 .have hy:scope.names.lookup y=some .cell\/scope.names.lookup y=some .free:=hy;rcases hy with hy | hy
  .exact absurd rfl (S.nocell _ (PySem.mem_of_lookup hy))
  .obtain⟨i,hi⟩:=List.mem_iff_getElem?.mp (S.has _ (PySem.mem_of_lookup hy) rfl);have li:i<gs.length:=by rw[C.len];exact(AU.mp hi).1
   obtain⟨d',_,e',_⟩:=C.val i y gs[i] hi (AN li);exact⟨d',e'⟩
 .cases(show false=true from z)
 .have h1:(ps++fr)[i]?=some y:=by rw[<-S.eq];exact h1
  have nd:(ps++fr).Nodup:=by rw[<-S.eq];exact S.nd
  by_cases li:i<vs.length
  .rw[EB (by rw[AA];exact li),AF]at h2;rw[EB (by omega)]at h1;obtain⟨v',hv,e⟩:=AV.mp h2;cases e;obtain⟨u,hu,rv⟩:=r.get hv;exact⟨u,rv,.inl ⟨S.par y (AK h1),Cq (us:=us) (BQ.mp nd).1 h1 hu⟩⟩
  .rw[DX (by rw[AA];omega),AF,AA]at h2;rw[DX (by omega)]at h1;obtain⟨v',hv,e⟩:=AV.mp h2;cases e;rw[hl]at hv;obtain⟨d,u,e1,rv,o,ho,hd⟩:=C.val _ y v h1 hv;exact⟨u,rv,.inr ⟨.inr (S.fre y (AK h1)),d,e1,o,k _ _ (e0.bs _ _ ho).1,hd⟩⟩
 .obtain⟨u,o,ho,hd⟩:=cell y d h;exact⟨_,o,k _ _ (e0.bs _ _ ho).1,hd⟩
 .obtain⟨u,o,ho,hd⟩:=cell y d h;exact(e0.bs _ _ ho).2
 .show _=N.length;rw[S.eq,BB,AA,AA,BB,hl,C.len]
theorem zBh{args:Arguments}{body:Expr}{k:Nat}{gs:List V}{sp:Sp}{pm ct:Value}(S:LamScope N ps fr scope)(C:ClosV base cl fr gs)(len:∀vs H Q E,sp vs H Q E->vs.length=ps.length)
  (at_:∀vs H Q E,sp vs H Q E->H f=some (LamO f c qual args body scope cl)/\H c=some (CodeO c qual))
  (hbody:∀(A:Around) (outer:List Env) (s:Shared) (H:Hp) (vs:List V) (Q:VK) (E:XK),Room k (A.deeper (PySem.W.envX qual scope s.heap.objs.size f (.ref c) cl))->sp vs H Q E ->
   ∃t,PE (Sf P w K mg base N qual scope f (.ref c) cl A outer s H) body t/\t (vs.map some++gs.map some) H Q) :
  FnOk P w K mg base CX0 (k+1) f (PySem.W.kla_fn "<lambda>" qual args body scope cl pm (.ref c) ct) ps sp:=by
 refine⟨len,fun A outer s H bargs us vs Q E hr e0 hb r hsp=>?_⟩;have hl:=len _ _ _ _ hsp;obtain⟨hf,hc⟩:=at_ _ _ _ _ hsp;obtain⟨⟨pm',ct',ef⟩,_⟩:=(show ObjOk P w H s.heap f (LamO f c qual args body scope cl)from e0.hok f _ hf);obtain⟨ec,_⟩:=(show ObjOk P w H s.heap c (CodeO c qual)from e0.hok c _ hc);have lim:s.heap.NoLimit:=e0.mod.nolimit.keeps fun b o e=>(e0.bs b o e).1;have hk:∀y∈ps.zip us,scope.names.lookup y.1=some .local:=fun⟨n,v⟩ hy=>S.par n (GE hy).1;have hb':BindsTo s (PySem.W.kla_fn "<lambda>" qual args body scope cl pm' (.ref c) ct') bargs (ps.zip us):=hb;refine PySem.W.kla_callFunE hr.depth ef rfl S.co S.gen rfl ec (hb' _ _ _ _ ?_);refine wpAny_newFunctionEnv S.nocell hk (fun h' ns sb=>?_) S.kind;have k1:∀b o,s.heap.get? b=some o->h'.get? b=some o:=fun b o e=>by
  rw[sb.2 b (BD (AJ e))];exact AE _ e
 refine⟨lim.keeps k1,PySem.W.kla_codeExpr ?_⟩;obtain⟨t,ht,hq⟩:=hbody A outer s H vs Q E (hr.deeper _) hsp;have I:Inv (Sf P w K mg base N qual scope f (.ref c) cl A outer s H) [] (vs.map some++gs.map some) H { s with heap:=h',toks:=s.toks +(ps.zip us).length }:=Xv S C hr.hd e0 hl r ns k1;refine CA (ht [] _ _ H Q I hq) (fun u s' hs=>?_) fun e s' hs=>hs.elim;obtain⟨v,H',J,rv,qv⟩:=hs;exact⟨v,H',J.os,J.bare,J.base,J.hok,rv,qv⟩
theorem Kz{cells:List (Str×Addr)}:∀{names:List (Str×NameKind)} {cs:List (Str×Addr)} {x:Str} {c:Addr},(K3 cells names cs).lookup x=some c->((x,NameKind.free)∈names/\c =(cells.lookup x).getD 0)\/cs.lookup x=some c
 | [],_,_,_,h=>.inr h
 | (n,k)::r,cs,x,c,h=>by
  rcases Kz (names:=r) h with⟨z,e⟩ | z
  .exact .inl ⟨AO _ z,e⟩
  .by_cases f:(k == NameKind.free)=true
   .rw[AY f]at z;by_cases e:x=n
    .subst e;rw[List.lookup_cons_self]at z;cases z;exact .inl ⟨by rw[eq_of_beq f];exact AW ..,rfl⟩
    .rw[FE,show(x == n)=false from by simpa using e]at z;exact .inr z
   .rw[AS f]at z;exact .inr z
theorem Li{cells:List (Str×Addr)}{x:Str}:∀{names:List (Str×NameKind)} {cs:List (Str×Addr)},(x,NameKind.free)∈names\/(∃c,cs.lookup x=some c)->∃c,(K3 cells names cs).lookup x=some c
 | [],_,h=>h.resolve_left (by simp)
 | (n,k)::r,cs,h=>by
  refine Li (names:=r) ?_;by_cases e:x=n
  .by_cases f:(k == NameKind.free)=true
   .subst e;exact .inr ⟨_,by rw[AY f,List.lookup_cons_self]⟩
   .rw[AS f];rcases h with z | z
    .rcases AX.mp z with y | y
     .cases y;exact absurd rfl f
     .exact .inl y
    .exact .inr z
  .rcases h with z | ⟨c,z⟩
   .rcases AX.mp z with y | y
    .cases y;exact absurd rfl e
    .exact .inl y
   .refine .inr ⟨c,?_⟩;by_cases f:(k == NameKind.free)=true
    .rw[AY f,FE,show(x == n)=false from by simpa using e];exact z
    .rw[AS f];exact z
theorem CellsIn.clos{X:Cx}{base':Heap}{σ:St}{fr:List Str}{gs:List V}{names:List (Str×NameKind)}(h:CellsIn X base' σ)(hf:∀y∈names,y.2=NameKind.free->y.1∈fr)(hm:∀x∈fr,(x,NameKind.free)∈names)(hc:∀x∈fr,X.env.scope.names.lookup x=some .cell)(len:gs.length=fr.length)
  (hs:∀(i:Nat) (x:Str) (v:V),fr[i]?=some x->gs[i]?=some v->∃j:Nat,X.N[j]?=some x/\σ[j]?=some (some v)):ClosV base' (K3 X.env.cells names []) fr gs:=by
 have key:∀{x c},(K3 X.env.cells names []).lookup x=some c->x∈fr/\X.env.cells.lookup x=some c:=fun{x c} e=>by
  rcases Kz e with⟨z,y⟩ | z
  .have m:=hf _ z rfl;obtain⟨d,hd⟩:=h.has x (hc x m);rw[hd]at y;rw[hd,y];exact⟨m,rfl⟩
  .cases z
 refine⟨len,fun i x v h1 h2=>?_,fun x c e=>(key e).1,fun x y c e1 e2=>h.inj x y c (key e1).2 (key e2).2⟩;have m:=AK h1;obtain⟨c,e⟩:=Li (cells:=X.env.cells) (cs:=[]) (.inl (hm x m));obtain⟨j,j1,j2⟩:=hs i x v h1 h2;obtain⟨u,r,ic⟩:=h.val j x v c j1 j2 (hc x m) (key e).2;exact⟨c,u,e,r,ic⟩
end
def FnHere(base:Heap)(H:Hp)(f:Addr):Prop:=PySem.W.FnAt f base\/∃φ,H f=some (.ext φ)/\∀h,φ h->PySem.W.FnAt f h
theorem FnHere.lam{base:Heap}{H:Hp}{f c:Addr}{q:Str}{ps:Arguments}{b:Expr}{sc:Scope}{cl:List (Str×Addr)}(h:H f=some (LamO f c q ps b sc cl)):FnHere base H f:=.inr ⟨_,h,fun h ⟨_,_,e⟩=>⟨_,_,_,_,e⟩⟩
theorem FnHere.def{K:PySem.W.Frag}{base:Heap}{H:Hp}{x qual:Str}{st:Stmt}{f:Addr}{fd:FuncData}(F:Fun K x qual st f fd)(k:K.In base):FnHere base H f:=by
 obtain⟨oc,od,kV,doc,pm,an,cdv,ct,osl,rfl,lk,_⟩:=F.ex;exact .inl ⟨_,_,_,_,k _ _ lk⟩
theorem FnHere.same{base:Heap}{H H':Hp}{f:Addr}(h:FnHere base H f)(s:Same H H'):FnHere base H' f:=h.imp id fun⟨φ,e,p⟩=>⟨φ,s _ _ e,p⟩
def zAx(base:Heap)(i:Nat)(f:Addr)(sp:Sp)(t:TA):TE:=fun σ H Q=>σ[i]?=some (some (.ref f))/\FnHere base H f/\t σ H fun vs H1=>FnHere base H1 f/\sp vs H1 Q E0
section
variable{X:Cx}{k:Nat}{f:Addr}{fd:FuncData}{ps:List Str}{sp:Sp}{x:Str}{e:Expr}{es:List Expr}{t:TA}{p pos:Pos}
theorem Inv.fnAt{pins:List (Addr×Obj)}{σ:St}{H:Hp}{s:Shared}(I:Inv X pins σ H s)(h:FnHere X.base H f):PySem.W.FnAt f s.heap:=by
 rcases h with⟨oc,od,fd,sl,e⟩ | ⟨φ,e,q⟩
 .exact⟨oc,od,fd,sl,I.bk _ _ e⟩
 .exact q _ (show ObjOk X.prog X.w H s.heap f (.ext φ)from I.hok f _ e).1
theorem Te{i:Nat}(F:FnOk X.prog X.w X.K X.mg X.base CX0 k f fd ps sp)(hr:Room k X.A)(hb:Binds X.K fd ps [])
  (ha:PA X (e::es) t) (hN:X.N[i]?=some x:=by rfl) (hv:Vis X.env.scope x:=by first | exact Or.inl rfl | exact Or.inr (Or.inl rfl) | exact Or.inr (Or.inr rfl)) (hdb:(x ==("__debug__":Str))=false:=by decide) (hcd:(x ==("__classdict__":Str))=false:=by decide)
  (he:starEach (e::es) X.env =(false,eval e X.env)::starEach es X.env:=by rfl) (hpl:(backTo pos (starEach es X.env)).any (·.1)=false:=by rfl) :
  PE X (.Call (.Name x p) (e::es) [] pos) (zAx X.base i f sp t):=by
 intro pins s σ H Q I h;obtain⟨e1,fa,h⟩:=h;refine DP (thn (Wh (i:=i) (pos:=p) hN hv hdb hcd pins s σ H (fun v H'=>v = .ref f/\H'=H) I ⟨_,e1,rfl,rfl⟩) fun u s1 ⟨v,H1,I1,r1,e2,e3⟩=>?_);subst e2 e3;cases r1;refine PySem.W.callWith_F (I1.fnAt fa) (thn (ha pos pins s1 σ H1 _ I1 h) fun us s2 ⟨vs,H2,I2,r,fa2,q⟩=>⟨I2.fnAt fa2,?_⟩) he hpl;exact Kn F hr hb .nil Bi I2 r (by rw[CL];exact q)
end
theorem Fun.okC{P:Program}{w:World}{K:PySem.W.Frag}{mg:Str->Option Value}{base:Heap}{x qual:Str}{st:Stmt}{f:Addr}{fd:FuncData}{N ps:List Str}{k:Nat}{sp:Sp}(F:Fun K x qual st f fd)(S:FnScope N ps (B5 st))(len:∀vs H Q E,sp vs H Q E->vs.length=ps.length)
  (hbody:∀(cdv:Value) (A:Around) (outer:List Env) (s:Shared) (H:Hp) (vs:List V) (Q:VK) (E:XK),fd.code=cdv->Room k (A.deeper (envOfC qual (B5 st) s.heap.objs.size f cdv))->sp vs H Q E ->
   ∃t,PSs (Wn CX0 P w K mg base N qual (B5 st) f cdv A outer s H E).nox (O0 st) t/\t { nx:=fun _ H'=>Q .non H',rt:=Q } (El N vs) H):FnOk P w K mg base CX0 (k+1) f fd ps sp:=by
 obtain⟨oc,od,kV,doc,pm,an,cdv,ct,osl,rfl,lk,hcd⟩:=F.ex;refine zBo lk hcd S len fun A outer s H vs Q E hr hsp=>?_;obtain⟨t,h,q⟩:=hbody cdv A outer s H vs Q E rfl hr hsp;exact⟨t,h.nox,q⟩
theorem Ri{P:Program}{w:World}{K:PySem.W.Frag}{mg mb:Str->Option Value}{k:Nat}{fa a:Addr}{fd:FuncData}{x:Str}{sp:Sp}{s₁:Shared}{vs:List Value}{ns:List Int}{ts:List Addr}
  (hts:∀p∈ts,s₁.heap.get? p=some (PySem.W.tabObj #[])) (hct:∀p∈ts,isCodeTable s₁.heap p) (hbm:∀p∈ts,s₁.heap.BuiltinsAt mg p) (hkt:∀p∈ts,K.lookup p=none)
  (KX:K.In s₁.heap) (hns:s₁.heap.Ns mainGlobals mg) (hb:s₁.heap.Ns builtinsNs mb) (hbb:∀x:Str,x≠ "__name__"->mb x=bootBuiltins x) (hlim:s₁.heap.NoLimit) (hg:s₁.gens = #[])
  (ha:s₁.heap.get? a=some { cls:=.type "list",data:=.seq vs.toArray }) (hi:IntsAre vs ns) (hl:ns.length<=sizeLine) (hr:Room k callerA)
  (F:∀base:Heap,K.In base->base.Ns mainGlobals mg->(∀p∈ts,base.BuiltinsAt mg p)->FnOk P w K mg base CX0 k fa fd [x] sp) (hbind:∀(s:Shared) (u:Value),BindsTo s fd ⟨[u],[]⟩ [(x,u)])
  (hsp:∀H:Hp,(∀p∈ts,H p=some (.tbl #[]))->SqL K H a (ns.map V.int)->sp [.ref a] H (fun v _=>v = .bl true) fun _ _ _=>False) :
  codeAny (model P w) callerA (.call (.ref fa) ⟨[.ref a],[]⟩) (fun r s'=>r = .ok (.ret (.bool true))/\OldK s₁.heap s'.heap/\s'.os=s₁.os/\AllBare s'.gens) s₁:=by
 have rv:=Fu hi;have nat:a∉ts:=fun z=>by
  have:=hts a z;rw[ha]at this;cases this
 obtain⟨H,hT,hS,hO,ok,hK⟩:∃H:Hp,(∀p∈ts,H p=some (.tbl #[]))/\SqL K H a (ns.map V.int)/\(∀b o,H b=some o->(b∈ts/\o = .tbl #[])\/(b=a/\∃ob xs,o = .frz ob (.lst xs)))/\HOk P w H s₁.heap/\∀b,H b≠none->K.lookup b=none:=by
  cases hk:K.lookup a with
  | some o =>
   have e:=KX a o hk;rw[ha]at e;cases e;refine⟨fun b=>if b∈ts then some (.tbl #[])else none,fun p hp=>AY hp,.inr ⟨_,vs.toArray,_,hk,rfl,rfl,rfl,by rw[A_,hi.length];exact hl,by simpa using rv⟩,fun b o e=>?_,fun b o e=>?_,fun b e=>?_⟩
   .dsimp only at e;by_cases c:b∈ts
    .rw[AY c]at e;cases e;exact .inl ⟨c,rfl⟩
    .rw[AS c]at e;cases e
   .dsimp only at e;by_cases c:b∈ts
    .rw[AY c]at e;cases e;exact hts b c
    .rw[AS c]at e;cases e
   .by_cases c:b∈ts
    .exact hkt b c
    .exact absurd (AS c) e
  | none =>
   refine⟨fun b=>if b=a then some (.frz { cls:=.type "list",data:=.seq vs.toArray } (.lst (ns.map V.int)))else if b∈ts then some (.tbl #[])else none,fun p hp=>?_,.inl (.inr ⟨{ cls:=.type "list",data:=.seq vs.toArray },AY rfl⟩),fun b o e=>?_,fun b o e=>?_,fun b e=>?_⟩
   .show(if p=a then _ else if p∈ts then _ else _)=_;have np:p≠a:=fun z=>nat (z▸hp);rw[AS np,AY hp]
   .dsimp only at e;by_cases d:b=a
    .rw[AY d]at e;cases e;exact .inr ⟨d,_,_,rfl⟩
    .rw[AS d]at e;by_cases c:b∈ts
     .rw[AY c]at e;cases e;exact .inl ⟨c,rfl⟩
     .rw[AS c]at e;cases e
   .dsimp only at e;by_cases d:b=a
    .rw[AY d]at e;cases e;subst d;exact⟨ha,by rw[AA];exact hl,vs,_,rv,ha⟩
    .rw[AS d]at e;by_cases c:b∈ts
     .rw[AY c]at e;cases e;exact hts b c
     .rw[AS c]at e;cases e
   .by_cases d:b=a
    .rw[d];exact hk
    .by_cases c:b∈ts
     .exact hkt b c
     .exact absurd ((AS d).trans (AS c)) e
 have nod:∀{b:Addr} {o:Obj} {es:Array DictEntry} {ep:Nat},s₁.heap.get? b=some o->o.data = .dict es ep->H b=none:=fun{b o es ep} e d=>by
  cases q:H b with
  | none=>rfl
  | some u =>
   rcases hO b u q with⟨z,_⟩ | ⟨z,_⟩
   .rw[hts b z]at e;cases e;cases d
   .rw[z,ha]at e;cases e;cases d
 have nsK:∀{b:Addr} {m:Str->Option Value},s₁.heap.Ns b m->(Sx s₁.heap H).Ns b m:=fun{b m} ⟨o,es,ep,e,d,r⟩=>⟨o,es,ep,Ab e (nod e d),d,r⟩;have hBb:∀p∈ts,(Sx s₁.heap H).BuiltinsAt mg p:=fun p hp=>by
  obtain⟨bm,o,h1,h2,h3,h4,h5,h6,h7,h8⟩:=hbm p hp;refine⟨bm,o,h1,h2,h3,h4,Ab h5 ?_,h6,h7,h8⟩;cases q:H bm with
  | none=>rfl
  | some u =>
   rcases hO bm u q with⟨z,_⟩ | ⟨z,_⟩
   .rw[hts bm z]at h5;cases h5;cases h8
   .rw[z,ha]at h5;cases h5;cases h8
 have hKb:K.In (Sx s₁.heap H):=fun b o e=>Ab (KX b o e) (by
  cases q:H b with
  | none=>rfl
  | some u=>rw[hK b (by rw[q];simp)]at e;cases e)
 have hM:Mod K mg (Sx s₁.heap H):=⟨hKb,nsK hns,⟨mb,nsK hb,hbb⟩,let⟨mc,h1,h2⟩:=hlim;⟨mc,nsK h1,h2⟩⟩;have e0:Env0 P w K mg (Sx s₁.heap H) callerA [] s₁ H:=⟨rfl,hM,fun b o e=>Pa e,Nat.le_of_eq (Gg _ _),trivial,fun b hb=>absurd (show b∈([]:List Addr)from hb) (by simp),ok,.of_eq hg⟩;refine FW ((F _ hKb (nsK hns) hBb).run callerA [] s₁ H ⟨[.ref a],[]⟩ [.ref a] [.ref a] _ _ hr e0 (hbind s₁ (.ref a)) (.cons rfl .nil) (hsp H hT hS)) fun r s' h=>?_;cases r with
 | error e=>exact h.elim
 | ok fl =>
  cases fl with
  | next=>exact False.elim h
  | brk=>exact False.elim h
  | cont=>exact False.elim h
  | ret u =>
   obtain⟨v,H',os,bare,un,ok',r',q⟩:=h;have q':v = .bl true:=q;subst q';obtain rfl:u=Value.bool true:=r';refine⟨rfl,⟨fun b o e=>?_,fun b o e=>un.there b o e (by simp)⟩,os,bare⟩;cases q:H b with
   | none=>exact .inl (un.keep b o e q (fun z=>absurd (show b∈([]:List Addr)from z) (by simp)) (by simp))
   | some u =>
    rcases hO b u q with⟨z,rfl⟩ | ⟨_,ob,xs,rfl⟩
    .obtain⟨more,em⟩:=un.tbls b _ q;have e2:s'.heap.get? b=some { cls:=.none,data:=.fields (#[]++more) }:=ok' b _ em;rw[hts b z]at e;cases e;exact .inr (.inl ⟨hct b z,rfl,#[],more,rfl,e2⟩)
    .obtain⟨e1,_⟩:=ok b _ q;obtain⟨e2,_⟩:=ok' b _ (un.frzs b ob _ q);rw[e]at e1;cases e1;exact .inl e2
theorem walk_ofT{l:PySem.W.OpenLaw}{n k:Nat}{q:Program}{loose:List Str}{XP:(Str->Option Value)->Heap->Prop}{YP:World->Heap->Prop}{d:DefRec}{K:Params->PySem.W.Frag}{sp:World->Sp}{x:Str}{ts:List Addr}
  (hn:l.most=some n) (hn2:n<=sizeLine) (hdf:d.params.defaults = []) (hr:Room k callerA) (hY:∀(w:World) (h:Heap),YP w h->(K w.params).In h) (hYt:∀(w:World) (h:Heap),YP w h->∀p∈ts,h.get? p=some (PySem.W.tabObj #[]))
  (F:∀(w:World) (mg:Str->Option Value) (fa:Addr) (h:Heap),(K w.params).In h->h.Ns mainGlobals mg->mg d.name=some (.ref fa) ->
   (∀p∈ts,isCodeTable h p)/\(∀p∈ts,(K w.params).lookup p=none)/\∃fd:FuncData,(∀(s:Shared) (u:Value),BindsTo s fd ⟨[u],[]⟩ [(x,u)]) /\
    ∀base:Heap,(K w.params).In base->base.Ns mainGlobals mg->(∀p∈ts,base.BuiltinsAt mg p)->FnOk l.prog w (K w.params) mg base CX0 k fa fd [x] (sp w))
  (hsp:∀(w:World) (H:Hp) (a:Addr) (ns:List Int),ns.length<=n->(∀p∈ts,H p=some (.tbl #[]))->SqL (K w.params) H a (ns.map V.int)->sp w [.ref a] H (fun v _=>v = .bl true) fun _ _ _=>False) :
  PySem.W.WalkO q loose XP YP l.row.toRowW d [] (fun f vs=>PySem.call f vs):=by
 refine Att.attach_call hn hdf fun w s₀ s₁ mg mb fa o pm cd doc a vs ns G Y ho hd hcd hmg hobj hints hlen hg=>?_;have KX:=hY w _ Y;obtain⟨h1,h2,fd,hb,hF⟩:=F w mg fa _ KX G.T.g hmg;have hbm:∀p∈ts,s₁.heap.BuiltinsAt mg p:=fun p hp=>by
  obtain⟨bm,o,b1,b2,b3,b4,b5,b6⟩:=G.T.bmain;refine⟨bm,o,b1,b2,fun z=>?_,fun z=>?_,b3,b4,b5,b6⟩
  .obtain⟨o',es,ep,e1,e2,_⟩:=G.T.g;rw[<-z,b3]at e1;cases e1;rw[b6]at e2;cases e2
  .have:=hYt w _ Y p hp;rw[<-z,b3]at this;cases this;cases b6
 exact Ri (hYt w _ Y) h1 hbm h2 KX G.T.g G.T.b G.T.builtins G.T.nolimit hg hobj hints (Nat.le_trans hlen hn2) hr hF hb fun H hO hS=>hsp w H a ns hlen hO hS
section
variable{X:Cx}
theorem Wu(w:World)(hw:X.w=w:=by rfl):G8 X (.builtin "len") (fun xs H Q=>∃(a:Addr) (ss:List Str),xs = [V.ref a]/\H a=some (X7 w a ss)/\Q (.int ss.length) H):=by
 subst hw;intro pins s σ H xs us Q I r h;obtain⟨a,ss,rfl,ha,q⟩:=h;obtain⟨u,rfl,ru⟩:=U7 r;cases ru;obtain⟨o,es,ep,t,S,T⟩:=I.setw ha;have el:es.size=ss.length:=by
  have:=T.pm.length_eq;rw[AA]at this;rw[<-AQ];exact this
 refine call_len_set S.ho S.ex S.hd S.ft (by have:=S.few;omega) ?_;exact⟨.int ss.length,H,I.tok _,⟨_,by rw[el]⟩,q⟩
end
section
variable{prog:Program}{w:World}{A:Around}{s:Shared}{I:Addr}{fp wr:List Addr}{n:Nat}{P:Nat->Value->Prop}{St:Nat->Heap->Prop}{R:Result->Shared->Prop}
theorem Yq{a b:Int}{t u:Tok}{Q:Value->Shared->Prop}{E:Value->Shared->Prop}(h:Q (.bool (decide (a>b))) s):wpAny (model prog w) A (richCompare .Gt (.int a t) (.int b u)) Q E s :=
 CmpOf.ints_gt (P:=fun i v=>∃t,v = .int (if i=0 then a else b) t) (fun i=>if i=0 then a else b) (fun _ _ h=>h) 0 1 _ _ s Q E ⟨t,rfl⟩ ⟨u,rfl⟩ h
theorem Rj(W:Walks prog w A.in1 I fp wr n P St)(num:Nat->Int)(hv:∀i v,P i v->∃t,v = .int (num i) t)(S:Addr)(hSf:S∉fp)(kw:List (Str×Value)) :
  ∀(k j:Nat) (s:Shared) (m:Int) (t:Tok) (c:Nat),n-j=k->j<=n->St j s.heap->s.heap.get? S=some { cls:=.type "list",dict:=none,data:=.seq #[.int m t,.int m t] c,slots:=#[] } ->
  (∀m' t' h' tk,m<=m'->(m'=m\/∃i,j<=i/\i<n/\m'=num i)->(∀i,j<=i->i<n->num i<=m')->(∀b o,b≠S->b∉wr->s.heap.get? b=some o->h'.get? b=some o)->R (.ok (.ret (.int m' t'))) { s with heap:=h',toks:=tk }) ->
  codeAny (model prog w) A (.builtin "max.loop" ⟨[.ref I,.none,.ref S],kw⟩) R s:=by
 have hSw:S∉wr:=fun h=>hSf (W.sub _ h);have hname:(toString "max" ++ toString ".loop":String) = "max.loop":=by decide
 have st_upd:∀{j:Nat} {h:Heap} {g:Obj->Obj},St j h->St j (h.update S g):=fun st=>W.frame _ _ _ st fun b hb o e=>(BZ _ _ (fun h:S=b=>hSf (by rw[h];exact hb))).trans e;intro k
 induction k with
 | zero =>
  intro j s m t c hk hj hst hS hR;have e:j=n:=by omega
  subst e;refine DF F.entry_max_loop ?_;rw[Around.under_plainId F.plain_max_loop _];show wpAny _ A.in1 (seqItems? (.ref S) >>= _) _ _ s;refine AB (CU hS rfl ?_);show wpAny _ A.in1 (tryCatch (pyNext (.ref I)) _ >>= _) _ _ s;refine AB (FF (W.done s _ _ hst fun h' tk kp=>?_));have hS':=kp S _ hSw hS;show wpAny _ A.in1 (updateSeq S (fun _=>#[]) >>= _) _ _ _;refine AB (GH hS' rfl (AB (HB (AD ?_))));exact hR m t _ _ (Int.le_refl _) (.inl rfl) (fun i h1 h2=>absurd h1 (by omega)) fun b o n1 n2 e=>(BZ _ _ (Ne.symm n1)).trans (kp b o n2 e)
 | succ k ih =>
  intro j s m t c hk hj hst hS hR;have hlt:j<n:=by omega
  refine DF F.entry_max_loop ?_;rw[Around.under_plainId F.plain_max_loop _];show wpAny _ A.in1 (seqItems? (.ref S) >>= _) _ _ s;refine AB (CU hS rfl ?_);show wpAny _ A.in1 (tryCatch (pyNext (.ref I)) _ >>= _) _ _ s;refine AB (FF (W.item j s _ _ hlt hst fun v h' tk hP hst' kp=>?_));have hS':=kp S _ hSw hS;obtain⟨tv,rfl⟩:=hv j v hP;show wpAny _ A.in1 (tryCatch (holding [_,_] (richCompare .Gt (.int (num j) tv) (.int m t) >>= _)) _ >>= _) _ _ _;refine AB (FF (BU (AB (Yq ?_))));refine AB (BU (CO ?_));refine AB (HB (AD ?_));by_cases hb:num j>m
  .rw[AG hb];simp only[EL];refine AB (GH hS' rfl (AB (HB ?_)));rw[hname];refine AD ⟨plainId_quiet F.plain_max_loop _,ih (j+1) _ (num j) tv _ (by omega) hlt (st_upd hst') (CF _ hS' rfl) fun m' t' h2 tk2 le wh al kp2=>?_⟩;refine hR m' t' h2 tk2 (by omega) (.inr ?_) (fun i h1 h2=>?_) fun b o n1 n2 e=>kp2 b o n1 n2 ((BZ _ _ (Ne.symm n1)).trans (kp b o n2 e))
   .rcases wh with rfl | ⟨i,h1,h2,e⟩
    .exact⟨j,Nat.le_refl _,hlt,rfl⟩
    .exact⟨i,by omega,h2,e⟩
   .by_cases e:i=j
    .rw[e];exact le
    .exact al i (by omega) h2
  .rw[BC hb];simp only[BF,CI];refine AB (HB ?_);rw[hname];refine AD ⟨plainId_quiet F.plain_max_loop _,ih (j+1) _ m t c (by omega) hlt hst' hS' fun m' t' h2 tk2 le wh al kp2=>?_⟩;refine hR m' t' h2 tk2 le (wh.imp id fun⟨i,h1,h2,e⟩=>⟨i,by omega,h2,e⟩) (fun i h1 h2=>?_) fun b o n1 n2 e=>kp2 b o n1 n2 (kp b o n2 e);by_cases e:i=j
   .rw[e];omega
   .exact al i (by omega) h2
theorem Mu(W:Walks prog w A.in1 I fp wr n P St)(num:Nat->Int)(hv:∀i v,P i v->∃t,v = .int (num i) t)(S:Addr)(hSf:S∉fp){d:Int}{td:Tok}{c:Nat}(hst:St 0 s.heap)(hS:s.heap.get? S=some { cls:=.type "list",dict:=none,data:=.seq #[] c,slots:=#[] })
  (h0:n=0->∀h' tk,(∀b o,b≠S->b∉wr->s.heap.get? b=some o->h'.get? b=some o)->R (.ok (.ret (.int d td))) { s with heap:=h',toks:=tk })
  (hR:∀m t h' tk,(∃i,i<n/\m=num i)->(∀i,i<n->num i<=m)->(∀b o,b≠S->b∉wr->s.heap.get? b=some o->h'.get? b=some o)->R (.ok (.ret (.int m t))) { s with heap:=h',toks:=tk }) :
  codeAny (model prog w) A (.builtin "max.loop" ⟨[.ref I,.none,.ref S],[("default",.int d td)]⟩) R s:=by
 have hSw:S∉wr:=fun h=>hSf (W.sub _ h);have hname:(toString "max" ++ toString ".loop":String) = "max.loop":=by decide
 refine DF F.entry_max_loop ?_;rw[Around.under_plainId F.plain_max_loop _];show wpAny _ A.in1 (seqItems? (.ref S) >>= _) _ _ s;refine AB (CU hS rfl ?_);show wpAny _ A.in1 (tryCatch (pyNext (.ref I)) _ >>= _) _ _ s;by_cases hn:n=0
 .subst hn;refine AB (FF (W.done s _ _ hst fun h' tk kp=>?_));refine AB (DH (AD ?_));exact h0 rfl _ _ fun b o _ n2 e=>kp b o n2 e
 .refine AB (FF (W.item 0 s _ _ (by omega) hst fun v h' tk hP hst' kp=>?_));have hS':=kp S _ hSw hS;obtain⟨tv,rfl⟩:=hv 0 v hP;show wpAny _ A.in1 (updateSeq S (fun _=>#[.int (num 0) tv,.int (num 0) tv]) >>= _) _ _ _;refine AB (GH hS' rfl ?_);rw[hname];refine AD ⟨plainId_quiet F.plain_max_loop _,Rj W num hv S hSf _ _ 1 _ (num 0) tv _ rfl (by omega) (W.frame _ _ _ hst' fun b hb o e=>(BZ _ _ (fun h:S=b=>hSf (by rw[h];exact hb))).trans e) (CF _ hS' rfl) fun m t h2 tk2 le wh al kp2=>?_⟩;refine hR m t h2 tk2 ?_ (fun i hi=>?_) fun b o n1 n2 e=>kp2 b o n1 n2 ((BZ _ _ (Ne.symm n1)).trans (kp b o n2 e))
  .rcases wh with rfl | ⟨i,h1,h2,e⟩
   .exact⟨0,by omega,rfl⟩
   .exact⟨i,h2,e⟩
  .by_cases e:i=0
   .rw[e];exact le
   .exact al i (by omega) hi
theorem Oi(a d:Value):argsOk "max" ⟨[a],[("default",d)]⟩:=by unfold argsOk;kernel_rfl
theorem Fz{id:String}{b:Builtin}{args:List Value}{kw:List (Str×Value)}{Q E:Value->Shared->Prop}(hk:builtinKind id=none)(hp:plainId id=true)(hb:entryFor table id=some b)(ha:argsOk id ⟨args,kw⟩)
  (hc:wpAny (model prog w) A.in1 (b ⟨args,kw⟩) (fun fin s'=>match fin with
   | .done f=>(match(Except.ok f:Result)with | .ok (.ret v)=>Q v s' | .ok _=>False | .error e=>E e s')
   | .again c'=>c'.quiet=true/\codeAny (model prog w) A c' (fun r s'=>match r with | .ok (.ret v)=>Q v s' | .ok _=>False | .error e=>E e s') s') E s) :
  wpAny (model prog w) A (call (.builtin id) args kw) Q E s:=by
 refine wpAny_call (codeAny_call_builtin hp hb ?_);simp only[checkBuiltinCall,hk];cases hsig:Manifest.signature? id with
 | none=>exact AD hc
 | some sig =>
  have ha':Bind.checkArgs id sig ⟨args,kw⟩=pure ():=by simpa only[argsOk,hsig] using ha
  simp only[ha'];exact AD hc
theorem Sn{Q E:Value->Shared->Prop}{l:Addr}{xs:Array (Int×Tok)}{d:Int}{td:Tok}(hh:A.handled=none)(hl:s.heap.IsList l (intItems xs))
  (h0:xs.size=0->∀h' tk,(∀b o,s.heap.get? b=some o->h'.get? b=some o)->Q (.int d td) { s with heap:=h',toks:=tk })
  (h:∀m t h' tk,(∃i,i<xs.size/\m=numAt xs i)->(∀i,i<xs.size->numAt xs i<=m)->(∀b o,s.heap.get? b=some o->h'.get? b=some o)->Q (.int m t) { s with heap:=h',toks:=tk }) :
  wpAny (model prog w) A (call (.builtin "max") [.ref l] [("default",.int d td)]) Q E s:=by
 have hname:(toString "max" ++ toString ".loop":String) = "max.loop":=by decide
 refine Fz F.kind_max F.plain_max F.entry_max (Oi _ _) ?_;show wpAny _ A.in1 (Builtin.Builtins.bindParams "max" ["key", "default"] 0 ⟨[],[("default",.int d td)]⟩ >>= _) _ _ s;refine AB (EJ (show Builtin.Builtins.bindParams "max" ["key", "default"] 0 ⟨[],[("default",.int d td)]⟩=pure [none,some (.int d td)]from rfl) ?_);refine AB (AD ?_);refine AB (iter_intList hl fun s₂ e st hfp hlI=>?_);subst e;refine AB (CP ?_);rw[hname];have W:=Walks.list (prog:=prog) (w:=w) (A:=A.in1) hh s.heap.objs.size l hlI (intItems xs);refine AD ⟨plainId_quiet F.plain_max_loop _,?_⟩;have hn:(intItems xs).size=xs.size:=by simp[intItems]
 have kk:∀{h':Heap},(∀b o,b≠(s.heap.push { cls:=.type "list_iterator",data:=.fields #[.ref l,.int 0 0] }).objs.size->b∉[s.heap.objs.size]->((s.heap.push { cls:=.type "list_iterator",data:=.fields #[.ref l,.int 0 0] }).push { cls:=.type "list",data:=.seq ([]:List Value).toArray }).get? b=some o->h'.get? b=some o)->∀b o,s.heap.get? b=some o->h'.get? b=some o:=fun kp b o e=>by
  have lt:=AJ e;refine kp b o (fun y=>?_) (fun y=>?_) (AE _ (AE _ e))
  .rw[y,CB]at lt;exact absurd lt (Nat.not_lt.mpr (C_ _))
  .rw[AC.mp y]at lt;exact CK _ lt
 refine Mu W (numAt xs) (fun _ _=>intItems_at) _ (fun hm=>CK _ (hfp _ hm)) (W.frame 0 _ _ st fun b _ o e=>AE _ e) (BE _ rfl) (fun e h' tk kp=>h0 (by rw[<-hn];exact e) h' tk (kk kp)) fun m t h' tk ⟨i,hi,e⟩ al kp=>h m t h' tk ⟨i,by rw[<-hn];exact hi,e⟩ (fun i hi=>al i (by rw[hn];exact hi)) (kk kp)
end
def zCx(K:PySem.W.Frag)(ta:TA)(td:TE):TE:=fun σ H Q=>ta σ H fun vs H1=>td σ H1 fun d H2=>∃(p:Addr) (ns:List Int) (k:Int),vs = [.ref p]/\d = .int k/\SqL K H2 p (ns.map V.int)/\(ns = []->Q (.int k) H2)/\∀m∈ns,(∀a∈ns,a<=m)->Q (.int m) H2
theorem Yz{X:Cx}(K:PySem.W.Frag){e ed:Expr}{ta:TA}{td:TE}{p kp pos:Pos}(hm:X.mg "max" = none)(ha:PA X [e] ta)(hd:PE X ed td)(hK:X.K=K:=by rfl)(hc:X.calm=true:=by rfl)(hg:Gl X "max":=by rfl)
  (he:starEach [e] X.env = [(false,eval e X.env)]:=by rfl):PE X (.Call (.Name "max" p) [e] [⟨some "default",ed,kp⟩] pos) (zCx K ta td):=by
 subst hK;intro pins s σ H Q I h;refine DP (t6 I hg hm Vt ?_ (by decide) (by decide));refine callWith_kw (thn (ha pos pins s σ H _ I h) fun us s1 ⟨vs,H1,I1,r1,q1⟩=>kws_cons (thn (hd pins s1 σ H1 _ I1 q1) fun ud s2 ⟨dv,H2,I2,rd,p,ns,k,e1,e2,hq,h0,h1⟩=>kws_nil ?_)) (by rw[he];rfl) (by rw[he];rfl);subst e1 e2;obtain⟨u,rfl,ru⟩:=U7 r1;cases ru;obtain⟨td',rfl⟩:=(show ∃t,ud=Value.int k t from rd);obtain⟨its,rv,pl,hz⟩:=I2.list hq;have hi:=Cw rv;obtain⟨xs,ex⟩:=hi.allInts.items;have en:numsOf its=ns:=hi.numsOf;have e2:numsOf (intItems xs).toList=numsOf its:=by rw[<-ex]
 rw[nums_intItems,en]at e2;have ln:xs.size=ns.length:=by rw[<-e2,AA,AQ]
 show wpAny _ X.A (call (.builtin "max") [.ref p] [("default",.int k td')]) _ _ s2;refine Sn (xs:=xs) (I2.ok.hd hc) (by rw[<-ex];exact pl.isList) (fun z h' tk kp=>⟨.int k,H2,I2.kept kp,⟨_,rfl⟩,h0 (GM.mp (by omega))⟩) fun m t h' tk ⟨i,li,e⟩ al kp=>⟨.int m,H2,I2.kept kp,⟨_,rfl⟩,h1 m ?_ fun a ha=>?_⟩
 .rw[e,numAt_eq,e2];exact getD_mem (by omega)
 .rw[<-e2]at ha;obtain⟨j,hj,rfl⟩:=mem_getD ha;rw[AA,AQ]at hj;rw[<-numAt_eq];exact al j hj
theorem Yx{X:Cx}(K:PySem.W.Frag)(hK:X.K=K:=by rfl)(hc:X.calm=true:=by rfl):G8 X (.builtin "max") (fun xs H Q=>∃(p:Addr) (ns:List Int),xs = [.ref p]/\SqL K H p (ns.map V.int)/\ns≠[]/\∀m∈ns,(∀a∈ns,a<=m)->Q (.int m) H):=by
 subst hK;intro pins s σ H xs us Q I r h;obtain⟨p,ns,rfl,hq,ne,q⟩:=h;obtain⟨u,rfl,ru⟩:=U7 r;cases ru;obtain⟨its,rv,pl,hz⟩:=I.list hq;have hi:=Cw rv;obtain⟨xs,ex⟩:=hi.allInts.items;have en:numsOf its=ns:=hi.numsOf;have e2:numsOf (intItems xs).toList=numsOf its:=by rw[<-ex]
 rw[nums_intItems,en]at e2;have ln:xs.size=ns.length:=by rw[<-e2,AA,AQ]
 have lp:0<ns.length:=List.length_pos_iff.mpr ne;refine max_intList (xs:=xs) (I.ok.hd hc) (by rw[<-ex];exact pl.isList) (by omega) fun v h' tk hv kp=>?_;obtain⟨t,rfl⟩:=intItems_at hv;obtain⟨h1,h2⟩:=argBest_gt (numAt xs) (xs.size-1);refine⟨.int _,H,I.kept kp,⟨_,rfl⟩,q _ ?_ fun a ha=>?_⟩
 .rw[numAt_eq,e2];exact getD_mem (by omega)
 .rw[<-e2]at ha;obtain⟨j,hj,rfl⟩:=mem_getD ha;rw[AA,AQ]at hj;rw[<-numAt_eq];exact h2 j (by omega)
section
variable{X:Cx}{tg iter elt:Expr}{ifs:List Expr}{scope:Scope}{cl:List (Str×Addr)}{N':List Str}{cap:List (Option Nat)}{wi:TI}{pos:Pos}
theorem Nv{e:Expr}{gs:List Comprehension}{newAcc:Sem Value}{p2:Pos}{use:Option (Value->Sem Unit)}{Qv:Value->Shared->Prop}(hcl:clausesOf e =⟨tg,iter,ifs,0⟩::gs)(o:Addr->HO)(hs:∀x,foldedSetIterable iter X.env x=pure x)(S:DScope X scope cl N' cap)(hc:X.calm=true)(hi:PI X tg iter wi)
  {lp:Addr->It->St->Hp->(St->Hp->Prop)->Prop}
  (hnew:∀(pins:List (Addr×Obj)) (s:Shared) (σ:St) (H:Hp) (Q:Value->Shared->Prop) (E:Value->Shared->Prop),Inv X pins σ H s->(∀s',Inv X pins σ (upd H s.heap.objs.size (o s.heap.objs.size)) s'->(∀b ob,s.heap.get? b=some ob->s'.heap.get? b=some ob)->Q (.ref s.heap.objs.size) s')->wpAny (model X.prog X.w) X.A newAcc Q E s)
  (hlp:∀(pins:List (Addr×Obj)) (ex:List Addr) (s3:Shared) (H3:Hp) (D it:Addr) (fp:List Addr) (tn:Nat->Heap->Prop) (J:It) (σ:St) (s:Shared) (H:Hp) (Q:St->Hp->Prop) (R:Result->Shared->Prop),
   Turn X.prog X.w X.K tg J fp it tn->Inv (cxD X scope cl N' pins ex s3 H3) [] σ H s->tn 0 s.heap->(∀b∈fp,Aa (cxD X scope cl N' pins ex s3 H3) [] H b)->lp D J σ H Q ->
   (∀s' σ' H',Inv (cxD X scope cl N' pins ex s3 H3) [] σ' H' s'->Q σ' H'->R (.ok .next) s') ->
   codeAny (model X.prog X.w) X.A (.compLoop e 0 (.ref it) (.ref D) (compEnvC scope (own scope cl s3.heap.objs.size) s3.heap.objs.size X.env)) R s)
  (hun:∀it D env,X.A.under (.compStart e 0 (.ref it) (.ref D) env)=X.A) (hden:∀it D env,(model X.prog X.w).den (.compStart e 0 (.ref it) (.ref D) env) =(compStart e 0 (.ref it) (.ref D) env).onRaise (fun x=>do noteFrame x env;standAt theWindowsPlace))
  {pins:List (Addr×Obj)} {s:Shared} {σ:St} {H:Hp} {Q:V->Hp->Prop} (I:Inv X pins σ H s) (h:Fg wi o cap lp σ H Q)
  (hend:∀(D:Addr) (fp:List Addr) (H2:Hp) (s3 s':Shared) (σ':St) (H':Hp),Inv X pins σ H2 s3->(∀b∈fp,Aa X pins H2 b)->Inv (cxD X scope cl N' pins fp s3 H2) [] σ' H' s'->Q (.ref D) H'->compPost (model X.prog X.w) X.A X.xe use Qv (.ref D) s3.heap.objs.size (.ok .next) s') :
  wpAny (model X.prog X.w) X.A (comprehension e scope X.env p2 newAcc false (eval iter X.env) use) Qv X.xe s:=by
 refine GA hcl hs S.clos S.kind S.loc (thn (hi pins s σ H _ I h) fun v s1 h1=>thn h1 fun itv s2 h2=>?_);obtain⟨it,fp,tn,J,H2,eit,I2,T,st2,f2,R2⟩:=h2;subst eit;refine hnew pins s2 σ H2 _ _ I2 fun s3 I3 k3=>?_;have hD:H2 s2.heap.objs.size=none:=I2.hok.fresh (Nat.le_refl _);have fok:∀b∈fp,Aa X pins (upd H2 s2.heap.objs.size (o s2.heap.objs.size)) b/\∃ob,s3.heap.get? b=some ob:=fun b hb=>by
  obtain⟨ob,e,_⟩:=T.obj _ _ st2 b hb;obtain⟨f0,fr⟩:=f2 b hb;exact⟨⟨by rw[B6 (BD (AJ e))];exact f0,fr⟩,ob,k3 b ob e⟩
 refine Np fun bb=>?_;have hk:∀b ob,s3.heap.get? b=some ob->(pushCells (s3.heap.push { cls:=.type "dict",data:=.dict #[] }) scope.names).get? b=some ob:=fun b ob e=>pushCells_keeps _ _ b ob (AE _ e);have hns:(pushCells (s3.heap.push { cls:=.type "dict",data:=.dict #[] }) scope.names).Ns s3.heap.objs.size (fun _=>none):=(Heap.Ns.new s3.heap (.type "dict")).keeps (pushCells_keeps _ _);have ok:=cellsFrom_ok scope.names (s3.heap.push { cls:=.type "dict",data:=.dict #[] }) (s3.heap.objs.size+1) [] ⟨fun _ _ hm=>(nomatch hm),List.Pairwise.nil⟩ (by rw[CB];exact Nat.le_refl _);rw[CB]at ok;generalize pushCells (s3.heap.push { cls:=.type "dict",data:=.dict #[] }) scope.names=h1 at hk hns ok⊢;have I4:Inv (cxD X scope cl N' pins fp s3 (upd H2 s2.heap.objs.size (o s2.heap.objs.size))) [] (Mq cap σ) (upd H2 s2.heap.objs.size (o s2.heap.objs.size)) { s3 with heap:=h1,toks:=s3.toks } :=
  I3.blockD S hc fok hns hk ok
 have st4:tn 0 h1:=T.keep 0 _ _ st2 fun b hb ob e=>hk b ob (k3 b ob e);refine X0 (X:=cxD X scope cl N' pins fp s3 (upd H2 s2.heap.objs.size (o s2.heap.objs.size))) (gs:=⟨tg,iter,ifs,0⟩::gs) (e:=e) (d:=0) (tg:=tg) (iter:=iter) (ifs:=ifs) (hun _ _ _) (hden _ _ _) hcl rfl T st4 ?_;refine hlp pins fp s3 _ s2.heap.objs.size it fp tn J (Mq cap σ) _ _ _ _ T I4 st4 (fun b hb=>?_) (R2 _ hD) fun s' σ' H' I' q'=>?_
 .obtain⟨⟨f0,f1,f2',f3,f4,f5⟩,ob,eo⟩:=fok b hb;refine⟨f0,BD (AJ eo),fun hf=>?_,.inl hb,fun x c e=>?_,fun p hp=>f5 p (by simpa [cxD] using hp)⟩
  .rcases AX.mp (I3.stkSub b hf)with z | z
   .exact f1 z
   .exact f2' z
  .rcases Y6 e with a | ⟨_,a⟩
   .exact GP (BH (AJ eo) (DW (ok.empty _ _ (PySem.mem_of_lookup a)).2))
   .exact f4 x c (S.cin.get a)
 .exact hend _ fp _ s3 s' σ' H' I3 (fun b hb=>(fok b hb).1) I' q'
theorem Ph{i:Nat}{x:Str}{pos' cpos:Pos}{g:TG}{tc:TT}{a b:Expr}{ta tb:TE}(hN:X.N.Nodup)(hi:X.N[i]?=some x)(hx:Loc X.env.scope x)(S:DScope X scope cl N' cap)(hc:X.calm=true)(hI:PI X tg iter wi)
  (hb:∀(pins:List (Addr×Obj)) (ex:List Addr) (s3:Shared) (H3:Hp),PG (cxD X scope cl N' pins ex s3 H3) tg g/\PTs (cxD X scope cl N' pins ex s3 H3) ifs tc/\PE (cxD X scope cl N' pins ex s3 H3) a ta/\PE (cxD X scope cl N' pins ex s3 H3) b tb)
  (hs:∀x,foldedSetIterable iter X.env x=pure x:=by intro _;rfl)
  (hsw:swapsWith (.DictComp a b [⟨tg,iter,ifs,0⟩] scope cpos) (some (.Name x pos')) pos.line X.env=pure true:=by rfl)
  (hf:X.fn x=true\/X.env.scope.names.lookup x=some .local:=by first | exact .inl rfl | exact .inr rfl | assumption) :
  PS X (.Assign [.Name x pos'] (.DictComp a b [⟨tg,iter,ifs,0⟩] scope cpos) pos) (zCn (Fg wi (fun _=>.dK []) cap fun D J σ H Q=>Ej g tc (Re D ta tb) J σ H Q) (S7 i)):=by
 intro pins s σ H D I h;rw[exec_Assign];refine AB (FC (AB (EJ hsw (GS rfl (AB (AB ?_))))));refine Nv (newAcc:=newDict) (p2:=firstIterPos [⟨tg,iter,ifs,0⟩] cpos) rfl (fun _=>.dK []) hs S hc hI (fun pins s σ H Q E I h=>?_) (fun pins ex s3 H3 D it fp tn J σ s H Q R T I st hf h hR=>?_) (fun _ _ _=>rfl) (fun _ _ _=>rfl) I h fun E fp H2 s3 s' σ' H' I3 fok I' q=>?_
 .refine CP ?_;exact h _ (I.laid (a:=s.heap.objs.size) (o:=.dK []) (t':=s.toks) (fun _ _ q=>AE _ q) (Nat.le_refl _) (Kp s.heap I.big)) fun b ob e=>AE _ e
 .obtain⟨b1,b2,b3,b4⟩:=hb pins ex s3 H3;exact Q2 (X:=cxD X scope cl N' pins ex s3 H3) rfl rfl hc rfl (Cv a b tg iter ifs scope cpos _ _ _) b1 b2 (Ky rfl b3 b4) T I st hf h hR
 .have IX:Inv X pins σ H' s':=I3.unblockD fok I' ⟨rfl,fun _ _=>rfl⟩;have fC:Aa X pins H' s3.heap.objs.size:=I3.fpOk (Nat.le_refl _) I'.free;obtain⟨m,hn,_⟩:=I'.loc;show wpAny _ _ (assign (.Name x pos') X.env (.ref E)) _ _ _;refine wpAny_assign_Name (Bl (v:=.ref E) IX hN hi hx rfl (fun s2 I2 ⟨a,hsb,ha⟩=>?_) hf);have nC:s3.heap.objs.size≠a:=by
   rcases ha with rfl | ha
   .exact fC.2.1
   .exact(fC.2.2.2.2.1 _ _ ha).symm
  refine⟨m,?_,fun h' hsb'=>AD (AD ?_)⟩
  .obtain⟨ob,es,ep,e1,r⟩:=hn;exact⟨ob,es,ep,(hsb.2 _ nC).trans e1,r⟩
  refine⟨_,H',?_,q⟩;have k:∀b ob,b∉[s3.heap.objs.size]->s2.heap.get? b=some ob->h'.get? b=some ob:=fun b ob hb e=>(hsb'.2 b fun z=>hb (AC.mpr z)).trans e;refine I2.step (h':=h') (H':=H') (t':=s2.toks) (g':=s2.gens) (d':=s2.drawn) (ch:=[s3.heap.objs.size]) (fun b hb=>by rw[AC.mp hb];exact⟨fC.2.2.2.1,fC.2.1,fC.2.2.2.2⟩) (fun b ob _ _ hc e _=>k b ob hc e) (fun b ob _ _ hc e _=>⟨ob.slots,k b ob hc e⟩) (fun _ _ _ _ n=>n)
   (fun b ob hc e=>⟨ob,k b ob hc e⟩) (fun _ _ e=>e) (fun _ _ _ e=>e) (fun b ps e=>⟨#[],by rw[e];simp⟩) (fun m hm=>?_) (fun b u eb=>?_) I2.bare
  .obtain⟨ob,es,ep,ho,r⟩:=hm;exact⟨ob,es,ep,k _ ob (fun hb=>fC.2.1 (AC.mp hb).symm) ho,r⟩
  .have nf:∀b u,H' b=some u->b∉[s3.heap.objs.size]:=fun b u e hb=>by rw[AC.mp hb,fC.1]at e;cases e
   refine(I2.hok b u eb).stay (fun c v hc q=>k c v ?_ q) (fun _ q=>q) fun _ _ q=>q;rcases hc with z | z
   .rw[z];exact nf b u eb
   .exact nf c _ z
end
theorem Jj(elt tg iter tg2 iter2:Expr)(ifs ifs2:List Expr)(scope:Scope)(pos:Pos)(it acc:Value)(env:Env) :
  compTurn (.ListComp elt [⟨tg,iter,ifs,0⟩,⟨tg2,iter2,ifs2,0⟩] scope pos) 1 it acc env=Cp (.ListComp elt [⟨tg,iter,ifs,0⟩,⟨tg2,iter2,ifs2,0⟩] scope pos) 1 iter2 tg2 ifs2 (emL elt acc env) it acc env:=rfl
theorem Ia(elt tg iter tg2 iter2:Expr)(ifs ifs2:List Expr)(scope:Scope)(pos:Pos)(it acc:Value)(env:Env) :
  compTurn (.ListComp elt [⟨tg,iter,ifs,0⟩,⟨tg2,iter2,ifs2,0⟩] scope pos) 0 it acc env=Cp (.ListComp elt [⟨tg,iter,ifs,0⟩,⟨tg2,iter2,ifs2,0⟩] scope pos) 0 iter tg ifs
   (emN (.ListComp elt [⟨tg,iter,ifs,0⟩,⟨tg2,iter2,ifs2,0⟩] scope pos) iter2 1 acc env) it acc env:=rfl
section
variable{X:Cx}{tg iter elt tg2 iter2:Expr}{g g2:TG}{tc tc2:TT}{te:TE}{ifs ifs2:List Expr}{scope:Scope}{cl:List (Str×Addr)}{N':List Str}{cap:List (Option Nat)}{pos:Pos}{wi wi2:TI}
theorem Ya{D:Addr}(hc:X.calm=true)(hxe:X.xe=fun _ _=>False)(hi:PI X tg2 iter2 wi2)(hg:PG X tg2 g2)(ht:PTs X ifs2 tc2)(he:PE X elt te)(hs:∀x,foldedSetIterable iter2 X.env x=pure x) :
  PEm X (emN (.ListComp elt [⟨tg,iter,ifs,0⟩,⟨tg2,iter2,ifs2,0⟩] scope pos) iter2 1 (.ref D) X.env) (zEs wi2 fun J σ H Q=>Ej g2 tc2 (w4 D te) J σ H Q):=by
 intro pins s σ H Q k F E I h hk;unfold emN;have h0:=hi pins s σ H _ I h;rw[hxe]at h0;refine AB (CA h0 (fun v s1 h1=>?_) fun _ _ z=>z.elim);refine AB (FC (AB (EJ (hs v) (AB (BU (CA h1 (fun itv s2 h2=>?_) fun _ _ z=>z.elim))))));obtain⟨it,fp,tn,J,H2,eit,I2,T,st2,f2,R2⟩:=h2;subst eit;refine AB (wpAny_runOwn ?_);refine X0 (X:=X) (e:=.ListComp elt [⟨tg,iter,ifs,0⟩,⟨tg2,iter2,ifs2,0⟩] scope pos) (d:=1) (tg:=tg2) (iter:=iter2) (ifs:=ifs2) rfl rfl (gs:=[⟨tg,iter,ifs,0⟩,⟨tg2,iter2,ifs2,0⟩]) rfl rfl T st2 ?_;exact Q2 (X:=X) rfl rfl hc hxe (Jj elt tg iter tg2 iter2 ifs ifs2 scope pos _ _ _) hg ht (Ec hxe he) T I2 st2 f2 R2 fun s' σ' H' I' q'=>hk s' σ' H' I' q'
theorem zBw(S:CScope X scope cl N' cap)(hc:X.calm=true)(hi:PI X tg iter wi)
  (hb:∀(pins:List (Addr×Obj)) (ex:List Addr) (s3:Shared) (H3:Hp),PG (cxC X scope cl N' pins ex s3 H3) tg g/\PTs (cxC X scope cl N' pins ex s3 H3) ifs tc/\PI (cxC X scope cl N' pins ex s3 H3) tg2 iter2 wi2 /\
   PG (cxC X scope cl N' pins ex s3 H3) tg2 g2/\PTs (cxC X scope cl N' pins ex s3 H3) ifs2 tc2/\PE (cxC X scope cl N' pins ex s3 H3) elt te)
  (hs:∀x,foldedSetIterable iter X.env x=pure x:=by intro _;rfl) (hs2:∀env x,foldedSetIterable iter2 env x=pure x:=by intro _ _;rfl) :
  PE X (.ListComp elt [⟨tg,iter,ifs,0⟩,⟨tg2,iter2,ifs2,0⟩] scope pos) (Fg wi (fun _=>.lst []) cap fun D J σ H Q=>Ej g tc (zEs wi2 fun J σ H Q=>Ej g2 tc2 (w4 D te) J σ H Q) J σ H Q):=by
 refine Ez (newAcc:=newList []) (p2:=firstIterPos [⟨tg,iter,ifs,0⟩,⟨tg2,iter2,ifs2,0⟩] pos) rfl (fun _=>.lst []) hs S hc hi (fun pins s σ H Q E I h=>?_) (fun pins ex s3 H3 D it fp tn J σ s H Q R T I st hf h hR=>?_) (fun _ _ _=>rfl) (fun _ _ _=>rfl) (fun E Q s h=>h)
 .refine HA ?_;exact h _ (I.lnew (t':=s.toks) (its:=[]) .nil (BT _)) fun b ob e=>AE _ e
 .obtain⟨b1,b2,b3,b4,b5,b6⟩:=hb pins ex s3 H3;exact Q2 (X:=cxC X scope cl N' pins ex s3 H3) rfl rfl hc rfl (Ia elt tg iter tg2 iter2 ifs ifs2 scope pos _ _ _) b1 b2 (Ya (X:=cxC X scope cl N' pins ex s3 H3) hc rfl b3 b4 b5 b6 (hs2 _)) T I st hf h hR
end
end L2
namespace Sw
open PySem L2
def top(i:Nat):Stmt:=PySem.Challenge.pw_strikeweave_k59_woven.main.body.getD i (.Pass ⟨0,0,0,0⟩)
abbrev s_is_number:Stmt:=top 7
abbrev s_is_listed:Stmt:=top 8
abbrev s_is_row_of:Stmt:=top 9
abbrev s_is_name:Stmt:=top 14
abbrev s_check_names:Stmt:=top 15
abbrev s_check_strikes:Stmt:=top 16
abbrev s_is_strike:Stmt:=top 17
abbrev s_reached:Stmt:=top 18
abbrev s_check_part:Stmt:=top 23
abbrev s_begins_of:Stmt:=top 24
abbrev s_names_of:Stmt:=top 25
abbrev s_fits_people:Stmt:=top 26
abbrev s_fits_sayings:Stmt:=top 27
abbrev s_fits_strikes:Stmt:=top 28
abbrev s_fits_backs:Stmt:=top 29
abbrev s_is_fresh:Stmt:=top 30
abbrev s_is_rank:Stmt:=top 31
abbrev s_are_speakers:Stmt:=top 32
abbrev s_strength:Stmt:=top 35
abbrev s_saying_strength:Stmt:=top 36
abbrev s_row_of:Stmt:=top 37
abbrev s_saying_of:Stmt:=top 38
abbrev s_strike_of:Stmt:=top 39
abbrev s_counting:Stmt:=top 40
abbrev s_backers:Stmt:=top 41
abbrev s_hit_by:Stmt:=top 42
abbrev s_woven:Stmt:=top 43
abbrev s_woven_struck:Stmt:=top 44
abbrev s_is_strike_from:Stmt:=top 45
abbrev s_law_mix:Stmt:=top 47
abbrev s_law_left:Stmt:=top 48
abbrev s_law_pick:Stmt:=top 49
abbrev s_law_same:Stmt:=top 50
abbrev s_law_many_names:Stmt:=top 51
abbrev s_law_people:Stmt:=top 52
abbrev s_law_speakers:Stmt:=top 53
abbrev s_law_sizes:Stmt:=top 54
abbrev s_law_weave_rows:Stmt:=top 55
abbrev s_law_strength:Stmt:=top 56
abbrev s_law_live:Stmt:=top 57
abbrev s_law_behind:Stmt:=top 58
abbrev s_law_hits:Stmt:=top 59
abbrev s_law_woven:Stmt:=top 60
abbrev s_law_each:Stmt:=top 61
abbrev s_law:Stmt:=top 62
abbrev s_Web___init__:Stmt:=Z0 (top 13) 0
abbrev s_Web_all_names:Stmt:=Z0 (top 13) 1
abbrev s_Web_all_strikes:Stmt:=Z0 (top 13) 2
abbrev s_Web_strikers:Stmt:=Z0 (top 13) 3
abbrev s_Web_struck:Stmt:=Z0 (top 13) 4
abbrev s_Web_check_has:Stmt:=Z0 (top 13) 5
abbrev s_Weave___init__:Stmt:=Z0 (top 22) 0
def Jo:Str:=("Weave.__init__":Str) ++ ".<locals>." ++ "<lambda>"
def Y1:List (Pos×Str):=[(⟨96,39,96,90⟩,Jo),(⟨98,39,98,98⟩,Jo),(⟨99,35,99,85⟩,Jo)]
structure Tx(K:PySem.W.Frag)(mg:Str->Option Value) where
 aX:Fn K mg "is_number" s_is_number ["thing"]
 aO:Fn K mg "is_listed" s_is_listed ["thing"]
 ax:Fn K mg "is_row_of" s_is_row_of ["thing", "many"]
 a5:Fn K mg "is_name" s_is_name ["thing"]
 aQ:Fn K mg "check_names" s_check_names ["names"]
 aE:Fn K mg "check_strikes" s_check_strikes ["names", "strikes"]
 aY:Fn K mg "is_strike" s_is_strike ["names", "thing"]
 bf:Fn K mg "reached" s_reached ["steps", "some"]
 au:Fn K mg "check_part" s_check_part ["part", "rows", "fits"]
 aZ:Fn K mg "begins_of" s_begins_of ["rows"]
 al:Fn K mg "names_of" s_names_of ["rows"]
 aq:Fn K mg "fits_people" s_fits_people ["ahead", "row"]
 aH:Fn K mg "fits_sayings" s_fits_sayings ["people", "ahead", "row"]
 aI:Fn K mg "fits_strikes" s_fits_strikes ["sayings", "goals", "ahead", "row"]
 aS:Fn K mg "fits_backs" s_fits_backs ["sayings", "ahead", "row"]
 aJ:Fn K mg "is_fresh" s_is_fresh ["taken", "thing"]
 bg:Fn K mg "is_rank" s_is_rank ["thing"]
 aK:Fn K mg "are_speakers" s_are_speakers ["names", "thing"]
 aT:Fn K mg "strength" s_strength ["weave", "name"]
 as:Fn K mg "saying_strength" s_saying_strength ["weave", "saying"]
 aL:Fn K mg "row_of" s_row_of ["rows", "name"]
 aP:Fn K mg "saying_of" s_saying_of ["weave", "name"]
 a0:Fn K mg "strike_of" s_strike_of ["weave", "name"]
 a8:Fn K mg "counting" s_counting ["weave"]
 bh:Fn K mg "backers" s_backers ["weave", "name"]
 bj:Fn K mg "hit_by" s_hit_by ["weave", "name"]
 bm:Fn K mg "woven" s_woven ["weave"]
 aM:Fn K mg "woven_struck" s_woven_struck ["weave", "names", "name"]
 aB:Fn K mg "is_strike_from" s_is_strike_from ["weave", "name", "hit"]
 a6:Fn K mg "_law_mix" s_law_mix ["_law_cell", "_law_k"]
 a9:Fn K mg "_law_left" s_law_left ["_law_script", "_law_k"]
 ad:Fn K mg "_law_pick" s_law_pick ["_law_left_here", "_law_many"]
 af:Fn K mg "_law_same" s_law_same ["_law_found", "_law_due"]
 aC:Fn K mg "_law_many_names" s_law_many_names ["_law_left_here", "_law_many"]
 aU:Fn K mg "_law_people" s_law_people ["_law_left_here", "_law_many"]
 aN:Fn K mg "_law_speakers" s_law_speakers ["_law_left_here", "_law_people_here"]
 a1:Fn K mg "_law_sizes" s_law_sizes ["_law_left_here", "_law_most"]
 aD:Fn K mg "_law_weave_rows" s_law_weave_rows ["_law_left_here", "_law_most"]
 az:Fn K mg "_law_strength" s_law_strength ["_law_rows", "_law_name"]
 ba:Fn K mg "_law_live" s_law_live ["_law_rows"]
 aV:Fn K mg "_law_behind" s_law_behind ["_law_rows", "_law_name"]
 bb:Fn K mg "_law_hits" s_law_hits ["_law_rows", "_law_goal"]
 a2:Fn K mg "_law_woven" s_law_woven ["_law_rows"]
 bc:Fn K mg "_law_each" s_law_each ["_law_web", "_law_names", "_law_pairs"]
 ac:Addr
 ai:Cls K ac
 bD:mg "Web" = some (.ref ac)
 bi:IsC K ac
 aF:NoAttr K ac "names"
 a3:NoAttr K ac "strikes"
 ay:NoAttr K ac "strikers_by_name"
 aA:NoAttr K ac "struck_by_name"
 bx:Addr
 bu:FuncData
 bz:Fun K "__init__" "Web.__init__" s_Web___init__ bx bu
 bA:Binds K bu ["self", "names", "strikes"] []
 bL:Mk K ac bx
 av:Mt K ac "all_names" "Web.all_names" s_Web_all_names ["self"]
 ao:Mt K ac "all_strikes" "Web.all_strikes" s_Web_all_strikes ["self"]
 aw:Mt K ac "strikers" "Web.strikers" s_Web_strikers ["self", "name"]
 ar:Mt K ac "struck" "Web.struck" s_Web_struck ["self", "name"]
 aj:Mt K ac "check_has" "Web.check_has" s_Web_check_has ["self", "name"]
 aa:Addr
 ae:Cls K aa
 bH:mg "Weave" = some (.ref aa)
 aW:NoAttr K aa "people"
 ak:NoAttr K aa "sayings"
 an:NoAttr K aa "strikes"
 a4:NoAttr K aa "backs"
 br:Addr
 bq:FuncData
 bs:Fun K "__init__" "Weave.__init__" s_Weave___init__ br bq
 bt:Binds K bq ["self", "people", "sayings", "strikes", "backs"] []
 bI:Mk K aa br
 bO:Addr
 ag:Addr
 bd:TabAt K mg bO ag
 bl:bq.code = .ref bO
 bG:∃t,mg "LETTERS" = some (.str "abcdefghijklmnopqrstuvwxyz" t)
 bB:∃t,mg "LONGEST_NAME" = some (.int 8 t)
 bP:Addr
 bJ:mg "KINDS" = some (.ref bP)
 bK:GTup K bP ["fact", "claim"]
 bv:∃t,mg "GREATEST_RANK" = some (.int 9 t)
 bw:∃t,mg "FACT_STRENGTH" = some (.int 10 t)
 am:mg "len" = none
 aG:mg "range" = none
 a7:mg "enumerate" = none
 bM:mg "zip" = none
 bN:mg "min" = none
 bE:mg "max" = none
 bF:mg "abs" = none
 ah:mg "sorted" = none
 bn:mg "int" = none
 bo:mg "str" = none
 bk:mg "bool" = none
 ap:mg "list" = none
 aR:mg "tuple" = none
 bC:mg "dict" = none
 be:mg "set" = none
 ab:mg "isinstance" = none
 bp:mg "all" = none
 bQ:mg "ValueError" = none
end Sw
namespace L2
open PySem
theorem fsc{N ps:List Str}{sc:Scope}(h1:sc.kind = .function:=by rfl)(h2:sc.isCoroutine=false:=by rfl)(h3:sc.isGenerator=false:=by rfl)(h4:N.Nodup:=by decide +kernel)(h5:N.take ps.length=ps:=by rfl)(h6:∀x∈ps,sc.names.lookup x=some .local\/sc.names.lookup x=some .cell:=by decide +kernel)(h7:∀y∈sc.names,y.2≠ .free:=by decide +kernel):FnScope N ps sc:=⟨h1,h2,h3,h4,h5,h6,h7⟩
theorem Rm{j k:Nat}{A:Around}(h:Room k A)(e:j<=k:=by decide):Room j A:=h.mono e
theorem Y3{J:It}{xs:List V}{a:Addr}{H0:Hp}(as:AsSeq J xs a H0){g:TG}{tb:TS}{D:Ends}{σ:St}{H:Hp}(Pv:Nat->St->Hp->Prop)(h0:Pv 0 σ H)(hk:∀i σ H,i<=xs.length->Pv i σ H->KeepAt a H0 H)
  (hs:∀i σ H x,xs[i]?=some x->Pv i σ H->∀D':Ends,(∀σ' H',Pv (i+1) σ' H'->D'.nx σ' H')->D'.rt=D.rt->g x σ H fun σ2 H2=>tb D' σ2 H2) (hd:∀σ H,Pv xs.length σ H->D.nx σ H) :
  ∃W:Nat->Nat->St->Hp->Prop,(∃m,W 0 m σ H)/\∀i m σ H,W i m σ H ->
   (J.stop i H/\D.nx σ H)\/(J.go i H/\∃N:St->Hp->Prop,(∀σ' H',N σ' H'->∃m',m' < m/\W (i+1) m' σ' H')/\∀x H',J.yld i H x H'->g x σ H' fun σ2 H2=>tb { D with nx:=N,ct:=N,bk:=D.nx } σ2 H2) :=
 zCc as Pv h0 hk (fun i σ H x hx hp=>hs i σ H x hx hp _ (fun _ _ z=>z) rfl) hd
theorem Q6{lo:Int}{n:Nat}{g:TG}{tb:TS}{D:Ends}{σ:St}{H:Hp}(Pv:Nat->St->Hp->Prop)(h0:Pv 0 σ H)
  (hs:∀i σ H,i<n->Pv i σ H->∀D':Ends,(∀σ' H',Pv (i+1) σ' H'->D'.nx σ' H')->D'.rt=D.rt->g (.int (lo+i)) σ H fun σ2 H2=>tb D' σ2 H2) (hd:∀σ H,Pv n σ H->D.nx σ H) :
  ∃W:Nat->Nat->St->Hp->Prop,(∃m,W 0 m σ H)/\∀i m σ H,W i m σ H ->
   ((Itr lo n).stop i H/\D.nx σ H)\/((Itr lo n).go i H/\∃N:St->Hp->Prop,(∀σ' H',N σ' H'->∃m',m' < m/\W (i+1) m' σ' H')/\∀x H',(Itr lo n).yld i H x H'->g x σ H' fun σ2 H2=>tb { D with nx:=N,ct:=N,bk:=D.nx } σ2 H2) :=
 Of Pv h0 (fun i σ H hi hp=>hs i σ H hi hp _ (fun _ _ z=>z) rfl) hd
theorem ex1{α:Type}{A C:α->Prop}{a:α}(e:A a)(h:C a):∃v,A v/\C v:=⟨a,e,h⟩
theorem X5{α0 α1 α2:Type}{A0 A1 A2 A3 A4 A5:α0->α1->α2->Prop}{a:α0}{b:α1}{c:α2}(h0:A0 a b c)(h1:A1 a b c)(h2:A2 a b c)(h3:A3 a b c)(h4:A4 a b c)(h5:A5 a b c):∃a b c,A0 a b c/\A1 a b c/\A2 a b c/\A3 a b c/\A4 a b c/\A5 a b c:=⟨a,b,c,h0,h1,h2,h3,h4,h5⟩
theorem zDq{α0 α1 α2 α3 α4 α5:Type}{A0 A1 A2 A3 A4 A5 A6 A7:α0->α1->α2->α3->α4->α5->Prop}{a:α0}{b:α1}{c:α2}{d:α3}{e:α4}{f:α5}(h0:A0 a b c d e f)(h1:A1 a b c d e f)(h2:A2 a b c d e f)(h3:A3 a b c d e f)(h4:A4 a b c d e f)(h5:A5 a b c d e f)(h6:A6 a b c d e f)(h7:A7 a b c d e f):∃a b c d e f,A0 a b c d e f/\A1 a b c d e f/\A2 a b c d e f/\A3 a b c d e f/\A4 a b c d e f/\A5 a b c d e f/\A6 a b c d e f/\A7 a b c d e f:=⟨a,b,c,d,e,f,h0,h1,h2,h3,h4,h5,h6,h7⟩
theorem B9{α0 α1:Type}{A0 A1 A2:α0->α1->Prop}{a:α0}{b:α1}(h0:A0 a b)(h1:A1 a b)(h2:A2 a b):∃a b,A0 a b/\A1 a b/\A2 a b:=⟨a,b,h0,h1,h2⟩
theorem B7{t u:TS}{D:Ends}{σ:St}{H:Hp}(h:∀N:St->Hp->Prop,(∀σ' H',u D σ' H'->N σ' H')->t { D with nx:=N } σ H):zAs t u D σ H:=h _ fun _ _ z=>z
theorem Uq{i:Nat}{v:V}{t u:TS}{D:Ends}{σ:St}{H:Hp}(h:∀N:St->Hp->Prop,(∀σ' H',u D σ' H'->N σ' H')->t { D with nx:=N } (σ.set i (some v)) H):S7 i v σ H (fun σ2 H2=>zAs t u D σ2 H2):=h _ fun _ _ z=>z
end L2
namespace Sw
open PySem L2
section
variable{P:Program}{w:World}{K:PySem.W.Frag}{mg:Str->Option Value}{base:Heap}
def Xf(c:Nat):Bool:=decide (97<=c)&&decide (c<=122)
def F7(x:Str):Bool:=decide (1<=x.length)&&decide (x.length<=8)&&x.cps.toList.all Xf
theorem Jc:("abcdefghijklmnopqrstuvwxyz":Str).cps.toList=List.range' 97 26:=by decide +kernel
theorem Wk(c:Nat):decide (c∈("abcdefghijklmnopqrstuvwxyz":Str).cps.toList)=Xf c:=by
 rw[Jc];unfold Xf;by_cases h1:97<=c
 .by_cases h2:c<=122
  .rw[AG (List.mem_range'_1.mpr (by omega)),AG h1,AG h2];rfl
  .rw[BC (fun z=>by have:=List.mem_range'_1.mp z;omega),BC h2,Bool.and_false]
 .rw[BC (fun z=>by have:=List.mem_range'_1.mp z;omega),BC h1,EV]
theorem Ml:FnScope ["thing"] ["thing"] (B5 s_is_name):=fsc
def Nh:Sp:=fun vs H Q _=>∃x,vs = [.str x]/\x.length<=1000/\∀H',Same H H'->Q (.bl (F7 x)) H'
theorem Co(T:Tx K mg):FnOk P w K mg base CX0 1 T.a5.f T.a5.fd ["thing"] Nh:=by
 refine T.a5.F.ok Ml (fun vs H Q E h=>?_) (fun cdv A outer s H vs Q E hr h=>?_)
 .obtain⟨x,rfl,_⟩:=h;rfl
 .obtain⟨x,rfl,hx,k⟩:=h;refine⟨_,(B1 (I0 (PW.pt (y4 (K4 (J0 (E2 (J1 K) T.ab C1 (A8 (pv 0) (A8 (R0 T.bo Ki) B0))))) (S4 (K4 (Ux Ua Ua B3 (E2 Gc T.am K9 (A8 (pv 0) B0)) (Xx T.bB)))))) (B4 (C0 b7)) D0)
   (B4 (C0 (E2 (Kv K) T.bp Kh (A8 (O2 (N':=["letter"]) (cap:=[none]) (cl:=[]) (J6 trivial trivial) rfl (zBn (pv 0)) (fun _ _ _ _=>by exact⟨(pgC 0),F9,(E8 Rq (pv 0) (zDc T.bG) rfl)⟩)) B0))))),?_⟩
  have h64:x.length<=sizeLine:=by rw[sizeLine_eq];omega
  have hlen:x.cps.size=x.length:=rfl;refine ex1 rfl ⟨.str x, "str",_,true,rfl,.str x,rfl,ex1 rfl ?_⟩;refine X4 ?_;refine ex1 rfl ⟨x,rfl,h64,B9 rfl rfl (ex1 rfl ?_)⟩;refine Z7 (fun c1=>?_) (fun c1=>?_)
  .have c1:(1:Int)<=(x.length:Int):=BG c1;refine B9 rfl rfl (ex1 rfl ?_);by_cases c2:(x.length:Int)<=8
   .rw[AG c2];refine X4 ?_;refine ex1 rfl ⟨x,rfl,fun D hD=>?_⟩;refine Ft (n:=x.cps.size) (fun i σ H'=>(∃v,σ = [v])/\Same H H'/\H' D=some (.lst ((x.cps.toList.take i).map fun c=>V.bl (Xf c)))) ⟨⟨_,rfl⟩,Same.new hD,A9⟩ (fun i _ _ hi _=>hi) (fun _ _ _=>rfl) ?_ ?_
    .rintro i σ H1 v H' N hi ⟨⟨v0,rfl⟩,s1,e1⟩ ⟨rfl,c,hc,rfl⟩ hN;refine X6 ?_;refine ex1 rfl (B9 rfl rfl ⟨_,e1,?_,?_⟩)
     .rw[AA,AR,sizeLine_eq];omega
     .rw[PySem.StrLaws.found_one,Wk];refine hN _ _ ⟨⟨_,rfl⟩,s1.upd hD,?_⟩;rw[A9];have:x.cps.toList[i]?=some c:=by rw[BL];exact hc
      rw[List.take_add_one,this,AL];rfl
    .rintro σ H1 ⟨_,s1,e1⟩;refine⟨D,x.cps.toList.map Xf,rfl,SqL.of ?_,?_⟩
     .rw[e1,<-AQ,BR,BA];rfl
     .have e:(x.cps.toList.map Xf).all id=F7 x:=by
       unfold F7;rw[AG (show 1<=x.length by omega),AG (show x.length<=8 by omega),List.all_map];rfl
      rw[e];exact k _ s1
   .rw[BC c2];refine y8 ?_;have e:F7 x=false:=by
     unfold F7;rw[BC (show ¬x.length<=8 by omega),Bool.and_false,EV]
    have:=k H (Same.refl H);rw[e]at this;exact this
  .have c1:¬(1:Int)<=(x.length:Int):=fun z=>c1 (AG z);refine ex1 rfl ?_;refine y8 ?_;have e:F7 x=false:=by
    unfold F7;rw[BC (show ¬1<=x.length by omega),EV,EV]
   have:=k H (Same.refl H);rw[e]at this;exact this
theorem C8{α:Type}{l:List α}{i:Nat}{x:α}(h:l[i]?=some x):l.take (i+1)=l.take i ++ [x]:=by
 rw[List.take_add_one,h];rfl
theorem J4{α:Type}{l:List α}{i:Nat}{x:α}(nd:l.Nodup)(h:l[i]?=some x):x∉l.take i:=by
 intro hm;obtain⟨j,hj,e⟩:=List.getElem_of_mem hm;have hj':j<i:=by rw[AR]at hj;omega
 rw[List.getElem_take]at e;obtain⟨hi,e'⟩:=AU.mp h;have:=(List.getElem_inj nd).mp (e.trans e'.symm);omega
theorem Y0:FnScope ["names", "seen", "place", "name"] ["names"] (B5 s_check_names):=fsc
def T0(ss:List Str):Prop:=(∀x∈ss,F7 x=true)/\ss.Nodup/\ss.length<=100
def Bz(K:PySem.W.Frag):Sp:=fun vs H Q _=>∃(p:Addr) (ss:List Str),vs = [.ref p]/\SqL K H p (ss.map V.str)/\T0 ss/\∀H',Same H H'->Q .non H'
theorem Ha{x:Str}(h:F7 x=true):1<=x.length/\x.length<=8:=by
 unfold F7 at h;rw[CD,CD]at h;exact⟨BG h.1.1,BG h.1.2⟩
theorem Cf(T:Tx K mg):FnOk P w K mg base CX0 2 T.aQ.f T.aQ.fd ["names"] (Bz K):=by
 have G_is_name:=Co (P:=P) (w:=w) (base:=base) T;have sc:=Y0;refine T.aQ.F.ok Y0 (fun vs H Q E h=>?_) (fun cdv A outer s H vs Q E hr h=>?_)
 .obtain⟨p,ss,rfl,_⟩:=h;rfl
 .obtain⟨a,ss,rfl,hS,⟨hN,hD,hL⟩,k⟩:=h;have hu:=w8 hr;refine⟨_,(B1 (C5 (i:=1) sc.nd rfl (.inl rfl) (Ci (Yf P w) (by rfl) T.be Ck))
   (B4 (P4 PassesOwn.never rfl (piE K T.a7 (A8 (pv 0) B0)) (pgT K (n:=2) (C2 (D6 (i:=2) sc.nd rfl (.inl rfl)) (C2 (D6 (i:=3) sc.nd rfl (.inl rfl)) J2)))
   (B1 (I0 (PW.pt (y4 (K4 (J0 (C4 T.a5 G_is_name (Rm hr) (A8 (pv 3) B0)))) (S4 (C3 (zDh P w) (pv 3) (pv 1) rfl)))) (B4 X3) D0)
   (B4 (G0 (Pg P w (Zo P w) (pv 1) (A8 (pv 3) B0)))))))),?_⟩
  refine⟨rfl,fun p hp=>?_⟩;have s0:Same H (upd H p (Oc P w p [])):=Same.new hp;refine ex1 rfl ⟨a,ex1 rfl ⟨(s0.at a).seqL hS,Uf (n:=ss.length) (fun i σ H1=>∃v2 v3,σ = [some (.ref a),some (.ref p),v2,v3]/\Same H H1/\H1 p=some (Oc P w p ((ss.take i).map Sum.inr))) ⟨_,_,rfl,s0,A9⟩ ?_ ?_ ?_ ?_⟩⟩
  .rintro i σ H1 hi ⟨v2,v3,rfl,s1,e1⟩;exact⟨_,_,(s1.at a).seqL hS,by rw[AF,AN hi];rfl⟩
  .rintro σ H1 ⟨v2,v3,rfl,s1,e1⟩;exact⟨_,(s1.at a).seqL hS,by rw[AA]⟩
  .rintro i σ H1 v H' hi ⟨v2,v3,rfl,s1,e1⟩ ⟨t,x,rfl,ht,rfl,hx⟩;have hx:=hx _ ((s1.at a).seqL hS);have hi':ss[i]?=some ss[i]:=AN hi;rw[AF,hi']at hx;cases hx;have hm:ss[i]∈ss:=GV hi;have hnb:=hN _ hm;have hlen:=Ha hnb;have npt:p≠t:=B2 e1 ht;refine⟨t,ex1 rfl ⟨SqT.of A9,rfl,_,ex1 rfl (B9 rfl rfl ?_)⟩⟩;refine ex1 rfl ⟨ss[i],rfl,by omega,fun H2 s2=>⟨_,rfl,?_⟩⟩;rw[hnb];refine X4 ?_;have s12:Same H H2:=(s1.trans (Same.new ht)).trans s2;have e2:H2 p=some (Oc P w p ((ss.take i).map Sum.inr)):=s2 _ _ (by rw[B6 npt];exact e1);have hnin:¬(Sum.inr ss[i]:Key)∈(ss.take i).map Sum.inr:=fun z=>by
    obtain⟨y,hy,e⟩:=AH.mp z;cases e;exact J4 hD hi' hy
   refine ex1 rfl (ex1 rfl ⟨p,_,Sum.inr ss[i],rfl,rfl,e2,ex1 rfl ?_⟩);rw[AS (by decide),BC hnin];refine X4 ?_;refine ex1 rfl ⟨⟨p,rfl,.inl ⟨_,e2⟩⟩,ex1 rfl ⟨p,_,Sum.inr ss[i],rfl,rfl,e2,?_,?_⟩⟩
   .rw[AA,AR];omega
   .refine⟨_,ex1 rfl ⟨s12.upd hp,?_⟩⟩;rw[A9];unfold zCo;rw[AS hnin,C8 hi',AL];rfl
  .rintro σ H1 ⟨v2,v3,rfl,s1,e1⟩;exact k H1 s1
end
theorem Fm(ss:List Str):(ss.map V.str).all Dg=true:=by
 rw[DR];intro v hv;obtain⟨x,_,rfl⟩:=AH.mp hv;rfl
theorem Sc(x:Str)(ss:List Str):inV (.str x) (ss.map V.str)=decide (x∈ss):=by
 unfold inV;rw[List.any_map]
 induction ss with
 | nil=>rfl
 | cons y r ih =>
  rw[FO,ih];show((y == x)||decide (x∈r))=decide (x∈y::r);by_cases e:x=y
  .subst e;simp
  .have:(y == x)=false:=by simpa using fun z=>e z.symm
   rw[this,Bool.false_or];by_cases h:x∈r
   .rw[AG h,AG (AO _ h)]
   .rw[BC h,BC (fun z=>(AX.mp z).elim e h)]
theorem G9{K:PySem.W.Frag}{H:Hp}{p:Addr}{x:Str}{ss:List Str}{Q:VK}(h:Sqs K H p (ss.map V.str))(q:Q (.bl (decide (x∈ss))) H):rIn K false (.str x) (.ref p) H Q :=
 ⟨p,_,rfl,h,rfl,Fm ss,by rw[AS (by decide),Sc];exact q⟩
theorem V7{K:PySem.W.Frag}{H:Hp}{p:Addr}{x:Str}{ss:List Str}{Q:VK}(h:Sqs K H p (ss.map V.str))(q:Q (.bl (!decide (x∈ss))) H):rIn K true (.str x) (.ref p) H Q :=
 ⟨p,_,rfl,h,rfl,Fm ss,by rw[AY rfl,Sc];exact q⟩
section
variable{P:Program}{w:World}{K:PySem.W.Frag}{mg:Str->Option Value}{base:Heap}
theorem Gv:FnScope ["names", "thing"] ["names", "thing"] (B5 s_is_strike):=fsc
def Fk(K:PySem.W.Frag):Sp:=fun vs H Q _=>∃(p:Addr) (ss:List Str) (t:Addr) (x y:Str),vs = [.ref p,.ref t]/\SqL K H p (ss.map V.str)/\H t=some (.tup [.str x,.str y])/\x∈ss/\y∈ss/\Q (.bl true) H
theorem Fq(T:Tx K mg):FnOk P w K mg base CX0 1 T.aY.f T.aY.fd ["names", "thing"] (Fk K):=by
 refine T.aY.F.ok Gv (fun vs H Q E h=>?_) (fun cdv A outer s H vs Q E hr h=>?_)
 .obtain⟨p,ss,t,x,y,rfl,_⟩:=h;rfl
 .obtain⟨p,ss,t,x,y,rfl,hS,ht,hx,hy,k⟩:=h;refine⟨_,(B1 (I0 (PW.pt (y4 (K4 (J0 (E2 (J1 K) T.ab C1 (A8 (pv 1) (A8 (R0 T.aR V4) B0))))) (S4 (C3 Mg (E2 (O8 K) T.am K9 (A8 (pv 1) B0)) B3 (D8 _))))) (B4 (C0 b7)) D0)
   (B4 (C0 (J8 (E8 (S9 K) (C6 (ixT K) (pv 1) B3 (fun _ _=>rfl)) (pv 0) rfl) (O3 (E8 (S9 K) (C6 (ixT K) (pv 1) B3 (fun _ _=>rfl)) (pv 0) rfl)))))),?_⟩
  refine ex1 rfl ⟨_, "tuple",_,true,rfl,.tup ht,rfl,ex1 rfl ?_⟩;refine X4 ?_;refine ex1 rfl (B9 (a:=t) rfl (.inr (SqT.of ht)) ⟨rfl,ex1 rfl ?_⟩);refine X4 ?_;refine ex1 rfl ⟨t,_,B9 rfl rfl ⟨SqT.of ht,rfl,ex1 rfl (G9 (.inl hS) ⟨_,rfl,?_⟩)⟩⟩;rw[AG hx];refine y8 ?_;refine ex1 rfl ⟨t,_,B9 rfl rfl ⟨SqT.of ht,rfl,ex1 rfl (G9 (.inl hS) ?_)⟩⟩;rw[AG hy];exact k
structure StrkOk(ss:List Str)(ps:List PA2):Prop where
 nm:∀q∈ps,q.2.1∈ss/\q.2.2∈ss
 nd:(ps.map fun q=>q.2).Nodup
 len:ps.length<=300
def I9(ps:List PA2):List V:=ps.map fun q=>V.ref q.1
def Ip(ps:List PA2):List (List Key×Addr):=ps.map fun q=>([.inr q.2.1,.inr q.2.2],q.1)
theorem Uw{H:Hp}{ps:List PA2}(h:∀q∈ps,F4 H q):Kq H (Ip ps):=fun k hk=>by
 obtain⟨q,hq,rfl⟩:=AH.mp hk;exact h q hq
theorem E4{H H':Hp}{ps:List PA2}(s:Same H H')(h:∀q∈ps,F4 H q):∀q∈ps,F4 H' q:=fun q hq=>s _ _ (h q hq)
theorem S5:FnScope ["names", "strikes", "seen", "place", "strike"] ["names", "strikes"] (B5 s_check_strikes):=fsc
def y0(K:PySem.W.Frag):Sp:=fun vs H Q _=>∃(p:Addr) (ss:List Str) (a:Addr) (ps:List PA2),vs = [.ref p,.ref a]/\SqL K H p (ss.map V.str)/\SqL K H a (I9 ps)/\(∀q∈ps,F4 H q)/\StrkOk ss ps/\∀H',Same H H'->Q .non H'
theorem w6(T:Tx K mg):FnOk P w K mg base CX0 2 T.aE.f T.aE.fd ["names", "strikes"] (y0 K):=by
 have G_is_strike:=Fq (P:=P) (w:=w) (base:=base) T;have sc:=S5;refine T.aE.F.ok S5 (fun vs H Q E h=>?_) (fun cdv A outer s H vs Q E hr h=>?_)
 .obtain⟨p,ss,t,x,rfl,_⟩:=h;rfl
 .obtain⟨n,ss,a,ps,rfl,hS,hP,hI,⟨hN,hD,hL⟩,k⟩:=h;have hu:=w8 hr;refine⟨_,(B1 (C5 (i:=2) sc.nd rfl (.inl rfl) (Ci (Um P w) (by rfl) T.be Ck))
   (B4 (P4 PassesOwn.never rfl (piE K T.a7 (A8 (pv 1) B0)) (pgT K (n:=2) (C2 (D6 (i:=3) sc.nd rfl (.inl rfl)) (C2 (D6 (i:=4) sc.nd rfl (.inl rfl)) J2)))
   (B1 (I0 (PW.pt (y4 (K4 (J0 (C4 T.aY G_is_strike (Rm hr) (A8 (pv 0) (A8 (pv 4) B0))))) (S4 (C3 (zDm P w hu) (pv 4) (pv 2) rfl)))) (B4 X3) D0)
   (B4 (G0 (Pg P w (Zz P w hu) (pv 2) (A8 (pv 4) B0)))))))),?_⟩
  refine⟨rfl,fun p hp=>?_⟩;have s0:Same H (upd H p (Ny P w p [])):=Same.new hp;refine ex1 rfl ⟨a,ex1 rfl ⟨(s0.at a).seqL hP,Uf (n:=ps.length) (fun i σ H1=>∃v3 v4,σ = [some (.ref n),some (.ref a),some (.ref p),v3,v4]/\Same H H1/\H1 p=some (Ny P w p (Ip (ps.take i)))) ⟨_,_,rfl,s0,A9⟩ ?_ ?_ ?_ ?_⟩⟩
  .rintro i σ H1 hi ⟨v2,v3,rfl,s1,e1⟩;exact⟨_,_,(s1.at a).seqL hP,by unfold I9;rw[AF,AN hi];rfl⟩
  .rintro σ H1 ⟨v2,v3,rfl,s1,e1⟩;exact⟨_,(s1.at a).seqL hP,by unfold I9;rw[AA]⟩
  .rintro i σ H1 v H' hi ⟨v2,v3,rfl,s1,e1⟩ ⟨t,x,rfl,ht,rfl,hx⟩;have hx:=hx _ ((s1.at a).seqL hP);have hi':ps[i]?=some ps[i]:=AN hi;unfold I9 at hx;rw[AF,hi']at hx;cases hx;have hm:ps[i]∈ps:=GV hi;obtain⟨hn1,hn2⟩:=hN _ hm;have npt:p≠t:=B2 e1 ht;have s2:Same H (upd H1 t (.tup [.int i,.ref ps[i].1])):=s1.trans (Same.new ht);have hq:=s2 _ _ (hI _ hm);refine⟨t,ex1 rfl ⟨SqT.of A9,rfl,_,ex1 rfl (B9 rfl rfl ?_)⟩⟩;refine ex1 rfl (ex1 rfl ⟨n,ss,ps[i].1,ps[i].2.1,ps[i].2.2,rfl,(s2.at n).seqL hS,hq,hn1,hn2,ex1 rfl ?_⟩);refine X4 ?_;have e2:(upd H1 t (.tup [.int i,.ref ps[i].1])) p=some (Ny P w p (Ip (ps.take i))):=by rw[B6 npt];exact e1
   have hin:Kq (upd H1 t (.tup [.int i,.ref ps[i].1])) (Ip (ps.take i)):=Uw (E4 s2 fun q hq=>hI q (BO hq));have hne:∀q∈Ip (ps.take i),q.1≠[.inr ps[i].2.1,.inr ps[i].2.2]:=fun q hq e=>by
    obtain⟨z,hz,rfl⟩:=AH.mp hq;have e':z.2=ps[i].2:=by
     obtain⟨z1,z2,z3⟩:=z;simp only[List.cons.injEq,Sum.inr.injEq,and_true]at e;exact Prod.ext e.1 e.2
    have h1:(ps.map fun q=>q.2)[i]?=some ps[i].2:=by rw[AF,hi'];rfl
    refine J4 hD h1 ?_;rw[<-EH,<-e'];exact AH.mpr ⟨z,hz,rfl⟩
   refine ex1 rfl (ex1 rfl ⟨p,ps[i].1,_,[.inr ps[i].2.1,.inr ps[i].2.2],rfl,rfl,e2,hq,hin,hne,ex1 rfl ?_⟩);refine X4 ?_;refine ex1 rfl ⟨⟨p,rfl,.inr (.inr ⟨_,e2⟩)⟩,ex1 rfl ⟨p,ps[i].1,_,[.inr ps[i].2.1,.inr ps[i].2.2],rfl,rfl,e2,hq,hin,hne,?_,?_⟩⟩
   .unfold Ip;rw[AA,AR];omega
   .refine⟨_,ex1 rfl ⟨s2.upd hp,?_⟩⟩;rw[A9,C8 hi'];unfold Ip;rw[AL];rfl
  .rintro σ H1 ⟨v2,v3,rfl,s1,e1⟩;exact k H1 s1
end
def la(kvs:List (Key×V))(n:Str):Addr:=match Y5 kvs (.inr n)with | some (.ref l)=>l | _=>0
theorem Ir(kvs:List (Key×V))(n m:Str)(v:V):Y5 (Fa kvs (Sum.inr n:Key) v) (.inr m)=if m=n then some v else Y5 kvs (.inr m):=by
 rw[Ul];by_cases e:m=n
 .rw[AY e,AY (by rw[e])]
 .rw[AS e,AS (fun z=>e (Sum.inr.inj z))]
theorem Cn(kvs:List (Key×V))(n m:Str)(p:Addr):la (Fa kvs (.inr n) (.ref p)) m=if m=n then p else la kvs m:=by
 unfold la;rw[Ir];by_cases e:m=n
 .rw[AY e,AY e]
 .rw[AS e,AS e]
structure DOk(H0:Hp)(kvs:List (Key×V))(ns:List Str):Prop where
 val:∀n∈ns,Y5 kvs (.inr n)=some (.ref (la kvs n))
 inj:∀n∈ns,∀m∈ns,la kvs n=la kvs m->n=m
 fr:∀n∈ns,H0 (la kvs n)=none
theorem Vr{K:PySem.W.Frag}{J:It}{a:Addr}{ns:List Str}{H:Hp}{σ:St}{Q:St->Hp->Prop}(as:AsSeq J (ns.map V.str) a H)(hσ:∃v,σ = [v])(nd:ns.Nodup)(hl:ns.length<=1000){D:Addr}(hD:H D=none)
  (q:∀σ kvs H',Same H H'->H' D=some (.dK kvs)->DOk H kvs ns->(∀n∈ns,H' (la kvs n)=some (.lst []))->(∀n∈ns,la kvs n≠D)->Q σ H') :
  Ej (S7 0) Dj (Re D (Ob 0) (zEj Wa)) J σ (upd H D (.dK [])) Q:=by
 obtain⟨v,rfl⟩:=hσ;refine K7 as (fun i σ H1=>(∃v,σ = [v])/\∃kvs,Same H H1/\H1 D=some (.dK kvs)/\kvs.length<=i/\DOk H kvs (ns.take i)/\(∀n∈ns.take i,H1 (la kvs n)=some (.lst []))/\∀n∈ns.take i,la kvs n≠D)
  ⟨⟨v,rfl⟩,[],Same.new hD,A9,BT _,⟨fun n h=>by simp at h,fun n h=>by simp at h,fun n h=>by simp at h⟩,fun n h=>by simp at h,fun n h=>by simp at h⟩ (fun i σ H1 _ ⟨_,kvs,s1,_⟩=>s1.at a) ?_ ?_
 .rintro i σ H1 x N hx ⟨⟨v,rfl⟩,kvs,s1,e1,l1,D1,c1,n1⟩ hN;rw[AF]at hx;have hi:i<ns.length:=by
   rcases Nat.lt_or_ge i ns.length with z | z
   .exact z
   .rw[FP z]at hx;cases hx
  have hi':ns[i]?=some ns[i]:=AN hi;rw[hi']at hx;cases hx;refine X6 ?_;refine ex1 rfl ⟨BT _,fun p hp=>?_⟩;have npD:D≠p:=B2 e1 hp;refine⟨kvs,.inr ns[i],by rw[B6 npD];exact e1,rfl,by rw[sizeLine_eq];omega,hN _ _ ⟨⟨_,rfl⟩,Fa kvs (.inr ns[i]) (.ref p),?_,A9,?_,⟨?_,?_,?_⟩,?_,?_⟩⟩
  .exact(s1.trans (Same.new hp)).upd hD
  .have:=S0 kvs (Sum.inr ns[i]:Key) (.ref p);omega
  all_goals rw[C8 hi']
  .intro n hn;rw[Ir,Cn];by_cases e:n=ns[i]
   .rw[AY e,AY e]
   .rw[AS e,AS e];rcases AI.mp hn with z | z
    .exact D1.val n z
    .exact absurd (AC.mp z) e
  .intro n hn m hm;rw[Cn,Cn];have old:∀k∈ns.take i ++ [ns[i]],k≠ns[i]->k∈ns.take i:=fun k hk e=>(AI.mp hk).elim id fun z=>absurd (AC.mp z) e;by_cases e:n=ns[i]
   .by_cases e':m=ns[i]
    .exact fun _=>e.trans e'.symm
    .rw[AY e,AS e'];intro z;have:=c1 m (old m hm e');rw[<-z,hp]at this;cases this
   .by_cases e':m=ns[i]
    .rw[AS e,AY e'];intro z;have:=c1 n (old n hn e);rw[z,hp]at this;cases this
    .rw[AS e,AS e'];exact D1.inj n (old n hn e) m (old m hm e')
  .intro n hn;rw[Cn];by_cases e:n=ns[i]
   .rw[AY e];exact s1.free hp
   .rw[AS e];rcases AI.mp hn with z | z
    .exact D1.fr n z
    .exact absurd (AC.mp z) e
  .intro n hn;rw[Cn];by_cases e:n=ns[i]
   .rw[AY e,B6 npD.symm,A9]
   .rw[AS e];rcases AI.mp hn with z | z
    .rw[B6 (n1 n z),B6 (B2 (c1 n z) hp)];exact c1 n z
    .exact absurd (AC.mp z) e
  .intro n hn;rw[Cn];by_cases e:n=ns[i]
   .rw[AY e];exact npD.symm
   .rw[AS e];rcases AI.mp hn with z | z
    .exact n1 n z
    .exact absurd (AC.mp z) e
 .rintro σ H1 ⟨_,kvs,s1,e1,l1,D1,c1,n1⟩;rw[AA]at *;rw[BR]at *;exact q σ kvs H1 s1 e1 D1 c1 n1
def C9(qs:List PA2)(n:Str):List Str:=(qs.filter fun q=>decide (q.2.2=n)).map fun q=>q.2.1
def E3(qs:List PA2)(n:Str):List Str:=(qs.filter fun q=>decide (q.2.1=n)).map fun q=>q.2.2
theorem Ag(qs:List PA2)(q:PA2)(n:Str):C9 (qs ++ [q]) n=C9 qs n ++(if q.2.2=n then [q.2.1]else []):=by
 unfold C9;rw[EY,AL];by_cases e:q.2.2=n
 .rw[AY e,EE,AY (AG e)];rfl
 .rw[AS e,EE,AS (by simp[e])];rfl
theorem Du(qs:List PA2)(q:PA2)(n:Str):E3 (qs ++ [q]) n=E3 qs n ++(if q.2.1=n then [q.2.2]else []):=by
 unfold E3;rw[EY,AL];by_cases e:q.2.1=n
 .rw[AY e,EE,AY (AG e)];rfl
 .rw[AS e,EE,AS (by simp[e])];rfl
def wf(a b c d:Addr):List (Str×V):=[("names",.ref a),("strikes",.ref b),("strikers_by_name",.ref c),("struck_by_name",.ref d)]
structure WebOk(ns:List Str)(qs:List PA2):Prop where
 nd:ns.Nodup
 len:ns.length<=100
 srt:ns.Pairwise leS
 mem:∀q∈qs,q.2.1∈ns/\q.2.2∈ns
 ndq:(qs.map fun q=>q.2).Nodup
 lenq:qs.length<=300
 srq:qs.Pairwise leP
structure WebAt(C:Addr)(H:Hp)(x:Addr)(ns:List Str)(qs:List PA2):Prop where
 ok:WebOk ns qs
 ex:∃dx a b c d kc kd,H x=some (.ins C dx (wf a b c d))/\H a=some (.lst (ns.map V.str))/\H b=some (.lst (I9 qs))/\(∀q∈qs,F4 H q)/\H c=some (.dK kc)/\H d=some (.dK kd) /\
  (∀n∈ns,∃l,Y5 kc (.inr n)=some (.ref l)/\H l=some (.lst ((C9 qs n).map V.str)))/\∀n∈ns,∃l,Y5 kd (.inr n)=some (.ref l)/\H l=some (.lst ((E3 qs n).map V.str))
section
variable{P:Program}{w:World}{K:PySem.W.Frag}{mg:Str->Option Value}{base:Heap}
theorem V3:FnScope ["self", "names", "strikes", "one", "other"] ["self", "names", "strikes"] (B5 s_Web___init__):=fsc
def Jt(K:PySem.W.Frag)(C:Addr):Sp:=fun vs H Q _=>∃(x dx n:Addr) (ss:List Str) (a:Addr) (ps:List PA2),vs = [.ref x,.ref n,.ref a]/\H x=some (.ins C dx [])/\H n=some (.lst (ss.map V.str))/\T0 ss /\
 H a=some (.lst (I9 ps))/\(∀q∈ps,F4 H q)/\StrkOk ss ps/\∀ns qs H',ns.Perm ss->ns.Pairwise leS->qs.Perm ps->qs.Pairwise leP->Sm [x] H H'->WebAt C H' x ns qs->Q .non H'
theorem Io(T:Tx K mg):FnOk P w K mg base CX0 3 T.bx T.bu ["self", "names", "strikes"] (Jt K T.ac):=by
 have G_check_names:=Cf (P:=P) (w:=w) (base:=base) T;have G_check_strikes:=w6 (P:=P) (w:=w) (base:=base) T;have sc:=V3;refine T.bz.ok V3 (fun vs H Q E h=>?_) (fun cdv A outer s H vs Q E hr h=>?_)
 .obtain⟨x,dx,n,ss,a,ps,rfl,_⟩:=h;rfl
 .obtain⟨x,dx,n,ss,a,ps,rfl,hx,hS,hN,hP,hI,hO,k⟩:=h;have hu:=w8 hr;refine⟨_,(B1 (G0 (C4 T.aQ G_check_names (Rm hr) (A8 (pv 1) B0)))
   (B1 (G0 (C4 T.aE G_check_strikes (Rm hr) (A8 (pv 1) (A8 (pv 2) B0))))
   (B1 (psF K (pv 0) (E2 (O5 K) T.ah F6 (A8 (pv 1) B0)))
   (B1 (psF K (pv 0) (E2 (Lk K) T.ah F6 (A8 (pv 2) B0)))
   (B1 (psF K (pv 0) (zBb (N':=["name"]) (cap:=[none]) (cl:=[]) (J6 trivial trivial) rfl (piL K (peF K (pv 0))) (fun _ _ _ _=>by exact⟨(pgC 0),F9,(pv 0),(E9 B0)⟩)))
   (B1 (psF K (pv 0) (zBb (N':=["name"]) (cap:=[none]) (cl:=[]) (J6 trivial trivial) rfl (piL K (peF K (pv 0))) (fun _ _ _ _=>by exact⟨(pgC 0),F9,(pv 0),(E9 B0)⟩)))
   (B4 (P4 PassesOwn.never rfl (piL K (peF K (pv 0))) (pgT K (n:=2) (C2 (D6 (i:=3) sc.nd rfl (.inl rfl)) (C2 (D6 (i:=4) sc.nd rfl (.inl rfl)) J2)))
   (B1 (G0 (Nz K PySem.F.plainAttrs_list PySem.F.slot_list_append PySem.F.type_list_append M0 (j8 hu (peF K (pv 0)) (pv 4) (fun _ _=>rfl)) (A8 (pv 3) B0)))
   (B4 (G0 (Nz K PySem.F.plainAttrs_list PySem.F.slot_list_append PySem.F.type_list_append M0 (j8 hu (peF K (pv 0)) (pv 3) (fun _ _=>rfl)) (A8 (pv 4) B0))))))))))))),?_⟩
  obtain⟨hN1,hN2,hN3⟩:=id hN;obtain⟨hO1,hO2,hO3⟩:=id hO;refine B7 fun Z1 hZ1=>?_;refine ex1 rfl ⟨n,ss,rfl,SqL.of hS,hN,fun H1 s1=>?_⟩;refine hZ1 _ _ (B7 fun Z2 hZ2=>?_);refine ex1 rfl (ex1 rfl ⟨n,ss,a,ps,rfl,SqL.of (s1 _ _ hS),SqL.of (s1 _ _ hP),E4 s1 hI,hO,fun H2 s2=>?_⟩);refine hZ2 _ _ (B7 fun Z3 hZ3=>?_);have s12:=s1.trans s2;refine ex1 rfl ⟨n,ss,rfl,SqL.of (s12 _ _ hS),fun l1 ns hl1 p1 w1=>?_⟩;have nx1:x≠l1:=B2 (s12 _ _ hx) hl1;refine ex1 rfl ⟨x,T.ac,dx,[],rfl,by rw[B6 nx1];exact s12 _ _ hx,T.ai,T.aF,by decide,?_⟩;have hxa:a≠x:=P8 hP hx (by intro z;cases z);have k3:Sm [x] H (upd (upd H2 l1 (.lst (ns.map V.str))) x (.ins T.ac dx (M8 "names" (.ref l1) []))):=(Sm.new s12.sm hl1).upd (by simp);have e3:(upd (upd H2 l1 (.lst (ns.map V.str))) x (.ins T.ac dx (M8 "names" (.ref l1) []))) l1=some (.lst (ns.map V.str)):=by rw[B6 nx1.symm,A9]
  generalize hH3:upd (upd H2 l1 (.lst (ns.map V.str))) x (.ins T.ac dx (M8 "names" (.ref l1) []))=H3 at k3 e3⊢;refine hZ3 _ _ (B7 fun Z4 hZ4=>?_);have x3:H3 x=some (.ins T.ac dx [("names",.ref l1)]):=by rw[<-hH3,A9];rfl
  have nin:∀{b:Addr},b≠x->b∉[x]:=fun h z=>h (AC.mp z);have pin3:∀q∈ps,F4 H3 q:=fun q hq=>k3 _ _ (hI q hq) (nin (P8 (hI q hq) hx (by intro z;cases z)));refine ex1 rfl ⟨a,ps,rfl,SqL.of (k3 _ _ hP (nin hxa)),pin3,fun l2 qs hl2 p2 w2=>?_⟩;have nx2:x≠l2:=B2 x3 hl2;refine ex1 rfl ⟨x,T.ac,dx,[("names",.ref l1)],rfl,by rw[B6 nx2];exact x3,T.ai,T.a3,by simp,?_⟩;have k4:Sm [x] H3 (upd (upd H3 l2 (.lst (I9 qs))) x (.ins T.ac dx (M8 "strikes" (.ref l2) [("names",.ref l1)]))):=(Sm.new (Sm.refl _ _) hl2).upd (by simp);have e4:(upd (upd H3 l2 (.lst (I9 qs))) x (.ins T.ac dx (M8 "strikes" (.ref l2) [("names",.ref l1)]))) l2=some (.lst (I9 qs)):=by rw[B6 nx2.symm,A9]
  have x4:(upd (upd H3 l2 (.lst (I9 qs))) x (.ins T.ac dx (M8 "strikes" (.ref l2) [("names",.ref l1)]))) x=some (.ins T.ac dx [("names",.ref l1),("strikes",.ref l2)]):=by rw[A9];rfl
  refine hZ4 _ _ ?_;show zAs _ _ _ _ (upd (upd H3 l2 (.lst (I9 qs))) x (.ins T.ac dx (M8 "strikes" (.ref l2) [("names",.ref l1)])));generalize upd (upd H3 l2 (.lst (I9 qs))) x (.ins T.ac dx (M8 "strikes" (.ref l2) [("names",.ref l1)]))=H4 at k4 e4 x4⊢;have f4:H4 l1=some (.lst (ns.map V.str)):=k4 _ _ e3 (nin nx1.symm);have pin4:∀q∈qs,F4 H4 q:=fun q hq=>k4 _ _ (pin3 q (p2.mem_iff.mp hq)) (nin (P8 (pin3 q (p2.mem_iff.mp hq)) x3 (by intro z;cases z)));have ndn:ns.Nodup:=p1.nodup_iff.mpr hN2;have lnn:ns.length<=1000:=by rw[p1.length_eq];omega
  refine B7 fun Z5 hZ5=>?_;refine ex1 rfl ⟨x,T.ac,dx,_,ex1 rfl ⟨x4,T.ai,T.aF,rfl,l1,rfl,⟨_,SqL.of f4⟩,fun c hc=>Vr (K:=K) (asL (SqL.of f4)) ⟨_,rfl⟩ ndn lnn hc fun _ kc H5 s5 e5 D5 c5 n5=>?_⟩⟩;have x5:=s5 _ _ x4;refine ex1 rfl ⟨x,T.ac,dx,ex1 rfl ⟨x5,T.ai,T.ay,by simp,?_⟩⟩;have k6:Sm [x] H5 (upd H5 x (.ins T.ac dx (M8 "strikers_by_name" (.ref c) [("names",.ref l1),("strikes",.ref l2)]))):=(Sm.refl _ _).upd (by simp);have x6:(upd H5 x (.ins T.ac dx (M8 "strikers_by_name" (.ref c) [("names",.ref l1),("strikes",.ref l2)]))) x=some (.ins T.ac dx [("names",.ref l1),("strikes",.ref l2),("strikers_by_name",.ref c)]):=by rw[A9];rfl
  generalize upd H5 x (.ins T.ac dx (M8 "strikers_by_name" (.ref c) [("names",.ref l1),("strikes",.ref l2)]))=H6 at k6 x6⊢;refine hZ5 _ _ (B7 fun Z6 hZ6=>?_);have kk6:∀{b:Addr} {o:HO},H4 b=some o->b≠x->H6 b=some o:=fun e hb=>k6 _ _ (s5 _ _ e) (nin hb);have f6:=kk6 f4 nx1.symm;have g6:=kk6 e4 nx2.symm;have c6:H6 c=some (.dK kc):=k6 _ _ e5 (nin (B2 x4 hc).symm);have cl6:∀n∈ns,H6 (la kc n)=some (.lst []):=fun n hn=>k6 _ _ (c5 n hn) (nin (B2 x4 (D5.fr n hn)).symm);refine ex1 rfl ⟨x,T.ac,dx,_,ex1 rfl ⟨x6,T.ai,T.aF,rfl,l1,rfl,⟨_,SqL.of f6⟩,fun d hd=>Vr (K:=K) (asL (SqL.of f6)) ⟨_,rfl⟩ ndn lnn hd fun _ kd H7 s7 e7 D7 c7 n7=>?_⟩⟩;have x7:=s7 _ _ x6;refine ex1 rfl ⟨x,T.ac,dx,ex1 rfl ⟨x7,T.ai,T.aA,by simp,?_⟩⟩;have k8:Sm [x] H7 (upd H7 x (.ins T.ac dx (M8 "struck_by_name" (.ref d) [("names",.ref l1),("strikes",.ref l2),("strikers_by_name",.ref c)]))):=(Sm.refl _ _).upd (by simp);have x8:(upd H7 x (.ins T.ac dx (M8 "struck_by_name" (.ref d) [("names",.ref l1),("strikes",.ref l2),("strikers_by_name",.ref c)]))) x=some (.ins T.ac dx (wf l1 l2 c d)):=by rw[A9];rfl
  generalize upd H7 x (.ins T.ac dx (M8 "struck_by_name" (.ref d) [("names",.ref l1),("strikes",.ref l2),("strikers_by_name",.ref c)]))=H8 at k8 x8⊢;refine hZ6 _ _ ?_;have kk8:∀{b:Addr} {o:HO},H6 b=some o->b≠x->H8 b=some o:=fun e hb=>k8 _ _ (s7 _ _ e) (nin hb);have f8:=kk8 f6 nx1.symm;have g8:=kk8 g6 nx2.symm;have c8:=kk8 c6 (B2 x4 hc).symm;have d8:H8 d=some (.dK kd):=k8 _ _ e7 (nin (B2 x6 hd).symm);have cl8:∀n∈ns,H8 (la kc n)=some (.lst []):=fun n hn=>kk8 (cl6 n hn) (B2 x4 (D5.fr n hn)).symm;have dl8:∀n∈ns,H8 (la kd n)=some (.lst []):=fun n hn=>k8 _ _ (c7 n hn) (nin (B2 x6 (D7.fr n hn)).symm);have pin8:∀q∈qs,F4 H8 q:=fun q hq=>kk8 (kk6 (pin4 q hq) (P8 (pin4 q hq) x4 (by intro z;cases z))) (P8 (pin4 q hq) x4 (by intro z;cases z));have dif:∀n∈ns,∀m∈ns,la kc n≠la kd m:=fun n hn m hm=>B2 (cl6 n hn) (D7.fr m hm);have old4:∀{b:Addr} {o:HO},H4 b=some o->b≠x->(∀n∈ns,b≠la kc n)/\∀n∈ns,b≠la kd n:=fun e hb=>⟨fun n hn=>B2 e (D5.fr n hn),fun n hn=>B2 (kk6 e hb) (D7.fr n hn)⟩;have kall:Sm [x] H H8:=fun b o e hb=>by
   have hb':b≠x:=fun z=>hb (by simp[z]);exact kk8 (kk6 (k4 _ _ (k3 _ _ e hb) hb) hb') hb'
  have odif:∀{b:Addr} {o:HO},H b=some o->b≠x->(∀n∈ns,b≠la kc n)/\∀n∈ns,b≠la kd n:=fun e hb=>old4 (k4 _ _ (k3 _ _ e (nin hb)) (nin hb)) hb;have xdif:(∀n∈ns,x≠la kc n)/\∀n∈ns,x≠la kd n:=⟨fun n hn=>B2 x4 (D5.fr n hn),fun n hn=>B2 x6 (D7.fr n hn)⟩;have cdif:(∀n∈ns,c≠la kc n)/\∀n∈ns,c≠la kd n:=⟨fun n hn=>(n5 n hn).symm,fun n hn=>B2 c6 (D7.fr n hn)⟩;have ddif:(∀n∈ns,d≠la kc n)/\∀n∈ns,d≠la kd n:=⟨fun n hn=>(B2 (cl6 n hn) hd).symm,fun n hn=>(n7 n hn).symm⟩;refine⟨_,rfl,x,T.ac,dx,_,_,rfl,x8,T.ai,T.a3,rfl,l2,rfl,⟨_,SqL.of g8⟩,Y3 (asL (SqL.of g8)) (fun i σ H9=>(∃v3 v4,σ = [some (.ref x),some (.ref n),some (.ref a),v3,v4]) /\
   (∀b o,H8 b=some o->((∀n∈ns,b≠la kc n)/\∀n∈ns,b≠la kd n)->H9 b=some o)/\(∀n∈ns,H9 (la kc n)=some (.lst ((C9 (qs.take i) n).map V.str)))/\∀n∈ns,H9 (la kd n)=some (.lst ((E3 (qs.take i) n).map V.str)))
   ⟨⟨_,_,rfl⟩,fun b o e _=>e,cl8,dl8⟩ ?_ ?_ ?_⟩
  .rintro i σ H9 _ ⟨_,h1,_⟩ o e;exact h1 _ _ e (old4 e4 nx2.symm)
  .rintro i σ H9 v hv ⟨⟨v3,v4,rfl⟩,h1,h2,h3⟩ D1 hD1 _;unfold I9 at hv;rw[AF]at hv;cases hq:qs[i]? with
   | none=>rw[hq]at hv;cases hv
   | some q =>
    rw[hq]at hv;cases hv;have hm:q∈qs:=AK hq;have hq9:F4 H9 q:=h1 _ _ (pin8 q hm) (old4 (pin4 q hm) (P8 (pin4 q hm) x4 (by intro z;cases z)));obtain⟨m1,m2⟩:=hO1 q (p2.mem_iff.mp hm);have m1:q.2.1∈ns:=p1.mem_iff.mpr m1;have m2:q.2.2∈ns:=p1.mem_iff.mpr m2;have hlen:∀l:List PA2,l.length<=300->∀n,(C9 l n).length<=300/\(E3 l n).length<=300:=fun l hl n=>by
     unfold C9 E3;rw[AA,AA];exact⟨Nat.le_trans (DL ..) hl,Nat.le_trans (DL ..) hl⟩
    have hl300:(qs.take i).length<=300:=by
     rw[AR];have:=p2.length_eq;omega
    have x9:H9 x=some (.ins T.ac dx (wf l1 l2 c d)):=h1 _ _ x8 xdif;refine⟨q.1,ex1 rfl ⟨SqT.of hq9,rfl,_,ex1 rfl (B9 rfl rfl ?_)⟩⟩;refine ex1 rfl ⟨x,T.ac,dx,_,ex1 rfl ⟨x9,T.ai,T.ay,rfl,ex1 rfl ⟨c,.ref (la kc q.2.2),rfl,by rw[<-D5.val _ m2];exact DGet.k (k:=Sum.inr q.2.2) (h1 _ _ c8 cdif),.inl ⟨rfl,_,SqL.of (h2 _ m2)⟩,ex1 rfl ⟨_,B9 rfl rfl ⟨h2 _ m2,?_,?_⟩⟩⟩⟩⟩
    .rw[AA,sizeLine_eq];have:=(hlen _ hl300 q.2.2).1;omega
    have x10:(upd H9 (la kc q.2.2) (.lst ((C9 (qs.take i) q.2.2).map V.str ++ [.str q.2.1]))) x=some (.ins T.ac dx (wf l1 l2 c d)):=by rw[B6 (xdif.1 _ m2)];exact x9
    have d10:(upd H9 (la kc q.2.2) (.lst ((C9 (qs.take i) q.2.2).map V.str ++ [.str q.2.1]))) d=some (.dK kd):=by rw[B6 (ddif.1 _ m2)];exact h1 _ _ d8 ddif
    have l10:(upd H9 (la kc q.2.2) (.lst ((C9 (qs.take i) q.2.2).map V.str ++ [.str q.2.1]))) (la kd q.2.1)=some (.lst ((E3 (qs.take i) q.2.1).map V.str)):=by rw[B6 (dif _ m2 _ m1).symm];exact h3 _ m1
    refine ex1 rfl ⟨x,T.ac,dx,_,ex1 rfl ⟨x10,T.ai,T.aA,rfl,ex1 rfl ⟨d,.ref (la kd q.2.1),rfl,by rw[<-D7.val _ m1];exact DGet.k (k:=Sum.inr q.2.1) d10,.inl ⟨rfl,_,SqL.of l10⟩,ex1 rfl ⟨_,B9 rfl rfl ⟨l10,?_,?_⟩⟩⟩⟩⟩
    .rw[AA,sizeLine_eq];have:=(hlen _ hl300 q.2.1).2;omega
    refine hD1 _ _ ⟨⟨_,_,rfl⟩,fun b o e hb=>?_,fun m hm=>?_,fun m hm=>?_⟩
    .rw[B6 (hb.2 _ m1),B6 (hb.1 _ m2)];exact h1 b o e hb
    .rw[B6 (dif m hm _ m1),C8 hq,Ag];by_cases e:q.2.2=m
     .rw[<-e,A9,AY rfl,AL];rfl
     .rw[AS e,CL,B6 (fun z=>e (D5.inj _ hm _ m2 z).symm)];exact h2 m hm
    .rw[C8 hq,Du];by_cases e:q.2.1=m
     .rw[<-e,A9,AY rfl,AL];rfl
     .rw[AS e,CL,B6 (fun z=>e (D7.inj _ hm _ m1 z).symm),B6 (dif _ m2 _ hm).symm];exact h3 m hm
  .rintro σ H9 ⟨_,h1,h2,h3⟩;have hlq:(I9 qs).length=qs.length:=by unfold I9;rw[AA]
   rw[hlq,BR]at h2 h3;refine k ns qs H9 p1 w1 p2 w2 (fun b o e hb=>?_) ⟨⟨ndn,by rw[p1.length_eq];exact hN3,w1,fun q hq=>⟨p1.mem_iff.mpr (hO1 q (p2.mem_iff.mp hq)).1,p1.mem_iff.mpr (hO1 q (p2.mem_iff.mp hq)).2⟩,(p2.map _).nodup_iff.mpr hO2,by rw[p2.length_eq];exact hO3,w2⟩,dx,l1,l2,c,d,kc,kd,h1 _ _ x8 xdif,h1 _ _ f8 (old4 f4 nx1.symm),h1 _ _ g8 (old4 e4 nx2.symm),fun q hm=>h1 _ _ (pin8 q hm) (old4 (pin4 q hm) (P8 (pin4 q hm) x4 (by intro z;cases z))),h1 _ _ c8 cdif,h1 _ _ d8 ddif,fun n hn=>⟨_,D5.val n hn,h2 n hn⟩,fun n hn=>⟨_,D7.val n hn,h3 n hn⟩⟩;have hb':b≠x:=fun z=>hb (by simp[z]);exact h1 _ _ (kall b o e hb) (odif e hb')
end
theorem WebAt.same{C:Addr}{H H':Hp}{x:Addr}{ns:List Str}{qs:List PA2}(h:WebAt C H x ns qs)(s:Same H H'):WebAt C H' x ns qs:=by
 obtain⟨ok,dx,a,b,c,d,kc,kd,e1,e2,e3,e4,e5,e6,e7,e8⟩:=h;exact⟨ok,dx,a,b,c,d,kc,kd,s _ _ e1,s _ _ e2,s _ _ e3,E4 s e4,s _ _ e5,s _ _ e6,fun n hn=>let⟨l,v,e⟩:=e7 n hn;⟨l,v,s _ _ e⟩,fun n hn=>let⟨l,v,e⟩:=e8 n hn;⟨l,v,s _ _ e⟩⟩
section
variable{P:Program}{w:World}{K:PySem.W.Frag}{mg:Str->Option Value}{base:Heap}
theorem w5:FnScope ["self"] ["self"] (B5 s_Web_all_names):=fsc
def Hb(C:Addr):Sp:=fun vs H Q _=>∃(x:Addr) (ns:List Str) (qs:List PA2),vs = [.ref x]/\WebAt C H x ns qs/\∀l,H l=none->Q (.ref l) (upd H l (.lst (ns.map V.str)))
theorem y7(T:Tx K mg):FnOk P w K mg base CX0 1 T.av.f T.av.fd ["self"] (Hb T.ac):=by
 refine T.av.F.ok w5 (fun vs H Q E h=>?_) (fun cdv A outer s H vs Q E hr h=>?_)
 .obtain⟨x,ns,qs,rfl,_⟩:=h;rfl
 .obtain⟨x,ns,qs,rfl,⟨ok,dx,a,b,c,d,kc,kd,e1,e2,e3,e4,e5,e6,e7,e8⟩,k⟩:=h;refine⟨_,(B4 (C0 (U1 (R1 K) T.ap K5 (A8 (peF K (pv 0)) B0)))),?_⟩;exact⟨_,rfl,x,T.ac,dx,_,_,rfl,e1,T.ai,T.aF,rfl,a,_,rfl,.inl (SqL.of e2),k⟩
theorem a7:FnScope ["self"] ["self"] (B5 s_Web_all_strikes):=fsc
def Bx(C:Addr):Sp:=fun vs H Q _=>∃(x:Addr) (ns:List Str) (qs:List PA2),vs = [.ref x]/\WebAt C H x ns qs/\∀l,H l=none->Q (.ref l) (upd H l (.lst (I9 qs)))
theorem g9(T:Tx K mg):FnOk P w K mg base CX0 1 T.ao.f T.ao.fd ["self"] (Bx T.ac):=by
 refine T.ao.F.ok a7 (fun vs H Q E h=>?_) (fun cdv A outer s H vs Q E hr h=>?_)
 .obtain⟨x,ns,qs,rfl,_⟩:=h;rfl
 .obtain⟨x,ns,qs,rfl,⟨ok,dx,a,b,c,d,kc,kd,e1,e2,e3,e4,e5,e6,e7,e8⟩,k⟩:=h;refine⟨_,(B4 (C0 (U1 (R1 K) T.ap K5 (A8 (peF K (pv 0)) B0)))),?_⟩;exact⟨_,rfl,x,T.ac,dx,_,_,rfl,e1,T.ai,T.a3,rfl,b,_,rfl,.inl (SqL.of e3),k⟩
theorem w9:FnScope ["self", "name"] ["self", "name"] (B5 s_Web_check_has):=fsc
def Gw(C:Addr):Sp:=fun vs H Q _=>∃(x:Addr) (n:Str) (ns:List Str) (qs:List PA2),vs = [.ref x,.str n]/\WebAt C H x ns qs/\n∈ns/\Q .non H
theorem S3(T:Tx K mg):FnOk P w K mg base CX0 1 T.aj.f T.aj.fd ["self", "name"] (Gw T.ac):=by
 refine T.aj.F.ok w9 (fun vs H Q E h=>?_) (fun cdv A outer s H vs Q E hr h=>?_)
 .obtain⟨x,n,ns,qs,rfl,_⟩:=h;rfl
 .obtain⟨x,n,ns,qs,rfl,⟨ok,dx,a,b,c,d,kc,kd,e1,e2,e3,e4,e5,e6,e7,e8⟩,hn,k⟩:=h;refine⟨_,(B4 (I0 (C3 (y9 K) (pv 1) (peF K (pv 0)) rfl) (B4 X3) D0)),?_⟩;refine ex1 rfl (ex1 rfl ⟨x,T.ac,dx,_,ex1 rfl ⟨e1,T.ai,T.aF,rfl,V7 (.inl (SqL.of e2)) ⟨_,rfl,?_⟩⟩⟩);rw[AG hn];exact X4 k
theorem Es:FnScope ["self", "name"] ["self", "name"] (B5 s_Web_struck):=fsc
def Qn(C:Addr):Sp:=fun vs H Q _=>∃(x:Addr) (n:Str) (ns:List Str) (qs:List PA2),vs = [.ref x,.str n]/\WebAt C H x ns qs/\n∈ns/\∀l,H l=none->Q (.ref l) (upd H l (.lst ((E3 qs n).map V.str)))
theorem i0(T:Tx K mg):FnOk P w K mg base CX0 2 T.ar.f T.ar.fd ["self", "name"] (Qn T.ac):=by
 have G_Web_check_has:=S3 (P:=P) (w:=w) (base:=base) T;refine T.ar.F.ok Es (fun vs H Q E h=>?_) (fun cdv A outer s H vs Q E hr h=>?_)
 .obtain⟨x,n,ns,qs,rfl,_⟩:=h;rfl
 .obtain⟨x,n,ns,qs,rfl,hW,hn,k⟩:=h;have hu:=w8 hr;obtain⟨ok,dx,a,b,c,d,kc,kd,e1,e2,e3,e4,e5,e6,e7,e8⟩:=id hW;refine⟨_,(B1 (G0 (Bv (pv 0) T.ai T.aj.m G_Web_check_has (Rm hr) T.aj.b .nil Bi (A8 (pv 1) B0)))
   (B4 (C0 (U1 (R1 K) T.ap K5 (A8 (j8 hu (peF K (pv 0)) (pv 1) (fun _ _=>rfl)) B0))))),?_⟩
  refine ex1 rfl ⟨x,dx,ex1 rfl ⟨e1,rfl,ex1 rfl ⟨x,n,ns,qs,rfl,hW,hn,?_⟩⟩⟩;obtain⟨l,v,e⟩:=e8 n hn;exact⟨_,rfl,x,T.ac,dx,_,_,rfl,e1,T.ai,T.aA,rfl,_,rfl,d,_,rfl,by rw[<-v];exact DGet.k (k:=Sum.inr n) e6,l,_,rfl,.inl (SqL.of e),k⟩
theorem Az:FnScope ["self", "name"] ["self", "name"] (B5 s_Web_strikers):=fsc
def Jh(C:Addr):Sp:=fun vs H Q _=>∃(x:Addr) (n:Str) (ns:List Str) (qs:List PA2),vs = [.ref x,.str n]/\WebAt C H x ns qs/\n∈ns/\∀l,H l=none->Q (.ref l) (upd H l (.lst ((C9 qs n).map V.str)))
theorem Ay(T:Tx K mg):FnOk P w K mg base CX0 2 T.aw.f T.aw.fd ["self", "name"] (Jh T.ac):=by
 have G_Web_check_has:=S3 (P:=P) (w:=w) (base:=base) T;refine T.aw.F.ok Az (fun vs H Q E h=>?_) (fun cdv A outer s H vs Q E hr h=>?_)
 .obtain⟨x,n,ns,qs,rfl,_⟩:=h;rfl
 .obtain⟨x,n,ns,qs,rfl,hW,hn,k⟩:=h;have hu:=w8 hr;obtain⟨ok,dx,a,b,c,d,kc,kd,e1,e2,e3,e4,e5,e6,e7,e8⟩:=id hW;refine⟨_,(B1 (G0 (Bv (pv 0) T.ai T.aj.m G_Web_check_has (Rm hr) T.aj.b .nil Bi (A8 (pv 1) B0)))
   (B4 (C0 (U1 (R1 K) T.ap K5 (A8 (j8 hu (peF K (pv 0)) (pv 1) (fun _ _=>rfl)) B0))))),?_⟩
  refine ex1 rfl ⟨x,dx,ex1 rfl ⟨e1,rfl,ex1 rfl ⟨x,n,ns,qs,rfl,hW,hn,?_⟩⟩⟩;obtain⟨l,v,e⟩:=e7 n hn;exact⟨_,rfl,x,T.ac,dx,_,_,rfl,e1,T.ai,T.ay,rfl,_,rfl,c,_,rfl,by rw[<-v];exact DGet.k (k:=Sum.inr n) e5,l,_,rfl,.inl (SqL.of e),k⟩
end
theorem Fs{α:Type}{J:It}{ys:List α}{r:α->V}(f:α->V){a D:Addr}{H:Hp}(as:AsSeq J (ys.map r) a H){tc:TT}{te:TE}{c:St}{v0:Option V}{Q:St->Hp->Prop}(p:α->Bool)(len:ys.length<=5000)(hD:H D=none)
  (ht:∀y∈ys,∀G,Same H G->∀M:Bool->Hp->Prop,(∀G',Same G G'->M (p y) G')->tc (some (r y)::c) G M) (he:∀y∈ys,∀G,Same H G->∀M:VK,(∀G',Same G G'->M (f y) G')->te (some (r y)::c) G M)
  (q:∀σ G,Same H G->G D=some (.lst ((ys.filter p).map f))->Q σ G):Ej (S7 0) tc (w4 D te) J (v0::c) (upd H D (.lst [])) Q:=by
 refine K7 as (fun i σ G=>(∃v,σ=v::c)/\Same H G/\G D=some (.lst (((ys.take i).filter p).map f))) ⟨⟨_,rfl⟩,Same.new hD,A9⟩ (fun i σ G _ h=>h.2.1.at a) ?_ ?_
 .rintro i σ G v N hx ⟨⟨v0,rfl⟩,sG,eG⟩ hN;rw[AF]at hx;obtain⟨y,hy,rfl⟩:=AV.mp hx;have my:=AK hy;refine ht y my G sG _ fun G' s'=>?_;have eG:=s' _ _ eG;have sG:=sG.trans s';have hs:(ys.take (i+1)).filter p =(ys.take i).filter p++if p y=true then [y]else []:=by
   rw[C8 hy,EY,EE,List.filter_nil]
  have hl:=DL p (ys.take i);rw[AR]at hl;refine Z7 (fun c=>he y my G' sG _ fun G2 s2=>⟨_,s2 _ _ eG,by rw[AA,sizeLine_eq];omega,hN _ _ ⟨⟨_,rfl⟩,(sG.trans s2).upd hD,?_⟩⟩) (fun c=>hN _ _ ⟨⟨_,rfl⟩,sG,?_⟩)
  .rw[A9,hs,AY c,AL];rfl
  .rw[hs,AS c,CL];exact eG
 .rintro σ G ⟨_,sG,eG⟩;rw[AA,BR]at eG;exact q σ G sG eG
theorem Uv{α:Type}{J:It}{ys:List α}{r:α->V}(f:α->V){a D:Addr}{H:Hp}(as:AsSeq J (ys.map r) a H){tc:TT}{te:TE}{c:St}{v0:Option V}{Q:St->Hp->Prop}(p:α->Bool)(len:ys.length<=5000)(hD:H D=none)
  (ht:∀y∈ys,∀G,Same H G->∀M:Bool->Hp->Prop,(∀G',Same G G'->M (p y) G')->tc (some (r y)::c) G M) (he:∀y∈ys,∀G,Same H G->∀M:VK,M (f y) G->te (some (r y)::c) G M)
  (q:∀σ G,Same H G->G D=some (.lst ((ys.filter p).map f))->Q σ G):Ej (S7 0) tc (w4 D te) J (v0::c) (upd H D (.lst [])) Q :=
 Fs f as p len hD ht (fun y hy G s M hM=>he y hy G s M (hM G fun b o e=>e)) q
theorem Vi{K:PySem.W.Frag}{x:Str}{H:Hp}{Q:VK}(o:PySem.PyData.strOk x=true)(q:Q (.bl true) H):zCl K (.str x) (.str x) H Q:=by
 have e:Rp K H (.str x) (.str x):=by simp only[Rp]
 have p:Pl (.str x):=⟨by rw[PyData.canLay0];exact o,by rw[PyData.depth];decide⟩;exact⟨_,_,e,e,p,p,by rw[PySem.SeqAt.eqv_refl _ p.1];exact q⟩
def tyB(b:Bool):Value:=.type (bif b then "list" else "tuple")
theorem Zl{K:PySem.W.Frag}:∀b,PySem.W.kitOne K (tyB b) (.type "list")=some b
 | true=>rfl
 | false=>rfl
theorem zCe{K:PySem.W.Frag}:∀b,PySem.W.kitOne K (tyB b) (.type "tuple")=some !b
 | true=>rfl
 | false=>rfl
theorem zAq{K:PySem.W.Frag}:∀b,PySem.W.kitAny K (tyB b) (["list", "tuple"].map Value.type)=some true
 | true=>rfl
 | false=>rfl
theorem zCk(b:Bool):(!decide (V.bl b=V.bl b))=false:=congrArg _ (AG rfl)
def LT(b:Bool)(xs:List V):HO:=bif b then .lst xs else .tup xs
theorem Mi{K:PySem.W.Frag}{H:Hp}{l:Addr}{xs:List V}:∀{b:Bool},H l=some (LT b xs)->TyOf K H (.ref l) (tyB b)
 | true,h=>.lst h
 | false,h=>.tup h
theorem Yy{H:Hp}{l:Addr}{xs:List V}:∀{b:Bool},H l=some (LT b xs)->H l=some (.lst xs)\/H l=some (.tup xs)
 | true,h=>.inl h
 | false,h=>.inr h
def sqB(K:PySem.W.Frag)(b:Bool):Hp->Addr->List V->Prop:=bif b then SqL K else SqT K
theorem Nd{K:PySem.W.Frag}{H:Hp}{l:Addr}{xs:List V}:∀{b:Bool},H l=some (LT b xs)->sqB K b H l xs
 | true,h=>SqL.of h
 | false,h=>SqT.of h
theorem Vz{K:PySem.W.Frag}{H:Hp}{l:Addr}{xs:List V}{b:Bool}(h:H l=some (LT b xs)):Sqs K H l xs:=(Yy h).imp SqL.of SqT.of
theorem zAk{K:PySem.W.Frag}{H:Hp}{l m:Addr}{xs ys:List V}{R:It->Hp->Prop}:∀{b:Bool},H l=some (LT b xs)->H m=some (LT b ys)->R (Zg (sqB K b) l m) H->zEb K R l m xs ys H
 | true,h,h',q=>.inl ⟨SqL.of h,SqL.of h',q⟩
 | false,h,h',q=>.inr ⟨SqT.of h,SqT.of h',q⟩
def zDg(K:PySem.W.Frag):List V->Hp->VK->Prop:=fun xs H Q=>Xb K xs H Q\/∃(x:V) (p:Addr) (ns:List String) (b:Bool) (T:String),xs = [x,.ref p]/\H p=some (.tup (ns.map V.ty))/\((x = .non/\T = "NoneType")\/∃i,x = .int i/\T = "int")/\PySem.W.kitAny K (.type T) (ns.map Value.type)=some b/\Q (.bl b) H
theorem Ub{X:Cx}(K:PySem.W.Frag)(hK:X.K=K:=by rfl):G8 X (.builtin "isinstance") (zDg K):=by
 subst hK;intro pins s σ H xs us Q I r h;rcases h with h | ⟨x,p,ns,b,T,rfl,hp,ht,he,q⟩
 .exact Lc X.K rfl pins s σ H xs us Q I r h
 obtain⟨u,v,rfl,ru,rv⟩:=r.two;cases rv;obtain⟨its,rv,⟨⟨oc,od,odt,osl⟩,ho,hc,n,hd⟩,hz⟩:=I.tuple (SqT.of hp);rw[Im rv]at hd;cases hc;cases hd;rcases ht with⟨rfl,rfl⟩ | ⟨i,rfl,rfl⟩
 .cases ru;exact PySem.W.kia_tup PySem.W.kitx_none I.kIn True.intro ho he (fun z=>nomatch z) fun tk=>⟨.bl b,H,I.tok _,rfl,q⟩
 .obtain⟨t,rfl⟩:=(show ∃t,u=Value.int i t from ru);exact PySem.W.kia_tup PySem.W.kitx_int I.kIn True.intro ho he (fun z=>nomatch z) fun tk=>⟨.bl b,H,I.tok _,rfl,q⟩
abbrev RW:Type:=Addr×Str×List V
def Ql(H:Hp)(q:RW):Prop:=H q.1=some (.tup (.str q.2.1::q.2.2))
structure RowsAt(H:Hp)(l:Addr)(rs:List RW):Prop where
 at_:H l=some (.lst (rs.map fun q=>V.ref q.1))
 row:∀q∈rs,Ql H q
theorem RowsAt.same{H H':Hp}{l:Addr}{rs:List RW}(h:RowsAt H l rs)(s:Same H H'):RowsAt H' l rs:=⟨s _ _ h.at_,fun q hq=>s _ _ (h.row q hq)⟩
def u8(rs:List RW):List Str:=rs.map fun q=>q.2.1
section
variable{P:Program}{w:World}{K:PySem.W.Frag}{mg:Str->Option Value}{base:Heap}
theorem q9:FnScope ["thing"] ["thing"] (B5 s_is_number):=fsc
def Pp:Sp:=fun vs H Q _=>∃i:Int,vs = [.int i]/\Q (.bl true) H
theorem Gh(T:Tx K mg):FnOk P w K mg base CX0 1 T.aX.f T.aX.fd ["thing"] Pp:=by
 have sc:=q9;refine T.aX.F.ok q9 (fun vs H Q E h=>?_) (fun cdv A outer s H vs Q E hr h=>?_)
 .obtain⟨i,rfl,_⟩:=h;rfl
 .obtain⟨i,rfl,q⟩:=h;refine⟨_,(B4 (C0 (J8 (E2 (J1 K) T.ab C1 (A8 (pv 0) (A8 (R0 T.bn Kj) B0))) (O3 (Wb (E2 (J1 K) T.ab C1 (A8 (pv 0) (A8 (R0 T.bk Dw) B0)))))))),?_⟩;refine ex1 rfl ⟨.int i, "int",_,true,rfl,.int i,rfl,ex1 rfl (y8 ?_)⟩;exact ex1 rfl ⟨.int i, "bool",_,false,rfl,.int i,rfl,ex1 rfl q⟩
theorem r8:FnScope ["thing"] ["thing"] (B5 s_is_listed):=fsc
def Pi:Sp:=fun vs H Q _=>∃(a:Addr) (b:Bool) (xs:List V),vs = [.ref a]/\H a=some (LT b xs)/\∀H',Same H H'->Q (.bl true) H'
theorem t8(T:Tx K mg):FnOk P w K mg base CX0 1 T.aO.f T.aO.fd ["thing"] Pi:=by
 have sc:=r8;refine T.aO.F.ok r8 (fun vs H Q E h=>?_) (fun cdv A outer s H vs Q E hr h=>?_)
 .obtain⟨a,b,xs,rfl,_⟩:=h;rfl
 .obtain⟨a,b,xs,rfl,hS,q⟩:=h;refine⟨_,(B4 (C0 (E2 (Ub K) T.ab C1 (A8 (pv 0) (A8 (U8 (A8 (R0 T.ap K5) (A8 (R0 T.aR V4) B0))) B0))))),?_⟩;refine ex1 rfl ⟨by show 2<=sizeLine;decide,fun t ht=>?_⟩;have s1:=Same.new (o:=.tup [.ty "list",.ty "tuple"]) ht;have m1:=s1 _ _ hS;exact .inl ⟨.ref a,t,["list", "tuple"],_,true,rfl,A9,Mi m1,.inr ⟨a,_,rfl,Yy m1⟩,zAq b,q _ s1⟩
theorem t3:FnScope ["thing", "many"] ["thing", "many"] (B5 s_is_row_of):=fsc
def Si:Sp:=fun vs H Q _=>∃(p:Addr) (xs:List V) (n:Int),vs = [.ref p,.int n]/\H p=some (.tup xs)/\(xs.length:Int)=n/\Q (.bl true) H
theorem Q0(T:Tx K mg):FnOk P w K mg base CX0 1 T.ax.f T.ax.fd ["thing", "many"] Si:=by
 have sc:=t3;refine T.ax.F.ok t3 (fun vs H Q E h=>?_) (fun cdv A outer s H vs Q E hr h=>?_)
 .obtain⟨p,xs,n,rfl,_⟩:=h;rfl
 .obtain⟨p,xs,n,rfl,hp,hn,q⟩:=h;refine⟨_,(B4 (C0 (J8 (E2 (J1 K) T.ab C1 (A8 (pv 0) (A8 (R0 T.aR V4) B0))) (O3 (E8 Z8 (E2 (O8 K) T.am K9 (A8 (pv 0) B0)) (pv 1) (D8 _)))))),?_⟩;refine ex1 rfl ⟨.ref p, "tuple",_,true,rfl,.tup hp,rfl,ex1 rfl (y8 ?_)⟩;refine ex1 rfl (B9 (a:=p) rfl (.inr (SqT.of hp)) (ex1 rfl ⟨rfl,?_⟩));rw[hn,AG rfl];exact q
theorem An:FnScope ["rows"] ["rows"] (B5 s_names_of):=fsc
def Bc:Sp:=fun vs H Q _=>∃(l:Addr) (rs:List RW),vs = [.ref l]/\RowsAt H l rs/\rs.length<=1000/\∀m H',Same H H'->H m=none->H' m=some (.lst ((u8 rs).map V.str))->Q (.ref m) H'
theorem J3(T:Tx K mg):FnOk P w K mg base CX0 1 T.al.f T.al.fd ["rows"] Bc:=by
 have sc:=An;refine T.al.F.ok An (fun vs H Q E h=>?_) (fun cdv A outer s H vs Q E hr h=>?_)
 .obtain⟨l,rs,rfl,_⟩:=h;rfl
 .obtain⟨l,rs,rfl,hR,len,q⟩:=h;refine⟨_,(B4 (C0 (O2 (N':=["row"]) (cap:=[none]) (cl:=[]) (J6 trivial trivial) rfl (piL K (pv 0)) (fun _ _ _ _=>by exact⟨(pgC 0),F9,(C6 (ixT K) (pv 0) B3 (fun _ _=>rfl))⟩)))),?_⟩;refine ex1 rfl ⟨l,rfl,⟨_,SqL.of hR.at_⟩,fun D hD=>?_⟩;refine Fs (r:=fun q:RW=>V.ref q.1) (fun q=>V.str q.2.1) (asL (SqL.of hR.at_)) (fun _=>true) (by omega) hD (fun y my G sG M hM=>hM G fun b o e=>e) (fun y my G sG M hM=>?_) fun σ' G sG eG=>?_
  .exact ex1 rfl ⟨y.1,_,B9 rfl rfl ⟨SqT.of (sG _ _ (hR.row y my)),B8 (j:=0) rfl,hM G fun b o e=>e⟩⟩
  .refine q D G sG hD ?_;rw[eG,EN.mpr fun _ _=>rfl];unfold u8;rw[BA];rfl
theorem t4:FnScope ["rows"] ["rows"] (B5 s_begins_of):=fsc
theorem Gd(T:Tx K mg):FnOk P w K mg base CX0 2 T.aZ.f T.aZ.fd ["rows"] Bc:=by
 have G_is_listed:=t8 (P:=P) (w:=w) (base:=base) T;have sc:=t4;refine T.aZ.F.ok t4 (fun vs H Q E h=>?_) (fun cdv A outer s H vs Q E hr h=>?_)
 .obtain⟨l,rs,rfl,_⟩:=h;rfl
 .obtain⟨l,rs,rfl,hR,len,q⟩:=h;refine⟨_,(B4 (C0 (O2 (N':=["row"]) (cap:=[none]) (cl:=[]) (J6 trivial trivial) rfl (piL K (pv 0)) (fun _ _ _ _=>by exact⟨(pgC 0),(K6 (PW.pt (Qa (J0 (C4 T.aO G_is_listed (Rm hr) (A8 (pv 0) B0))) (Ie (C3 zBk (E2 (O8 K) T.am K9 (A8 (pv 0) B0)) B3 (D8 _)))))),(C6 (ixT K) (pv 0) B3 (fun _ _=>rfl))⟩)))),?_⟩;refine ex1 rfl ⟨l,rfl,⟨_,SqL.of hR.at_⟩,fun D hD=>?_⟩;refine Fs (r:=fun q:RW=>V.ref q.1) (fun q=>V.str q.2.1) (asL (SqL.of hR.at_)) (fun _=>true) (by omega) hD (fun y my G sG M hM=>?_) (fun y my G sG M hM=>?_) fun σ' G sG eG=>?_
  .have ey:=sG _ _ (hR.row y my);refine ex1 rfl ⟨y.1,false,_,rfl,ey,fun G2 s2=>⟨_,rfl,y8 ?_⟩⟩;refine ex1 rfl (B9 (a:=y.1) rfl (.inr (SqT.of (s2 _ _ ey))) (B9 rfl rfl (ex1 rfl ?_)));rw[AG (by rw[BK];omega)];exact hM G2 s2
  .exact ex1 rfl ⟨y.1,_,B9 rfl rfl ⟨SqT.of (sG _ _ (hR.row y my)),B8 (j:=0) rfl,hM G fun b o e=>e⟩⟩
  .refine q D G sG hD ?_;rw[eG,EN.mpr fun _ _=>rfl];unfold u8;rw[BA];rfl
theorem Be:FnScope ["taken", "thing"] ["taken", "thing"] (B5 s_is_fresh):=fsc
def Uh(K:PySem.W.Frag):Sp:=fun vs H Q _=>∃(l:Addr) (ss:List Str) (x:Str),vs = [.ref l,.str x]/\SqL K H l (ss.map V.str)/\F7 x=true/\x∉ss/\∀H',Same H H'->Q (.bl true) H'
theorem Y8(T:Tx K mg):FnOk P w K mg base CX0 2 T.aJ.f T.aJ.fd ["taken", "thing"] (Uh K):=by
 have G_is_name:=Co (P:=P) (w:=w) (base:=base) T;have sc:=Be;refine T.aJ.F.ok Be (fun vs H Q E h=>?_) (fun cdv A outer s H vs Q E hr h=>?_)
 .obtain⟨l,ss,x,rfl,_⟩:=h;rfl
 .obtain⟨l,ss,x,rfl,hS,hn,hx,q⟩:=h;refine⟨_,(B4 (C0 (J8 (C4 T.a5 G_is_name (Rm hr) (A8 (pv 1) B0)) (O3 (E8 (y9 K) (pv 1) (pv 0) rfl))))),?_⟩;have hl:=Ha hn;refine ex1 rfl ⟨x,rfl,by omega,fun H1 s1=>⟨_,rfl,?_⟩⟩;rw[hn];refine y8 (ex1 rfl (ex1 rfl (V7 (.inl ((s1.at l).seqL hS)) ?_)));rw[BC hx];exact q H1 s1
theorem Db:FnScope ["thing"] ["thing"] (B5 s_is_rank):=fsc
def Yl:Sp:=fun vs H Q _=>∃i:Int,vs = [.int i]/\0<=i/\i<=9/\Q (.bl true) H
theorem Nu(T:Tx K mg):FnOk P w K mg base CX0 2 T.bg.f T.bg.fd ["thing"] Yl:=by
 have G_is_number:=Gh (P:=P) (w:=w) (base:=base) T;have sc:=Db;refine T.bg.F.ok Db (fun vs H Q E h=>?_) (fun cdv A outer s H vs Q E hr h=>?_)
 .obtain⟨i,rfl,_⟩:=h;rfl
 .obtain⟨i,rfl,h0,h9,q⟩:=h;refine⟨_,(B4 (C0 (J8 (C4 T.aX G_is_number (Rm hr) (A8 (pv 0) B0)) (O3 (Tj Ua Ua B3 (pv 0) (Xx T.bv)))))),?_⟩;refine ex1 rfl ⟨i,rfl,_,rfl,y8 ?_⟩;refine ex1 rfl (B9 rfl rfl (ex1 rfl ?_));rw[AG h0];refine y8 (B9 rfl rfl ?_);show Q (.bl (decide (i<=9))) H;rw[AG h9];exact q
theorem V0:FnScope ["names", "thing"] ["names", "thing"] (B5 s_are_speakers):=fsc
def Jx(K:PySem.W.Frag):Sp:=fun vs H Q _=>∃(l m:Addr) (ns ss:List Str),vs = [.ref l,.ref m]/\H l=some (.lst (ns.map V.str))/\H m=some (.lst (ss.map V.str))/\(∀x∈ss,x∈ns)/\ss.Nodup/\ss.length<=100/\∀H',Same H H'->Q (.bl true) H'
theorem Ak(T:Tx K mg):FnOk P w K mg base CX0 2 T.aK.f T.aK.fd ["names", "thing"] (Jx K):=by
 have G_is_listed:=t8 (P:=P) (w:=w) (base:=base) T;have sc:=V0;refine T.aK.F.ok V0 (fun vs H Q E h=>?_) (fun cdv A outer s H vs Q E hr h=>?_)
 .obtain⟨l,m,ns,ss,rfl,_⟩:=h;rfl
 .obtain⟨l,m,ns,ss,rfl,hl,hm,sub,nd,len,q⟩:=h;refine⟨_,(B4 (C0 (J8 (C4 T.aO G_is_listed (Rm hr) (A8 (pv 1) B0)) (J8 (E2 (Kv K) T.bp Kh (A8 (O2 (N':=["one", "names"]) (cap:=[none,some 0]) (cl:=[("names",_)]) (J6 ⟨⟨rfl,rfl,rfl,rfl⟩,trivial⟩ ⟨rfl,trivial⟩) rfl (piL K (pv 1)) (fun _ _ _ _=>by exact⟨(pgC 0),F9,(E8 (S9 K) (pv 0) (pv 1) rfl)⟩)) B0)) (O3 (E8 Z8 (E2 (Wu w) T.am K9 (A8 (U1 (Iq K w) T.be Ck (A8 (pv 1) B0)) B0)) (E2 (O8 K) T.am K9 (A8 (pv 1) B0)) (D8 _))))))),?_⟩;refine ex1 rfl ⟨m,true,_,rfl,hm,fun H1 s1=>⟨_,rfl,y8 ?_⟩⟩;have l1:=s1 _ _ hl;have m1:=s1 _ _ hm;refine ex1 rfl ⟨m,rfl,⟨_,SqL.of m1⟩,fun D hD=>?_⟩;refine Fs (fun x=>V.bl (decide (x∈ns))) (asL (SqL.of m1)) (fun _=>true) (by omega) hD (fun y my G sG M hM=>hM G fun b o e=>e) (fun y my G sG M hM=>ex1 rfl (ex1 rfl (G9 (.inl (SqL.of (sG _ _ l1))) (hM G fun b o e=>e)))) fun σ' G sG eG=>?_;have eG:G D=some (.lst ((ss.map fun x=>decide (x∈ns)).map V.bl)):=by
   rw[eG,EN.mpr fun _ _=>rfl,BA];rfl
  have ea:((ss.map fun x=>decide (x∈ns)).all id)=true:=by
   rw[List.all_map,DR];exact fun x hx=>AG (sub x hx)
  refine⟨D,_,rfl,SqL.of eG,_,rfl,?_⟩;rw[ea];refine y8 ?_;have m2:=sG _ _ m1;refine ex1 rfl ⟨m,ss,rfl,.inl (SqL.of m2),nd,by omega,fun z hz=>?_⟩;have uz:=Same.new (o:=X7 w z ss) hz;refine⟨z,ss,rfl,A9,ex1 rfl (B9 (a:=m) rfl (.inl (SqL.of (uz _ _ m2))) ⟨rfl,?_⟩)⟩;rw[AA,AG rfl];exact q _ ((s1.trans sG).trans uz)
theorem X8:FnScope ["ahead", "row"] ["ahead", "row"] (B5 s_fits_people):=fsc
def Ko:Sp:=fun vs H Q _=>∃(l p:Addr) (rs:List RW) (n:Str) (r:Int),vs = [.ref l,.ref p]/\RowsAt H l rs/\rs.length<=1000/\H p=some (.tup [.str n,.int r])/\F7 n=true/\n∉u8 rs/\0<=r/\r<=9/\∀H',Same H H'->Q (.bl true) H'
theorem Ca(T:Tx K mg):FnOk P w K mg base CX0 3 T.aq.f T.aq.fd ["ahead", "row"] Ko:=by
 have G_is_row_of:=Q0 (P:=P) (w:=w) (base:=base) T;have G_names_of:=J3 (P:=P) (w:=w) (base:=base) T;have G_is_fresh:=Y8 (P:=P) (w:=w) (base:=base) T;have G_is_rank:=Nu (P:=P) (w:=w) (base:=base) T;have sc:=X8;refine T.aq.F.ok X8 (fun vs H Q E h=>?_) (fun cdv A outer s H vs Q E hr h=>?_)
 .obtain⟨l,p,rs,n,r,rfl,_⟩:=h;rfl
 .obtain⟨l,p,rs,n,r,rfl,hR,len,hp,hn,hx,r0,r9,q⟩:=h;refine⟨_,(B4 (C0 (J8 (C4 T.ax G_is_row_of (Rm hr) (A8 (pv 1) (A8 B3 B0))) (J8 (C4 T.aJ G_is_fresh (Rm hr) (A8 (C4 T.al G_names_of (Rm hr) (A8 (pv 0) B0)) (A8 (C6 (ixT K) (pv 1) B3 (fun _ _=>rfl)) B0))) (O3 (C4 T.bg G_is_rank (Rm hr) (A8 (C6 (ixT K) (pv 1) B3 (fun _ _=>rfl)) B0))))))),?_⟩;refine ex1 rfl ⟨p,_,_,rfl,hp,rfl,_,rfl,y8 ?_⟩;refine ex1 rfl ⟨l,rs,rfl,hR,len,fun m H1 s1 hm em=>?_⟩;refine ex1 rfl ⟨p,_,B9 rfl rfl ⟨SqT.of (s1 _ _ hp),B8 (j:=0) rfl,?_⟩⟩;refine⟨m,_,n,rfl,SqL.of em,hn,hx,fun H2 s2=>⟨_,rfl,y8 ?_⟩⟩;refine ex1 rfl ⟨p,_,B9 rfl rfl ⟨SqT.of (s2 _ _ (s1 _ _ hp)),B8 (j:=1) rfl,?_⟩⟩;exact⟨r,rfl,r0,r9,q H2 (s1.trans s2)⟩
theorem U9:FnScope ["people", "ahead", "row"] ["people", "ahead", "row"] (B5 s_fits_sayings):=fsc
def Lj:Sp:=fun vs H Q _=>∃(a l p m:Addr) (ps rs:List RW) (n kd:Str) (ss:List Str),vs = [.ref a,.ref l,.ref p]/\RowsAt H a ps/\ps.length<=1000/\RowsAt H l rs/\rs.length<=1000/\H p=some (.tup [.str n,.str kd,.ref m])/\H m=some (.lst (ss.map V.str))/\F7 n=true/\n∉u8 rs/\(kd = "fact"\/kd = "claim")/\(∀x∈ss,x∈u8 ps)/\ss.Nodup/\ss.length<=100/\∀H',Same H H'->Q (.bl true) H'
theorem Br(T:Tx K mg):FnOk P w K mg base CX0 3 T.aH.f T.aH.fd ["people", "ahead", "row"] Lj:=by
 have G_is_row_of:=Q0 (P:=P) (w:=w) (base:=base) T;have G_names_of:=J3 (P:=P) (w:=w) (base:=base) T;have G_is_fresh:=Y8 (P:=P) (w:=w) (base:=base) T;have G_are_speakers:=Ak (P:=P) (w:=w) (base:=base) T;have sc:=U9;refine T.aH.F.ok U9 (fun vs H Q E h=>?_) (fun cdv A outer s H vs Q E hr h=>?_)
 .obtain⟨a,l,p,m,ps,rs,n,kd,ss,rfl,_⟩:=h;rfl
 .obtain⟨a,l,p,m,ps,rs,n,kd,ss,rfl,hP,lp,hR,lr,hp,hm,hn,hx,hk,sub,nd,ls,q⟩:=h;refine⟨_,(B1 (I0 (PW.pt (y4 (K4 (J0 (C4 T.ax G_is_row_of (Rm hr) (A8 (pv 2) (A8 B3 B0))))) (S4 (K4 (J0 (C4 T.aJ G_is_fresh (Rm hr) (A8 (C4 T.al G_names_of (Rm hr) (A8 (pv 1) B0)) (A8 (C6 (ixT K) (pv 2) B3 (fun _ _=>rfl)) B0)))))))) (B4 (C0 b7)) D0)
   (B4 (C0 (J8 (E8 (S9 K) (C6 (ixT K) (pv 2) B3 (fun _ _=>rfl)) (Xt T.bJ) rfl) (O3 (C4 T.aK G_are_speakers (Rm hr) (A8 (C4 T.al G_names_of (Rm hr) (A8 (pv 0) B0)) (A8 (C6 (ixT K) (pv 2) B3 (fun _ _=>rfl)) B0)))))))),?_⟩
  refine ex1 rfl ⟨p,_,_,rfl,hp,rfl,_,rfl,X4 ?_⟩;refine ex1 rfl ⟨l,rs,rfl,hR,lr,fun m1 H1 s1 hm1 em=>?_⟩;refine ex1 rfl ⟨p,_,B9 rfl rfl ⟨SqT.of (s1 _ _ hp),B8 (j:=0) rfl,?_⟩⟩;refine⟨m1,_,n,rfl,SqL.of em,hn,hx,fun H2 s2=>⟨_,rfl,X4 ?_⟩⟩;have s2:=s1.trans s2;refine ex1 rfl ⟨p,_,B9 rfl rfl ⟨SqT.of (s2 _ _ hp),B8 (j:=1) rfl,?_⟩⟩;have hk':decide (kd∈(["fact", "claim"]:List Str))=true:=AG (by rcases hk with rfl | rfl<;>decide);dsimp only[tC];refine G9 (ss:=["fact", "claim"]) (.inr T.bK.sq) ?_;rw[hk'];refine⟨_,rfl,y8 ?_⟩;refine ex1 rfl ⟨a,ps,rfl,hP.same s2,lp,fun m2 H3 s3 hm2 em2=>?_⟩;have s3:=s2.trans s3;refine ex1 rfl ⟨p,_,B9 rfl rfl ⟨SqT.of (s3 _ _ hp),B8 (j:=2) rfl,?_⟩⟩;exact⟨m2,m,_,ss,rfl,em2,s3 _ _ hm,sub,nd,ls,fun H4 s4=>q H4 (s3.trans s4)⟩
theorem U5:FnScope ["sayings", "goals", "ahead", "row", "said"] ["sayings", "goals", "ahead", "row"] (B5 s_fits_strikes):=fsc
def Lv:Sp:=fun vs H Q _=>∃(a g l p:Addr) (ss rs:List RW) (gs:List Str) (n o t:Str),vs = [.ref a,.ref g,.ref l,.ref p]/\RowsAt H a ss/\ss.length<=1000/\H g=some (.lst (gs.map V.str))/\RowsAt H l rs/\rs.length<=1000/\H p=some (.tup [.str n,.str o,.str t])/\F7 n=true/\n∉u8 ss/\n∉u8 rs/\o∈u8 ss/\(t∈u8 ss\/t∈gs)/\∀H',Same H H'->Q (.bl true) H'
theorem Ap(T:Tx K mg):FnOk P w K mg base CX0 3 T.aI.f T.aI.fd ["sayings", "goals", "ahead", "row"] Lv:=by
 have G_is_row_of:=Q0 (P:=P) (w:=w) (base:=base) T;have G_names_of:=J3 (P:=P) (w:=w) (base:=base) T;have G_is_fresh:=Y8 (P:=P) (w:=w) (base:=base) T;have sc:=U5;refine T.aI.F.ok U5 (fun vs H Q E h=>?_) (fun cdv A outer s H vs Q E hr h=>?_)
 .obtain⟨a,g,l,p,ss,rs,gs,n,o,t,rfl,_⟩:=h;rfl
 .obtain⟨a,g,l,p,ss,rs,gs,n,o,t,rfl,hS,ls,hg,hR,lr,hp,hn,hx1,hx2,ho,ht,q⟩:=h;refine⟨_,(B1 (C5 (i:=4) sc.nd rfl (.inl rfl) (C4 T.al G_names_of (Rm hr) (A8 (pv 0) B0)))
   (B1 (I0 (PW.pt (y4 (K4 (J0 (C4 T.ax G_is_row_of (Rm hr) (A8 (pv 3) (A8 B3 B0))))) (S4 (K4 (J0 (C4 T.aJ G_is_fresh (Rm hr) (A8 (F8 X9 (pv 4) (C4 T.al G_names_of (Rm hr) (A8 (pv 2) B0))) (A8 (C6 (ixT K) (pv 3) B3 (fun _ _=>rfl)) B0)))))))) (B4 (C0 b7)) D0)
   (B4 (C0 (J8 (E8 (S9 K) (C6 (ixT K) (pv 3) B3 (fun _ _=>rfl)) (pv 4) rfl) (O3 (zCy (E8 (S9 K) (C6 (ixT K) (pv 3) B3 (fun _ _=>rfl)) (pv 4) rfl) (O3 (E8 (S9 K) (C6 (ixT K) (pv 3) B3 (fun _ _=>rfl)) (pv 1) rfl))))))))),?_⟩
  refine B7 fun N1 hN1=>?_;refine ex1 rfl ⟨a,ss,rfl,hS,ls,fun m1 H1 s1 hm1 em1=>?_⟩;refine hN1 _ _ (B7 fun N2 hN2=>?_);refine ex1 rfl ⟨p,_,_,rfl,s1 _ _ hp,rfl,_,rfl,X4 ?_⟩;refine ex1 rfl (ex1 rfl ⟨l,rs,rfl,hR.same s1,lr,fun m2 H2 s2 hm2 em2=>?_⟩);have em1:=s2 _ _ em1;have s2:=s1.trans s2;have lss:(u8 ss).length=ss.length:=by unfold u8;rw[AA]
  have lrs:(u8 rs).length=rs.length:=by unfold u8;rw[AA]
  refine⟨m1,m2,_,_,rfl,rfl,em1,em2,by rw[AA,AA,lss,lrs,sizeLine_eq];omega,fun m3 hm3=>?_⟩;have u3:=Same.new (o:=.lst ((u8 ss).map V.str ++(u8 rs).map V.str)) hm3;have s3:=s2.trans u3;refine ex1 rfl ⟨p,_,B9 rfl rfl ⟨SqT.of (s3 _ _ hp),B8 (j:=0) rfl,?_⟩⟩;refine⟨m3,u8 ss++u8 rs,n,rfl,SqL.of (by rw[A9,AL]),hn,fun z=>(AI.mp z).elim hx1 hx2,fun H4 s4=>⟨_,rfl,X4 ?_⟩⟩;have em1:=s4 _ _ (u3 _ _ em1);have s4:=s3.trans s4;refine hN2 _ _ ?_;refine ex1 rfl ⟨p,_,B9 rfl rfl ⟨SqT.of (s4 _ _ hp),B8 (j:=1) rfl,ex1 rfl (G9 (.inl (SqL.of em1)) ?_)⟩⟩;rw[AG ho];refine⟨_,rfl,y8 ?_⟩;refine ex1 rfl ⟨p,_,B9 rfl rfl ⟨SqT.of (s4 _ _ hp),B8 (j:=2) rfl,ex1 rfl (G9 (.inl (SqL.of em1)) ⟨_,rfl,Z7 (fun c=>q _ s4) (fun c=>?_)⟩)⟩⟩;refine ex1 rfl ⟨p,_,B9 rfl rfl ⟨SqT.of (s4 _ _ hp),B8 (j:=2) rfl,ex1 rfl (G9 (.inl (SqL.of (s4 _ _ hg))) ?_)⟩⟩;rw[AG (ht.resolve_left fun z=>c (AG z))];exact q _ s4
end
def pd(k:Str×Str):PyData:=.tuple [.str k.1,.str k.2]
theorem E5{x:Str}(h:F7 x=true):PySem.PyData.strOk x=true:=by
 unfold F7 at h;rw[CD]at h;unfold PySem.PyData.strOk;rw[<-Array.all_toList,DR];intro c hc;have:=(DR.mp h.2) c hc;unfold Xf at this;rw[CD]at this;have:=BG this.2;exact AG (by omega)
theorem Ik{K:PySem.W.Frag}{H:Hp}{t:Addr}{k:Str×Str}(h:H t=some (.tup [.str k.1,.str k.2])):Rp K H (pd k) (.ref t):=by
 unfold pd;simp only[Rp,Rps];exact⟨t,_,rfl,SqT.of h,_,_,rfl,rfl,_,_,rfl,rfl,rfl⟩
theorem Ge{K:PySem.W.Frag}{H:Hp}:∀{ps:List PA2},(∀q∈ps,F4 H q)->Rps K H (ps.map fun q=>pd q.2) (I9 ps)
 | [],_=>by simp[Rps,I9]
 | q::r,h=>by
  show Rps K H (pd q.2::r.map fun q=>pd q.2) (V.ref q.1::I9 r);simp only[Rps];exact⟨_,_,rfl,Ik (h q (AW ..)),Ge fun z hz=>h z (AO _ hz)⟩
theorem Ee{K:PySem.W.Frag}{H:Hp}{l:Addr}{ps:List PA2}(hl:H l=some (.lst (I9 ps)))(h:∀q∈ps,F4 H q):Rp K H (.list (ps.map fun q=>pd q.2)) (.ref l):=by
 simp only[Rp];exact⟨l,_,rfl,SqL.of hl,Ge h⟩
theorem zAu(a b:Str×Str):PyData.eqv (pd a) (pd b)=decide (a=b):=by
 unfold pd;rw[PyData.eqv,PyData.eqvAll,PyData.eqvAll,PyData.eqvAll,PyData.eqv,PyData.eqv];by_cases h1:a.1=b.1
 .by_cases h2:a.2=b.2
  .rw[AG (Prod.ext h1 h2),h1,h2];simp
  .rw[BC fun z=>h2 (congrArg Prod.snd z)];simp[h2]
 .rw[BC fun z=>h1 (congrArg Prod.fst z)];simp[h1]
theorem Av(k:Str×Str):∀ps:List PA2,((ps.map fun q=>pd q.2).any fun z=>PyData.eqv z (pd k))=decide (k∈ps.map fun q=>q.2)
 | []=>rfl
 | q::r=>by
  rw[BM,FO,Av k r,zAu,BM];by_cases e:q.2=k
  .rw[AG e,Bool.true_or,AG (show k∈q.2::_ from by rw[<-e];exact AW ..)]
  .rw[BC e,Bool.false_or];by_cases h:k∈r.map fun q=>q.2
   .rw[AG h,AG (AO _ h)]
   .rw[BC h,BC fun z=>(AX.mp z).elim (fun z=>e z.symm) h]
theorem Kb{k:Str×Str}(h1:PySem.PyData.strOk k.1=true)(h2:PySem.PyData.strOk k.2=true):(pd k).canLay0=true:=by
 unfold pd;simp[PyData.canLay0,PyData.canLayAll0,h1,h2]
theorem Iv:∀{ps:List PA2},(∀q∈ps,PySem.PyData.strOk q.2.1=true/\PySem.PyData.strOk q.2.2=true)->PyData.canLayAll0 (ps.map fun q=>pd q.2)=true
 | [],_=>rfl
 | q::r,h=>by
  rw[BM,PyData.canLayAll0,Kb (h q (AW ..)).1 (h q (AW ..)).2,Iv fun z hz=>h z (AO _ hz)];rfl
theorem Mj{K:PySem.W.Frag}{H:Hp}{t l:Addr}{k:Str×Str}{ps:List PA2}{Q:VK}(ht:H t=some (.tup [.str k.1,.str k.2]))(hl:H l=some (.lst (I9 ps)))(hp:∀q∈ps,F4 H q)
  (hk:PySem.PyData.strOk k.1=true/\PySem.PyData.strOk k.2=true) (hs:∀q∈ps,PySem.PyData.strOk q.2.1=true/\PySem.PyData.strOk q.2.2=true) (q:Q (.bl (!decide (k∈ps.map fun q=>q.2))) H):Zh K true (.ref t) (.ref l) H Q :=
 ⟨pd k,_,Ik ht,.inl (Ee hl hp),⟨Kb hk.1 hk.2,by simp[pd,PyData.depth,PyData.depthAll]⟩,Iv hs,by rw[AY rfl,Av];exact q⟩
section
variable{P:Program}{w:World}{K:PySem.W.Frag}{mg:Str->Option Value}{base:Heap}
theorem Xa{H:Hp}{t l:Addr}{k:Str×Str}{ps:List PA2}{Q:VK}(ht:H t=some (.tup [.str k.1,.str k.2]))(hl:H l=some (.lst (I9 ps)))(hp:∀q∈ps,F4 H q)
  (hk:PySem.PyData.strOk k.1=true/\PySem.PyData.strOk k.2=true) (hs:∀q∈ps,PySem.PyData.strOk q.2.1=true/\PySem.PyData.strOk q.2.2=true) (q:Q (.bl (decide (k∈ps.map fun q=>q.2))) H):Zh K false (.ref t) (.ref l) H Q :=
 ⟨pd k,_,Ik ht,.inl (Ee hl hp),⟨Kb hk.1 hk.2,by simp[pd,PyData.depth,PyData.depthAll]⟩,Iv hs,by rw[AS (by decide),Av];exact q⟩
theorem d9:FnScope ["sayings", "ahead", "row", "said"] ["sayings", "ahead", "row"] (B5 s_fits_backs):=fsc
def Ly:Sp:=fun vs H Q _=>∃(a l p:Addr) (ss:List RW) (bs:List PA2) (o t:Str),vs = [.ref a,.ref l,.ref p]/\RowsAt H a ss/\ss.length<=1000/\H l=some (.lst (I9 bs))/\(∀q∈bs,F4 H q)/\(∀q∈bs,F7 q.2.1=true/\F7 q.2.2=true)/\H p=some (.tup [.str o,.str t])/\F7 o=true/\F7 t=true/\(o,t)∉(bs.map fun q=>q.2)/\o∈u8 ss/\t∈u8 ss/\o≠t/\∀H',Same H H'->Q (.bl true) H'
theorem Dh(T:Tx K mg):FnOk P w K mg base CX0 3 T.aS.f T.aS.fd ["sayings", "ahead", "row"] Ly:=by
 have G_is_row_of:=Q0 (P:=P) (w:=w) (base:=base) T;have G_names_of:=J3 (P:=P) (w:=w) (base:=base) T;have sc:=d9;refine T.aS.F.ok d9 (fun vs H Q E h=>?_) (fun cdv A outer s H vs Q E hr h=>?_)
 .obtain⟨a,l,p,ss,bs,o,t,rfl,_⟩:=h;rfl
 .obtain⟨a,l,p,ss,bs,o,t,rfl,hS,ls,hl,hb,nb,hp,no,nt,hx,ho,ht,ne,q⟩:=h;refine⟨_,(B1 (C5 (i:=3) sc.nd rfl (.inl rfl) (C4 T.al G_names_of (Rm hr) (A8 (pv 0) B0)))
   (B1 (I0 (PW.pt (y4 (K4 (J0 (C4 T.ax G_is_row_of (Rm hr) (A8 (pv 2) (A8 B3 B0))))) (S4 (C3 (zCw K hr.units) (pv 2) (pv 1) rfl)))) (B4 (C0 b7)) D0)
   (B4 (C0 (J8 (E8 (S9 K) (C6 (ixT K) (pv 2) B3 (fun _ _=>rfl)) (pv 3) rfl) (J8 (E8 (S9 K) (C6 (ixT K) (pv 2) B3 (fun _ _=>rfl)) (pv 3) rfl) (O3 (E8 Mg (C6 (ixT K) (pv 2) B3 (fun _ _=>rfl)) (C6 (ixT K) (pv 2) B3 (fun _ _=>rfl)) (D8 _))))))))),?_⟩
  refine B7 fun N1 hN1=>?_;refine ex1 rfl ⟨a,ss,rfl,hS,ls,fun m1 H1 s1 hm1 em1=>?_⟩;refine hN1 _ _ (B7 fun N2 hN2=>?_);have p1:=s1 _ _ hp;refine ex1 rfl ⟨p,_,_,rfl,p1,rfl,_,rfl,X4 ?_⟩;refine ex1 rfl (ex1 rfl (Xa (k:=(o,t)) p1 (s1 _ _ hl) (E4 s1 hb) ⟨E5 no,E5 nt⟩ (fun q hq=>⟨E5 (nb q hq).1,E5 (nb q hq).2⟩) ?_));rw[BC hx];refine⟨_,rfl,X4 ?_⟩;refine hN2 _ _ ?_;refine ex1 rfl ⟨p,_,B9 rfl rfl ⟨SqT.of p1,B8 (j:=0) rfl,ex1 rfl (G9 (.inl (SqL.of em1)) ?_)⟩⟩;rw[AG ho];refine⟨_,rfl,y8 ?_⟩;refine ex1 rfl ⟨p,_,B9 rfl rfl ⟨SqT.of p1,B8 (j:=1) rfl,ex1 rfl (G9 (.inl (SqL.of em1)) ?_)⟩⟩;rw[AG ht];refine⟨_,rfl,y8 ?_⟩;refine ex1 rfl ⟨p,_,B9 rfl rfl ⟨SqT.of p1,B8 (j:=0) rfl,ex1 rfl ⟨p,_,B9 rfl rfl ⟨SqT.of p1,B8 (j:=1) rfl,rfl,?_⟩⟩⟩⟩;have e:(!decide (V.str o=V.str t))=true:=by rw[BC fun z=>ne (V.str.inj z)];rfl
  rw[e];exact q H1 s1
theorem zAr(xs:List V)(i:Nat)(h:i<=xs.length):Cc xs none (some (i:Int))=xs.take i:=by
 unfold Cc;rw[HT.sIx_none,HT.sIx_nat,DV,Nat.sub_zero,DZ h]
def Bu(base:Heap)(f:Addr)(sp:Sp):Sp:=fun vs H Q _=>∃(x:Str) (a:Addr) (as:List Addr),vs = [.str x,.ref a,.ref f]/\H a=some (.lst (as.map V.ref))/\as.length<=1000/\FnHere base H f /\
 (∀(i:Nat) (q:Addr),as[i]?=some q->∀(G:Hp) (l:Addr) (Q':VK),Same H G->G l=some (.lst ((as.take i).map V.ref))->(∀G',Same G G'->Q' (.bl true) G')->sp [.ref l,.ref q] G Q' E0)/\∀H',Same H H'->Q .non H'
theorem i7:FnScope ["part", "rows", "fits", "place", "row"] ["part", "rows", "fits"] (B5 s_check_part):=fsc
theorem O4(T:Tx K mg){f:Addr}{fd:FuncData}{k:Nat}{sp:Sp}(G_fits:FnOk P w K mg base CX0 k f fd ["ahead", "row"] sp)(hb_fits:Binds K fd ["ahead", "row"] []):FnOk P w K mg base CX0 (k+1) T.au.f T.au.fd ["part", "rows", "fits"] (Bu base f sp):=by
 have sc:=i7;refine T.au.F.ok i7 (fun vs H Q E h=>?_) (fun cdv A outer s H vs Q E hr h=>?_)
 .obtain⟨x,a,as,rfl,_⟩:=h;rfl
 .obtain⟨x,a,as,rfl,ha,len,hf,hfit,q⟩:=h;refine⟨_,(B4 (P4 PassesOwn.never rfl (piE K T.a7 (A8 (pv 1) B0)) (pgT K (n:=2) (C2 (D6 (i:=3) sc.nd rfl (.inl rfl)) (C2 (D6 (i:=4) sc.nd rfl (.inl rfl)) J2)))
   (B4 (I0 (K4 (J0 (Te (i:=2) G_fits (hr.mono (Nat.le_refl _)) hb_fits (A8 (Ad (slL K) (pv 1) Dv (Dn (pv 3))) (A8 (pv 4) B0))))) (B4 X3) D0)))),?_⟩
  refine ex1 rfl ⟨a,ex1 rfl ⟨SqL.of ha,Uf (n:=as.length) (fun i σ H1=>∃v3 v4,σ = [some (.str x),some (.ref a),some (.ref f),v3,v4]/\Same H H1) ⟨_,_,rfl,fun b o e=>e⟩ ?_ ?_ ?_ ?_⟩⟩
  .rintro i σ H1 hi ⟨v3,v4,rfl,s1⟩;exact⟨_,_,SqL.of (s1 _ _ ha),by rw[AF,AN hi];rfl⟩
  .rintro σ H1 ⟨v3,v4,rfl,s1⟩;exact⟨_,SqL.of (s1 _ _ ha),by rw[AA]⟩
  .rintro i σ H1 v H' hi ⟨v3,v4,rfl,s1⟩ ⟨t,y,rfl,ht,rfl,hy⟩;have hy:=hy _ (SqL.of (s1 _ _ ha));have hi':as[i]?=some as[i]:=AN hi;rw[AF,hi']at hy;cases hy;have ut:=s1.trans (Same.new (o:=.tup [.int (i:Int),.ref as[i]]) ht);refine⟨t,_,rfl,SqT.of A9,rfl,_,_,rfl,_,_,rfl,rfl,?_⟩;refine⟨rfl,hf.same ut,?_⟩;refine ex1 rfl (ex1 rfl ⟨_,rfl,a,_,rfl,SqL.of (ut _ _ ha),fun l hl=>?_⟩);have ul:=ut.trans (Same.new (o:=.lst (Cc (as.map V.ref) none (some (i:Int)))) hl);have el:(upd (upd H1 t (.tup [.int (i:Int),.ref as[i]])) l (.lst (Cc (as.map V.ref) none (some (i:Int))))) l=some (.lst ((as.take i).map V.ref)):=by rw[A9,zAr _ _ (by rw[AA];omega),EH]
   generalize upd (upd H1 t (.tup [.int (i:Int),.ref as[i]])) l (.lst (Cc (as.map V.ref) none (some (i:Int))))=H2 at ul el⊢;refine ex1 rfl ⟨hf.same ul,hfit i _ hi' H2 l _ ul el fun G' s'=>⟨_,rfl,X4 ?_⟩⟩;exact⟨_,_,rfl,ul.trans s'⟩
  .rintro σ H1 ⟨v3,v4,rfl,s1⟩;exact q H1 s1
end
abbrev PEr:Type:=Addr×Str×Int
abbrev SAr:Type:=Addr×Str×Str×Addr×List Str
abbrev STr:Type:=Addr×Str×Str×Str
def rP(q:PEr):RW:=(q.1,q.2.1,[.int q.2.2])
def rS(q:SAr):RW:=(q.1,q.2.1,[.str q.2.2.1,.ref q.2.2.2.1])
def rT(q:STr):RW:=(q.1,q.2.1,[.str q.2.2.1,.str q.2.2.2])
structure WRows(H:Hp)(a b c d:Addr)(pe:List PEr)(sa:List SAr)(st:List STr)(ba:List PA2):Prop where
 hp:RowsAt H a (pe.map rP)
 hs:RowsAt H b (sa.map rS)
 sp:∀q∈sa,H q.2.2.2.1=some (.lst (q.2.2.2.2.map V.str))
 ht:RowsAt H c (st.map rT)
 hb:H d=some (.lst (I9 ba))
 pb:∀q∈ba,F4 H q
theorem WRows.same{H H':Hp}{a b c d:Addr}{pe:List PEr}{sa:List SAr}{st:List STr}{ba:List PA2}(h:WRows H a b c d pe sa st ba)(s:Same H H'):WRows H' a b c d pe sa st ba :=
 ⟨h.hp.same s,h.hs.same s,fun q hq=>s _ _ (h.sp q hq),h.ht.same s,s _ _ h.hb,E4 s h.pb⟩
theorem WRows.keep{H H':Hp}{a b c d p:Addr}{ls:List (Pos×Str)}{pe:List PEr}{sa:List SAr}{st:List STr}{ba:List PA2}(h:WRows H a b c d pe sa st ba)(t:y6 H p ls)(k:∀z o,H z=some o->z≠p->H' z=some o):WRows H' a b c d pe sa st ba:=by
 obtain⟨ps,e,_⟩:=t;have kk:∀{z:Addr} {o:HO},H z=some o->o≠ .tbl ps->H' z=some o:=fun hz n=>k _ _ hz fun y=>by rw[y,e]at hz;cases hz;exact n rfl
 exact⟨⟨kk h.hp.at_ (by intro z;cases z),fun q hq=>kk (h.hp.row q hq) (by intro z;cases z)⟩,⟨kk h.hs.at_ (by intro z;cases z),fun q hq=>kk (h.hs.row q hq) (by intro z;cases z)⟩,fun q hq=>kk (h.sp q hq) (by intro z;cases z),⟨kk h.ht.at_ (by intro z;cases z),fun q hq=>kk (h.ht.row q hq) (by intro z;cases z)⟩,kk h.hb (by intro z;cases z),fun q hq=>kk (h.pb q hq) (by intro z;cases z)⟩
theorem WRows.keepX{H H':Hp}{a b c d x C dx:Addr}{fs:List (Str×V)}{pe:List PEr}{sa:List SAr}{st:List STr}{ba:List PA2}(h:WRows H a b c d pe sa st ba)(hx:H x=some (.ins C dx fs))(k:Sm [x] H H'):WRows H' a b c d pe sa st ba:=by
 have kk:∀{z:Addr} {o:HO},H z=some o->o≠ .ins C dx fs->H' z=some o:=fun hz n=>k _ _ hz fun y=>by rw[AC.mp y,hx]at hz;cases hz;exact n rfl
 exact⟨⟨kk h.hp.at_ (by intro z;cases z),fun q hq=>kk (h.hp.row q hq) (by intro z;cases z)⟩,⟨kk h.hs.at_ (by intro z;cases z),fun q hq=>kk (h.hs.row q hq) (by intro z;cases z)⟩,fun q hq=>kk (h.sp q hq) (by intro z;cases z),⟨kk h.ht.at_ (by intro z;cases z),fun q hq=>kk (h.ht.row q hq) (by intro z;cases z)⟩,kk h.hb (by intro z;cases z),fun q hq=>kk (h.pb q hq) (by intro z;cases z)⟩
theorem Ac{H H':Hp}{p x C dx:Addr}{fs:List (Str×V)}{ls:List (Pos×Str)}(h:y6 H p ls)(hx:H x=some (.ins C dx fs))(k:Sm [x] H H'):y6 H' p ls:=by
 have kk:∀{z:Addr} {o:HO},H z=some o->o≠ .ins C dx fs->H' z=some o:=fun hz n=>k _ _ hz fun y=>by rw[AC.mp y,hx]at hz;cases hz;exact n rfl
 obtain⟨ps,e,t,q⟩:=h;exact⟨ps,kk e (by intro z;cases z),t,fun l hl=>(q l hl).imp id fun⟨c,e,hc⟩=>⟨c,e,kk hc (by intro z;cases z)⟩⟩
def nP(pe:List PEr):List Str:=pe.map fun q=>q.2.1
def nS(sa:List SAr):List Str:=sa.map fun q=>q.2.1
def nT(st:List STr):List Str:=st.map fun q=>q.2.1
structure WOk(pe:List PEr)(sa:List SAr)(st:List STr)(ba:List PA2):Prop where
 len:pe.length<=30/\sa.length<=30/\st.length<=30/\ba.length<=30
 pn:(nP pe).Nodup
 pm:∀q∈pe,F7 q.2.1=true/\0<=q.2.2/\q.2.2<=9
 sn:(nS sa++nT st).Nodup
 nm:∀x∈nS sa++nT st,F7 x=true
 kd:∀q∈sa,q.2.2.1 = "fact"\/q.2.2.1 = "claim"
 sk:∀q∈sa,(∀x∈q.2.2.2.2,x∈nP pe)/\q.2.2.2.2.Nodup/\q.2.2.2.2.length<=100
 tg:∀q∈st,q.2.2.1∈nS sa/\(q.2.2.2∈nS sa\/q.2.2.2∈nT st)
 bn:(ba.map fun q=>q.2).Nodup
 bk:∀q∈ba,q.2.1∈nS sa/\q.2.2∈nS sa/\q.2.1≠q.2.2
theorem zCb(pe:List PEr):u8 (pe.map rP)=nP pe:=by unfold u8 nP;rw[BA];rfl
theorem Eu(sa:List SAr):u8 (sa.map rS)=nS sa:=by unfold u8 nS;rw[BA];rfl
theorem zBj(st:List STr):u8 (st.map rT)=nT st:=by unfold u8 nT;rw[BA];rfl
theorem Bw{α:Type}{r:α->RW}{xs:List α}{i:Nat}{H G:Hp}{l:Addr}(h:∀q∈xs.map r,Ql H q)(s:Same H G)(el:G l=some (.lst (((xs.map fun x=>(r x).1).take i).map V.ref))):RowsAt G l ((xs.take i).map r):=by
 refine⟨?_,fun q hq=>s _ _ (h q ?_)⟩
 .rw[el,<-EH,BA,BA];rfl
 .obtain⟨x,hx,rfl⟩:=AH.mp hq;exact AH.mpr ⟨x,BO hx,rfl⟩
theorem Jp{α:Type}{r:α->RW}{xs:List α}:((xs.map r).map fun q=>V.ref q.1) =(xs.map fun x=>(r x).1).map V.ref:=by rw[BA,BA];rfl
def wfW(a b c d:Addr):List (Str×V):=[("people",.ref a),("sayings",.ref b),("strikes",.ref c),("backs",.ref d)]
def WeaveAt(C:Addr)(H:Hp)(x:Addr)(pe:List PEr)(sa:List SAr)(st:List STr)(ba:List PA2):Prop:=∃dx a b c d,H x=some (.ins C dx (wfW a b c d))/\WRows H a b c d pe sa st ba
theorem WeaveAt.same{C:Addr}{H H':Hp}{x:Addr}{pe:List PEr}{sa:List SAr}{st:List STr}{ba:List PA2}(h:WeaveAt C H x pe sa st ba)(s:Same H H'):WeaveAt C H' x pe sa st ba:=let⟨dx,a,b,c,d,e,w⟩:=h;⟨dx,a,b,c,d,s _ _ e,w.same s⟩
def WeaveNew(C:Addr)(H0 H:Hp)(x:Addr)(pe:List PEr)(sa:List SAr)(st:List STr)(ba:List PA2):Prop:=∃dx a b c d,H x=some (.ins C dx (wfW a b c d))/\WRows H a b c d pe sa st ba/\H0 a=none/\H0 b=none/\H0 c=none/\H0 d=none/\∀q∈sa,H0 q.2.2.2.1=none
theorem WeaveNew.at_{C:Addr}{H0 H:Hp}{x:Addr}{pe:List PEr}{sa:List SAr}{st:List STr}{ba:List PA2}(h:WeaveNew C H0 H x pe sa st ba):WeaveAt C H x pe sa st ba:=let⟨dx,a,b,c,d,e,w,_⟩:=h;⟨dx,a,b,c,d,e,w⟩
theorem none_of{L:List Addr}{H H':Hp}{z:Addr}(k:Sm L H H')(n:z∉L)(h:H' z=none):H z=none:=by
 cases y:H z with
 | none=>rfl
 | some o=>rw[k z o y n]at h;cases h
theorem K8{H H':Hp}{p:Addr}{ls:List (Pos×Str)}(h:y6 H p ls)(s:Same H H'):y6 H' p ls:=let⟨ps,e,t,q⟩:=h;⟨ps,s _ _ e,t,fun l hl=>(q l hl).imp id fun⟨c,e,hc⟩=>⟨c,e,s _ _ hc⟩⟩
def dS(q:SAr):Str×Str×List Str:=(q.2.1,q.2.2.1,q.2.2.2.2)
section
variable{P:Program}{w:World}{K:PySem.W.Frag}{mg:Str->Option Value}{base:Heap}
def Ld(f c:Addr)(q:Str)(ar:Arguments)(bd:Expr)(sco:Scope)(cl:List (Str×Addr))(g:V->V->Hp->VK->Prop):Sp:=fun vs H Q _=>∃u v,vs = [u,v]/\H f=some (LamO f c q ar bd sco cl)/\H c=some (CodeO c q)/\g u v H Q
theorem Di{f c:Addr}{q:Str}{ar:Arguments}{bd:Expr}{sco:Scope}{cl:List (Str×Addr)}{fr:List Str}{gs:List V}{k:Nat}{g:V->V->Hp->VK->Prop}(S:LamScope ("ahead" :: "row" :: fr) ["ahead", "row"] fr sco)(C:ClosV base cl fr gs)
  (hbody:∀(A:Around) (outer:List Env) (s:Shared) (H:Hp) (u v:V) (Q:VK),Room k (A.deeper (PySem.W.envX q sco s.heap.objs.size f (.ref c) cl))->g u v H Q ->
   ∃t,PE (Sf P w K mg base ("ahead" :: "row" :: fr) q sco f (.ref c) cl A outer s H) bd t/\t (some u::some v::gs.map some) H Q) :
  FnOk P w K mg base CX0 (k+1) f (PySem.W.kla_fn "<lambda>" q ar bd sco cl .none (.ref c) .none) ["ahead", "row"] (Ld f c q ar bd sco cl g):=by
 refine zBh S C (fun vs H Q E h=>?_) (fun vs H Q E h=>?_) fun A outer s H vs Q E hr h=>?_
 .obtain⟨u,v,rfl,_⟩:=h;rfl
 .obtain⟨u,v,rfl,h1,h2,_⟩:=h;exact⟨h1,h2⟩
 .obtain⟨u,v,rfl,_,_,h⟩:=h;exact hbody A outer s H u v Q hr h
theorem Q8:FnScope ["self", "people", "sayings", "strikes", "backs", "goals"] ["self", "people", "sayings", "strikes", "backs"] (B5 s_Weave___init__):=fsc
def Dr(C pt:Addr):Sp:=fun vs H Q _=>∃(x dx a b c d:Addr) (pe:List PEr) (sa:List SAr) (st:List STr) (ba:List PA2),vs = [.ref x,.ref a,.ref b,.ref c,.ref d]/\H x=some (.ins C dx [])/\WRows H a b c d pe sa st ba/\WOk pe sa st ba/\y6 H pt Y1 /\
 ∀(sa':List SAr) H',Sm [x,pt] H H'->y6 H' pt Y1->sa'.map dS=sa.map dS->WeaveNew C H H' x pe sa' st ba->Q .non H'
set_option maxHeartbeats 8000000 in
theorem Ev(T:Tx K mg)(hB:base.BuiltinsAt mg T.ag):FnOk P w K mg base CX0 6 T.br T.bq ["self", "people", "sayings", "strikes", "backs"] (Dr T.aa T.ag):=by
 have G_begins_of:=Gd (P:=P) (w:=w) (base:=base) T;have sc:=Q8;refine T.bs.okC Q8 (fun vs H Q E h=>?_) (fun cdv A outer s H vs Q E hcd hr h=>?_)
 .obtain⟨x,dx,a,b,c,d,pe,sa,st,ba,rfl,_⟩:=h;rfl
 .obtain⟨x,dx,a,b,c,d,pe,sa,st,ba,rfl,hx,hW,ok,hT,q⟩:=h;have hu:=w8 hr;refine⟨_,(B1 (G0 (Ke (k:=5) (fun _=>rfl) T.au (Rm hr) (A8 P0 (A8 (pv 1) (A8 (Xt T.aq.m) B0)))))
   (B1 (G0 (Ke (k:=5) (fun _=>rfl) T.au (Rm hr) (A8 P0 (A8 (pv 2) (A8 (Qz (ls:=Y1) T.bd hB (hcd.symm.trans T.bl) rfl rfl (by show ∀x:Str×NameKind,x∈_->x.2=NameKind.free->(B5 s_Weave___init__).names.lookup x.1=some NameKind.cell;decide +kernel) (by first | exact .head _ | exact .tail _ (.head _) | exact .tail _ (.tail _ (.head _))) (by decide +kernel)) B0)))))
   (B1 (C5 (i:=5) sc.nd rfl (.inr rfl) (C4 T.aZ G_begins_of (Rm hr) (A8 (pv 3) B0)))
   (B1 (G0 (Ke (k:=5) (fun _=>rfl) T.au (Rm hr) (A8 P0 (A8 (pv 3) (A8 (Qz (ls:=Y1) T.bd hB (hcd.symm.trans T.bl) rfl rfl (by show ∀x:Str×NameKind,x∈_->x.2=NameKind.free->(B5 s_Weave___init__).names.lookup x.1=some NameKind.cell;decide +kernel) (by first | exact .head _ | exact .tail _ (.head _) | exact .tail _ (.tail _ (.head _))) (by decide +kernel)) B0)))))
   (B1 (G0 (Ke (k:=5) (fun _=>rfl) T.au (Rm hr) (A8 P0 (A8 (pv 4) (A8 (Qz (ls:=Y1) T.bd hB (hcd.symm.trans T.bl) rfl rfl (by show ∀x:Str×NameKind,x∈_->x.2=NameKind.free->(B5 s_Weave___init__).names.lookup x.1=some NameKind.cell;decide +kernel) (by first | exact .head _ | exact .tail _ (.head _) | exact .tail _ (.tail _ (.head _))) (by decide +kernel)) B0)))))
   (B1 (psF K (pv 0) (U1 (R1 K) T.ap K5 (A8 (pv 1) B0)))
   (B1 (psF K (pv 0) (O2 (N':=["name", "kind", "speakers"]) (cap:=[none,none,none]) (cl:=[]) (J6 trivial trivial) rfl (piL K (pv 2)) (fun _ _ _ _=>by exact⟨(pgT K (n:=3) (C2 (pgC 0) (C2 (pgC 1) (C2 (pgC 2) J2)))),F9,(U8 (A8 (pv 0) (A8 (pv 1) (A8 (U1 (R1 K) T.ap K5 (A8 (pv 2) B0)) B0))))⟩)))
   (B1 (psF K (pv 0) (U1 (R1 K) T.ap K5 (A8 (pv 3) B0)))
   (B4 (psF K (pv 0) (U1 (R1 K) T.ap K5 (A8 (pv 4) B0)))))))))))),?_⟩
  obtain⟨lp,lsa,lst,lba⟩:=ok.len;refine B7 fun N1 hN1=>?_;have hWp:=hW.hp.at_;rw[Jp]at hWp;refine ex1 rfl fun base' cells kin=>⟨Bu base' T.aq.f Ko,(O4 T (Ca T) T.aq.b).mono (by decide), "people",a,_,rfl,hWp,by rw[AA];omega,FnHere.def T.aq.F kin,fun i z hz G l Q' sG el hQ=>?_,fun H1 s1=>?_⟩
  .rw[AF]at hz;obtain⟨p,hp,rfl⟩:=AV.mp hz;have mp:=AK hp;obtain⟨p1,p2,p3⟩:=ok.pm p mp;refine⟨l,p.1,_,p.2.1,p.2.2,rfl,Bw hW.hp.row sG el,by rw[AA,AR];omega,sG _ _ (hW.hp.row (rP p) (AH.mpr ⟨p,mp,rfl⟩)),p1,fun y=>?_,p2,p3,hQ⟩;rw[zCb]at y;unfold nP at y;rw[EH]at y;exact J4 ok.pn (by unfold nP;rw[AF,hp];rfl) y
  refine hN1 _ _ (B7 fun N2 hN2=>?_);have W1:=hW.same s1;have T1:=K8 hT s1;refine ex1 rfl ⟨T1,fun f cc H2 hf T2 hc2 hf2 nfp k2=>?_⟩;have W2:WRows H2 a b c d pe sa st ba:=W1.keep T1 k2;have hWs:=W2.hs.at_;rw[Jp]at hWs;refine fun base' cells kin=>⟨Bu base' f (Ld f cc _ _ _ _ _ fun u v H Q=>Lj [.ref a,u,v] H Q E0),?F, "sayings",b,_,rfl,hWs,by rw[AA];omega,FnHere.lam hf2,fun i z hz G l Q' sG el hQ=>⟨_,_,rfl,sG _ _ hf2,sG _ _ hc2,?_⟩,fun H3 s3=>?_⟩
  case F =>
   refine O4 (k:=4) T (Di (fr:=["people"]) (gs:=[.ref a]) ⟨rfl,rfl,rfl,rfl,by decide +kernel,by decide +kernel,by decide +kernel,by decide +kernel,by decide +kernel⟩ (cells.clos (by decide +kernel) (by decide +kernel) (by show ∀x∈_,(B5 s_Weave___init__).names.lookup x=some NameKind.cell;decide +kernel) rfl fun i x v h1 h2=>?_) fun A outer s H u v Q hr h=>⟨_,C4 T.aH (Br T) (Rm hr) (A8 (pv 2) (A8 (pv 0) (A8 (pv 1) B0))),ex1 rfl (ex1 rfl (ex1 rfl h))⟩) (Binds.all fun us hl=>by match us,hl with | [_,_],_=>rfl)
   match i,h1,h2 with
   | 0,h1,h2=>cases h1;cases h2;exact⟨1,rfl,rfl⟩
   | n+1,h1,_=>cases h1
  .rw[AF]at hz;obtain⟨p,hp,rfl⟩:=AV.mp hz;have mp:=AK hp;obtain⟨sk1,sk2,sk3⟩:=ok.sk p mp;have hp':(nS sa)[i]?=some p.2.1:=by unfold nS;rw[AF,hp];rfl
   refine⟨a,l,p.1,p.2.2.2.1,_,_,p.2.1,p.2.2.1,p.2.2.2.2,rfl,W2.hp.same sG,by rw[AA];omega,Bw W2.hs.row sG el,by rw[AA,AR];omega,sG _ _ (W2.hs.row (rS p) (AH.mpr ⟨p,mp,rfl⟩)),sG _ _ (W2.sp p mp),ok.nm _ (BN _ (AK hp')),fun y=>?_,ok.kd p mp,fun y hy=>by rw[zCb];exact sk1 y hy,sk2,sk3,hQ⟩;rw[Eu]at y;unfold nS at y;rw[EH]at y;exact J4 (BQ.mp ok.sn).1 hp' y
  refine hN2 _ _ (B7 fun N3 hN3=>?_);have W3:=W2.same s3;have T3:=K8 T2 s3;have k3:∀z o,H z=some o->z≠T.ag->H3 z=some o:=fun z o e n=>s3 _ _ (k2 z o (s1 _ _ e) n);clear hc2 hf2 W2 W1 T1 T2 k2 s1 s3 hWs hWp;refine ex1 rfl ⟨c,_,rfl,W3.ht,by rw[AA];omega,fun gg H4 s4 hgg egg=>?_⟩;rw[zBj]at egg;refine hN3 _ _ (B7 fun N4 hN4=>?_);have W4:=W3.same s4;have T4:=K8 T3 s4;refine ex1 rfl ⟨T4,fun f2 cc2 H5 hf T5 hc5 hf5 nfp k5=>?_⟩;have W5:WRows H5 a b c d pe sa st ba:=W4.keep T4 k5;have egg:H5 gg=some (.lst ((nT st).map V.str)):=k5 _ _ egg fun y=>by
   obtain⟨ps,e,_⟩:=T4;rw[y,e]at egg;cases egg
  have hWt:=W5.ht.at_;rw[Jp]at hWt;refine fun base' cells kin=>⟨Bu base' f2 (Ld f2 cc2 _ _ _ _ _ fun u v H Q=>Lv [.ref b,.ref gg,u,v] H Q E0),?F2, "strikes",c,_,rfl,hWt,by rw[AA];omega,FnHere.lam hf5,fun i z hz G l Q' sG el hQ=>⟨_,_,rfl,sG _ _ hf5,sG _ _ hc5,?_⟩,fun H6 s6=>?_⟩
  case F2 =>
   refine O4 (k:=4) T (Di (fr:=["sayings", "goals"]) (gs:=[.ref b,.ref gg]) ⟨rfl,rfl,rfl,rfl,by decide +kernel,by decide +kernel,by decide +kernel,by decide +kernel,by decide +kernel⟩ (cells.clos (by decide +kernel) (by decide +kernel) (by show ∀x∈_,(B5 s_Weave___init__).names.lookup x=some NameKind.cell;decide +kernel) rfl fun i x v h1 h2=>?_) fun A outer s H u v Q hr h=>⟨_,C4 T.aI (Ap T) (Rm hr) (A8 (pv 2) (A8 (pv 3) (A8 (pv 0) (A8 (pv 1) B0)))),ex1 rfl (ex1 rfl (ex1 rfl (ex1 rfl h)))⟩) (Binds.all fun us hl=>by match us,hl with | [_,_],_=>rfl)
   match i,h1,h2 with
   | 0,h1,h2=>cases h1;cases h2;exact⟨2,rfl,rfl⟩
   | 1,h1,h2=>cases h1;cases h2;exact⟨5,rfl,rfl⟩
   | n+2,h1,_=>cases h1
  .rw[AF]at hz;obtain⟨p,hp,rfl⟩:=AV.mp hz;have mp:=AK hp;obtain⟨t1,t2⟩:=ok.tg p mp;have hp':(nT st)[i]?=some p.2.1:=by unfold nT;rw[AF,hp];rfl
   have mt:=AK hp';obtain⟨_,ndt,dis⟩:=BQ.mp ok.sn;refine⟨b,gg,l,p.1,_,_,nT st,p.2.1,p.2.2.1,p.2.2.2,rfl,W5.hs.same sG,by rw[AA];omega,sG _ _ egg,Bw W5.ht.row sG el,by rw[AA,AR];omega,sG _ _ (W5.ht.row (rT p) (AH.mpr ⟨p,mp,rfl⟩)),ok.nm _ (BJ _ mt),fun y=>?_,fun y=>?_,by rw[Eu];exact t1,by rw[Eu];exact t2,hQ⟩
   .rw[Eu]at y;exact dis _ y _ mt rfl
   .rw[zBj]at y;unfold nT at y;rw[EH]at y;exact J4 ndt hp' y
  refine hN4 _ _ (B7 fun N5 hN5=>?_);have W6:=W5.same s6;have T6:=K8 T5 s6;have k6:∀z o,H z=some o->z≠T.ag->H6 z=some o:=fun z o e n=>s6 _ _ (k5 z o (s4 _ _ (k3 z o e n)) n);clear hc5 hf5 W5 W4 T4 T5 k5 s4 s6 hWt W3 T3 k3 egg;refine ex1 rfl ⟨T6,fun f3 cc3 H7 hf T7 hc7 hf7 nfp k7=>?_⟩;have W7:WRows H7 a b c d pe sa st ba:=W6.keep T6 k7;refine fun base' cells kin=>⟨Bu base' f3 (Ld f3 cc3 _ _ _ _ _ fun u v H Q=>Ly [.ref b,u,v] H Q E0),?F3, "backs",d,ba.map fun q=>q.1,rfl,by rw[W7.hb];unfold I9;rw[BA];rfl,by rw[AA];omega,FnHere.lam hf7,fun i z hz G l Q' sG el hQ=>⟨_,_,rfl,sG _ _ hf7,sG _ _ hc7,?_⟩,fun H8 s8=>?_⟩
  case F3 =>
   refine O4 (k:=4) T (Di (fr:=["sayings"]) (gs:=[.ref b]) ⟨rfl,rfl,rfl,rfl,by decide +kernel,by decide +kernel,by decide +kernel,by decide +kernel,by decide +kernel⟩ (cells.clos (by decide +kernel) (by decide +kernel) (by show ∀x∈_,(B5 s_Weave___init__).names.lookup x=some NameKind.cell;decide +kernel) rfl fun i x v h1 h2=>?_) fun A outer s H u v Q hr h=>⟨_,C4 T.aS (Dh T) (Rm hr) (A8 (pv 2) (A8 (pv 0) (A8 (pv 1) B0))),ex1 rfl (ex1 rfl (ex1 rfl h))⟩) (Binds.all fun us hl=>by match us,hl with | [_,_],_=>rfl)
   match i,h1,h2 with
   | 0,h1,h2=>cases h1;cases h2;exact⟨2,rfl,rfl⟩
   | n+1,h1,_=>cases h1
  .rw[AF]at hz;obtain⟨p,hp,rfl⟩:=AV.mp hz;have mp:=AK hp;obtain⟨b1,b2,b3⟩:=ok.bk p mp;have nmb:∀x∈nS sa,F7 x=true:=fun x hx=>ok.nm x (BN _ hx);have tk:∀q∈ba.take i,q∈ba:=fun q hq=>BO hq;refine⟨b,l,p.1,_,ba.take i,p.2.1,p.2.2,rfl,W7.hs.same sG,by rw[AA];omega,by rw[el,<-EH,BA];rfl,fun q hq=>sG _ _ (W7.pb q (tk q hq)),fun q hq=>⟨nmb _ (ok.bk q (tk q hq)).1,nmb _ (ok.bk q (tk q hq)).2.1⟩,sG _ _ (W7.pb p mp),nmb _ b1,nmb _ b2,fun y=>?_,by rw[Eu];exact b1,by rw[Eu];exact b2,b3,hQ⟩;rw[EH]at y;exact J4 ok.bn (by rw[AF,hp];rfl) y
  refine hN5 _ _ (B7 fun N6 hN6=>?_);have W8:=W7.same s8;have T8:=K8 T7 s8;have k8:∀z o,H z=some o->z≠T.ag->H8 z=some o:=fun z o e n=>s8 _ _ (k7 z o (k6 z o e n) n);clear hc7 hf7 W7 W6 T6 T7 k7 s8 k6;have xp:x≠T.ag:=fun y=>by
   obtain⟨ps,e,_⟩:=hT;rw[<-y,hx]at e;cases e
  have x8:=k8 _ _ hx xp;have new8:∀{z:Addr},H8 z=none->H z=none:=fun{z} h=>by
   cases y:H z with
   | none=>rfl
   | some o =>
    have ne:z≠T.ag:=fun e=>by
     obtain⟨ps,e8,_⟩:=T8;rw[e,e8]at h;cases h
    rw[k8 z o y ne]at h;cases h
  refine ex1 rfl ⟨a,_,rfl,.inl (SqL.of W8.hp.at_),fun l1 hl1=>?_⟩;have nx1:x≠l1:=B2 x8 hl1;refine ex1 rfl ⟨x,T.aa,dx,[],rfl,by rw[B6 nx1];exact x8,T.ae,T.aW,by decide,?_⟩;have nin:∀{b:Addr},b≠x->b∉[x]:=fun h z=>h (AC.mp z);have k9:Sm [x] H8 (upd (upd H8 l1 (.lst ((pe.map rP).map fun q=>V.ref q.1))) x (.ins T.aa dx (M8 "people" (.ref l1) []))):=(Sm.new (Sm.refl _ _) hl1).upd (by simp);have e9:(upd (upd H8 l1 (.lst ((pe.map rP).map fun q=>V.ref q.1))) x (.ins T.aa dx (M8 "people" (.ref l1) []))) l1=some (.lst ((pe.map rP).map fun q=>V.ref q.1)):=by rw[B6 nx1.symm,A9]
  have x9:(upd (upd H8 l1 (.lst ((pe.map rP).map fun q=>V.ref q.1))) x (.ins T.aa dx (M8 "people" (.ref l1) []))) x=some (.ins T.aa dx [("people",.ref l1)]):=by rw[A9];rfl
  refine hN6 _ _ ?_;show zAs _ _ _ _ (upd (upd H8 l1 (.lst ((pe.map rP).map fun q=>V.ref q.1))) x (.ins T.aa dx (M8 "people" (.ref l1) [])));generalize upd (upd H8 l1 (.lst ((pe.map rP).map fun q=>V.ref q.1))) x (.ins T.aa dx (M8 "people" (.ref l1) []))=H9 at k9 e9 x9⊢;have W9:=W8.keepX x8 k9;have T9:=Ac T8 x8 k9;refine B7 fun N7 hN7=>?_;refine ex1 rfl ⟨b,rfl,⟨_,SqL.of W9.hs.at_⟩,fun D hD=>?_⟩;refine K7 (asL (K:=K) (SqL.of W9.hs.at_)) (fun i σ G=>(∃v0 v1 v2,σ = [v0,v1,v2])/\Same H9 G/\∃sa':List SAr,RowsAt G D (sa'.map rS)/\(∀q∈sa',q.2.2.2.1≠D/\G q.2.2.2.1=some (.lst (q.2.2.2.2.map V.str))/\H9 q.2.2.2.1=none)/\sa'.map dS =(sa.take i).map dS)
   ⟨⟨_,_,_,rfl⟩,Same.new hD,[],⟨A9,fun q h=>absurd h AM⟩,fun q h=>absurd h AM,rfl⟩ (fun i σ G _ ⟨_,s1,_⟩=>s1.at b) ?_ ?_
  .rintro i σ G v N hv ⟨⟨v0,v1,v2,rfl⟩,sG,sa',RG,spG,dG⟩ hN;rw[BA,AF]at hv;obtain⟨p,hp,rfl⟩:=AV.mp hv;have mp:=AK hp;have li:=(AU.mp hp).1;have lsa':=congrArg List.length dG;rw[AA,AA,AR]at lsa';have ep:=sG _ _ (W9.hs.row (rS p) (AH.mpr ⟨p,mp,rfl⟩));have es:=sG _ _ (W9.sp p mp);refine⟨p.1,ex1 rfl ⟨SqT.of ep,rfl,_,ex1 rfl ⟨_,ex1 rfl (B9 rfl rfl ?_)⟩⟩⟩;dsimp only[Dj];refine y8 ?_;refine ex1 rfl (ex1 rfl (ex1 rfl ⟨p.2.2.2.1,_,rfl,.inl (SqL.of es),fun l hl=>⟨by show 3<=sizeLine;decide,fun t ht=>?_⟩⟩));have ul:=Same.new (o:=.lst (p.2.2.2.2.map V.str)) hl;have nlD:l≠D:=(B2 RG.at_ hl).symm;have ntD:t≠D:=(B2 (ul _ _ RG.at_) ht).symm;have ntl:l≠t:=B2 A9 ht;have el:(upd (upd G l (.lst (p.2.2.2.2.map V.str))) t (.tup [.str (rS p).2.1,.str p.2.2.1,.ref l])) l=some (.lst (p.2.2.2.2.map V.str)):=by rw[B6 ntl,A9]
   have et:(upd (upd G l (.lst (p.2.2.2.2.map V.str))) t (.tup [.str (rS p).2.1,.str p.2.2.1,.ref l])) t=some (.tup [.str (rS p).2.1,.str p.2.2.1,.ref l]):=A9;have ut:=ul.trans (Same.new (o:=.tup [.str (rS p).2.1,.str p.2.2.1,.ref l]) ht);generalize upd (upd G l (.lst (p.2.2.2.2.map V.str))) t (.tup [.str (rS p).2.1,.str p.2.2.1,.ref l])=G2 at el et ut⊢;have RG2:=RG.same ut;refine⟨_,RG2.at_,by rw[AA,AA,sizeLine_eq];omega,hN _ _ ⟨⟨_,_,_,rfl⟩,(sG.trans ut).upd hD,sa' ++ [(t,p.2.1,p.2.2.1,l,p.2.2.2.2)],⟨by rw[A9,AL,AL];rfl,fun z hz=>?_⟩,fun z hz=>?_,by rw[AL,dG,C8 hp,AL];rfl⟩⟩
   .rw[AL]at hz;rcases AI.mp hz with y | y
    .exact(B6 (P8 (RG2.row z y) RG2.at_ (by intro z;cases z))).trans (RG2.row z y)
    .rw[AC.mp y];exact(B6 ntD).trans et
   .rcases AI.mp hz with y | y
    .exact⟨(spG z y).1,(B6 (spG z y).1).trans (ut _ _ (spG z y).2.1),(spG z y).2.2⟩
    .rw[AC.mp y];exact⟨nlD,(B6 nlD).trans el,none_of sG.sm AM hl⟩
  .rintro σ G ⟨_,sG,sa',RG,spG,dG⟩;rw[AA,AA,BR]at dG;have x10:=sG _ _ x9;refine ex1 rfl ⟨x,T.aa,dx,_,rfl,x10,T.ae,T.ak,by simp,?_⟩;have k11:Sm [x] G (upd G x (.ins T.aa dx (M8 "sayings" (.ref D) [("people",.ref l1)]))):=(Sm.refl _ _).upd (by simp);have x11:(upd G x (.ins T.aa dx (M8 "sayings" (.ref D) [("people",.ref l1)]))) x=some (.ins T.aa dx [("people",.ref l1),("sayings",.ref D)]):=by rw[A9];rfl
   have W11:=(W9.same sG).keepX x10 k11;have T11:=Ac (K8 T9 sG) x10 k11;have kx:∀{z:Addr} {o:HO},G z=some o->z≠x->(upd G x (.ins T.aa dx (M8 "sayings" (.ref D) [("people",.ref l1)]))) z=some o:=fun e n=>(B6 n).trans e;have nxl:∀{z:Addr} {xs:List V},G z=some (.lst xs)->z≠x:=fun e=>P8 e x10 (by intro z;cases z);have nxt:∀{z:Addr} {xs:List V},G z=some (.tup xs)->z≠x:=fun e=>P8 e x10 (by intro z;cases z);have p11:=kx (sG _ _ e9) (nxl (sG _ _ e9));have R11:RowsAt (upd G x (.ins T.aa dx (M8 "sayings" (.ref D) [("people",.ref l1)]))) D (sa'.map rS):=⟨kx RG.at_ (nxl RG.at_),fun q hq=>kx (RG.row q hq) (nxt (RG.row q hq))⟩;have S11:∀q∈sa',(upd G x (.ins T.aa dx (M8 "sayings" (.ref D) [("people",.ref l1)]))) q.2.2.2.1=some (.lst (q.2.2.2.2.map V.str)):=fun q hq=>kx (spG q hq).2.1 (nxl (spG q hq).2.1);have m11:Sm [x] H8 (upd G x (.ins T.aa dx (M8 "sayings" (.ref D) [("people",.ref l1)]))):=(k9.trans sG.sm).trans k11;refine hN7 _ _ ?_;generalize upd G x (.ins T.aa dx (M8 "sayings" (.ref D) [("people",.ref l1)]))=H11 at x11 W11 T11 p11 R11 S11 m11⊢;have n9:∀{z:Addr},H9 z=none->H z=none:=fun{z} h=>new8 (none_of k9 (fun y=>by rw[AC.mp y,x9]at h;cases h) h);have nD:=n9 hD;have nS':∀q∈sa',H q.2.2.2.1=none:=fun q hq=>n9 (spG q hq).2.2;clear kx nxl nxt k11 W9 T9 RG spG x10 sG hD k9 e9 n9;refine B7 fun N8 hN8=>?_;refine ex1 rfl ⟨c,_,rfl,.inl (SqL.of W11.ht.at_),fun l2 hl2=>?_⟩;have nx2:x≠l2:=B2 x11 hl2;have nl2:=new8 (none_of m11 (fun y=>nx2 (AC.mp y).symm) hl2);refine ex1 rfl ⟨x,T.aa,dx,_,rfl,by rw[B6 nx2];exact x11,T.ae,T.an,by simp,?_⟩;have k12:Sm [x] H11 (upd (upd H11 l2 (.lst ((st.map rT).map fun q=>V.ref q.1))) x (.ins T.aa dx (M8 "strikes" (.ref l2) [("people",.ref l1),("sayings",.ref D)]))):=(Sm.new (Sm.refl _ _) hl2).upd (by simp);have e12:(upd (upd H11 l2 (.lst ((st.map rT).map fun q=>V.ref q.1))) x (.ins T.aa dx (M8 "strikes" (.ref l2) [("people",.ref l1),("sayings",.ref D)]))) l2=some (.lst ((st.map rT).map fun q=>V.ref q.1)):=by rw[B6 nx2.symm,A9]
   have x12:(upd (upd H11 l2 (.lst ((st.map rT).map fun q=>V.ref q.1))) x (.ins T.aa dx (M8 "strikes" (.ref l2) [("people",.ref l1),("sayings",.ref D)]))) x=some (.ins T.aa dx [("people",.ref l1),("sayings",.ref D),("strikes",.ref l2)]):=by rw[A9];rfl
   refine hN8 _ _ ?_;show zDd _ _ _ _ _ _ (upd (upd H11 l2 (.lst ((st.map rT).map fun q=>V.ref q.1))) x (.ins T.aa dx (M8 "strikes" (.ref l2) [("people",.ref l1),("sayings",.ref D)])));generalize upd (upd H11 l2 (.lst ((st.map rT).map fun q=>V.ref q.1))) x (.ins T.aa dx (M8 "strikes" (.ref l2) [("people",.ref l1),("sayings",.ref D)]))=H12 at k12 e12 x12⊢;have W12:=W11.keepX x11 k12;have T12:=Ac T11 x11 k12;have kx:∀{z:Addr} {o:HO},H11 z=some o->z≠x->H12 z=some o:=fun e n=>k12 _ _ e (nin n);have nxl:∀{z:Addr} {xs:List V},H11 z=some (.lst xs)->z≠x:=fun e=>P8 e x11 (by intro z;cases z);have nxt:∀{z:Addr} {xs:List V},H11 z=some (.tup xs)->z≠x:=fun e=>P8 e x11 (by intro z;cases z);have p12:=kx p11 (nxl p11);have R12:RowsAt H12 D (sa'.map rS):=⟨kx R11.at_ (nxl R11.at_),fun q hq=>kx (R11.row q hq) (nxt (R11.row q hq))⟩;have S12:∀q∈sa',H12 q.2.2.2.1=some (.lst (q.2.2.2.2.map V.str)):=fun q hq=>kx (S11 q hq) (nxl (S11 q hq));have m12:=m11.trans k12;clear kx nxl nxt p11 R11 S11 W11 T11 k12 m11 x11;refine ex1 rfl ⟨d,_,rfl,.inl (SqL.of W12.hb),fun l3 hl3=>?_⟩;have nx3:x≠l3:=B2 x12 hl3;have nl3:=new8 (none_of m12 (fun y=>nx3 (AC.mp y).symm) hl3);refine ex1 rfl ⟨x,T.aa,dx,_,rfl,by rw[B6 nx3];exact x12,T.ae,T.a4,by simp,?_⟩;have k13:Sm [x] H12 (upd (upd H12 l3 (.lst (I9 ba))) x (.ins T.aa dx (M8 "backs" (.ref l3) [("people",.ref l1),("sayings",.ref D),("strikes",.ref l2)]))):=(Sm.new (Sm.refl _ _) hl3).upd (by simp);have e13:(upd (upd H12 l3 (.lst (I9 ba))) x (.ins T.aa dx (M8 "backs" (.ref l3) [("people",.ref l1),("sayings",.ref D),("strikes",.ref l2)]))) l3=some (.lst (I9 ba)):=by rw[B6 nx3.symm,A9]
   have x13:(upd (upd H12 l3 (.lst (I9 ba))) x (.ins T.aa dx (M8 "backs" (.ref l3) [("people",.ref l1),("sayings",.ref D),("strikes",.ref l2)]))) x=some (.ins T.aa dx (wfW l1 D l2 l3)):=by rw[A9];rfl
   show Q .non (upd (upd H12 l3 (.lst (I9 ba))) x (.ins T.aa dx (M8 "backs" (.ref l3) [("people",.ref l1),("sayings",.ref D),("strikes",.ref l2)])));generalize upd (upd H12 l3 (.lst (I9 ba))) x (.ins T.aa dx (M8 "backs" (.ref l3) [("people",.ref l1),("sayings",.ref D),("strikes",.ref l2)]))=H13 at k13 e13 x13⊢;have kx:∀{z:Addr} {o:HO},H12 z=some o->z≠x->H13 z=some o:=fun e n=>k13 _ _ e (nin n);have nxl:∀{z:Addr} {xs:List V},H12 z=some (.lst xs)->z≠x:=fun e=>P8 e x12 (by intro z;cases z);have nxt:∀{z:Addr} {xs:List V},H12 z=some (.tup xs)->z≠x:=fun e=>P8 e x12 (by intro z;cases z);refine q sa' H13 (fun z o e n=>?_) (Ac T12 x12 k13) dG ⟨dx,l1,D,l2,l3,x13,⟨⟨kx p12 (nxl p12),fun q hq=>kx (W12.hp.row q hq) (nxt (W12.hp.row q hq))⟩,⟨kx R12.at_ (nxl R12.at_),fun q hq=>kx (R12.row q hq) (nxt (R12.row q hq))⟩,fun q hq=>kx (S12 q hq) (nxl (S12 q hq)),⟨kx e12 (nxl e12),fun q hq=>kx (W12.ht.row q hq) (nxt (W12.ht.row q hq))⟩,e13,fun q hq=>kx (W12.pb q hq) (nxt (W12.pb q hq))⟩,new8 hl1,nD,nl2,nl3,nS'⟩;have nz:z≠x/\z≠T.ag:=by simpa using n
   exact kx (m12 _ _ (k8 z o e nz.2) (nin nz.1)) nz.1
end
def Ti(rs:List RW)(n:Str):V:=match rs.find? fun q=>decide (q.2.1=n)with | some q=>.ref q.1 | none=>.non
theorem Xu{α:Type}{p:α->Bool}{xs:List α}{i:Nat}{y:α}(h:xs[i]?=some y)(no:∀q∈xs.take i,p q=false)(e:p y=true):xs.find? p=some y:=by
 induction xs generalizing i with
 | nil=>cases h
 | cons a r ih =>
  cases i with
  | zero=>cases h;rw[List.find?_cons_of_pos e]
  | succ i =>
   rw[List.take_succ_cons]at no;have na:=no a (AW ..);rw[List.find?_cons_of_neg (by rw[na];exact AZ)];exact ih h fun q hq=>no q (AO _ hq)
def Eo(sa:List SAr)(n:Str):Option SAr:=sa.find? fun q=>decide (q.2.1=n)
def L6(st:List STr)(n:Str):Option STr:=st.find? fun q=>decide (q.2.1=n)
theorem zCg(sa:List SAr)(n:Str):Ti (sa.map rS) n=match Eo sa n with | some q=>.ref q.1 | none=>.non:=by
 unfold Ti Eo;rw[List.find?_map];have e:((fun q:RW=>decide (q.2.1=n))∘rS)=fun q:SAr=>decide (q.2.1=n):=rfl;rw[e];cases sa.find? fun q:SAr=>decide (q.2.1=n)<;>rfl
theorem Wl(st:List STr)(n:Str):Ti (st.map rT) n=match L6 st n with | some q=>.ref q.1 | none=>.non:=by
 unfold Ti L6;rw[List.find?_map];have e:((fun q:RW=>decide (q.2.1=n))∘rT)=fun q:STr=>decide (q.2.1=n):=rfl;rw[e];cases st.find? fun q:STr=>decide (q.2.1=n)<;>rfl
theorem Rx{α:Type}{J:It}{ys:List α}{r:α->V}(f:α->V)(p:α->Bool){a D:Addr}{H:Hp}(as:AsSeq J (ys.map r) a H){g:TG}{tc:TT}{te:TE}{σ0:St}{Q:St->Hp->Prop}(S:St->Prop)(h0:S σ0)(len:ys.length<=5000)(hD:H D=none)
  (he:∀y∈ys,∀σ G,S σ->Same H G->∀(M:St->VK) (N:St->Hp->Prop),(∀σ' G',S σ'->Same G G'->p y=true->M σ' (f y) G')->(∀σ' G',S σ'->Same G G'->p y=false->N σ' G')->g (r y) σ G fun σ2 H2=>tc σ2 H2 fun b H3=>if b=true then te σ2 H3 (M σ2)else N σ2 H3)
  (q:∀σ G,Same H G->G D=some (.lst ((ys.filter p).map f))->Q σ G):Ej g tc (w4 D te) J σ0 (upd H D (.lst [])) Q:=by
 refine K7 as (fun i σ G=>S σ/\Same H G/\G D=some (.lst (((ys.take i).filter p).map f))) ⟨h0,Same.new hD,A9⟩ (fun i σ G _ h=>h.2.1.at a) ?_ ?_
 .rintro i σ G v N hx ⟨hS,sG,eG⟩ hN;rw[AF]at hx;obtain⟨y,hy,rfl⟩:=AV.mp hx;have my:=AK hy;have hs:(ys.take (i+1)).filter p =(ys.take i).filter p++if p y=true then [y]else []:=by
   rw[C8 hy,EY,EE,List.filter_nil]
  have hl:=DL p (ys.take i);rw[AR]at hl;refine he y my σ G hS sG (fun σ2 v H1=>∃ys,H1 D=some (HO.lst ys)/\ys.length<sizeLine/\N σ2 (upd H1 D (HO.lst (ys ++ [v])))) N (fun σ' G' hS' s' c=>⟨_,s' _ _ eG,?_,hN _ _ ⟨hS',(sG.trans s').upd hD,?_⟩⟩) fun σ' G' hS' s' c=>hN _ _ ⟨hS',sG.trans s',?_⟩
  .rw[AA,sizeLine_eq];omega
  .rw[A9,hs,AY c,AL];rfl
  .rw[hs,AS (by rw[c];exact AZ),CL];exact s' _ _ eG
 .rintro σ G ⟨_,sG,eG⟩;rw[AA,BR]at eG;exact q σ G sG eG
theorem P1{α:Type}{f:α->Str}{xs:List α}{n:Str}(h:n∈xs.map f):∃y,xs.find? (fun q=>decide (f q=n))=some y/\y∈xs/\f y=n:=by
 cases e:xs.find? fun q=>decide (f q=n)with
 | some y=>exact⟨y,rfl,CG e,BG (List.find?_some (p:=fun q=>decide (f q=n)) e)⟩
 | none =>
  obtain⟨y,hy,e2⟩:=AH.mp h;exact absurd (AG e2) (GJ.mp e y hy)
section
variable{P:Program}{w:World}{K:PySem.W.Frag}{mg:Str->Option Value}{base:Heap}
theorem Fv:FnScope ["rows", "name", "row"] ["rows", "name"] (B5 s_row_of):=fsc
def Ur:Sp:=fun vs H Q _=>∃(l:Addr) (rs:List RW) (n:Str),vs = [.ref l,.str n]/\RowsAt H l rs/\rs.length<=1000/\Q (Ti rs n) H
theorem a8(T:Tx K mg):FnOk P w K mg base CX0 1 T.aL.f T.aL.fd ["rows", "name"] Ur:=by
 have sc:=Fv;refine T.aL.F.ok Fv (fun vs H Q E h=>?_) (fun cdv A outer s H vs Q E hr h=>?_)
 .obtain⟨l,rs,n,rfl,_⟩:=h;rfl
 .obtain⟨l,rs,n,rfl,hR,len,q⟩:=h;refine⟨_,(B1 (P4 PassesOwn.never rfl (piL K (pv 0)) (D6 (i:=2) sc.nd rfl (.inl rfl))
   (B4 (I0 (C3 Z8 (C6 (ixT K) (pv 2) B3 (fun _ _=>rfl)) (pv 1) (D8 _)) (B4 (C0 (pv 2))) D0)))
   (B4 (C0 Cs))),?_⟩
  refine B7 fun N1 hN1=>?_;refine ex1 rfl ⟨l,rfl,⟨_,SqL.of hR.at_⟩,Y3 (asL (SqL.of hR.at_)) (fun i σ G=>(∃v,σ = [some (.ref l),some (.str n),v])/\G=H/\∀q∈rs.take i,decide (q.2.1=n)=false) ?_ ?_ ?_ ?_⟩
  .exact⟨⟨_,rfl⟩,rfl,fun q h=>absurd h AM⟩
  .rintro i σ G _ ⟨_,rfl,_⟩ o e;exact e
  .rintro i σ G v hv ⟨⟨v0,rfl⟩,rfl,no⟩ D1 hD1 hrt;rw[AF]at hv;obtain⟨y,hy,rfl⟩:=AV.mp hv;have my:=AK hy;refine ex1 rfl ⟨y.1,_,B9 rfl rfl ⟨SqT.of (hR.row y my),B8 (j:=0) rfl,ex1 rfl ⟨rfl,_,rfl,Z7 (fun h=>?_) (fun h=>?_)⟩⟩⟩
   .have e:y.2.1=n:=by simpa using h
    refine ex1 rfl ?_;rw[hrt];have er:Ti rs n = .ref y.1:=by
     unfold Ti;rw[Xu hy no (AG e)]
    rw[er]at q;exact q
   .have e:decide (y.2.1=n)=false:=by simpa using h
    refine hD1 _ _ ⟨⟨_,rfl⟩,rfl,fun z hz=>?_⟩;rw[C8 hy]at hz;rcases AI.mp hz with hz | hz
    .exact no z hz
    .rw[AC.mp hz];exact e
  .rintro σ G ⟨⟨v0,rfl⟩,rfl,no⟩;rw[AA,BR]at no;refine hN1 _ _ ?_;have er:Ti rs n = .non:=by
    unfold Ti;rw[GJ.mpr fun z hz=>by rw[no z hz];exact AZ]
   rw[er]at q;exact q
theorem r6:FnScope ["weave", "name", "saying"] ["weave", "name"] (B5 s_saying_of):=fsc
def Tq(C:Addr):Sp:=fun vs H Q _=>∃(x:Addr) (pe:List PEr) (sa:List SAr) (st:List STr) (ba:List PA2) (n:Str) (y:SAr),vs = [.ref x,.str n]/\WeaveAt C H x pe sa st ba/\sa.length<=30/\Eo sa n=some y/\Q (.ref y.1) H
theorem t0(T:Tx K mg):FnOk P w K mg base CX0 2 T.aP.f T.aP.fd ["weave", "name"] (Tq T.aa):=by
 have G_row_of:=a8 (P:=P) (w:=w) (base:=base) T;have sc:=r6;refine T.aP.F.ok r6 (fun vs H Q E h=>?_) (fun cdv A outer s H vs Q E hr h=>?_)
 .obtain⟨x,pe,sa,st,ba,n,y,rfl,_⟩:=h;rfl
 .obtain⟨x,pe,sa,st,ba,n,y,rfl,⟨dx,a,b,c,d,hx,W⟩,l30,ey,q⟩:=h;refine⟨_,(B1 (C5 (i:=2) sc.nd rfl (.inl rfl) (C4 T.aL G_row_of (Rm hr) (A8 (peF K (pv 0)) (A8 (pv 1) B0))))
   (B1 (I0 (C3 Ow (pv 2) Cs (D8 _)) (B4 X3) D0)
   (B4 (C0 (pv 2))))),?_⟩
  refine B7 fun N1 hN1=>?_;refine ex1 rfl ⟨x,_,_,_,_,rfl,hx,T.ae,T.ak,rfl,ex1 rfl ⟨b,_,n,rfl,W.hs,by rw[AA];omega,?_⟩⟩;rw[zCg,ey];refine hN1 _ _ (B7 fun N2 hN2=>?_);exact ex1 rfl ⟨rfl,false,congrArg V.bl (BC fun z=>by cases z),X4 (hN2 _ _ (ex1 rfl q))⟩
end
def mx(ns:List Int):Int:=ns.foldr max 0
theorem zAp:∀ns:List Int,0<=mx ns
 | []=>Int.le_refl 0
 | a::r=>Int.le_trans (zAp r) (Int.le_max_right _ _)
theorem Wq:∀{ns:List Int} {a:Int},a∈ns->a<=mx ns
 | b::r,a,h=>by
  rcases AX.mp h with rfl | h
  .exact Int.le_max_left _ _
  .exact Int.le_trans (Wq h) (Int.le_max_right _ _)
theorem Rl:∀ns:List Int,mx ns=0\/mx ns∈ns
 | []=>.inl rfl
 | a::r=>by
  by_cases h:a<=mx r
  .have e:mx (a::r)=mx r:=Int.max_eq_right h;rw[e];exact(Rl r).imp id (AO _)
  .have e:mx (a::r)=a:=Int.max_eq_left (show mx r<=a by omega);rw[e];exact .inr (AW ..)
theorem zCt{ns:List Int}{m:Int}(h1:m∈ns)(h2:∀a∈ns,a<=m)(h0:∀a∈ns,0<=a):mx ns=m:=by
 have l:=Wq h1;have z:=h0 m h1;rcases Rl ns with e | e
 .omega
 .have:=h2 _ e;omega
def grt(pe:List PEr)(ss:List Str):Int:=mx ((pe.filter fun q=>decide (q.2.1∈ss)).map fun q=>q.2.2)
def Mh(pe:List PEr)(k:Str)(ss:List Str):Int:=if k = "fact" then grt pe ss+10 else grt pe ss
def Y9(pe:List PEr)(sa:List SAr)(st:List STr)(n:Str):Option Int:=(Eo sa (match L6 st n with | some q=>q.2.2.1 | none=>n)).map fun q=>Mh pe q.2.2.1 q.2.2.2.2
section
variable{P:Program}{w:World}{K:PySem.W.Frag}{mg:Str->Option Value}{base:Heap}
theorem P9:FnScope ["weave", "saying", "name", "kind", "speakers", "greatest"] ["weave", "saying"] (B5 s_saying_strength):=fsc
def Sq(C:Addr):Sp:=fun vs H Q _=>∃(x t l:Addr) (pe:List PEr) (sa:List SAr) (st:List STr) (ba:List PA2) (n k:Str) (ss:List Str),vs = [.ref x,.ref t]/\WeaveAt C H x pe sa st ba/\pe.length<=30/\H t=some (.tup [.str n,.str k,.ref l])/\H l=some (.lst (ss.map V.str))/\(∀q∈pe,0<=q.2.2)/\∀H',Same H H'->Q (.int (Mh pe k ss)) H'
set_option maxHeartbeats 2000000 in
theorem b8(T:Tx K mg):FnOk P w K mg base CX0 1 T.as.f T.as.fd ["weave", "saying"] (Sq T.aa):=by
 have sc:=P9;refine T.as.F.ok P9 (fun vs H Q E h=>?_) (fun cdv A outer s H vs Q E hr h=>?_)
 .obtain⟨x,t,l,pe,sa,st,ba,n,k,ss,rfl,_⟩:=h;rfl
 .obtain⟨x,t,l,pe,sa,st,ba,n,k,ss,rfl,⟨dx,a,b,c,d,hx,W⟩,l30,et,el,nn,q⟩:=h;refine⟨_,(B1 (Hh (pv 1) (pgT K (n:=3) (C2 (D6 (i:=2) sc.nd rfl (.inl rfl)) (C2 (D6 (i:=3) sc.nd rfl (.inl rfl)) (C2 (D6 (i:=4) sc.nd rfl (.inr rfl)) J2)))))
   (B1 (C5 (i:=5) sc.nd rfl (.inl rfl) (Yz K T.bE (A8 (O2 (N':=["person", "rank", "speakers"]) (cap:=[none,none,some 4]) (cl:=[("speakers",_)]) (J6 ⟨⟨rfl,rfl,rfl,rfl⟩,trivial⟩ ⟨rfl,trivial⟩) rfl (piL K (peF K (pv 0))) (fun _ _ _ _=>by exact⟨(pgT K (n:=2) (C2 (pgC 0) (C2 (pgC 1) J2))),(K6 (C3 (S9 K) (pv 0) (pv 2) rfl)),(pv 1)⟩)) B0) B3))
   (B4 (C0 (Mc (C3 Z8 (pv 3) P0 (D8 _)) (F8 U6 (pv 5) (Xx T.bw)) (pv 5)))))),?_⟩
  refine B7 fun N1 hN1=>?_;refine ex1 rfl ⟨t,ex1 rfl ⟨SqT.of et,rfl,_,ex1 rfl ⟨_,ex1 rfl (B9 rfl rfl ?_)⟩⟩⟩;refine hN1 _ _ (B7 fun N2 hN2=>?_);refine ex1 rfl ⟨x,_,_,_,_,rfl,hx,T.ae,T.aW,rfl,a,rfl,⟨_,SqL.of W.hp.at_⟩,fun D hD=>?_⟩;have as1:=asL (K:=K) (SqL.of W.hp.at_);rw[BA]at as1;refine Rx (fun q:PEr=>V.int q.2.2) (fun q:PEr=>decide (q.2.1∈ss)) as1 (fun σ=>∃v0 v1,σ = [v0,v1,some (.ref l)]) ⟨_,_,rfl⟩ (by omega) hD ?_ fun σ H1 s1 e1=>?_
  .rintro y hy σ G ⟨v0,v1,rfl⟩ sG M N hM hN;have ey:=sG _ _ (W.hp.row (rP y) (AH.mpr ⟨y,hy,rfl⟩));refine⟨y.1,ex1 rfl ⟨SqT.of ey,rfl,_,ex1 rfl (B9 rfl rfl ?_)⟩⟩;refine ex1 rfl (ex1 rfl (G9 (x:=y.2.1) (.inl (SqL.of (sG _ _ el))) ⟨_,rfl,Z7 (fun h=>ex1 rfl (hM _ _ ⟨_,_,rfl⟩ (fun _ _ z=>z) h)) (fun h=>hN _ _ ⟨_,_,rfl⟩ (fun _ _ z=>z) (DJ.mpr h))⟩))
  have e1':H1 D=some (.lst (((pe.filter fun q=>decide (q.2.1∈ss)).map fun q=>q.2.2).map V.int)):=by rw[e1,BA];rfl
  have fin:∀m,m=grt pe ss->N2 [some (.ref x),some (.ref t),some (.str n),some (.str k),some (.ref l),some (.int m)] H1:=fun m em=>by
   refine hN2 _ _ ?_;have es:∀b:Bool,(b=true↔k = "fact")->Mh pe k ss=if b=true then m+10 else m:=fun b hb=>by
    unfold Mh;rw[<-em];by_cases h:k = "fact"
    .rw[AY h,AY (hb.mpr h)]
    .rw[AS h,AS fun z=>h (hb.mp z)]
   refine ex1 rfl ⟨rfl,_,rfl,Z7 (fun h=>?_) (fun h=>?_)⟩
   .have e:k = "fact":=by simpa using h
    have:=q H1 s1;rw[es true ⟨fun _=>e,fun _=>rfl⟩,AY rfl]at this;exact ex1 rfl (B9 rfl rfl this)
   .have e:¬k = "fact":=by simpa using h
    have:=q H1 s1;rw[es false ⟨fun z=>(AZ z).elim,fun z=>(e z).elim⟩,AS AZ]at this;exact ex1 rfl this
  refine⟨D,_,0,rfl,rfl,SqL.of e1',fun e=>fin 0 ?_,fun m hm hle=>fin m ?_⟩
  .unfold grt;rw[e];rfl
  .refine(zCt hm hle fun z hz=>?_).symm;obtain⟨y,hy,rfl⟩:=AH.mp hz;exact nn y (BW.mp hy).1
theorem Al:FnScope ["weave", "name", "strike"] ["weave", "name"] (B5 s_strength):=fsc
def Oz(C:Addr):Sp:=fun vs H Q _=>∃(x:Addr) (pe:List PEr) (sa:List SAr) (st:List STr) (ba:List PA2) (n:Str) (v:Int),vs = [.ref x,.str n]/\WeaveAt C H x pe sa st ba/\(pe.length<=30/\sa.length<=30/\st.length<=30)/\(∀q∈pe,0<=q.2.2)/\Y9 pe sa st n=some v/\∀H',Same H H'->Q (.int v) H'
set_option maxHeartbeats 2000000 in
theorem Ii(T:Tx K mg):FnOk P w K mg base CX0 3 T.aT.f T.aT.fd ["weave", "name"] (Oz T.aa):=by
 have G_row_of:=a8 (P:=P) (w:=w) (base:=base) T;have G_saying_of:=t0 (P:=P) (w:=w) (base:=base) T;have G_saying_strength:=b8 (P:=P) (w:=w) (base:=base) T;have sc:=Al;refine T.aT.F.ok Al (fun vs H Q E h=>?_) (fun cdv A outer s H vs Q E hr h=>?_)
 .obtain⟨x,pe,sa,st,ba,n,v,rfl,_⟩:=h;rfl
 .obtain⟨x,pe,sa,st,ba,n,v,rfl,hW,⟨l1,l2,l3⟩,nn,ev,q⟩:=h;obtain⟨dx,a,b,c,d,hx,W⟩:=hW;have hW:WeaveAt T.aa H x pe sa st ba:=⟨dx,a,b,c,d,hx,W⟩;refine⟨_,(B1 (C5 (i:=2) sc.nd rfl (.inl rfl) (C4 T.aL G_row_of (Rm hr) (A8 (peF K (pv 0)) (A8 (pv 1) B0))))
   (B1 (I0 (C3 Qi (pv 2) Cs (D8 _)) (B4 (C0 (C4 T.as G_saying_strength (Rm hr) (A8 (pv 0) (A8 (C4 T.aL G_row_of (Rm hr) (A8 (peF K (pv 0)) (A8 (C6 (ixT K) (pv 2) B3 (fun _ _=>rfl)) B0))) B0))))) D0)
   (B4 (C0 (C4 T.as G_saying_strength (Rm hr) (A8 (pv 0) (A8 (C4 T.aP G_saying_of (Rm hr) (A8 (pv 0) (A8 (pv 1) B0))) B0))))))),?_⟩
  refine B7 fun N1 hN1=>?_;refine ex1 rfl ⟨x,_,_,_,_,rfl,hx,T.ae,T.an,rfl,ex1 rfl ⟨c,_,n,rfl,W.ht,by rw[AA];omega,?_⟩⟩;rw[Wl];have fin:∀y:SAr,y∈sa->v=Mh pe y.2.2.1 y.2.2.2.2->Sq T.aa [.ref x,.ref y.1] H Q E0:=fun y my e =>
   ⟨x,y.1,y.2.2.2.1,pe,sa,st,ba,y.2.1,y.2.2.1,y.2.2.2.2,rfl,hW,l1,W.hs.row (rS y) (AH.mpr ⟨y,my,rfl⟩),W.sp y my,nn,by rw[<-e];exact q⟩
  unfold Y9 at ev;refine hN1 _ _ (B7 fun N2 hN2=>?_);cases ek:L6 st n with
  | some z =>
   rw[ek]at ev;obtain⟨y,ey,evy⟩:=AV.mp ev;have mz:z∈st:=CG ek;have my:y∈sa:=CG ey;refine ex1 rfl ⟨rfl,true,congrArg (fun b=>V.bl !b) (BC fun z=>by cases z),y8 ?_⟩;refine ex1 rfl (ex1 rfl ⟨x,_,_,_,_,rfl,hx,T.ae,T.ak,rfl,ex1 rfl ⟨z.1,_,B9 rfl rfl ⟨SqT.of (W.ht.row (rT z) (AH.mpr ⟨z,mz,rfl⟩)),B8 (j:=1) rfl,b,_,z.2.2.1,rfl,W.hs,by rw[AA];omega,?_⟩⟩⟩);rw[zCg,ey];exact fin y my evy.symm
  | none =>
   rw[ek]at ev;obtain⟨y,ey,evy⟩:=AV.mp ev;have my:y∈sa:=CG ey;refine ex1 rfl ⟨rfl,false,congrArg (fun b=>V.bl !b) (AG rfl),X4 (hN2 _ _ ?_)⟩;exact ex1 rfl (ex1 rfl (ex1 rfl ⟨x,pe,sa,st,ba,n,y,rfl,hW,l2,ey,fin y my evy.symm⟩))
theorem Bk:FnScope ["weave"] ["weave"] (B5 s_counting):=fsc
def live(pe:List PEr)(sa:List SAr)(st:List STr):List STr:=st.filter fun q=>decide ((Y9 pe sa st q.2.1).getD 0 ≥ (Y9 pe sa st q.2.2.2).getD 0)
def Ij(C:Addr):Sp:=fun vs H Q _=>∃(x:Addr) (pe:List PEr) (sa:List SAr) (st:List STr) (ba:List PA2),vs = [.ref x]/\WeaveAt C H x pe sa st ba/\WOk pe sa st ba/\∀(l:Addr) (ms:List Str) H',Same H H'->H l=none->H' l=some (.lst (ms.map V.str))->ms.Perm (nT (live pe sa st))->ms.Pairwise leS->Q (.ref l) H'
theorem WOk.strong{pe:List PEr}{sa:List SAr}{st:List STr}{ba:List PA2}(h:WOk pe sa st ba){n:Str}(hn:n∈nS sa\/n∈nT st):∃v,Y9 pe sa st n=some v:=by
 unfold Y9;have say:∀m,m∈nS sa->∃v,(Eo sa m).map (fun q=>Mh pe q.2.2.1 q.2.2.2.2)=some v:=fun m hm=>by
  obtain⟨y,e,_⟩:=P1 (f:=fun q:SAr=>q.2.1) hm;exact⟨_,by unfold Eo;rw[e];rfl⟩
 cases e:L6 st n with
 | some z=>exact say _ (h.tg z (CG e)).1
 | none =>
  refine say n (hn.resolve_right fun m=>?_);obtain⟨y,e2,_⟩:=P1 (f:=fun q:STr=>q.2.1) m;unfold L6 at e;rw[e2]at e;cases e
set_option maxHeartbeats 2000000 in
theorem Js(T:Tx K mg):FnOk P w K mg base CX0 4 T.a8.f T.a8.fd ["weave"] (Ij T.aa):=by
 have G_strength:=Ii (P:=P) (w:=w) (base:=base) T;have sc:=Bk;refine T.a8.F.ok Bk (fun vs H Q E h=>?_) (fun cdv A outer s H vs Q E hr h=>?_)
 .obtain⟨x,pe,sa,st,ba,rfl,_⟩:=h;rfl
 .obtain⟨x,pe,sa,st,ba,rfl,hW,ok,q⟩:=h;refine⟨_,(B4 (C0 (E2 (O5 K) T.ah F6 (A8 (O2 (N':=["name", "one", "goal", "weave"]) (cap:=[none,none,none,some 0]) (cl:=[("weave",_)]) (J6 ⟨⟨rfl,rfl,rfl,rfl⟩,trivial⟩ ⟨rfl,trivial⟩) rfl (piL K (peF K (pv 0))) (fun _ _ _ _=>by exact⟨(pgT K (n:=3) (C2 (pgC 0) (C2 (pgC 1) (C2 (pgC 2) J2)))),(K6 (C3 Wx (C4 T.aT G_strength (Rm hr) (A8 (pv 3) (A8 (pv 0) B0))) (C4 T.aT G_strength (Rm hr) (A8 (pv 3) (A8 (pv 2) B0))) (D8 _))),(pv 0)⟩)) B0)))),?_⟩;obtain⟨dx,a,b,c,d,hx,W⟩:=hW;have hW:WeaveAt T.aa H x pe sa st ba:=⟨dx,a,b,c,d,hx,W⟩;obtain⟨l1,l2,l3,l4⟩:=ok.len;refine ex1 rfl ⟨x,_,_,_,_,rfl,hx,T.ae,T.an,rfl,c,rfl,⟨_,SqL.of W.ht.at_⟩,fun D hD=>?_⟩;have as1:=asL (K:=K) (SqL.of W.ht.at_);rw[BA]at as1;refine Rx (fun q:STr=>V.str q.2.1) (fun q:STr=>decide ((Y9 pe sa st q.2.1).getD 0 ≥ (Y9 pe sa st q.2.2.2).getD 0)) as1 (fun σ=>∃v0 v1 v2,σ = [v0,v1,v2,some (.ref x)]) ⟨_,_,_,rfl⟩ (by omega) hD ?_ fun σ H1 s1 e1=>?_
  .rintro y hy σ G ⟨v0,v1,v2,rfl⟩ sG M N hM hN;have ey:=sG _ _ (W.ht.row (rT y) (AH.mpr ⟨y,hy,rfl⟩));obtain⟨v,hv⟩:=ok.strong (n:=y.2.1) (.inr (AH.mpr ⟨y,hy,rfl⟩));obtain⟨u,hu⟩:=ok.strong (n:=y.2.2.2) (ok.tg y hy).2;have nn:∀q∈pe,0<=q.2.2:=fun q hq=>(ok.pm q hq).2.1;refine⟨y.1,ex1 rfl ⟨SqT.of ey,rfl,_,ex1 rfl ⟨_,ex1 rfl (B9 rfl rfl ?_)⟩⟩⟩;refine ex1 rfl (ex1 rfl ⟨x,pe,sa,st,ba,y.2.1,v,rfl,hW.same sG,⟨l1,l2,l3⟩,nn,hv,fun G1 t1=>?_⟩);refine ex1 rfl (ex1 rfl ⟨x,pe,sa,st,ba,y.2.2.2,u,rfl,(hW.same sG).same t1,⟨l1,l2,l3⟩,nn,hu,fun G2 t2=>?_⟩);rw[hv,hu]at hM hN;exact B9 rfl rfl ⟨_,rfl,Z7 (fun h=>ex1 rfl (hM _ _ ⟨_,_,_,rfl⟩ (t1.trans t2) h)) (fun h=>hN _ _ ⟨_,_,_,rfl⟩ (t1.trans t2) (DJ.mpr h))⟩
  refine⟨D,nT (live pe sa st),rfl,SqL.of (by rw[e1];unfold nT live;rw[BA];rfl),fun l ms hl pm sr=>?_⟩;exact q l ms _ (s1.trans (Same.new hl)) (none_of s1.sm AM hl) A9 pm sr
end
def Rch(nx:Str->List Str)(ss:List Str)(x:Str):Prop:=∀S:Str->Prop,(∀y∈ss,S y)->(∀y z,S y->z∈nx y->S z)->S x
theorem Rch.of{nx:Str->List Str}{ss:List Str}{x:Str}(h:x∈ss):Rch nx ss x:=fun _ h1 _=>h1 x h
theorem Rch.step{nx:Str->List Str}{ss:List Str}{y z:Str}(h:Rch nx ss y)(hz:z∈nx y):Rch nx ss z:=fun S h1 h2=>h2 y z (h S h1 h2) hz
theorem S2:∀{l m:List Str},l.Nodup->(∀x∈l,x∈m)->l.length<=m.length
 | [],_,_,_=>BT _
 | x::l,m,nd,h=>by
  obtain⟨n1,n2⟩:=BX.mp nd;have hx:=h x (AW ..);have h1:=S2 (m:=m.erase x) n2 fun y hy=>(List.mem_erase_of_ne (fun z:y=x=>n1 (z▸hy))).mpr (h y (AO _ hy));rw[List.length_erase_of_mem hx]at h1;have:=List.length_pos_of_mem hx;rw[BK];omega
structure RI(nx:Str->List Str)(ns ss se wa:List Str)(ex:Str->Prop):Prop where
 nd:se.Nodup
 ndw:wa.Nodup
 sub:∀x∈se,x∈ns
 rch:∀x∈se,Rch nx ss x
 beg:∀x∈ss,x∈se
 wai:∀x∈wa,x∈se
 cl:∀x∈se,x∈wa\/ex x\/∀y∈nx x,y∈se
abbrev noS:Str->Prop:=fun _=>False
section
variable{nx:Str->List Str}{ns ss se wa:List Str}{ex:Str->Prop}
theorem Pw{l:List Str}{x:Str}(nd:l.Nodup)(hx:x∉l):(l ++ [x]).Nodup :=
 BQ.mpr ⟨nd,BX.mpr ⟨AM,CV⟩,fun a ha b hb e=>hx (by rw[AC]at hb;exact hb▸e▸ha)⟩
theorem RI.init(nd:ss.Nodup)(sub:∀x∈ss,x∈ns):RI nx ns ss ss ss noS:=⟨nd,nd,sub,fun _ h=>.of h,fun _ h=>h,fun _ h=>h,fun _ h=>.inl h⟩
theorem RI.add(h:RI nx ns ss se wa ex){x:Str}(hx:x∉se)(hn:x∈ns)(hr:Rch nx ss x):RI nx ns ss (se ++ [x]) (wa ++ [x]) ex where
 nd:=Pw h.nd hx
 ndw:=Pw h.ndw fun z=>hx (h.wai x z)
 sub:=fun y hy=>(AI.mp hy).elim (h.sub y) fun z=>AC.mp z▸hn
 rch:=fun y hy=>(AI.mp hy).elim (h.rch y) fun z=>AC.mp z▸hr
 beg:=fun y hy=>BN _ (h.beg y hy)
 wai:=fun y hy=>(AI.mp hy).elim (fun z=>BN _ (h.wai y z)) fun z=>BJ _ z
 cl:=fun y hy=>(AI.mp hy).elim (fun z=>(h.cl y z).elim (fun q=>.inl (BN _ q)) fun q=>.inr (q.elim .inl fun q=>.inr fun v hv=>BN _ (q v hv))) fun z=>.inl (BJ _ z)
theorem RI.pop(h:RI nx ns ss se wa noS){wa':List Str}{x:Str}(nd:wa'.Nodup)(h1:∀y∈wa,y∈wa'\/y=x)(h2:∀y∈wa',y∈wa):RI nx ns ss se wa' (fun y=>y=x) :=
 ⟨h.nd,nd,h.sub,h.rch,h.beg,fun y hy=>h.wai y (h2 y hy),fun y hy=>(h.cl y hy).elim (fun q=>(h1 y q).elim .inl fun z=>.inr (.inl z)) fun q=>q.elim (fun z=>z.elim) fun z=>.inr (.inr z)⟩
theorem RI.done{x:Str}(h:RI nx ns ss se wa (fun y=>y=x))(hx:∀y∈nx x,y∈se):RI nx ns ss se wa noS :=
 ⟨h.nd,h.ndw,h.sub,h.rch,h.beg,h.wai,fun y hy=>(h.cl y hy).elim .inl fun q=>.inr (.inr (q.elim (fun z=>z▸hx) id))⟩
theorem RI.fin(h:RI nx ns ss se [] noS)(x:Str):x∈se↔Rch nx ss x :=
 ⟨h.rch x,fun r=>r (·∈se) h.beg fun y z hy hz=>(h.cl y hy).elim (fun q=>absurd q AM) fun q=>q.elim (fun z=>z.elim) fun q=>q z hz⟩
theorem RI.len(h:RI nx ns ss se wa ex):se.length<=ns.length:=S2 h.nd h.sub
theorem RI.lenw(h:RI nx ns ss se wa ex):wa.length<=ns.length:=S2 h.ndw fun x hx=>h.sub x (h.wai x hx)
end
theorem Tl{n e w m:Nat}(h:e+1<=n)(hm:2 *(n-e)+w<m):2 *(n-(e+1)) +(w+1)<m:=by
 have e1:n-(e+1)+1=n-e:=Nat.succ_pred_eq_of_pos (Nat.sub_pos_of_lt h);rw[<-e1]at hm;omega
def Og(H:Hp)(kvs:List (Key×V))(ns:List Str)(nx:Str->List Str):Prop:=∀n∈ns,∃l,Y5 kvs (.inr n)=some (.ref l)/\H l=some (.lst ((nx n).map V.str))
def zFq(H:Hp)(ns ss:List Str)(nx:Str->List Str)(Q:VK):Prop:=∀(l:Addr) (ts:List Str) (H':Hp),Same H H'->H l=none->H' l=some (.lst (ts.map V.str))->ts.Nodup->ts.Pairwise leS->(∀x,x∈ts↔Rch nx ss x)->(∀x∈ts,x∈ns)->Q (.ref l) H'
def Mv(K:PySem.W.Frag):Sp:=fun vs H Q _=>∃(d a:Addr) (kvs:List (Key×V)) (ns ss:List Str) (nx:Str->List Str),vs = [.ref d,.ref a]/\H d=some (.dK kvs)/\Og H kvs ns nx/\(∀n∈ns,∀y∈nx n,y∈ns)/\ns.length<=100/\(∀y∈ss,y∈ns)/\ss.Nodup/\Sqs K H a (ss.map V.str)/\zFq H ns ss nx Q
section
variable{P:Program}{w:World}{K:PySem.W.Frag}{mg:Str->Option Value}{base:Heap}
theorem zAt{H:Hp}{p:Addr}{x:Str}{se:List Str}{Q:VK}(e:H p=some (X7 w p se))(q:Q (.bl (!decide (x∈se))) H):zEe w true (.str x) (.ref p) H Q:=⟨p,se,x,rfl,rfl,e,q⟩
theorem Da:FnScope ["steps", "some", "seen", "waiting", "here", "name"] ["steps", "some"] (B5 s_reached):=fsc
set_option maxHeartbeats 1000000 in
theorem Mn(T:Tx K mg):FnOk P w K mg base CX0 1 T.bf.f T.bf.fd ["steps", "some"] (Mv K):=by
 have sc:=Da;refine T.bf.F.ok Da (fun vs H Q E h=>?_) (fun cdv A outer s H vs Q E hr h=>?_)
 .obtain⟨d,a,kvs,ns,ss,nx,rfl,_⟩:=h;rfl
 .obtain⟨d,a,kvs,ns,ss,nx,rfl,hd,hv,hc,hl,hsub,hnd,hS,k⟩:=h;have hu:=w8 hr;refine⟨_,(B1 (C5 (i:=2) sc.nd rfl (.inl rfl) (U1 (Iq K w) T.be Ck (A8 (pv 1) B0)))
   (B1 (C5 (i:=3) sc.nd rfl (.inl rfl) (U1 (R1 K) T.ap K5 (A8 (pv 1) B0)))
   (B1 (Kl PassesOwn.never (ptV K (pv 3)) (B1 (C5 (i:=4) sc.nd rfl (.inl rfl) (zDu K PySem.F.plainAttrs_list PySem.F.slot_list_pop PySem.F.type_list_pop zBc (pv 3)))
   (B4 (P4 PassesOwn.never rfl (piL K (j8 hu (pv 0) (pv 4) (fun _ _=>rfl))) (D6 (i:=5) sc.nd rfl (.inl rfl))
   (B4 (I0 (C3 Eb (pv 5) (pv 2) rfl) (B1 (G0 (Pg P w (zBx w) (pv 2) (A8 (pv 5) B0)))
   (B4 (G0 (Nz K PySem.F.plainAttrs_list PySem.F.slot_list_append PySem.F.type_list_append M0 (pv 3) (A8 (pv 5) B0))))) D0))))))
   (B4 (C0 (E2 (Dx w) T.ah F6 (A8 (pv 2) B0))))))),?_⟩
  have hls:=S2 hnd hsub;refine B7 fun Z1 hZ1=>?_;refine ex1 rfl ⟨a,ss,rfl,hS,hnd,by omega,fun p hp=>?_⟩;have u1:=Same.new (o:=X7 w p ss) hp;have f1:(upd H p (X7 w p ss)) p=some (X7 w p ss):=A9;generalize upd H p (X7 w p ss)=H1 at u1 f1⊢;refine hZ1 _ _ (B7 fun Z2 hZ2=>?_);refine ex1 rfl ⟨a,_,rfl,(u1.at a).seq hS,fun q hq=>?_⟩;have u2:=Same.new (o:=.lst (ss.map V.str)) hq;have f2:(upd H1 q (.lst (ss.map V.str))) q=some (.lst (ss.map V.str)):=A9;generalize upd H1 q (.lst (ss.map V.str))=H2 at u2 f2⊢;have npq:p≠q:=B2 f1 hq;have hq0:=u1.free hq;refine hZ2 _ _ (B7 fun Z3 hZ3=>?_);refine⟨fun m σ H3=>∃v4 v5 se wa,σ = [some (.ref d),some (.ref a),some (.ref p),some (.ref q),v4,v5]/\m=2 *(ns.length-se.length)+wa.length/\Same H H3/\H3 p=some (X7 w p se)/\H3 q=some (.lst (wa.map V.str))/\RI nx ns ss se wa noS,
   ⟨_,none,none,ss,ss,rfl,rfl,u1.trans u2,u2 _ _ f1,f2,.init hnd hsub⟩,?_⟩
  rintro m σ H3 ⟨v4,v5,se,wa,rfl,rfl,s3,e3,g3,R3⟩;refine ex1 rfl ⟨_,.inl ⟨_,SqL.of g3,rfl⟩,?_⟩;rcases List.eq_nil_or_concat wa with rfl | ⟨wa',x,rfl⟩
  .refine X4 (hZ3 _ _ ?_);refine ex1 rfl ⟨p,se,rfl,e3,fun l ts hl pm so=>?_⟩;have u4:=Same.new (o:=.lst (ts.map V.str)) hl;exact k l ts _ (s3.trans u4) (s3.free hl) A9 (pm.nodup_iff.mpr R3.nd) so (fun y=>pm.mem_iff.trans (R3.fin y)) fun y hy=>R3.sub y (pm.mem_iff.mp hy)
  .rw[List.concat_eq_append]at *;rw[AY (by simp)];refine⟨_,fun _ _ z=>z,B7 fun N1 hN1=>?_⟩;have R4:RI nx ns ss se wa' (fun y=>y=x):=R3.pop (BQ.mp R3.ndw).1 (fun y hy=>(AI.mp hy).imp id AC.mp) fun y hy=>BN _ hy;have hx:x∈se:=R3.wai x (BJ _ (AC.mpr rfl));refine ex1 rfl ⟨.inl ⟨rfl,_,SqL.of g3⟩,q,_,.str x,rfl,rfl,g3,by simp,?_⟩;have ed:((wa' ++ [x]).map V.str).dropLast=wa'.map V.str:=by simp
   rw[ed];have s4:=s3.upd (o:=.lst (wa'.map V.str)) hq0;have g4:(upd H3 q (.lst (wa'.map V.str))) q=some (.lst (wa'.map V.str)):=A9;have e4:(upd H3 q (.lst (wa'.map V.str))) p=some (X7 w p se):=(B6 npq).trans e3;generalize upd H3 q (.lst (wa'.map V.str))=H4 at s4 g4 e4⊢;refine hN1 _ _ ?_;obtain⟨l,vl,el⟩:=hv x (R3.sub x hx);refine ex1 rfl (ex1 rfl ⟨d,.ref l,rfl,by rw[<-vl];exact DGet.k (k:=Sum.inr x) (s4 _ _ hd),l,rfl,⟨_,SqL.of (s4 _ _ el)⟩,?_⟩);refine Y3 (asL (K:=K) (SqL.of el)) (fun i σ H5=>∃v5 se' wa'',σ = [some (.ref d),some (.ref a),some (.ref p),some (.ref q),some (.str x),v5]/\2 *(ns.length-se'.length)+wa''.length<2 *(ns.length-se.length) +(wa' ++ [x]).length/\Same H H5/\H5 p=some (X7 w p se')/\H5 q=some (.lst (wa''.map V.str))/\RI nx ns ss se' wa'' (fun y=>y=x)/\x∈se'/\∀y∈(nx x).take i,y∈se')
    ⟨_,se,wa',rfl,by rw[BB];exact ET _,s4,e4,g4,R4,hx,fun y hy=>absurd hy AM⟩ ?_ ?_ ?_
   .rintro i σ H5 _ ⟨_,_,_,_,_,s5,_⟩;exact s5.at l
   .rintro i σ H5 v hvi ⟨v5,se',wa'',rfl,hm,s5,e5,g5,R5,hx5,t5⟩ D1 hD1 _;rw[AF]at hvi;obtain⟨y,hy,rfl⟩:=AV.mp hvi;have hyn:y∈nx x:=AK hy;have ht:∀{se'':List Str},(∀z∈se',z∈se'')->y∈se''->∀z∈(nx x).take (i+1),z∈se'':=fun h1 h2 z hz=>by
     rw[C8 hy]at hz;exact(AI.mp hz).elim (fun q=>h1 z (t5 z q)) fun q=>AC.mp q▸h2
    refine ex1 rfl (ex1 rfl (zAt e5 ⟨_,rfl,Z7 (fun h=>?_) fun h=>?_⟩))
    .have hns:y∉se':=fun z=>by rw[AG z]at h;cases h
     have en:Nt se' y=se' ++ [y]:=AS hns;have R6:=R5.add hns (hc x (R5.sub x hx5) y hyn) ((R5.rch x hx5).step hyn);have l6:=R6.len;have lw:=R5.lenw;refine B7 fun O1 hO1=>?_;refine ex1 rfl ⟨⟨p,rfl,.inr (.inl ⟨_,e5⟩)⟩,ex1 rfl ⟨p,se',y,rfl,rfl,e5,by rw[BB,EC]at l6;omega,?_⟩⟩;rw[en];have s6:=s5.upd (o:=X7 w p (se' ++ [y])) hp;have e6:(upd H5 p (X7 w p (se' ++ [y]))) p=some (X7 w p (se' ++ [y])):=A9;have g6:(upd H5 p (X7 w p (se' ++ [y]))) q=some (.lst (wa''.map V.str)):=(B6 npq.symm).trans g5;generalize upd H5 p (X7 w p (se' ++ [y]))=H6 at s6 e6 g6⊢;refine hO1 _ _ ?_;refine ex1 rfl ⟨.inl ⟨rfl,_,SqL.of g6⟩,ex1 rfl ⟨q,_,_,rfl,rfl,g6,by rw[AA,sizeLine_eq];omega,hD1 _ _ ⟨_,se' ++ [y],wa'' ++ [y],rfl,?_,s6.upd hq0,(B6 npq).trans e6,?_,R6,BN _ hx5,ht (fun z hz=>BN _ hz) (BJ _ (AC.mpr rfl))⟩⟩⟩
     .rw[BB,EC]at l6⊢;rw[BB,EC];exact Tl l6 hm
     .rw[A9,AL];rfl
    .have hys:y∈se':=by
      by_cases z:y∈se'
      .exact z
      .rw[BC z]at h;exact absurd rfl h
     exact hD1 _ _ ⟨_,se',wa'',rfl,hm,s5,e5,g5,R5,hx5,ht (fun _ z=>z) hys⟩
   .rintro σ H5 ⟨v5,se',wa'',rfl,hm,s5,e5,g5,R5,hx5,t5⟩;rw[AA,BR]at t5;exact⟨_,hm,_,_,se',wa'',rfl,rfl,s5,e5,g5,R5.done t5⟩
end
theorem Vd{J:It}{a:Addr}{ns:List Str}{H:Hp}{Q:St->Hp->Prop}{te:TE}{nx:Str->List Str}{v1:Option V}(as:AsSeq J (ns.map V.str) a H)(hl:ns.length<=1000){D:Addr}(hD:H D=none)
  (ht:∀n∈ns,∀H1,Same H H1->∀Q':VK,(∀l H2,Same H1 H2->H1 l=none->H2 l=some (.lst ((nx n).map V.str))->Q' (.ref l) H2)->te [some (.str n),v1] H1 Q')
  (q:∀σ kvs H',Same H H'->H' D=some (.dK kvs)->Og H' kvs ns nx->Q σ H') :
  Ej (S7 0) Dj (Re D (Ob 0) te) J [none,v1] (upd H D (.dK [])) Q:=by
 refine K7 as (fun i σ H1=>(∃v,σ = [v,v1])/\∃kvs,Same H H1/\H1 D=some (.dK kvs)/\kvs.length<=i/\∀n∈ns.take i,∃l,l≠D/\Y5 kvs (.inr n)=some (.ref l)/\H1 l=some (.lst ((nx n).map V.str)))
  ⟨⟨_,rfl⟩,[],Same.new hD,A9,BT _,fun n h=>absurd h AM⟩ (fun i σ H1 _ ⟨_,kvs,s1,_⟩=>s1.at a) ?_ ?_
 .rintro i σ H1 x N hx ⟨⟨v,rfl⟩,kvs,s1,e1,l1,c1⟩ hN;rw[AF]at hx;obtain⟨m,hm,rfl⟩:=AV.mp hx;have hi:i<ns.length:=(AU.mp hm).1;refine X6 ?_;refine ex1 rfl (ht m (AK hm) H1 s1 _ fun p H2 s2 hp e2=>?_);refine⟨kvs,.inr m,s2 _ _ e1,rfl,by rw[sizeLine_eq];omega,hN _ _ ⟨⟨_,rfl⟩,Fa kvs (.inr m) (.ref p),(s1.trans s2).upd hD,A9,?_,fun n hn=>?_⟩⟩
  .have:=S0 kvs (Sum.inr m:Key) (.ref p);omega
  .rw[Ir];by_cases e:n=m
   .rw[AY e,e];have np:p≠D:=(B2 e1 hp).symm;exact⟨p,np,rfl,(B6 np).trans e2⟩
   .rw[AS e];rw[C8 hm]at hn;obtain⟨l,h1,h2,h3⟩:=c1 n ((AI.mp hn).elim id fun z=>absurd (AC.mp z) e);exact⟨l,h1,h2,(B6 h1).trans (s2 _ _ h3)⟩
 .rintro σ H1 ⟨_,kvs,s1,e1,l1,c1⟩;rw[AA,BR]at c1;exact q σ kvs H1 s1 e1 fun n hn=>let⟨l,_,h2,h3⟩:=c1 n hn;⟨l,h2,h3⟩
def Ao(ba:List PA2)(n:Str):List Str:=(ba.filter fun q=>decide (q.2.2=n)).map fun q=>q.2.1
structure BackOf(ba:List PA2)(n:Str)(ms:List Str):Prop where
 nd:ms.Nodup
 so:ms.Pairwise leS
 mem:∀x,x∈ms↔(Rch (Ao ba) [n] x/\x≠n)
structure HitOf(sa:List SAr)(ba:List PA2)(g:Str)(ms:List Str):Prop where
 nd:ms.Nodup
 so:ms.Pairwise leS
 mem:∀x,x∈ms↔(if g∈nS sa then Rch (Ao ba) [g] x else x=g)
theorem Km{pe:List PEr}{sa:List SAr}{st:List STr}{ba:List PA2}(ok:WOk pe sa st ba)(n:Str):∀y∈Ao ba n,y∈nS sa:=fun y hy=>by
 obtain⟨q,hq,rfl⟩:=AH.mp hy;exact(ok.bk q (BW.mp hq).1).1
theorem Ov{pe:List PEr}{sa:List SAr}{st:List STr}{ba:List PA2}(ok:WOk pe sa st ba){n x:Str}(hn:n∈nS sa)(h:Rch (Ao ba) [n] x):x∈nS sa :=
 h (·∈nS sa) (fun y hy=>by rw[AC.mp hy];exact hn) fun y z _ hz=>Km ok y z hz
theorem Uo{ba:List PA2}(h:(ba.map fun q=>q.2).Nodup)(n:Str):(Ao ba n).Nodup:=by
 unfold Ao;have h1:((ba.filter fun q=>decide (q.2.2=n)).map fun q=>q.2).Nodup:=h.sublist (List.Sublist.map _ CQ);have h2:∀q∈ba.filter (fun q=>decide (q.2.2=n)),q.2.2=n:=fun q hq=>BG (BW.mp hq).2;generalize ba.filter (fun q=>decide (q.2.2=n))=l at h1 h2
 induction l with
 | nil=>exact CV
 | cons a r ih =>
  rw[BM,BX]at h1⊢;refine⟨fun z=>h1.1 ?_,ih h1.2 fun q hq=>h2 q (AO _ hq)⟩;obtain⟨q,hq,e⟩:=AH.mp z;exact AH.mpr ⟨q,hq,Prod.ext e ((h2 q (AO _ hq)).trans (h2 a (AW ..)).symm)⟩
section
variable{P:Program}{w:World}{K:PySem.W.Frag}{mg:Str->Option Value}{base:Heap}
theorem t9:FnScope ["weave", "name", "strike"] ["weave", "name"] (B5 s_strike_of):=fsc
def Ih(C:Addr):Sp:=fun vs H Q _=>∃(x:Addr) (pe:List PEr) (sa:List SAr) (st:List STr) (ba:List PA2) (n:Str) (y:STr),vs = [.ref x,.str n]/\WeaveAt C H x pe sa st ba/\st.length<=30/\L6 st n=some y/\Q (.ref y.1) H
theorem Gs(T:Tx K mg):FnOk P w K mg base CX0 2 T.a0.f T.a0.fd ["weave", "name"] (Ih T.aa):=by
 have G_row_of:=a8 (P:=P) (w:=w) (base:=base) T;have sc:=t9;refine T.a0.F.ok t9 (fun vs H Q E h=>?_) (fun cdv A outer s H vs Q E hr h=>?_)
 .obtain⟨x,pe,sa,st,ba,n,y,rfl,_⟩:=h;rfl
 .obtain⟨x,pe,sa,st,ba,n,y,rfl,⟨dx,a,b,c,d,hx,W⟩,l30,ey,q⟩:=h;refine⟨_,(B1 (C5 (i:=2) sc.nd rfl (.inl rfl) (C4 T.aL G_row_of (Rm hr) (A8 (peF K (pv 0)) (A8 (pv 1) B0))))
   (B1 (I0 (C3 Ow (pv 2) Cs (D8 _)) (B4 X3) D0)
   (B4 (C0 (pv 2))))),?_⟩
  refine B7 fun N1 hN1=>?_;refine ex1 rfl ⟨x,_,_,_,_,rfl,hx,T.ae,T.an,rfl,ex1 rfl ⟨c,_,n,rfl,W.ht,by rw[AA];omega,?_⟩⟩;rw[Wl,ey];refine hN1 _ _ (B7 fun N2 hN2=>?_);exact ex1 rfl ⟨rfl,false,congrArg V.bl (BC fun z=>by cases z),X4 (hN2 _ _ (ex1 rfl q))⟩
theorem Cr:FnScope ["weave", "name", "known", "steps"] ["weave", "name"] (B5 s_backers):=fsc
def Me(C:Addr):Sp:=fun vs H Q _=>∃(x:Addr) (pe:List PEr) (sa:List SAr) (st:List STr) (ba:List PA2) (n:Str),vs = [.ref x,.str n]/\WeaveAt C H x pe sa st ba/\WOk pe sa st ba/\n∈nS sa/\∀(l:Addr) (ms:List Str) H',Same H H'->H l=none->H' l=some (.lst (ms.map V.str))->BackOf ba n ms->Q (.ref l) H'
set_option maxHeartbeats 2000000 in
theorem Nq(T:Tx K mg):FnOk P w K mg base CX0 3 T.bh.f T.bh.fd ["weave", "name"] (Me T.aa):=by
 have G_saying_of:=t0 (P:=P) (w:=w) (base:=base) T;have G_names_of:=J3 (P:=P) (w:=w) (base:=base) T;have G_reached:=Mn (P:=P) (w:=w) (base:=base) T;have sc:=Cr;refine T.bh.F.ok Cr (fun vs H Q E h=>?_) (fun cdv A outer s H vs Q E hr h=>?_)
 .obtain⟨x,pe,sa,st,ba,n,rfl,_⟩:=h;rfl
 .obtain⟨x,pe,sa,st,ba,n,rfl,hW,ok,hn,q⟩:=h;have hu:=w8 hr;refine⟨_,(B1 (C5 (i:=2) sc.nd rfl (.inr rfl) (C6 (ixT K) (C4 T.aP G_saying_of (Rm hr) (A8 (pv 0) (A8 (pv 1) B0))) B3 (fun _ _=>rfl)))
   (B1 (Ph (i:=3) (N':=["said", "weave"]) (cap:=[none,some 0]) (cl:=[("weave",_)]) sc.nd rfl (.inl rfl) (zDx (fun _=>⟨⟨rfl,rfl,rfl,rfl⟩,trivial⟩) ⟨rfl,trivial⟩) rfl (piL K (C4 T.al G_names_of (Rm hr) (A8 (peF K (pv 0)) B0))) (fun _ _ _ _=>by exact⟨(pgD 0),F9,(pv 0),(O2 (N':=["one", "other", "said"]) (cap:=[none,none,some 0]) (cl:=[("said",_)]) (J6 ⟨⟨rfl,rfl,rfl,rfl⟩,trivial⟩ ⟨rfl,trivial⟩) rfl (piL K (peF K (pv 1))) (fun _ _ _ _=>by exact⟨(pgT K (n:=2) (C2 (pgC 0) (C2 (pgC 1) J2))),(K6 (C3 Z8 (pv 1) (pv 2) (D8 _))),(pv 0)⟩))⟩))
   (B4 (C0 (O2 (N':=["one", "known"]) (cap:=[none,some 2]) (cl:=[("known",_)]) (J6 ⟨⟨rfl,rfl,rfl,rfl⟩,trivial⟩ ⟨rfl,trivial⟩) rfl (piL K (C4 T.bf G_reached (Rm hr) (A8 (pv 3) (A8 (E9 (A8 (pv 2) B0)) B0)))) (fun _ _ _ _=>by exact⟨(pgC 0),(K6 (C3 Mg (pv 0) (pv 1) (D8 _))),(pv 0)⟩)))))),?_⟩
  obtain⟨dx,a,b,c,d,hx,W⟩:=hW;have hW:WeaveAt T.aa H x pe sa st ba:=⟨dx,a,b,c,d,hx,W⟩;obtain⟨l1,l2,l3,l4⟩:=ok.len;obtain⟨y,ey,my,en⟩:=P1 (f:=fun q:SAr=>q.2.1) hn;refine B7 fun N1 hN1=>?_;refine ex1 rfl (ex1 rfl ⟨x,pe,sa,st,ba,n,y,rfl,hW,l2,ey,y.1,_,B9 rfl rfl ⟨SqT.of (W.hs.row (rS y) (AH.mpr ⟨y,my,rfl⟩)),B8 (j:=0) rfl,hN1 _ _ (B7 fun N2 hN2=>?_)⟩⟩);have en':(rS y).2.1=n:=en;rw[en'];refine ex1 rfl ⟨x,_,_,_,_,rfl,hx,T.ae,T.ak,rfl,b,_,rfl,W.hs,by rw[AA];omega,fun m H1 s1 hm e1=>?_⟩;rw[Eu]at e1;refine⟨m,rfl,⟨_,SqL.of e1⟩,fun D hD=>?_⟩;have lns:(nS sa).length<=30:=by unfold nS;rw[AA];exact l2
  refine Vd (nx:=Ao ba) (asL (K:=K) (SqL.of e1)) (by omega) hD (fun z hz H2 s2 Q' hQ=>?_) fun σ kvs H3 s3 e3 st3=>?_
  .have W2:=(W.same s1).same s2;refine ex1 rfl ⟨x,_,_,_,_,rfl,s2 _ _ (s1 _ _ hx),T.ae,T.a4,rfl,d,rfl,⟨_,SqL.of W2.hb⟩,fun D2 hD2=>?_⟩;refine Rx (fun q:PA2=>V.str q.2.1) (fun q:PA2=>decide (q.2.2=z)) (asL (K:=K) (SqL.of W2.hb)) (fun σ=>∃v0 v1,σ = [v0,v1,some (.str z)]) ⟨_,_,rfl⟩ (by omega) hD2 ?_ fun σ H4 s4 e4=>?_
   .rintro y hy σ G ⟨v0,v1,rfl⟩ sG M N hM hN;refine⟨y.1,ex1 rfl ⟨SqT.of (sG _ _ (W2.pb y hy)),rfl,_,ex1 rfl (B9 rfl rfl ?_)⟩⟩;refine ex1 rfl (ex1 rfl ⟨rfl,_,rfl,Z7 (fun h=>ex1 rfl (hM _ _ ⟨_,_,rfl⟩ (fun _ _ z=>z) (AG ?_))) (fun h=>hN _ _ ⟨_,_,rfl⟩ (fun _ _ z=>z) (BC fun e=>h ?_))⟩)
    .exact V.str.inj (BG h)
    .exact AG (by rw[e])
   .exact hQ D2 _ s4 hD2 (by rw[e4];unfold Ao;rw[BA];rfl)
  .have s13:=s1.trans s3;refine hN2 _ _ ?_;refine ex1 rfl (ex1 rfl ⟨by show 1<=sizeLine;decide,fun o ho=>?_⟩);have uo:=Same.new (o:=.lst [.str n]) ho;have eo:(upd H3 o (.lst [.str n])) o=some (.lst (([n]:List Str).map V.str)):=A9;generalize upd H3 o (.lst [.str n])=H4 at uo eo⊢;refine⟨D,o,kvs,nS sa,[n],_,rfl,uo _ _ e3,fun z hz=>let⟨l,h1,h2⟩:=st3 z hz;⟨l,h1,uo _ _ h2⟩,fun z _ y hy=>Km ok z y hy,by omega,fun y hy=>by rw[AC.mp hy];exact hn,BX.mpr ⟨AM,CV⟩,.inl (SqL.of eo),fun l ts H5 s5 hl e5 nd5 so5 m5 sb5=>?_⟩;refine⟨l,rfl,⟨_,SqL.of e5⟩,fun D2 hD2=>?_⟩;refine Uv (r:=V.str) V.str (asL (K:=K) (SqL.of e5)) (fun y=>!decide (y=n)) (by have:=S2 nd5 sb5;omega) hD2 (fun y my G sG M hM=>?_) (fun y my G sG M hM=>ex1 rfl hM) fun σ' G sG eG=>?_
   .refine ex1 rfl (ex1 rfl ⟨rfl,_,rfl,?_⟩);have e:decide (V.str y=V.str n)=decide (y=n):=by
     by_cases h:y=n
     .rw[h,AG rfl,AG rfl]
     .rw[BC h,BC fun z=>h (V.str.inj z)]
    have:=hM G fun b o e=>e;rw[<-e]at this;exact this
   .refine q D2 (ts.filter fun y=>!decide (y=n)) G (((s13.trans uo).trans s5).trans sG) (((s13.trans uo).trans s5).free hD2) eG ⟨nd5.sublist CQ,so5.sublist CQ,fun x=>?_⟩;rw[BW,m5];refine and_congr_right fun _=>?_;by_cases h:x=n
    .rw[AG h];exact⟨fun z=>(AZ z).elim,fun z=>absurd h z⟩
    .rw[BC h];exact⟨fun _=>h,fun _=>rfl⟩
theorem Go:FnScope ["weave", "name", "goal"] ["weave", "name"] (B5 s_hit_by):=fsc
def Zx(C:Addr):Sp:=fun vs H Q _=>∃(x:Addr) (pe:List PEr) (sa:List SAr) (st:List STr) (ba:List PA2) (n:Str) (y:STr),vs = [.ref x,.str n]/\WeaveAt C H x pe sa st ba/\WOk pe sa st ba/\L6 st n=some y/\∀(l:Addr) (ms:List Str) H',Same H H'->H l=none->H' l=some (.lst (ms.map V.str))->HitOf sa ba y.2.2.2 ms->Q (.ref l) H'
set_option maxHeartbeats 2000000 in
theorem Od(T:Tx K mg):FnOk P w K mg base CX0 4 T.bj.f T.bj.fd ["weave", "name"] (Zx T.aa):=by
 have G_strike_of:=Gs (P:=P) (w:=w) (base:=base) T;have G_names_of:=J3 (P:=P) (w:=w) (base:=base) T;have G_backers:=Nq (P:=P) (w:=w) (base:=base) T;have sc:=Go;refine T.bj.F.ok Go (fun vs H Q E h=>?_) (fun cdv A outer s H vs Q E hr h=>?_)
 .obtain⟨x,pe,sa,st,ba,n,y,rfl,_⟩:=h;rfl
 .obtain⟨x,pe,sa,st,ba,n,y,rfl,hW,ok,ey,q⟩:=h;refine⟨_,(B1 (C5 (i:=2) sc.nd rfl (.inl rfl) (C6 (ixT K) (C4 T.a0 G_strike_of (Rm hr) (A8 (pv 0) (A8 (pv 1) B0))) B3 (fun _ _=>rfl)))
   (B1 (I0 (C3 (S9 K) (pv 2) (C4 T.al G_names_of (Rm hr) (A8 (peF K (pv 0)) B0)) rfl) (B4 (C0 (E2 (O5 K) T.ah F6 (A8 (F8 X9 (C4 T.bh G_backers (Rm hr) (A8 (pv 0) (A8 (pv 2) B0))) (E9 (A8 (pv 2) B0))) B0)))) D0)
   (B4 (C0 (E9 (A8 (pv 2) B0)))))),?_⟩
  obtain⟨dx,a,b,c,d,hx,W⟩:=hW;have hW:WeaveAt T.aa H x pe sa st ba:=⟨dx,a,b,c,d,hx,W⟩;obtain⟨l1,l2,l3,l4⟩:=ok.len;have my:y∈st:=CG ey;refine B7 fun N1 hN1=>?_;refine ex1 rfl (ex1 rfl ⟨x,pe,sa,st,ba,n,y,rfl,hW,l3,ey,y.1,_,B9 rfl rfl ⟨SqT.of (W.ht.row (rT y) (AH.mpr ⟨y,my,rfl⟩)),B8 (j:=2) rfl,hN1 _ _ (B7 fun N2 hN2=>?_)⟩⟩);refine ex1 rfl (ex1 rfl ⟨x,_,_,_,_,rfl,hx,T.ae,T.ak,rfl,b,_,rfl,W.hs,by rw[AA];omega,fun m H1 s1 hm e1=>?_⟩);rw[Eu]at e1;refine G9 (.inl (SqL.of e1)) ⟨_,rfl,Z7 (fun h=>?_) (fun h=>?_)⟩
  .have hg:y.2.2.2∈nS sa:=BG h;refine ex1 rfl (ex1 rfl ⟨x,pe,sa,st,ba,y.2.2.2,rfl,hW.same s1,ok,hg,fun l ms H2 s2 hl e2 B=>?_⟩);have lm:ms.length<=30:=by
    have:=S2 B.nd fun z hz=>Ov ok hg ((B.mem z).mp hz).1;unfold nS at this;rw[AA]at this;omega
   refine ex1 rfl ⟨by show 1<=sizeLine;decide,fun o ho=>?_⟩;have uo:=Same.new (o:=.lst [.str y.2.2.2]) ho;refine⟨l,o,_,_,rfl,rfl,uo _ _ e2,A9,by rw[AA,sizeLine_eq];show _+1<=_;omega,fun p hp=>?_⟩;have up:=Same.new (o:=.lst (ms.map V.str ++ [.str y.2.2.2])) hp;refine⟨p,ms ++ [y.2.2.2],rfl,SqL.of (by rw[A9,AL];rfl),fun l' ms' hl' pm so=>?_⟩;have s5:=(((s1.trans s2).trans uo).trans up);have nin:y.2.2.2∉ms:=fun z=>((B.mem _).mp z).2 rfl;refine q l' ms' _ (s5.trans (Same.new hl')) (s5.free hl') A9 ⟨pm.nodup_iff.mpr (Pw B.nd nin),so,fun z=>?_⟩;rw[pm.mem_iff,AY hg,AI,B.mem,AC];refine⟨fun h=>h.elim (fun h=>h.1) fun h=>h▸ .of (AC.mpr rfl),fun h=>?_⟩;by_cases e:z=y.2.2.2
   .exact .inr e
   .exact .inl ⟨h,e⟩
  .have hg:y.2.2.2∉nS sa:=fun z=>h (AG z);refine hN2 _ _ (ex1 rfl ⟨by show 1<=sizeLine;decide,fun o ho=>?_⟩);refine q o [y.2.2.2] _ (s1.trans (Same.new ho)) (s1.free ho) A9 ⟨BX.mpr ⟨AM,CV⟩,GL _ _,fun z=>?_⟩;rw[AS hg,AC]
end
theorem K0{α:Type}{f:α->Str}:∀{xs:List α},(xs.map f).Nodup->∀{a b:α},a∈xs->b∈xs->f a=f b->a=b
 | x::r,h,a,b,ha,hb,e=>by
  rw[BM,BX]at h;rcases AX.mp ha with h1 | h1
  .rcases AX.mp hb with h2 | h2
   .rw[h1,h2]
   .exact absurd (AH.mpr ⟨b,h2,by rw[<-e,h1]⟩) h.1
  .rcases AX.mp hb with h2 | h2
   .exact absurd (AH.mpr ⟨a,h1,by rw[e,h2]⟩) h.1
   .exact K0 h.2 h1 h2 e
abbrev Hit(sa:List SAr)(ba:List PA2)(g x:Str):Prop:=if g∈nS sa then Rch (Ao ba) [g] x else x=g
def Rt(st:List STr)(hs:List Str)(n:Str):Bool:=match L6 st n with | some y=>decide (y.2.2.1∈hs) | none=>false
theorem Px{st:List STr}(nd:(nT st).Nodup){hs:List Str}{n:Str}:Rt st hs n=true↔∃z∈st,z.2.1=n/\z.2.2.1∈hs:=by
 unfold Rt;cases e:L6 st n with
 | none =>
  refine⟨fun h=>(AZ h).elim,fun⟨z,hz,en,_⟩=>?_⟩;exact absurd (AG en) (GJ.mp e z hz)
 | some y =>
  have my:y∈st:=CG e;have ny:y.2.1=n:=BG (List.find?_some (p:=fun q:STr=>decide (q.2.1=n)) e);refine⟨fun h=>⟨y,my,ny,BG h⟩,fun⟨z,hz,en,hh⟩=>?_⟩;have:z=y:=K0 (f:=fun q:STr=>q.2.1) nd hz my (en.trans ny.symm);rw[this]at hh;exact AG hh
def Vj(sa:List SAr)(st:List STr)(ba:List PA2)(ns:List Str)(a o:Str):Prop:=∃y,L6 st a=some y/\o∈ns/\(Hit sa ba y.2.2.2 o\/∃z∈st,z.2.1=o/\Hit sa ba y.2.2.2 z.2.2.1)
def Bg(pe:List PEr)(sa:List SAr)(st:List STr):List Str:=nS sa++nT (live pe sa st)
def Xq(pe:List PEr)(sa:List SAr)(st:List STr)(ba:List PA2)(k:Str×Str):Prop:=k.1∈nT (live pe sa st)/\Vj sa st ba (Bg pe sa st) k.1 k.2
theorem X1(pe:List PEr)(sa:List SAr)(st:List STr):(nT (live pe sa st)).Sublist (nT st):=List.Sublist.map _ CQ
theorem Qs{pe:List PEr}{sa:List SAr}{st:List STr}{ba:List PA2}(ok:WOk pe sa st ba):T0 (Bg pe sa st):=by
 have s:(Bg pe sa st).Sublist (nS sa++nT st):=List.Sublist.append_left (X1 pe sa st) _;refine⟨fun x hx=>ok.nm x (s.subset hx),ok.sn.sublist s,Nat.le_trans s.length_le ?_⟩;obtain⟨l1,l2,l3,l4⟩:=ok.len;unfold nS nT;rw[BB,AA,AA];omega
section
variable{P:Program}{w:World}{K:PySem.W.Frag}{mg:Str->Option Value}{base:Heap}
theorem Q7:FnScope ["weave", "name", "hit", "strike"] ["weave", "name", "hit"] (B5 s_is_strike_from):=fsc
def Za(C:Addr):Sp:=fun vs H Q _=>∃(x h:Addr) (pe:List PEr) (sa:List SAr) (st:List STr) (ba:List PA2) (n:Str) (hs:List Str),vs = [.ref x,.str n,.ref h]/\WeaveAt C H x pe sa st ba/\st.length<=30/\H h=some (.lst (hs.map V.str))/\Q (.bl (Rt st hs n)) H
theorem o8(T:Tx K mg):FnOk P w K mg base CX0 2 T.aB.f T.aB.fd ["weave", "name", "hit"] (Za T.aa):=by
 have G_row_of:=a8 (P:=P) (w:=w) (base:=base) T;have sc:=Q7;refine T.aB.F.ok Q7 (fun vs H Q E h=>?_) (fun cdv A outer s H vs Q E hr h=>?_)
 .obtain⟨x,h,pe,sa,st,ba,n,hs,rfl,_⟩:=h;rfl
 .obtain⟨x,h,pe,sa,st,ba,n,hs,rfl,⟨dx,a,b,c,d,hx,W⟩,l30,eh,q⟩:=h;refine⟨_,(B1 (C5 (i:=3) sc.nd rfl (.inl rfl) (C4 T.aL G_row_of (Rm hr) (A8 (peF K (pv 0)) (A8 (pv 1) B0))))
   (B4 (C0 (J8 (E8 Qi (pv 3) Cs (D8 _)) (O3 (E8 (S9 K) (C6 (ixT K) (pv 3) B3 (fun _ _=>rfl)) (pv 2) rfl)))))),?_⟩
  refine B7 fun N1 hN1=>?_;refine ex1 rfl ⟨x,_,_,_,_,rfl,hx,T.ae,T.an,rfl,ex1 rfl ⟨c,_,n,rfl,W.ht,by rw[AA];omega,?_⟩⟩;rw[Wl];refine hN1 _ _ ?_;unfold Rt at q;cases ek:L6 st n with
  | some y =>
   rw[ek]at q;have my:y∈st:=CG ek;refine ex1 rfl ⟨rfl,true,congrArg (fun b=>V.bl !b) (BC fun z=>by cases z),y8 ?_⟩;exact ex1 rfl ⟨y.1,_,B9 rfl rfl ⟨SqT.of (W.ht.row (rT y) (AH.mpr ⟨y,my,rfl⟩)),B8 (j:=1) rfl,ex1 rfl (G9 (.inl (SqL.of eh)) q)⟩⟩
  | none =>
   rw[ek]at q;exact ex1 rfl ⟨rfl,false,congrArg (fun b=>V.bl !b) (AG rfl),X4 q⟩
theorem V2:FnScope ["weave", "names", "name", "hit"] ["weave", "names", "name"] (B5 s_woven_struck):=fsc
def Nw(C:Addr):Sp:=fun vs H Q _=>∃(x m:Addr) (pe:List PEr) (sa:List SAr) (st:List STr) (ba:List PA2) (n:Str) (y:STr) (ns:List Str),vs = [.ref x,.ref m,.str n]/\WeaveAt C H x pe sa st ba/\WOk pe sa st ba/\L6 st n=some y/\H m=some (.lst (ns.map V.str))/\ns.length<=100 /\
 ∀(l:Addr) (ms:List Str) H',Same H H'->H l=none->H' l=some (.lst (ms.map V.str))->ms.Sublist ns->(∀o,o∈ms↔Vj sa st ba ns n o)->Q (.ref l) H'
set_option maxHeartbeats 2000000 in
theorem Ar(T:Tx K mg):FnOk P w K mg base CX0 5 T.aM.f T.aM.fd ["weave", "names", "name"] (Nw T.aa):=by
 have G_hit_by:=Od (P:=P) (w:=w) (base:=base) T;have G_is_strike_from:=o8 (P:=P) (w:=w) (base:=base) T;have sc:=V2;refine T.aM.F.ok V2 (fun vs H Q E h=>?_) (fun cdv A outer s H vs Q E hr h=>?_)
 .obtain⟨x,m,pe,sa,st,ba,n,y,ns,rfl,_⟩:=h;rfl
 .obtain⟨x,m,pe,sa,st,ba,n,y,ns,rfl,hW,ok,ey,em,len,q⟩:=h;refine⟨_,(B1 (C5 (i:=3) sc.nd rfl (.inr rfl) (C4 T.bj G_hit_by (Rm hr) (A8 (pv 0) (A8 (pv 2) B0))))
   (B4 (C0 (O2 (N':=["other", "hit", "weave"]) (cap:=[none,some 3,some 0]) (cl:=[("weave",_),("hit",_)]) (J6 ⟨⟨rfl,rfl,rfl,rfl⟩,⟨⟨rfl,rfl,rfl,rfl⟩,trivial⟩⟩ ⟨rfl,⟨rfl,trivial⟩⟩) rfl (piL K (pv 1)) (fun _ _ _ _=>by exact⟨(pgC 0),(K6 (PW.pt (y4 (C3 (S9 K) (pv 0) (pv 1) rfl) (S4 (J0 (C4 T.aB G_is_strike_from (Rm hr) (A8 (pv 2) (A8 (pv 0) (A8 (pv 1) B0))))))))),(pv 0)⟩))))),?_⟩
  obtain⟨l1,l2,l3,l4⟩:=ok.len;refine B7 fun N1 hN1=>?_;refine ex1 rfl (ex1 rfl ⟨x,pe,sa,st,ba,n,y,rfl,hW,ok,ey,fun h hs H1 s1 hh e1 Ho=>?_⟩);refine hN1 _ _ ?_;refine ex1 rfl ⟨m,rfl,⟨_,SqL.of (s1 _ _ em)⟩,fun D hD=>?_⟩;refine Uv (r:=V.str) V.str (asL (K:=K) (SqL.of (s1 _ _ em))) (fun o=>decide (o∈hs)||Rt st hs o) (by omega) hD (fun o mo G sG M hM=>?_) (fun o mo G sG M hM=>ex1 rfl hM) fun σ' G sG eG=>?_
  .have hM':=hM G fun b o e=>e;refine ex1 rfl (ex1 rfl (G9 (.inl (SqL.of (sG _ _ e1))) ⟨_,rfl,Z7 (fun h1=>?_) (fun h1=>?_)⟩))
   .have h1:decide (o∈hs)=true:=h1;rw[h1,Bool.true_or]at hM';exact hM'
   .have h1:decide (o∈hs)=false:=DJ.mpr h1;rw[h1,Bool.false_or]at hM';exact ex1 rfl (ex1 rfl (ex1 rfl ⟨x,h,pe,sa,st,ba,o,hs,rfl,(hW.same s1).same sG,l3,sG _ _ e1,_,rfl,hM'⟩))
  .refine q D _ G (s1.trans sG) (s1.free hD) eG CQ fun o=>?_;rw[BW,Bool.or_eq_true,decide_eq_true_eq,Px (BQ.mp ok.sn).2.1];refine⟨fun⟨h1,h2⟩=>⟨y,ey,h1,h2.imp (Ho.mem o).mp fun⟨z,hz,e,h⟩=>⟨z,hz,e,(Ho.mem _).mp h⟩⟩,fun⟨y',ey',h1,h2⟩=>?_⟩;rw[ey]at ey';cases ey';exact⟨h1,h2.imp (Ho.mem o).mpr fun⟨z,hz,e,h⟩=>⟨z,hz,e,(Ho.mem _).mpr h⟩⟩
theorem Lu:FnScope ["weave", "counted", "names"] ["weave"] (B5 s_woven):=fsc
def Tf(C CW:Addr):Sp:=fun vs H Q _=>∃(x:Addr) (pe:List PEr) (sa:List SAr) (st:List STr) (ba:List PA2),vs = [.ref x]/\WeaveAt C H x pe sa st ba/\WOk pe sa st ba/\sa.length<=12/\st.length<=12 /\
 ∀(xw:Addr) (ns:List Str) (qs:List PA2) H',Same H H'->H xw=none->WebAt CW H' xw ns qs->ns.Perm (Bg pe sa st)->(∀k,k∈(qs.map fun q=>q.2)↔Xq pe sa st ba k)->Q (.ref xw) H'
set_option maxHeartbeats 4000000 in
theorem Tp(T:Tx K mg):FnOk P w K mg base CX0 6 T.bm.f T.bm.fd ["weave"] (Tf T.aa T.ac):=by
 have G_counting:=Js (P:=P) (w:=w) (base:=base) T;have G_names_of:=J3 (P:=P) (w:=w) (base:=base) T;have G_woven_struck:=Ar (P:=P) (w:=w) (base:=base) T;have G_Web___init__:=Io (P:=P) (w:=w) (base:=base) T;have sc:=Lu;refine T.bm.F.ok Lu (fun vs H Q E h=>?_) (fun cdv A outer s H vs Q E hr h=>?_)
 .obtain⟨x,pe,sa,st,ba,rfl,_⟩:=h;rfl
 .obtain⟨x,pe,sa,st,ba,rfl,hW,ok,s12,t12,q⟩:=h;have hu:=w8 hr;refine⟨_,(B1 (C5 (i:=1) sc.nd rfl (.inl rfl) (C4 T.a8 G_counting (Rm hr) (A8 (pv 0) B0)))
   (B1 (C5 (i:=2) sc.nd rfl (.inr rfl) (F8 X9 (C4 T.al G_names_of (Rm hr) (A8 (peF K (pv 0)) B0)) (pv 1)))
   (B4 (C0 (Oe T.bL G_Web___init__ (Rm hr) rfl T.bD T.bA .nil Bi (A8 (pv 2) (A8 (zBw (N':=["name", "other", "weave", "names"]) (cap:=[none,none,some 0,some 2]) (cl:=[("weave",_),("names",_)]) (J6 ⟨⟨rfl,rfl,rfl,rfl⟩,⟨⟨rfl,rfl,rfl,rfl⟩,trivial⟩⟩ ⟨rfl,⟨rfl,trivial⟩⟩) rfl (piL K (pv 1)) (fun _ _ _ _=>by exact⟨(pgC 0),F9,(piL K (C4 T.aM G_woven_struck (Rm hr) (A8 (pv 2) (A8 (pv 3) (A8 (pv 0) B0))))),(pgC 1),F9,(U8 (A8 (pv 0) (A8 (pv 1) B0)))⟩)) B0))))))),?_⟩
  obtain⟨dx,a,b,c,d,hx,W⟩:=hW;have hW:WeaveAt T.aa H x pe sa st ba:=⟨dx,a,b,c,d,hx,W⟩;refine B7 fun N1 hN1=>?_;refine ex1 rfl ⟨x,pe,sa,st,ba,rfl,hW,ok,fun cl cs H1 s1 hcl e1 pm1 so1=>?_⟩;refine hN1 _ _ (B7 fun N2 hN2=>?_);refine ex1 rfl ⟨x,_,_,_,_,rfl,s1 _ _ hx,T.ae,T.ak,rfl,b,_,rfl,(W.same s1).hs,by rw[AA];omega,fun m H2 s2 hm e2=>?_⟩;rw[Eu]at e2;have lS:(nS sa).length=sa.length:=by unfold nS;rw[AA]
  have lC:cs.length<=st.length:=by
   rw[pm1.length_eq];have:=(X1 pe sa st).length_le;unfold nT at this⊢;rw[AA,AA]at this;rw[AA];exact this
  refine ex1 rfl ⟨m,cl,_,_,rfl,rfl,e2,s2 _ _ e1,by rw[AA,AA,sizeLine_eq];omega,fun nm hnm=>?_⟩;have s3:=(s1.trans s2).trans (Same.new (o:=.lst ((nS sa).map V.str++cs.map V.str)) hnm);have e3:(upd H2 nm (.lst ((nS sa).map V.str++cs.map V.str))) nm=some (.lst ((nS sa++cs).map V.str)):=by rw[A9,AL]
  have f3:=(Same.new (o:=.lst ((nS sa).map V.str++cs.map V.str)) hnm) _ _ (s2 _ _ e1);generalize upd H2 nm (.lst ((nS sa).map V.str++cs.map V.str))=H3 at s3 e3 f3⊢;refine hN2 _ _ ?_;have nN:T0 (nS sa++cs):=by
   have k:=Qs ok;have pm:(nS sa++cs).Perm (Bg pe sa st):=pm1.append_left _;exact⟨fun y hy=>k.1 y (pm.mem_iff.mp hy),pm.nodup_iff.mpr k.2.1,by rw[pm.length_eq];exact k.2.2⟩
  have lN:(nS sa++cs).length<=24:=by rw[BB];omega
  refine ex1 rfl (ex1 rfl ⟨cl,rfl,⟨_,SqL.of f3⟩,fun D hD=>?_⟩);refine K7 (asL (K:=K) (SqL.of f3)) (fun i σ G=>(∃v0 v1,σ = [v0,v1,some (.ref x),some (.ref nm)])/\Same H3 G/\∃ps:List PA2,G D=some (.lst (I9 ps))/\(∀q∈ps,F4 G q)/\(ps.map fun q=>q.2).Nodup/\(∀k,k∈(ps.map fun q=>q.2)↔k.1∈cs.take i/\Vj sa st ba (nS sa++cs) k.1 k.2)/\ps.length<=24*i) ⟨⟨_,_,rfl⟩,Same.new hD,[],A9,fun q h=>absurd h AM,CV,fun k=>⟨fun h=>absurd h AM,fun h=>absurd h.1 AM⟩,BT _⟩ (fun i σ G _ h=>h.2.1.at cl) ?_ ?_
  .rintro i σ G v N hx ⟨⟨v0,v1,rfl⟩,sG,ps,eG,pG,nd,mem,len⟩ hN;rw[AF]at hx;obtain⟨n,hn,rfl⟩:=AV.mp hx;have hi:=(AU.mp hn).1;have mn:n∈nT st:=(X1 pe sa st).subset (pm1.mem_iff.mp (AK hn));obtain⟨y,ey,my,ny⟩:=P1 (f:=fun q:STr=>q.2.1) mn;have ncs:n∉cs.take i:=J4 ((BQ.mp nN.2.1).2.1) hn;refine X6 ?_;refine ex1 rfl (ex1 rfl (ex1 rfl ⟨x,nm,pe,sa,st,ba,n,y,nS sa++cs,rfl,(hW.same s3).same sG,ok,ey,sG _ _ e3,by omega,fun l ms G2 s2 hl el sub mm=>⟨l,rfl,⟨_,SqL.of el⟩,?_⟩⟩));have lms:=sub.length_le;have hlD:l≠D:=(B2 eG hl).symm;refine K7 (asL (K:=K) (SqL.of el)) (fun j σ F=>(∃v1,σ = [some (.str n),v1,some (.ref x),some (.ref nm)])/\Same H3 F/\F l=some (.lst (ms.map V.str))/\∃rs:List PA2,F D=some (.lst (I9 (ps++rs)))/\(∀q∈ps++rs,F4 F q)/\(rs.map fun q=>q.2) =(ms.take j).map fun o=>(n,o)) ⟨⟨_,rfl⟩,sG.trans s2,el,[],by rw[CL];exact s2 _ _ eG,by rw[CL];exact E4 s2 pG,rfl⟩ ?_ ?_ ?_
   .rintro j σ F _ ⟨_,_,f,_⟩ o e;rw[el]at e;cases e;exact f
   .rintro j σ F v N2 hx ⟨⟨v1,rfl⟩,sF,fl,rs,eF,pF,mF⟩ hN2;rw[AF]at hx;obtain⟨o,ho,rfl⟩:=AV.mp hx;refine X6 (ex1 rfl (ex1 rfl ⟨by show 2<=sizeLine;decide,fun t ht=>?_⟩));have ut:=Same.new (o:=.tup [.str n,.str o]) ht;have ntD:t≠D:=(B2 eF ht).symm;have lrs:rs.length<=24:=by
     have:=congrArg List.length mF;rw[AA,AA,AR]at this;omega
    refine⟨_,ut _ _ eF,by unfold I9;rw[AA,BB,sizeLine_eq];omega,hN2 _ _ ⟨⟨_,rfl⟩,(sF.trans ut).upd hD,by rw[B6 hlD];exact ut _ _ fl,rs ++ [(t,n,o)],by rw[A9];unfold I9;rw[<-BI,AL (l₁:=ps++rs)];rfl,fun z hz=>?_,by rw[AL,mF,C8 ho,AL];rfl⟩⟩;rw[<-BI]at hz;rcases AI.mp hz with h | h
    .exact(B6 (P8 (ut _ _ (pF z h)) (ut _ _ eF) (by intro z;cases z))).trans (ut _ _ (pF z h))
    .rw[AC.mp h];exact(B6 ntD).trans A9
   .rintro σ F ⟨⟨v1,rfl⟩,sF,fl,rs,eF,pF,mF⟩;rw[AA,BR]at mF;have lrs:rs.length=ms.length:=by
     have:=congrArg List.length mF
     rwa [AA,AA]at this
    refine hN _ _ ⟨⟨_,_,rfl⟩,sF,ps++rs,eF,pF,?_,fun k=>?_,by rw[BB];omega⟩
    .rw[AL,mF];refine BQ.mpr ⟨nd,?_,fun a ha b hb e=>?_⟩
     .exact CZ.mpr ((nN.2.1.sublist sub).imp fun h z=>h (congrArg Prod.snd z))
     .obtain⟨o,_,rfl⟩:=AH.mp hb;rw[e]at ha;exact ncs ((mem _).mp ha).1
    .rw[AL,AI,mem,mF,C8 hn,AI,AC,AH];constructor
     .rintro(⟨h1,h2⟩ | ⟨o,ho,rfl⟩)
      .exact⟨.inl h1,h2⟩
      .exact⟨.inr rfl,(mm o).mp ho⟩
     .rintro⟨h1 | h1,h2⟩
      .exact .inl ⟨h1,h2⟩
      .obtain⟨k1,k2⟩:=k;have h1:k1=n:=h1;subst h1;exact .inr ⟨k2,(mm k2).mpr h2,rfl⟩
  .rintro σ G ⟨_,sG,ps,eG,pG,nd,mem,len⟩;rw[AA,BR]at mem;rw[AA]at len;intro xw dxw nx ndx nex;have s0:Same G (upd (upd G dxw (.own xw)) xw (.ins T.ac dxw [])):=fun b o e=>by
    rw[B6 (B2 e nx),B6 (B2 e ndx)];exact e
   have O:StrkOk (nS sa++cs) ps:=⟨fun z hz=>?_,nd,by omega⟩
   .have sG0:=sG.trans s0;refine zDq (a:=xw) (b:=dxw) (c:=nm) (d:=nS sa++cs) (e:=D) (f:=ps) rfl A9 (sG0 _ _ e3) nN (s0 _ _ eG) (E4 s0 pG) O fun ns qs H7 pn srn pq srq k7 W7=>⟨rfl,?_⟩;have s7:Same G H7:=fun b o e=>k7 b o (s0 b o e) (by simpa using B2 e nx);have pm:(nS sa++cs).Perm (Bg pe sa st):=pm1.append_left _;refine q xw ns qs H7 ((s3.trans sG).trans s7) ((s3.trans sG).free nx) W7 (pn.trans pm) fun k=>?_;rw[(pq.map fun q:PA2=>q.2).mem_iff,mem,pm1.mem_iff];unfold Xq Vj;simp only[pm.mem_iff]
   .obtain⟨h1,y,ey,h2,h3⟩:=(mem z.2).mp (AH.mpr ⟨z,hz,rfl⟩);exact⟨BJ _ h1,h2⟩
theorem Dd:FnScope ["_law_cell", "_law_k", "_law_m"] ["_law_cell", "_law_k"] (B5 s_law_mix):=fsc
def zAl:Sp:=fun vs H Q _=>∃(cell k:Int),vs = [.int cell,.int k]/\0<=k/\k<=2000000/\∀m:Int,0<=m->m<1999999973->Q (.int m) H
theorem My(T:Tx K mg):FnOk P w K mg base CX0 1 T.a6.f T.a6.fd ["_law_cell", "_law_k"] zAl:=by
 have sc:=Dd;refine T.a6.F.ok Dd (fun vs H Q E h=>?_) (fun cdv A outer s H vs Q E hr h=>?_)
 .obtain⟨c,k,rfl,_⟩:=h;rfl
 .obtain⟨cell,k,rfl,k0,k1,q⟩:=h;refine⟨_,(B1 (C5 (i:=2) sc.nd rfl (.inl rfl) (F8 Gb (F8 Bs (F8 U6 (F8 U6 (F8 Gb (pv 0) B3) (F8 Bs (F8 Bs (pv 1) (pv 1)) B3)) B3) B3) B3))
   (B4 (C0 (F8 Gb (F8 Bs (pv 2) (pv 2)) B3)))),?_⟩
  refine ex1 rfl (B9 rfl rfl ⟨(show(0:Int)<2147483629 by decide),ex1 rfl (ex1 rfl (B9 rfl rfl ⟨.inl ⟨by omega,by omega⟩,B9 rfl rfl ⟨.inr ⟨by decide,by decide⟩,B9 rfl rfl (B9 rfl rfl (B9 rfl rfl ⟨.inr ⟨by decide,by decide⟩,B9 rfl rfl ⟨(show(0:Int)<2147483647 by decide),?_⟩⟩))⟩⟩))⟩);generalize hm:(cell % 2147483629+k*k*7919+11)*48271 % 2147483647=m;have h1:0<=m:=by rw[<-hm];exact FN _ (by decide)
  have h2:m<2147483647:=by rw[<-hm];exact EW _ (by decide)
  exact⟨_,rfl,_,rfl,_,_,rfl,rfl,.inl ⟨by omega,by omega⟩,_,_,rfl,rfl,(show(0:Int)<1999999973 by decide),q _ (FN _ (by decide)) (EW _ (by decide))⟩
def LeftAt(H:Hp)(p:Addr)(c:Int):Prop:=∃a b:Int,H p=some (.lst [.int a,.int b,.int c])/\0<=c
theorem LeftAt.isS{H:Hp}{p:Addr}{c:Int}(h:LeftAt H p c):(H p).isSome=true:=by
 obtain⟨_,_,e,_⟩:=h;rw[e];rfl
theorem LeftAt.get{H:Hp}{p:Addr}{c:Int}(h:LeftAt H p c):H p=some ((H p).get h.isS):=(Option.some_get _).symm
theorem LeftAt.cast{H:Hp}{p:Addr}{c c':Int}(h:LeftAt H p c)(e:c=c'):LeftAt H p c':=e▸h
theorem LeftAt.upd{H:Hp}{p a:Addr}{c:Int}{o:HO}(h:LeftAt H p c)(n:p≠a):LeftAt (L2.upd H a o) p c:=by
 obtain⟨x,y,e,z⟩:=h;exact⟨x,y,by rw[B6 n];exact e,z⟩
theorem LeftAt.same{H H':Hp}{p:Addr}{c:Int}(h:LeftAt H p c)(s:Same H H'):LeftAt H' p c:=by
 obtain⟨x,y,e,z⟩:=h;exact⟨x,y,s _ _ e,z⟩
theorem zEc(c:Bool):-(2^64) <(if c=true then(1:Int)else 0)/\(if c=true then(1:Int)else 0)<2^64:=by cases c<;>exact⟨by decide,by decide⟩
theorem Bn:FnScope ["_law_script", "_law_k", "_law_cell"] ["_law_script", "_law_k"] (B5 s_law_left):=fsc
def Xj(K:PySem.W.Frag):Sp:=fun vs H Q _=>∃(p:Addr) (xs:List Int) (k:Nat),vs = [.ref p,.int (k:Int)]/\SqL K H p (xs.map V.int)/\k<=1000/\∀l H',H l=none->Same H H'->LeftAt H' l 0->Q (.ref l) H'
theorem Iw(T:Tx K mg):FnOk P w K mg base CX0 1 T.a9.f T.a9.fd ["_law_script", "_law_k"] (Xj K):=by
 have sc:=Bn;refine T.a9.F.ok Bn (fun vs H Q E h=>?_) (fun cdv A outer s H vs Q E hr h=>?_)
 .obtain⟨p,xs,k,rfl,_⟩:=h;rfl
 .obtain⟨p,xs,k,rfl,hS,hk,q⟩:=h;refine⟨_,(B1 (C5 (i:=2) sc.nd rfl (.inl rfl) (Mc (C3 zAd (pv 1) (E2 (O8 K) T.am K9 (A8 (pv 0) B0)) (D8 _)) (C6 (ixL K) (pv 0) (pv 1) (fun _ _=>rfl)) B3))
   (B4 (C0 (E9 (A8 (F8 Bs (E2 Lg T.bF Vu (A8 (pv 2) B0)) (U1 Gm T.bn Kj (A8 (E8 Wx (E2 Lg T.bF Vu (A8 (pv 2) B0)) (F8 zAo B3 B3) (D8 _)) B0))) (A8 (F8 U6 (pv 2) (F8 Bs B3 (pv 1))) (A8 B3 B0))))))),?_⟩
  refine ex1 rfl (ex1 rfl (B9 (a:=p) rfl (.inl hS) (B9 rfl rfl (ex1 rfl ?_))));have at1:decide ((k:Int) <((xs.map V.int).length:Int))=true->∃c:Int,atI (xs.map V.int) (k:Int)=some (.int c):=fun c1=>by
   have c1:(k:Int) <((xs.map V.int).length:Int):=BG c1;rw[AA]at c1;have hk':xs[k]?=some (xs[k]'(by omega)):=AN (by omega);exact⟨_,B8 (by rw[AF,hk'];rfl)⟩
  refine Z7 (fun c1=>?_) (fun c1=>?_)
  .obtain⟨c,hc⟩:=at1 c1;refine ex1 rfl (ex1 rfl ⟨p,_,B9 rfl rfl ⟨hS,hc,?_⟩⟩)
   (repeat first | refine⟨_,rfl,?_⟩ | refine⟨_,_,rfl,rfl,?_⟩)
   refine⟨⟨by decide,by decide,by decide⟩,?_⟩
   (repeat first | refine⟨_,rfl,?_⟩ | refine⟨_,_,rfl,rfl,?_⟩)
   refine .inr ⟨_,rfl,?_⟩
   (repeat first | refine⟨_,rfl,?_⟩ | refine⟨_,_,rfl,rfl,?_⟩)
   refine⟨.inr ?_,?_⟩
   .exact zEc _
   (repeat first | refine⟨_,rfl,?_⟩ | refine⟨_,_,rfl,rfl,?_⟩)
   refine⟨.inl ⟨by decide,by decide⟩,?_⟩
   (repeat first | refine⟨_,rfl,?_⟩ | refine⟨_,_,rfl,rfl,?_⟩)
   exact⟨by show 3<=sizeLine;decide,fun l hl=>q l _ hl (Same.new hl) ⟨_,_,A9,by decide⟩⟩
  .skip;(repeat first | refine⟨_,rfl,?_⟩ | refine⟨_,_,rfl,rfl,?_⟩)
   refine⟨⟨by decide,by decide,by decide⟩,?_⟩
   (repeat first | refine⟨_,rfl,?_⟩ | refine⟨_,_,rfl,rfl,?_⟩)
   refine .inr ⟨_,rfl,?_⟩
   (repeat first | refine⟨_,rfl,?_⟩ | refine⟨_,_,rfl,rfl,?_⟩)
   refine⟨.inr ?_,?_⟩
   .exact zEc _
   (repeat first | refine⟨_,rfl,?_⟩ | refine⟨_,_,rfl,rfl,?_⟩)
   refine⟨.inl ⟨by decide,by decide⟩,?_⟩
   (repeat first | refine⟨_,rfl,?_⟩ | refine⟨_,_,rfl,rfl,?_⟩)
   exact⟨by show 3<=sizeLine;decide,fun l hl=>q l _ hl (Same.new hl) ⟨_,_,A9,by decide⟩⟩
theorem Ai:FnScope ["_law_left_here", "_law_many", "_law_digit"] ["_law_left_here", "_law_many"] (B5 s_law_pick):=fsc
def Xc:Sp:=fun vs H Q _=>∃(p:Addr) (c many:Int),vs = [.ref p,.int many]/\LeftAt H p c/\c<=1000000/\0<many/\many<=1000000 /\
 ∀(d:Nat) H',(d:Int)<many->Sm [p] H H'->LeftAt H' p (c+1)->Q (.int (d:Int)) H'
theorem P5(T:Tx K mg):FnOk P w K mg base CX0 2 T.ad.f T.ad.fd ["_law_left_here", "_law_many"] Xc:=by
 have G_law_mix:=My (P:=P) (w:=w) (base:=base) T;have sc:=Ai;refine T.ad.F.ok Ai (fun vs H Q E h=>?_) (fun cdv A outer s H vs Q E hr h=>?_)
 .obtain⟨p,c,m,rfl,_⟩:=h;rfl
 .obtain⟨p,c,many,rfl,⟨a,b,e,c0⟩,c1,m0,m1,q⟩:=h;refine⟨_,(B1 (Hh (F8 U6 (C6 (ixL K) (pv 0) B3 (fun _ _=>rfl)) B3) (Sa (pv 0) B3 Er))
   (B1 (I0 (C3 zBk (C6 (ixL K) (pv 0) B3 (fun _ _=>rfl)) B3 (D8 _)) (B1 (C5 (i:=2) sc.nd rfl (.inl rfl) (F8 Gb (C6 (ixL K) (pv 0) B3 (fun _ _=>rfl)) (pv 1)))
   (B1 (Hh (F8 Rf (C6 (ixL K) (pv 0) B3 (fun _ _=>rfl)) (pv 1)) (Sa (pv 0) B3 Er))
   (B4 (C0 (pv 2))))) D0)
   (B4 (C0 (F8 Gb (F8 Rf (C4 T.a6 G_law_mix (Rm hr) (A8 (C4 T.a6 G_law_mix (Rm hr) (A8 (C6 (ixL K) (pv 0) B3 (fun _ _=>rfl)) (A8 (C6 (ixL K) (pv 0) B3 (fun _ _=>rfl)) B0))) (A8 (F8 U6 (C6 (ixL K) (pv 0) B3 (fun _ _=>rfl)) B3) B0))) B3) (pv 1)))))),?_⟩
  have nn:∀d:Int,0<=d->d<many->∀a' b',Q (.int d) (upd (upd H p (.lst [.int a,.int b,.int (c+1)])) p (.lst [.int a',.int b',.int (c+1)]))/\Q (.int d) (upd H p (.lst [.int a',.int b',.int (c+1)])):=fun d h0 h1 a' b'=>by
   obtain⟨n,rfl⟩:=Int.eq_ofNat_of_zero_le h0;exact⟨q n _ h1 (((Sm.refl _ _).upd (by simp)).upd (by simp)) ⟨a',b',A9,by omega⟩,q n _ h1 ((Sm.refl _ _).upd (by simp)) ⟨a',b',A9,by omega⟩⟩
  refine ex1 rfl ⟨p,_,B9 rfl rfl ⟨SqL.of e,rfl,B9 rfl rfl (ex1 rfl ⟨p,_,_,2,rfl,rfl,e,rfl,?_⟩)⟩⟩;refine ex1 rfl ⟨p,_,B9 rfl rfl ⟨SqL.of A9,rfl,B9 rfl rfl (ex1 rfl ?_)⟩⟩;refine Z7 (fun h1=>?_) (fun h1=>?_)
  .have h1:(0:Int)<a:=BG h1;refine ex1 rfl ⟨p,_,B9 rfl rfl ⟨SqL.of A9,rfl,ex1 rfl (B9 rfl rfl ⟨m0,?_⟩)⟩⟩;refine ex1 rfl ⟨p,_,B9 rfl rfl ⟨SqL.of A9,rfl,ex1 rfl (B9 rfl rfl ⟨⟨m0,by omega⟩,ex1 rfl ⟨p,_,_,0,rfl,rfl,A9,rfl,?_⟩⟩)⟩⟩;exact⟨_,rfl,(nn _ (FN _ (by omega)) (EW _ m0) _ _).1⟩
  .refine ex1 rfl ⟨p,_,B9 rfl rfl ⟨SqL.of A9,rfl,ex1 rfl ⟨p,_,B9 rfl rfl ⟨SqL.of A9,rfl,_,ex1 rfl ⟨by omega,by omega,fun m2 h2 h3=>?_⟩⟩⟩⟩⟩;refine ex1 rfl ⟨p,_,B9 rfl rfl ⟨SqL.of A9,rfl,B9 rfl rfl ⟨_,ex1 rfl ⟨by omega,by omega,fun m3 h4 h5=>?_⟩⟩⟩⟩;refine B9 rfl rfl ⟨⟨by decide,by decide⟩,ex1 rfl (B9 rfl rfl ⟨m0,?_⟩)⟩;exact(nn _ (FN _ (by omega)) (EW _ m0) _ _).2
end
theorem six{d n:Nat}(h:d<n):seqIndex? (d:Int) n=some d:=by
 unfold seqIndex?;simp;omega
theorem erase_perm{α:Type}{l:List α}{i:Nat}{x:α}(h:l[i]?=some x):(x::l.eraseIdx i).Perm l:=ST.erase_perm h
theorem Gr{α β:Type}(f:α->β):∀(l:List α) (i:Nat),(l.map f).eraseIdx i =(l.eraseIdx i).map f
 | [],_=>rfl
 | _::_,0=>rfl
 | a::l,i+1=>by
  show f a ::(l.map f).eraseIdx i=f a ::(l.eraseIdx i).map f;rw[Gr f l i]
theorem names_of{all rest got:List Str}(pm:(rest++got).Perm all)(h1:∀x∈all,F7 x=true)(h2:all.Nodup)(h3:all.length<=100):T0 got:=by
 refine⟨fun x hx=>h1 x (pm.mem_iff.mp (BJ _ hx)),?_,?_⟩
 .exact(BQ.mp (pm.nodup_iff.mpr h2)).2.1
 .have:=pm.length_eq;rw[BB]at this;omega
theorem Ug{all rest got:List Str}{d:Nat}{x:Str}(pm:(rest++got).Perm all)(h:rest[d]?=some x):(rest.eraseIdx d ++(got ++ [x])).Perm all:=by
 refine List.Perm.trans ?_ pm;rw[<-BI];refine CM.trans ?_;rw[<-BI];exact(erase_perm h).append_right got
theorem Sm1{p b:Addr}{H H':Hp}{o:HO}(h:Sm [p] H H')(e:H b=some o)(n:b≠p):H' b=some o:=h b o e fun z=>n (AC.mp z)
section
variable{P:Program}{w:World}{K:PySem.W.Frag}{mg:Str->Option Value}{base:Heap}
def all30:List Str:=["b", "aa", "zebra", "c", "quartzes", "ab", "m", "knows", "d", "mm", "likes", "z", "a", "ba", "abcdefgh", "y", "zz", "e", "x", "f", "g", "hh", "i", "jj", "k", "ll", "say", "strike", "fact", "back"]
abbrev txt20:Str := "b aa zebra c quartzes ab m knows d mm likes z a ba abcdefgh y zz e x f"
abbrev txt10:Str := "g hh i jj k ll say strike fact back"
abbrev txt8:Str := "b aa zebra cy quartzes eve m knows"
def all20:List Str:=["b", "aa", "zebra", "c", "quartzes", "ab", "m", "knows", "d", "mm", "likes", "z", "a", "ba", "abcdefgh", "y", "zz", "e", "x", "f"]
def all10:List Str:=["g", "hh", "i", "jj", "k", "ll", "say", "strike", "fact", "back"]
def all8:List Str:=["b", "aa", "zebra", "cy", "quartzes", "eve", "m", "knows"]
theorem Yv:Builtin.Str.partsBetween txt20 (Builtin.Str.occurrences txt20 " " 0 txt20.length (txt20.length+1)) (" ":Str).length=all20:=by decide +kernel
theorem Yt:Builtin.Str.partsBetween txt10 (Builtin.Str.occurrences txt10 " " 0 txt10.length (txt10.length+1)) (" ":Str).length=all10:=by decide +kernel
theorem zBs:Builtin.Str.partsBetween txt8 (Builtin.Str.occurrences txt8 " " 0 txt8.length (txt8.length+1)) (" ":Str).length=all8:=by decide +kernel
theorem all30_ok:(∀x∈all30,F7 x=true)/\all30.Nodup:=⟨by decide +kernel,by decide +kernel⟩
theorem Xz:T0 all8:=⟨by decide +kernel,by decide +kernel,by decide⟩
theorem Yg:all20++all10=all30:=rfl
theorem zFu(Q:VK)(H:Hp)(h:∀l,H l=none->Q (.ref l) (upd H l (.lst (all20.map V.str)))):Kf (.str txt20) [.str " "] H Q:=⟨txt20, " ",all20,rfl,rfl,by decide +kernel,by decide +kernel,by decide +kernel,by decide +kernel,Yv,by decide +kernel,h⟩
theorem zFw(Q:VK)(H:Hp)(h:∀l,H l=none->Q (.ref l) (upd H l (.lst (all10.map V.str)))):Kf (.str txt10) [.str " "] H Q:=⟨txt10, " ",all10,rfl,rfl,by decide +kernel,by decide +kernel,by decide +kernel,by decide +kernel,Yt,by decide +kernel,h⟩
theorem sp8(Q:VK)(H:Hp)(h:∀l,H l=none->Q (.ref l) (upd H l (.lst (all8.map V.str)))):Kf (.str txt8) [.str " "] H Q:=⟨txt8, " ",all8,rfl,rfl,by decide +kernel,by decide +kernel,by decide +kernel,by decide +kernel,zBs,by decide +kernel,h⟩
theorem Q9:FnScope ["_law_left_here", "_law_many", "_law_some", "_law_names", "_law_k"] ["_law_left_here", "_law_many"] (B5 s_law_many_names):=fsc
def Dp:Sp:=fun vs H Q _=>∃(p:Addr) (c:Int) (many:Nat),vs = [.ref p,.int (many:Int)]/\LeftAt H p c/\c<=900000/\many<=30 /\
 ∀l (ss:List Str) H',H l=none->Sm [p] H H'->H' l=some (.lst (ss.map V.str))->ss.length=many->T0 ss->(∀x∈ss,x∈all30)->LeftAt H' p (c+many)->Q (.ref l) H'
set_option maxHeartbeats 2000000 in
theorem l9(T:Tx K mg):FnOk P w K mg base CX0 3 T.aC.f T.aC.fd ["_law_left_here", "_law_many"] Dp:=by
 have G_law_pick:=P5 (P:=P) (w:=w) (base:=base) T;have sc:=Q9;refine T.aC.F.ok Q9 (fun vs H Q E h=>?_) (fun cdv A outer s H vs Q E hr h=>?_)
 .obtain⟨p,c,m,rfl,_⟩:=h;rfl
 .obtain⟨p,c,many,rfl,hL,c1,m1,q⟩:=h;obtain⟨a0,b0,e0,c0⟩:=id hL;refine⟨_,(B1 (C5 (i:=2) sc.nd rfl (.inl rfl) (Nz K PySem.F.plainAttrs_str PySem.F.slot_str_split PySem.F.type_str_split Ek P0 (A8 P0 B0)))
   (B1 (C5 (i:=2) sc.nd rfl (.inl rfl) (F8 X9 (pv 2) (Nz K PySem.F.plainAttrs_str PySem.F.slot_str_split PySem.F.type_str_split Ek P0 (A8 P0 B0))))
   (B1 (C5 (i:=3) sc.nd rfl (.inl rfl) (E9 B0))
   (B1 (P4 PassesOwn.never rfl (Wy T.aG (A8 (pv 1) B0)) (D6 (i:=4) sc.nd rfl (.inl rfl))
   (B4 (G0 (Nz K PySem.F.plainAttrs_list PySem.F.slot_list_append PySem.F.type_list_append M0 (pv 3) (A8 (Nz K PySem.F.plainAttrs_list PySem.F.slot_list_pop PySem.F.type_list_pop Ta (pv 2) (A8 (C4 T.ad G_law_pick (Rm hr) (A8 (pv 0) (A8 (E2 (O8 K) T.am K9 (A8 (pv 2) B0)) B0))) B0)) B0)))))
   (B4 (C0 (pv 3))))))),?_⟩
  refine B7 fun N1 hN1=>?_;refine⟨rfl,?_⟩;dsimp only[Nl,tC,Wa];refine zFu _ _ fun a1 ha1=>?_;have u1:=Same.new (o:=.lst (all20.map V.str)) ha1;have e1:(upd H a1 (.lst (all20.map V.str))) a1=some (.lst (all20.map V.str)):=A9;generalize upd H a1 (.lst (all20.map V.str))=H1 at u1 e1⊢;refine hN1 _ _ (B7 fun N2 hN2=>?_);refine ex1 rfl ⟨rfl,?_⟩;dsimp only[Nl,tC,Wa];refine zFw _ _ fun a2 ha2=>?_;have u2:=Same.new (o:=.lst (all10.map V.str)) ha2;refine⟨a1,a2,_,_,rfl,rfl,u2 _ _ e1,A9,by rw[AA,AA];show 30<=sizeLine;decide,fun a ha=>?_⟩;have u3:=(u1.trans u2).trans (Same.new (o:=.lst (all20.map V.str++all10.map V.str)) ha);have ea:(upd (upd H1 a2 (.lst (all10.map V.str))) a (.lst (all20.map V.str++all10.map V.str))) a=some (.lst (all30.map V.str)):=by rw[A9,<-Yg,AL]
  have ha0:H a=none:=(u1.trans u2).free ha;generalize upd (upd H1 a2 (.lst (all10.map V.str))) a (.lst (all20.map V.str++all10.map V.str))=H2 at u3 ea⊢;clear u1 u2 e1 ha ha1 ha2;have ha:=ha0;have a1:=all30_ok.1;have a2:=all30_ok.2;have al:all30.length=30:=rfl;obtain⟨all,eall⟩:∃all,all=all30:=⟨_,rfl⟩;rw[<-eall]at ea a1 a2 al;refine hN2 _ _ ?_;refine⟨BT _,fun b hb=>?_⟩;have hb':H b=none:=u3.free hb;have nab:a≠b:=B2 ea hb;have npa:p≠a:=B2 e0 ha;have npb:p≠b:=B2 e0 hb';refine ex1 rfl (ex1 rfl ⟨by omega,by omega,?_⟩);rw[DK];refine Q6 (fun i σ H1=>(∃v4,σ = [some (.ref p),some (.int (many:Int)),some (.ref a),some (.ref b),v4])/\Sm [p] H H1/\LeftAt H1 p (c+i)/\∃rest got:List Str,H1 a=some (.lst (rest.map V.str))/\H1 b=some (.lst (got.map V.str))/\(rest++got).Perm all/\got.length=i) ?_ ?_ ?_
  .refine⟨⟨_,rfl⟩,(u3.trans (Same.new hb)).sm,((hL.cast (by omega)).same u3).upd npb,all,[],by rw[B6 nab];exact ea,by rw[A9];rfl,by rw[CL],rfl⟩
  .rintro i σ H1 hi ⟨⟨v4,rfl⟩,k1,L1,rest,got,ea,eb,pm,hg⟩ D1 hD1 _;have hlen:rest.length=30-i:=by
    have:=pm.length_eq;rw[BB,hg,al]at this;omega
   refine ex1 rfl ⟨.inl ⟨rfl,_,SqL.of eb⟩,ex1 rfl ⟨.inl ⟨rfl,_,SqL.of ea⟩,ex1 rfl (ex1 rfl (B9 (a:=a) rfl (.inl (SqL.of ea)) (X5 (a:=p) (b:=c+i) rfl L1 (by omega) ?_ ?_ fun d H2 hd k2 L2=>?_)))⟩⟩
   .rw[AA];omega
   .rw[AA];omega
   rw[AA]at hd;have hd':d<rest.length:=by omega
   have hx:rest[d]?=some rest[d]:=AN hd';have ea2:=Sm1 k2 ea npa.symm;have eb2:=Sm1 k2 eb npb.symm;refine⟨a,_,_,d,.str rest[d],rfl,rfl,ea2,by omega,by omega,six (by rw[AA];exact hd'),by rw[AF,hx];rfl,b,B9 rfl rfl ⟨by rw[B6 nab.symm];exact eb2,?_,?_⟩⟩
   .rw[AA,sizeLine_eq];omega
   refine hD1 _ _ ⟨⟨_,rfl⟩,?_,?_,rest.eraseIdx d,got ++ [rest[d]],?_,?_,Ug pm hx,by rw[BB,hg];rfl⟩
   .exact((k1.trans k2).updN ha).updN hb'
   .exact((L2.cast (by omega)).upd npa).upd npb
   .rw[B6 nab,A9,Gr]
   .rw[A9,AL];rfl
  .rintro σ H1 ⟨⟨v4,rfl⟩,k1,L1,rest,got,ea,eb,pm,hg⟩;exact⟨_,rfl,q b got H1 hb' k1 eb hg (names_of pm a1 a2 (by omega)) (fun x hx=>by rw[<-eall];exact pm.mem_iff.mp (BJ _ hx)) L1⟩
end
theorem Yd{d:Nat}(h:d<6):∃r:Int,atI [V.int 0,.int 1,.int 1,.int 2,.int 5,.int 9] (d:Int)=some (.int r)/\0<=r/\r<=9:=by
 match d,h with
 | 0,_=>exact⟨0,rfl,by decide,by decide⟩
 | 1,_=>exact⟨1,rfl,by decide,by decide⟩
 | 2,_=>exact⟨1,rfl,by decide,by decide⟩
 | 3,_=>exact⟨2,rfl,by decide,by decide⟩
 | 4,_=>exact⟨5,rfl,by decide,by decide⟩
 | 5,_=>exact⟨9,rfl,by decide,by decide⟩
theorem LeftAt.neL{H:Hp}{p a:Addr}{c:Int}{xs:List V}(h:LeftAt H p c)(e:H a=some (.lst xs))(n:∀x y,xs≠[.int x,.int y,.int c]):a≠p:=fun z=>by
 obtain⟨x,y,e',_⟩:=h;rw[z,e']at e;cases e;exact n x y rfl
theorem LeftAt.neT{H:Hp}{p a:Addr}{c:Int}{xs:List V}(h:LeftAt H p c)(e:H a=some (.tup xs)):a≠p:=fun z=>by
 obtain⟨x,y,e',_⟩:=h;rw[z,e']at e;cases e
theorem LeftAt.neR{H:Hp}{p a:Addr}{c:Int}{as:List Addr}(h:LeftAt H p c)(e:H a=some (.lst (as.map V.ref))):a≠p:=h.neL e fun x y z=>by
 cases as with
 | nil=>cases z
 | cons b r=>cases z
theorem LeftAt.ne{H:Hp}{p a:Addr}{c:Int}{ss:List Str}(h:LeftAt H p c)(e:H a=some (.lst (ss.map V.str))):a≠p:=h.neL e fun x y z=>by
 cases ss with
 | nil=>cases z
 | cons b r=>cases z
theorem RowsAt.sm{H H':Hp}{l p:Addr}{c:Int}{rs:List RW}(h:RowsAt H l rs)(L:LeftAt H p c)(k:Sm [p] H H'):RowsAt H' l rs:=by
 have e:(rs.map fun q=>V.ref q.1) =(rs.map fun q=>q.1).map V.ref:=by rw[BA];rfl
 refine⟨Sm1 k h.at_ (L.neR (by rw[<-e];exact h.at_)),fun q hq=>Sm1 k (h.row q hq) (L.neT (h.row q hq))⟩
theorem RowsAt.snoc{H:Hp}{l t:Addr}{rs:List RW}{n:Str}{xs:List V}(h:RowsAt H l rs)(ht:H t=some (.tup (.str n::xs))):RowsAt (upd H l (.lst ((rs.map fun q=>V.ref q.1) ++ [.ref t]))) l (rs ++ [(t,n,xs)]):=by
 refine⟨by rw[A9,AL];rfl,fun q hq=>?_⟩;rcases AI.mp hq with z | z
 .exact(B6 (P8 (h.row q z) h.at_ (by intro y;cases y))).trans (h.row q z)
 .rw[AC.mp z];exact(B6 (P8 ht h.at_ (by intro y;cases y))).trans ht
section
variable{P:Program}{w:World}{K:PySem.W.Frag}{mg:Str->Option Value}{base:Heap}
theorem b9:FnScope ["_law_left_here", "_law_many", "_law_some"] ["_law_left_here", "_law_many"] (B5 s_law_people):=fsc
def Pn:Sp:=fun vs H Q _=>∃(p:Addr) (c:Int) (many:Nat),vs = [.ref p,.int (many:Int)]/\LeftAt H p c/\c<=800000/\many<=8 /\
 ∀l (pe:List PEr) c' H',H l=none->Sm [p] H H'->RowsAt H' l (pe.map rP)->pe.length=many->(nP pe).Nodup->(∀q∈pe,F7 q.2.1=true/\0<=q.2.2/\q.2.2<=9)->c'<=c+500->LeftAt H' p c'->Q (.ref l) H'
set_option maxHeartbeats 2000000 in
theorem Ds(T:Tx K mg):FnOk P w K mg base CX0 5 T.aU.f T.aU.fd ["_law_left_here", "_law_many"] Pn:=by
 have G_law_pick:=P5 (P:=P) (w:=w) (base:=base) T;have sc:=b9;refine T.aU.F.ok b9 (fun vs H Q E h=>?_) (fun cdv A outer s H vs Q E hr h=>?_)
 .obtain⟨p,c,m,rfl,_⟩:=h;rfl
 .obtain⟨p,c,many,rfl,hL,c1,m1,q⟩:=h;refine⟨_,(B1 (C5 (i:=2) sc.nd rfl (.inr rfl) (Nz K PySem.F.plainAttrs_str PySem.F.slot_str_split PySem.F.type_str_split Ek P0 (A8 P0 B0)))
   (@B4 _ _ _ (@C0 _ _ _ _ (O2 (N':=["_law_k", "_law_some", "_law_left_here"]) (cap:=[none,some 2,some 0]) (cl:=[("_law_some",_),("_law_left_here",_)]) (J6 ⟨⟨rfl,rfl,rfl,rfl⟩,⟨⟨rfl,rfl,rfl,rfl⟩,trivial⟩⟩ ⟨rfl,⟨rfl,trivial⟩⟩) rfl (Wy T.aG (A8 (pv 1) B0)) (fun _ _ _ _=>by exact⟨(pgC 0),F9,(@U8 _ _ _ _ _ (@A8 _ _ _ _ _ (C6 (ixL K) (pv 1) (pv 0) (fun _ _=>rfl)) (@A8 _ _ _ _ _ (@C6 _ _ _ _ _ _ _ (ixL K) (@E9 _ _ _ _ (@A8 _ _ _ _ _ B3 (@A8 _ _ _ _ _ B3 (@A8 _ _ _ _ _ B3 (@A8 _ _ _ _ _ B3 (@A8 _ _ _ _ _ B3 (@A8 _ _ _ _ _ B3 B0 (by rfl)) (by rfl)) (by rfl)) (by rfl)) (by rfl)) (by rfl))) (C4 T.ad G_law_pick (Rm hr) (A8 (pv 2) (A8 B3 B0))) (fun _ _=>rfl)) B0 (by rfl)) (by rfl)))⟩))))),?_⟩
  refine B7 fun N1 hN1=>?_;refine⟨rfl,?_⟩;dsimp only[Nl,tC,Wa];refine sp8 _ _ fun l hl=>?_;have ua:=Same.new (o:=.lst (all8.map V.str)) hl;have k1:Sm [p] H (upd H l (.lst (all8.map V.str))):=ua.sm;have e1:(upd H l (.lst (all8.map V.str))) l=some (.lst (all8.map V.str)):=A9;have L1:=hL.same ua;have N1':=Xz;have len1:all8.length=8:=rfl;have hc1:c<=c+400:=by omega
  generalize upd H l (.lst (all8.map V.str))=H1 at k1 e1 L1 ua⊢;generalize all8=ts at N1' len1 e1 hl⊢;obtain⟨c2,ec2⟩:∃c2,c2=c:=⟨_,rfl⟩;rw[<-ec2]at L1;refine hN1 _ _ ?_;refine ex1 rfl (ex1 rfl ⟨by omega,by omega,fun D hD=>?_⟩);rw[DK];have l8:ts.length=8:=len1;have npD:p≠D:=B2 L1.get hD;have nlD:l≠D:=B2 e1 hD;have hD0:H D=none:=by
   cases z:H D with
   | none=>rfl
   | some o =>
    have:=k1 D o z (by simpa using npD.symm);rw[hD]at this;cases this
  refine Ft (n:=many) (fun i σ H2=>(∃v,σ = [v,some (.ref l),some (.ref p)])/\Sm [p] H H2/\H2 l=some (.lst (ts.map V.str))/\(∃c',c'<=c2+i/\LeftAt H2 p c')/\∃pe:List PEr,RowsAt H2 D (pe.map rP)/\nP pe=ts.take i/\∀q∈pe,0<=q.2.2/\q.2.2<=9) ?_ (fun i _ _ hi _=>hi) (fun _ _ _=>Nat.le_refl _) ?_ ?_
  .exact⟨⟨_,rfl⟩,k1.updN hD0,by rw[B6 nlD];exact e1,⟨_,by omega,L1.upd npD⟩,[],⟨A9,fun q h=>absurd h AM⟩,rfl,fun q h=>absurd h AM⟩
  .rintro i σ H2 v H' N hi ⟨⟨v0,rfl⟩,k2,e2,⟨c3,hc3,L3⟩,pe,R2,n2,r2⟩ ⟨rfl,rfl⟩ hN;have li:i<ts.length:=by omega
   have hi':ts[i]?=some ts[i]:=AN li;have lpe:pe.length=i:=by
    have:=congrArg List.length n2;unfold nP at this;rw[AA,AR]at this;omega
   refine X6 ?_;rw[Int.zero_add];refine ex1 rfl (ex1 rfl ⟨l,_,B9 rfl rfl ⟨SqL.of e2,B8 (by rw[AF,hi'];rfl),?_⟩⟩);refine⟨by show 6<=sizeLine;decide,fun t ht=>?_⟩;have ut:=Same.new (o:=.lst [V.int 0,.int 1,.int 1,.int 2,.int 5,.int 9]) ht;refine ex1 rfl (X5 (a:=p) rfl (L3.same ut) (by omega) (by decide) (by decide) fun d H3 hd k3 L4=>?_);obtain⟨r,hr1,hr0,hr9⟩:=Yd (d:=d) (by omega);have e3:H3 t=some (.lst [V.int 0,.int 1,.int 1,.int 2,.int 5,.int 9]):=Sm1 k3 A9 (B2 L3.get ht).symm;refine⟨t,_,B9 rfl rfl ⟨SqL.of e3,hr1,by show 2<=sizeLine;decide,fun t2 ht2=>?_⟩⟩;have R3:=(R2.same ut).sm (L3.same ut) k3;have u2:=Same.new (o:=.tup [.str ts[i],.int r]) ht2;have R4:=R3.same u2;have e4:=Sm1 (k3.trans u2.sm) (ut _ _ e2) ((L3.same ut).ne (ut _ _ e2));have L5:=L4.same u2;have k4:Sm [p] H (upd H3 t2 (.tup [.str ts[i],.int r])):=(k2.trans ut.sm).trans (k3.trans u2.sm);have et:(upd H3 t2 (.tup [.str ts[i],.int r])) t2=some (.tup [.str ts[i],.int r]):=A9;generalize upd H3 t2 (.tup [.str ts[i],.int r])=H4 at R4 e4 L5 k4 et⊢;refine⟨_,R4.at_,by rw[AA,AA,sizeLine_eq];omega,hN _ _ ⟨⟨_,rfl⟩,k4.updN hD0,by rw[B6 nlD];exact e4,⟨_,by omega,L5.upd npD⟩,pe ++ [(t2,ts[i],r)],?_,?_,fun z hz=>?_⟩⟩
   .rw[AL];exact R4.snoc et
   .unfold nP at n2⊢;rw[AL,n2,C8 hi'];rfl
   .rcases AI.mp hz with y | y
    .exact r2 z y
    .rw[AC.mp y];exact⟨hr0,hr9⟩
  .rintro σ H2 ⟨⟨v0,rfl⟩,k2,e2,⟨c3,hc3,L3⟩,pe,R2,n2,r2⟩;have lpe:pe.length=many:=by
    have:=congrArg List.length n2;unfold nP at this;rw[AA,AR]at this;omega
   refine q D pe c3 H2 hD0 k2 R2 lpe (by rw[n2];exact N1'.2.1.sublist (DU _ _)) (fun z hz=>⟨N1'.1 _ (BO (i:=many) (by rw[<-n2];exact AH.mpr ⟨z,hz,rfl⟩)),r2 z hz⟩) (by omega) L3
end
def sd(ss:List Str):PyData:=.list (ss.map PyData.str)
theorem La{K:PySem.W.Frag}{H:Hp}:∀ss:List Str,Rps K H (ss.map PyData.str) (ss.map V.str)
 | []=>by simp[Rps]
 | x::r=>by
  simp only[BM,Rps,Rp];exact⟨_,_,rfl,rfl,La r⟩
theorem Qc{K:PySem.W.Frag}{H:Hp}{l:Addr}{ss:List Str}(h:SqL K H l (ss.map V.str)):Rp K H (sd ss) (.ref l):=by
 unfold sd;simp only[Rp];exact⟨l,_,rfl,h,La ss⟩
theorem i8:∀ss:List Str,PyData.depthAll (ss.map PyData.str)<=1
 | []=>by simp[PyData.depthAll]
 | x::r=>by
  have:=i8 r;simp only[BM,PyData.depthAll,PyData.depth];omega
theorem Kk:∀{ss:List Str},(∀x∈ss,PySem.PyData.strOk x=true)->PyData.canLayAll0 (ss.map PyData.str)=true
 | [],_=>rfl
 | x::r,h=>by
  rw[BM,PyData.canLayAll0,Kk fun z hz=>h z (AO _ hz)];simp[PyData.canLay0,h x (AW ..)]
theorem Sk{ss:List Str}(h:∀x∈ss,F7 x=true):Pl (sd ss):=by
 refine⟨?_,?_⟩
 .unfold sd;rw[PyData.canLay0];exact Kk fun x hx=>E5 (h x hx)
 .unfold sd;rw[PyData.depth];have:=i8 ss;omega
theorem Xl{K:PySem.W.Frag}{x y:V}{d:PyData}{H:Hp}{Q:VK}(h1:Rp K H d x)(h2:Rp K H d y)(p:Pl d)(q:Q (.bl false) H):zCq K x y H Q :=
 ⟨d,d,h1,h2,p,p,by rw[PySem.SeqAt.eqv_refl d p.1];exact q⟩
theorem Xg{K:PySem.W.Frag}{x y:V}{d:PyData}{H:Hp}{Q:VK}(h1:Rp K H d x)(h2:Rp K H d y)(p:Pl d)(q:Q (.bl true) H):zCl K x y H Q :=
 ⟨d,d,h1,h2,p,p,by rw[PySem.SeqAt.eqv_refl d p.1];exact q⟩
theorem Qh:∀ds:List PyData,PyData.eqv (.list ds) (.list [])=ds.isEmpty
 | []=>by rw[PyData.eqv,PyData.eqvAll];rfl
 | _::_=>by rw[PyData.eqv,PyData.eqvAll];rfl
theorem Nk(ss:List Str):PyData.eqv (sd ss) (.list [])=ss.isEmpty:=by
 unfold sd;rw[Qh];cases ss<;>rfl
theorem Ox:Pl (.list []):=⟨by simp[PyData.canLay0,PyData.canLayAll0],by simp[PyData.depth,PyData.depthAll]⟩
theorem Mb{K:PySem.W.Frag}{H:Hp}{l:Addr}(h:SqL K H l []):Rp K H (.list []) (.ref l):=by
 simp only[Rp];exact⟨l,_,rfl,h,by simp[Rps]⟩
theorem Lm{K:PySem.W.Frag}{H:Hp}{α:Type}{f:α->Addr}{d:α->PyData}:∀{xs:List α},(∀x∈xs,Rp K H (d x) (.ref (f x)))->Rps K H (xs.map d) (xs.map fun x=>V.ref (f x))
 | [],_=>by simp[Rps]
 | x::r,h=>by
  show Rps K H (d x::r.map d) (V.ref (f x)::r.map fun x=>V.ref (f x));simp only[Rps];exact⟨_,_,rfl,h x (AW ..),Lm fun z hz=>h z (AO _ hz)⟩
theorem Jr{K:PySem.W.Frag}{H:Hp}{α:Type}{f:α->Addr}{d:α->PyData}{xs:List α}{l:Addr}(e:H l=some (.lst (xs.map fun x=>V.ref (f x))))(h:∀x∈xs,Rp K H (d x) (.ref (f x))):Rp K H (.list (xs.map d)) (.ref l):=by
 simp only[Rp];exact⟨l,_,rfl,SqL.of e,Lm h⟩
theorem l0{α:Type}{d:α->PyData}:∀{xs:List α},(∀x∈xs,(d x).canLay0=true)->PyData.canLayAll0 (xs.map d)=true
 | [],_=>rfl
 | x::r,h=>by
  rw[BM,PyData.canLayAll0,l0 fun z hz=>h z (AO _ hz),h x (AW ..)];rfl
theorem Q5{α:Type}{d:α->PyData}{k:Nat}:∀{xs:List α},(∀x∈xs,(d x).depth<=k)->PyData.depthAll (xs.map d)<=k
 | [],_=>by simp[PyData.depthAll]
 | x::r,h=>by
  have h1:=h x (AW ..);have h2:=Q5 fun z hz=>h z (AO _ hz);rw[BM,PyData.depthAll];omega
theorem Wf{α:Type}{d:α->PyData}{xs:List α}(h:∀x∈xs,(d x).canLay0=true/\(d x).depth<=20):Pl (.list (xs.map d)):=by
 refine⟨?_,?_⟩
 .rw[PyData.canLay0];exact l0 fun x hx=>(h x hx).1
 .rw[PyData.depth];have:=Q5 fun x hx=>(h x hx).2;omega
def pdP(q:PEr):PyData:=.tuple [.str q.2.1,.int q.2.2]
theorem Uy{q:PEr}(h:F7 q.2.1=true):(pdP q).canLay0=true/\(pdP q).depth<=20:=by
 unfold pdP;refine⟨?_,by simp[PyData.depth,PyData.depthAll]⟩;have e:(PyData.int q.2.2).canLay0=true:=rfl;simp[PyData.canLay0,PyData.canLayAll0,E5 h,e]
theorem zFk{K:PySem.W.Frag}{H:Hp}{q:PEr}(h:Ql H (rP q)):Rp K H (pdP q) (.ref q.1):=by
 unfold pdP;simp only[Rp,Rps];exact⟨q.1,_,rfl,SqT.of h,_,_,rfl,rfl,_,_,rfl,rfl,rfl⟩
theorem Vm{K:PySem.W.Frag}{H:Hp}{l:Addr}{pe:List PEr}(h:RowsAt H l (pe.map rP)):Rp K H (.list (pe.map pdP)) (.ref l):=by
 have e:=h.at_;rw[BA]at e;exact Jr (f:=fun q:PEr=>q.1) e fun q hq=>zFk (h.row (rP q) (AH.mpr ⟨q,hq,rfl⟩))
theorem Sr{K:PySem.W.Frag}{H:Hp}{l z:Addr}{pe:List PEr}{Q:VK}(h:RowsAt H l (pe.map rP))(ok:∀q∈pe,F7 q.2.1=true)(hz:H z=some (.lst []))(q:Q (.bl (!pe.isEmpty)) H):zCq K (.ref l) (.ref z) H Q:=by
 refine⟨.list (pe.map pdP),.list [],Vm h,Mb (SqL.of hz),Wf fun q hq=>Uy (ok q hq),Ox,?_⟩;rw[Qh];have e:(pe.map pdP).isEmpty=pe.isEmpty:=by cases pe<;>rfl
 rw[e];exact q
theorem Kc(xs:List V)(i:Nat)(h:i<=xs.length):Cc xs (some (i:Int)) none=xs.drop i:=by
 unfold Cc;rw[HT.sIx_none,HT.sIx_nat,DZ h];exact CN (by rw[CC];exact Nat.le_refl _)
theorem Vf(xs:List V)(i:Nat):Cc xs none (some (i:Int))=xs.take i:=by
 unfold Cc;rw[HT.sIx_none,HT.sIx_nat,DV,Nat.sub_zero];by_cases h:i<=xs.length
 .rw[DZ h]
 .rw[Nat.min_eq_right (by omega),BR,CN (by omega)]
section
variable{P:Program}{w:World}{K:PySem.W.Frag}{mg:Str->Option Value}{base:Heap}
theorem U4:FnScope ["_law_left_here", "_law_people_here", "_law_found", "_law_k", "_law_name"] ["_law_left_here", "_law_people_here"] (B5 s_law_speakers):=fsc
def Rg:Sp:=fun vs H Q _=>∃(p a:Addr) (c:Int) (pe:List PEr),vs = [.ref p,.ref a]/\LeftAt H p c/\c<=800000/\RowsAt H a (pe.map rP)/\pe.length<=8/\(nP pe).Nodup/\(∀q∈pe,F7 q.2.1=true/\0<=q.2.2/\q.2.2<=9) /\
 ∀l (ss:List Str) c' H',H l=none->Sm [p] H H'->H' l=some (.lst (ss.map V.str))->(∀x∈ss,x∈nP pe)->ss.Nodup->ss.length<=8->c'<=c+4->LeftAt H' p c'->Q (.ref l) H'
set_option maxHeartbeats 2000000 in
theorem Bq(T:Tx K mg):FnOk P w K mg base CX0 3 T.aN.f T.aN.fd ["_law_left_here", "_law_people_here"] Rg:=by
 have G_law_pick:=P5 (P:=P) (w:=w) (base:=base) T;have sc:=U4;refine T.aN.F.ok U4 (fun vs H Q E h=>?_) (fun cdv A outer s H vs Q E hr h=>?_)
 .obtain⟨p,a,c,pe,rfl,_⟩:=h;rfl
 .obtain⟨p,a,c,pe,rfl,hL,c1,hR,len,nd,nmP,q⟩:=h;refine⟨_,(B1 (C5 (i:=2) sc.nd rfl (.inl rfl) (E9 B0))
   (B1 (P4 PassesOwn.never rfl (Wy T.aG (A8 (C4 T.ad G_law_pick (Rm hr) (A8 (pv 0) (A8 B3 B0))) B0)) (D6 (i:=3) sc.nd rfl (.inl rfl))
   (B4 (I0 (C3 (Wm K hr.units) (pv 1) (E9 B0) (D8 _)) (B1 (C5 (i:=4) sc.nd rfl (.inl rfl) (C6 (ixT K) (C6 (ixL K) (pv 1) (C4 T.ad G_law_pick (Rm hr) (A8 (pv 0) (A8 (E2 (O8 K) T.am K9 (A8 (pv 1) B0)) B0))) (fun _ _=>rfl)) B3 (fun _ _=>rfl)))
   (B4 (I0 (C3 (y9 K) (pv 4) (pv 2) rfl) (B4 (G0 (Nz K PySem.F.plainAttrs_list PySem.F.slot_list_append PySem.F.type_list_append M0 (pv 2) (A8 (pv 4) B0)))) D0))) D0)))
   (B4 (C0 (pv 2))))),?_⟩
  refine B7 fun N1 hN1=>?_;refine⟨BT _,fun D hD=>?_⟩;have uD:=Same.new (o:=.lst []) hD;have npD:p≠D:=B2 hL.get hD;refine hN1 _ _ (B7 fun N2 hN2=>?_);refine ex1 rfl (X5 (a:=p) rfl (hL.same uD) (by omega) (by decide) (by decide) fun d H2 hd k2 L2=>ex1 rfl ⟨by omega,by omega,?_⟩);have e2:H2 D=some (.lst (([]:List Str).map V.str)):=Sm1 k2 A9 npD.symm;have k2:Sm [p] H H2:=uD.sm.trans k2;have d3:d<3:=by omega
  rw[DK];refine Q6 (n:=d) (fun i σ G=>(∃v3 v4,σ = [some (.ref p),some (.ref a),some (.ref D),v3,v4])/\Sm [p] H G/\(∃c',c'<=c+1+i/\LeftAt G p c')/\∃ss:List Str,G D=some (.lst (ss.map V.str))/\(∀x∈ss,x∈nP pe)/\ss.Nodup/\ss.length<=i) ?_ ?_ ?_
  .exact⟨⟨_,_,rfl⟩,k2,⟨_,by omega,L2⟩,[],e2,fun x hx=>absurd hx AM,CV,BT _⟩
  .rintro i σ G hi ⟨⟨v3,v4,rfl⟩,kG,⟨c3,hc3,LG⟩,ss,eG,sub,nds,lss⟩ D1 hD1 _;have RG:=hR.sm hL kG;refine ex1 rfl ⟨BT _,fun z hz=>?_⟩;have uz:=Same.new (o:=.lst []) hz;have Rz:=RG.same uz;have ez:=uz _ _ eG;have Lz:=LG.same uz;have kz:=kG.trans uz.sm;have fz:(upd G z (.lst [])) z=some (.lst []):=A9;generalize upd G z (.lst [])=G1 at Rz ez Lz kz fz uz⊢;refine Sr Rz (fun q hq=>(nmP q hq).1) fz ⟨_,rfl,Z7 (fun h=>?_) (fun h=>?_)⟩
   .have l1:1<=pe.length:=by
     cases pe with
     | nil=>cases h
     | cons b r=>rw[BK];omega
    refine B7 fun M1 hM1=>?_;refine ex1 rfl (ex1 rfl (ex1 rfl ⟨a,_,rfl,.inl (SqL.of Rz.at_),?_⟩));rw[AA,AA];refine X5 (a:=p) rfl Lz (by omega) (by omega) (by omega) fun d1 G2 hd1 k3 L3=>?_;have R3:=Rz.sm Lz k3;have e3:=Sm1 k3 ez (Lz.ne ez);have k3:=kz.trans k3;have hi1:pe[d1]?=some (pe[d1]'(by omega)):=AN (by omega);have mem1:=AK hi1;generalize pe[d1]'(by omega)=y at hi1 mem1;refine⟨a,_,B9 rfl rfl ⟨SqL.of R3.at_,B8 (by rw[BA,AF,hi1];rfl),y.1,_,B9 rfl rfl ⟨SqT.of (R3.row (rP y) (AH.mpr ⟨y,mem1,rfl⟩)),B8 (j:=0) rfl,hM1 _ _ ?_⟩⟩⟩;refine ex1 rfl (ex1 rfl (V7 (.inl (SqL.of e3)) ⟨_,rfl,Z7 (fun h=>?_) (fun h=>?_)⟩))
    .have nin:y.2.1∉ss:=fun m=>by
      have h:(!decide (y.2.1∈ss))=true:=h;rw[AG m]at h;cases h
     refine ex1 rfl ⟨.inl ⟨rfl,_,SqL.of e3⟩,ex1 rfl ⟨D,_,_,rfl,rfl,e3,by rw[AA,sizeLine_eq];omega,hD1 _ _ ⟨⟨_,_,rfl⟩,k3.updN hD,⟨_,by omega,L3.upd npD⟩,ss ++ [y.2.1],?_,fun x hx=>?_,?_,?_⟩⟩⟩
     .rw[A9,AL];rfl
     .rcases AI.mp hx with m | m
      .exact sub x m
      .rw[AC.mp m];exact AH.mpr ⟨y,mem1,rfl⟩
     .exact BQ.mpr ⟨nds,BX.mpr ⟨AM,CV⟩,fun u hu v hv e=>nin (by rw[AC]at hv;exact hv▸e▸hu)⟩
     .rw[BB,EC];omega
    .exact hD1 _ _ ⟨⟨_,_,rfl⟩,k3,⟨_,by omega,L3⟩,ss,e3,sub,nds,by omega⟩
   .exact hD1 _ _ ⟨⟨_,_,rfl⟩,kz,⟨_,by omega,Lz⟩,ss,ez,sub,nds,by omega⟩
  .rintro σ G ⟨⟨v3,v4,rfl⟩,kG,⟨c3,hc3,LG⟩,ss,eG,sub,nds,lss⟩;exact hN2 _ _ (ex1 rfl (q D ss c3 G hD kG eG sub nds (by omega) (by omega) LG))
end
structure Sz(n0 n1 n2 n3:Nat):Prop where
 h0:n0<=8
 h1:n1<=12
 h2:n2<=12
 h3:n3<=12
 one:0<n3->0<n1
section
variable{P:Program}{w:World}{K:PySem.W.Frag}{mg:Str->Option Value}{base:Heap}
theorem o9:FnScope ["_law_left_here", "_law_most", "_law_way", "_law_some"] ["_law_left_here", "_law_most"] (B5 s_law_sizes):=fsc
def Up:Sp:=fun vs H Q _=>∃(p:Addr) (c:Int),vs = [.ref p,.int 12]/\LeftAt H p c/\c<=800000 /\
 ∀l (n0 n1 n2 n3:Nat) c' H',H l=none->Sm [p] H H'->H' l=some (.lst [.int (n0:Int),.int (n1:Int),.int (n2:Int),.int (n3:Int)])->Sz n0 n1 n2 n3->c'<=c+5->LeftAt H' p c'->Q (.ref l) H'
set_option maxHeartbeats 2000000 in
theorem Gy(T:Tx K mg):FnOk P w K mg base CX0 3 T.a1.f T.a1.fd ["_law_left_here", "_law_most"] Up:=by
 have G_law_pick:=P5 (P:=P) (w:=w) (base:=base) T;have sc:=o9;refine T.a1.F.ok o9 (fun vs H Q E h=>?_) (fun cdv A outer s H vs Q E hr h=>?_)
 .obtain⟨p,c,rfl,_⟩:=h;rfl
 .obtain⟨p,c,rfl,hL,c1,q⟩:=h;refine⟨_,(B1 (C5 (i:=2) sc.nd rfl (.inl rfl) (C4 T.ad G_law_pick (Rm hr) (A8 (pv 0) (A8 B3 B0))))
   (B1 (I0 (C3 Z8 (pv 2) B3 (D8 _)) (B4 (C0 (F8 X9 (E9 (A8 (F8 Oo B3 (C4 T.ad G_law_pick (Rm hr) (A8 (pv 0) (A8 B3 B0)))) B0)) (O2 (N':=["_law_k", "_law_most", "_law_left_here"]) (cap:=[none,some 1,some 0]) (cl:=[("_law_most",_),("_law_left_here",_)]) (J6 ⟨⟨rfl,rfl,rfl,rfl⟩,⟨⟨rfl,rfl,rfl,rfl⟩,trivial⟩⟩ ⟨rfl,⟨rfl,trivial⟩⟩) rfl (Wy T.aG (A8 B3 B0)) (fun _ _ _ _=>by exact⟨(pgC 0),F9,(F8 Oo (pv 1) (C4 T.ad G_law_pick (Rm hr) (A8 (pv 2) (A8 B3 B0))))⟩))))) D0)
   (B1 (I0 (C3 Z8 (pv 2) B3 (D8 _)) (B4 (C0 (E9 (A8 (C4 T.ad G_law_pick (Rm hr) (A8 (pv 0) (A8 B3 B0))) (A8 (C4 T.ad G_law_pick (Rm hr) (A8 (pv 0) (A8 B3 B0))) (A8 (C4 T.ad G_law_pick (Rm hr) (A8 (pv 0) (A8 B3 B0))) (A8 B3 B0))))))) D0)
   (@B1 _ _ _ _ _ (@C5 _ _ 3 _ _ _ _ sc.nd rfl (.inl rfl) (@E9 _ _ _ _ (@A8 _ _ _ _ _ (E9 (A8 B3 (A8 B3 (A8 B3 (A8 B3 B0))))) (@A8 _ _ _ _ _ (E9 (A8 B3 (A8 B3 (A8 B3 (A8 B3 B0))))) (@A8 _ _ _ _ _ (E9 (A8 B3 (A8 B3 (A8 B3 (A8 B3 B0))))) (@A8 _ _ _ _ _ (E9 (A8 B3 (A8 B3 (A8 B3 (A8 B3 B0))))) (@A8 _ _ _ _ _ (E9 (A8 B3 (A8 B3 (A8 B3 (A8 B3 B0))))) (@A8 _ _ _ _ _ (E9 (A8 B3 (A8 B3 (A8 B3 (A8 B3 B0))))) B0 (by rfl)) (by rfl)) (by rfl)) (by rfl)) (by rfl)) (by rfl))) (by rfl) (by first | exact .inl rfl | exact .inr rfl | assumption))
   (B4 (C0 (C6 (ixL K) (pv 3) (F8 Oo (pv 2) B3) (fun _ _=>rfl)))))))),?_⟩
  have new:∀{G:Hp} {l:Addr},Sm [p] H G->(∃c,LeftAt G p c)->G l=none->H l=none:=fun{G l} k ⟨c,L⟩ hl=>by
   cases z:H l with
   | none=>rfl
   | some o =>
    have:=k l o z (by simpa using (B2 L.get hl).symm);rw[hl]at this;cases this
  refine B7 fun N1 hN1=>?_;refine ex1 rfl (X5 (a:=p) rfl hL (by omega) (by decide) (by decide) fun d H1 hd k1 L1=>?_);refine hN1 _ _ (B7 fun N2 hN2=>?_);refine ex1 rfl ⟨rfl,ex1 rfl (Z7 (fun c0=>?_) (fun c0=>?_))⟩
  .refine ex1 rfl (X5 (a:=p) rfl L1 (by omega) (by decide) (by decide) fun d1 H2 hd1 k2 L2=>B9 rfl rfl ⟨by show 1<=sizeLine;decide,fun l1 hl1=>?_⟩);have e8:((8:Int)-(d1:Int)) =((8-d1:Nat):Int):=by omega
   dsimp only;rw[e8];have u1:=Same.new (o:=.lst [.int ((8-d1:Nat):Int)]) hl1;have f1:(upd H2 l1 (.lst [.int ((8-d1:Nat):Int)])) l1=some (.lst [.int ((8-d1:Nat):Int)]):=A9;generalize upd H2 l1 (.lst [.int ((8-d1:Nat):Int)])=H3 at u1 f1⊢;have L3:=L2.same u1;have k3:=k1.trans (k2.trans u1.sm);refine ex1 rfl ⟨by decide,by decide,fun D hD=>?_⟩;have npD:p≠D:=B2 L3.get hD;have nlD:l1≠D:=B2 f1 hD;have npl:l1≠p:=(B2 L2.get hl1).symm;have hD0:=new k3 ⟨_,L3⟩ hD;refine Ft (n:=3) (fun i σ G=>(∃v,σ = [v,some (.int 12),some (.ref p)])/\Sm [p] H G/\LeftAt G p (c+2+i)/\G l1=some (.lst [.int ((8-d1:Nat):Int)])/\∃ds:List Nat,G D=some (.lst (ds.map fun n:Nat=>V.int (n:Int)))/\ds.length=i/\∀x∈ds,10<=x/\x<=12) ?_ (fun i _ _ hi _=>hi) (fun _ _ _=>Nat.le_refl _) ?_ ?_
   .exact⟨⟨_,rfl⟩,k3.updN hD0,(L3.cast (by omega)).upd npD,by rw[B6 nlD];exact f1,[],A9,rfl,fun x h=>absurd h AM⟩
   .rintro i σ G v G' N hi ⟨⟨v0,rfl⟩,kG,LG,fG,ds,eG,hl,hx⟩ ⟨rfl,rfl⟩ hN;refine X6 ?_;refine ex1 rfl (ex1 rfl (X5 (a:=p) rfl LG (by omega) (by decide) (by decide) fun d3 G2 hd3 k4 L4=>B9 rfl rfl ?_));have e12:((12:Int)-(d3:Int)) =((12-d3:Nat):Int):=by omega
    have eD:=Sm1 k4 eG npD.symm;refine⟨_,eD,by rw[AA,sizeLine_eq];omega,hN _ _ ⟨⟨_,rfl⟩,(kG.trans k4).updN hD0,(L4.cast (by omega)).upd npD,by rw[B6 nlD];exact Sm1 k4 fG npl,ds ++ [12-d3],?_,by rw[BB,hl];rfl,fun x hm=>?_⟩⟩
    .rw[A9,AL];dsimp only;rw[e12];rfl
    .rcases AI.mp hm with y | y
     .exact hx x y
     .rw[AC.mp y];omega
   .rintro σ G ⟨⟨v0,rfl⟩,kG,LG,fG,ds,eG,hl,hx⟩;refine⟨l1,D,_,_,rfl,rfl,fG,eG,by rw[AA,hl];show 1+3<=sizeLine;decide,fun l2 hl2=>?_⟩
    match ds,hl,hx with
    | [a,b,e],_,hx =>
     obtain⟨a1,a2⟩:=hx a (by simp);obtain⟨b1,b2⟩:=hx b (by simp);obtain⟨g1,g2⟩:=hx e (by simp);exact q l2 (8-d1) a b e _ _ (new kG ⟨_,LG⟩ hl2) (kG.trans (Same.new hl2).sm) A9 ⟨by omega,a2,b2,g2,fun _=>by omega⟩ (by omega) (LG.same (Same.new hl2))
  refine hN2 _ _ (B7 fun N3 hN3=>?_);refine ex1 rfl ⟨rfl,ex1 rfl (Z7 (fun c1=>?_) (fun c1=>?_))⟩
  .refine ex1 rfl (X5 (a:=p) rfl L1 (by omega) (by decide) (by decide) fun d1 H2 hd1 k2 L2=>?_);refine ex1 rfl (X5 (a:=p) rfl L2 (by omega) (by decide) (by decide) fun d2 H3 hd2 k3 L3=>?_);refine ex1 rfl (X5 (a:=p) rfl L3 (by omega) (by decide) (by decide) fun d3 H4 hd3 k4 L4=>?_);have k:=k1.trans (k2.trans (k3.trans k4));refine⟨by show 4<=sizeLine;decide,fun l hl=>?_⟩;exact q l d1 d2 d3 0 _ _ (new k ⟨_,L4⟩ hl) (k.trans (Same.new hl).sm) A9 ⟨by omega,by omega,by omega,by omega,fun h=>absurd h (by omega)⟩ (by omega) (L4.same (Same.new hl))
  refine hN3 _ _ (B7 fun N4 hN4=>?_);refine⟨by show 4<=sizeLine;decide,fun l1 hl1=>?_⟩;have u1:=Same.new (o:=.lst [V.int 3,.int 4,.int 4,.int 0]) hl1;have e1:(upd H1 l1 (.lst [V.int 3,.int 4,.int 4,.int 0])) l1=some (.lst [V.int 3,.int 4,.int 4,.int 0]):=A9;generalize upd H1 l1 (.lst [V.int 3,.int 4,.int 4,.int 0])=G1 at u1 e1⊢;refine⟨by show 4<=sizeLine;decide,fun l2 hl2=>?_⟩;have u2:=Same.new (o:=.lst [V.int 3,.int 4,.int 5,.int 2]) hl2;have e2:(upd G1 l2 (.lst [V.int 3,.int 4,.int 5,.int 2])) l2=some (.lst [V.int 3,.int 4,.int 5,.int 2]):=A9;generalize upd G1 l2 (.lst [V.int 3,.int 4,.int 5,.int 2])=G2 at u2 e2⊢;refine⟨by show 4<=sizeLine;decide,fun l3 hl3=>?_⟩;have u3:=Same.new (o:=.lst [V.int 2,.int 3,.int 3,.int 2]) hl3;have e3:(upd G2 l3 (.lst [V.int 2,.int 3,.int 3,.int 2])) l3=some (.lst [V.int 2,.int 3,.int 3,.int 2]):=A9;generalize upd G2 l3 (.lst [V.int 2,.int 3,.int 3,.int 2])=G3 at u3 e3⊢;refine⟨by show 4<=sizeLine;decide,fun l4 hl4=>?_⟩;have u4:=Same.new (o:=.lst [V.int 4,.int 5,.int 5,.int 3]) hl4;have e4:(upd G3 l4 (.lst [V.int 4,.int 5,.int 5,.int 3])) l4=some (.lst [V.int 4,.int 5,.int 5,.int 3]):=A9;generalize upd G3 l4 (.lst [V.int 4,.int 5,.int 5,.int 3])=G4 at u4 e4⊢;refine⟨by show 4<=sizeLine;decide,fun l5 hl5=>?_⟩;have u5:=Same.new (o:=.lst [V.int 3,.int 3,.int 5,.int 1]) hl5;have e5:(upd G4 l5 (.lst [V.int 3,.int 3,.int 5,.int 1])) l5=some (.lst [V.int 3,.int 3,.int 5,.int 1]):=A9;generalize upd G4 l5 (.lst [V.int 3,.int 3,.int 5,.int 1])=G5 at u5 e5⊢;refine⟨by show 4<=sizeLine;decide,fun l6 hl6=>?_⟩;have u6:=Same.new (o:=.lst [V.int 2,.int 4,.int 4,.int 2]) hl6;have e6:(upd G5 l6 (.lst [V.int 2,.int 4,.int 4,.int 2])) l6=some (.lst [V.int 2,.int 4,.int 4,.int 2]):=A9;generalize upd G5 l6 (.lst [V.int 2,.int 4,.int 4,.int 2])=G6 at u6 e6⊢;refine⟨by show 6<=sizeLine;decide,fun l7 hl7=>?_⟩;have u7:=Same.new (o:=.lst [V.ref l1,.ref l2,.ref l3,.ref l4,.ref l5,.ref l6]) hl7;have e7:(upd G6 l7 (.lst [V.ref l1,.ref l2,.ref l3,.ref l4,.ref l5,.ref l6])) l7=some (.lst [V.ref l1,.ref l2,.ref l3,.ref l4,.ref l5,.ref l6]):=A9;generalize upd G6 l7 (.lst [V.ref l1,.ref l2,.ref l3,.ref l4,.ref l5,.ref l6])=G7 at u7 e7⊢;have v6:=u7;have v5:=u6.trans v6;have v4:=u5.trans v5;have v3:=u4.trans v4;have v2:=u3.trans v3;have v1:=u2.trans v2;have v0:=u1.trans v1;have k7:=k1.trans v0.sm;have L7:=L1.same v0;have n1:H l1=none:=new k1 ⟨_,L1⟩ hl1;have n2:H l2=none:=new (k1.trans u1.sm) ⟨_,(L1.same u1)⟩ hl2;have n3:H l3=none:=new (k1.trans (u1.trans u2).sm) ⟨_,(L1.same (u1.trans u2))⟩ hl3;have n4:H l4=none:=new (k1.trans ((u1.trans u2).trans u3).sm) ⟨_,(L1.same ((u1.trans u2).trans u3))⟩ hl4;have n5:H l5=none:=new (k1.trans (((u1.trans u2).trans u3).trans u4).sm) ⟨_,(L1.same (((u1.trans u2).trans u3).trans u4))⟩ hl5;have n6:H l6=none:=new (k1.trans ((((u1.trans u2).trans u3).trans u4).trans u5).sm) ⟨_,(L1.same ((((u1.trans u2).trans u3).trans u4).trans u5))⟩ hl6;refine hN4 _ _ ?_;have hd2:2<=d:=by
   have a0:d≠0:=fun z=>by subst z;exact absurd rfl (fun y=>c0 (AG y))
   have a1:d≠1:=fun z=>by subst z;exact absurd rfl (fun y=>c1 (AG y))
   omega
  refine ex1 rfl (ex1 rfl (B9 rfl rfl ?_));obtain⟨i,rfl⟩:∃i,d=i+2:=⟨d-2,by omega⟩;have ei:(((i+2:Nat):Int)-2) =(i:Int):=by omega
  dsimp only;rw[ei]
  match i,hd with
  | 0,_=>exact⟨l7,_,_,_,rfl,rfl,SqL.of e7,B8 (j:=0) rfl,q l1 3 4 4 0 _ _ n1 k7 (v1 _ _ e1) ⟨by decide,by decide,by decide,by decide,by decide⟩ (by omega) L7⟩
  | 1,_=>exact⟨l7,_,_,_,rfl,rfl,SqL.of e7,B8 (j:=1) rfl,q l2 3 4 5 2 _ _ n2 k7 (v2 _ _ e2) ⟨by decide,by decide,by decide,by decide,by decide⟩ (by omega) L7⟩
  | 2,_=>exact⟨l7,_,_,_,rfl,rfl,SqL.of e7,B8 (j:=2) rfl,q l3 2 3 3 2 _ _ n3 k7 (v3 _ _ e3) ⟨by decide,by decide,by decide,by decide,by decide⟩ (by omega) L7⟩
  | 3,_=>exact⟨l7,_,_,_,rfl,rfl,SqL.of e7,B8 (j:=3) rfl,q l4 4 5 5 3 _ _ n4 k7 (v4 _ _ e4) ⟨by decide,by decide,by decide,by decide,by decide⟩ (by omega) L7⟩
  | 4,_=>exact⟨l7,_,_,_,rfl,rfl,SqL.of e7,B8 (j:=4) rfl,q l5 3 3 5 1 _ _ n5 k7 (v5 _ _ e5) ⟨by decide,by decide,by decide,by decide,by decide⟩ (by omega) L7⟩
  | 5,_=>exact⟨l7,_,_,_,rfl,rfl,SqL.of e7,B8 (j:=5) rfl,q l6 2 4 4 2 _ _ n6 k7 (v6 _ _ e6) ⟨by decide,by decide,by decide,by decide,by decide⟩ (by omega) L7⟩
  | n+6,hd=>exact absurd hd (by omega)
end
theorem Yr{d:Nat}(h:d<3):∃k:Str,atI [V.str "claim",.str "claim",.str "fact"] (d:Int)=some (.str k)/\(k = "fact"\/k = "claim"):=by
 match d,h with
 | 0,_=>exact⟨"claim",rfl,.inr rfl⟩
 | 1,_=>exact⟨"claim",rfl,.inr rfl⟩
 | 2,_=>exact⟨"fact",rfl,.inl rfl⟩
section
variable{P:Program}{w:World}{K:PySem.W.Frag}{mg:Str->Option Value}{base:Heap}
theorem Q3:FnScope ["_law_left_here", "_law_most", "_law_many", "_law_people_here", "_law_names", "_law_said", "_law_sayings", "_law_strikes", "_law_name", "_law_goals", "_law_backs", "_law_k", "_law_pair"] ["_law_left_here", "_law_most"] (B5 s_law_weave_rows):=fsc
def Sy:Sp:=fun vs H Q _=>∃(p:Addr) (c:Int),vs = [.ref p,.int 12]/\LeftAt H p c/\c<=700000 /\
 ∀r a b g d (pe:List PEr) (sa:List SAr) (st:List STr) (ba:List PA2) c' H',Sm [p] H H'->H' r=some (.lst [.ref a,.ref b,.ref g,.ref d])->WRows H' a b g d pe sa st ba->WOk pe sa st ba->(∀x∈nS sa++nT st,x∈all30)->sa.length<=12->st.length<=12->LeftAt H' p c'->c'<=c+5000->Q (.ref r) H'
set_option maxHeartbeats 8000000 in
theorem j0(T:Tx K mg):FnOk P w K mg base CX0 6 T.aD.f T.aD.fd ["_law_left_here", "_law_most"] Sy:=by
 have G_law_pick:=P5 (P:=P) (w:=w) (base:=base) T;have G_law_sizes:=Gy (P:=P) (w:=w) (base:=base) T;have G_law_people:=Ds (P:=P) (w:=w) (base:=base) T;have G_law_many_names:=l9 (P:=P) (w:=w) (base:=base) T;have G_law_speakers:=Bq (P:=P) (w:=w) (base:=base) T;have sc:=Q3;refine T.aD.F.ok Q3 (fun vs H Q E h=>?_) (fun cdv A outer s H vs Q E hr h=>?_)
 .obtain⟨p,c,rfl,_⟩:=h;rfl
 .obtain⟨p,c,rfl,hL,c0,q⟩:=h;refine⟨_,(B1 (C5 (i:=2) sc.nd rfl (.inl rfl) (C4 T.a1 G_law_sizes (Rm hr) (A8 (pv 0) (A8 (pv 1) B0))))
   (B1 (C5 (i:=3) sc.nd rfl (.inr rfl) (C4 T.aU G_law_people (Rm hr) (A8 (pv 0) (A8 (C6 (ixL K) (pv 2) B3 (fun _ _=>rfl)) B0))))
   (B1 (C5 (i:=4) sc.nd rfl (.inl rfl) (C4 T.aC G_law_many_names (Rm hr) (A8 (pv 0) (A8 (F8 U6 (C6 (ixL K) (pv 2) B3 (fun _ _=>rfl)) (C6 (ixL K) (pv 2) B3 (fun _ _=>rfl))) B0))))
   (B1 (C5 (i:=5) sc.nd rfl (.inl rfl) (Ad (slL K) (pv 4) Dv (Dn (C6 (ixL K) (pv 2) B3 (fun _ _=>rfl)))))
   (B1 (Ln (i:=6) (N':=["_law_name", "_law_left_here", "_law_people_here"]) (cap:=[none,some 0,some 3]) (cl:=[("_law_people_here",_),("_law_left_here",_)]) sc.nd rfl (.inl rfl) (J6 ⟨⟨rfl,rfl,rfl,rfl⟩,⟨⟨rfl,rfl,rfl,rfl⟩,trivial⟩⟩ ⟨rfl,⟨rfl,trivial⟩⟩) rfl (piL K (pv 5)) (fun _ _ _ _=>by exact⟨(pgC 0),F9,(U8 (A8 (pv 0) (A8 (C6 (ixL K) (E9 (A8 P0 (A8 P0 (A8 P0 B0)))) (C4 T.ad G_law_pick (Rm hr) (A8 (pv 1) (A8 B3 B0))) (fun _ _=>rfl)) (A8 (C4 T.aN G_law_speakers (Rm hr) (A8 (pv 1) (A8 (pv 2) B0))) B0))))⟩))
   (B1 (C5 (i:=7) sc.nd rfl (.inl rfl) (E9 B0))
   (B1 (P4 PassesOwn.never rfl (piL K (Ad (slL K) (pv 4) (Dn (C6 (ixL K) (pv 2) B3 (fun _ _=>rfl))) Dv)) (D6 (i:=8) sc.nd rfl (.inl rfl))
   (B4 (I0 (C3 (Wm K hr.units) (pv 5) (E9 B0) (D8 _)) (B1 (C5 (i:=9) sc.nd rfl (.inl rfl) (C6 (ixL K) (E9 (A8 (pv 5) (A8 (pv 5) (A8 (pv 4) B0)))) (C4 T.ad G_law_pick (Rm hr) (A8 (pv 0) (A8 B3 B0))) (fun _ _=>rfl)))
   (B4 (G0 (Nz K PySem.F.plainAttrs_list PySem.F.slot_list_append PySem.F.type_list_append M0 (pv 7) (A8 (U8 (A8 (pv 8) (A8 (C6 (ixL K) (pv 5) (C4 T.ad G_law_pick (Rm hr) (A8 (pv 0) (A8 (E2 (O8 K) T.am K9 (A8 (pv 5) B0)) B0))) (fun _ _=>rfl)) (A8 (C6 (ixL K) (pv 9) (C4 T.ad G_law_pick (Rm hr) (A8 (pv 0) (A8 (E2 (O8 K) T.am K9 (A8 (pv 9) B0)) B0))) (fun _ _=>rfl)) B0)))) B0))))) D0)))
   (B1 (C5 (i:=10) sc.nd rfl (.inl rfl) (E9 B0))
   (B1 (P4 PassesOwn.never rfl (Wy T.aG (A8 (C6 (ixL K) (pv 2) B3 (fun _ _=>rfl)) B0)) (D6 (i:=11) sc.nd rfl (.inl rfl))
   (B1 (C5 (i:=12) sc.nd rfl (.inl rfl) (U8 (A8 (C6 (ixL K) (pv 5) (C4 T.ad G_law_pick (Rm hr) (A8 (pv 0) (A8 (E2 (O8 K) T.am K9 (A8 (pv 5) B0)) B0))) (fun _ _=>rfl)) (A8 (C6 (ixL K) (pv 5) (C4 T.ad G_law_pick (Rm hr) (A8 (pv 0) (A8 (E2 (O8 K) T.am K9 (A8 (pv 5) B0)) B0))) (fun _ _=>rfl)) B0))))
   (B4 (I0 (PW.pt (Qa (C3 Mg (C6 (ixT K) (pv 12) B3 (fun _ _=>rfl)) (C6 (ixT K) (pv 12) B3 (fun _ _=>rfl)) (D8 _)) (Ie (C3 (Ut K hr.units) (pv 12) (pv 10) rfl)))) (B4 (G0 (Nz K PySem.F.plainAttrs_list PySem.F.slot_list_append PySem.F.type_list_append M0 (pv 10) (A8 (pv 12) B0)))) D0))))
   (B4 (C0 (E9 (A8 (pv 3) (A8 (pv 6) (A8 (pv 7) (A8 (pv 10) B0)))))))))))))))),?_⟩
  refine B7 fun N1 hN1=>?_;refine ex1 rfl (ex1 rfl ⟨p,c,rfl,hL,by omega,fun m n0 n1 n2 n3 c1 H1 hm k1 e1 Z hc1 L1=>?_⟩);have nmp:m≠p:=L1.neL e1 fun x y z=>by cases z
  refine hN1 _ _ (B7 fun N2 hN2=>?_);refine ex1 rfl (ex1 rfl ⟨m,_,B9 rfl rfl ⟨SqL.of e1,B8 (j:=0) rfl,?_⟩⟩);refine⟨p,c1,n0,rfl,L1,by omega,Z.h0,fun a pe c2 H2 ha k2 R2 len2 nd2 ok2 hc2 L2=>?_⟩;have e2:=Sm1 k2 e1 nmp;refine hN2 _ _ (B7 fun N3 hN3=>?_);refine ex1 rfl (ex1 rfl ⟨m,_,B9 rfl rfl ⟨SqL.of e2,B8 (j:=1) rfl,ex1 rfl ⟨m,_,B9 rfl rfl ⟨SqL.of e2,B8 (j:=2) rfl,B9 rfl rfl ?_⟩⟩⟩⟩);have e12:((n1:Int) +(n2:Int)) =((n1+n2:Nat):Int):=by omega
  dsimp only;rw[e12];have z1:=Z.h1;have z2:=Z.h2;have z3:=Z.h3;refine⟨p,c2,n1+n2,rfl,L2,by omega,by omega,fun nm ts H4 hnm k4 e4 len4 N4' A4 L4=>?_⟩;have R4:=R2.sm L2 k4;have m4:=Sm1 k4 e2 nmp;have k4:=(k1.trans k2).trans k4;obtain⟨c4,hc4⟩:∃c4,c4=c2 +((n1+n2:Nat):Int):=⟨_,rfl⟩;rw[<-hc4]at L4;clear k1 k2 e1 e2 R2 L1 L2;refine hN3 _ _ (B7 fun N4 hN4=>?_);refine ex1 rfl (ex1 rfl ⟨m,_,B9 rfl rfl ⟨SqL.of m4,B8 (j:=1) rfl,_,rfl,nm,_,rfl,SqL.of e4,fun sq hsd=>?_⟩⟩);have us:=Same.new (o:=.lst (Cc (ts.map V.str) none (some (n1:Int)))) hsd;have e5:(upd H4 sq (.lst (Cc (ts.map V.str) none (some (n1:Int))))) sq=some (.lst ((ts.take n1).map V.str)):=by rw[A9,Vf,EH]
  generalize upd H4 sq (.lst (Cc (ts.map V.str) none (some (n1:Int))))=H5 at us e5⊢;have R5:=R4.same us;have m5:=us _ _ m4;have f5:=us _ _ e4;have L5:=L4.same us;have k5:=k4.trans us.sm;clear R4 m4 e4 L4 k4 us hsd;have lts:ts.length=n1+n2:=by omega
  refine hN4 _ _ (B7 fun N5 hN5=>?_);have l8:pe.length<=8:=by have:=Z.h0;omega
  have c5:c4<=c+1000:=by omega
  clear hc1 hc2 hc4;refine ex1 rfl ⟨sq,rfl,⟨_,SqL.of e5⟩,fun D hD=>?_⟩;have npD:p≠D:=B2 L5.get hD;refine K7 (asL (K:=K) (SqL.of e5)) (fun i σ G=>(∃v,σ = [v,some (.ref p),some (.ref a)])/\Sm [p] H5 G/\(∃c',c'<=c4+10*i/\LeftAt G p c')/\∃sa:List SAr,RowsAt G D (sa.map rS)/\(∀q∈sa,q.2.2.2.1≠D/\G q.2.2.2.1=some (.lst (q.2.2.2.2.map V.str))/\(q.2.2.1 = "fact"\/q.2.2.1 = "claim")/\(∀x∈q.2.2.2.2,x∈nP pe)/\q.2.2.2.2.Nodup/\q.2.2.2.2.length<=8)/\nS sa =(ts.take n1).take i)
   ⟨⟨_,rfl⟩,(Sm.refl _ _).updN hD,⟨_,by omega,L5.upd npD⟩,[],⟨A9,fun q h=>absurd h AM⟩,fun q h=>absurd h AM,rfl⟩ (fun i σ G _ ⟨_,kG,_⟩ o e=>kG sq o e (by simpa using L5.ne e5)) ?_ ?_
  .rintro i σ G v N hx ⟨⟨v0,rfl⟩,kG,⟨c6,hc6,LG⟩,sa,RG,spG,nG⟩ hN;rw[AF]at hx;obtain⟨x,hy,rfl⟩:=AV.mp hx;have hx:=hy;have li:=(AU.mp hx).1;rw[AR]at li;have lsa:sa.length=i:=by
    have:=congrArg List.length nG;unfold nS at this;rw[AA,AR,AR]at this;omega
   refine X6 (ex1 rfl ⟨by show 3<=sizeLine;decide,fun t ht=>?_⟩);have ut:=Same.new (o:=.lst [V.str "claim",.str "claim",.str "fact"]) ht;refine ex1 rfl (X5 (a:=p) rfl (LG.same ut) (by omega) (by decide) (by decide) fun dd G2 hd k2 L2=>?_);obtain⟨kd,hk1,hk2⟩:=Yr (d:=dd) (by omega);have et:G2 t=some (.lst [V.str "claim",.str "claim",.str "fact"]):=Sm1 k2 A9 (B2 LG.get ht).symm;refine⟨t,_,B9 rfl rfl ⟨SqL.of et,hk1,?_⟩⟩;have k2:=ut.sm.trans k2;have kG2:=kG.trans k2;refine ex1 rfl (ex1 rfl ⟨p,a,_,pe,rfl,L2,by omega,R5.sm L5 kG2,l8,nd2,ok2,fun l ss' c7 G3 hl k3 el sub nds lss hc7 L3=>⟨by show 3<=sizeLine;decide,fun t2 ht2=>?_⟩⟩);have u4:=Same.new (o:=.tup [.str x,.str kd,.ref l]) ht2;have k4:Sm [p] G (upd G3 t2 (.tup [.str x,.str kd,.ref l])):=k2.trans (k3.trans u4.sm);have R4:=RG.sm LG k4;have nlD:l≠D:=(B2 (RG.sm LG k2).at_ hl).symm;have e4:=u4 _ _ el;have L4:=L3.same u4;have et2:(upd G3 t2 (.tup [.str x,.str kd,.ref l])) t2=some (.tup [.str x,.str kd,.ref l]):=A9;generalize upd G3 t2 (.tup [.str x,.str kd,.ref l])=G4 at k4 R4 e4 L4 et2⊢;refine⟨_,R4.at_,by rw[AA,AA,sizeLine_eq];omega,hN _ _ ⟨⟨_,rfl⟩,(kG.trans k4).updN hD,⟨_,by omega,L4.upd npD⟩,sa ++ [(t2,x,kd,l,ss')],?_,fun z hz=>?_,?_⟩⟩
   .rw[AL];exact R4.snoc et2
   .rcases AI.mp hz with y | y
    .obtain⟨y1,y2,y3⟩:=spG z y;exact⟨y1,(B6 y1).trans (Sm1 k4 y2 (LG.ne y2)),y3⟩
    .rw[AC.mp y];exact⟨nlD,(B6 nlD).trans e4,hk2,sub,nds,lss⟩
   .unfold nS at nG⊢;rw[AL,nG,C8 hx];rfl
  .rintro σ G ⟨⟨v0,rfl⟩,kG,⟨c6,hc6,LG⟩,sa,RG,spG,nG⟩;rw[AA,BR]at nG;have c6':c6<=c+1200:=by
    rw[AA,AR]at hc6;omega
   clear hc6;have m6:=Sm1 kG m5 nmp;have R6:=R5.sm L5 kG;have f6:=Sm1 kG f5 (L5.ne f5);have e6:=Sm1 kG e5 (L5.ne e5);have k6:=k5.trans kG;clear m5 R5 f5 e5 kG k5;refine hN5 _ _ (B7 fun N6 hN6=>?_);refine⟨BT _,fun S hS=>?_⟩;have uS:=Same.new (o:=.lst []) hS;have eS:(upd G S (.lst [])) S=some (.lst []):=A9;have L7:=LG.same uS;have k7:Sm [p] G (upd G S (.lst [])):=uS.sm;have npS:p≠S:=B2 LG.get hS;generalize upd G S (.lst [])=H7 at eS L7 k7⊢;refine hN6 _ _ (B7 fun N7 hN7=>?_);have m7:=Sm1 k7 m6 nmp;have f7:=Sm1 k7 f6 (LG.ne f6);refine ex1 rfl (ex1 rfl ⟨m,_,B9 rfl rfl ⟨SqL.of m7,B8 (j:=1) rfl,_,rfl,nm,_,rfl,SqL.of f7,fun rs hrs=>?_⟩⟩);have ur:=Same.new (o:=.lst (Cc (ts.map V.str) (some (n1:Int)) none)) hrs;have e8:(upd H7 rs (.lst (Cc (ts.map V.str) (some (n1:Int)) none))) rs=some (.lst ((ts.drop n1).map V.str)):=by rw[A9,Kc _ _ (by rw[AA];omega),List.map_drop]
   have nrS:rs≠S:=(B2 eS hrs).symm;have nrp:rs≠p:=(B2 L7.get hrs).symm;have eS8:=ur _ _ eS;have L8:=L7.same ur;have k8:=k7.trans ur.sm;clear m7 f7 k7 L7 eS;generalize upd H7 rs (.lst (Cc (ts.map V.str) (some (n1:Int)) none))=H8 at e8 eS8 L8 k8⊢;refine⟨rs,rfl,⟨_,SqL.of e8⟩,Y3 (asL (SqL.of e8)) (fun i σ G'=>(∃v8 v9 v10 v11 v12,σ = [some (.ref p),some (.int 12),some (.ref m),some (.ref a),some (.ref nm),some (.ref sq),some (.ref D),some (.ref S),v8,v9,v10,v11,v12])/\Sm [p] G G'/\G' rs=some (.lst ((ts.drop n1).map V.str))/\(∃c',c'<=c6+3*i/\LeftAt G' p c')/\∃st:List STr,RowsAt G' S (st.map rT)/\nT st =(if ts.take n1 = []then []else(ts.drop n1).take i)/\∀q∈st,q.2.2.1∈ts.take n1/\q.2.2.2∈ts) ?_ ?_ ?_ ?_⟩
   .exact⟨⟨_,_,_,_,_,rfl⟩,k8,e8,⟨_,by omega,L8⟩,[],⟨eS8,fun q h=>absurd h AM⟩,by split<;>rfl,fun q h=>absurd h AM⟩
   .rintro i σ G' _ ⟨_,_,er,_⟩ o e;rw[e8]at e;cases e;exact er
   .rintro i σ G' y hy ⟨⟨v8,v9,v10,v11,v12,rfl⟩,kG',er,⟨c9,hc9,L9⟩,st,RS,nS',tS⟩ D1 hD1 _;rw[AF]at hy;obtain⟨x,hx,rfl⟩:=AV.mp hy;have li:=(AU.mp hx).1;rw[CC]at li;have f9:=Sm1 kG' f6 (LG.ne f6);have e9:=Sm1 kG' e6 (LG.ne e6);have R9:=RS.at_;refine ex1 rfl ⟨BT _,fun z hz=>?_⟩;have uz:=Same.new (o:=.lst []) hz;refine⟨Sw.sd (ts.take n1),.list [],Qc (SqL.of (uz _ _ e9)),Mb (SqL.of A9),Sk (fun y hy=>N4'.1 y (BO hy)),Ox,?_⟩;rw[Nk];have LZ:=L9.same uz;have kZ:=kG'.trans uz.sm;have eZ:=uz _ _ e9;have fZ:=uz _ _ f9;have RZ:=RS.same uz;have rZ:=uz _ _ er;generalize upd G' z (.lst [])=GZ at LZ kZ eZ fZ RZ rZ uz⊢;refine⟨_,rfl,Z7 (fun h=>?_) (fun h=>?_)⟩
    .have ne:ts.take n1≠[]:=fun y=>by rw[y]at h;exact absurd h (by decide)
     have lt1:1<=(ts.take n1).length:=List.length_pos_iff.mpr ne;have lt2:(ts.take n1).length<=ts.length:=by rw[AR];omega
     rw[AS ne]at nS';have lst:st.length=i:=by
      have:=congrArg List.length nS';unfold nT at this;rw[AA,AR,CC]at this;omega
     refine B7 fun M1 hM1=>?_;refine ex1 rfl (ex1 rfl (ex1 rfl ⟨by show 3<=sizeLine;decide,fun t ht=>?_⟩));have ut:=Same.new (o:=.lst [V.ref sq,.ref sq,.ref nm]) ht;refine ex1 rfl (X5 (a:=p) rfl (LZ.same ut) (by omega) (by decide) (by decide) fun dd G2 hdd k2 L2=>?_);have et:G2 t=some (.lst [V.ref sq,.ref sq,.ref nm]):=Sm1 k2 A9 (B2 LZ.get ht).symm;have k2:Sm [p] GZ G2:=ut.sm.trans k2;have e2:=Sm1 k2 eZ (LZ.ne eZ);have f2:=Sm1 k2 fZ (LZ.ne fZ);obtain⟨gl,gs,ga,ge,gm,g1⟩:∃(gl:Addr) (gs:List Str),atI [V.ref sq,.ref sq,.ref nm] (dd:Int)=some (.ref gl)/\G2 gl=some (.lst (gs.map V.str))/\(∀y∈gs,y∈ts)/\1<=gs.length/\gs.length<=30:=by
      match dd,hdd with
      | 0,_=>exact⟨sq,_,B8 (j:=0) rfl,e2,fun y hy=>BO hy,lt1,by omega⟩
      | 1,_=>exact⟨sq,_,B8 (j:=1) rfl,e2,fun y hy=>BO hy,lt1,by omega⟩
      | 2,_=>exact⟨nm,_,B8 (j:=2) rfl,f2,fun y hy=>hy,by omega,by omega⟩
      | n+3,hdd=>exact absurd hdd (by omega)
     refine⟨t,_,B9 rfl rfl ⟨SqL.of et,ga,hM1 _ _ ?_⟩⟩;have R2:=RZ.sm LZ k2;refine ex1 rfl ⟨.inl ⟨rfl,_,SqL.of R2.at_⟩,?_⟩;refine ex1 rfl (ex1 rfl (ex1 rfl (ex1 rfl ⟨sq,_,rfl,.inl (SqL.of e2),?_⟩)));rw[AA];refine X5 (a:=p) rfl L2 (by omega) (by omega) (by omega) fun d1 G3 hd1 k3 L3=>?_;have e3:=Sm1 k3 e2 (L2.ne e2);have hi1:(ts.take n1)[d1]?=some ((ts.take n1)[d1]'(by omega)):=AN (by omega);refine⟨sq,_,B9 rfl rfl ⟨SqL.of e3,B8 (by rw[AF,hi1];rfl),?_⟩⟩;have g3:=Sm1 k3 ge (L2.ne ge);refine ex1 rfl (ex1 rfl (ex1 rfl ⟨gl,_,rfl,.inl (SqL.of g3),?_⟩));rw[AA];refine X5 (a:=p) rfl L3 (by omega) (by omega) (by omega) fun d2 G4 hd2 k4 L4=>?_;have g4:=Sm1 k4 g3 (L3.ne g3);have hi2:gs[d2]?=some (gs[d2]'(by omega)):=AN (by omega);refine⟨gl,_,B9 rfl rfl ⟨SqL.of g4,B8 (by rw[AF,hi2];rfl),by show 3<=sizeLine;decide,fun t2 ht2=>?_⟩⟩;have mem1:=AK hi1;have mem2:=gm _ (AK hi2);generalize (ts.take n1)[d1]'(by omega)=o1 at mem1 ht2⊢;generalize gs[d2]'(by omega)=o2 at mem2 ht2⊢;have u5:=Same.new (o:=.tup [.str x,.str o1,.str o2]) ht2;have k5:Sm [p] GZ (upd G4 t2 (.tup [.str x,.str o1,.str o2])):=k2.trans (k3.trans (k4.trans u5.sm));have R5:=RZ.sm LZ k5;have r5:=Sm1 k5 rZ nrp;have L5':=L4.same u5;have et2:(upd G4 t2 (.tup [.str x,.str o1,.str o2])) t2=some (.tup [.str x,.str o1,.str o2]):=A9;generalize upd G4 t2 (.tup [.str x,.str o1,.str o2])=G5 at k5 R5 r5 L5' et2⊢;refine⟨S,_,_,rfl,rfl,R5.at_,by rw[AA,AA,sizeLine_eq];omega,hD1 _ _ ⟨⟨_,_,_,_,_,rfl⟩,(kZ.trans k5).updN hS,by rw[B6 nrS];exact r5,⟨_,by omega,L5'.upd npS⟩,st ++ [(t2,x,o1,o2)],?_,?_,fun z hz=>?_⟩⟩
     .rw[AL];exact R5.snoc et2
     .rw[AS ne];unfold nT at nS'⊢;rw[AL,nS',C8 hx];rfl
     .rcases AI.mp hz with y | y
      .exact tS z y
      .rw[AC.mp y];exact⟨mem1,mem2⟩
    .have e0:ts.take n1 = []:=by
      cases y:ts.take n1 with
      | nil=>rfl
      | cons b r=>rw[y]at h;exact absurd rfl h
     rw[AY e0]at nS';exact hD1 _ _ ⟨⟨_,_,_,_,_,rfl⟩,kZ,rZ,⟨_,by omega,LZ⟩,st,RZ,by rw[AY e0];exact nS',tS⟩
   .rintro σ G' ⟨⟨v8,v9,v10,v11,v12,rfl⟩,kG',er,⟨c9,hc9,L9⟩,st,RS,nS',tS⟩;rw[AA,CC]at hc9;have nT':nT st=if ts.take n1 = []then []else ts.drop n1:=by
     rw[nS',AA,BR]
    refine hN7 _ _ (B7 fun N8 hN8=>?_);refine⟨BT _,fun B hB=>?_⟩;have uB:=Same.new (o:=.lst []) hB;have eB:(upd G' B (.lst [])) B=some (.lst []):=A9;have LB:=L9.same uB;have kB:Sm [p] G' (upd G' B (.lst [])):=uB.sm;have npB:p≠B:=B2 L9.get hB;generalize upd G' B (.lst [])=H9 at eB LB kB⊢;refine hN8 _ _ (B7 fun N9 hN9=>?_);have m9:=Sm1 (kG'.trans kB) m6 nmp;refine ex1 rfl ⟨m,_,B9 rfl rfl ⟨SqL.of m9,B8 (j:=3) rfl,ex1 rfl ⟨by omega,by omega,?_⟩⟩⟩;rw[DK];refine Q6 (fun i σ F=>(∃v8 v9 v11 v12,σ = [some (.ref p),some (.int 12),some (.ref m),some (.ref a),some (.ref nm),some (.ref sq),some (.ref D),some (.ref S),v8,v9,some (.ref B),v11,v12])/\Sm [p] G' F/\(∃c',c'<=c9+2*i/\LeftAt F p c')/\∃ba:List PA2,F B=some (.lst (I9 ba))/\(∀q∈ba,F4 F q)/\ba.length<=i/\(ba.map fun q=>q.2).Nodup/\∀q∈ba,q.2.1∈ts.take n1/\q.2.2∈ts.take n1/\q.2.1≠q.2.2) ?_ ?_ ?_
    .exact⟨⟨_,_,_,_,rfl⟩,kB,⟨_,by omega,LB⟩,[],eB,fun q h=>absurd h AM,Nat.le_refl _,CV,fun q h=>absurd h AM⟩
    .rintro i σ F hi ⟨⟨v8,v9,v11,v12,rfl⟩,kF,⟨cF,hcF,LF⟩,ba,eF,pF,lF,nF,tF⟩ D1 hD1 _;have n1p:=Z.one (by omega);have lt1:(ts.take n1).length=n1:=by rw[AR];omega
     have kGF:=kG'.trans kF;have eq0:=Sm1 kGF e6 (LG.ne e6);refine Uq fun M1 hM1=>?_;refine ex1 rfl (ex1 rfl (ex1 rfl ⟨sq,_,rfl,.inl (SqL.of eq0),?_⟩));rw[AA,lt1];refine X5 (a:=p) rfl LF (by omega) (by omega) (by omega) fun d1 F1 hd1 k1 L1=>?_;have e1:=Sm1 k1 eq0 (LF.ne eq0);have hi1:(ts.take n1)[d1]?=some ((ts.take n1)[d1]'(by omega)):=AN (by omega);refine⟨sq,_,B9 rfl rfl ⟨SqL.of e1,B8 (by rw[AF,hi1];rfl),?_⟩⟩;refine ex1 rfl (ex1 rfl (ex1 rfl ⟨sq,_,rfl,.inl (SqL.of e1),?_⟩));rw[AA];refine X5 (a:=p) rfl L1 (by omega) (by omega) (by omega) fun d2 F2 hd2 k2 L2=>?_;have e2:=Sm1 k2 e1 (L1.ne e1);have hi2:(ts.take n1)[d2]?=some ((ts.take n1)[d2]'(by omega)):=AN (by omega);refine⟨sq,_,B9 rfl rfl ⟨SqL.of e2,B8 (by rw[AF,hi2];rfl),by show 2<=sizeLine;decide,fun t ht=>?_⟩⟩;have mem1:=AK hi1;have mem2:=AK hi2;generalize (ts.take n1)[d1]'(by omega)=o1 at mem1 ht⊢;generalize (ts.take n1)[d2]'(by omega)=o2 at mem2 ht⊢;have u3:=Same.new (o:=.tup [.str o1,.str o2]) ht;have k3:Sm [p] F (upd F2 t (.tup [.str o1,.str o2])):=k1.trans (k2.trans u3.sm);have L3:=L2.same u3;have et:(upd F2 t (.tup [.str o1,.str o2])) t=some (.tup [.str o1,.str o2]):=A9;have nBp:B≠p:=npB.symm;have eB3:=Sm1 k3 eF nBp;have pB3:∀q∈ba,F4 (upd F2 t (.tup [.str o1,.str o2])) q:=fun q hq=>Sm1 k3 (pF q hq) (LF.neT (pF q hq));generalize upd F2 t (.tup [.str o1,.str o2])=F3 at k3 L3 et eB3 pB3⊢;have nmt:∀y∈ts.take n1,F7 y=true:=fun y hy=>N4'.1 y (BO hy);refine hM1 _ _ ?_;have no:∀(v12:Option V),D1.nx [some (.ref p),some (.int 12),some (.ref m),some (.ref a),some (.ref nm),some (.ref sq),some (.ref D),some (.ref S),v8,v9,some (.ref B),some (.int (0 +(i:Int))),v12] F3:=fun v12=>hD1 _ _ ⟨⟨_,_,_,_,rfl⟩,kF.trans k3,⟨_,by omega,L3⟩,ba,eB3,pB3,by omega,nF,tF⟩;refine ex1 rfl ⟨t,_,B9 rfl rfl ⟨SqT.of et,B8 (j:=0) rfl,ex1 rfl ⟨t,_,B9 rfl rfl ⟨SqT.of et,B8 (j:=1) rfl,rfl,_,rfl,?_⟩⟩⟩⟩;refine Z7 (fun h=>?_) (fun h=>no _);have ne12:o1≠o2:=fun y=>by rw[y]at h;exact absurd h (by simp)
     refine ex1 rfl (ex1 rfl (Mj (k:=(o1,o2)) et eB3 pB3 ⟨E5 (nmt _ mem1),E5 (nmt _ mem2)⟩ (fun q hq=>⟨E5 (nmt _ (tF q hq).1),E5 (nmt _ (tF q hq).2.1)⟩) ⟨_,rfl,Z7 (fun h2=>?_) (fun h2=>no _)⟩));have nin:(o1,o2)∉ba.map fun q=>q.2:=by simpa using h2
     have lrb:(I9 ba).length=ba.length:=by unfold I9;rw[AA]
     refine ex1 rfl ⟨.inl ⟨rfl,_,SqL.of eB3⟩,ex1 rfl ⟨B,_,_,rfl,rfl,eB3,by rw[lrb,sizeLine_eq];omega,hD1 _ _ ⟨⟨_,_,_,_,rfl⟩,(kF.trans k3).updN hB,⟨_,by omega,L3.upd npB⟩,ba ++ [(t,o1,o2)],by rw[A9];unfold I9;rw[AL];rfl,fun q hq=>?_,by rw[BB];show _+1<=_;omega,?_,fun q hq=>?_⟩⟩⟩
     .rcases AI.mp hq with y | y
      .exact(B6 (P8 (pB3 q y) eB3 (by intro z;cases z))).trans (pB3 q y)
      .rw[AC.mp y];exact(B6 (P8 et eB3 (by intro z;cases z))).trans et
     .rw[AL];exact Sb nF nin
     .rcases AI.mp hq with y | y
      .exact tF q y
      .rw[AC.mp y];exact⟨mem1,mem2,ne12⟩
    .rintro σ F ⟨⟨v8,v9,v11,v12,rfl⟩,kF,⟨cF,hcF,LF⟩,ba,eF,pF,lF,nF,tF⟩;refine hN9 _ _ ?_;refine ex1 rfl (ex1 rfl (ex1 rfl (ex1 rfl ⟨by show 4<=sizeLine;decide,fun r hr=>?_⟩)));have kGF:=kG'.trans kF;have W:WRows F a D S B pe sa st ba:=⟨R6.sm LG kGF,RG.sm LG kGF,fun q hq=>Sm1 kGF (spG q hq).2.1 (LG.ne (spG q hq).2.1),RS.sm L9 kF,eF,pF⟩;have ur:=Same.new (o:=.lst [.ref a,.ref D,.ref S,.ref B]) hr;have lsa:sa.length=n1:=by
      have:=congrArg List.length nG;unfold nS at this;rw[AA,AR]at this;omega
     have lst:st.length<=n2:=by
      have:=congrArg List.length nT';unfold nT at this;rw[AA]at this;split at this
      .rw[this];exact BT _
      .rw[CC]at this;omega
     have sub:∀x∈nS sa++nT st,x∈ts:=fun x hx=>by
      rw[nG,nT']at hx;rcases AI.mp hx with y | y
      .exact BO y
      .split at y
       .cases y
       .exact DQ y
     refine q r a D S B pe sa st ba cF _ (k6.trans (kGF.trans ur.sm)) A9 (W.same ur) ⟨⟨by omega,by omega,by omega,by omega⟩,nd2,ok2,?_,fun x hx=>N4'.1 x (sub x hx),fun z hz=>(spG z hz).2.2.1,fun z hz=>⟨(spG z hz).2.2.2.1,(spG z hz).2.2.2.2.1,Nat.le_trans (spG z hz).2.2.2.2.2 (by decide)⟩,fun z hz=>?_,nF,fun z hz=>by rw[nG];exact tF z hz⟩ (fun x hx=>A4 x (sub x hx)) (by omega) (by omega) (LF.same ur) (by omega)
     .rw[nG,nT'];split
      .rename_i e0;rw[e0];exact CV
      .rw[BS];exact N4'.2.1
     .obtain⟨z1,z2⟩:=tS z hz;rw[nG,nT'];refine⟨z1,?_⟩;have ne:ts.take n1≠[]:=fun y=>by rw[y]at z1;cases z1
      rw[AS ne];rw[<-BS n1 ts]at z2;exact AI.mp z2
end
theorem zCu{α:Type}{J:It}{ys:List α}{r:α->V}(f:α->V){a D:Addr}{H:Hp}(as:AsSeq J (ys.map r) a H){g:TG}{te:TE}{σ0:St}{Q:St->Hp->Prop}(S:St->Prop)(h0:S σ0)(len:ys.length<=5000)(hD:H D=none)
  (he:∀y∈ys,∀σ G,S σ->Same H G->∀(M:St->VK) (N:St->Hp->Prop),(∀σ' G',S σ'->Same G G'->M σ' (f y) G')->g (r y) σ G fun σ2 H2=>Dj σ2 H2 fun b H3=>if b=true then te σ2 H3 (M σ2)else N σ2 H3)
  (q:∀σ G,Same H G->G D=some (.lst (ys.map f))->Q σ G):Ej g Dj (w4 D te) J σ0 (upd H D (.lst [])) Q:=by
 refine K7 as (fun i σ G=>S σ/\Same H G/\G D=some (.lst ((ys.take i).map f))) ⟨h0,Same.new hD,A9⟩ (fun i σ G _ h=>h.2.1.at a) ?_ ?_
 .rintro i σ G v N hx ⟨hS,sG,eG⟩ hN;rw[AF]at hx;obtain⟨y,hy,rfl⟩:=AV.mp hx;have my:=AK hy;refine he y my σ G hS sG (fun σ2 v H1=>∃ys,H1 D=some (HO.lst ys)/\ys.length<sizeLine/\N σ2 (upd H1 D (HO.lst (ys ++ [v])))) N fun σ' G' hS' s'=>⟨_,s' _ _ eG,?_,hN _ _ ⟨hS',(sG.trans s').upd hD,?_⟩⟩
  .rw[AA,AR,sizeLine_eq];omega
  .rw[A9,C8 hy,AL];rfl
 .rintro σ G ⟨_,sG,eG⟩;rw[AA,BR]at eG;exact q σ G sG eG
theorem Lx:∀{more acc:List (Key×V)},((acc++more).map fun k=>k.1).Nodup->Oa acc more=acc++more
 | [],acc,_=>by rw[CL];rfl
 | a::r,acc,h=>by
  have e:Fa acc a.1 a.2=acc ++ [a]:=by
   unfold Fa;rw[AS];intro z;obtain⟨k,hk,ek⟩:=List.any_eq_true.mp z;rw[AL]at h;exact(BQ.mp h).2.2 _ (AH.mpr ⟨k,hk,rfl⟩) _ (AH.mpr ⟨a,AW ..,rfl⟩) (BG ek)
  show Oa (Fa acc a.1 a.2) r=_;rw[e,Lx (by rw[BI];exact h),BI];rfl
theorem Hg{α:Type}(f:α->Str)(g:α->V)(xs:List α)(n:Str):Y5 (xs.map fun q=>((Sum.inr (f q):Key),g q)) (Sum.inr n) =(xs.find? fun q=>decide (f q=n)).map g:=by
 unfold Y5;rw[List.find?_map];have e:((fun kv:Key×V=>decide (kv.1=Sum.inr n))∘fun q:α=>((Sum.inr (f q):Key),g q))=fun q=>decide (f q=n):=by
  funext q;show decide ((Sum.inr (f q):Key)=Sum.inr n)=_;by_cases h:f q=n
  .rw[h,AG rfl,AG rfl]
  .rw[BC h,BC fun z=>h (Sum.inr.inj z)]
 rw[e];cases xs.find? fun q=>decide (f q=n)<;>rfl
theorem Cu{α:Type}{f:α->Str}{g:α->V}{xs:List α}(h:(xs.map f).Nodup):Oa [] (xs.map fun q=>((Sum.inr (f q):Key),g q))=xs.map fun q=>((Sum.inr (f q):Key),g q):=by
 rw[Lx]
 .rfl
 .rw[List.nil_append,BA];show(xs.map fun q=>(Sum.inr (f q):Key)).Nodup;have e:(xs.map fun q=>(Sum.inr (f q):Key)) =(xs.map f).map (Sum.inr:Str->Key):=by rw[BA];rfl
  rw[e];exact CZ.mpr (h.imp fun h z=>h (Sum.inr.inj z))
def Nx(pe:List PEr)(s:Str):Int:=((pe.find? fun q=>decide (q.2.1=s)).map fun q=>q.2.2).getD 0
theorem Yu{pe:List PEr}{ss:List Str}(nd:(nP pe).Nodup)(sub:∀x∈ss,x∈nP pe)(nn:∀q∈pe,0<=q.2.2){m:Int}(hm:m∈(0:Int)::ss.map (Nx pe))(hle:∀a∈(0:Int)::ss.map (Nx pe),a<=m):grt pe ss=m:=by
 have rk:∀q∈pe,Nx pe q.2.1=q.2.2:=fun q hq=>by
  obtain⟨y,e,my,ey⟩:=P1 (f:=fun q:PEr=>q.2.1) (xs:=pe) (n:=q.2.1) (AH.mpr ⟨q,hq,rfl⟩);have:y=q:=K0 (f:=fun q:PEr=>q.2.1) nd my hq ey;unfold Nx;rw[e,this];rfl
 have m0:=hle 0 (AW ..);have ge:∀q∈pe,q.2.1∈ss->q.2.2<=grt pe ss:=fun q hq hs=>Wq (AH.mpr ⟨q,BW.mpr ⟨hq,AG hs⟩,rfl⟩);have g0:0<=grt pe ss:=zAp _;have l1:m<=grt pe ss:=by
  rcases AX.mp hm with rfl | h
  .exact g0
  .obtain⟨s,hs,rfl⟩:=AH.mp h;obtain⟨q,hq,rfl⟩:=AH.mp (sub s hs);rw[rk q hq];exact ge q hq hs
 have l2:grt pe ss<=m:=by
  rcases Rl ((pe.filter fun q=>decide (q.2.1∈ss)).map fun q=>q.2.2)with e | e
  .have:grt pe ss=0:=e;omega
  .obtain⟨q,hq,e⟩:=AH.mp e;obtain⟨hq,hs⟩:=BW.mp hq;have:=hle (Nx pe q.2.1) (AO _ (AH.mpr ⟨q.2.1,BG hs,rfl⟩));rw[rk q hq]at this;have e:q.2.2=grt pe ss:=e;omega
 omega
section
variable{P:Program}{w:World}{K:PySem.W.Frag}{mg:Str->Option Value}{base:Heap}
theorem U0:FnScope ["_law_rows", "_law_name", "_law_ones", "_law_ranks", "_law_found", "_law_said", "_law_kind", "_law_speakers_here"] ["_law_rows", "_law_name"] (B5 s_law_strength):=fsc
def Wz:Sp:=fun vs H Q _=>∃(r a b c d:Addr) (pe:List PEr) (sa:List SAr) (st:List STr) (ba:List PA2) (n:Str) (v:Int),vs = [.ref r,.str n]/\H r=some (.lst [.ref a,.ref b,.ref c,.ref d])/\WRows H a b c d pe sa st ba/\WOk pe sa st ba/\Y9 pe sa st n=some v/\∀H',Same H H'->Q (.int v) H'
set_option maxHeartbeats 4000000 in
theorem Bf(T:Tx K mg):FnOk P w K mg base CX0 1 T.az.f T.az.fd ["_law_rows", "_law_name"] Wz:=by
 have sc:=U0;refine T.az.F.ok U0 (fun vs H Q E h=>?_) (fun cdv A outer s H vs Q E hr h=>?_)
 .obtain⟨r,a,b,c,d,pe,sa,st,ba,n,v,rfl,_⟩:=h;rfl
 .obtain⟨r,a,b,c,d,pe,sa,st,ba,n,v,rfl,er,W,ok,ev,q⟩:=h;have hu:=w8 hr;refine⟨_,(B1 (C5 (i:=2) sc.nd rfl (.inl rfl) (U1 Kr T.bC Pf (A8 (O2 (N':=["_law_row"]) (cap:=[none]) (cl:=[]) (J6 trivial trivial) rfl (piL K (C6 (ixL K) (pv 0) B3 (fun _ _=>rfl))) (fun _ _ _ _=>by exact⟨(pgC 0),F9,(U8 (A8 (C6 (ixT K) (pv 0) B3 (fun _ _=>rfl)) (A8 (C6 (ixT K) (pv 0) B3 (fun _ _=>rfl)) B0)))⟩)) B0)))
   (B1 (C5 (i:=1) sc.nd rfl (.inl rfl) (Tg hu (pv 2) (pv 1) (pv 1) ⟨rfl,rfl,rfl,rfl⟩))
   (B1 (C5 (i:=3) sc.nd rfl (.inr rfl) (U1 Kr T.bC Pf (A8 (C6 (ixL K) (pv 0) B3 (fun _ _=>rfl)) B0)))
   (B1 (C5 (i:=4) sc.nd rfl (.inl rfl) B3)
   (B1 (P4 PassesOwn.never rfl (piL K (C6 (ixL K) (pv 0) B3 (fun _ _=>rfl))) (pgT K (n:=3) (C2 (D6 (i:=5) sc.nd rfl (.inl rfl)) (C2 (D6 (i:=6) sc.nd rfl (.inl rfl)) (C2 (D6 (i:=7) sc.nd rfl (.inl rfl)) J2))))
   (B4 (I0 (C3 Z8 (pv 5) (pv 1) (D8 _)) (B4 (C5 (i:=4) sc.nd rfl (.inl rfl) (F8 U6 (E2 (Yx K) T.bE Vt (A8 (F8 X9 (E9 (A8 B3 B0)) (O2 (N':=["_law_speaker", "_law_ranks"]) (cap:=[none,some 3]) (cl:=[("_law_ranks",_)]) (J6 ⟨⟨rfl,rfl,rfl,rfl⟩,trivial⟩ ⟨rfl,trivial⟩) rfl (piL K (pv 7)) (fun _ _ _ _=>by exact⟨(pgC 0),F9,(j8 hu (pv 1) (pv 0) (fun _ _=>rfl))⟩))) B0)) (F8 Bs B3 (U1 Gm T.bn Kj (A8 (E8 Z8 (pv 6) P0 (D8 _)) B0)))))) D0)))
   (B4 (C0 (pv 4)))))))),?_⟩
  obtain⟨l1,l2,l3,l4⟩:=ok.len;refine B7 fun N1 hN1=>?_;refine ex1 rfl ⟨r,_,B9 rfl rfl ⟨SqL.of er,B8 (j:=2) rfl,c,rfl,⟨_,SqL.of W.ht.at_⟩,fun D hD=>?_⟩⟩;have as1:=asL (K:=K) (SqL.of W.ht.at_);rw[BA]at as1;refine K7 as1 (fun i σ G=>(∃v0,σ = [v0])/\Same H G/\∃ts:List (Addr×STr),G D=some (.lst (ts.map fun q=>V.ref q.1))/\(∀q∈ts,G q.1=some (.tup [.str q.2.2.1,.str q.2.2.2.1]))/\(ts.map fun q=>q.2)=st.take i) ⟨⟨_,rfl⟩,Same.new hD,[],A9,fun q h=>absurd h AM,rfl⟩ (fun i σ G _ h=>h.2.1.at c) ?_ ?_
  .rintro i σ G v N hx ⟨⟨v0,rfl⟩,sG,ts,eG,tG,mG⟩ hN;rw[AF]at hx;obtain⟨y,hy,rfl⟩:=AV.mp hx;have my:=AK hy;have ey:=sG _ _ (W.ht.row (rT y) (AH.mpr ⟨y,my,rfl⟩));have lts:=congrArg List.length mG;rw[AA,AR]at lts;refine X6 ?_;refine ex1 rfl ⟨y.1,_,B9 rfl rfl ⟨SqT.of ey,B8 (j:=0) rfl,ex1 rfl ⟨y.1,_,B9 rfl rfl ⟨SqT.of ey,B8 (j:=1) rfl,by show 2<=sizeLine;decide,fun t ht=>?_⟩⟩⟩⟩;have ut:=Same.new (o:=.tup [.str y.2.1,.str y.2.2.1]) ht;have ntD:t≠D:=(B2 eG ht).symm;refine⟨_,ut _ _ eG,by rw[AA,sizeLine_eq];omega,hN _ _ ⟨⟨_,rfl⟩,(sG.trans ut).upd hD,ts ++ [(t,y)],by rw[A9,AL];rfl,fun z hz=>?_,by rw[AL,mG,C8 hy];rfl⟩⟩;rcases AI.mp hz with z1 | z1
   .exact(B6 (P8 (tG z z1) eG (by intro z;cases z))).trans (ut _ _ (tG z z1))
   .rw[AC.mp z1];exact(B6 ntD).trans A9
  .rintro σ G ⟨_,sG,ts,eG,tG,mG⟩;rw[AA,BR]at mG;have lts:=congrArg List.length mG;rw[AA]at lts;refine⟨D,ts.map fun q=>(q.1,(Sum.inr q.2.2.1:Key),V.str q.2.2.2.1),rfl,by rw[BA];exact eG,fun z hz=>?_,by rw[AA];omega,fun o1 ho1=>?_⟩
   .obtain⟨y,hy,rfl⟩:=AH.mp hz;exact tG y hy
   have em:Oa [] ((ts.map fun q=>(q.1,(Sum.inr q.2.2.1:Key),V.str q.2.2.2.1)).map fun q=>q.2)=st.map fun q=>((Sum.inr q.2.1:Key),V.str q.2.2.1):=by
    rw[BA];have e:(ts.map ((fun q:Addr×Key×V=>q.2)∘fun q:Addr×STr=>(q.1,(Sum.inr q.2.2.1:Key),V.str q.2.2.2.1)))=st.map fun q:STr=>((Sum.inr q.2.1:Key),V.str q.2.2.1):=by rw[<-mG,BA];rfl
    rw[e];exact Cu (f:=fun q:STr=>q.2.1) (BQ.mp ok.sn).2.1
   rw[em];have u1:=Same.new (o:=.dK (st.map fun q:STr=>((Sum.inr q.2.1:Key),V.str q.2.2.1))) ho1;have f1:(upd G o1 (.dK (st.map fun q:STr=>((Sum.inr q.2.1:Key),V.str q.2.2.1)))) o1=some (.dK (st.map fun q:STr=>((Sum.inr q.2.1:Key),V.str q.2.2.1))):=A9;generalize upd G o1 (.dK (st.map fun q:STr=>((Sum.inr q.2.1:Key),V.str q.2.2.1)))=G1 at u1 f1⊢;have s1:=sG.trans u1;refine hN1 _ _ (B7 fun N2 hN2=>?_);obtain⟨m,hm⟩:∃m:Str,m=match L6 st n with | some q=>q.2.2.1 | none=>n:=⟨_,rfl⟩
   have eo:(Y5 (st.map fun q:STr=>((Sum.inr q.2.1:Key),V.str q.2.2.1)) (Sum.inr n)).getD (.str n) = .str m:=by
    rw[Hg (fun q:STr=>q.2.1) (fun q=>V.str q.2.2.1),hm];unfold L6;cases st.find? fun q=>decide (q.2.1=n)<;>rfl
   have ev':(Eo sa m).map (fun q=>Mh pe q.2.2.1 q.2.2.2.2)=some v:=by
    rw[hm];unfold Y9 at ev;cases e:L6 st n with
    | none=>rw[e]at ev;exact ev
    | some z=>rw[e]at ev;exact ev
   obtain⟨y,ey,evy⟩:=AV.mp ev';have my:y∈sa:=CG ey;have yn:y.2.1=m:=BG (List.find?_some (p:=fun q:SAr=>decide (q.2.1=m)) ey);refine ex1 rfl ⟨o1,rfl,.inl ⟨_,.inl f1⟩,ex1 rfl (ex1 rfl ⟨_,DGet.k (k:=Sum.inr n) f1,?_⟩)⟩;rw[eo];refine hN2 _ _ (B7 fun N3 hN3=>?_);have W1:=W.same s1;refine ex1 rfl ⟨r,_,B9 rfl rfl ⟨SqL.of (s1 _ _ er),B8 (j:=0) rfl,a,pe.map fun q=>(q.1,(Sum.inr q.2.1:Key),V.int q.2.2),rfl,?_,fun z hz=>?_,by rw[AA];omega,fun o2 ho2=>?_⟩⟩
   .rw[BA];have:=W1.hp.at_;rw[BA]at this;exact this
   .obtain⟨y,hy,rfl⟩:=AH.mp hz;exact W1.hp.row (rP y) (AH.mpr ⟨y,hy,rfl⟩)
   have em2:Oa [] ((pe.map fun q=>(q.1,(Sum.inr q.2.1:Key),V.int q.2.2)).map fun q=>q.2)=pe.map fun q:PEr=>((Sum.inr q.2.1:Key),V.int q.2.2):=by
    rw[BA];exact Cu (f:=fun q:PEr=>q.2.1) (g:=fun q:PEr=>V.int q.2.2) ok.pn
   rw[em2];have u2:=Same.new (o:=.dK (pe.map fun q:PEr=>((Sum.inr q.2.1:Key),V.int q.2.2))) ho2;have f2:(upd G1 o2 (.dK (pe.map fun q:PEr=>((Sum.inr q.2.1:Key),V.int q.2.2)))) o2=some (.dK (pe.map fun q:PEr=>((Sum.inr q.2.1:Key),V.int q.2.2))):=A9;generalize upd G1 o2 (.dK (pe.map fun q:PEr=>((Sum.inr q.2.1:Key),V.int q.2.2)))=G2 at u2 f2⊢;have s2:=s1.trans u2;have W2:=W1.same u2;refine hN3 _ _ (B7 fun N4 hN4=>hN4 _ _ (B7 fun N5 hN5=>?_));refine ex1 rfl ⟨r,_,B9 rfl rfl ⟨SqL.of (s2 _ _ er),B8 (j:=1) rfl,b,rfl,⟨_,SqL.of W2.hs.at_⟩,?_⟩⟩;have as2:=asL (K:=K) (SqL.of W2.hs.at_);rw[BA]at as2;refine Y3 as2 (fun i σ F=>(∃f v5 v6 v7,σ = [some (.ref r),some (.str m),some (.ref o1),some (.ref o2),some (.int f),v5,v6,v7]/\∀q∈sa.take i,q.2.1=m->f=Mh pe q.2.2.1 q.2.2.2.2)/\Same G2 F) ?_ ?_ ?_ ?_
   .exact⟨⟨_,_,_,_,rfl,fun q h=>absurd h AM⟩,fun _ _ e=>e⟩
   .rintro i σ F _ ⟨_,sF⟩;exact sF.at b
   .rintro i σ F v hv ⟨⟨f,v5,v6,v7,rfl,hf⟩,sF⟩ D1 hD1 _;rw[AF]at hv;obtain⟨y,hy,rfl⟩:=AV.mp hv;have my:=AK hy;have ey:=sF _ _ (W2.hs.row (rS y) (AH.mpr ⟨y,my,rfl⟩));have esp:=sF _ _ (W2.sp y my);obtain⟨sub,nds,len⟩:=ok.sk y my;refine⟨y.1,ex1 rfl ⟨SqT.of ey,rfl,_,ex1 rfl ⟨_,ex1 rfl (B9 rfl rfl ?_)⟩⟩⟩;refine ex1 rfl (ex1 rfl ⟨rfl,_,rfl,Z7 (fun h=>?_) (fun h=>?_)⟩)
    .have e:y.2.1=m:=by
      have:V.str (rS y).2.1=V.str m:=BG h;cases this;rfl
     refine⟨by show 1<=sizeLine;decide,fun z hz=>?_⟩;have uz:=Same.new (o:=.lst [.int 0]) hz;have fz:(upd F z (.lst [.int 0])) z=some (.lst [.int 0]):=A9;generalize upd F z (.lst [.int 0])=F1 at uz fz⊢;refine ex1 rfl ⟨y.2.2.2.1,rfl,⟨_,SqL.of (uz _ _ esp)⟩,fun D2 hD2=>?_⟩;refine zCu (r:=V.str) (fun s:Str=>V.int (Nx pe s)) (asL (K:=K) (SqL.of (uz _ _ esp))) (fun σ=>∃v0,σ = [v0,some (.ref o2)]) ⟨_,rfl⟩ (by omega) hD2 ?_ fun σ F2 t2 g2=>?_
     .rintro s' hs' σ F' ⟨v0,rfl⟩ sF' M N hM;dsimp only[Dj,S7];refine y8 ?_;obtain⟨x,ex,_⟩:=P1 (f:=fun q:PEr=>q.2.1) (sub s' hs');have dg:=DGet.k (k:=Sum.inr s') (sF' _ _ (uz _ _ (sF _ _ f2)));have er:Nx pe s'=x.2.2:=by unfold Nx;rw[ex];rfl
      rw[Hg (fun q:PEr=>q.2.1) (fun q=>V.int q.2.2),ex,GF,<-er]at dg;exact ex1 rfl (ex1 rfl ⟨o2,_,rfl,dg,hM _ _ ⟨_,rfl⟩ fun _ _ z=>z⟩)
     refine⟨z,D2,_,_,rfl,rfl,t2 _ _ fz,g2,?_,fun p hp=>?_⟩
     .rw[AA,sizeLine_eq];show 1+_<=_;omega
     have up:=Same.new (o:=.lst ([.int 0]++y.2.2.2.2.map fun s=>V.int (Nx pe s))) hp;have fp:(upd F2 p (.lst ([.int 0]++y.2.2.2.2.map fun s=>V.int (Nx pe s)))) p=some (.lst (((0:Int)::y.2.2.2.2.map (Nx pe)).map V.int)):=by
      rw[A9,BM,BA];rfl
     generalize upd F2 p (.lst ([.int 0]++y.2.2.2.2.map fun s=>V.int (Nx pe s)))=F3 at up fp⊢;refine⟨p,_,rfl,SqL.of fp,List.cons_ne_nil _ _,fun M hM hle=>?_⟩;have eM:=Yu ok.pn sub (fun q hq=>(ok.pm q hq).2.1) hM hle;refine ex1 rfl ⟨rfl,.inr ⟨_,rfl,?_⟩⟩;refine B9 rfl rfl ?_;dsimp only;refine⟨.inl ⟨by decide,by decide⟩,?_⟩;refine⟨M,_,rfl,rfl,?_⟩;have ef:∀b:Bool,b=decide (V.str y.2.2.1=V.str "fact")->M+10 *(if b=true then 1 else 0)=Mh pe y.2.2.1 y.2.2.2.2:=fun b hb=>by
      unfold Mh;rw[eM,hb];by_cases h:y.2.2.1 = "fact"
      .rw[h,AY rfl,AY (AG rfl)];rfl
      .rw[AS h,AS fun z=>h (by have:=BG z;exact V.str.inj this)];omega
     have:=hD1 [some (.ref r),some (.str m),some (.ref o1),some (.ref o2),some (.int (Mh pe y.2.2.1 y.2.2.2.2)),some (.str y.2.1),some (.str y.2.2.1),some (.ref y.2.2.2.1)] F3 ⟨⟨_,_,_,_,rfl,fun q hq en=>?_⟩,((sF.trans uz).trans t2).trans up⟩
     .rw[<-ef _ rfl]at this;exact this
     .have mq:q∈sa:=BO hq;rw[K0 (f:=fun q:SAr=>q.2.1) (BQ.mp ok.sn).1 mq my (en.trans e.symm)]
    .have e:¬y.2.1=m:=fun z=>h (AG (by show V.str y.2.1=V.str m;rw[z]));refine hD1 _ _ ⟨⟨_,_,_,_,rfl,fun q hq en=>?_⟩,sF⟩;rw[C8 hy]at hq;rcases AI.mp hq with hq | hq
     .exact hf q hq en
     .rw[AC.mp hq]at en;exact absurd en e
   .rintro σ F ⟨⟨f,v5,v6,v7,rfl,hf⟩,sF⟩;rw[AA,BR]at hf;have:=q F (s2.trans sF);rw[<-evy,<-hf y my yn]at this;exact hN5 _ _ (ex1 rfl this)
theorem Aj:FnScope ["_law_rows"] ["_law_rows"] (B5 s_law_live):=fsc
def Uj:Sp:=fun vs H Q _=>∃(r a b c d:Addr) (pe:List PEr) (sa:List SAr) (st:List STr) (ba:List PA2),vs = [.ref r]/\H r=some (.lst [.ref a,.ref b,.ref c,.ref d])/\WRows H a b c d pe sa st ba/\WOk pe sa st ba/\∀(l:Addr) (ms:List Str) H',Same H H'->H l=none->H' l=some (.lst (ms.map V.str))->ms.Perm (nT (live pe sa st))->ms.Pairwise leS->Q (.ref l) H'
set_option maxHeartbeats 2000000 in
theorem Ja(T:Tx K mg):FnOk P w K mg base CX0 2 T.ba.f T.ba.fd ["_law_rows"] Uj:=by
 have G_law_strength:=Bf (P:=P) (w:=w) (base:=base) T;have sc:=Aj;refine T.ba.F.ok Aj (fun vs H Q E h=>?_) (fun cdv A outer s H vs Q E hr h=>?_)
 .obtain⟨r,a,b,c,d,pe,sa,st,ba,rfl,_⟩:=h;rfl
 .obtain⟨r,a,b,c,d,pe,sa,st,ba,rfl,er,W,ok,q⟩:=h;refine⟨_,(B4 (C0 (E2 (O5 K) T.ah F6 (A8 (O2 (N':=["_law_row", "_law_rows"]) (cap:=[none,some 0]) (cl:=[("_law_rows",_)]) (J6 ⟨⟨rfl,rfl,rfl,rfl⟩,trivial⟩ ⟨rfl,trivial⟩) rfl (piL K (C6 (ixL K) (pv 0) B3 (fun _ _=>rfl))) (fun _ _ _ _=>by exact⟨(pgC 0),(K6 (C3 Wx (C4 T.az G_law_strength (Rm hr) (A8 (pv 1) (A8 (C6 (ixT K) (pv 0) B3 (fun _ _=>rfl)) B0))) (C4 T.az G_law_strength (Rm hr) (A8 (pv 1) (A8 (C6 (ixT K) (pv 0) B3 (fun _ _=>rfl)) B0))) (D8 _))),(C6 (ixT K) (pv 0) B3 (fun _ _=>rfl))⟩)) B0)))),?_⟩;obtain⟨l1,l2,l3,l4⟩:=ok.len;refine ex1 rfl ⟨r,_,B9 rfl rfl ⟨SqL.of er,B8 (j:=2) rfl,c,rfl,⟨_,SqL.of W.ht.at_⟩,fun D hD=>?_⟩⟩;have as1:=asL (K:=K) (SqL.of W.ht.at_);rw[BA]at as1;refine Rx (fun q:STr=>V.str q.2.1) (fun q:STr=>decide ((Y9 pe sa st q.2.1).getD 0 ≥ (Y9 pe sa st q.2.2.2).getD 0)) as1 (fun σ=>∃v0,σ = [v0,some (.ref r)]) ⟨_,rfl⟩ (by omega) hD ?_ fun σ H1 s1 e1=>?_
  .rintro y hy σ G ⟨v0,rfl⟩ sG M N hM hN;have ey:=sG _ _ (W.ht.row (rT y) (AH.mpr ⟨y,hy,rfl⟩));obtain⟨v,hv⟩:=ok.strong (n:=y.2.1) (.inr (AH.mpr ⟨y,hy,rfl⟩));obtain⟨u,hu⟩:=ok.strong (n:=y.2.2.2) (ok.tg y hy).2;refine ex1 rfl (ex1 rfl ⟨y.1,_,B9 rfl rfl ⟨SqT.of ey,B8 (j:=0) rfl,r,a,b,c,d,pe,sa,st,ba,y.2.1,v,rfl,sG _ _ er,W.same sG,ok,hv,fun G1 t1=>?_⟩⟩);refine ex1 rfl (ex1 rfl ⟨y.1,_,B9 rfl rfl ⟨SqT.of (t1 _ _ ey),B8 (j:=2) rfl,r,a,b,c,d,pe,sa,st,ba,y.2.2.2,u,rfl,t1 _ _ (sG _ _ er),(W.same sG).same t1,ok,hu,fun G2 t2=>?_⟩⟩);rw[hv,hu]at hM hN;exact B9 rfl rfl ⟨_,rfl,Z7 (fun h=>ex1 rfl ⟨y.1,_,B9 rfl rfl ⟨SqT.of (t2 _ _ (t1 _ _ ey)),B8 (j:=0) rfl,hM _ _ ⟨_,rfl⟩ (t1.trans t2) h⟩⟩) (fun h=>hN _ _ ⟨_,rfl⟩ (t1.trans t2) (DJ.mpr h))⟩
  refine⟨D,nT (live pe sa st),rfl,SqL.of (by rw[e1];unfold nT live;rw[BA];rfl),fun l ms hl pm sr=>?_⟩;exact q l ms _ (s1.trans (Same.new hl)) (none_of s1.sm AM hl) A9 pm sr
end
structure MI(ba:List PA2)(ns:List Str)(n:Str)(met:List Str)(i:Nat):Prop where
 nd:met.Nodup
 hd:∃r,met=n::r
 sub:∀x∈met,x∈ns
 rch:∀x∈met,Rch (Ao ba) [n] x
 cl:∀x∈met.take i,∀y∈Ao ba x,y∈met
 le:i<=met.length
theorem MI.step{ba:List PA2}{ns met ts:List Str}{n x:Str}{i:Nat}(h:MI ba ns n met i)(hx:met[i]?=some x)(pm:ts.Perm (Ao ba x))(nd:(Ao ba x).Nodup)(sub:∀y∈Ao ba x,y∈ns):MI ba ns n (met++ts.filter fun y=>!decide (y∈met)) (i+1):=by
 obtain⟨r,hr⟩:=h.hd;have li:=(AU.mp hx).1;have mx:=AK hx;refine⟨?_,⟨r++_,by rw[hr];rfl⟩,fun y hy=>?_,fun y hy=>?_,fun y hy z hz=>?_,by rw[BB];omega⟩
 .refine BQ.mpr ⟨h.nd,(pm.nodup_iff.mpr nd).sublist CQ,fun a ha b hb e=>?_⟩;have:=(BW.mp hb).2;rw[<-e,AG ha]at this;cases this
 .rcases AI.mp hy with m | m
  .exact h.sub y m
  .exact sub y (pm.mem_iff.mp (BW.mp m).1)
 .rcases AI.mp hy with m | m
  .exact h.rch y m
  .exact(h.rch x mx).step (pm.mem_iff.mp (BW.mp m).1)
 .rw[FH (by omega),C8 hx]at hy;have all:∀z∈Ao ba x,z∈met++ts.filter fun y=>!decide (y∈met):=fun z hz=>by
   by_cases e:z∈met
   .exact BN _ e
   .exact BJ _ (BW.mpr ⟨pm.mem_iff.mpr hz,by rw[BC e];rfl⟩)
  rcases AI.mp hy with m | m
  .exact BN _ (h.cl y m z hz)
  .rw[AC.mp m]at hz;exact all z hz
theorem MI.fin{ba:List PA2}{ns met:List Str}{n:Str}{i:Nat}(h:MI ba ns n met i)(hi:met.length<=i)(x:Str):x∈met↔Rch (Ao ba) [n] x:=by
 refine⟨h.rch x,fun r=>?_⟩;obtain⟨t,ht⟩:=h.hd;refine r (·∈met) (fun y hy=>by rw[AC.mp hy,ht];exact AW ..) fun y z hy hz=>h.cl y (by rw[CN hi];exact hy) z hz
theorem MI.len{ba:List PA2}{ns met:List Str}{n:Str}{i:Nat}(h:MI ba ns n met i):met.length<=ns.length:=S2 h.nd h.sub
section
variable{P:Program}{w:World}{K:PySem.W.Frag}{mg:Str->Option Value}{base:Heap}
theorem Z9:FnScope ["_law_rows", "_law_name", "_law_met", "_law_at", "_law_some"] ["_law_rows", "_law_name"] (B5 s_law_behind):=fsc
def Na:Sp:=fun vs H Q _=>∃(r a b c d:Addr) (pe:List PEr) (sa:List SAr) (st:List STr) (ba:List PA2) (n:Str),vs = [.ref r,.str n]/\H r=some (.lst [.ref a,.ref b,.ref c,.ref d])/\WRows H a b c d pe sa st ba/\WOk pe sa st ba/\n∈nS sa/\∀(l:Addr) (ms:List Str) H',Same H H'->H l=none->H' l=some (.lst (ms.map V.str))->BackOf ba n ms->Q (.ref l) H'
set_option maxHeartbeats 4000000 in
theorem Do(T:Tx K mg):FnOk P w K mg base CX0 1 T.aV.f T.aV.fd ["_law_rows", "_law_name"] Na:=by
 have sc:=Z9;refine T.aV.F.ok Z9 (fun vs H Q E h=>?_) (fun cdv A outer s H vs Q E hr h=>?_)
 .obtain⟨r,a,b,c,d,pe,sa,st,ba,n,rfl,_⟩:=h;rfl
 .obtain⟨r,a,b,c,d,pe,sa,st,ba,n,rfl,er,W,ok,hn,q⟩:=h;have hu:=w8 hr;refine⟨_,(B1 (C5 (i:=2) sc.nd rfl (.inr rfl) (E9 (A8 (pv 1) B0)))
   (B1 (C5 (i:=3) sc.nd rfl (.inr rfl) B3)
   (B1 (Kl PassesOwn.never (C3 zAd (pv 3) (E2 (O8 K) T.am K9 (A8 (pv 2) B0)) (D8 _)) (B1 (C5 (i:=4) sc.nd rfl (.inl rfl) (E2 (Dx w) T.ah F6 (A8 (U1 (Iq K w) T.be Ck (A8 (O2 (N':=["_law_row", "_law_met", "_law_at"]) (cap:=[none,some 2,some 3]) (cl:=[("_law_met",_),("_law_at",_)]) (J6 ⟨⟨rfl,rfl,rfl,rfl⟩,⟨⟨rfl,rfl,rfl,rfl⟩,trivial⟩⟩ ⟨rfl,⟨rfl,trivial⟩⟩) rfl (piL K (C6 (ixL K) (pv 0) B3 (fun _ _=>rfl))) (fun _ _ _ _=>by exact⟨(pgC 0),(K6 (C3 Z8 (C6 (ixT K) (pv 0) B3 (fun _ _=>rfl)) (C6 (ixL K) (pv 1) (pv 2) (fun _ _=>rfl)) (D8 _))),(C6 (ixT K) (pv 0) B3 (fun _ _=>rfl))⟩)) B0)) B0)))
   (B1 (C5 (i:=2) sc.nd rfl (.inr rfl) (F8 X9 (pv 2) (O2 (N':=["_law_one", "_law_met"]) (cap:=[none,some 2]) (cl:=[("_law_met",_)]) (J6 ⟨⟨rfl,rfl,rfl,rfl⟩,trivial⟩ ⟨rfl,trivial⟩) rfl (piL K (pv 4)) (fun _ _ _ _=>by exact⟨(pgC 0),(K6 (C3 (y9 K) (pv 0) (pv 1) rfl)),(pv 0)⟩))))
   (B4 (C5 (i:=3) sc.nd rfl (.inr rfl) (F8 U6 (pv 3) B3))))))
   (B4 (C0 (E2 (O5 K) T.ah F6 (A8 (Ad (slL K) (pv 2) (Dn B3) Dv) B0))))))),?_⟩
  obtain⟨l1,l2,l3,l4⟩:=ok.len;refine B7 fun N1 hN1=>?_;refine ex1 rfl ⟨by show 1<=sizeLine;decide,fun M hM=>?_⟩;have uM:=Same.new (o:=.lst [.str n]) hM;have eM:(upd H M (.lst [.str n])) M=some (.lst (([n]:List Str).map V.str)):=A9;generalize upd H M (.lst [.str n])=H1 at uM eM⊢;refine hN1 _ _ (B7 fun N2 hN2=>hN2 _ _ (B7 fun N3 hN3=>?_));have lns:(nS sa).length=sa.length:=by unfold nS;rw[AA]
  refine⟨fun m σ G=>∃(i:Nat) (L:Addr) (met:List Str) (v4:Option V),σ = [some (.ref r),some (.str n),some (.ref L),some (.int (i:Int)),v4]/\m=sa.length-i/\Same H G/\G L=some (.lst (met.map V.str))/\MI ba (nS sa) n met i,
   ⟨_,0,M,[n],none,rfl,rfl,uM,eM,⟨BX.mpr ⟨AM,CV⟩,⟨[],rfl⟩,fun x hx=>by rw[AC.mp hx];exact hn,fun x hx=>.of hx,fun x hx=>absurd hx AM,BT _⟩⟩,?_⟩
  rintro m σ G ⟨i,L,met,v4,rfl,rfl,sG,eL,I⟩;have len:=I.len;have lei:=I.le;refine ex1 rfl (ex1 rfl (B9 (a:=L) rfl (.inl (SqL.of eL)) (B9 rfl rfl ?_)));rw[AA];refine⟨_,rfl,Z7 (fun h=>?_) (fun h=>?_)⟩
  .have hi:i<met.length:=by
    have:(i:Int) <(met.length:Int):=BG h;omega
   have hx:met[i]?=some (met[i]'hi):=AN hi;have hsub:=I.sub _ (AK hx);generalize met[i]'hi=x at hx hsub;refine⟨_,fun _ _ z=>z,B7 fun Z1 hZ1=>?_⟩;have WG:=W.same sG;refine ex1 rfl ⟨r,_,B9 rfl rfl ⟨SqL.of (sG _ _ er),B8 (j:=3) rfl,d,rfl,⟨_,SqL.of WG.hb⟩,fun D hD=>?_⟩⟩;refine Rx (fun q:PA2=>V.str q.2.1) (fun q:PA2=>decide (q.2.2=x)) (asL (K:=K) (SqL.of WG.hb)) (fun σ=>∃v0,σ = [v0,some (.ref L),some (.int (i:Int))]) ⟨_,rfl⟩ (by omega) hD ?_ fun σ H2 s2 e2=>?_
   .rintro y hy σ G1 ⟨v0,rfl⟩ sG1 M N hM hN;have ey:=sG1 _ _ (WG.pb y hy);refine ex1 rfl ⟨y.1,_,B9 rfl rfl ⟨SqT.of ey,B8 (j:=1) rfl,ex1 rfl (ex1 rfl ⟨L,_,B9 rfl rfl ⟨SqL.of (sG1 _ _ eL),B8 (by rw[AF,hx];rfl),rfl,_,rfl,?_⟩⟩)⟩⟩;refine Z7 (fun h=>ex1 rfl ⟨y.1,_,B9 rfl rfl ⟨SqT.of ey,B8 (j:=0) rfl,hM _ _ ⟨_,rfl⟩ (fun _ _ z=>z) (AG ?_)⟩⟩) (fun h=>hN _ _ ⟨_,rfl⟩ (fun _ _ z=>z) (BC fun e=>h ?_))
    .exact V.str.inj (BG h)
    .exact AG (by rw[e])
   have e2:H2 D=some (.lst ((Ao ba x).map V.str)):=by rw[e2];unfold Ao;rw[BA];rfl
   have nd:=Uo ok.bn x;have lb:=S2 nd fun y hy=>Km ok x y hy;refine⟨D,Ao ba x,rfl,.inl (SqL.of e2),nd,by omega,fun p hp=>?_⟩;have up:=Same.new (o:=X7 w p (Ao ba x)) hp;refine⟨p,Ao ba x,rfl,A9,fun t ts ht pm so=>?_⟩;have ut:=Same.new (o:=.lst (ts.map V.str)) ht;have et:(upd (upd H2 p (X7 w p (Ao ba x))) t (.lst (ts.map V.str))) t=some (.lst (ts.map V.str)):=A9;have s3:=(s2.trans up).trans ut;generalize upd (upd H2 p (X7 w p (Ao ba x))) t (.lst (ts.map V.str))=H3 at s3 et⊢;refine hZ1 _ _ (B7 fun Z2 hZ2=>?_);refine ex1 rfl (ex1 rfl ⟨t,rfl,⟨_,SqL.of et⟩,fun D2 hD2=>?_⟩);have lts:ts.length<=30:=by rw[pm.length_eq];omega
   refine Uv (r:=V.str) V.str (asL (K:=K) (SqL.of et)) (fun y=>!decide (y∈met)) (by omega) hD2 (fun y my G1 sG1 M hM=>?_) (fun y my G1 sG1 M hM=>ex1 rfl hM) fun σ' H4 s4 e4=>?_
   .exact ex1 rfl (ex1 rfl (V7 (.inl (SqL.of (sG1 _ _ (s3 _ _ eL)))) ⟨_,rfl,hM G1 fun b o e=>e⟩))
   have lf:=DL (fun y=>!decide (y∈met)) ts;refine⟨L,D2,_,_,rfl,rfl,s4 _ _ (s3 _ _ eL),e4,by rw[AA,AA,sizeLine_eq];omega,fun L2 hL2=>?_⟩;have u5:=Same.new (o:=.lst (met.map V.str ++(ts.filter fun y=>!decide (y∈met)).map V.str)) hL2;have e5:(upd H4 L2 (.lst (met.map V.str ++(ts.filter fun y=>!decide (y∈met)).map V.str))) L2=some (.lst ((met++ts.filter fun y=>!decide (y∈met)).map V.str)):=by rw[A9,AL]
   refine hZ2 _ _ ?_;refine ex1 rfl (B9 rfl rfl ?_);refine⟨sa.length-(i+1),by omega,i+1,L2,_,_,rfl,rfl,((sG.trans s3).trans s4).trans u5,e5,I.step hx pm nd fun y hy=>Km ok x y hy⟩
  .have hi:met.length<=i:=by
    have:¬(i:Int) <(met.length:Int):=fun z=>h (AG z);omega
   refine hN3 _ _ ?_;obtain⟨rest,hrest⟩:=I.hd;refine ex1 rfl ⟨_,rfl,L,_,rfl,SqL.of eL,fun p hp=>?_⟩;have up:=Same.new (o:=.lst (Cc (met.map V.str) (some (1:Int)) none)) hp;have ep:(upd G p (.lst (Cc (met.map V.str) (some (1:Int)) none))) p=some (.lst (rest.map V.str)):=by
    rw[A9,show(1:Int) =((1:Nat):Int)from rfl,Kc _ _ (by rw[AA,hrest,BK];omega),hrest];rfl
   refine⟨p,rest,rfl,SqL.of ep,fun l ms hl pm so=>?_⟩;have nd:=I.nd;rw[hrest,BX]at nd;refine q l ms _ ((sG.trans up).trans (Same.new hl)) ((sG.trans up).free hl) A9 ⟨pm.nodup_iff.mpr nd.2,so,fun x=>?_⟩;rw[pm.mem_iff,<-I.fin hi x,hrest,AX];refine⟨fun h=>⟨.inr h,fun e=>nd.1 (e▸h)⟩,fun⟨h,e⟩=>h.resolve_left e⟩
theorem Bj:FnScope ["_law_rows", "_law_goal"] ["_law_rows", "_law_goal"] (B5 s_law_hits):=fsc
def Uc:Sp:=fun vs H Q _=>∃(r a b c d:Addr) (pe:List PEr) (sa:List SAr) (st:List STr) (ba:List PA2) (g:Str),vs = [.ref r,.str g]/\H r=some (.lst [.ref a,.ref b,.ref c,.ref d])/\WRows H a b c d pe sa st ba/\WOk pe sa st ba/\∀(l:Addr) (ms:List Str) H',Same H H'->H l=none->H' l=some (.lst (ms.map V.str))->HitOf sa ba g ms->Q (.ref l) H'
set_option maxHeartbeats 4000000 in
theorem Iz(T:Tx K mg):FnOk P w K mg base CX0 2 T.bb.f T.bb.fd ["_law_rows", "_law_goal"] Uc:=by
 have G_law_behind:=Do (P:=P) (w:=w) (base:=base) T;have sc:=Bj;refine T.bb.F.ok Bj (fun vs H Q E h=>?_) (fun cdv A outer s H vs Q E hr h=>?_)
 .obtain⟨r,a,b,c,d,pe,sa,st,ba,g,rfl,_⟩:=h;rfl
 .obtain⟨r,a,b,c,d,pe,sa,st,ba,g,rfl,er,W,ok,q⟩:=h;refine⟨_,(B1 (I0 (C3 (S9 K) (pv 1) (O2 (N':=["_law_row"]) (cap:=[none]) (cl:=[]) (J6 trivial trivial) rfl (piL K (C6 (ixL K) (pv 0) B3 (fun _ _=>rfl))) (fun _ _ _ _=>by exact⟨(pgC 0),F9,(C6 (ixT K) (pv 0) B3 (fun _ _=>rfl))⟩)) rfl) (B4 (C0 (E2 (O5 K) T.ah F6 (A8 (F8 X9 (E9 (A8 (pv 1) B0)) (C4 T.aV G_law_behind (Rm hr) (A8 (pv 0) (A8 (pv 1) B0)))) B0)))) D0)
   (B4 (C0 (E9 (A8 (pv 1) B0))))),?_⟩
  obtain⟨l1,l2,l3,l4⟩:=ok.len;refine B7 fun N1 hN1=>?_;refine ex1 rfl (ex1 rfl ⟨r,_,B9 rfl rfl ⟨SqL.of er,B8 (j:=1) rfl,b,rfl,⟨_,SqL.of W.hs.at_⟩,fun D hD=>?_⟩⟩);refine Fs (r:=fun q:RW=>V.ref q.1) (fun q=>V.str q.2.1) (asL (SqL.of W.hs.at_)) (fun _=>true) (by rw[AA];omega) hD (fun y my G sG M hM=>hM G fun b o e=>e) (fun y my G sG M hM=>?_) fun σ' H1 s1 e1=>?_
  .exact ex1 rfl ⟨y.1,_,B9 rfl rfl ⟨SqT.of (sG _ _ (W.hs.row y my)),B8 (j:=0) rfl,hM G fun b o e=>e⟩⟩
  have e1:H1 D=some (.lst ((nS sa).map V.str)):=by
   rw[e1,EN.mpr fun _ _=>rfl,BA];unfold nS;rw[BA];rfl
  refine G9 (.inl (SqL.of e1)) ⟨_,rfl,Z7 (fun h=>?_) (fun h=>?_)⟩
  .have hg:g∈nS sa:=BG h;refine ex1 rfl ⟨by show 1<=sizeLine;decide,fun o ho=>?_⟩;have uo:=Same.new (o:=.lst [.str g]) ho;have eo:(upd H1 o (.lst [.str g])) o=some (.lst [.str g]):=A9;generalize upd H1 o (.lst [.str g])=H2 at uo eo⊢;have s2:=s1.trans uo;refine ex1 rfl (ex1 rfl ⟨r,a,b,c,d,pe,sa,st,ba,g,rfl,s2 _ _ er,W.same s2,ok,hg,fun l ms H3 s3 hl e3 B=>?_⟩);have lm:ms.length<=30:=by
    have:=S2 B.nd fun z hz=>Ov ok hg ((B.mem z).mp hz).1;unfold nS at this;rw[AA]at this;omega
   refine⟨o,l,_,_,rfl,rfl,s3 _ _ eo,e3,by rw[AA,sizeLine_eq];show 1+_<=_;omega,fun p hp=>?_⟩;have up:=Same.new (o:=.lst ([.str g]++ms.map V.str)) hp;refine⟨p,g::ms,rfl,SqL.of (by rw[A9];rfl),fun l' ms' hl' pm so=>?_⟩;have s5:=(s2.trans s3).trans up;have nin:g∉ms:=fun z=>((B.mem _).mp z).2 rfl;refine q l' ms' _ (s5.trans (Same.new hl')) (s5.free hl') A9 ⟨pm.nodup_iff.mpr (BX.mpr ⟨nin,B.nd⟩),so,fun z=>?_⟩;rw[pm.mem_iff,AY hg,AX,B.mem];refine⟨fun h=>h.elim (fun h=>h▸ .of (AC.mpr rfl)) fun h=>h.1,fun h=>?_⟩;by_cases e:z=g
   .exact .inl e
   .exact .inr ⟨h,e⟩
  .have hg:g∉nS sa:=fun z=>h (AG z);refine hN1 _ _ (ex1 rfl ⟨by show 1<=sizeLine;decide,fun o ho=>?_⟩);refine q o [g] _ (s1.trans (Same.new ho)) (s1.free ho) A9 ⟨BX.mpr ⟨AM,CV⟩,GL _ _,fun z=>?_⟩;rw[AS hg,AC]
end
theorem Cl{y:Str}:∀{xs l:List Str},y∈M7 l xs↔y∈l\/y∈xs
 | [],l=>by simp[M7]
 | x::xs,l=>by
  show y∈M7 (Nt l x) xs↔_;rw[Cl];have:y∈Nt l x↔y∈l\/y=x:=by
   unfold Nt;by_cases h:x∈l
   .rw[AY h];exact⟨.inl,fun z=>z.elim id fun e=>e▸h⟩
   .rw[AS h,AI,AC]
  rw[this,AX,or_assoc]
theorem Hc:∀{xs l:List Str},l.Nodup->(M7 l xs).Nodup
 | [],l,h=>h
 | x::xs,l,h=>by
  show(M7 (Nt l x) xs).Nodup;refine Hc ?_;unfold Nt;by_cases c:x∈l
  .rw[AY c];exact h
  .rw[AS c];exact BQ.mpr ⟨h,by simp,fun a ha b hb z=>c (by rw[AC.mp hb]at z;exact z▸ha)⟩
theorem Pc{x y:Str}(h:x.cps.toList=y.cps.toList):x=y:=by
 cases x;cases y;exact congrArg Str.mk (Array.toList_inj.mp h)
theorem Tu{x y:Str}(h1:leS x y)(h2:leS y x):x=y:=Pc (GU (as:=x.cps.toList) (bs:=y.cps.toList) h1 h2)
theorem m8{a b:List Str}(h1:a.Pairwise leS)(h2:b.Pairwise leS)(h:a.Perm b):a=b:=List.Perm.eq_of_pairwise (fun _ _ _ _=>Tu) h1 h2 h
theorem zDi{sa sa':List SAr}(d:sa'.map dS=sa.map dS):nS sa'=nS sa:=by
 have:=congrArg (List.map fun q:Str×Str×List Str=>q.1) d;rw[BA,BA]at this;exact this
theorem HitOf.names{pe:List PEr}{sa:List SAr}{st:List STr}{ba:List PA2}{g:Str}{ms:List Str}(h:HitOf sa ba g ms)(ok:WOk pe sa st ba)(hg:g∈nS sa\/g∈nT st):(∀x∈ms,F7 x=true)/\ms.length<=30:=by
 by_cases e:g∈nS sa
 .have sub:∀x∈ms,x∈nS sa:=fun x hx=>Ov ok e (by have:=(h.mem x).mp hx;rwa [AY e]at this);refine⟨fun x hx=>ok.nm x (BN _ (sub x hx)),Nat.le_trans (S2 h.nd sub) ?_⟩;unfold nS;rw[AA];exact ok.len.2.1
 .have sub:∀x∈ms,x∈[g]:=fun x hx=>by have:=(h.mem x).mp hx;rw[AS e]at this;rw[this];exact AC.mpr rfl
  refine⟨fun x hx=>by rw[AC.mp (sub x hx)];exact ok.nm g (AI.mpr hg),Nat.le_trans (S2 h.nd sub) (by rw[EC];decide)⟩
def leK(k l:Str×Str):Prop:=leP (0,k) (0,l)
theorem Tw{k l:Str×Str}(h1:leK k l)(h2:leK l k):k=l:=by
 have h1:¬TS.pairLt (Ff (0,l)) (Ff (0,k))=true:=fun z=>by rw[show TS.pairLt (Ff (0,l)) (Ff (0,k))=false from h1]at z;cases z
 have h2:¬TS.pairLt (Ff (0,k)) (Ff (0,l))=true:=fun z=>by rw[show TS.pairLt (Ff (0,k)) (Ff (0,l))=false from h2]at z;cases z
 rw[TS.pairLt_iff]at h1 h2;have e1:k.1.cps.toList=l.1.cps.toList:=GU (as:=k.1.cps.toList) (bs:=l.1.cps.toList) (fun z=>h1 (.inl z)) (fun z=>h2 (.inl z));have e2:k.2.cps.toList=l.2.cps.toList:=GU (as:=k.2.cps.toList) (bs:=l.2.cps.toList) (fun z=>h1 (.inr ⟨e1.symm,z⟩)) (fun z=>h2 (.inr ⟨e1,z⟩));exact Prod.ext (Pc e1) (Pc e2)
theorem Xn{a b:List PA2}(h1:a.Pairwise leP)(h2:b.Pairwise leP)(h:(a.map fun q=>q.2).Perm (b.map fun q=>q.2)):(a.map fun q=>q.2)=b.map fun q=>q.2 :=
 List.Perm.eq_of_pairwise (le:=leK) (fun _ _ _ _=>Tw) (CZ.mpr h1) (CZ.mpr h2) h
theorem Yb{K:PySem.W.Frag}{l D:Addr}{ts:List Str}{n:Str}{H1:Hp}{v0:Option V}{Q:St->Hp->Prop}(e:H1 l=some (.lst (ts.map V.str)))(len:ts.length<=1000)(hD:H1 D=none)
  (q:∀σ G (rs:List PA2),Same H1 G->G D=some (.lst (I9 rs))->(∀q∈rs,F4 G q)->(rs.map fun q=>q.2) =(ts.map fun o=>(n,o))->Q σ G) :
  Ej (S7 0) Dj (w4 D (zEi (Nl (Ob 1) (Nl (Ob 0) Wa)))) (Itl K l) [v0,some (.str n)] (upd H1 D (.lst [])) Q:=by
 refine K7 (asL (K:=K) (SqL.of e)) (fun j σ F=>(∃v0,σ = [v0,some (.str n)])/\Same H1 F/\∃rs:List PA2,F D=some (.lst (I9 rs))/\(∀q∈rs,F4 F q)/\(rs.map fun q=>q.2) =(ts.take j).map fun o=>(n,o)) ⟨⟨_,rfl⟩,Same.new hD,[],A9,fun q h=>absurd h AM,rfl⟩ (fun i σ G _ h=>h.2.1.at l) ?_ ?_
 .rintro j σ F v N2 hx ⟨⟨v0,rfl⟩,sF,rs,eF,pF,mF⟩ hN2;rw[AF]at hx;obtain⟨o,ho,rfl⟩:=AV.mp hx;refine X6 (ex1 rfl (ex1 rfl ⟨by show 2<=sizeLine;decide,fun t ht=>?_⟩));have ut:=Same.new (o:=.tup [.str n,.str o]) ht;have ntD:t≠D:=(B2 eF ht).symm;have lrs:rs.length<=1000:=by
   have:=congrArg List.length mF;rw[AA,AA,AR]at this;omega
  refine⟨_,ut _ _ eF,by unfold I9;rw[AA,sizeLine_eq];omega,hN2 _ _ ⟨⟨_,rfl⟩,(sF.trans ut).upd hD,rs ++ [(t,n,o)],by rw[A9];unfold I9;rw[AL];rfl,fun z hz=>?_,by rw[AL,mF,C8 ho,AL];rfl⟩⟩;rcases AI.mp hz with h | h
  .exact(B6 (P8 (ut _ _ (pF z h)) (ut _ _ eF) (by intro z;cases z))).trans (ut _ _ (pF z h))
  .rw[AC.mp h];exact(B6 ntD).trans A9
 .rintro σ F ⟨_,sF,rs,eF,pF,mF⟩;rw[AA,BR]at mF;exact q σ F rs sF eF pF mF
section
variable{P:Program}{w:World}{K:PySem.W.Frag}{mg:Str->Option Value}{base:Heap}
theorem p8:FnScope ["_law_rows", "_law_live_here", "_law_names", "_law_pairs", "_law_name", "_law_one", "_law_goal", "_law_hit", "_law_some"] ["_law_rows"] (B5 s_law_woven):=fsc
def Py:Sp:=fun vs H Q _=>∃(r a b c d:Addr) (pe:List PEr) (sa:List SAr) (st:List STr) (ba:List PA2),vs = [.ref r]/\H r=some (.lst [.ref a,.ref b,.ref c,.ref d])/\WRows H a b c d pe sa st ba/\WOk pe sa st ba/\sa.length<=12/\st.length<=12 /\
 ∀(t n m:Addr) (ns:List Str) (ps:List PA2) H',Same H H'->H' t=some (.tup [.ref n,.ref m])->H' n=some (.lst (ns.map V.str))->ns.Perm (Bg pe sa st)->ns.Pairwise leS->H' m=some (.lst (I9 ps))->(∀q∈ps,F4 H' q)->StrkOk ns ps->ps.Pairwise leP->(∀k,k∈(ps.map fun q=>q.2)↔Xq pe sa st ba k)->Q (.ref t) H'
set_option maxHeartbeats 4000000 in
theorem Gu(T:Tx K mg):FnOk P w K mg base CX0 3 T.a2.f T.a2.fd ["_law_rows"] Py:=by
 have G_law_live:=Ja (P:=P) (w:=w) (base:=base) T;have G_law_hits:=Iz (P:=P) (w:=w) (base:=base) T;have sc:=p8;refine T.a2.F.ok p8 (fun vs H Q E h=>?_) (fun cdv A outer s H vs Q E hr h=>?_)
 .obtain⟨r,a,b,c,d,pe,sa,st,ba,rfl,_⟩:=h;rfl
 .obtain⟨r,a,b,c,d,pe,sa,st,ba,rfl,er,W,ok,s12,t12,q⟩:=h;have hu:=w8 hr;refine⟨_,(B1 (C5 (i:=1) sc.nd rfl (.inr rfl) (C4 T.ba G_law_live (Rm hr) (A8 (pv 0) B0)))
   (B1 (C5 (i:=2) sc.nd rfl (.inr rfl) (F8 X9 (O2 (N':=["_law_row"]) (cap:=[none]) (cl:=[]) (J6 trivial trivial) rfl (piL K (C6 (ixL K) (pv 0) B3 (fun _ _=>rfl))) (fun _ _ _ _=>by exact⟨(pgC 0),F9,(C6 (ixT K) (pv 0) B3 (fun _ _=>rfl))⟩)) (pv 1)))
   (B1 (C5 (i:=3) sc.nd rfl (.inl rfl) (E9 B0))
   (B1 (P4 PassesOwn.never rfl (piL K (C6 (ixL K) (pv 0) B3 (fun _ _=>rfl))) (pgT K (n:=3) (C2 (D6 (i:=4) sc.nd rfl (.inr rfl)) (C2 (D6 (i:=5) sc.nd rfl (.inl rfl)) (C2 (D6 (i:=6) sc.nd rfl (.inl rfl)) J2))))
   (B4 (I0 (C3 (S9 K) (pv 4) (pv 1) rfl) (B1 (C5 (i:=7) sc.nd rfl (.inr rfl) (C4 T.bb G_law_hits (Rm hr) (A8 (pv 0) (A8 (pv 6) B0))))
   (B1 (Ln (i:=8) (N':=["_law_other", "_law_names"]) (cap:=[none,some 2]) (cl:=[("_law_names",_)]) sc.nd rfl (.inl rfl) (J6 ⟨⟨rfl,rfl,rfl,rfl⟩,trivial⟩ ⟨rfl,trivial⟩) rfl (piL K (pv 7)) (fun _ _ _ _=>by exact⟨(pgC 0),(K6 (C3 (S9 K) (pv 0) (pv 1) rfl)),(pv 0)⟩))
   (B1 (C5 (i:=8) sc.nd rfl (.inl rfl) (F8 X9 (pv 8) (O2 (N':=["_law_row", "_law_live_here", "_law_hit"]) (cap:=[none,some 1,some 7]) (cl:=[("_law_live_here",_),("_law_hit",_)]) (J6 ⟨⟨rfl,rfl,rfl,rfl⟩,⟨⟨rfl,rfl,rfl,rfl⟩,trivial⟩⟩ ⟨rfl,⟨rfl,trivial⟩⟩) rfl (piL K (C6 (ixL K) (pv 0) B3 (fun _ _=>rfl))) (fun _ _ _ _=>by exact⟨(pgC 0),(K6 (PW.pt (Qa (C3 (S9 K) (C6 (ixT K) (pv 0) B3 (fun _ _=>rfl)) (pv 1) rfl) (Ie (C3 (S9 K) (C6 (ixT K) (pv 0) B3 (fun _ _=>rfl)) (pv 2) rfl))))),(C6 (ixT K) (pv 0) B3 (fun _ _=>rfl))⟩))))
   (B4 (G0 (Nz K PySem.F.plainAttrs_list PySem.F.slot_list_extend PySem.F.type_list_extend Qq (pv 3) (A8 (O2 (N':=["_law_other", "_law_name"]) (cap:=[none,some 4]) (cl:=[("_law_name",_)]) (J6 ⟨⟨rfl,rfl,rfl,rfl⟩,trivial⟩ ⟨rfl,trivial⟩) rfl (piL K (E2 (Dx w) T.ah F6 (A8 (U1 (Uz K w) T.be Ck (A8 (pv 8) B0)) B0))) (fun _ _ _ _=>by exact⟨(pgC 0),F9,(U8 (A8 (pv 1) (A8 (pv 0) B0)))⟩)) B0))))))) D0)))
   (B4 (C0 (U8 (A8 (E2 (O5 K) T.ah F6 (A8 (pv 2) B0)) (A8 (E2 (Lk K) T.ah F6 (A8 (pv 3) B0)) B0))))))))),?_⟩
  obtain⟨l1,l2,l3,l4⟩:=ok.len;refine B7 fun N1 hN1=>?_;refine ex1 rfl ⟨r,a,b,c,d,pe,sa,st,ba,rfl,er,W,ok,fun cl cs H1 s1 hcl e1 pm1 so1=>?_⟩;have lC:cs.length<=st.length:=by
   rw[pm1.length_eq];have:=(X1 pe sa st).length_le;unfold nT at this⊢;rw[AA,AA]at this;rw[AA];exact this
  have W1:=W.same s1;refine hN1 _ _ (B7 fun N2 hN2=>?_);refine ex1 rfl ⟨r,_,B9 rfl rfl ⟨SqL.of (s1 _ _ er),B8 (j:=1) rfl,b,rfl,⟨_,SqL.of W1.hs.at_⟩,fun D hD=>?_⟩⟩;refine Fs (r:=fun q:RW=>V.ref q.1) (fun q=>V.str q.2.1) (asL (SqL.of W1.hs.at_)) (fun _=>true) (by rw[AA];omega) hD (fun y my G sG M hM=>hM G fun b o e=>e) (fun y my G sG M hM=>?_) fun σ' H2 s2 e2=>?_
  .exact ex1 rfl ⟨y.1,_,B9 rfl rfl ⟨SqT.of (sG _ _ (W1.hs.row y my)),B8 (j:=0) rfl,hM G fun b o e=>e⟩⟩
  have e2:H2 D=some (.lst ((nS sa).map V.str)):=by
   rw[e2,EN.mpr fun _ _=>rfl,BA];unfold nS;rw[BA];rfl
  have lS:(nS sa).length=sa.length:=by unfold nS;rw[AA]
  refine ex1 rfl ⟨D,cl,_,_,rfl,rfl,e2,s2 _ _ e1,by rw[AA,AA,sizeLine_eq];omega,fun nm hnm=>?_⟩;have s3:=(s1.trans s2).trans (Same.new (o:=.lst ((nS sa).map V.str++cs.map V.str)) hnm);have e3:(upd H2 nm (.lst ((nS sa).map V.str++cs.map V.str))) nm=some (.lst ((nS sa++cs).map V.str)):=by rw[A9,AL]
  have f3:=(Same.new (o:=.lst ((nS sa).map V.str++cs.map V.str)) hnm) _ _ (s2 _ _ e1);generalize upd H2 nm (.lst ((nS sa).map V.str++cs.map V.str))=H3 at s3 e3 f3⊢;clear hD e2 s2 e1 s1 W1 hnm;have pmN:(nS sa++cs).Perm (Bg pe sa st):=pm1.append_left _;have nN:T0 (nS sa++cs):=by
   have k:=Qs ok;exact⟨fun y hy=>k.1 y (pmN.mem_iff.mp hy),pmN.nodup_iff.mpr k.2.1,by rw[pmN.length_eq];exact k.2.2⟩
  have lN:(nS sa++cs).length<=24:=by rw[BB];omega
  refine hN2 _ _ (B7 fun N3 hN3=>?_);refine⟨BT _,fun E1 hE=>hN3 _ _ (B7 fun N4 hN4=>?_)⟩;have W3:=W.same s3;have uE:=Same.new (o:=.lst []) hE;have as1:=asL (K:=K) (SqL.of (uE _ _ W3.ht.at_));rw[BA]at as1;refine ex1 rfl ⟨r,_,B9 rfl rfl ⟨SqL.of (uE _ _ (s3 _ _ er)),B8 (j:=2) rfl,c,rfl,⟨_,SqL.of (uE _ _ W3.ht.at_)⟩,Y3 as1 (fun i σ G=>(∃v4 v5 v6 v7 v8,σ = [some (.ref r),some (.ref cl),some (.ref nm),some (.ref E1),v4,v5,v6,v7,v8])/\Same H3 G/\∃ps:List PA2,G E1=some (.lst (I9 ps))/\(∀q∈ps,F4 G q)/\(ps.map fun q=>q.2).Nodup/\(∀k,k∈(ps.map fun q=>q.2)↔k.1∈nT (st.take i)/\k.1∈cs/\Vj sa st ba (nS sa++cs) k.1 k.2)/\ps.length<=24*i) ?_ ?_ ?_ ?_⟩⟩
  .exact⟨⟨_,_,_,_,_,rfl⟩,uE,[],A9,fun q h=>absurd h AM,CV,fun k=>⟨fun h=>absurd h AM,fun h=>absurd h.1 AM⟩,BT _⟩
  .rintro i σ G _ ⟨_,sG,_⟩ o e;rw[uE _ _ W3.ht.at_]at e;cases e;exact(W3.same sG).ht.at_
  .rintro i σ G v hv ⟨⟨v4,v5,v6,v7,v8,rfl⟩,sG,ps,eG,pG,nd,mem,len⟩ D1 hD1 _;rw[AF]at hv;obtain⟨y,hy,rfl⟩:=AV.mp hv;have my:y∈st:=AK hy;have WG:=W3.same sG;have ey:=WG.ht.row (rT y) (AH.mpr ⟨y,my,rfl⟩);refine⟨y.1,ex1 rfl ⟨SqT.of ey,rfl,_,ex1 rfl ⟨_,ex1 rfl (B9 rfl rfl ?_)⟩⟩⟩;refine ex1 rfl (ex1 rfl (G9 (.inl (SqL.of (sG _ _ f3))) ⟨_,rfl,Z7 (fun h=>?_) (fun h=>?_)⟩))
   .have hcs:y.2.1∈cs:=BG h;refine B7 fun M1 hM1=>?_;refine ex1 rfl (ex1 rfl ⟨r,a,b,c,d,pe,sa,st,ba,y.2.2.2,rfl,sG _ _ (s3 _ _ er),WG,ok,fun hl hs G1 s1 hhl e1 Ho=>?_⟩);obtain⟨hnm,hlen⟩:=Ho.names ok (ok.tg y my).2;refine hM1 _ _ (B7 fun M2 hM2=>?_);refine ex1 rfl ⟨hl,rfl,⟨_,SqL.of e1⟩,fun D2 hD2=>?_⟩;refine Uv (r:=V.str) V.str (asL (K:=K) (SqL.of e1)) (fun o=>decide (o∈nS sa++cs)) (by omega) hD2 (fun o mo F sF M hM=>?_) (fun o mo F sF M hM=>ex1 rfl hM) fun σ' G2 s2 e2=>?_
    .exact ex1 rfl (ex1 rfl (G9 (.inl (SqL.of (sF _ _ (s1 _ _ (sG _ _ e3))))) ⟨_,rfl,hM F fun b o e=>e⟩))
    have s02:=(sG.trans s1).trans s2;refine hM2 _ _ (B7 fun M3 hM3=>?_);have W2:=W3.same s02;have as2:=asL (K:=K) (SqL.of W2.ht.at_);rw[BA]at as2;refine ex1 rfl (ex1 rfl ⟨r,_,B9 rfl rfl ⟨SqL.of (s02 _ _ (s3 _ _ er)),B8 (j:=2) rfl,c,rfl,⟨_,SqL.of W2.ht.at_⟩,fun D3 hD3=>?_⟩⟩);refine Fs (α:=STr) (r:=fun q:STr=>V.ref q.1) (fun q=>V.str q.2.1) as2 (fun z=>decide (z.2.1∈cs)&&decide (z.2.2.1∈hs)) (by omega) hD3 (fun z mz F sF M hM=>?_) (fun z mz F sF M hM=>?_) fun σ' G3 s3' e3'=>?_
    .have ez:=sF _ _ (W2.ht.row (rT z) (AH.mpr ⟨z,mz,rfl⟩));have hM':=hM F fun b o e=>e;refine ex1 rfl ⟨z.1,_,B9 rfl rfl ⟨SqT.of ez,B8 (j:=0) rfl,ex1 rfl (G9 (.inl (SqL.of (sF _ _ (s02 _ _ f3)))) ⟨_,rfl,Z7 (fun h1=>?_) (fun h1=>?_)⟩)⟩⟩
     .have h1:decide (z.2.1∈cs)=true:=h1;rw[h1,Bool.true_and]at hM';exact ex1 rfl ⟨z.1,_,B9 rfl rfl ⟨SqT.of ez,B8 (j:=1) rfl,ex1 rfl (G9 (.inl (SqL.of (sF _ _ (s2 _ _ e1)))) ⟨_,rfl,hM'⟩)⟩⟩
     .have h1:decide (z.2.1∈cs)=false:=DJ.mpr h1;rw[h1,EV]at hM';exact hM'
    .exact ex1 rfl ⟨z.1,_,B9 rfl rfl ⟨SqT.of (sF _ _ (W2.ht.row (rT z) (AH.mpr ⟨z,mz,rfl⟩))),B8 (j:=0) rfl,hM F fun b o e=>e⟩⟩
    have lf1:=DL (fun o=>decide (o∈nS sa++cs)) hs;have lf2:=DL (fun z:STr=>decide (z.2.1∈cs)&&decide (z.2.2.1∈hs)) st;refine⟨D2,D3,_,_,rfl,rfl,s3' _ _ e2,e3',by rw[AA,AA,sizeLine_eq];omega,fun L3 hL3=>?_⟩;obtain⟨so,hso⟩:∃so:List Str,so =(hs.filter fun o=>decide (o∈nS sa++cs)) ++(st.filter fun z=>decide (z.2.1∈cs)&&decide (z.2.2.1∈hs)).map fun z=>z.2.1:=⟨_,rfl⟩;have u4:=Same.new (o:=.lst ((hs.filter fun o=>decide (o∈nS sa++cs)).map V.str ++(st.filter fun z=>decide (z.2.1∈cs)&&decide (z.2.2.1∈hs)).map fun q=>V.str q.2.1)) hL3;have e4:(upd G3 L3 (.lst ((hs.filter fun o=>decide (o∈nS sa++cs)).map V.str ++(st.filter fun z=>decide (z.2.1∈cs)&&decide (z.2.2.1∈hs)).map fun q=>V.str q.2.1))) L3=some (.lst (so.map V.str)):=by rw[A9,hso,AL,BA];rfl
    generalize upd G3 L3 (.lst ((hs.filter fun o=>decide (o∈nS sa++cs)).map V.str ++(st.filter fun z=>decide (z.2.1∈cs)&&decide (z.2.2.1∈hs)).map fun q=>V.str q.2.1))=G4 at u4 e4⊢;have s14:=((s1.trans s2).trans s3').trans u4;refine hM3 _ _ ?_;have lso:so.length<=100:=by rw[hso,BB,AA];omega
    refine ex1 rfl ⟨.inl ⟨rfl,_,SqL.of (s14 _ _ eG)⟩,?_⟩;refine ex1 rfl ⟨L3,so,rfl,.inl (SqL.of e4),by omega,fun p hp=>?_⟩;have up:=Same.new (o:=X7 w p (M7 [] so)) hp;refine⟨p,_,rfl,A9,fun t ts ht pm srt=>?_⟩;have ut:=up.trans (Same.new (o:=.lst (ts.map V.str)) ht);have et:(upd (upd G4 p (X7 w p (M7 [] so))) t (.lst (ts.map V.str))) t=some (.lst (ts.map V.str)):=A9;generalize upd (upd G4 p (X7 w p (M7 [] so))) t (.lst (ts.map V.str))=G5 at ut et⊢;have nts:ts.Nodup:=pm.nodup_iff.mpr (Hc CV);have s15:=s14.trans ut;have nT2:=(BQ.mp ok.sn).2.1;have ey2:L6 st y.2.1=some y:=by
     obtain⟨z,ez,mz,nz⟩:=P1 (f:=fun q:STr=>q.2.1) (xs:=st) (n:=y.2.1) (AH.mpr ⟨y,my,rfl⟩);rw[K0 (f:=fun q:STr=>q.2.1) nT2 mz my nz]at ez;exact ez
    have mts:∀o,o∈ts↔Vj sa st ba (nS sa++cs) y.2.1 o:=fun o=>by
     rw[pm.mem_iff,Cl,hso,AI,BW,AH];constructor
     .rintro(h | ⟨h1,h2⟩ | ⟨z,hz,rfl⟩)
      .exact absurd h AM
      .exact⟨y,ey2,BG h2,.inl ((Ho.mem o).mp h1)⟩
      .obtain⟨mz,hz⟩:=BW.mp hz;rw[CD]at hz;exact⟨y,ey2,BJ _ (BG hz.1),.inr ⟨z,mz,rfl,(Ho.mem _).mp (BG hz.2)⟩⟩
     .rintro⟨y',ey',h1,h2⟩;rw[ey2]at ey';cases ey';rcases h2 with h2 | ⟨z,mz,rfl,h2⟩
      .exact .inr (.inl ⟨(Ho.mem o).mpr h2,AG h1⟩)
      .refine .inr (.inr ⟨z,BW.mpr ⟨mz,?_⟩,rfl⟩);rw[CD];refine⟨AG ((AI.mp h1).resolve_left fun h=>?_),AG ((Ho.mem _).mpr h2)⟩;exact(BQ.mp ok.sn).2.2 _ h _ (AH.mpr ⟨z,mz,rfl⟩) rfl
    have lts:ts.length<=24:=Nat.le_trans (S2 nts fun o ho=>let⟨_,_,h,_⟩:=(mts o).mp ho;h) lN;refine⟨t,rfl,⟨_,SqL.of et⟩,fun D4 hD4=>Yb et (by omega) hD4 fun σ' G6 rs s6 e6 p6 m6=>?_⟩;have s16:=s15.trans s6;have lrs:rs.length=ts.length:=by
     have:=congrArg List.length m6
     rwa [AA,AA]at this
    refine⟨E1,D4,_,_,rfl,rfl,s16 _ _ eG,e6,by unfold I9;rw[AA,AA,sizeLine_eq];have:=(AU.mp hy).1;omega,hD1 _ _ ⟨⟨_,_,_,_,_,rfl⟩,(sG.trans s16).upd hE,ps++rs,by rw[A9];unfold I9;rw[AL],fun z hz=>?_,?_,fun k=>?_,by rw[BB];omega⟩⟩
    .have eE:=s16 _ _ eG;rcases AI.mp hz with h | h
     .have:=s16 _ _ (pG z h);exact(B6 (P8 this eE (by intro z;cases z))).trans this
     .exact(B6 (P8 (p6 z h) eE (by intro z;cases z))).trans (p6 z h)
    .rw[AL,m6];refine BQ.mpr ⟨nd,CZ.mpr (nts.imp fun h z=>h (congrArg Prod.snd z)),fun a ha b hb e=>?_⟩;obtain⟨o,_,rfl⟩:=AH.mp hb;rw[e]at ha;have h1:y.2.1∈nT (st.take i):=((mem _).mp ha).1;unfold nT at h1 nT2;rw[EH]at h1;exact J4 nT2 (by rw[AF,hy];rfl) h1
    .rw[AL,AI,mem,m6,C8 hy];have e1:nT (st.take i ++ [y])=nT (st.take i) ++ [y.2.1]:=by unfold nT;rw[AL];rfl
     rw[e1,AI,AC,AH];constructor
     .rintro(⟨h1,h2⟩ | ⟨o,ho,rfl⟩)
      .exact⟨.inl h1,h2⟩
      .exact⟨.inr rfl,hcs,(mts o).mp ho⟩
     .rintro⟨h1 | h1,h2,h3⟩
      .exact .inl ⟨h1,h2,h3⟩
      .obtain⟨k1,k2⟩:=k;have h1:k1=y.2.1:=h1;subst h1;exact .inr ⟨k2,(mts k2).mpr h3,rfl⟩
   .have hcs:y.2.1∉cs:=fun z=>h (AG z);refine hD1 _ _ ⟨⟨_,_,_,_,_,rfl⟩,sG,ps,eG,pG,nd,fun k=>?_,by omega⟩;have e1:nT (st.take (i+1))=nT (st.take i) ++ [y.2.1]:=by unfold nT;rw[C8 hy,AL];rfl
    rw[mem,e1,AI,AC];refine⟨fun⟨h1,h2⟩=>⟨.inl h1,h2⟩,fun⟨h1,h2⟩=>⟨h1.resolve_right fun e=>hcs (e▸h2.1),h2⟩⟩
  .rintro σ G ⟨⟨v4,v5,v6,v7,v8,rfl⟩,sG,ps,eG,pG,nd,mem,len⟩;rw[AA,BR]at mem;rw[AA]at len;refine hN4 _ _ ?_;refine ex1 rfl ⟨nm,_,rfl,SqL.of (sG _ _ e3),fun n ns hn pn sn=>?_⟩;have un:=Same.new (o:=.lst (ns.map V.str)) hn;have en:(upd G n (.lst (ns.map V.str))) n=some (.lst (ns.map V.str)):=A9;generalize upd G n (.lst (ns.map V.str))=G1 at un en⊢;refine ex1 rfl ⟨E1,ps,rfl,SqL.of (un _ _ eG),E4 un pG,fun m kq hm pm so=>?_⟩;have um:=Same.new (o:=.lst (I9 kq)) hm;refine⟨by show 2<=sizeLine;decide,fun t ht=>?_⟩;have ut:=Same.new (o:=.tup [.ref n,.ref m]) ht;refine q t n m ns kq _ ((((s3.trans sG).trans un).trans um).trans ut) A9 (ut _ _ (um _ _ en)) (pn.trans pmN) sn (ut _ _ A9) (fun z hz=>ut _ _ (um _ _ (un _ _ (pG z (pm.mem_iff.mp hz))))) ⟨fun z hz=>?_,((pm.map _).nodup_iff).mpr nd,by rw[pm.length_eq];omega⟩ so fun k=>?_
   .obtain⟨h1,h2,y,_,h3,_⟩:=(mem z.2).mp (AH.mpr ⟨z,pm.mem_iff.mp hz,rfl⟩);exact⟨pn.mem_iff.mpr (BJ _ h2),pn.mem_iff.mpr h3⟩
   .rw[(pm.map fun q:PA2=>q.2).mem_iff,mem,pm1.mem_iff];unfold Xq Vj;simp only[pmN.mem_iff];exact⟨fun h=>h.2,fun h=>⟨(X1 pe sa st).subset h.1,h⟩⟩
theorem Bh:FnScope ["_law_found", "_law_due"] ["_law_found", "_law_due"] (B5 s_law_same):=fsc
def Y7:Sp:=fun _ _ _ _=>False
theorem Om{f:Addr}{fd:FuncData}{ps:List Str}:FnOk P w K mg base CX0 0 f fd ps Y7:=⟨fun _ _ _ _ h=>h.elim,fun _ _ _ _ _ _ _ _ _ _ _ _ _ h=>h.elim⟩
def O7(S:Sp):Sp:=fun vs H Q _=>(∃a:Str,vs = [.str a,.str a]/\PySem.PyData.strOk a=true/\∀H',Same H H'->Q (.bl true) H') \/
 ∃(l m:Addr) (b:Bool) (xs ys:List V),vs = [.ref l,.ref m]/\H l=some (LT b xs)/\H m=some (LT b ys)/\xs.length=ys.length/\xs.length<=300 /\
  (∀(i:Nat) (x y:V) (H':Hp) (Q':VK) (E:XK),xs[i]?=some x->ys[i]?=some y->Same H H'->(∀H'',Same H' H''->Q' (.bl true) H'')->S [x,y] H' Q' E)/\∀H',Same H H'->Q (.bl true) H'
theorem J5(T:Tx K mg){n:Nat}{S:Sp}(G_law_same:FnOk P w K mg base CX0 n T.af.f T.af.fd ["_law_found", "_law_due"] S):FnOk P w K mg base CX0 (n+1) T.af.f T.af.fd ["_law_found", "_law_due"] (O7 S):=by
 have sc:=Bh;refine T.af.F.ok Bh (fun vs H Q E h=>?_) (fun cdv A outer s H vs Q E hr h=>?_)
 .rcases h with⟨a,rfl,_⟩ | ⟨l,m,b,xs,ys,rfl,_⟩
  .rfl
  .rfl
 .refine⟨_,(B1 (I0 (J0 (E2 (Lc K) T.ab C1 (A8 (pv 1) (A8 (U8 (A8 (R0 T.ap K5) (A8 (R0 T.aR V4) B0))) B0)))) (B1 (I0 (PW.pt (y4 (C3 Mg (E2 (J1 K) T.ab C1 (A8 (pv 0) (A8 (R0 T.ap K5) B0))) (E2 (J1 K) T.ab C1 (A8 (pv 1) (A8 (R0 T.ap K5) B0))) (D8 _)) (S4 (C3 Mg (E2 (J1 K) T.ab C1 (A8 (pv 0) (A8 (R0 T.aR V4) B0))) (E2 (J1 K) T.ab C1 (A8 (pv 1) (A8 (R0 T.aR V4) B0))) (D8 _))))) (B4 (C0 b7)) D0)
   (B4 (C0 (J8 (E8 Z8 (E2 (O8 K) T.am K9 (A8 (pv 0) B0)) (E2 (O8 K) T.am K9 (A8 (pv 1) B0)) (D8 _)) (O3 (E2 (Kv K) T.bp Kh (A8 (O2 (N':=["_law_one", "_law_other"]) (cap:=[none,none]) (cl:=[]) (J6 trivial trivial) rfl (zEy K T.bM (A8 (pv 0) (A8 (pv 1) B0))) (fun _ _ _ _=>by exact⟨(pgT K (n:=2) (C2 (pgC 0) (C2 (pgC 1) J2))),F9,(C4 T.af G_law_same (hr.mono (Nat.le_refl _)) (A8 (pv 0) (A8 (pv 1) B0)))⟩)) B0))))))) D0)
   (B1 (I0 (PW.pt (y4 (C3 Ow (pv 1) Cs (D8 _)) (S4 (J0 (E2 (J1 K) T.ab C1 (A8 (pv 1) (A8 (R0 T.bo Ki) B0))))))) (B4 (C0 (J8 (E8 (Tb K hr.units) (pv 0) (pv 1) (D8 _)) (O3 (E8 Z8 (E2 (J1 K) T.ab C1 (A8 (pv 0) (A8 (R0 T.bo Ki) B0))) (E2 (J1 K) T.ab C1 (A8 (pv 1) (A8 (R0 T.bo Ki) B0))) (D8 _)))))) D0)
   (B1 (I0 (J0 (E2 (J1 K) T.ab C1 (A8 (pv 1) (A8 (R0 T.bk Dw) B0)))) (B4 (C0 (J8 (E2 (J1 K) T.ab C1 (A8 (pv 0) (A8 (R0 T.bk Dw) B0))) (O3 (E8 (Tb K hr.units) (pv 0) (pv 1) (D8 _)))))) D0)
   (B4 (C0 (J8 (E2 (J1 K) T.ab C1 (A8 (pv 0) (A8 (R0 T.bn Kj) B0))) (J8 (Wb (E2 (J1 K) T.ab C1 (A8 (pv 0) (A8 (R0 T.bk Dw) B0)))) (O3 (E8 (Tb K hr.units) (pv 0) (pv 1) (D8 _)))))))))),?_⟩
  rcases h with⟨b,rfl,ob,q⟩ | ⟨l,m,b,xs,ys,rfl,hl,hm,el,len,hS,q⟩
  .refine ex1 rfl ⟨by show 2<=sizeLine;decide,fun t ht=>?_⟩;have s1:=Same.new (o:=.tup [.ty "list",.ty "tuple"]) ht;refine⟨.str b,t,["list", "tuple"],_,false,rfl,A9,.str b,.inl ⟨b,rfl⟩,rfl,?_⟩;generalize upd H t (.tup [.ty "list",.ty "tuple"])=H1 at s1⊢;refine ex1 rfl (X4 ?_);refine ex1 rfl ⟨rfl,ex1 rfl (X4 ?_)⟩;refine ex1 rfl ⟨.str b, "str",_,true,rfl,.str b,rfl,ex1 rfl (y8 ?_)⟩;refine ex1 rfl (ex1 rfl (Vi ob ⟨_,rfl,y8 ?_⟩));refine ex1 rfl ⟨.str b, "str",_,true,rfl,.str b,rfl,ex1 rfl ⟨.str b, "str",_,true,rfl,.str b,rfl,?_⟩⟩;exact⟨rfl,q _ s1⟩
  .refine ex1 rfl ⟨by show 2<=sizeLine;decide,fun t ht=>?_⟩;have s1:=Same.new (o:=.tup [.ty "list",.ty "tuple"]) ht;have l1:=s1 _ _ hl;have m1:=s1 _ _ hm;refine⟨.ref m,t,["list", "tuple"],_,true,rfl,A9,Mi m1,.inr ⟨m,_,rfl,Yy m1⟩,zAq b,?_⟩;generalize upd H t (.tup [.ty "list",.ty "tuple"])=H1 at s1 l1 m1⊢;refine ex1 rfl (y8 ?_);refine ex1 rfl ⟨.ref l, "list",_,b,rfl,Mi l1,Zl b,ex1 rfl ⟨.ref m, "list",_,b,rfl,Mi m1,Zl b,rfl,?_⟩⟩;refine⟨false,congrArg V.bl (zCk b),X4 ?_⟩;refine ex1 rfl ⟨.ref l, "tuple",_,_,rfl,Mi l1,zCe b,ex1 rfl ⟨.ref m, "tuple",_,_,rfl,Mi m1,zCe b,rfl,?_⟩⟩;refine⟨false,congrArg V.bl (zCk !b),X4 ?_⟩;refine ex1 rfl (B9 (a:=l) rfl (Vz l1) (ex1 rfl (B9 (a:=m) rfl (Vz m1) ⟨rfl,ex1 rfl ?_⟩)));refine Z7 (fun _=>?_) (fun h=>absurd (AG (congrArg (fun k:Nat=>V.int k) el)) h);refine ex1 rfl (ex1 rfl ⟨l,m,xs,ys,?_⟩);refine⟨rfl,zAk l1 m1 fun D hD=>?_⟩;refine Ft (n:=xs.length) (fun i σ H2=>(∃v0 v1,σ = [v0,v1])/\Same H1 H2/\H2 D=some (.lst ((List.replicate i true).map V.bl))) ⟨⟨_,_,rfl⟩,Same.new hD,A9⟩ ?_ ?_ ?_ ?_
   .rintro i σ H2 hi ⟨_,s2,_⟩;exact⟨_,_,_,_,Nd (s2 _ _ l1),Nd (s2 _ _ m1),Nat.le_of_eq el,AN hi,AN (el▸hi)⟩
   .rintro σ H2 ⟨_,s2,_⟩;exact⟨_,_,Nd (s2 _ _ l1),Nd (s2 _ _ m1),Nat.le_of_eq el,rfl⟩
   .rintro i σ H2 x H3 N hi ⟨⟨v0,v1,rfl⟩,s2,e2⟩ ⟨u,x,y,rfl,hu,rfl,hx,hy⟩ hN;have s3:=Same.new (o:=.tup [x,y]) hu;refine⟨u,ex1 rfl ⟨SqT.of A9,rfl,_,ex1 rfl (B9 rfl rfl ?_)⟩⟩;refine ex1 rfl (ex1 rfl (hS i x y _ _ _ (hx _ (Nd (s2 _ _ l1))) (hy _ (Nd (s2 _ _ m1))) ((s1.trans s2).trans s3) fun H4 s4=>?_));refine⟨_,s4 _ _ (s3 _ _ e2),by rw[AA,List.length_replicate,sizeLine_eq];omega,hN _ _ ⟨⟨_,_,rfl⟩,((s2.trans s3).trans s4).upd hD,?_⟩⟩;rw[A9,List.replicate_succ',AL];rfl
   .rintro σ H2 ⟨_,s2,e2⟩;have e:(List.replicate xs.length true).all id=true:=DR.mpr fun x hx=>(List.mem_replicate.mp hx).2;have q':Q (.bl ((List.replicate xs.length true).all id)) H2:=e.symm▸q _ (s1.trans s2);exact⟨D,_,rfl,SqL.of e2,q'⟩
end
def WL(H:Hp)(l:Addr)(ks:List (Str×Str)):Prop:=∃ps:List PA2,H l=some (.lst (I9 ps))/\(∀q∈ps,F4 H q)/\(ps.map fun q=>q.2)=ks
theorem Qt{ps:List PA2}{i:Nat}{x:V}(h:(I9 ps)[i]?=some x):∃q,ps[i]?=some q/\x = .ref q.1:=by
 unfold I9 at h;rw[AF]at h;obtain⟨q,e,r⟩:=AV.mp h;exact⟨q,e,r.symm⟩
theorem Xd{S:Sp}{H:Hp}{l m:Addr}{ks:List (Str×Str)}(h:WL H l ks)(h':WL H m ks)(ok:∀k∈ks,PySem.PyData.strOk k.1=true/\PySem.PyData.strOk k.2=true)(len:ks.length<=300) :
  ∃xs ys,H l=some (LT true xs)/\H m=some (LT true ys)/\xs.length=ys.length/\xs.length<=300/\∀(i:Nat) (x y:V) (H':Hp) (Q':VK) (E:XK),xs[i]?=some x->ys[i]?=some y->Same H H'->(∀H'',Same H' H''->Q' (.bl true) H'')->O7 (O7 S) [x,y] H' Q' E:=by
 obtain⟨ps,e,p,k⟩:=h;obtain⟨ps',e',p',k'⟩:=h';have l1:(I9 ps).length=ks.length:=by unfold I9;rw[<-k,AA,AA]
 have l2:(I9 ps').length=ks.length:=by unfold I9;rw[<-k',AA,AA]
 refine⟨I9 ps,I9 ps',e,e',l1.trans l2.symm,by rw[l1];exact len,fun i x y H' Q' E hx hy s hq=>?_⟩;obtain⟨a,ea,rfl⟩:=Qt hx;obtain⟨b,eb,rfl⟩:=Qt hy;have e2:a.2=b.2:=by
  have h1:ks[i]?=some a.2:=by rw[<-k,AF,ea];rfl
  have h2:ks[i]?=some b.2:=by rw[<-k',AF,eb];rfl
  exact BV (h1.symm.trans h2)
 have oka:=ok a.2 (by rw[<-k];exact AH.mpr ⟨a,AK ea,rfl⟩);have pb:H b.1=some (.tup [.str a.2.1,.str a.2.2]):=by rw[e2];exact p' b (AK eb)
 refine .inr ⟨a.1,b.1,false,[.str a.2.1,.str a.2.2],[.str a.2.1,.str a.2.2],rfl,s _ _ (p a (AK ea)),s _ _ pb,rfl,Nat.le_of_ble_eq_true rfl,fun j x y H'' Q'' E hx hy s' hq'=>?_,hq⟩;cases BV (hx.symm.trans hy)
 match j,hx with
 | 0,hx=>cases hx;exact .inl ⟨_,rfl,oka.1,hq'⟩
 | 1,hx=>cases hx;exact .inl ⟨_,rfl,oka.2,hq'⟩
theorem Ji{S:Sp}{H:Hp}{l m:Addr}{ss:List Str}(h:H l=some (.lst (ss.map V.str)))(h':H m=some (.lst (ss.map V.str)))(ok:∀x∈ss,PySem.PyData.strOk x=true)(len:ss.length<=300) :
  ∃xs ys,H l=some (LT true xs)/\H m=some (LT true ys)/\xs.length=ys.length/\xs.length<=300/\∀(i:Nat) (x y:V) (H':Hp) (Q':VK) (E:XK),xs[i]?=some x->ys[i]?=some y->Same H H'->(∀H'',Same H' H''->Q' (.bl true) H'')->O7 (O7 S) [x,y] H' Q' E:=by
 refine⟨_,_,h,h',rfl,by rw[AA];exact len,fun i x y H' Q' E hx hy s hq=>?_⟩;cases BV (hx.symm.trans hy);rw[AF]at hx;obtain⟨a,ha,rfl⟩:=AV.mp hx;exact .inl ⟨a,rfl,ok a (AK ha),hq⟩
def F5(ks:List (Str×Str))(n:Str):List Str:=(ks.filter fun k=>decide (k.2=n)).map fun k=>k.1
def J7(ks:List (Str×Str))(n:Str):List Str:=(ks.filter fun k=>decide (k.1=n)).map fun k=>k.2
theorem U3(qs:List PA2)(n:Str):C9 qs n=F5 (qs.map fun q=>q.2) n:=by
 unfold C9 F5;rw[List.filter_map,BA];rfl
theorem i9(qs:List PA2)(n:Str):E3 qs n=J7 (qs.map fun q=>q.2) n:=by
 unfold E3 J7;rw[List.filter_map,BA];rfl
theorem Dk{K:PySem.W.Frag}{l D:Addr}{kq:List PA2}{n:Str}{H1:Hp}{σ:St}{Q:St->Hp->Prop}(e:H1 l=some (.lst (I9 kq)))(p:∀q∈kq,F4 H1 q)(len:kq.length<=300)(hD:H1 D=none)(hσ:∃v0 v1,σ = [v0,v1,some (.str n)])(h:∀σ H2,Same H1 H2->H2 D=some (.lst ((F5 (kq.map fun q=>q.2) n).map V.str))->Q σ H2) :
  Ej (zCm K 2 (Qk (S7 0) (Qk (S7 1) zDv))) (Tv (tOp rEq (Ob 1) (Ob 2))) (w4 D (Ob 0)) (Itl K l) σ (upd H1 D (.lst [])) Q:=by
 refine K7 (asL (K:=K) (SqL.of e)) (fun i σ H3=>(∃v0 v1,σ = [v0,v1,some (.str n)])/\Same H1 H3/\H3 D=some (.lst ((F5 ((kq.take i).map fun q=>q.2) n).map V.str)))
  ⟨hσ,Same.new hD,A9⟩ (fun i σ H1 _ ⟨_,s1,_⟩=>s1.at l) ?_ ?_
 .rintro i σ H3 v N hx ⟨⟨v0,v1,rfl⟩,s3,e3⟩ hN';unfold I9 at hx;rw[AF]at hx;obtain⟨z,hz,rfl⟩:=AV.mp hx;have hs1:F5 ((kq.take (i+1)).map fun q=>q.2) n=F5 ((kq.take i).map fun q=>q.2) n++if z.2.2=n then [z.2.1]else []:=by
   unfold F5;rw[C8 hz,AL,EY,AL,BM,List.map_nil,EE,List.filter_nil];by_cases c:z.2.2=n
   .rw[AY (AG c),AY c];rfl
   .rw[AS fun y=>c (BG y),AS c];rfl
  have hl:((F5 ((kq.take i).map fun q=>q.2) n).map V.str).length<=300:=by
   unfold F5;rw[AA,AA];have h:=(CQ (l:=(kq.take i).map fun q=>q.2) (p:=fun k=>decide (k.2=n))).length_le;rw[AA,AR]at h;omega
  refine⟨z.1,ex1 rfl ⟨SqT.of (s3 _ _ (p z (AK hz))),rfl,_,ex1 rfl (B9 rfl rfl ?_)⟩⟩;refine ex1 rfl (ex1 rfl ⟨rfl,ex1 rfl (Z7 (fun c=>?_) (fun c=>?_))⟩)
  .have c:z.2.2=n:=by injection BG c
   refine ex1 rfl ⟨_,e3,by rw[sizeLine_eq];omega,hN' _ _ ⟨⟨_,_,rfl⟩,s3.upd hD,?_⟩⟩;rw[A9,hs1,AY c,AL];rfl
  .have c:¬z.2.2=n:=fun y=>c (AG (congrArg V.str y));exact hN' _ _ ⟨⟨_,_,rfl⟩,s3,by rw[hs1,AS c,CL];exact e3⟩
 .rintro σ H3 ⟨_,s3,e3⟩;have el:(I9 kq).length=kq.length:=by unfold I9;rw[AA]
  rw[el,BR]at e3;exact h σ H3 s3 e3
theorem Ew{ks:List (Str×Str)}{n y:Str}(h:y∈F5 ks n):∃k∈ks,k.1=y:=by
 unfold F5 at h;obtain⟨k,hk,e⟩:=AH.mp h;exact⟨k,(BW.mp hk).1,e⟩
theorem Dz(ks:List (Str×Str))(n:Str):(F5 ks n).length<=ks.length:=by
 unfold F5;rw[AA];exact CQ.length_le
theorem Ix{K:PySem.W.Frag}{l D:Addr}{kq:List PA2}{n:Str}{H1:Hp}{σ:St}{Q:St->Hp->Prop}(e:H1 l=some (.lst (I9 kq)))(p:∀q∈kq,F4 H1 q)(len:kq.length<=300)(hD:H1 D=none)(hσ:∃v0 v1,σ = [v0,v1,some (.str n)])(h:∀σ H2,Same H1 H2->H2 D=some (.lst ((J7 (kq.map fun q=>q.2) n).map V.str))->Q σ H2) :
  Ej (zCm K 2 (Qk (S7 0) (Qk (S7 1) zDv))) (Tv (tOp rEq (Ob 0) (Ob 2))) (w4 D (Ob 1)) (Itl K l) σ (upd H1 D (.lst [])) Q:=by
 refine K7 (asL (K:=K) (SqL.of e)) (fun i σ H3=>(∃v0 v1,σ = [v0,v1,some (.str n)])/\Same H1 H3/\H3 D=some (.lst ((J7 ((kq.take i).map fun q=>q.2) n).map V.str)))
  ⟨hσ,Same.new hD,A9⟩ (fun i σ H1 _ ⟨_,s1,_⟩=>s1.at l) ?_ ?_
 .rintro i σ H3 v N hx ⟨⟨v0,v1,rfl⟩,s3,e3⟩ hN';unfold I9 at hx;rw[AF]at hx;obtain⟨z,hz,rfl⟩:=AV.mp hx;have hs1:J7 ((kq.take (i+1)).map fun q=>q.2) n=J7 ((kq.take i).map fun q=>q.2) n++if z.2.1=n then [z.2.2]else []:=by
   unfold J7;rw[C8 hz,AL,EY,AL,BM,List.map_nil,EE,List.filter_nil];by_cases c:z.2.1=n
   .rw[AY (AG c),AY c];rfl
   .rw[AS fun y=>c (BG y),AS c];rfl
  have hl:((J7 ((kq.take i).map fun q=>q.2) n).map V.str).length<=300:=by
   unfold J7;rw[AA,AA];have h:=(CQ (l:=(kq.take i).map fun q=>q.2) (p:=fun k=>decide (k.1=n))).length_le;rw[AA,AR]at h;omega
  refine⟨z.1,ex1 rfl ⟨SqT.of (s3 _ _ (p z (AK hz))),rfl,_,ex1 rfl (B9 rfl rfl ?_)⟩⟩;refine ex1 rfl (ex1 rfl ⟨rfl,ex1 rfl (Z7 (fun c=>?_) (fun c=>?_))⟩)
  .have c:z.2.1=n:=by injection BG c
   refine ex1 rfl ⟨_,e3,by rw[sizeLine_eq];omega,hN' _ _ ⟨⟨_,_,rfl⟩,s3.upd hD,?_⟩⟩;rw[A9,hs1,AY c,AL];rfl
  .have c:¬z.2.1=n:=fun y=>c (AG (congrArg V.str y));exact hN' _ _ ⟨⟨_,_,rfl⟩,s3,by rw[hs1,AS c,CL];exact e3⟩
 .rintro σ H3 ⟨_,s3,e3⟩;have el:(I9 kq).length=kq.length:=by unfold I9;rw[AA]
  rw[el,BR]at e3;exact h σ H3 s3 e3
theorem Jy{ks:List (Str×Str)}{n y:Str}(h:y∈J7 ks n):∃k∈ks,k.2=y:=by
 unfold J7 at h;obtain⟨k,hk,e⟩:=AH.mp h;exact⟨k,(BW.mp hk).1,e⟩
theorem Jb(ks:List (Str×Str))(n:Str):(J7 ks n).length<=ks.length:=by
 unfold J7;rw[AA];exact CQ.length_le
structure WP(C:Addr)(H:Hp)(x b:Addr)(ss ns:List Str)(qs ps:List PA2):Prop where
 W:WebAt C H x ns qs
 pn:ns.Perm ss
 kq:(qs.map fun q=>q.2).Perm (ps.map fun q=>q.2)
 so:qs.Pairwise leP
 eb:H b=some (.lst (I9 ps))
 pb:∀q∈ps,F4 H q
 ok:StrkOk ss ps
section
variable{C x b:Addr}{H H':Hp}{ss ns:List Str}{qs ps:List PA2}
theorem WP.same(h:WP C H x b ss ns qs ps)(s:Same H H'):WP C H' x b ss ns qs ps:=⟨h.W.same s,h.pn,h.kq,h.so,s _ _ h.eb,E4 s h.pb,h.ok⟩
end
theorem Zc{q r:PA2}(h:leP q r):leS q.2.1 r.2.1:=fun z=>by
 have e:TS.pairLt (Ff r) (Ff q)=true:=TS.pairLt_iff.mpr (.inl z);rw[show TS.pairLt (Ff r) (Ff q)=false from h]at e;cases e
theorem Yn{q r:PA2}(h:leP q r)(e1:q.2.1=r.2.1):leS q.2.2 r.2.2:=fun z=>by
 have e:TS.pairLt (Ff r) (Ff q)=true:=TS.pairLt_iff.mpr (.inr ⟨by show r.2.1.cps.toList=q.2.1.cps.toList;rw[e1],z⟩);rw[show TS.pairLt (Ff r) (Ff q)=false from h]at e;cases e
theorem Gp{qs:List PA2}(h:qs.Pairwise leP)(n:Str):(C9 qs n).Pairwise leS:=by
 unfold C9;rw[CZ];exact(h.filter _).imp fun{a b} z=>Zc z
theorem Ms{qs:List PA2}(h:qs.Pairwise leP)(n:Str):(E3 qs n).Pairwise leS:=by
 unfold E3;rw[CZ];exact(FQ.mp (h.filter _)).imp fun{a b} ⟨ha,hb,z⟩=>Yn z ((BG (BW.mp ha).2).trans (BG (BW.mp hb).2).symm)
theorem Hm{qs ps:List PA2}{n:Str}{ts:List Str}(h:qs.Pairwise leP)(k:(qs.map fun q=>q.2).Perm (ps.map fun q=>q.2))(p:ts.Perm (F5 (ps.map fun q=>q.2) n))(w:ts.Pairwise leS):ts=C9 qs n :=
 m8 w (Gp h n) (p.trans (by rw[U3];exact((k.symm.filter _).map _)))
theorem Nm{qs ps:List PA2}{n:Str}{ts:List Str}(h:qs.Pairwise leP)(k:(qs.map fun q=>q.2).Perm (ps.map fun q=>q.2))(p:ts.Perm (J7 (ps.map fun q=>q.2) n))(w:ts.Pairwise leS):ts=E3 qs n :=
 m8 w (Ms h n) (p.trans (by rw[i9];exact((k.symm.filter _).map _)))
def Xr(C:Addr):Sp:=fun vs H Q _=>∃(x n a:Addr) (ss ns:List Str) (qs ps:List PA2),vs = [.ref x,.ref n,.ref a]/\WP C H x a ss ns qs ps/\H n=some (.lst (ss.map V.str))/\(∀x∈ss,F7 x=true)/\∀H',Same H H'->Q (.bl true) H'
section
variable{P:Program}{w:World}{K:PySem.W.Frag}{mg:Str->Option Value}{base:Heap}
theorem Bo:FnScope ["_law_web", "_law_names", "_law_pairs", "_law_name"] ["_law_web", "_law_names", "_law_pairs"] (B5 s_law_each):=fsc
set_option maxHeartbeats 4000000 in
theorem Ju(T:Tx K mg):FnOk P w K mg base CX0 4 T.bc.f T.bc.fd ["_law_web", "_law_names", "_law_pairs"] (Xr T.ac):=by
 have G_Web_strikers:=Ay (P:=P) (w:=w) (base:=base) T;have G_Web_struck:=i0 (P:=P) (w:=w) (base:=base) T;have G_law_same:FnOk P w K mg base CX0 3 T.af.f T.af.fd ["_law_found", "_law_due"] (O7 (O7 (O7 Y7))):=J5 T (J5 T (J5 T Om));have sc:=Bo;refine T.bc.F.ok Bo (fun vs H Q E h=>?_) (fun cdv A outer s H vs Q E hr h=>?_)
 .obtain⟨x,n,a,ss,ns,qs,ps,rfl,_⟩:=h;rfl
 .obtain⟨x,n,a,ss,ns,qs,ps,rfl,W,hn,hN,q⟩:=h;refine⟨_,(B1 (P4 PassesOwn.never rfl (piL K (pv 1)) (D6 (i:=3) sc.nd rfl (.inr rfl))
   (B1 (I0 (K4 (J0 (C4 T.af G_law_same (Rm hr) (A8 (Bv (pv 0) T.ai T.aw.m G_Web_strikers (Rm hr) T.aw.b .nil Bi (A8 (pv 3) B0)) (A8 (E2 (O5 K) T.ah F6 (A8 (O2 (N':=["_law_one", "_law_other", "_law_name"]) (cap:=[none,none,some 3]) (cl:=[("_law_name",_)]) (J6 ⟨⟨rfl,rfl,rfl,rfl⟩,trivial⟩ ⟨rfl,trivial⟩) rfl (piL K (pv 2)) (fun _ _ _ _=>by exact⟨(pgT K (n:=2) (C2 (pgC 0) (C2 (pgC 1) J2))),(K6 (C3 Z8 (pv 1) (pv 2) (D8 _))),(pv 0)⟩)) B0)) B0))))) (B4 (C0 b7)) D0)
   (B4 (I0 (K4 (J0 (C4 T.af G_law_same (Rm hr) (A8 (Bv (pv 0) T.ai T.ar.m G_Web_struck (Rm hr) T.ar.b .nil Bi (A8 (pv 3) B0)) (A8 (E2 (O5 K) T.ah F6 (A8 (O2 (N':=["_law_one", "_law_other", "_law_name"]) (cap:=[none,none,some 3]) (cl:=[("_law_name",_)]) (J6 ⟨⟨rfl,rfl,rfl,rfl⟩,trivial⟩ ⟨rfl,trivial⟩) rfl (piL K (pv 2)) (fun _ _ _ _=>by exact⟨(pgT K (n:=2) (C2 (pgC 0) (C2 (pgC 1) J2))),(K6 (C3 Z8 (pv 0) (pv 2) (D8 _))),(pv 1)⟩)) B0)) B0))))) (B4 (C0 b7)) D0))))
   (B4 (C0 b7))),?_⟩
  obtain⟨ok,dx,a1,b,c,d,kc,kd,e2,_,_,pin,_⟩:=id W.W;have okn:∀y∈ns,PySem.PyData.strOk y=true:=fun y hy=>E5 (hN y (W.pn.mem_iff.mp hy));have lns:=ok.len;have okk:∀k∈qs.map fun q=>q.2,PySem.PyData.strOk k.1=true/\PySem.PyData.strOk k.2=true:=fun k hk=>by
   obtain⟨z,hz,rfl⟩:=AH.mp hk;exact⟨okn _ (ok.mem z hz).1,okn _ (ok.mem z hz).2⟩
  have lenq:(qs.map fun q=>q.2).length<=300:=by rw[AA];exact ok.lenq
  refine B7 fun N2 hN2=>?_;have h0:=hn;have s0:Same H H:=fun _ _ e=>e;refine ex1 rfl ⟨n,rfl,⟨_,SqL.of h0⟩,Y3 (asL (SqL.of h0)) (fun i σ H1=>(∃v4,σ = [some (.ref x),some (.ref n),some (.ref a),v4])/\Same H H1) ?_ ?_ ?_ ?_⟩
  .exact⟨⟨_,rfl⟩,fun b o e=>e⟩
  .rintro i σ H1 hi ⟨_,s1⟩;exact s1.at n
  .rintro i σ H1 v hv ⟨⟨v4,rfl⟩,s1⟩ D1 hD1 _;rw[AF]at hv;obtain⟨y,hy,rfl⟩:=AV.mp hv;have hnn:y∈ns:=W.pn.mem_iff.mpr (AK hy);have s01:=s0.trans s1;refine Uq fun M1 hM1=>?_;refine ex1 rfl ⟨x,dx,ex1 rfl ⟨s01 _ _ e2,rfl,ex1 rfl ⟨x,y,ns,qs,rfl,(W.same s01).W,hnn,fun l5 hl5=>?_⟩⟩⟩;have u1:=Same.new (o:=.lst ((C9 qs y).map V.str)) hl5;have f1:(upd H1 l5 (.lst ((C9 qs y).map V.str))) l5=some (.lst ((C9 qs y).map V.str)):=A9;generalize upd H1 l5 (.lst ((C9 qs y).map V.str))=H2 at u1 f1⊢;have s02:=s01.trans u1;refine ex1 rfl ⟨a,rfl,⟨_,SqL.of (s02 _ _ W.eb)⟩,fun D hD=>Dk (s02 _ _ W.eb) (E4 s02 W.pb) W.ok.len hD ⟨_,_,rfl⟩ fun σ H3 s3 e3=>?_⟩;refine⟨D,_,rfl,SqL.of e3,fun l6 ts hl6 pt wt=>?_⟩;rw[Hm W.so W.kq pt wt];have u4:=Same.new (o:=.lst ((C9 qs y).map V.str)) hl6;obtain⟨xx,yy,b1,b2,b3,b4,b5⟩:=Ji (S:=Y7) (u4 _ _ (s3 _ _ f1)) A9 (fun z hz=>by rw[U3]at hz;obtain⟨k,hk,rfl⟩:=Ew hz;exact(okk k hk).1) (by rw[U3];exact Nat.le_trans (Dz ..) lenq);refine .inr ⟨l5,l6,true,xx,yy,rfl,b1,b2,b3,b4,b5,fun H4 s4=>⟨_,rfl,X4 ?_⟩⟩;have s14:=((u1.trans s3).trans u4).trans s4;have s04:=s01.trans s14;refine hM1 _ _ ?_;refine ex1 rfl ⟨x,dx,ex1 rfl ⟨s04 _ _ e2,rfl,ex1 rfl ⟨x,y,ns,qs,rfl,(W.same s04).W,hnn,fun l7 hl7=>?_⟩⟩⟩;have u2:=Same.new (o:=.lst ((E3 qs y).map V.str)) hl7;have f2:(upd H4 l7 (.lst ((E3 qs y).map V.str))) l7=some (.lst ((E3 qs y).map V.str)):=A9;generalize upd H4 l7 (.lst ((E3 qs y).map V.str))=H5 at u2 f2⊢;have s05:=s04.trans u2;refine ex1 rfl ⟨a,rfl,⟨_,SqL.of (s05 _ _ W.eb)⟩,fun D hD=>Ix (s05 _ _ W.eb) (E4 s05 W.pb) W.ok.len hD ⟨_,_,rfl⟩ fun σ H6 s6 e6=>?_⟩;refine⟨D,_,rfl,SqL.of e6,fun l8 ts hl8 pt wt=>?_⟩;rw[Nm W.so W.kq pt wt];have u7:=Same.new (o:=.lst ((E3 qs y).map V.str)) hl8;obtain⟨xx,yy,b1,b2,b3,b4,b5⟩:=Ji (S:=Y7) (u7 _ _ (s6 _ _ f2)) A9 (fun z hz=>by rw[i9]at hz;obtain⟨k,hk,rfl⟩:=Jy hz;exact(okk k hk).2) (by rw[i9];exact Nat.le_trans (Jb ..) lenq);refine .inr ⟨l7,l8,true,xx,yy,rfl,b1,b2,b3,b4,b5,fun H8 s8=>⟨_,rfl,X4 ?_⟩⟩;exact hD1 _ _ ⟨⟨_,rfl⟩,s1.trans (s14.trans (((u2.trans s6).trans u7).trans s8))⟩
  .rintro σ H1 ⟨⟨v4,rfl⟩,s1⟩;exact hN2 _ _ (q _ (s0.trans s1))
end
def pdS(q:SAr):PyData:=.tuple [.str q.2.1,.str q.2.2.1,sd q.2.2.2.2]
def pdT(q:STr):PyData:=.tuple [.str q.2.1,.str q.2.2.1,.str q.2.2.2]
theorem zBl{sa sa':List SAr}(d:sa'.map dS=sa.map dS):sa'.map pdS=sa.map pdS:=by
 have e:∀l:List SAr,l.map pdS =(l.map dS).map fun z:Str×Str×List Str=>PyData.tuple [.str z.1,.str z.2.1,sd z.2.2]:=fun l=>by rw[BA];rfl
 rw[e,e,d]
theorem zDp{q:SAr}(h1:F7 q.2.1=true)(h2:PySem.PyData.strOk q.2.2.1=true)(h3:∀x∈q.2.2.2.2,F7 x=true):(pdS q).canLay0=true/\(pdS q).depth<=20:=by
 have h:=Sk h3;have d1:(sd q.2.2.2.2).depth<=3:=by
  unfold sd;rw[PyData.depth];have:=i8 q.2.2.2.2;omega
 unfold pdS;refine⟨?_,?_⟩
 .simp[PyData.canLay0,PyData.canLayAll0,E5 h1,h2,h.1]
 .simp only[PyData.depth,PyData.depthAll];omega
theorem zCv{q:STr}(h1:F7 q.2.1=true)(h2:F7 q.2.2.1=true)(h3:F7 q.2.2.2=true):(pdT q).canLay0=true/\(pdT q).depth<=20:=by
 unfold pdT;refine⟨?_,by simp[PyData.depth,PyData.depthAll]⟩;simp[PyData.canLay0,PyData.canLayAll0,E5 h1,E5 h2,E5 h3]
theorem zFe{K:PySem.W.Frag}{H:Hp}{q:SAr}(h:Ql H (rS q))(hs:H q.2.2.2.1=some (.lst (q.2.2.2.2.map V.str))):Rp K H (pdS q) (.ref q.1):=by
 unfold pdS;have h3:=Qc (K:=K) (SqL.of hs);simp only[Rp,Rps];exact⟨q.1,_,rfl,SqT.of h,_,_,rfl,rfl,_,_,rfl,rfl,_,_,rfl,h3,rfl⟩
theorem zFv{K:PySem.W.Frag}{H:Hp}{q:STr}(h:Ql H (rT q)):Rp K H (pdT q) (.ref q.1):=by
 unfold pdT;simp only[Rp,Rps];exact⟨q.1,_,rfl,SqT.of h,_,_,rfl,rfl,_,_,rfl,rfl,_,_,rfl,rfl,rfl⟩
def pdW(pe:List PEr)(sa:List SAr)(st:List STr)(ba:List PA2):PyData:=.list [.list (pe.map pdP),.list (sa.map pdS),.list (st.map pdT),.list (ba.map fun q=>pd q.2)]
theorem zEt{K:PySem.W.Frag}{H:Hp}{r a b c d:Addr}{pe:List PEr}{sa:List SAr}{st:List STr}{ba:List PA2}(er:H r=some (.lst [.ref a,.ref b,.ref c,.ref d]))(W:WRows H a b c d pe sa st ba):Rp K H (pdW pe sa st ba) (.ref r):=by
 have h1:=Vm (K:=K) W.hp;have h2:Rp K H (.list (sa.map pdS)) (.ref b):=by
  have e:=W.hs.at_;rw[BA]at e;exact Jr (f:=fun q:SAr=>q.1) e fun q hq=>zFe (W.hs.row (rS q) (AH.mpr ⟨q,hq,rfl⟩)) (W.sp q hq)
 have h3:Rp K H (.list (st.map pdT)) (.ref c):=by
  have e:=W.ht.at_;rw[BA]at e;exact Jr (f:=fun q:STr=>q.1) e fun q hq=>zFv (W.ht.row (rT q) (AH.mpr ⟨q,hq,rfl⟩))
 have h4:=Ee (K:=K) W.hb W.pb;unfold pdW;rw[Rp];refine⟨r,_,rfl,SqL.of er,?_⟩;simp only[Rps];exact⟨_,_,rfl,h1,_,_,rfl,h2,_,_,rfl,h3,_,_,rfl,h4,rfl⟩
theorem zFj{pe:List PEr}{sa:List SAr}{st:List STr}{ba:List PA2}(ok:WOk pe sa st ba):Pl (pdW pe sa st ba):=by
 have nm:=ok.nm;have p1:Pl (.list (pe.map pdP)):=Wf fun q hq=>Uy (ok.pm q hq).1;have nP':∀x∈nP pe,F7 x=true:=fun x hx=>by
  obtain⟨q,hq,rfl⟩:=AH.mp hx;exact(ok.pm q hq).1
 have p2:=fun q (hq:q∈sa)=>zDp (nm _ (BN _ (AH.mpr ⟨q,hq,rfl⟩))) (by rcases ok.kd q hq with e | e<;>rw[e]<;>decide +kernel) fun x hx=>nP' x ((ok.sk q hq).1 x hx);have p3:=fun q (hq:q∈st)=>zCv (nm _ (BJ _ (AH.mpr ⟨q,hq,rfl⟩))) (nm _ (BN _ (ok.tg q hq).1)) (nm _ (AI.mpr (ok.tg q hq).2));have p4:=fun q (hq:q∈ba)=>(⟨Kb (k:=q.2) (E5 (nm _ (BN _ (ok.bk q hq).1))) (E5 (nm _ (BN _ (ok.bk q hq).2.1))),by unfold pd;simp[PyData.depth,PyData.depthAll]⟩:(pd q.2).canLay0=true/\(pd q.2).depth<=20);unfold pdW;have a1:=l0 fun q (hq:q∈pe)=>(Uy (ok.pm q hq).1).1;have a2:=l0 fun q hq=>(p2 q hq).1;have a3:=l0 fun q hq=>(p3 q hq).1;have a4:=l0 fun q hq=>(p4 q hq).1;have b1:=Q5 fun q (hq:q∈pe)=>(Uy (ok.pm q hq).1).2;have b2:=Q5 fun q hq=>(p2 q hq).2;have b3:=Q5 fun q hq=>(p3 q hq).2;have b4:=Q5 fun q hq=>(p4 q hq).2;refine⟨?_,?_⟩
 .simp only[PyData.canLay0,PyData.canLayAll0,a1,a2,a3,a4,Bool.and_true]
 .simp only[PyData.depth,PyData.depthAll];omega
theorem Wp{K:PySem.W.Frag}{H G:Hp}{u p:Addr}{xs:List V}{ls:List (Pos×Str)}(h:SqL K H u xs)(t:y6 H p ls)(k:Sm [p] H G):SqL K G u xs:=by
 obtain⟨ps,e,_⟩:=t;have kk:∀{o:HO},H u=some o->o≠ .tbl ps->G u=some o:=fun hz n=>k _ _ hz fun y=>by rw[AC.mp y,e]at hz;cases hz;exact n rfl
 rcases h with(h | ⟨o,h⟩) | h
 .exact .inl (.inl (kk h (by intro z;cases z)))
 .exact .inl (.inr ⟨o,kk h (by intro z;cases z)⟩)
 .exact .inr h
theorem Vw{sa sa':List SAr}(d:sa'.map dS=sa.map dS){q:SAr}(h:q∈sa'):∃q0∈sa,dS q0=dS q:=by
 have:dS q∈sa'.map dS:=AH.mpr ⟨q,h,rfl⟩;rw[d]at this;exact AH.mp this
theorem WOk.of_dS{pe:List PEr}{sa sa':List SAr}{st:List STr}{ba:List PA2}(h:WOk pe sa st ba)(d:sa'.map dS=sa.map dS):WOk pe sa' st ba:=by
 have e:nS sa'=nS sa:=by
  have:=congrArg (List.map fun q:Str×Str×List Str=>q.1) d;rw[BA,BA]at this;exact this
 have l:sa'.length=sa.length:=by
  have:=congrArg List.length d
  rwa [AA,AA]at this
 refine⟨by rw[l];exact h.len,h.pn,h.pm,by rw[e];exact h.sn,by rw[e];exact h.nm,fun q hq=>?_,fun q hq=>?_,by rw[e];exact h.tg,h.bn,by rw[e];exact h.bk⟩
 .obtain⟨q0,h0,e0⟩:=Vw d hq;have:=h.kd q0 h0;have e1:q0.2.2.1=q.2.2.1:=congrArg (fun z:Str×Str×List Str=>z.2.1) e0
  rwa [e1]at this
 .obtain⟨q0,h0,e0⟩:=Vw d hq;have:=h.sk q0 h0;have e1:q0.2.2.2.2=q.2.2.2.2:=congrArg (fun z:Str×Str×List Str=>z.2.2) e0
  rwa [e1]at this
theorem Wd(pe:List PEr)(sa:List SAr)(m:Str):((Eo sa m).map fun q=>Mh pe q.2.2.1 q.2.2.2.2) =((sa.map dS).find? fun d=>decide (d.1=m)).map fun d=>Mh pe d.2.1 d.2.2:=by
 unfold Eo;rw[List.find?_map];have e:((fun d:Str×Str×List Str=>decide (d.1=m))∘dS)=fun q:SAr=>decide (q.2.1=m):=rfl;rw[e];cases sa.find? fun q:SAr=>decide (q.2.1=m)<;>rfl
theorem Zv{pe:List PEr}{sa sa':List SAr}{st:List STr}(d:sa'.map dS=sa.map dS)(n:Str):Y9 pe sa' st n=Y9 pe sa st n:=by
 unfold Y9;rw[Wd,Wd,d]
theorem Qf{pe:List PEr}{sa sa':List SAr}{st:List STr}(d:sa'.map dS=sa.map dS):live pe sa' st=live pe sa st:=by
 unfold live;simp only[Zv d]
section
variable{P:Program}{w:World}{K:PySem.W.Frag}{mg:Str->Option Value}{base:Heap}
theorem Vp:FnScope ["_law_script", "_law_k", "_law_left_here", "_law_rows", "_law_weave", "_law_names", "_law_pairs", "_law_turn", "_law_web"] ["_law_script"] (B5 s_law):=fsc
def Lf(K:PySem.W.Frag)(pt:Addr):Sp:=fun vs H Q _=>∃(u:Addr) (xs:List Int),vs = [.ref u]/\SqL K H u (xs.map V.int)/\xs.length<=63/\y6 H pt Y1/\∀H',Q (.bl true) H'
set_option maxHeartbeats 8000000 in
theorem zAf(T:Tx K mg)(hB:base.BuiltinsAt mg T.ag){f:Addr}{fd:FuncData}(F:Fun K "law" "law" s_law f fd):FnOk P w K mg base CX0 9 f fd ["_law_script"] (Lf K T.ag):=by
 have G_law_left:=Iw (P:=P) (w:=w) (base:=base) T;have G_law_weave_rows:=j0 (P:=P) (w:=w) (base:=base) T;have G_woven:=Tp (P:=P) (w:=w) (base:=base) T;have G_law_woven:=Gu (P:=P) (w:=w) (base:=base) T;have G_law_each:=Ju (P:=P) (w:=w) (base:=base) T;have G_law_same:FnOk P w K mg base CX0 3 T.af.f T.af.fd ["_law_found", "_law_due"] (O7 (O7 (O7 Y7))):=J5 T (J5 T (J5 T Om));have G_Web_all_names:=y7 (P:=P) (w:=w) (base:=base) T;have G_Web_all_strikes:=g9 (P:=P) (w:=w) (base:=base) T;have G_Web_struck:=i0 (P:=P) (w:=w) (base:=base) T;have G_Weave___init__:=Ev (P:=P) (w:=w) T hB;have sc:=Vp;refine F.ok Vp (fun vs H Q E h=>?_) (fun cdv A outer s H vs Q E hr h=>?_)
 .obtain⟨u,xs,rfl,_⟩:=h;rfl
 .obtain⟨u,xs,rfl,hS,hlen,hT,q⟩:=h;refine⟨_,(B1 (P4 PassesOwn.never rfl (Wy T.aG (A8 (F8 U6 (E2 (Rw rfl) T.bN Zy (A8 B3 (A8 (E2 (O8 K) T.am K9 (A8 (pv 0) B0)) B0))) B3) B0)) (D6 (i:=1) sc.nd rfl (.inl rfl))
   (B1 (C5 (i:=2) sc.nd rfl (.inl rfl) (C4 T.a9 G_law_left (Rm hr) (A8 (pv 0) (A8 (pv 1) B0))))
   (B1 (Hh (F8 U6 (C6 (ixL K) (pv 2) B3 (fun _ _=>rfl)) B3) (Sa (pv 2) B3 Er))
   (B1 (C5 (i:=3) sc.nd rfl (.inl rfl) (C4 T.aD G_law_weave_rows (Rm hr) (A8 (pv 2) (A8 B3 B0))))
   (B1 (C5 (i:=4) sc.nd rfl (.inl rfl) (Oe T.bI G_Weave___init__ (Rm hr) rfl T.bH T.bt .nil Bi (A8 (C6 (ixL K) (pv 3) B3 (fun _ _=>rfl)) (A8 (C6 (ixL K) (pv 3) B3 (fun _ _=>rfl)) (A8 (C6 (ixL K) (pv 3) B3 (fun _ _=>rfl)) (A8 (C6 (ixL K) (pv 3) B3 (fun _ _=>rfl)) B0))))))
   (B1 (Hh (C4 T.a2 G_law_woven (Rm hr) (A8 (pv 3) B0)) (pgT K (n:=2) (C2 (D6 (i:=5) sc.nd rfl (.inl rfl)) (C2 (D6 (i:=6) sc.nd rfl (.inl rfl)) J2))))
   (B1 (P4 PassesOwn.never rfl (Wy T.aG (A8 B3 B0)) (D6 (i:=7) sc.nd rfl (.inl rfl))
   (B1 (C5 (i:=8) sc.nd rfl (.inr rfl) (C4 T.bm G_woven (Rm hr) (A8 (pv 4) B0)))
   (B1 (I0 (PW.pt (y4 (K4 (J0 (E2 (Ve K) T.ab C1 (A8 (pv 8) (A8 (Xt T.bD) B0))))) (S4 (K4 (J0 (C4 T.af G_law_same (Rm hr) (A8 (Kd (pv 8) T.ai T.av.m G_Web_all_names (Rm hr) T.av.b .nil Bi) (A8 (pv 5) B0)))))))) (B4 (C0 b7)) D0)
   (B1 (I0 (K4 (J0 (C4 T.af G_law_same (Rm hr) (A8 (Kd (pv 8) T.ai T.ao.m G_Web_all_strikes (Rm hr) T.ao.b .nil Bi) (A8 (pv 6) B0))))) (B4 (C0 b7)) D0)
   (B4 (I0 (PW.pt (y4 (K4 (J0 (C4 T.bc G_law_each (Rm hr) (A8 (pv 8) (A8 (pv 5) (A8 (pv 6) B0)))))) (S4 (K4 (J0 (E2 (Kv K) T.bp Kh (A8 (O2 (N':=["_law_row", "_law_web"]) (cap:=[none,some 8]) (cl:=[("_law_web",_)]) (J6 ⟨⟨rfl,rfl,rfl,rfl⟩,trivial⟩ ⟨rfl,trivial⟩) rfl (piL K (C6 (ixL K) (pv 3) B3 (fun _ _=>rfl))) (fun _ _ _ _=>by exact⟨(pgC 0),F9,(E8 (Tb K hr.units) (Bv (pv 1) T.ai T.ar.m G_Web_struck (Rm hr) T.ar.b .nil Bi (A8 (C6 (ixT K) (pv 0) B3 (fun _ _=>rfl)) B0)) (E9 B0) (D8 _))⟩)) B0))))))) (B4 (C0 b7)) D0))))))
   (B4 (I0 (C3 (Wm K hr.units) (E9 (A8 (peF K (pv 4)) (A8 (peF K (pv 4)) (A8 (peF K (pv 4)) (A8 (peF K (pv 4)) B0))))) (pv 3) (D8 _)) (B4 (C0 b7)) D0)))))))))
   (B4 (C0 b7))),?_⟩
  refine B7 fun N0 hN0=>?_;refine⟨_,rfl,u,_,rfl,.inl hS,_,_,rfl,?_⟩;have hz:∀l:Int,0<=l->∃z:Nat,(if l <(10:Int)then l else 10)+1 =(z:Int)/\z<=11:=fun l h0=>by
   by_cases h1:l <(10:Int)
   .rw[AY h1];exact⟨l.toNat+1,by omega,by omega⟩
   .rw[AS h1];exact⟨11,by decide,by decide⟩
  obtain⟨z,ez,hz⟩:=hz ((xs.map V.int).length:Int) (by omega);refine B9 rfl rfl (ex1 (a:=(z:Int)) (congrArg (fun t=>[V.int t]) ez) ⟨by omega,by omega,?_⟩);rw[DK];refine Q6 (fun i σ G=>(∃v1 v2 v3 v4 v5 v6 v7 v8,σ = [some (.ref u),v1,v2,v3,v4,v5,v6,v7,v8])/\Sm [T.ag] H G/\y6 G T.ag Y1) ?_ ?_ ?_
  .exact⟨⟨_,_,_,_,_,_,_,_,rfl⟩,Sm.refl _ _,hT⟩
  .rintro i σ F0 hi ⟨⟨v1,v2,v3,v4,v5,v6,v7,v8,rfl⟩,kF,TF⟩ D1 hD1 _;rw[Int.zero_add];refine Uq fun M1 hM1=>?_;refine ex1 rfl (ex1 rfl ⟨u,xs,i,rfl,Wp hS hT kF,by omega,fun p H1 hp s1 L1=>?_⟩);refine hM1 _ _ (B7 fun M2 hM2=>?_);obtain⟨la0,lb0,e1,_⟩:=L1;refine ex1 rfl ⟨p,_,B9 rfl rfl ⟨SqL.of e1,rfl,_,_,rfl,rfl,ex1 rfl ⟨p,_,_,1,rfl,rfl,e1,rfl,?_⟩⟩⟩;have s2:Same F0 (upd H1 p (.lst (List.set [V.int la0,V.int lb0,V.int 0] 1 (V.int (lb0+400))))):=s1.upd hp;have L2:LeftAt (upd H1 p (.lst (List.set [V.int la0,V.int lb0,V.int 0] 1 (V.int (lb0+400))))) p 0:=⟨la0,lb0+400,A9,Int.le_refl _⟩;have hp0:F0 p=none:=hp;generalize upd H1 p (.lst (List.set [V.int la0,V.int lb0,V.int 0] 1 (V.int (lb0+400))))=H2 at s2 L2⊢;refine hM2 _ _ (B7 fun M3 hM3=>?_);refine ex1 rfl ⟨p,0,rfl,L2,by omega,fun r a b g d pe sa st ba c' H3 k3 er W3 ok A3 sz1 sz2 L3 hc3=>?_⟩;have s3:Same F0 H3:=fun b o e=>k3 b o (s2 b o e) (by simpa using B2 e hp0);clear L3 hc3 k3 s2 L2 e1 s1 hp;refine hM3 _ _ (B7 fun M4 hM4=>?_);refine ex1 rfl ⟨r,_,B9 rfl rfl ⟨SqL.of er,B8 (j:=0) rfl,ex1 rfl ⟨r,_,B9 rfl rfl ⟨SqL.of er,B8 (j:=1) rfl,ex1 rfl ⟨r,_,B9 rfl rfl ⟨SqL.of er,B8 (j:=2) rfl,ex1 rfl ⟨r,_,B9 rfl rfl ⟨SqL.of er,B8 (j:=3) rfl,?_⟩⟩⟩⟩⟩⟩⟩⟩;intro x dx nx ndx nex;have s0:Same H3 (upd (upd H3 dx (.own x)) x (.ins T.aa dx [])):=fun b o e=>by
    rw[B6 (B2 e nx),B6 (B2 e ndx)];exact e
   have TG:=K8 TF s3;refine⟨x,dx,a,b,g,d,pe,sa,st,ba,rfl,A9,W3.same s0,ok,K8 TG s0,fun sa2 H6 k6 T6 d6 W6=>⟨rfl,?_⟩⟩;have k46:∀z o,H3 z=some o->z≠T.ag->H6 z=some o:=fun z o e n=>k6 z o (s0 _ _ e) fun y=>by
    rcases AX.mp y with y | y
    .rw[y,nx]at e;cases e
    .exact n (AC.mp y)
   have S6:Sm [T.ag] F0 H6:=fun z o e n=>k46 z o (s3 _ _ e) fun y=>n (AC.mpr y);have V6:=W3.keep TG k46;have er6:H6 r=some (.lst [.ref a,.ref b,.ref g,.ref d]):=k46 _ _ er fun y=>by
    obtain⟨ps,e',_⟩:=TG;rw[y,e']at er;cases er
   have W6:=W6.at_;have ok6:=ok.of_dS d6;clear k46 k6 s0 TG W3 er s3 nx ndx nex;have nn:∀q∈pe,0<=q.2.2:=fun q hq=>(ok.pm q hq).2.1;obtain⟨l1,l2,l3,l4⟩:=ok.len;have l2':=ok6.len.2.1;refine hM4 _ _ (B7 fun M5 hM5=>?_);refine ex1 rfl ⟨r,a,b,g,d,pe,sa,st,ba,rfl,er6,V6,ok,sz1,sz2,fun t n m ns ps H8 s8 et en pn sn em pm Os so mm=>?_⟩;refine⟨t,ex1 rfl ⟨SqT.of et,rfl,_,ex1 rfl (B9 rfl rfl ?_)⟩⟩;have W8:=W6.same s8;have V8:=V6.same s8;have er8:=s8 _ _ er6;have T8:=K8 T6 s8;have S8:Sm [T.ag] F0 H8:=S6.trans s8.sm;clear s8 et W6 V6 er6 T6 S6;have eS:=zDi d6;have eN:Bg pe sa2 st=Bg pe sa st:=by unfold Bg;rw[Qf d6,eS]
   have eP:∀k,Xq pe sa2 st ba k↔Xq pe sa st ba k:=fun k=>by unfold Xq Vj Hit;rw[Qf d6,eN,eS]
   have kN:=Qs ok;have okn:∀y∈ns,F7 y=true:=fun y hy=>kN.1 y (pn.mem_iff.mp hy);have lns:ns.length<=100:=by rw[pn.length_eq];exact kN.2.2
   have okk:∀k∈(ps.map fun q=>q.2),PySem.PyData.strOk k.1=true/\PySem.PyData.strOk k.2=true:=fun k hk=>by
    obtain⟨z,hz,rfl⟩:=AH.mp hk;exact⟨E5 (okn _ (Os.nm z hz).1),E5 (okn _ (Os.nm z hz).2)⟩
   have lk:(ps.map fun q=>q.2).length<=300:=by rw[AA];exact Os.len
   refine hM5 _ _ (B7 fun M6 hM6=>?_);refine ex1 rfl ⟨by decide,by decide,?_⟩;refine Q6 (n:=2) (fun i' σ G=>(∃v7 v8,σ = [some (.ref u),some (.int (i:Int)),some (.ref p),some (.ref r),some (.ref x),some (.ref n),some (.ref m),v7,v8])/\Same H8 G) ?_ ?_ ?_
   .exact⟨⟨_,_,rfl⟩,fun _ _ e=>e⟩
   .rintro i' σ G hi' ⟨⟨v7,v8,rfl⟩,sG⟩ D2 hD2 _;refine Uq fun A1 hA1=>?_;refine ex1 rfl ⟨x,pe,sa2,st,ba,rfl,W8.same sG,ok6,by have:=congrArg List.length d6;rw[AA,AA]at this;omega,sz2,fun xw ns2 qs G1 s1 hxw Ww pn2 mq=>?_⟩;refine hA1 _ _ (B7 fun A2 hA2=>?_);obtain⟨okw,dw,wa,wb,wc,wd,kc,kd,e2,_,_,pin,_⟩:=id Ww;have en2:ns2=ns:=m8 okw.srt sn (pn2.trans (by rw[eN];exact pn.symm));subst en2;have pmq:(qs.map fun q=>q.2).Perm (ps.map fun q=>q.2):=(List.perm_ext_iff_of_nodup okw.ndq Os.nd).mpr fun k=>by rw[mq,mm,eP]
    have ek:(qs.map fun q=>q.2)=ps.map fun q=>q.2:=Xn okw.srq so pmq;have s01:=sG.trans s1;refine ex1 rfl ⟨.ref xw,T.ac,_,true,rfl,.ins e2 T.ai T.bi.ha T.bi.hn T.bi.htk T.bi.hm,T.bi.one,⟨_,rfl,X4 ?_⟩⟩;refine ex1 rfl ⟨xw,dw,ex1 rfl ⟨e2,rfl,xw,ns2,qs,rfl,Ww,fun l hl=>?_⟩⟩;have u2:=Same.new (o:=.lst (ns2.map V.str)) hl;refine ex1 rfl ?_;obtain⟨xx,yy,b1,b2,b3,b4,b5⟩:=Ji (S:=Y7) (A9 (H:=G1) (a:=l) (o:=.lst (ns2.map V.str))) (u2 _ _ (s01 _ _ en)) (fun y hy=>E5 (okn y hy)) (by omega);refine .inr ⟨l,n,true,xx,yy,rfl,b1,b2,b3,b4,b5,fun G2 s2=>⟨_,rfl,X4 (hA2 _ _ (B7 fun A3 hA3=>?_))⟩⟩;have s12:=u2.trans s2;clear b1 b2 b3 b4 b5 s2;refine ex1 rfl ⟨xw,dw,ex1 rfl ⟨s12 _ _ e2,rfl,xw,ns2,qs,rfl,Ww.same s12,fun l3 hl3=>?_⟩⟩;have u3:=Same.new (o:=.lst (I9 qs)) hl3;refine ex1 rfl ?_;have f3:WL (upd G2 l3 (.lst (I9 qs))) l3 (ps.map fun q=>q.2):=⟨qs,A9,E4 (s12.trans u3) pin,ek⟩;have f4:WL (upd G2 l3 (.lst (I9 qs))) m (ps.map fun q=>q.2):=⟨ps,(s12.trans u3) _ _ (s01 _ _ em),E4 (s12.trans u3) (E4 s01 pm),rfl⟩;obtain⟨xx,yy,b1,b2,b3,b4,b5⟩:=Xd (S:=Y7) f3 f4 okk lk;refine .inr ⟨l3,m,true,xx,yy,rfl,b1,b2,b3,b4,b5,fun G4 s4=>⟨_,rfl,X4 (hA3 _ _ ?_)⟩⟩;have s14:=(s12.trans u3).trans s4;clear b1 b2 b3 b4 b5 s4 f3 f4 u3 hl3;have W4:=Ww.same s14;have s04:=s01.trans s14;refine ex1 rfl (ex1 rfl (ex1 rfl ⟨xw,n,m,ns2,ns2,qs,ps,rfl,⟨W4,.refl _,pmq,okw.srq,s04 _ _ em,E4 s04 pm,Os⟩,s04 _ _ en,okn,fun G5 s5=>⟨_,rfl,X4 ?_⟩⟩));have s05:=s04.trans s5;have W5:=W4.same s5;have V5:=V8.same s05;have as1:=asL (K:=K) (SqL.of V5.hs.at_);rw[BA]at as1;refine ex1 rfl ⟨r,_,B9 rfl rfl ⟨SqL.of (s05 _ _ er8),B8 (j:=1) rfl,b,rfl,⟨_,SqL.of V5.hs.at_⟩,fun D hD=>?_⟩⟩;refine Fs (α:=SAr) (r:=fun q:SAr=>V.ref q.1) (fun _=>V.bl true) as1 (fun _=>true) (by omega) hD (fun y my F sF M hM=>hM F fun b o e=>e) (fun y my F sF M hM=>?_) fun σ' G6 s6 e6=>?_
    .have my':y.2.1∈nS sa:=AH.mpr ⟨y,my,rfl⟩;refine ex1 rfl ⟨xw,dw,ex1 rfl ⟨sF _ _ (s5 _ _ (s14 _ _ e2)),rfl,ex1 rfl ⟨y.1,_,B9 rfl rfl ⟨SqT.of (sF _ _ (V5.hs.row (rS y) (AH.mpr ⟨y,my,rfl⟩))),B8 (j:=0) rfl,xw,y.2.1,ns2,qs,rfl,W5.same sF,pn.mem_iff.mpr (BN _ my'),fun l hl=>?_⟩⟩⟩⟩;have u7:=Same.new (o:=.lst ((E3 qs y.2.1).map V.str)) hl;have e0:E3 qs y.2.1 = []:=by
      unfold E3;rw[List.filter_eq_nil_iff.mpr]
      .rfl
      .intro q hq z;have h1:=((mq q.2).mp (AH.mpr ⟨q,hq,rfl⟩)).1;have e:q.2.1=y.2.1:=BG z;rw[e]at h1;exact(BQ.mp ok.sn).2.2 _ my' _ ((X1 pe sa2 st).subset h1) rfl
     refine⟨BT _,fun z hz=>?_⟩;have uz:=Same.new (o:=.lst []) hz;refine Xg (d:=.list []) (Mb (SqL.of (uz _ _ (by rw[A9,e0];rfl)))) (Mb (SqL.of A9)) Ox (hM _ (u7.trans uz))
    .refine⟨D,(sa.map fun _=>true),rfl,SqL.of (by rw[e6,EN.mpr fun _ _=>rfl,BA];rfl),?_⟩;have ea:(sa.map fun _=>true).all id=true:=by rw[List.all_map];exact DR.mpr fun _ _=>rfl
     rw[ea];refine⟨_,rfl,X4 (hD2 _ _ ⟨⟨_,_,rfl⟩,s05.trans s6⟩)⟩
   .rintro σ G ⟨⟨v7,v8,rfl⟩,sG⟩;refine hM6 _ _ ?_;have W9:=W8.same sG;obtain⟨dx9,xa,xb,xc,xd,e9,R9⟩:=W9;refine ex1 rfl ⟨x,_,_,_,_,rfl,e9,T.ae,T.aW,rfl,ex1 rfl ⟨x,_,_,_,_,rfl,e9,T.ae,T.ak,rfl,ex1 rfl ⟨x,_,_,_,_,rfl,e9,T.ae,T.an,rfl,ex1 rfl ⟨x,_,_,_,_,rfl,e9,T.ae,T.a4,rfl,by show 4<=sizeLine;decide,fun z hz=>?_⟩⟩⟩⟩;have uz:=Same.new (o:=.lst [.ref xa,.ref xb,.ref xc,.ref xd]) hz;refine ex1 rfl (Xl (d:=pdW pe sa st ba) ?_ (zEt (uz _ _ (sG _ _ er8)) ((V8.same sG).same uz)) (zFj ok) ⟨_,rfl,X4 (hD1 _ _ ⟨⟨_,_,_,_,_,_,_,_,rfl⟩,kF.trans (S8.trans (sG.trans uz).sm),K8 T8 (sG.trans uz)⟩)⟩);have:=zEt (K:=K) A9 (R9.same uz);unfold pdW at this⊢;rw[zBl d6]at this;exact this
  .rintro σ G _;exact hN0 _ _ (q G)
end
section
variable{K:PySem.W.Frag}{h:Heap}{mg:Str->Option Value}
def fn_mk{x:Str}{st:Stmt}{ps:List Str}{f:Addr}{oc:Value}{od an:Option Addr}{osl:Array (Option Value)}{kV doc pm cdv ct:Value}(X:K.In h)(G:h.Ns mainGlobals mg)(a:PySem.W.nsIn K mainGlobals x=some (some (.ref f)))
  (l:K.lookup f=some ⟨oc,od,.func (PySem.W.fnOf x x (Q1 st) (O0 st) (B5 st) .none kV doc pm an cdv ct),osl⟩) (c:PySem.W.codeIn K cdv x=true) (k:PySem.W.keepIn K (.ref f)=true)
  (hb:∀(kV doc pm:Value) (an:Option Addr) (cdv ct:Value) (us:List Value),us.length=ps.length->bindArgs (PySem.W.fnOf x x (Q1 st) (O0 st) (B5 st) .none kV doc pm an cdv ct) ⟨us,[]⟩=pure (ps.zip us)):Fn K mg x st ps :=
 ⟨f,_,fun_mk l c k,(fun_mk l c k).binds hb,PySem.W.mg_of X G a⟩
def mt_mk{C:Addr}{x q:Str}{st:Stmt}{ps:List Str}{f:Addr}{oc:Value}{od an:Option Addr}{osl:Array (Option Value)}{kV doc pm cdv ct:Value}(a:PySem.W.findIn K (.ref C) x=some (some (.ref f)))(i:PySem.W.isFn K (.ref f)=true)
  (l:K.lookup f=some ⟨oc,od,.func (PySem.W.fnOf x q (Q1 st) (O0 st) (B5 st) .none kV doc pm an cdv ct),osl⟩) (c:PySem.W.codeIn K cdv q=true) (k:PySem.W.keepIn K (.ref f)=true)
  (hb:∀(kV doc pm:Value) (an:Option Addr) (cdv ct:Value) (us:List Value),us.length=ps.length->bindArgs (PySem.W.fnOf x q (Q1 st) (O0 st) (B5 st) .none kV doc pm an cdv ct) ⟨us,[]⟩=pure (ps.zip us)):Mt K C x q st ps :=
 ⟨f,_,fun_mk l c k,(fun_mk l c k).binds hb,⟨a,i,k⟩⟩
theorem str_mk{x z:Str}{v:Value}(X:K.In h)(G:h.Ns mainGlobals mg)(a:PySem.W.nsIn K mainGlobals x=some (some v))(e:∃t,v = .str z t):∃t,mg x=some (.str z t):=by
 obtain⟨t,rfl⟩:=e;exact⟨t,PySem.W.mg_of X G a⟩
theorem int_mk{x:Str}{z:Int}{v:Value}(X:K.In h)(G:h.Ns mainGlobals mg)(a:PySem.W.nsIn K mainGlobals x=some (some v))(e:∃t,v = .int z t):∃t,mg x=some (.int z t):=by
 obtain⟨t,rfl⟩:=e;exact⟨t,PySem.W.mg_of X G a⟩
theorem len1{us:List Value}(h:us.length=1):∃a,us = [a]:=List.length_eq_one_iff.mp h
theorem len2{us:List Value}(h:us.length=2):∃a b,us = [a,b]:=by
 cases us with
 | nil=>cases h
 | cons a r=>obtain⟨b,rfl⟩:=len1 (Nat.succ.inj h);exact⟨a,b,rfl⟩
theorem len3{us:List Value}(h:us.length=3):∃a b c,us = [a,b,c]:=by
 cases us with
 | nil=>cases h
 | cons a r=>obtain⟨b,c,rfl⟩:=len2 (Nat.succ.inj h);exact⟨a,b,c,rfl⟩
theorem len4{us:List Value}(h:us.length=4):∃a b c d,us = [a,b,c,d]:=by
 cases us with
 | nil=>cases h
 | cons a r=>obtain⟨b,c,d,rfl⟩:=len3 (Nat.succ.inj h);exact⟨a,b,c,d,rfl⟩
theorem len5{us:List Value}(h:us.length=5):∃a b c d e,us = [a,b,c,d,e]:=by
 cases us with
 | nil=>cases h
 | cons a r=>obtain⟨b,c,d,e,rfl⟩:=len4 (Nat.succ.inj h);exact⟨a,b,c,d,e,rfl⟩
def zAb(vs:Array Value)(c p:Addr):Bool:=decide (vs[11]?=some (.ref p)) &&(match vs.getD 18 .none with | .str _ _=>true | _=>false) &&(match vs.getD 7 .none with | .int _ _=>true | _=>false) &&(match vs.getD 9 .none with | .bool _=>true | _=>false) &&(match vs.getD 10 .none with | .int _ _=>true | _=>false)&&decide (c≠p)&&decide (mainGlobals≠p)
theorem tab_mk{c p:Addr}{od:Option Addr}{vs:Array Value}{sl:Array (Option Value)}(l:K.lookup c=some ⟨.type "code",od,.fields vs,sl⟩)(e1:vs.getD 11 .none = .ref p)(e:zAb vs c p=true):TabAt K mg c p:=by
 unfold zAb at e;simp only[CD,decide_eq_true_eq]at e;obtain⟨⟨⟨⟨⟨⟨e11,e18⟩,e7⟩,e9⟩,e10⟩,ne1⟩,ne2⟩:=e;have h18:∃a t,vs.getD 18 .none = .str a t:=by cases q:vs.getD 18 .none<;>rw[q]at e18<;>first | exact⟨_,_,rfl⟩ | cases e18
 have h7:∃a t,vs.getD 7 .none = .int a t:=by cases q:vs.getD 7 .none<;>rw[q]at e7<;>first | exact⟨_,_,rfl⟩ | cases e7
 have h9:∃a,vs.getD 9 .none = .bool a:=by cases q:vs.getD 9 .none<;>rw[q]at e9<;>first | exact⟨_,rfl⟩ | cases e9
 have h10:∃a t,vs.getD 10 .none = .int a t:=by cases q:vs.getD 10 .none<;>rw[q]at e10<;>first | exact⟨_,_,rfl⟩ | cases e10
 obtain⟨f18,t18,h18⟩:=h18;obtain⟨f7,t7,h7⟩:=h7;obtain⟨f9,h9⟩:=h9;obtain⟨f10,t10,h10⟩:=h10;exact⟨fun g k=>⟨_,vs,f18,t18,f7,t7,f9,f10,t10,k _ _ l,rfl,rfl,e11,e1,h18,h7,h9,h10,ne1⟩,ne2⟩
theorem noattr_mk{C:Addr}{f:Str}(h:PySem.W.findIn K (.ref C) f=some none):NoAttr K C f:=h
end
theorem all_mk{l:PySem.W.OpenLaw}{w:World}{K:PySem.W.Frag}{h:Heap}{mg:Str->Option Value}{fa f pt:Addr}{oc:Value}{od an:Option Addr}{osl:Array (Option Value)}{kV doc pm cdv ct:Value}(X:K.In h)(G:h.Ns mainGlobals mg)(hfa:mg "law" = some (.ref fa))
  (T:Tx K mg) (a:PySem.W.nsIn K mainGlobals "law" = some (some (.ref f))) (lk:K.lookup f=some ⟨oc,od,.func (PySem.W.fnOf "law" "law" (Q1 s_law) (O0 s_law) (B5 s_law) .none kV doc pm an cdv ct),osl⟩) (c:PySem.W.codeIn K cdv "law" = true) (k:PySem.W.keepIn K (.ref f)=true) (ep:T.ag=pt) (np:K.lookup pt=none) :
  (∀p∈[pt],isCodeTable h p)/\(∀p∈[pt],K.lookup p=none)/\∃fd:FuncData,(∀(s:Shared) (v:Value),BindsTo s fd ⟨[v],[]⟩ [("_law_script",v)])/\∀base:Heap,K.In base->base.Ns mainGlobals mg->(∀p∈[pt],base.BuiltinsAt mg p)->FnOk l.prog w K mg base CX0 9 fa fd ["_law_script"] (Lf K pt):=by
 subst ep;have e:=hfa.symm.trans (PySem.W.mg_of X G a);cases e;refine⟨fun p hp=>?_,fun p hp=>by rw[AC.mp hp];exact np,PySem.W.fnOf "law" "law" (Q1 s_law) (O0 s_law) (B5 s_law) .none kV doc pm an cdv ct,fun s v=>.of_eq rfl,fun base _ _ hB=>zAf T (hB _ (AC.mpr rfl)) (fun_mk lk c k)⟩;obtain⟨o,vs,_,_,_,_,_,_,_,e1,e2,e3,e4,_⟩:=T.bd.hd h X;rw[AC.mp hp];exact⟨_,o,vs,e1,e2,e3,e4⟩
theorem walk{l:PySem.W.OpenLaw}{q:Program}{loose:List Str}{XP:(Str->Option Value)->Heap->Prop}{YP:World->Heap->Prop}{d:DefRec}{K:Params->PySem.W.Frag}{pt:Addr}(hn:l.most=some 63)(hdf:d.params.defaults = [])
  (hY:∀(w:World) (h:Heap),YP w h->(K w.params).In h) (hYt:∀(w:World) (h:Heap),YP w h->∀p∈[pt],h.get? p=some (PySem.W.tabObj #[]))
  (F:∀(w:World) (mg:Str->Option Value) (fa:Addr) (h:Heap),(K w.params).In h->h.Ns mainGlobals mg->mg d.name=some (.ref fa) ->
   (∀p∈[pt],isCodeTable h p)/\(∀p∈[pt],(K w.params).lookup p=none)/\∃fd:FuncData,(∀(s:Shared) (u:Value),BindsTo s fd ⟨[u],[]⟩ [("_law_script",u)])/\∀base:Heap,(K w.params).In base->base.Ns mainGlobals mg->(∀p∈[pt],base.BuiltinsAt mg p)->FnOk l.prog w (K w.params) mg base CX0 9 fa fd ["_law_script"] (Lf (K w.params) pt)) :
  PySem.W.WalkO q loose XP YP l.row.toRowW d [] (fun f vs=>PySem.call f vs) :=
 L2.walk_ofT (n:=63) (k:=9) (x := "_law_script") (ts:=[pt]) (sp:=fun w=>Lf (K w.params) pt) hn (by decide) hdf ⟨rfl,by decide,by decide⟩ hY hYt F (fun _ _ a ns hl hT hS=>⟨a,ns,rfl,hS,hl,⟨#[],hT pt (AC.mpr rfl),trivial,fun _ _=>.inl rfl⟩,fun _=>rfl⟩)
end Sw
open PySem PySem.W PyProof.Rows
set_option maxRecDepth 100000 in
set_option maxHeartbeats 0 in
theorem PySem.Challenge.cw_strikeweave_k59_woven_holds : PySem.Challenge.rw_strikeweave_k59_woven.Holds := by
 w_on;o_law;k_head;(case hw=>w_witness2)
 k_fill
 refine Sw.walk (l:=PySem.Challenge.rw_strikeweave_k59_woven) rfl rfl (fun w h Y=>PySem.W.km_in_of Y) (fun w h Y=>PySem.W.km_tabs_of Y) ?F
 case F =>
  intro w mg fa h KX G hmg;refine' Sw.all_mk KX G hmg (Sw.Tx.mk (Sw.fn_mk KX G ?a1 ?l2 ?c3 ?k4 (fun _ _ _ _ _ _ us hl=>by obtain⟨a,rfl⟩:=Sw.len1 hl;rfl))
   (Sw.fn_mk KX G ?a5 ?l6 ?c7 ?k8 (fun _ _ _ _ _ _ us hl=>by obtain⟨a,rfl⟩:=Sw.len1 hl;rfl))
   (Sw.fn_mk KX G ?a9 ?l10 ?c11 ?k12 (fun _ _ _ _ _ _ us hl=>by obtain⟨a,b,rfl⟩:=Sw.len2 hl;rfl))
   (Sw.fn_mk KX G ?a13 ?l14 ?c15 ?k16 (fun _ _ _ _ _ _ us hl=>by obtain⟨a,rfl⟩:=Sw.len1 hl;rfl))
   (Sw.fn_mk KX G ?a17 ?l18 ?c19 ?k20 (fun _ _ _ _ _ _ us hl=>by obtain⟨a,rfl⟩:=Sw.len1 hl;rfl))
   (Sw.fn_mk KX G ?a21 ?l22 ?c23 ?k24 (fun _ _ _ _ _ _ us hl=>by obtain⟨a,b,rfl⟩:=Sw.len2 hl;rfl))
   (Sw.fn_mk KX G ?a25 ?l26 ?c27 ?k28 (fun _ _ _ _ _ _ us hl=>by obtain⟨a,b,rfl⟩:=Sw.len2 hl;rfl))
   (Sw.fn_mk KX G ?a29 ?l30 ?c31 ?k32 (fun _ _ _ _ _ _ us hl=>by obtain⟨a,b,rfl⟩:=Sw.len2 hl;rfl))
   (Sw.fn_mk KX G ?a33 ?l34 ?c35 ?k36 (fun _ _ _ _ _ _ us hl=>by obtain⟨a,b,c,rfl⟩:=Sw.len3 hl;rfl))
   (Sw.fn_mk KX G ?a37 ?l38 ?c39 ?k40 (fun _ _ _ _ _ _ us hl=>by obtain⟨a,rfl⟩:=Sw.len1 hl;rfl))
   (Sw.fn_mk KX G ?a41 ?l42 ?c43 ?k44 (fun _ _ _ _ _ _ us hl=>by obtain⟨a,rfl⟩:=Sw.len1 hl;rfl))
   (Sw.fn_mk KX G ?a45 ?l46 ?c47 ?k48 (fun _ _ _ _ _ _ us hl=>by obtain⟨a,b,rfl⟩:=Sw.len2 hl;rfl))
   (Sw.fn_mk KX G ?a49 ?l50 ?c51 ?k52 (fun _ _ _ _ _ _ us hl=>by obtain⟨a,b,c,rfl⟩:=Sw.len3 hl;rfl))
   (Sw.fn_mk KX G ?a53 ?l54 ?c55 ?k56 (fun _ _ _ _ _ _ us hl=>by obtain⟨a,b,c,d,rfl⟩:=Sw.len4 hl;rfl))
   (Sw.fn_mk KX G ?a57 ?l58 ?c59 ?k60 (fun _ _ _ _ _ _ us hl=>by obtain⟨a,b,c,rfl⟩:=Sw.len3 hl;rfl))
   (Sw.fn_mk KX G ?a61 ?l62 ?c63 ?k64 (fun _ _ _ _ _ _ us hl=>by obtain⟨a,b,rfl⟩:=Sw.len2 hl;rfl))
   (Sw.fn_mk KX G ?a65 ?l66 ?c67 ?k68 (fun _ _ _ _ _ _ us hl=>by obtain⟨a,rfl⟩:=Sw.len1 hl;rfl))
   (Sw.fn_mk KX G ?a69 ?l70 ?c71 ?k72 (fun _ _ _ _ _ _ us hl=>by obtain⟨a,b,rfl⟩:=Sw.len2 hl;rfl))
   (Sw.fn_mk KX G ?a73 ?l74 ?c75 ?k76 (fun _ _ _ _ _ _ us hl=>by obtain⟨a,b,rfl⟩:=Sw.len2 hl;rfl))
   (Sw.fn_mk KX G ?a77 ?l78 ?c79 ?k80 (fun _ _ _ _ _ _ us hl=>by obtain⟨a,b,rfl⟩:=Sw.len2 hl;rfl))
   (Sw.fn_mk KX G ?a81 ?l82 ?c83 ?k84 (fun _ _ _ _ _ _ us hl=>by obtain⟨a,b,rfl⟩:=Sw.len2 hl;rfl))
   (Sw.fn_mk KX G ?a85 ?l86 ?c87 ?k88 (fun _ _ _ _ _ _ us hl=>by obtain⟨a,b,rfl⟩:=Sw.len2 hl;rfl))
   (Sw.fn_mk KX G ?a89 ?l90 ?c91 ?k92 (fun _ _ _ _ _ _ us hl=>by obtain⟨a,b,rfl⟩:=Sw.len2 hl;rfl))
   (Sw.fn_mk KX G ?a93 ?l94 ?c95 ?k96 (fun _ _ _ _ _ _ us hl=>by obtain⟨a,rfl⟩:=Sw.len1 hl;rfl))
   (Sw.fn_mk KX G ?a97 ?l98 ?c99 ?k100 (fun _ _ _ _ _ _ us hl=>by obtain⟨a,b,rfl⟩:=Sw.len2 hl;rfl))
   (Sw.fn_mk KX G ?a101 ?l102 ?c103 ?k104 (fun _ _ _ _ _ _ us hl=>by obtain⟨a,b,rfl⟩:=Sw.len2 hl;rfl))
   (Sw.fn_mk KX G ?a105 ?l106 ?c107 ?k108 (fun _ _ _ _ _ _ us hl=>by obtain⟨a,rfl⟩:=Sw.len1 hl;rfl))
   (Sw.fn_mk KX G ?a109 ?l110 ?c111 ?k112 (fun _ _ _ _ _ _ us hl=>by obtain⟨a,b,c,rfl⟩:=Sw.len3 hl;rfl))
   (Sw.fn_mk KX G ?a113 ?l114 ?c115 ?k116 (fun _ _ _ _ _ _ us hl=>by obtain⟨a,b,c,rfl⟩:=Sw.len3 hl;rfl))
   (Sw.fn_mk KX G ?a117 ?l118 ?c119 ?k120 (fun _ _ _ _ _ _ us hl=>by obtain⟨a,b,rfl⟩:=Sw.len2 hl;rfl))
   (Sw.fn_mk KX G ?a121 ?l122 ?c123 ?k124 (fun _ _ _ _ _ _ us hl=>by obtain⟨a,b,rfl⟩:=Sw.len2 hl;rfl))
   (Sw.fn_mk KX G ?a125 ?l126 ?c127 ?k128 (fun _ _ _ _ _ _ us hl=>by obtain⟨a,b,rfl⟩:=Sw.len2 hl;rfl))
   (Sw.fn_mk KX G ?a129 ?l130 ?c131 ?k132 (fun _ _ _ _ _ _ us hl=>by obtain⟨a,b,rfl⟩:=Sw.len2 hl;rfl))
   (Sw.fn_mk KX G ?a133 ?l134 ?c135 ?k136 (fun _ _ _ _ _ _ us hl=>by obtain⟨a,b,rfl⟩:=Sw.len2 hl;rfl))
   (Sw.fn_mk KX G ?a137 ?l138 ?c139 ?k140 (fun _ _ _ _ _ _ us hl=>by obtain⟨a,b,rfl⟩:=Sw.len2 hl;rfl))
   (Sw.fn_mk KX G ?a141 ?l142 ?c143 ?k144 (fun _ _ _ _ _ _ us hl=>by obtain⟨a,b,rfl⟩:=Sw.len2 hl;rfl))
   (Sw.fn_mk KX G ?a145 ?l146 ?c147 ?k148 (fun _ _ _ _ _ _ us hl=>by obtain⟨a,b,rfl⟩:=Sw.len2 hl;rfl))
   (Sw.fn_mk KX G ?a149 ?l150 ?c151 ?k152 (fun _ _ _ _ _ _ us hl=>by obtain⟨a,b,rfl⟩:=Sw.len2 hl;rfl))
   (Sw.fn_mk KX G ?a153 ?l154 ?c155 ?k156 (fun _ _ _ _ _ _ us hl=>by obtain⟨a,b,rfl⟩:=Sw.len2 hl;rfl))
   (Sw.fn_mk KX G ?a157 ?l158 ?c159 ?k160 (fun _ _ _ _ _ _ us hl=>by obtain⟨a,rfl⟩:=Sw.len1 hl;rfl))
   (Sw.fn_mk KX G ?a161 ?l162 ?c163 ?k164 (fun _ _ _ _ _ _ us hl=>by obtain⟨a,b,rfl⟩:=Sw.len2 hl;rfl))
   (Sw.fn_mk KX G ?a165 ?l166 ?c167 ?k168 (fun _ _ _ _ _ _ us hl=>by obtain⟨a,b,rfl⟩:=Sw.len2 hl;rfl))
   (Sw.fn_mk KX G ?a169 ?l170 ?c171 ?k172 (fun _ _ _ _ _ _ us hl=>by obtain⟨a,rfl⟩:=Sw.len1 hl;rfl))
   (Sw.fn_mk KX G ?a173 ?l174 ?c175 ?k176 (fun _ _ _ _ _ _ us hl=>by obtain⟨a,b,c,rfl⟩:=Sw.len3 hl;rfl))
   _
   ⟨?g178,?g179,?g180,?g181⟩
   (PySem.W.mg_of KX G ?q177)
   ⟨?g182,?g183,?g184,?g185,L2.kit_same _ _⟩
   (Sw.noattr_mk ?n186)
   (Sw.noattr_mk ?n187)
   (Sw.noattr_mk ?n188)
   (Sw.noattr_mk ?n189)
   _
   _
   (L2.fun_mk ?l192 ?c193 ?k194)
   (L2.Fun.binds (L2.fun_mk ?l192 ?c193 ?k194) (fun _ _ _ _ _ _ us hl=>by obtain⟨a,b,c,rfl⟩:=Sw.len3 hl;rfl))
   ⟨?g195,?a190,?i191,?k196⟩
   (Sw.mt_mk ?a197 ?i198 ?l199 ?c200 ?k201 (fun _ _ _ _ _ _ us hl=>by obtain⟨a,rfl⟩:=Sw.len1 hl;rfl))
   (Sw.mt_mk ?a202 ?i203 ?l204 ?c205 ?k206 (fun _ _ _ _ _ _ us hl=>by obtain⟨a,rfl⟩:=Sw.len1 hl;rfl))
   (Sw.mt_mk ?a207 ?i208 ?l209 ?c210 ?k211 (fun _ _ _ _ _ _ us hl=>by obtain⟨a,b,rfl⟩:=Sw.len2 hl;rfl))
   (Sw.mt_mk ?a212 ?i213 ?l214 ?c215 ?k216 (fun _ _ _ _ _ _ us hl=>by obtain⟨a,b,rfl⟩:=Sw.len2 hl;rfl))
   (Sw.mt_mk ?a217 ?i218 ?l219 ?c220 ?k221 (fun _ _ _ _ _ _ us hl=>by obtain⟨a,b,rfl⟩:=Sw.len2 hl;rfl))
   _
   ⟨?g223,?g224,?g225,?g226⟩
   (PySem.W.mg_of KX G ?q222)
   (Sw.noattr_mk ?n227)
   (Sw.noattr_mk ?n228)
   (Sw.noattr_mk ?n229)
   (Sw.noattr_mk ?n230)
   _
   _
   (L2.fun_mk ?l233 ?c234 ?k235)
   (L2.Fun.binds (L2.fun_mk ?l233 ?c234 ?k235) (fun _ _ _ _ _ _ us hl=>by obtain⟨a,b,c,d,e,rfl⟩:=Sw.len5 hl;rfl))
   ⟨?g236,?a231,?i232,?k237⟩
   _
   _
   (Sw.tab_mk ?l239 ?r240 ?r241)
   ?r238
   (Sw.str_mk KX G ?v242 ?e243)
   (Sw.int_mk KX G ?v244 ?e245)
   _
   (PySem.W.mg_of KX G ?v246)
   (L2.gtup_mk ?l247 ?y248)
   (Sw.int_mk KX G ?v249 ?e250)
   (Sw.int_mk KX G ?v251 ?e252)
   (PySem.W.mg_none_of KX G ?z253)
   (PySem.W.mg_none_of KX G ?z254)
   (PySem.W.mg_none_of KX G ?z255)
   (PySem.W.mg_none_of KX G ?z256)
   (PySem.W.mg_none_of KX G ?z257)
   (PySem.W.mg_none_of KX G ?z258)
   (PySem.W.mg_none_of KX G ?z259)
   (PySem.W.mg_none_of KX G ?z260)
   (PySem.W.mg_none_of KX G ?z261)
   (PySem.W.mg_none_of KX G ?z262)
   (PySem.W.mg_none_of KX G ?z263)
   (PySem.W.mg_none_of KX G ?z264)
   (PySem.W.mg_none_of KX G ?z265)
   (PySem.W.mg_none_of KX G ?z266)
   (PySem.W.mg_none_of KX G ?z267)
   (PySem.W.mg_none_of KX G ?z268)
   (PySem.W.mg_none_of KX G ?z269)
   (PySem.W.mg_none_of KX G ?z270)) ?aL ?lL ?cL ?kL ?rP ?tP
  case a1|l2|c3|k4|a5|l6|c7|k8|a9|l10|c11|k12|a13|l14|c15|k16|a17|l18|c19|k20|a21|l22|c23|k24|a25|l26|c27|k28|a29|l30|c31|k32|a33|l34|c35|k36|a37|l38|c39|k40|a41|l42|c43|k44|a45|l46|c47|k48|a49|l50|c51|k52|a53|l54|c55|k56|a57|l58|c59|k60|a61|l62|c63|k64|a65|l66|c67|k68|a69|l70|c71|k72|a73|l74|c75|k76|a77|l78|c79|k80|a81|l82|c83|k84|a85|l86|c87|k88|a89|l90|c91|k92|a93|l94|c95|k96|a97|l98|c99|k100|a101|l102|c103|k104|a105|l106|c107|k108|a109|l110|c111|k112|a113|l114|c115|k116|a117|l118|c119|k120|a121|l122|c123|k124|a125|l126|c127|k128|a129|l130|c131|k132|a133|l134|c135|k136|a137|l138|c139|k140|a141|l142|c143|k144|a145|l146|c147|k148|a149|l150|c151|k152|a153|l154|c155|k156|a157|l158|c159|k160|a161|l162|c163|k164|a165|l166|c167|k168|a169|l170|c171|k172|a173|l174|c175|k176|q177|g178|g179|g180|g181|g182|g183|g184|g185|n186|n187|n188|n189|a190|i191|l192|c193|k194|g195|k196|a197|i198|l199|c200|k201|a202|i203|l204|c205|k206|a207|i208|l209|c210|k211|a212|i213|l214|c215|k216|a217|i218|l219|c220|k221|q222|g223|g224|g225|g226|n227|n228|n229|n230|a231|i232|l233|c234|k235|g236|k237=>k_is
  case r238=>rfl
  case l239=>k_is
  case r240=>rfl
  case r241=>rfl
  case v242=>k_is
  case e243=>exact⟨_,rfl⟩
  case v244=>k_is
  case e245=>exact⟨_,rfl⟩
  case v246|l247=>k_is
  case y248=>exact⟨_,_,_,_,rfl,rfl⟩
  case v249=>k_is
  case e250=>exact⟨_,rfl⟩
  case v251=>k_is
  case e252=>exact⟨_,rfl⟩
  case z253|z254|z255|z256|z257|z258|z259|z260|z261|z262|z263|z264|z265|z266|z267|z268|z269|z270|aL|lL|cL|kL=>k_is
  case rP=>rfl
  case tP=>kernel_rfl
