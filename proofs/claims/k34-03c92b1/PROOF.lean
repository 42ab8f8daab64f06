import PyProof.Rows.All
import Wide.All
import OpenK.AllK
import Wide.FinOn
import PyProof.Rows.SortShellK
import KE.KSortTup
import Lean
import PyProof.EqAt
import PyProof.EqKinds
import PyProof.TupleCall
import PyProof.SetRoads
import PyProof.DictRoadsH
import PyProof.IsRules
import PyProof.CollectWalk
import PyProof.FactsAll.set
import PyProof.NeData
import PyProof.P3In
import PyProof.TupleOfSeq
import PyProof.ZipIter
import PyProof.Rows.ZipGen
import KE.KDictOf
import PyProof.AttrMissHeap
import PyProof.Rows.SumAny
import PyProof.DictIter
import PyProof.DictWalks
import PyProof.DictValues
import PyProof.ListRange
import PyProof.ListStr
import PyProof.DictTruth
import PySem.Challenge.RW_strikeweave_k34_asked_by_turns
namespace PySem.W.Fast
def tw13556125235239639679:=0
def tw16866296046544921490:=0
def tw4804975169696269419:=0
def tw10424779648573954691:=0
def tw7696962925120680553:=0
def tw16246595485454439816:=0
def tw2777098351422962103:=0
def tw3012977983581510199:=0
def tw5443599712497506089:=0
def tw10534150063464935858:=0
def tw4465509084070970789:=0
def tw17806410414044645678:=0
def tw16105635103969556587:=0
def tw7322287354267029613:=0
def tw9850026173190423052:=0
def tw18389335662364458846:=0
def tw13025912367703092171:=0
def tw21570570896927074:=0
def tw10117694157321832552:=0
def tw16995815269003090401:=0
def tw11013333769634957407:=0
def tw934022984753670764:=0
def tw12347871229304828257:=0
def tw4593759585155615200:=0
def tw8706014640008586505:=0
def tw12776350701979361025:=0
def tw17694507858483930720:=0
def tw7525110220745590355:=0
def tw8532893603875306646:=0
def tw1757526728117824646:=0
def tw11785549299755187339:=0
def tw14502416091868895016:=0
def tw3308121059640973225:=0
def tw4677085708232196377:=0
def tw7839483481973446211:=0
def tw12140450031744341468:=0
def tw2200486667689047559:=0
def tw17816343769237384357:=0
def tw2832954114162522572:=0
def tw10376803314198453834:=0
def tw7351044134452448920:=0
def tw11708774104641738897:=0
def tw16496915391130721166:=0
def tw2096650051377774137:=0
def tw7204518119721883502:=0
def tw16733131940278273023:=0
def tw3656390248397354633:=0
def tw3501587203260948585:=0
def tw12116242221625345416:=0
def tw5907976948869990687:=0
def tw12520944477245883791:=0
def tw9516800202702077838:=0
def tw1867847857512375691:=0
def tw1377152110120881153:=0
def tw2375091938484702827:=0
def tw688920479736743126:=0
def tw1934385533086309623:=0
def tw11644726669586452089:=0
def tw13674026863915701368:=0
def tw15834343691470696298:=0
def tw6485694699084424957:=0
def tw4387527701645266962:=0
def tw5596283393148258065:=0
def tw442778168967099413:=0
def tw18300816799696402150:=0
def tw3192825273014304070:=0
def tw10825914978327511574:=0
def tw2971473670247084140:=0
def tw5065382774309900879:=0
def tw7904627158568429635:=0
def tw5328053015088655226:=0
def tw1611673240197275396:=0
def tw14327658423045165579:=0
def tw6092371143759011550:=0
def tw9164869917177714150:=0
def tw17150772654670509070:=0
def tw14456220651071639241:=0
def tw6298500720897847968:=0
def tw1994249996091396982:=0
def tw16275801953401027649:=0
def tw16157395216252492514:=0
def tw8214189712958300502:=0
def tw5153973164903652422:=0
def tw18184858308591698475:=0
def tw3292994497657851744:=0
def tw17277850419116233889:=0
def tw17710886195998232894:=0
def tw15911346517128371416:=0
def tw13967351032988701180:=0
def tw2476926839796570706:=0
def tw12695556585423409337:=0
def tw611107440883467370:=0
def tw15830724759009300327:=0
def tw18429258905295443217:=0
def tw9702183578843488467:=0
def tw18036671857330226735:=0
def tw1356175935867003938:=0
def tw12384528934068214481:=0
def tw9894857621615061598:=0
def tw4522120079668301183:=0
def tw6809315023576424391:=0
def tw4307381933341114261:=0
def tw14532070066500741390:=0
def tw3674876163516302448:=0
def tw16653213994350539301:=0
def tw4078646065902742903:=0
def tw6064938819486332576:=0
def tw12118442108267498897:=0
def tw10731477686812191611:=0
def tw826836979170921108:=0
def tw11062169467422439757:=0
def tw15168344018049875832:=0
def tw2122240786199845854:=0
def tw18293977086006042006:=0
def tw1288639484178830120:=0
def tw4458924301243152145:=0
def tw9757943600178611436:=0
def tw7974784633891242641:=0
def tw12480748196286565442:=0
def tw16020168067367831258:=0
def tw15373207997882637186:=0
def tw13453450120275108464:=0
def tw15999608430392537474:=0
def tw16590576329963840864:=0
def tw14894156186749455157:=0
def tw9340732057091807733:=0
def tw17253208059095541198:=0
def tw6243535961458325602:=0
def tw5656576162397999124:=0
def tw10399079618182347559:=0
def tw10135645741842874133:=0
def tw14790461541274696747:=0
def tw13685517146369318773:=0
def tw16291782341766871208:=0
def tw3492586047526118039:=0
def tw13971661559051581757:=0
def tw9209327437908827310:=0
def tw8350900935118619441:=0
def tw3471904336814121738:=0
def tw673032879107485340:=0
def tw13683007919455692371:=0
def tw14119136119613137312:=0
def tw7254539922977507289:=0
def tw10552602214151353130:=0
def tw1134343227780859326:=0
def tw6718662273153421115:=0
def tw11433184312472060006:=0
def tw6477349828478550519:=0
def tw6549860684812608766:=0
def tw11671071853378107609:=0
def tw7107826183389751522:=0
def tw13990633070809021744:=0
def tw14933015729362838746:=0
def tw3222308269944056223:=0
def tw15523654289798851543:=0
def tw17084726231170030341:=0
def tw6818743224848785767:=0
def tw9878684796101762897:=0
def tw18203553907852061494:=0
def tw17833430667462747903:=0
def tw9858867977778445992:=0
def tw16566742572501465402:=0
def tw8310929627382801364:=0
def tw10189038038829537558:=0
def tw10793864732217250955:=0
def tw7468653370025382621:=0
def tw2462919475689918381:=0
def tw14203652938917044913:=0
def tw17792359435740140666:=0
def tw5931785680139949160:=0
def tw2282044832778631460:=0
def tw5371469489835432889:=0
def tw12364473703996307727:=0
def tw14023484999590609807:=0
def tw18016652091201906187:=0
def tw6095050162789362513:=0
def tw712964995645233105:=0
def tw1899988680100532354:=0
def tw6104191025154107641:=0
def tw16518523069549230286:=0
def tw3503530824551703169:=0
def tw17937797348380781410:=0
def tw10023749002958211326:=0
def tw14522496949210280157:=0
def tw8192911198273468639:=0
def tw11402536980490309286:=0
def tw15179608175201108991:=0
def tw3466295173419155534:=0
def tw11772742890276964811:=0
def tw3446122697817731957:=0
def tw8259519598153283691:=0
def tw5138152377200211798:=0
def tw3235888283968765127:=0
def tw1731607308795017986:=0
def tw3607040261148443260:=0
def tw4134315218998252454:=0
def tw10426328188755033314:=0
def tw5289088096051668591:=0
def tw7392953159747438052:=0
def tw9704164747054010789:=0
def tw2679960454192565200:=0
def tw2903329486042124817:=0
def tw15163228453860550263:=0
def tw8002388763256084208:=0
def tw4792800879754798129:=0
def tw11808703477588849611:=0
def tw4370636645525701772:=0
def tw18201631997564802194:=0
def tw9927839379982733577:=0
def tw13698116854130203666:=0
def tw7231024174391721452:=0
def tw16875195610923835003:=0
def tw3584507908448754052:=0
def tw16569415465587022834:=0
def tw6867913604063154340:=0
def tw2498871940268491984:=0
def tw7622850262916338271:=0
def tw1299236590300852860:=0
def tw5711607687841955010:=0
def tw8305618775123935238:=0
def tw8092460293123840534:=0
def tw4194244776939077020:=0
def tw9023790216050293438:=0
def tw14568635961240883901:=0
def tw8976804642143321204:=0
def tw2804865487505445075:=0
def tw9328020574940967630:=0
def tw1313258574064364890:=0
def tw12874557952901899852:=0
def tw8094685192790128884:=0
def tw3355009983460444438:=0
def tw8587380402877621725:=0
def tw16376610415115994501:=0
def tw15795474613371353377:=0
def tw15282191468195288200:=0
def tw12811102272705902621:=0
def tw9190634199717727454:=0
def tw7351222681174198187:=0
def tw12344365097638042104:=0
def tw1100386635772146605:=0
def tw12307864122665826150:=0
def tw16985307760469970709:=0
def tw18162214423500578260:=0
def tw10930001876462131498:=0
def tw10355923719562842538:=0
def tw10914627623475884663:=0
def tw11481347819925416229:=0
def tw13185555143453041686:=0
def tw7059088205439310022:=0
def tw16637747136217445692:=0
def tw10492332496741332474:=0
def tw4932054715023932954:=0
def tw17579446314879201198:=0
def tw12143236744947973065:=0
def tw2890183609253873588:=0
def tw1624899253693477932:=0
def tw7605274379535528525:=0
def tw12534089014479782216:=0
def tw3138169155780224215:=0
def tw13378938855687520382:=0
def tw5648414853585530543:=0
def tw4743751052620459916:=0
def tw13232952580379593976:=0
def tw15749226848422960088:=0
def tw14027923306001313742:=0
def tw11274198599827954625:=0
def tw3429043848991111862:=0
def tw14118212405776814448:=0
def tw3546948299116516773:=0
def tw9158146369687217882:=0
def tw14166380694331347065:=0
def tw3187411088148178459:=0
def tw17304550817934332795:=0
def tw13140554726355183456:=0
def tw14073338244074574564:=0
def tw14335320037937095778:=0
def tw495039676514743593:=0
def tw15825754970174672584:=0
def tw13260465760245576202:=0
def tw8343264466207810114:=0
def tw6204976782404464673:=0
def tw15915101613820928563:=0
def tw14659152263289172317:=0
def tw1206754330906384712:=0
def tw16169477383799926713:=0
def tw17872127591634072911:=0
def tw7508296205931888054:=0
def tw17382077471867782355:=0
def tw18174547276323322836:=0
def tw14168272379956472330:=0
def tw8022415048445055959:=0
def tw1163862829625466443:=0
def tw4344077160846952948:=0
def tw12531625343025215976:=0
def tw12684010295277820834:=0
def tw6909083280058511119:=0
def tw6476328608325396346:=0
def tw2427822327572359271:=0
def tw296903481082646866:=0
def tw6899450425835951492:=0
def tw6964316265376136172:=0
def tw16477911339447122195:=0
def tw3765041472909978903:=0
def tw17314590327323836175:=0
def tw1435771380596769590:=0
def tw12186542182990454305:=0
def tw13751224386031128928:=0
def tw7622947206265166653:=0
def tw18284224879171527521:=0
def tw1823359525536109801:=0
def tw17683683082321209809:=0
def tw14333905202068404996:=0
def tw4677455398960214609:=0
def tw15337650041316921443:=0
def tw13855783329334454622:=0
def tw13403502216893580330:=0
def tw17316620161858803211:=0
def tw11605929212860875622:=0
def tw5357983614197820855:=0
def tw17725991415410060076:=0
def tw485901359309321483:=0
def tw14933343320402892158:=0
def tw17416170374493649241:=0
def tw12462782233999276583:=0
def tw17416108110116957869:=0
def tw8512450032236154393:=0
def tw10529216593940504897:=0
def tw9309402570535207292:=0
def tw16787561928840837449:=0
def tw4062649271643874275:=0
def tw15257086868100662655:=0
def tw5512880075951331799:=0
def tw10946400468670778080:=0
def tw15355934326196984253:=0
def tw16643446450960340073:=0
def tw2867497126845341097:=0
def tw6626890292964624470:=0
def tw9290316276956973935:=0
def tw12676679780829034695:=0
def tw4858120327654839999:=0
def tw712217925133343338:=0
def tw5618390061891148113:=0
def tw3262624676154009282:=0
def tw5326818929646435244:=0
def tw8729922206087424802:=0
def tw7412062616988860434:=0
def tw13583524363809931387:=0
def tw14485993482979512623:=0
def tw14827171800176532725:=0
def tw17804206261875316366:=0
def tw7352487664031462218:=0
def tw8352359694845988793:=0
def tw9192164874672076825:=0
def tw10163068353245415536:=0
def tw6953151227616823604:=0
def tw13795983183179318479:=0
def tw4728052453733741532:=0
def tw4319480640537679351:=0
def tw3111478776951095799:=0
def tw9909507457320917795:=0
def tw2940968163018182836:=0
def tw4503221880708448063:=0
def tw2716473213295773190:=0
def tw15076338777788577783:=0
def tw929285447480342613:=0
def tw17583257659507642311:=0
def tw404744440986032567:=0
def tw7282518218807722497:=0
def tw8654608796375956318:=0
def tw9491269797655682979:=0
def tw738750838408248983:=0
def tw1386365427002751067:=0
def tw16715389707807812138:=0
def tw16090062219484524977:=0
def tw3361809033262818000:=0
def tw11587128918027446268:=0
def tw18396981781916493999:=0
def tw10026882430570389389:=0
def tw2192464085188231780:=0
def tw2197802595307098298:=0
def tw13830873872255544754:=0
def tw11736359732006102446:=0
def tw2196442393597573282:=0
def tw10068652414499644144:=0
def tw5408877380944357973:=0
def tw14532980848598610304:=0
def tw13667257161784281198:=0
def tw12574259557493010994:=0
def tw14267558979958527669:=0
def tw16784005808353923650:=0
def tw12547056961381405527:=0
def tw14168481920929141027:=0
def tw13104637644424618182:=0
def tw11813109403539106672:=0
def tw81478692838841902:=0
def tw10247787978591215367:=0
def tw15017795914185919648:=0
def tw361380408990191891:=0
def tw118354320089205395:=0
def tw6920878713935713313:=0
def tw16963304710048947315:=0
def tw13010286435096988373:=0
def tw12468252709269167159:=0
def tw17102230167770430688:=0
def tw4179769950161825225:=0
def tw4177568117918712826:=0
def tw16830938811326227459:=0
def tw1499289039217991090:=0
def tw1491264803523879460:=0
def tw10395920563313743462:=0
def tw7187052906176712105:=0
def tw11074909495317936663:=0
def tw18282911257811698910:=0
def tw6787916685836237106:=0
def tw4248260293574328386:=0
def tw17170987664165571952:=0
def tw2736276820746636567:=0
def tw11847758185142650980:=0
def tw8894344162313169053:=0
def tw14621664333300627469:=0
def tw12044666914874639126:=0
def tw1941424820055848221:=0
def tw13008911581350088400:=0
def tw8845487604065653992:=0
def tw16375813604575416988:=0
def tw4456064802270636349:=0
def tw8192809390054566180:=0
def tw10174356356978991454:=0
def tw15496216355753300292:=0
def tw10035112818103061163:=0
def tw1628888867215445585:=0
def tw8960563245681240226:=0
def tw8026882204778929342:=0
def tw15056436620703878596:=0
def tw1882872557817177239:=0
def tw6282818640330720728:=0
def tw6214698953972460171:=0
def tw5299186150281628561:=0
def tw13915614686856534466:=0
def tw15231540437371625851:=0
end PySem.W.Fast
set_option autoImplicit false
set_option genSizeOf false
set_option genSizeOfSpec false
set_option bootstrap.genMatcherCode false
set_option compiler.extract_closed false
set_option linter.all false
set_option maxRecDepth 100000
section
open PySem PySem.Spec PyProof.Rows
abbrev A1:=@List
abbrev A2:=Addr
abbrev A3:=Value
abbrev A4:=Shared
abbrev A5:=@Option
abbrev A7:=Program
abbrev CM:=@Array
abbrev CW:=Keyed
abbrev F8:=World
abbrev IG:=SortSt
abbrev IJ:=Heap
abbrev IL:=Expr
abbrev IM:=Around
abbrev IS:=FuncData
abbrev IV:=Stmt
abbrev IW:=SetTable
abbrev JE:=SortKind
abbrev JN:=Scope
abbrev KE:=NameKind
abbrev QW:=Env
end
section
open PySem PySem.Spec PyProof.Rows
def AA:=@List.length_map
def AB:=@wpAny_bind
def AC:=@List.getElem?_eq_getElem
def AD:=@List.mem_singleton
def AE:=@Heap.get?_push_of_some
def AF:=@List.getElem?_eq_some_iff
def AG:=@wpAny_pure
def AH:=@List.getElem?_map
def AI:=@Heap.lt_size
def AJ:=@List.mem_map
def AK:=@List.map_append
def AL:=@List.mem_cons
def AM:=@List.mem_of_getElem?
def AN:=@if_neg
def AO:=@if_pos
def AQ:=@List.size_toArray
def AR:=@List.mem_append
def AS:=@Heap.get?_push_size
def AU:=@List.length_append
def AV:=@List.getD_eq_getElem?_getD
def AW:=@List.length_take
def AX:=@decide_eq_true
def AY:=@List.not_mem_nil
def AZ:=@Nat.ne_of_lt
def A_:=@Bool.false_eq_true
def BA:=@List.mem_cons_of_mem
def BB:=@List.map_cons
def BC:=@decide_eq_false
def BD:=@Bool.false_ne_true
def BE:=@List.mem_cons_self
def BF:=@Option.map_eq_some_iff
def BG:=@Array.length_toList
def BH:=@List.mem_filter
def BI:=@List.mem_append_right
def BJ:=@of_decide_eq_true
def BK:=@Nat.lt_of_lt_of_le
def BL:=@Nat.eq_of_testBit_eq
def BM:=@List.append_assoc
def BN:=@Option.some.inj
def BO:=@List.length_cons
def BP:=@Bool.eq_iff_iff
def BQ:=@Bool.eq_false_iff
def BR:=@Nat.testBit_or
def BS:=@Array.toList_append
def BT:=@Bool.and_eq_true
def BU:=@Array.getElem?_toList
def BV:=@List.map_map
def BW:=@List.mem_range
def BX:=@decide_eq_true_iff
def BZ:=@wpAny_holding
def B_:=@List.take_append_drop
def CA:=@List.append_nil
def CB:=@Nat.zero_le
def CC:=@List.pairwise_map
def CD:=@List.length_range
def CF:=@List.pairwise_append
def CG:=@Bool.or_eq_true
def CH:=@List.length_filter_le
def CI:=@wpAny_mono
def CJ:=@List.mem_of_mem_take
def CK:=@List.take_length
def CL:=@List.nodup_cons
def CN:=@wpAny_loadPart'
def CO:=@Heap.get?_update_other
def CP:=@if_false
def CQ:=@List.take_of_length_le
def CS:=@Array.getD_eq_getD_getElem?
def CT:=@Nat.testBit_zero
def CU:=@wpAny_truthy_bool
def CV:=@Nat.testBit_and
def CY:=@List.getElem?_append_right
def CZ:=@List.perm_append_comm
def C_:=@List.map_eq_nil_iff
def DA:=@List.getElem?_append_left
def DB:=@wpAny_seqItems
def DC:=@List.filterMap_cons_some
def DD:=@List.length_drop
def DE:=@List.pairwise_singleton
def DF:=@Nat.testBit_succ
def DG:=@Nat.zero_testBit
def DH:=@wpAny_field
def DI:=@List.drop_eq_getElem_cons
def DJ:=@Nat.le_add_right
def DK:=@List.getElem?_take_of_lt
def DL:=@List.filter_cons
def DM:=@Nat.testBit_two_pow_self
def DN:=@List.getElem_of_mem
def DP:=@List.filter_sublist
def DQ:=@List.Perm.append_left
def DR:=@List.getElem?_eq_none
def DT:=@Nat.le_of_lt
def DU:=@Array.toList_push
def DV:=@Nat.lt_of_le_of_ne
def DW:=@List.Perm.append_right
def DX:=@wpAny_call_entry
def DY:=@List.pairwise_iff_getElem
def DZ:=@Heap.SameBut.update
def D_:=@Nat.testBit_two_pow
def EA:=@Nat.lt_succ_of_lt
def EB:=@List.nodup_append
def EC:=@Heap.get?_update_self
def ED:=@List.mem_iff_getElem?
def EE:=@Heap.size_push
def EF:=@Nat.zero_add
def EG:=@wpAny_ite_false
def EH:=@wpAny_Call_Name_kw
def EI:=@List.filter_append
def EJ:=@List.mem_of_mem_drop
def EK:=@Nat.le_succ
def EL:=@List.mem_append_left
def EM:=@wpAny_callSpecial?_slot
def EN:=@List.take_sublist
def EO:=@Bool.not_eq_true'
def EQ:=@Bool.false_and
def ER:=@List.nodup_nil
def ES:=@List.perm_ext_iff_of_nodup
def ET:=@Nat.add_le_add_left
def EU:=@List.filterMap_cons
def EV:=@List.filter_eq_self
def EW:=@List.range_succ
def EX:=@List.extract_eq_take_drop
def EY:=@Nat.lt_irrefl
def EZ:=@Option.isSome_iff_exists
def E_:=@List.filterMap_cons_none
def FA:=@List.drop_zero
def FB:=@Array.toList_extract
def FC:=@if_true
def FD:=@wpAny_rule
def FE:=@List.length_nil
def FF:=@List.find?_cons
def FG:=@List.drop_eq_nil_of_le
def FH:=@Bool.not_true
def FI:=@Heap.size_update
def FJ:=@Nat.lt_succ_self
def FK:=@List.all_eq_true
def FM:=@List.getElem_mem
def FN:=@List.drop_drop
def FO:=@Int.emod_lt_of_pos
def FP:=@wpAny_setField_rec
def FQ:=@Array.getElem?_eq_getElem
def FR:=@Nat.min_eq_left
def FS:=@wpAny_passesOwn
def FT:=@List.of_mem_zip
def FU:=@List.forIn_cons
def FV:=@codeAny_builtin
def FW:=@wpAny_updateSeq
def FX:=@List.drop_sublist
def FY:=@List.mem_iff_getElem
def FZ:=@Array.toList_reverse
def F_:=@List.ext_getElem?
def GA:=@wpAny_setState_of
def GB:=@wpAny_newTuple
def GC:=@Array.size_map
def GD:=@List.nodup_range
def GE:=@wpAny_tryCatch
def GF:=@Nat.zero_lt_succ
def GG:=@Nat.eq_zero_of_not_pos
def GH:=@List.getElem?_drop
def GI:=@Array.size_extract
def GJ:=@List.zip_cons_cons
def GK:=@Option.map_some
def GL:=@Int.emod_nonneg
def GM:=@wpAny_newList
def GN:=@List.any_cons
def GO:=@List.length_singleton
def GP:=@Nat.lt_of_succ_lt
def GQ:=@wpAny_pyIter_list
def GR:=@List.drop_take
def GS:=@List.Perm.refl
def GT:=@Array.getElem?_eq_some_iff
def GU:=@List.findSome?_eq_none_iff
def GV:=@wpAny_pyIter_zip
def GW:=@List.any_eq_true
def GX:=@List.cons_ne_nil
def GY:=@Classical.byContradiction
def GZ:=@List.getElem?_zip_eq_some
def G_:=@List.reverse_append
def HA:=@List.map_congr_left
def HB:=@Array.size_setIfInBounds
def HC:=@List.cons.inj
def HD:=@List.lt_trans
def HE:=@wpAny_standAt
def HF:=@List.Perm.eq_of_pairwise
def HG:=@List.sum_cons
def HH:=@List.Pairwise.imp_of_mem
def HI:=@List.idxOf_lt_length_iff
def HJ:=@Nat.zero_lt_one
def HK:=@List.nil_append
def HL:=@wpAny_specialOf
def HM:=@Array.forIn_toList
def HN:=@Option.bind_eq_some_iff
def HP:=@wpAny_letGo
def HQ:=@List.getElem?_cons_zero
def HR:=@List.take_take
def HS:=@Heap.get?_push_ne
def HU:=@List.lt_irrefl
def HV:=@Nat.le_of_eq
def HW:=@Int.toNat_natCast
def HX:=@Bool.and_false
def HY:=@List.drop_of_length_le
def HZ:=@wpAny_nextOf_list_item
def H_:=@Nat.succ_le_succ
def IA:=@List.le_antisymm
def IB:=@wpAny_eqBool_str
def IC:=@List.lookup_cons
def ID:=@wpAny_attempt
def IE:=@Bool.false_or
end
noncomputable section
namespace TS
def zBj{k x l r:Nat}(h:l<r)(a:r-l<=k-x):(l+r) / 2-l<=k-(x+1) :=
 Nat.le_trans (Nat.le_pred_of_lt (Nat.sub_lt_sub_right ((Nat.le_div_iff_mul_le (by decide)).mpr (by rw[Nat.mul_two];exact ET (DT h) l)) ((Nat.div_lt_iff_lt_mul (by decide)).mpr (by rw[Nat.mul_two];exact Nat.add_lt_add_right h r)))) (Nat.pred_le_pred a)
def Yc{n x l r m:Nat}(h:l<=m)(a:r-l<=n-x):r-(m+1)<=n-(x+1):=Nat.le_trans (Nat.sub_le_sub_left (H_ h) r) (Nat.pred_le_pred a)
def Zy{k x l r:Nat}(h:l<r)(a:r-l<=k-x):r-((l+r) / 2+1)<=k-(x+1) :=
 Yc ((Nat.le_div_iff_mul_le (by decide)).mpr (by rw[Nat.mul_two];exact ET (DT h) l)) a
def zDp{n x l r:Nat}(h:l<r)(a:r-l<=n-x):l +(r-l) / 2-l<=n-(x+1):=by
 rw[Nat.add_sub_cancel_left];exact Nat.le_trans (Nat.le_pred_of_lt (Nat.div_lt_self (Nat.sub_pos_of_lt h) (by decide))) (Nat.pred_le_pred a)
def zJt{lo x q k:Nat}(h:q+1<=x)(a:lo+x-(q+1)<=k):x-(q+1)<=k-lo:=Nat.le_sub_of_add_le' (by rw[Nat.add_sub_assoc h]at a;exact a)
open PySem PyProof.Rows
def kk(U:KeyKind)(p:CW):U.α:=(U.keyOf p.1).getD U.dflt
def R6(U:KeyKind)(p:CW):Prop:=∃a,U.keyOf p.1=some a
def le(U:KeyKind)(p q:CW):Prop:=U.kle (kk U p) (kk U q)
def LC(U:KeyKind)(l:A1 CW):Prop:=l.Pairwise (le U)
structure RE(prog:A7)(w:F8)(A:IM)(s:A4)(U:KeyKind)(kd:JE):Prop where
 lt:∀(x y:A3) (a b:U.α) (Q:Bool->A4->Prop) (E:A3->A4->Prop),U.keyOf x=some a->U.keyOf y=some b->Q (U.blt a b) s->wpAny (model prog w) A (keyLt' kd x y) Q E s
section
variable{prog:A7}{w:F8}{A:IM}{E:A3->A4->Prop}{s:A4}{U:KeyKind}{kd:JE}
theorem Jc(C:RE prog w A s U kd){st:IG}{x y:CW}{Q:A5 Bool->IG->Prop}(e:kindOf st=kd)(f:R6 U x)(g:R6 U y)
  (h:Q (some (U.blt (kk U x) (kk U y))) st):wpS (model prog w) A E s (lt' x y) Q st:=by
 obtain⟨a,c⟩:=f;obtain⟨b,d⟩:=g;have i:kk U x=a:=by unfold kk;rw[c];rfl
 have j:kk U y=b:=by unfold kk;rw[d];rfl
 rw[i,j]at h;rw[lt'_eq];refine wpS_bind (wpS_get ?_);rw[e];refine wpS_bind (wpS_lift (ID (C.lt x.1 y.1 a b _ _ c d ⟨rfl,?_⟩)));exact wpS_pure h
theorem D9{st:IG}{a:CM CW}{i:Nat}{p:CW}{Q:CW->IG->Prop}(hi:a[i]?=some p)(h:Q p st):wpS (model prog w) A E s (elem' a i) Q st:=by
 rw[elem'_eq,hi];exact wpS_pure h
def V0:Bool->CW->CM CW->Nat->Nat->Nat->StateT IG Sem (A5 Nat):=sortPriv% PySem.Builtin.gallop
def TQ(left:Bool)(a:CW)(b:CM CW)(bs:Nat)(i:Nat):StateT IG Sem (A5 Bool):=do
 let x <-elem' b (bs+i)
 if left then lt' x a else return(<-lt' a x).map (!·)
theorem Oi(left:Bool)(c:CW)(d:CM CW)(bs n b:Nat):V0 left c d bs n b =(do
  let mut la:=0
  let mut a:=1
  let mut lo:=0
  let mut hi:=0
  let some g <-TQ left c d bs b | return none
  if g then
   let e:=n-b
   for _ in [0:n] do
    if a ≥ e then break
    let some f <-TQ left c d bs (b+a) | return none
    if !f then break
    la:=a
    a:=2*a+1
   lo:=b+la+1
   hi:=b+min a e
  else
   let e:=b+1
   for _ in [0:n] do
    if a ≥ e then break
    let some h <-TQ left c d bs (b-a) | return none
    if h then break
    la:=a
    a:=2*a+1
   lo:=b+1-min a e
   hi:=b-la
  for _ in [0:n] do
   if lo ≥ hi then break
   let m:=lo +(hi-lo) / 2
   let some f <-TQ left c d bs m | return none
   if f then lo:=m+1 else hi:=m
  return some hi):=rfl
def PB(U:KeyKind)(left:Bool)(a:CW)(p:CW):Bool:=if left then U.blt (kk U p) (kk U a)else !U.blt (kk U a) (kk U p)
theorem zAb(C:RE prog w A s U kd){st:IG}{left:Bool}{b p:CW}{c:CM CW}{bs i:Nat}{Q:A5 Bool->IG->Prop}(d:kindOf st=kd)(a:R6 U b)(e:R6 U p)(hi:c[bs+i]?=some p)
  (h:Q (some (PB U left b p)) st):wpS (model prog w) A E s (TQ left b c bs i) Q st:=by
 unfold TQ;refine wpS_bind (D9 hi ?_);cases left with
 | true=>exact Jc C d e a h
 | false =>
  simp only[A_,CP];refine wpS_bind (Jc C d a e ?_);exact wpS_pure h
theorem Os(C:RE prog w A s U kd){st:IG}{left:Bool}{L:CW}{O:CM CW}{bs n g:Nat}{Q:A5 Nat->IG->Prop}(hk:kindOf st=kd)(R:R6 U L)
  (P:Nat->Bool) (hP:∀i,i<n->∃p,O[bs+i]?=some p/\R6 U p/\PB U left L p=P i) (o:∀i j,i<=j->j<n->P j=true->P i=true) (T:g<n)
  (h:∀k,k<=n->(∀i,i<k->P i=true)->(∀i,k<=i->i<n->P i=false)->Q (some k) st):wpS (model prog w) A E s (V0 left L O bs n g) Q st:=by
 have B:∀{a:IG} {i:Nat} {Q:A5 Bool->IG->Prop},a=st->i<n->Q (some (P i)) a->wpS (model prog w) A E s (TQ left L O bs i) Q a:=by
  intro a i Q e hi q;subst e;obtain⟨p,V,W,X⟩:=hP i hi;exact zAb C hk R W V (by rw[X];exact q)
 have m:∀i j,i<=j->j<n->P i=false->P j=false:=by
  intro i j Y hj hi;cases e:P j with
  | false=>rfl
  | true=>rw[o i j Y hj e]at hi;cases hi
 rw[Oi];dsimp only;refine wpS_bind (B rfl T ?_);dsimp only;have S:∀{lo hi:Nat} {f:Nat->(A5 (A5 Nat)×Nat×Nat)->StateT IG Sem (ForInStep (A5 (A5 Nat)×Nat×Nat))},
   (∀x l h,wpS (model prog w) A E s (f x (none,l,h)) (λr a=>a=st/\(if h<=l then r = .done (none,l,h)else if P (l +(h-l) / 2)=true then r = .yield (none,l +(h-l) / 2+1,h)else r = .yield (none,l,l +(h-l) / 2))) st\/¬(h<=l\/l +(h-l) / 2<n)) ->
   lo<=hi->hi<=n->(∀i,i<lo->P i=true)->(∀i,hi<=i->i<n->P i=false) ->
   wpS (model prog w) A E s (forIn [0:n] (none,lo,hi) f) (λc a=>a=st/\∃k,c =(none,k,k)/\k<=n/\(∀i,i<k->P i=true)/\(∀i,k<=i->i<n->P i=false)) st:=by
  intro lo hi f hf V W X h4;refine wpS_forRange (I:=λx c a=>a=st/\∃l r,c =(none,l,r)/\l<=r/\r<=n/\r-l<=n-x/\(∀i,i<l->P i=true)/\(∀i,r<=i->i<n->P i=false)) ?_ ?_ ⟨rfl,lo,hi,rfl,V,W,by lia,X,h4⟩
  .rintro x c a _ hx ⟨rfl,l,r,rfl,hl,K,Z,M,N⟩;have hin:r<=l\/l +(r-l) / 2<n:=by lia
   rcases hf x l r with q | q
   .refine wpS_mono q λz st2 ⟨e,F⟩=>?_;subst e;by_cases b:r<=l
    .rw[AO b]at F;subst F;have:l=r:=by lia
     subst this;exact⟨rfl,l,rfl,K,M,N⟩
    .rw[AN b]at F;cases u:P (l +(r-l) / 2)with
     | true =>
      rw[AO u]at F;subst F;exact⟨rfl,_,_,rfl,by lia,by lia,Yc (DJ ..) Z,λi hi=>o i (l +(r-l) / 2) (by lia) (by lia) u,N⟩
     | false =>
      rw[AN (by rw[u];exact BD)]at F;subst F;exact⟨rfl,_,_,rfl,by lia,by lia,zDp (Nat.lt_of_not_le b) Z,M,λi G y=>m (l +(r-l) / 2) i G y u⟩
   .exact absurd hin q
  .rintro c a ⟨rfl,l,r,rfl,hl,K,Z,M,N⟩;have:l=r:=by lia
   subst this;exact⟨rfl,l,rfl,K,M,N⟩
 cases K:P g with
 | true =>
  rw[AO rfl];refine wpS_bind (wpS_mono (wpS_forRange (I:=λx c a=>a=st/\∃la d,c =(none,la,d)/\la<d/\x+1<=d/\g+la<n/\P (g+la)=true)
   (Q:=λc a=>a=st/\∃la d,c =(none,la,d)/\la<d/\g+la<n/\P (g+la)=true/\(n-g<=d\/(g+d<n/\P (g+d)=false))) ?st ?en ⟨rfl,0,1,rfl,by lia,by lia,by lia,K⟩) ?po)
  case en =>
   rintro c a ⟨rfl,la,d,rfl,D,a2,v,t⟩;exact⟨rfl,la,d,rfl,D,v,t,.inl (by lia)⟩
  case st =>
   rintro x c a _ hx ⟨rfl,la,d,rfl,D,a2,v,t⟩;dsimp only;by_cases b:d ≥ n-g
   .rw[AO b];exact wpS_pure ⟨rfl,la,d,rfl,D,v,t,.inl b⟩
   .rw[AN b];refine wpS_bind (B rfl (show g+d<n by lia) ?_);cases u:P (g+d)with
    | true=>exact wpS_pure ⟨rfl,d,2*d+1,rfl,by lia,by lia,by lia,u⟩
    | false=>exact wpS_pure ⟨rfl,la,d,rfl,D,v,t,.inr ⟨by lia,u⟩⟩
  case po =>
   rintro c a ⟨rfl,la,d,rfl,D,v,t,H⟩;dsimp only;refine wpS_bind (wpS_mono (S (lo:=g+la+1) (hi:=g+min d (n-g)) (λx l J=>by
    dsimp only;by_cases b:J<=l
    .refine .inl ?_;rw[AO b];exact wpS_pure ⟨rfl,by rw[AO b]⟩
    .by_cases hn:l +(J - l) / 2<n
     .refine .inl ?_;rw[AN b];refine wpS_bind (B rfl hn ?_);dsimp only;cases u:P (l +(J - l) / 2)with
      | true =>
       simp only[FC];exact wpS_pure ⟨rfl,by rw[AN b]⟩
      | false =>
       simp only[A_,CP];exact wpS_pure ⟨rfl,by rw[AN b]⟩
     .exact .inr (by lia)) (by lia) (by lia) (λi hi=>o i (g+la) (by lia) v t) λi G y=>?_) λc a ⟨e,k,e2,b1,b2,b3⟩=>?_)
   .rcases H with H | ⟨H,a6⟩
    .lia
    .exact m (g+d) i (by lia) y a6
   .subst e e2;exact wpS_pure (h k b1 b2 b3)
 | false =>
  rw[AN BD];refine wpS_bind (wpS_mono (wpS_forRange (I:=λx c a=>a=st/\∃la d,c =(none,la,d)/\la<d/\x+1<=d/\la<=g/\P (g-la)=false)
   (Q:=λc a=>a=st/\∃la d,c =(none,la,d)/\la<d/\la<=g/\P (g-la)=false/\(g+1<=d\/(d<=g/\P (g-d)=true))) ?st ?en ⟨rfl,0,1,rfl,by lia,by lia,by lia,K⟩) ?po)
  case en =>
   rintro c a ⟨rfl,la,d,rfl,D,a2,v,t⟩;exact⟨rfl,la,d,rfl,D,v,t,.inl (by lia)⟩
  case st =>
   rintro x c a _ hx ⟨rfl,la,d,rfl,D,a2,v,t⟩;dsimp only;by_cases b:d ≥ g+1
   .rw[AO b];exact wpS_pure ⟨rfl,la,d,rfl,D,v,t,.inl b⟩
   .rw[AN b];refine wpS_bind (B rfl (show g-d<n by lia) ?_);cases u:P (g-d)with
    | false=>exact wpS_pure ⟨rfl,d,2*d+1,rfl,by lia,by lia,by lia,u⟩
    | true=>exact wpS_pure ⟨rfl,la,d,rfl,D,v,t,.inr ⟨by lia,u⟩⟩
  case po =>
   rintro c a ⟨rfl,la,d,rfl,D,v,t,H⟩;dsimp only;refine wpS_bind (wpS_mono (S (lo:=g+1-min d (g+1)) (hi:=g-la) (λx l J=>by
    dsimp only;by_cases b:J<=l
    .refine .inl ?_;rw[AO b];exact wpS_pure ⟨rfl,by rw[AO b]⟩
    .by_cases hn:l +(J - l) / 2<n
     .refine .inl ?_;rw[AN b];refine wpS_bind (B rfl hn ?_);dsimp only;cases u:P (l +(J - l) / 2)with
      | true =>
       simp only[FC];exact wpS_pure ⟨rfl,by rw[AN b]⟩
      | false =>
       simp only[A_,CP];exact wpS_pure ⟨rfl,by rw[AN b]⟩
     .exact .inr (by lia)) (by lia) (by lia) (λi hi=>?_) λi G y=>m (g-la) i (by lia) y t) λc a ⟨e,k,e2,b1,b2,b3⟩=>?_)
   .rcases H with H | ⟨H,a6⟩
    .lia
    .exact o i (g-d) (by lia) (by lia) a6
   .subst e e2;exact wpS_pure (h k b1 b2 b3)
end
end TS
namespace TS
open PySem PyProof.Rows
section
variable{U:KeyKind}
theorem SK(p:CW):le U p p:=KeyOrd.kle_refl _
theorem JC{p q r:CW}(h1:le U p q)(h2:le U q r):le U p r:=KeyOrd.kle_trans h1 h2
structure ML(U:KeyKind)(a b:A1 CW)(o:A1 CW)(i j:Nat):Prop where
 perm:o.Perm (a.take i++b.take j)
 sor:LC U o
 la:∀x∈o,∀y∈a.drop i,le U x y
 lb:∀x∈o,∀y∈b.drop j,le U x y
theorem ML.sym{a b o:A1 CW}{i j:Nat}(m:ML U a b o i j):ML U b a o j i:=⟨m.perm.trans CZ,m.sor,m.lb,m.la⟩
theorem Ih{l:A1 CW}(k:Nat)(h:LC U l):∀x∈l.take k,∀y∈l.drop k,le U x y:=by
 have a:LC U (l.take k++l.drop k):=by rw[B_];exact h
 exact(CF.mp a).2.2
theorem ML.addA{a b o:A1 CW}{i j:Nat}(m:ML U a b o i j)(e:LC U a)(k:Nat)(f:∀y∈(a.drop i).take k,∀z∈b.drop j,le U y z):ML U a b (o ++(a.drop i).take k) (i+k) j:=by
 have d:LC U (a.drop i):=e.sublist (FX _ _);refine⟨?_,?_,λx hx y c=>?_,λx hx y c=>?_⟩
 .rw[List.take_add];refine(DW _ m.perm).trans ?_;rw[BM,BM];exact DQ _ CZ
 .refine CF.mpr ⟨m.sor,d.sublist (EN _ _),λx hx y c=>m.la x hx y (CJ c)⟩
 .rw[<-FN]at c;rcases AR.mp hx with hx | hx
  .exact m.la x hx y (EJ c)
  .exact Ih k d x hx y c
 .rcases AR.mp hx with hx | hx
  .exact m.lb x hx y c
  .exact f x hx y c
theorem ML.addB{a b o:A1 CW}{i j:Nat}(m:ML U a b o i j)(c:LC U b)(k:Nat)(d:∀y∈(b.drop j).take k,∀z∈a.drop i,le U y z):ML U a b (o ++(b.drop j).take k) i (j+k) :=
 (m.sym.addA c k d).sym
theorem ML.endA{a b o:A1 CW}{i j:Nat}(m:ML U a b o i j)(e:LC U a)(f:LC U b)(h:∀y∈a.drop i,∀z∈b.drop j,le U y z):LC U (o++a.drop i++b.drop j)/\(o++a.drop i++b.drop j).Perm (a++b):=by
 refine⟨?_,?_⟩
 .refine CF.mpr ⟨CF.mpr ⟨m.sor,e.sublist (FX _ _),m.la⟩,f.sublist (FX _ _),λx hx y c=>?_⟩;rcases AR.mp hx with hx | hx
  .exact m.lb x hx y c
  .exact h x hx y c
 .have g:(o++a.drop i++b.drop j).Perm ((a.take i++b.take j)++a.drop i++b.drop j):=DW _ (DW _ m.perm);refine g.trans ?_;have d:((a.take i++b.take j)++a.drop i++b.drop j).Perm ((a.take i++a.drop i) ++(b.take j++b.drop j)):=by
   rw[BM,BM,BM];refine DQ _ ?_;rw[<-BM,<-BM];exact DW _ CZ
  rw[B_,B_]at d;exact d
theorem ML.endB{a b o:A1 CW}{i j:Nat}(m:ML U a b o i j)(c:LC U a)(d:LC U b)(h:∀y∈b.drop j,∀z∈a.drop i,le U y z):LC U (o++b.drop j++a.drop i)/\(o++b.drop j++a.drop i).Perm (a++b) :=
 ⟨(m.sym.endA d c h).1,(m.sym.endA d c h).2.trans CZ⟩
structure MH(U:KeyKind)(a b:A1 CW)(o:A1 CW)(i j:Nat):Prop where
 perm:o.Perm (a.drop i++b.drop j)
 sor:LC U o
 la:∀x∈o,∀y∈a.take i,le U y x
 lb:∀x∈o,∀y∈b.take j,le U y x
theorem MH.sym{a b o:A1 CW}{i j:Nat}(m:MH U a b o i j):MH U b a o j i:=⟨m.perm.trans CZ,m.sor,m.lb,m.la⟩
theorem MH.addA{a b o:A1 CW}{i j:Nat}(m:MH U a b o i j)(g:LC U a)(k:Nat)(d:k<=i)(h:∀y∈(a.take i).drop k,∀z∈b.take j,le U z y):MH U a b ((a.take i).drop k++o) k j:=by
 have f:LC U (a.take i):=g.sublist (EN _ _);have e:a.drop k =(a.take i).drop k++a.drop i:=by
  conv=>lhs;rw[<-B_ i a]
  rw[List.drop_append];by_cases l:i<=a.length
  .rw[AW,FR l,Nat.sub_eq_zero_of_le d,FA]
  .have:a.drop i = []:=FG (by lia);rw[this,List.drop_nil]
 have n:(a.take i).take k=a.take k:=by rw[HR,FR d]
 refine⟨?_,?_,λx hx y c=>?_,λx hx y c=>?_⟩
 .rw[e,BM];exact DQ _ m.perm
 .exact CF.mpr ⟨f.sublist (FX _ _),m.sor,λx hx y c=>m.la y c x (EJ hx)⟩
 .rw[<-n]at c;rcases AR.mp hx with hx | hx
  .exact Ih k f y c x hx
  .exact m.la x hx y (CJ c)
 .rcases AR.mp hx with hx | hx
  .exact h x hx y c
  .exact m.lb x hx y c
theorem MH.addB{a b o:A1 CW}{i j:Nat}(m:MH U a b o i j)(d:LC U b)(k:Nat)(c:k<=j)(e:∀y∈(b.take j).drop k,∀z∈a.take i,le U z y):MH U a b ((b.take j).drop k++o) i k :=
 (m.sym.addA d k c e).sym
theorem MH.endA{a b o:A1 CW}{i j:Nat}(m:MH U a b o i j)(e:LC U a)(f:LC U b)(h:∀y∈a.take i,∀z∈b.take j,le U y z):LC U (a.take i++b.take j++o)/\(a.take i++b.take j++o).Perm (a++b):=by
 refine⟨?_,?_⟩
 .refine CF.mpr ⟨CF.mpr ⟨e.sublist (EN _ _),f.sublist (EN _ _),h⟩,m.sor,λx hx y c=>?_⟩;rcases AR.mp hx with hx | hx
  .exact m.la y c x hx
  .exact m.lb y c x hx
 .have g:(a.take i++b.take j++o).Perm (a.take i++b.take j ++(a.drop i++b.drop j)):=DQ _ m.perm;refine g.trans ?_;have d:(a.take i++b.take j ++(a.drop i++b.drop j)).Perm ((a.take i++a.drop i) ++(b.take j++b.drop j)):=by
   rw[BM,BM];refine DQ _ ?_;rw[<-BM,<-BM];exact DW _ CZ
  rw[B_,B_]at d;exact d
theorem MH.endB{a b o:A1 CW}{i j:Nat}(m:MH U a b o i j)(c:LC U a)(d:LC U b)(h:∀y∈b.take j,∀z∈a.take i,le U y z):LC U (b.take j++a.take i++o)/\(b.take j++a.take i++o).Perm (a++b) :=
 ⟨(m.sym.endA d c h).1,(m.sym.endA d c h).2.trans CZ⟩
end
section
variable{prog:A7}{w:F8}{A:IM}{E:A3->A4->Prop}{s:A4}{U:KeyKind}{kd:JE}
def Br(g:Nat):StateT IG Sem Unit:=modify λs=>SortSt.mk' (kindOf s) (arrOf s) (pendingOf s) g (failedOf s)
def Gd:CM CW->CM CW->StateT IG Sem (CM CW):=sortPriv% PySem.Builtin.mergeLo
theorem Ku(a b:CM CW):Gd a b =(do
  rule "list.sort.merge-lo"
  let d:=a.size+b.size
  let c (o:CM CW) (i j:Nat):=o++a.extract i a.size++b.extract j b.size
  let g (o:CM CW) (i j:Nat):=o++b.extract j b.size++a.extract i a.size
  let mut o:CM CW:=#[<-elem' b 0]
  let mut i:=0
  let mut j:=1
  if j == b.size then return c o i j
  if i+1 == a.size then return g o i j
  let mut mg:=gallopOf (<-get)
  for _ in [0:d] do
   let mut e:=0
   let mut f:=0
   for _ in [0:d] do
    let some h <-lt' (<-elem' b j) (<-elem' a i) | return c o i j
    if h then
     o:=o.push (<-elem' b j);j:=j+1;f:=f+1;e:=0
     if j == b.size then return c o i j
     if f ≥ mg then break
    else
     o:=o.push (<-elem' a i);i:=i+1;e:=e+1;f:=0
     if i+1 == a.size then return g o i j
     if e ≥ mg then break
   rule "list.sort.gallop"
   mg:=mg+1
   for _ in [0:d] do
    if mg>1 then mg:=mg-1
    Br mg
    let some k <-V0 false (<-elem' b j) a i (a.size-i) 0 | return c o i j
    e:=k
    if k>0 then
     o:=o++a.extract i (i+k);i:=i+k
     if i+1 == a.size then return g o i j
     if i == a.size then return c o i j
    o:=o.push (<-elem' b j);j:=j+1
    if j == b.size then return c o i j
    let some k <-V0 true (<-elem' a i) b j (b.size-j) 0 | return c o i j
    f:=k
    if k>0 then
     o:=o++b.extract j (j+k);j:=j+k
     if j == b.size then return c o i j
    o:=o.push (<-elem' a i);i:=i+1
    if i+1 == a.size then return g o i j
    if e<7&&f<7 then break
   mg:=mg+1
   Br mg
  unsupported "internal:list.sort.merge-bound"):=rfl
def Sm(st a:IG):Prop:=kindOf a=kindOf st/\arrOf a=arrOf st/\pendingOf a=pendingOf st/\failedOf a=failedOf st
theorem Sm.refl(st:IG):Sm st st:=⟨rfl,rfl,rfl,rfl⟩
theorem X4{st st0:IG}{g:Nat}{Q:Unit->IG->Prop}(b:Sm st0 st)(h:∀a,Sm st0 a->Q () a):wpS (model prog w) A E s (Br g) Q st :=
 wpS_modify (h _ ⟨b.1,b.2.1,b.2.2.1,b.2.2.2⟩)
theorem Dz{l:A1 CW}{i k:Nat}{y:CW}(h:y∈(l.drop i).take k):∃t,t<k/\l[i+t]?=some y:=by
 obtain⟨t,a,e⟩:=FY.mp h;rw[AW,DD]at a;refine⟨t,by lia,?_⟩;rw[List.getElem_take,List.getElem_drop]at e;rw[<-e];exact AC (by lia)
theorem Kw{l:A1 CW}{i:Nat}{y:CW}(h:y∈l.drop i):∃t,i+t<l.length/\l[i+t]?=some y:=by
 obtain⟨t,a,e⟩:=FY.mp h;rw[DD]at a;refine⟨t,by lia,?_⟩;rw[List.getElem_drop]at e;rw[<-e];exact AC (by lia)
theorem Pr{l:A1 CW}{i:Nat}{y:CW}(h:y∈l.take i):∃t,t<i/\t<l.length/\l[t]?=some y:=by
 obtain⟨t,a,e⟩:=FY.mp h;rw[AW]at a;refine⟨t,by lia,by lia,?_⟩;rw[List.getElem_take]at e;rw[<-e];exact AC (by lia)
theorem Yx{l:A1 CW}{i k:Nat}{y:CW}(h:y∈(l.take i).drop k):∃t,k<=t/\t<i/\l[t]?=some y:=by
 obtain⟨t,b,a⟩:=Kw h;rw[AW]at b;rw[DK (by lia)]at a;exact⟨k+t,by lia,by lia,a⟩
theorem y8{l:A1 CW}(h:LC U l){i j:Nat}{p q:CW}(a:i<=j)(b:l[i]?=some p)(c:l[j]?=some q):le U p q:=by
 obtain⟨d,rfl⟩:=AF.mp b;obtain⟨e,rfl⟩:=AF.mp c;rcases Nat.lt_or_eq_of_le a with z | z
 .exact DY.mp h i j d e z
 .subst z;exact SK _
theorem Fi{l:A1 CW}(h:LC U l){i:Nat}{p:CW}(a:l[i]?=some p):∀z∈l.drop i,le U p z:=λz b=>by
 obtain⟨t,_,e⟩:=Kw b;exact y8 h (DJ _ _) a e
theorem IP{a:CM CW}{i:Nat}{p:CW}:a[i]?=some p↔a.toList[i]?=some p:=by rw[BU]
theorem d0{a:CM CW}{i:Nat}(h:i<a.size):∃p,a[i]?=some p:=⟨a[i],getElem?_pos a i h⟩
theorem Qi{l:A1 CW}{i:Nat}{p:CW}(h:l[i]?=some p):(l.drop i).take 1 = [p]:=by
 obtain⟨a,rfl⟩:=AF.mp h;rw[DI a];rfl
theorem Et(a:CM CW)(i k:Nat):(a.extract i (i+k)).toList =(a.toList.drop i).take k:=by
 rw[FB,EX,Nat.add_sub_cancel_left]
theorem t9(a:CM CW)(i:Nat):(a.extract i a.size).toList=a.toList.drop i:=by
 rw[FB,EX,CQ];rw[DD,BG];exact Nat.le_refl _
theorem w4(a:CM CW)(i:Nat):(a.extract 0 i).toList=a.toList.take i:=by
 rw[FB,EX,FA,Nat.sub_zero]
def Rm(U:KeyKind)(a b r:CM CW):Prop:=LC U r.toList/\r.toList.Perm (a.toList++b.toList)
structure NP(U:KeyKind)(a b:CM CW):Prop where
 sa:LC U a.toList
 sb:LC U b.toList
 ka:∀(i:Nat) p,a[i]?=some p->R6 U p
 kb:∀(i:Nat) p,b[i]?=some p->R6 U p
 na:1<=a.size
 nb:1<=b.size
 first:∀q,b[0]?=some q->∀z∈a.toList,le U q z
 last:∀p,a[a.size-1]?=some p->∀z∈b.toList,le U z p
section
variable{a b o:CM CW}{i j k:Nat}{p q:CW}
theorem NP.pushB(P:NP U a b)(m:ML U a.toList b.toList o.toList i j)(c:b[j]?=some q)(h:∀z∈a.toList.drop i,le U q z):ML U a.toList b.toList (o.push q).toList i (j+1):=by
 have d:=m.addB P.sb 1 (by rw[Qi (IP.mp c)];intro y e;rw[AD.mp e];exact h);rw[Qi (IP.mp c)]at d;rw[DU];exact d
theorem NP.pushA(P:NP U a b)(m:ML U a.toList b.toList o.toList i j)(c:a[i]?=some p)(h:∀z∈b.toList.drop j,le U p z):ML U a.toList b.toList (o.push p).toList (i+1) j:=by
 have d:=m.addA P.sa 1 (by rw[Qi (IP.mp c)];intro y e;rw[AD.mp e];exact h);rw[Qi (IP.mp c)]at d;rw[DU];exact d
theorem NP.extA(P:NP U a b)(m:ML U a.toList b.toList o.toList i j)(h:∀y∈(a.toList.drop i).take k,∀z∈b.toList.drop j,le U y z):ML U a.toList b.toList (o++a.extract i (i+k)).toList (i+k) j:=by
 rw[BS,Et];exact m.addA P.sa k h
theorem NP.extB(P:NP U a b)(m:ML U a.toList b.toList o.toList i j)(h:∀y∈(b.toList.drop j).take k,∀z∈a.toList.drop i,le U y z):ML U a.toList b.toList (o++b.extract j (j+k)).toList i (j+k):=by
 rw[BS,Et];exact m.addB P.sb k h
theorem NP.doneB(P:NP U a b)(m:ML U a.toList b.toList o.toList i j)(d:j=b.size):Rm U a b (o++a.extract i a.size++b.extract j b.size):=by
 unfold Rm;rw[BS,BS,t9,t9];refine m.endA P.sa P.sb λy _ z c=>?_;rw[FG (by rw[BG];lia)]at c;exact absurd c (by simp)
theorem NP.doneA(P:NP U a b)(m:ML U a.toList b.toList o.toList i j)(hi:i=a.size):Rm U a b (o++a.extract i a.size++b.extract j b.size):=by
 unfold Rm;rw[BS,BS,t9,t9];refine m.endA P.sa P.sb λy c z _=>?_;rw[FG (by rw[BG];lia)]at c;exact absurd c (by simp)
theorem NP.lastA(P:NP U a b)(m:ML U a.toList b.toList o.toList i j)(hi:i+1=a.size):Rm U a b (o++b.extract j b.size++a.extract i a.size):=by
 unfold Rm;rw[BS,BS,t9,t9];refine m.endB P.sa P.sb λy d z f=>?_;obtain⟨t,g,c⟩:=Kw f;rw[BG]at g;have e:i+t=a.size-1:=by lia
 rw[e]at c;exact P.last z (IP.mpr c) y (EJ d)
end
theorem Sm.knd{st a:IG}(h:Sm st a){k:JE}(b:kindOf st=k):kindOf a=k:=h.1.trans b
theorem y0(C:RE prog w A s U kd){st:IG}{left:Bool}{d:CW}{b:CM CW}{bs n e:Nat}{Q:A5 Nat->IG->Prop}(D:kindOf st=kd)(f:R6 U d)
  (hsz:bs+n<=b.size) (F:∀(i:Nat) p,b[i]?=some p->R6 U p) (G:∀(u v:Nat) p q,u<=v->v<n->b[bs+u]?=some p->b[bs+v]?=some q->le U p q) (g:e<n)
  (h:∀k,k<=n->(∀(t:Nat) p,t<k->b[bs+t]?=some p->PB U left d p=true)->(∀(t:Nat) p,k<=t->t<n->b[bs+t]?=some p->PB U left d p=false)->Q (some k) st) :
  wpS (model prog w) A E s (V0 left d b bs n e) Q st:=by
 have c:∀t,t<n->∃p,b[bs+t]?=some p:=λt e=>d0 (by lia);refine Os C D f (λt=>match b[bs+t]? with | some p=>PB U left d p | none=>false) (λi H=>?_) (λi j m y a=>?_) g λk o I J=>?_
 .obtain⟨p,a⟩:=c i H;exact⟨p,a,F _ p a,by rw[a]⟩
 .obtain⟨p,z⟩:=c i (by lia);obtain⟨q,B⟩:=c j y;rw[B]at a;rw[z];have l:=G i j p q m y z B;dsimp only at a⊢;unfold PB at a⊢;cases left with
  | true =>
   simp only[FC]at a⊢;exact KeyOrd.klt_of_kle_of_klt l a
  | false =>
   simp only[A_,CP,EO]at a⊢;exact KeyOrd.kle_trans l a
 .refine h k o (λt p e a=>?_) λt p r x a=>?_
  .have:=I t e;rw[a]at this;exact this
  .have:=J t r x;rw[a]at this;exact this
theorem Ey{a p:CW}(h:PB U false a p=true):le U p a:=by
 unfold PB at h;show U.blt (kk U a) (kk U p)=false;simpa using h
theorem Cw{a p:CW}(h:PB U false a p=false):U.klt (kk U a) (kk U p):=by
 unfold PB at h;show U.blt (kk U a) (kk U p)=true;simpa using h
theorem Jw{a p:CW}(h:PB U true a p=true):U.klt (kk U p) (kk U a):=by
 unfold PB at h;show U.blt (kk U p) (kk U a)=true;simpa using h
theorem Ek{a p:CW}(h:PB U true a p=false):le U a p:=by
 unfold PB at h;show U.blt (kk U p) (kk U a)=false;simpa using h
section
variable{α:Type}{Q:α->IG->Prop}{st:IG}
theorem U4{c:Prop}{_:Decidable c}{t e:StateT IG Sem α}(h1:c->wpS (model prog w) A E s t Q st)(h2:¬c->wpS (model prog w) A E s e Q st):wpS (model prog w) A E s (if c then t else e) Q st:=by
 split
 .rename_i h;exact h1 h
 .rename_i h;exact h2 h
theorem O4{x y:Nat}{t e:StateT IG Sem α}(h1:x=y->wpS (model prog w) A E s t Q st)(h2:x≠y->wpS (model prog w) A E s e Q st):wpS (model prog w) A E s (if(x == y)=true then t else e) Q st :=
 U4 (λh=>h1 (eq_of_beq h)) λh=>h2 λz=>h (beq_iff_eq.mpr z)
theorem Ql{c:Prop}{_:Decidable c}{t:StateT IG Sem α}{F:Nat->StateT IG Sem α}(x:Nat){y:Nat}(h:∀g,wpS (model prog w) A E s (F g) Q st)(e:t=F x):wpS (model prog w) A E s (if c then t else F y) Q st:=by
 subst e;exact U4 (λ_=>h _) λ_=>h _
theorem Fg{c:Prop}{_:Decidable c}{t:StateT IG Sem α}{F:CM CW->Nat->StateT IG Sem α}{o:CM CW}{i:Nat}(R:CM CW->Nat->Prop)(h:∀o i,R o i->wpS (model prog w) A E s (F o i) Q st)
  (a:(∀o i,R o i->wpS (model prog w) A E s (F o i) Q st)->c->wpS (model prog w) A E s t Q st) (b:¬c->R o i):wpS (model prog w) A E s (if c then t else F o i) Q st:=U4 (a h) λz=>h _ _ (b z)
end
theorem Uf{α β:Type}{h:Sem Unit}{i:StateT IG Sem CW}{x0:CW}{b e:Prop}{_:Decidable b}{_:Decidable e}{j k:CW->StateT IG Sem α}{d:CW->IG->β}{n:Nat}{f:Nat->β->StateT IG Sem (ForInStep β)}{g:β->StateT IG Sem α}{Q:α->IG->Prop}{st:IG}
  (m:∀R:Unit->IG->Prop,R () st->wpS (model prog w) A E s (liftM h:StateT IG Sem Unit) R st) (o:∀R:CW->IG->Prop,R x0 st->wpS (model prog w) A E s i R st) (h1:b->wpS (model prog w) A E s (j x0) Q st) (h2:¬b->e->wpS (model prog w) A E s (k x0) Q st)
  (p:¬b->¬e->wpS (model prog w) A E s (forIn [0:n] (d x0 st) f) (λc a=>wpS (model prog w) A E s (g c) Q a) st) :
  wpS (model prog w) A E s ((liftM h:StateT IG Sem Unit) >>= λ_=>i >>= λx=>if b then j x else if e then k x else get >>= λa=>forIn [0:n] (d x a) f >>= g) Q st :=
 wpS_bind (m _ (wpS_bind (o _ (U4 h1 λl=>U4 (h2 l) λq=>wpS_bind (wpS_get (wpS_bind (p l q)))))))
def MR(U:KeyKind)(a b:CM CW)(st:IG){β:Type}(c:A5 (CM CW)×β)(d:IG):Prop:=Sm st d/\∃r,c.1=some r/\Rm U a b r
theorem MR.mk{a b r:CM CW}{st d:IG}{β:Type}{c:β}(e:Sm st d)(h:Rm U a b r):MR U a b st (some r,c) d:=⟨e,r,rfl,h⟩
structure QP(U:KeyKind)(a b:CM CW)(n:Nat)(o:CM CW)(i j:Nat):Prop where
 m:ML U a.toList b.toList o.toList i j
 hi:i+1<a.size
 hj:j<b.size
 hn:n<=i+j
theorem QP.putB{a b o c:CM CW}{n i j:Nat}(h:QP U a b n o i j)(m:ML U a.toList b.toList c.toList i (j+1))(e:j+1≠b.size):QP U a b (n+1) c i (j+1):=⟨m,h.hi,DV h.hj e,H_ h.hn⟩
theorem QP.putA{a b o c:CM CW}{n i j:Nat}(h:QP U a b n o i j)(m:ML U a.toList b.toList c.toList (i+1) j)(e:i+1+1≠a.size):QP U a b (n+1) c (i+1) j:=⟨m,DV h.hi e,h.hj,by rw[Nat.add_right_comm];exact H_ h.hn⟩
theorem QP.mono{a b o:CM CW}{n c i j:Nat}(h:QP U a b n o i j)(l:c<=n):QP U a b c o i j:=⟨h.m,h.hi,h.hj,Nat.le_trans l h.hn⟩
def zJj(U:KeyKind)(a b:CM CW)(st:IG)(n:Nat)(c:A5 (CM CW)×CM CW×Nat×Nat×Nat)(d:IG):Prop:=Sm st d/\∃o i j e,c =(none,o,i,j,e)/\QP U a b n o i j
def P_(U:KeyKind)(a b:CM CW)(st:IG)(n:Nat)(c:A5 (CM CW)×CM CW×Nat×Nat×Nat×Nat)(d:IG):Prop:=Sm st d/\∃o i j e f,c =(none,o,i,j,e,f)/\QP U a b n o i j
def QQ(U:KeyKind)(a b:CM CW)(st:IG)(n:Nat)(c:A5 (CM CW)×CM CW×Nat×Nat×Nat×Nat×Nat)(d:IG):Prop:=Sm st d/\∃o i j e f g,c =(none,o,i,j,e,f,g)/\QP U a b n o i j
theorem P_.mk{a b o:CM CW}{st c:IG}{n i j d e:Nat}(f:Sm st c)(h:QP U a b n o i j):P_ U a b st n (none,o,i,j,d,e) c:=⟨f,_,_,_,_,_,rfl,h⟩
theorem QQ.mk{a b o:CM CW}{st c:IG}{n i j mg d e:Nat}(f:Sm st c)(h:QP U a b n o i j):QQ U a b st n (none,o,i,j,mg,d,e) c:=⟨f,_,_,_,_,_,_,rfl,h⟩
theorem Ky(C:RE prog w A s U kd){st:IG}{a b:CM CW}{Q:CM CW->IG->Prop}(hk:kindOf st=kd)(P:NP U a b)
  (h:∀r d,Sm st d->Rm U a b r->Q r d):wpS (model prog w) A E s (Gd a b) Q st:=by
 rw[Ku];obtain⟨b0,O⟩:=d0 (a:=b) (i:=0) P.nb;have m0:ML U a.toList b.toList (#[]:CM CW).toList 0 0:=⟨by simp,List.Pairwise.nil,λx hx=>absurd hx (by simp),λx hx=>absurd hx (by simp)⟩;have m1:ML U a.toList b.toList (#[b0]:CM CW).toList 0 1:=by
  have:=P.pushB m0 O (by rw[FA];exact P.first b0 O);simpa using this
 apply Uf (x0:=b0) (λR z=>wpS_lift (FD ⟨rfl,z⟩)) (λR z=>D9 O z)
 case h1=>exact λS=>wpS_pure (h _ _ (Sm.refl _) (P.doneB m1 (eq_of_beq S)))
 case h2=>exact λ_ T=>wpS_pure (h _ _ (Sm.refl _) (P.lastA m1 (eq_of_beq T)))
 intro S T;have p1:QP U a b 1 #[b0] 0 1:=⟨m1,DV P.na λz=>T (beq_iff_eq.mpr z),DV P.nb λz=>S (beq_iff_eq.mpr z),Nat.le_refl _⟩;refine wpS_mono (wpS_forRange (I:=λx=>zJj U a b st (x+1)) (Q:=MR U a b st) ?st ?en ⟨Sm.refl _,_,_,_,_,rfl,p1⟩) ?po
 case po =>
  rintro⟨c1,c2⟩ d ⟨sm,r,e,hr⟩;cases e;exact wpS_pure (h r d sm hr)
 case en =>
  rintro c d ⟨sm,o,i,j,mg,rfl,p⟩;obtain⟨_,h1,h2,h3⟩:=p;exfalso;lia
 case st =>
  rintro x c d _ hx ⟨sm,o,i,j,mg,rfl,p⟩;refine wpS_bind (wpS_mono (wpS_forRange (I:=λ_=>P_ U a b st (x+1)) (Q:=λc d=>MR U a b st c d\/P_ U a b st (x+1) c d) ?st1 ?en1 (P_.mk sm p)) ?po1)
  case en1=>exact λc st2 z=>.inr z
  case st1 =>
   rintro x2 c st2 _ _ ⟨f,o,i',j',ac,bc,rfl,N⟩;obtain⟨bj,l⟩:=d0 (a:=b) (i:=j') N.hj;obtain⟨ai,n⟩:=d0 (a:=a) (i:=i') (GP N.hi);refine wpS_bind (D9 l (wpS_bind (D9 n (wpS_bind (Jc C (f.knd hk) (P.kb _ _ l) (P.ka _ _ n) ?_)))));refine U4 (λV=>wpS_bind (D9 l ?_)) λV=>wpS_bind (D9 n ?_)
   .have m3:=P.pushB N.m l λz H=>JC (KeyOrd.kle_of_klt V) (Fi P.sa (IP.mp n) z H);refine O4 (λG=>wpS_pure (.inl (MR.mk f (P.doneB m3 G)))) λG=>?_;have D:=(N.putB m3 G).mono (EK _);exact U4 (λ_=>wpS_pure (.inr (P_.mk f D))) λ_=>wpS_pure (P_.mk f D)
   .have m3:=P.pushA N.m n λz H=>JC (show le U ai bj from BQ.mpr V) (Fi P.sb (IP.mp l) z H);refine O4 (λG=>wpS_pure (.inl (MR.mk f (P.lastA m3 G)))) λG=>?_;have D:=(N.putA m3 G).mono (EK _);exact U4 (λ_=>wpS_pure (.inr (P_.mk f D))) λ_=>wpS_pure (P_.mk f D)
  case po1 =>
   rintro⟨c1,c2⟩ st2 (⟨f,r,e,hr⟩ | ⟨f,o2,i2,j2,ac,bc,e,N⟩)
   .cases e;exact wpS_pure (MR.mk f hr)
   .cases e;refine wpS_bind (wpS_lift (FD ⟨rfl,?_⟩));refine wpS_bind (wpS_mono (wpS_forRange (I:=λx3=>QQ U a b st (x+1+x3)) (Q:=λc d=>MR U a b st c d\/QQ U a b st (x+1+1) c d) ?st2 ?en2 (QQ.mk f N)) ?po2)
    case en2 =>
     rintro c st3 ⟨F,o',i',j',mg',ac,bc,rfl,D⟩;refine .inr (QQ.mk F (D.mono ?_));have:=P.na;lia
    case po2 =>
     rintro⟨c1,c2⟩ st3 (⟨F,r,e,hr⟩ | ⟨F,o',i',j',mg',ac,bc,e,D⟩)
     .cases e;exact wpS_pure (MR.mk F hr)
     .cases e;refine wpS_bind (X4 F λst4 B=>?_);exact wpS_pure ⟨B,_,_,_,_,rfl,D⟩
    case st2 =>
     rintro x3 c st3 _ _ ⟨F,o3,W,j3,mg3,ac3,bc3,rfl,D⟩;obtain⟨bj,l⟩:=d0 (a:=b) (i:=j3) D.hj;have hi3:W +(a.size-W)<=a.size:=by rw[Nat.add_sub_cancel' (DT (GP D.hi))];exact Nat.le_refl _
     have hj3:=D.hj;apply Ql (mg3-1) (y:=mg3)
     case e=>exact rfl
     intro g;refine wpS_bind (X4 F λst4 B=>?_);refine wpS_bind (D9 l (wpS_bind (y0 C (B.knd hk) (P.kb _ _ l) hi3 P.ka (λu v p q X _ G Z=>y8 P.sa (ET X _) (IP.mp G) (IP.mp Z)) (Nat.sub_pos_of_lt (GP D.hi)) λk hk1 k1 k2=>?_)));have m4:ML U a.toList b.toList (o3++a.extract W (W+k)).toList (W+k) j3:=P.extA D.m λy hy z H=>by
      obtain⟨t,Y,e⟩:=Dz hy;exact JC (Ey (k1 t y Y (IP.mpr e))) (Fi P.sb (IP.mp l) z H)
     have K:∀z∈a.toList.drop (W+k),le U bj z:=λz H=>by
      obtain⟨t,Y,e⟩:=Kw H;rw[BG]at Y;exact KeyOrd.kle_of_klt (Cw (k2 (k+t) z (DJ _ _) (by lia) (by rw[<-Nat.add_assoc];exact IP.mpr e)))
     apply Fg (o:=o3) (i:=W) (λo i=>QP U a b (x+1+x3) o i j3/\∀z∈a.toList.drop i,le U bj z)
     .rintro o4 i4 ⟨p4,K⟩;refine wpS_bind (D9 l ?_);have m5:=P.pushB p4.m l K;refine O4 (λe3=>wpS_pure (.inl (MR.mk B (P.doneB m5 e3)))) λe3=>?_;have L:=p4.putB m5 e3;generalize o4.push bj=o5 at m5 L⊢;generalize j3+1=j5 at m5 L⊢;obtain⟨ai,n⟩:=d0 (a:=a) (i:=i4) (GP L.hi);refine wpS_bind (D9 n (wpS_bind (y0 C (B.knd hk) (P.ka _ _ n) (by rw[Nat.add_sub_cancel' (DT L.hj)];exact Nat.le_refl _) P.kb (λu v p q X _ G Z=>y8 P.sb (ET X _) (IP.mp G) (IP.mp Z)) (Nat.sub_pos_of_lt L.hj) λk' hk1' k1' k2'=>?_)));have M:∀z∈b.toList.drop (j5+k'),le U ai z:=λz H=>by
       obtain⟨t,Y,e⟩:=Kw H;rw[BG]at Y;exact Ek (k2' (k'+t) z (DJ _ _) (by lia) (by rw[<-Nat.add_assoc];exact IP.mpr e))
      apply Fg (o:=o5) (i:=j5) (λo j=>QP U a b (x+1+x3+1) o i4 j/\∀z∈b.toList.drop j,le U ai z)
      .rintro o6 j6 ⟨p6,M⟩;refine wpS_bind (D9 n ?_);have m7:=P.pushA p6.m n M;refine O4 (λe5=>wpS_pure (.inl (MR.mk B (P.lastA m7 e5)))) λe5=>?_;have p7:=p6.putA m7 e5;exact U4 (λ_=>wpS_pure (.inr (QQ.mk B (p7.mono (by lia))))) λ_=>wpS_pure (QQ.mk B (p7.mono (by lia)))
      .intro hF J;have m6:ML U a.toList b.toList (o5++b.extract j5 (j5+k')).toList i4 (j5+k'):=P.extB m5 λy hy z H=>by
        obtain⟨t,Y,e⟩:=Dz hy;exact JC (KeyOrd.kle_of_klt (Jw (k1' t y Y (IP.mpr e)))) (Fi P.sa (IP.mp n) z H)
       have hj5:=L.hj;exact O4 (λe4=>wpS_pure (.inl (MR.mk B (P.doneB m6 e4)))) λe4=>hF _ _ ⟨⟨m6,L.hi,by lia,Nat.le_trans L.hn (by lia)⟩,M⟩
      .intro J;have z0:k'=0:=GG J;subst z0;exact⟨L,M⟩
     .intro hF J;have hi:=D.hi;exact O4 (λG=>wpS_pure (.inl (MR.mk B (P.lastA m4 G)))) λG=>O4 (λZ=>wpS_pure (.inl (MR.mk B (P.doneA m4 Z)))) λZ=>hF _ _ ⟨⟨m4,by lia,D.hj,Nat.le_trans D.hn (by lia)⟩,K⟩
     .intro J;have z0:k=0:=GG J;subst z0;exact⟨D,K⟩
end
section
variable{prog:A7}{w:F8}{A:IM}{E:A3->A4->Prop}{s:A4}{U:KeyKind}{kd:JE}
def Fy:CM CW->CM CW->StateT IG Sem (CM CW):=sortPriv% PySem.Builtin.mergeHi
theorem Kf(a b:CM CW):Fy a b =(do
  rule "list.sort.merge-hi"
  let e:=a.size+b.size
  let d (o:CM CW) (i j:Nat):=a.extract 0 i++b.extract 0 j++o.reverse
  let h (o:CM CW) (i j:Nat):=b.extract 0 j++a.extract 0 i++o.reverse
  let mut i:=a.size-1
  let mut j:=b.size
  let mut o:CM CW:=#[<-elem' a i]
  if i == 0 then return d o i j
  if j == 1 then return h o i j
  let mut mg:=gallopOf (<-get)
  for _ in [0:e] do
   let mut f:=0
   let mut g:=0
   for _ in [0:e] do
    let some l <-lt' (<-elem' b (j-1)) (<-elem' a (i-1)) | return d o i j
    if l then
     i:=i-1;o:=o.push (<-elem' a i);f:=f+1;g:=0
     if i == 0 then return d o i j
     if f ≥ mg then break
    else
     j:=j-1;o:=o.push (<-elem' b j);g:=g+1;f:=0
     if j == 1 then return h o i j
     if g ≥ mg then break
   rule "list.sort.gallop"
   mg:=mg+1
   for _ in [0:e] do
    if mg>1 then mg:=mg-1
    Br mg
    let some c <-V0 false (<-elem' b (j-1)) a 0 i (i-1) | return d o i j
    let k:=i-c
    f:=k
    if k>0 then
     o:=o ++(a.extract c i).reverse;i:=c
     if i == 0 then return d o i j
    j:=j-1;o:=o.push (<-elem' b j)
    if j == 1 then return h o i j
    let some c <-V0 true (<-elem' a (i-1)) b 0 j (j-1) | return d o i j
    let k:=j-c
    g:=k
    if k>0 then
     o:=o ++(b.extract c j).reverse;j:=c
     if j == 1 then return h o i j
     if j == 0 then return d o i j
    i:=i-1;o:=o.push (<-elem' a i)
    if i == 0 then return d o i j
    if f<7&&g<7 then break
   mg:=mg+1
   Br mg
  unsupported "internal:list.sort.merge-bound"):=rfl
abbrev PQ(U:KeyKind)(a b o:CM CW)(i j:Nat):Prop:=MH U a.toList b.toList o.toList.reverse i j
section
variable{a b o:CM CW}{i j k:Nat}{p q:CW}
theorem td1{l:A1 CW}{i:Nat}{p:CW}(hi:1<=i)(h:l[i-1]?=some p):(l.take i).drop (i-1) = [p]:=by
 rw[GR,show i-(i-1)=1 by lia];exact Qi h
theorem Jr(a:CM CW)(k i:Nat):(a.extract k i).toList =(a.toList.take i).drop k:=by
 rw[FB,EX,GR]
theorem Fp{l:A1 CW}(h:LC U l){i:Nat}{p:CW}(a:l[i-1]?=some p):∀z∈l.take i,le U z p:=λz b=>by
 obtain⟨t,c,_,e⟩:=Pr b;exact y8 h (by lia) e a
theorem NP.hpA(P:NP U a b)(m:PQ U a b o i j)(hi:1<=i)(c:a[i-1]?=some p)(h:∀z∈b.toList.take j,le U z p):PQ U a b (o.push p) (i-1) j:=by
 have d:=m.addA P.sa (i-1) (by lia) (by rw[td1 hi (IP.mp c)];intro y e;rw[AD.mp e];exact h);rw[td1 hi (IP.mp c)]at d;unfold PQ;rw[DU,G_];exact d
theorem NP.hpB(P:NP U a b)(m:PQ U a b o i j)(c:1<=j)(d:b[j-1]?=some q)(h:∀z∈a.toList.take i,le U z q):PQ U a b (o.push q) i (j-1):=by
 have e:=m.addB P.sb (j-1) (by lia) (by rw[td1 c (IP.mp d)];intro y f;rw[AD.mp f];exact h);rw[td1 c (IP.mp d)]at e;unfold PQ;rw[DU,G_];exact e
theorem NP.heA(P:NP U a b)(m:PQ U a b o i j)(c:k<=i)(h:∀y∈(a.toList.take i).drop k,∀z∈b.toList.take j,le U z y):PQ U a b (o ++(a.extract k i).reverse) k j:=by
 unfold PQ;rw[BS,FZ,G_,List.reverse_reverse,Jr];exact m.addA P.sa k c h
theorem NP.heB(P:NP U a b)(m:PQ U a b o i j)(c:k<=j)(h:∀y∈(b.toList.take j).drop k,∀z∈a.toList.take i,le U z y):PQ U a b (o ++(b.extract k j).reverse) i k:=by
 unfold PQ;rw[BS,FZ,G_,List.reverse_reverse,Jr];exact m.addB P.sb k c h
theorem NP.hdA(P:NP U a b)(m:PQ U a b o i j)(hi:i=0):Rm U a b (a.extract 0 i++b.extract 0 j++o.reverse):=by
 unfold Rm;rw[BS,BS,FZ,w4,w4];refine m.endA P.sa P.sb λy c z _=>?_;rw[hi,List.take_zero]at c;exact absurd c (by simp)
theorem NP.hdB(P:NP U a b)(m:PQ U a b o i j)(d:j=0):Rm U a b (a.extract 0 i++b.extract 0 j++o.reverse):=by
 unfold Rm;rw[BS,BS,FZ,w4,w4];refine m.endA P.sa P.sb λy _ z c=>?_;rw[d,List.take_zero]at c;exact absurd c (by simp)
theorem NP.hfB(P:NP U a b)(m:PQ U a b o i j)(g:j=1):Rm U a b (b.extract 0 j++a.extract 0 i++o.reverse):=by
 unfold Rm;rw[BS,BS,FZ,w4,w4];refine m.endB P.sa P.sb λy c z d=>?_;obtain⟨t,h,_,e⟩:=Pr c;have f:t=0:=by lia
 rw[f]at e;exact P.first y (IP.mpr e) z (CJ d)
end
structure PP(U:KeyKind)(a b:CM CW)(n:Nat)(o:CM CW)(i j:Nat):Prop where
 m:PQ U a b o i j
 hi:1<=i
 hj:2<=j
 ia:i<=a.size
 jb:j<=b.size
 hn:n+i+j<=a.size+b.size
theorem PP.putA{a b o c:CM CW}{n i j:Nat}(h:PP U a b n o i j)(m:PQ U a b c (i-1) j)(e:i-1≠0):PP U a b (n+1) c (i-1) j:=by
 obtain⟨_,g,d,k,f,l⟩:=h;exact⟨m,by lia,d,by lia,f,by lia⟩
theorem PP.putB{a b o c:CM CW}{n i j:Nat}(h:PP U a b n o i j)(m:PQ U a b c i (j-1))(e:j-1≠1):PP U a b (n+1) c i (j-1):=by
 obtain⟨_,d,g,f,k,l⟩:=h;exact⟨m,d,by lia,f,by lia,by lia⟩
theorem PP.mono{a b o:CM CW}{n c i j:Nat}(h:PP U a b n o i j)(l:c<=n):PP U a b c o i j:=⟨h.m,h.hi,h.hj,h.ia,h.jb,Nat.le_trans (Nat.add_le_add_right (Nat.add_le_add_right l _) _) h.hn⟩
theorem PP.la{a b o:CM CW}{n i j:Nat}(h:PP U a b n o i j):i-1<a.size:=BK (Nat.sub_lt h.hi (HJ)) h.ia
theorem PP.lb{a b o:CM CW}{n i j:Nat}(h:PP U a b n o i j):j-1<b.size:=BK (Nat.sub_lt (GP h.hj) (HJ)) h.jb
theorem PP.hj1{a b o:CM CW}{n i j:Nat}(h:PP U a b n o i j):1<=j:=Nat.le_of_succ_le h.hj
def zIs(U:KeyKind)(a b:CM CW)(st:IG)(n:Nat)(c:A5 (CM CW)×Nat×Nat×CM CW×Nat)(d:IG):Prop:=Sm st d/\∃i j o e,c =(none,i,j,o,e)/\PP U a b n o i j
def QA(U:KeyKind)(a b:CM CW)(st:IG)(n:Nat)(c:A5 (CM CW)×Nat×Nat×CM CW×Nat×Nat)(d:IG):Prop:=Sm st d/\∃i j o e f,c =(none,i,j,o,e,f)/\PP U a b n o i j
def QR(U:KeyKind)(a b:CM CW)(st:IG)(n:Nat)(c:A5 (CM CW)×Nat×Nat×CM CW×Nat×Nat×Nat)(d:IG):Prop:=Sm st d/\∃i j o e f g,c =(none,i,j,o,e,f,g)/\PP U a b n o i j
theorem QA.mk{a b o:CM CW}{st c:IG}{n i j d e:Nat}(f:Sm st c)(h:PP U a b n o i j):QA U a b st n (none,i,j,o,d,e) c:=⟨f,_,_,_,_,_,rfl,h⟩
theorem QR.mk{a b o:CM CW}{st c:IG}{n i j mg d e:Nat}(f:Sm st c)(h:PP U a b n o i j):QR U a b st n (none,i,j,o,mg,d,e) c:=⟨f,_,_,_,_,_,_,rfl,h⟩
theorem Lc(C:RE prog w A s U kd){st:IG}{a b:CM CW}{Q:CM CW->IG->Prop}(hk:kindOf st=kd)(P:NP U a b)
  (h:∀r f,Sm st f->Rm U a b r->Q r f):wpS (model prog w) A E s (Fy a b) Q st:=by
 rw[Kf];have hna:=P.na;have hnb:=P.nb;obtain⟨b0,V⟩:=d0 (a:=a) (i:=a.size-1) (Nat.sub_lt hna HJ);have m0:PQ U a b (#[]:CM CW) a.size b.size:=⟨by simp,List.Pairwise.nil,λx hx=>absurd hx (by simp),λx hx=>absurd hx (by simp)⟩;have m1:PQ U a b (#[b0]:CM CW) (a.size-1) b.size:=by
  have:=P.hpA m0 hna V (λz J=>P.last b0 V z (CJ J));simpa using this
 apply Uf (x0:=b0) (λR z=>wpS_lift (FD ⟨rfl,z⟩)) (λR z=>D9 V z)
 case h1=>exact λN=>wpS_pure (h _ _ (Sm.refl _) (P.hdA m1 (eq_of_beq N)))
 case h2=>exact λ_ O=>wpS_pure (h _ _ (Sm.refl _) (P.hfB m1 (eq_of_beq O)))
 intro N O;have N:¬a.size-1=0:=λz=>N (beq_iff_eq.mpr z);have O:¬b.size=1:=λz=>O (beq_iff_eq.mpr z);have p1:PP U a b 1 #[b0] (a.size-1) b.size:=⟨m1,by lia,by lia,by lia,by lia,by lia⟩;refine wpS_mono (wpS_forRange (I:=λx=>zIs U a b st (x+1)) (Q:=MR U a b st) ?st ?en ⟨Sm.refl _,_,_,_,_,rfl,p1⟩) ?po
 case po =>
  rintro⟨c1,c2⟩ f ⟨sm,r,e,hr⟩;cases e;exact wpS_pure (h r f sm hr)
 case en =>
  rintro c f ⟨sm,i,j,o,mg,rfl,p⟩;obtain⟨_,h1,h2,_,_,h3⟩:=p;exfalso;lia
 case st =>
  rintro x c f _ hx ⟨sm,i,j,o,mg,rfl,p⟩;refine wpS_bind (wpS_mono (wpS_forRange (I:=λ_=>QA U a b st (x+1)) (Q:=λc f=>MR U a b st c f\/QA U a b st (x+1) c f) ?st1 ?en1 (QA.mk sm p)) ?po1)
  case en1=>exact λc st2 z=>.inr z
  case st1 =>
   rintro x2 c st2 _ _ ⟨l,i',j',o,ac,bc,rfl,M⟩;obtain⟨bj,n⟩:=d0 (a:=b) (i:=j' - 1) M.lb;obtain⟨ai,B⟩:=d0 (a:=a) (i:=i' - 1) M.la;refine wpS_bind (D9 n (wpS_bind (D9 B (wpS_bind (Jc C (l.knd hk) (P.kb _ _ n) (P.ka _ _ B) ?_)))));refine U4 (λW=>wpS_bind (D9 B ?_)) λW=>wpS_bind (D9 n ?_)
   .have m3:=P.hpA M.m M.hi B λz J=>JC (Fp P.sb (IP.mp n) z J) (KeyOrd.kle_of_klt W);refine O4 (λH=>wpS_pure (.inl (MR.mk l (P.hdA m3 H)))) λH=>?_;have F:=(M.putA m3 H).mono (EK _);exact U4 (λ_=>wpS_pure (.inr (QA.mk l F))) λ_=>wpS_pure (QA.mk l F)
   .have m3:=P.hpB M.m M.hj1 n λz J=>JC (Fp P.sa (IP.mp B) z J) (show le U ai bj from BQ.mpr W);refine O4 (λH=>wpS_pure (.inl (MR.mk l (P.hfB m3 H)))) λH=>?_;have F:=(M.putB m3 H).mono (EK _);exact U4 (λ_=>wpS_pure (.inr (QA.mk l F))) λ_=>wpS_pure (QA.mk l F)
  case po1 =>
   rintro⟨c1,c2⟩ st2 (⟨l,r,e,hr⟩ | ⟨l,i2,j2,o2,ac,bc,e,M⟩)
   .cases e;exact wpS_pure (MR.mk l hr)
   .cases e;refine wpS_bind (wpS_lift (FD ⟨rfl,?_⟩));refine wpS_bind (wpS_mono (wpS_forRange (I:=λx3=>QR U a b st (x+1+x3)) (Q:=λc f=>MR U a b st c f\/QR U a b st (x+1+1) c f) ?st2 ?en2 (QR.mk l M)) ?po2)
    case en2 =>
     rintro c st3 ⟨G,i',j',o',mg',ac,bc,rfl,F⟩;exact .inr (QR.mk G (F.mono (by lia)))
    case po2 =>
     rintro⟨c1,c2⟩ st3 (⟨G,r,e,hr⟩ | ⟨G,i',j',o',mg',ac,bc,e,F⟩)
     .cases e;exact wpS_pure (MR.mk G hr)
     .cases e;refine wpS_bind (X4 G λst4 D=>?_);exact wpS_pure ⟨D,_,_,_,_,rfl,F⟩
    case st2 =>
     rintro x3 c st3 _ _ ⟨G,i3,j3,o3,mg3,ac3,bc3,rfl,F⟩;obtain⟨bj,n⟩:=d0 (a:=b) (i:=j3-1) F.lb;apply Ql (mg3-1) (y:=mg3)
     case e=>exact rfl
     intro g;refine wpS_bind (X4 G λst4 D=>?_);refine wpS_bind (D9 n (wpS_bind (y0 C (D.knd hk) (P.kb _ _ n) (by rw[EF];exact F.ia) P.ka (λu v p q X _ H e2=>y8 P.sa (ET X _) (IP.mp H) (IP.mp e2)) (Nat.sub_lt F.hi HJ) λk Y k1 k2=>?_)));dsimp only;have m4:PQ U a b (o3 ++(a.extract k i3).reverse) k j3:=P.heA F.m Y λy hy z J=>by
      obtain⟨t,Z,ht2,e⟩:=Yx hy;exact JC (Fp P.sb (IP.mp n) z J) (KeyOrd.kle_of_klt (Cw (k2 t y Z ht2 (by rw[EF];exact IP.mpr e))))
     have S:∀z∈a.toList.take k,le U z bj:=λz J=>by
      obtain⟨t,ht,_,e⟩:=Pr J;exact Ey (k1 t z ht (by rw[EF];exact IP.mpr e))
     generalize hd:i3-k=d;apply Fg (o:=o3) (i:=i3) (λo i=>PP U a b (x+1+x3) o i j3/\∀z∈a.toList.take i,le U z bj)
     .rintro o4 i4 ⟨p4,S⟩;refine wpS_bind (D9 n ?_);have m5:=P.hpB p4.m p4.hj1 n S;refine O4 (λe3=>wpS_pure (.inl (MR.mk D (P.hfB m5 e3)))) λe3=>?_;have p5:=p4.putB m5 e3;generalize o4.push bj=o5 at m5 p5⊢;generalize j3-1=j5 at m5 p5⊢;obtain⟨ai,B⟩:=d0 (a:=a) (i:=i4-1) p5.la;refine wpS_bind (D9 B (wpS_bind (y0 C (D.knd hk) (P.ka _ _ B) (by rw[EF];exact p5.jb) P.kb (λu v p q X _ H e2=>y8 P.sb (ET X _) (IP.mp H) (IP.mp e2)) (Nat.sub_lt p5.hj1 HJ) λk' K k1' k2'=>?_)));dsimp only;have T:∀z∈b.toList.take k',le U z ai:=λz J=>by
       obtain⟨t,ht,_,e⟩:=Pr J;exact KeyOrd.kle_of_klt (Jw (k1' t z ht (by rw[EF];exact IP.mpr e)))
      generalize hd':j5-k'=d';apply Fg (o:=o5) (i:=j5) (λo j=>PP U a b (x+1+x3+1) o i4 j/\∀z∈b.toList.take j,le U z ai)
      .rintro o6 j6 ⟨p6,T⟩;refine wpS_bind (D9 B ?_);have m7:=P.hpA p6.m p6.hi B T;refine O4 (λe5=>wpS_pure (.inl (MR.mk D (P.hdA m7 e5)))) λe5=>?_;have p7:=p6.putA m7 e5;exact U4 (λ_=>wpS_pure (.inr (QR.mk D (p7.mono (by lia))))) λ_=>wpS_pure (QR.mk D (p7.mono (by lia)))
      .intro hF L;have m6:PQ U a b (o5 ++(b.extract k' j5).reverse) i4 k':=P.heB m5 K λy hy z J=>by
        obtain⟨t,Z,ht2,e⟩:=Yx hy;exact JC (Fp P.sa (IP.mp B) z J) (Ek (k2' t y Z ht2 (by rw[EF];exact IP.mpr e)))
       obtain⟨_,h1,h2,h3,h4,h5⟩:=p5;exact O4 (λe4=>wpS_pure (.inl (MR.mk D (P.hfB m6 e4)))) λe4=>O4 (λe5=>wpS_pure (.inl (MR.mk D (P.hdB m6 e5)))) λe5=>hF _ _ ⟨⟨m6,h1,by lia,h3,Nat.le_trans K h4,by lia⟩,T⟩
      .intro L;have z0:k'=j5:=Nat.le_antisymm K (Nat.le_of_sub_eq_zero (hd'.trans (GG L)));subst z0;exact⟨p5,T⟩
     .intro hF L;obtain⟨_,h1,h2,h3,h4,h5⟩:=F;exact O4 (λH=>wpS_pure (.inl (MR.mk D (P.hdA m4 H)))) λH=>hF _ _ ⟨⟨m4,by lia,h2,Nat.le_trans Y h3,h4,by lia⟩,S⟩
     .intro L;have z0:k=i3:=Nat.le_antisymm Y (Nat.le_of_sub_eq_zero (hd.trans (GG L)));subst z0;exact⟨F,S⟩
end
section
variable{prog:A7}{w:F8}{A:IM}{E:A3->A4->Prop}{s:A4}{U:KeyKind}{kd:JE}
def JX(l:A1 CW)(lo n:Nat):A1 CW:=(l.drop lo).take n
theorem Ss(m:A1 CW)(lo:Nat):∀(n:Nat) (a:CM CW),lo+n+m.length<=a.size ->
  ((m.zipIdx n).foldl (λa (x:CW×Nat)=>a.setIfInBounds (lo+x.2) x.1) a).size=a.size /\
  ∀t:Nat,((m.zipIdx n).foldl (λa (x:CW×Nat)=>a.setIfInBounds (lo+x.2) x.1) a)[t]?=if lo+n<=t/\t<lo+n+m.length then m[t-(lo+n)]? else a[t]?:=by
 induction m with
 | nil =>
  intro n a h;refine⟨rfl,λt=>?_⟩;rw[AN (by simp only[FE];lia)];rfl
 | cons p m d =>
  intro n a h;rw[BO]at h;rw[List.zipIdx_cons,List.foldl_cons];obtain⟨e,f⟩:=d (n+1) (a.setIfInBounds (lo+n) p) (by rw[HB];lia);refine⟨e.trans HB,λt=>?_⟩;rw[f t,BO];by_cases b:lo+n=t
  .subst b;rw[AN (by lia),AO (by lia),Array.getElem?_setIfInBounds_self_of_lt (by lia),Nat.sub_self];rfl
  .by_cases c:lo +(n+1)<=t/\t<lo +(n+1)+m.length
   .rw[AO c,AO (by lia),show t-(lo+n) =(t-(lo +(n+1)))+1 by lia,List.getElem?_cons_succ]
   .rw[AN c,AN (by lia),Array.getElem?_setIfInBounds_ne b]
theorem Da(m:A1 CW)(lo:Nat)(a:CM CW)(h:lo+m.length<=a.size) :
  (m.zipIdx.foldl (λa (x:CW×Nat)=>a.setIfInBounds (lo+x.2) x.1) a).toList=a.toList.take lo++m++a.toList.drop (lo+m.length):=by
 obtain⟨e,c⟩:=Ss m lo 0 a (by lia);refine F_ λt=>?_;rw[BU,c t];have b:(a.toList.take lo).length=lo:=by rw[AW,BG];lia
 by_cases d:t<lo
 .rw[AN (by lia),BM,DA (by lia),DK d,BU]
 .by_cases f:t<lo+m.length
  .rw[AO (by lia),DA (by rw[AU];lia),CY (by lia),b];rfl
  .rw[AN (by lia),CY (by rw[AU];lia),AU,b,GH,BU];congr 1;lia
theorem Qs(l:A1 CW)(lo n:Nat):l=l.take lo++JX l lo n++l.drop (lo+n):=by
 unfold JX;rw[BM,<-FN,B_,B_]
theorem Ju(l:A1 CW)(lo n m:Nat):JX l lo (n+m)=JX l lo n++JX l (lo+n) m:=by
 unfold JX;rw[List.take_add,FN]
structure LQ(U:KeyKind)(l l':A1 CW)(lo n:Nat):Prop where
 perm:l'.Perm l
 front:l'.take lo=l.take lo
 back:l'.drop (lo+n)=l.drop (lo+n)
theorem LQ.refl(l:A1 CW)(lo n:Nat):LQ U l l lo n:=⟨GS _,rfl,rfl⟩
theorem LQ.seg_front{l a:A1 CW}{lo n:Nat}(h:LQ U l a lo n){u m:Nat}(b:u+m<=lo):JX a u m=JX l u m:=by
 have:∀x:A1 CW,JX x u m =((x.take lo).drop u).take m:=λx=>by
  unfold JX;rw[GR,HR,FR (by lia)]
 rw[this,this,h.front]
theorem LQ.seg_back{l a:A1 CW}{lo n:Nat}(h:LQ U l a lo n){u m:Nat}(b:lo+n<=u):JX a u m=JX l u m:=by
 have:∀x:A1 CW,JX x u m =((x.drop (lo+n)).drop (u-(lo+n))).take m:=λx=>by
  unfold JX;rw[FN,show lo+n +(u-(lo+n))=u by lia]
 rw[this,this,h.back]
theorem LQ.of{l z:A1 CW}{lo n:Nat}(hz:z.Perm (JX l lo n))(c:lo+n<=l.length):LQ U l (l.take lo++z++l.drop (lo+n)) lo n/\JX (l.take lo++z++l.drop (lo+n)) lo n=z:=by
 have a:(l.take lo).length=lo:=by rw[AW];lia
 have b:z.length=n:=by
  rw[hz.length_eq];unfold JX;rw[AW,DD];lia
 refine⟨⟨?_,?_,?_⟩,?_⟩
 .conv=>rhs;rw[Qs l lo n]
  exact DW _ (DQ _ hz)
 .rw[BM,List.take_append_of_le_length (by lia),CQ (by lia)]
 .rw[List.drop_append,FG (by rw[AU];lia),HK,AU,a,b,Nat.sub_self,FA]
 .unfold JX;rw[BM,List.drop_append,FG (by lia),HK,a,Nat.sub_self,FA,List.take_append_of_le_length (by lia),CQ (by lia)]
structure St(U:KeyKind)(kd:JE)(a₀:CM CW)(st:IG):Prop where
 perm:(arrOf st).toList.Perm a₀.toList
 kind:kindOf st=kd
 failed:failedOf st=none
theorem St.size{a₀:CM CW}{st:IG}(h:St U kd a₀ st):(arrOf st).size=a₀.size:=by
 have:=h.perm.length_eq;simpa using this
theorem St.has{a₀:CM CW}{st:IG}(h:St U kd a₀ st)(b:KeysOf U a₀)(i:Nat)(p:CW)(e:(arrOf st)[i]?=some p):R6 U p :=
 b p (h.perm.mem_iff.mp (AM (IP.mp e)))
theorem Q4{l:A1 CW}{lo n t:Nat}(a:t<n):(JX l lo n)[t]?=l[lo+t]?:=by
 unfold JX;rw[DK a,GH]
theorem Jx(i:Nat):mergeAt' i =(do
  let u <-get
  let(some (b,c,f),some (e,d,_)):=((pendingOf u)[i]?,(pendingOf u)[i+1]?) | unsupported "internal:list.sort.pending"
  set (setPending u (((pendingOf u).setIfInBounds i (b,c+d,f)).eraseIdxIfInBounds (i+1)))
  let some k <-V0 false (<-elem' (arrOf u) e) (arrOf u) b c 0 | return false
  let(b,c):=(b+k,c-k)
  if c == 0 then return true
  let some d <-V0 true (<-elem' (arrOf u) (b+c-1)) (arrOf u) e d (d-1) | return false
  if d == 0 then return true
  let x:=(arrOf u).extract b e
  let y:=(arrOf u).extract e (e+d)
  let g <-if c<=d then Gd x y else Fy x y
  modify λv=>setArr v (g.toList.zipIdx.foldl (λa (z:CW×Nat)=>a.setIfInBounds (b+z.2) z.1) (arrOf v))
  return(failedOf (<-get)).isNone):=rfl
theorem zBf{st st2:IG}{Q:PUnit->IG->Prop}(h:Q ⟨⟩ st2):wpS (model prog w) A E s (set st2:StateT IG Sem PUnit) Q st:=by
 unfold wpS;rw[StateT.run_set];exact AG ⟨rfl,h⟩
theorem Jl(C:RE prog w A s U kd){a₀:CM CW}(L:KeysOf U a₀){st:IG}{i b c pw sb f pw2:Nat}{Q:Bool->IG->Prop}(j:St U kd a₀ st)
  (hi:(pendingOf st)[i]?=some (b,c,pw)) (hj:(pendingOf st)[i+1]?=some (sb,f,pw2)) (hsb:sb=b+c) (hsz:sb+f<=a₀.size) (hna:1<=c) (hnb:1<=f)
  (N:LC U (JX (arrOf st).toList b c)) (O:LC U (JX (arrOf st).toList sb f))
  (h:∀n,St U kd a₀ n->LQ U (arrOf st).toList (arrOf n).toList b (c+f)->LC U (JX (arrOf n).toList b (c+f)) ->
   pendingOf n =((pendingOf st).setIfInBounds i (b,c+f,pw)).eraseIdxIfInBounds (i+1)->Q true n):wpS (model prog w) A E s (mergeAt' i) Q st:=by
 subst hsb;have hL:(arrOf st).toList.length=a₀.size:=by rw[BG];exact j.size
 have hsz':=j.size;rw[Jx];refine wpS_bind (wpS_get ?_);rw[hi,hj];dsimp only;refine wpS_bind (zBf ?_);obtain⟨R,D⟩:=d0 (a:=arrOf st) (i:=b+c) (by lia);have S:∀u v p q,u<=v->v<c->(arrOf st)[b+u]?=some p->(arrOf st)[b+v]?=some q->le U p q:=λu v p q H hv T F =>
  y8 N H (by rw[Q4 (by lia)];exact IP.mp T) (by rw[Q4 hv];exact IP.mp F)
 have V:∀u v p q,u<=v->v<f->(arrOf st)[b+c+u]?=some p->(arrOf st)[b+c+v]?=some q->le U p q:=λu v p q H hv T F =>
  y8 O H (by rw[Q4 (by lia)];exact IP.mp T) (by rw[Q4 hv];exact IP.mp F)
 refine wpS_bind (D9 D (wpS_bind (y0 C j.kind (j.has L _ _ D) (by lia) (j.has L) S (by lia) λk hk1 k1 k2=>?_)));dsimp only;have W:∀z∈JX (arrOf st).toList (b+c) f,le U R z:=λz I=>by
  obtain⟨t,l,e⟩:=Dz I;exact V 0 t R z (by lia) l D (IP.mpr e)
 have xk:∀x∈(JX (arrOf st).toList b c).take k,le U x R:=λx hx=>by
  obtain⟨t,l,o,e⟩:=Pr hx;unfold JX at o;rw[AW]at o;rw[Q4 (by lia)]at e;exact Ey (k1 t x l (IP.mpr e))
 have kx:∀x∈(JX (arrOf st).toList b c).drop k,le U R x:=λx hx=>by
  obtain⟨t,l,e⟩:=Kw hx;unfold JX at l;rw[AW]at l;rw[Q4 (by lia)]at e;exact KeyOrd.kle_of_klt (Cw (k2 (k+t) x (by lia) (by lia) (IP.mpr e)))
 have X:St U kd a₀ (setPending st (((pendingOf st).setIfInBounds i (b,c+f,pw)).eraseIdxIfInBounds (i+1))):=⟨j.perm,j.kind,j.failed⟩;by_cases Y:c-k=0
 .rw[AO (by simpa using Y)];have hkk:k=c:=by lia
  refine wpS_pure (h _ X (LQ.refl _ _ _) ?_ rfl);show LC U (JX (arrOf st).toList b (c+f));rw[Ju];refine CF.mpr ⟨N,O,λx hx y hy=>JC (xk x ?_) (W y hy)⟩;rw[CQ (by unfold JX;rw[AW];lia)];exact hx
 rw[AN (by simpa using Y)];obtain⟨M,J⟩:=d0 (a:=arrOf st) (i:=b+k +(c-k)-1) (by lia);refine wpS_bind (D9 J (wpS_bind (y0 C X.kind (j.has L _ _ J) (by lia) (j.has L) V (by lia) λg Z k1' k2'=>?_)));dsimp only;have G:(arrOf st)[b +(c-1)]?=some M:=by rw[show b +(c-1)=b+k +(c-k)-1 by lia];exact J
 have K:∀x∈JX (arrOf st).toList b c,le U x M:=λx hx=>by
  obtain⟨t,l,e⟩:=Dz hx;exact S t (c-1) x M (by lia) (by lia) (IP.mpr e) G
 have yk:∀y∈(JX (arrOf st).toList (b+c) f).take g,le U y M:=λy hy=>by
  obtain⟨t,l,o,e⟩:=Pr hy;unfold JX at o;rw[AW]at o;rw[Q4 (by lia)]at e;exact KeyOrd.kle_of_klt (Jw (k1' t y l (IP.mpr e)))
 have ky:∀y∈(JX (arrOf st).toList (b+c) f).drop g,le U M y:=λy hy=>by
  obtain⟨t,l,e⟩:=Kw hy;unfold JX at l;rw[AW]at l;rw[Q4 (by lia)]at e;exact Ek (k2' (g+t) y (by lia) (by lia) (IP.mpr e))
 by_cases B:g=0
 .rw[AO (by simpa using B)];refine wpS_pure (h _ X (LQ.refl _ _ _) ?_ rfl);show LC U (JX (arrOf st).toList b (c+f));rw[Ju];refine CF.mpr ⟨N,O,λx hx y hy=>JC (K x hx) (ky y ?_)⟩;rw[B,FA];exact hy
 rw[AN (by simpa using B)];have ex:((arrOf st).extract (b+k) (b+c)).toList =(JX (arrOf st).toList b c).drop k:=by
  rw[Jr];unfold JX;rw[GR,GR,FN];congr 1;lia
 have ey:((arrOf st).extract (b+c) (b+c+g)).toList =(JX (arrOf st).toList (b+c) f).take g:=by
  rw[Et];unfold JX;rw[HR,FR Z]
 have P:NP U ((arrOf st).extract (b+k) (b+c)) ((arrOf st).extract (b+c) (b+c+g)):=by
  refine⟨by rw[ex];exact N.sublist (FX _ _),by rw[ey];exact O.sublist (EN _ _),λt p e=>?_,λt p e=>?_,?_,?_,λq e z I=>?_,λp e z I=>?_⟩
  .have m:=AM (IP.mp e);rw[ex]at m;obtain⟨u,_,F⟩:=Dz (EJ m);exact j.has L _ p (IP.mpr F)
  .have m:=AM (IP.mp e);rw[ey]at m;obtain⟨u,_,F⟩:=Dz (CJ m);exact j.has L _ p (IP.mpr F)
  .rw[GI];lia
  .rw[GI];lia
  .have m:=IP.mp e;rw[ey,DK (by lia),Q4 (by lia)]at m;have:q=R:=by
    have:=IP.mp D;rw[Nat.add_zero,this]at m;exact(BN m).symm
   subst this;rw[ex]at I;exact kx z I
  .have m:=IP.mp e;rw[ex,GI,GH,Q4 (by lia)]at m;have:p=M:=by
    have q:=IP.mp G;rw[show k +(min (b+c) (arrOf st).size-(b+k)-1)=c-1 by lia,q]at m;exact(BN m).symm
   subst this;rw[ey]at I;exact yk z I
 have fin:∀(r:CM CW) (d:IG),Sm (setPending st (((pendingOf st).setIfInBounds i (b,c+f,pw)).eraseIdxIfInBounds (i+1))) d->Rm U ((arrOf st).extract (b+k) (b+c)) ((arrOf st).extract (b+c) (b+c+g)) r ->
   Q (failedOf (setArr d (r.toList.zipIdx.foldl (λa (z:CW×Nat)=>a.setIfInBounds (b+k+z.2) z.1) (arrOf d)))).isNone (setArr d (r.toList.zipIdx.foldl (λa (z:CW×Nat)=>a.setIfInBounds (b+k+z.2) z.1) (arrOf d))):=by
  rintro r d ⟨q1,q2,q3,q4⟩ ⟨r1,r2⟩;rw[ex,ey]at r2;have hrl:r.toList.length =(c-k)+g:=by
   rw[r2.length_eq,AU];unfold JX;rw[DD,AW,AW,DD,AW,DD];lia
  have q2':arrOf d=arrOf st:=q2;have ef:failedOf (setArr d (r.toList.zipIdx.foldl (λa (z:CW×Nat)=>a.setIfInBounds (b+k+z.2) z.1) (arrOf d)))=none:=q4.trans j.failed;rw[ef];have el:=Da r.toList (b+k) (arrOf d) (by rw[q2'];lia);have eq:(r.toList.zipIdx.foldl (λa (z:CW×Nat)=>a.setIfInBounds (b+k+z.2) z.1) (arrOf d)).toList =(arrOf st).toList.take b ++((JX (arrOf st).toList b c).take k++r.toList ++(JX (arrOf st).toList (b+c) f).drop g) ++(arrOf st).toList.drop (b +(c+f)):=by
   rw[el,q2',hrl];have T:(arrOf st).toList.take (b+k) =(arrOf st).toList.take b ++(JX (arrOf st).toList b c).take k:=by
    unfold JX;rw[List.take_add,HR,FR hk1]
   have F:(arrOf st).toList.drop (b+k +(c-k+g)) =(JX (arrOf st).toList (b+c) f).drop g ++(arrOf st).toList.drop (b +(c+f)):=by
    unfold JX;rw[GR,FN,show b+k +(c-k+g)=b+c+g by lia]
    conv=>lhs;rw[<-B_ (f-g) ((arrOf st).toList.drop (b+c+g))]
    rw[FN,show b+c+g +(f-g)=b +(c+f) by lia]
   rw[T,F];simp only[BM]
  have hp:((JX (arrOf st).toList b c).take k++r.toList ++(JX (arrOf st).toList (b+c) f).drop g).Perm (JX (arrOf st).toList b (c+f)):=by
   rw[Ju];have a1:((JX (arrOf st).toList b c).take k++r.toList ++(JX (arrOf st).toList (b+c) f).drop g).Perm ((JX (arrOf st).toList b c).take k ++((JX (arrOf st).toList b c).drop k ++(JX (arrOf st).toList (b+c) f).take g) ++(JX (arrOf st).toList (b+c) f).drop g) :=
    DW _ (DQ _ r2)
   refine a1.trans (List.Perm.of_eq ?_);rw[<-BM,B_,BM,B_]
  obtain⟨pa,ps⟩:=LQ.of (U:=U) hp (by rw[hL];lia);have hs:LC U ((JX (arrOf st).toList b c).take k++r.toList ++(JX (arrOf st).toList (b+c) f).drop g):=by
   refine CF.mpr ⟨CF.mpr ⟨N.sublist (EN _ _),r1,λx hx y hy=>?_⟩,O.sublist (FX _ _),λx hx y hy=>?_⟩
   .rcases AR.mp (r2.mem_iff.mp hy)with hy | hy
    .exact JC (xk x hx) (kx y hy)
    .exact JC (xk x hx) (W y (CJ hy))
   .rcases AR.mp hx with hx | hx
    .exact JC (K x (CJ hx)) (ky y hy)
    .rcases AR.mp (r2.mem_iff.mp hx)with hx | hx
     .exact JC (K x (EJ hx)) (ky y hy)
     .exact JC (yk x hx) (ky y hy)
  refine h _ ⟨?_,q1.trans j.kind,q4.trans j.failed⟩ ?_ ?_ q3
  .show(r.toList.zipIdx.foldl (λa (z:CW×Nat)=>a.setIfInBounds (b+k+z.2) z.1) (arrOf d)).toList.Perm a₀.toList;rw[eq];exact pa.perm.trans j.perm
  .show LQ U (arrOf st).toList (r.toList.zipIdx.foldl (λa (z:CW×Nat)=>a.setIfInBounds (b+k+z.2) z.1) (arrOf d)).toList b (c+f);rw[eq];exact pa
  .show LC U (JX (r.toList.zipIdx.foldl (λa (z:CW×Nat)=>a.setIfInBounds (b+k+z.2) z.1) (arrOf d)).toList b (c+f));rw[eq,ps];exact hs
 by_cases hab:c-k<=g
 .rw[AO hab];refine wpS_bind (Ky C X.kind P λr d q r1=>?_);exact wpS_bind (wpS_modify (wpS_bind (wpS_get (wpS_pure (fin r d q r1)))))
 .rw[AN hab];refine wpS_bind (Lc C X.kind P λr d q r1=>?_);exact wpS_bind (wpS_modify (wpS_bind (wpS_get (wpS_pure (fin r d q r1)))))
end
section
variable{prog:A7}{w:F8}{A:IM}{E:A3->A4->Prop}{s:A4}{U:KeyKind}{kd:JE}{a₀:CM CW}
theorem Xh{xs:CM CW}{i:Nat}{p:CW}(h:xs[i]?=some p):KK U xs i=kk U p:=by unfold KK kk;rw[h]
def SI(U:KeyKind)(xs:CM CW)(lo m:Nat):Prop:=∀i j,i<=j->j<m->U.kle (KK U xs (lo+i)) (KK U xs (lo+j))
def NI(U:KeyKind)(xs:CM CW)(lo m:Nat):Prop:=∀i j,i<=j->j<m->U.kle (KK U xs (lo+j)) (KK U xs (lo+i))
theorem SI.sor{xs:CM CW}{lo m:Nat}(h:SI U xs lo m):LC U (JX xs.toList lo m):=by
 refine DY.mpr λi j a b c=>?_;unfold JX at a b;rw[AW]at a b;have d:xs[lo+i]?=some (JX xs.toList lo m)[i]:=by
  rw[IP,<-Q4 (n:=m) (by lia)];exact AC _
 have e:xs[lo+j]?=some (JX xs.toList lo m)[j]:=by
  rw[IP,<-Q4 (n:=m) (by lia)];exact AC _
 have:=h i j (by lia) (by lia);rw[Xh d,Xh e]at this;exact this
structure Lo(U:KeyKind)(kd:JE)(a₀:CM CW)(st0:IG)(lo n:Nat)(st:IG):Prop where
 S:St U kd a₀ st
 pend:pendingOf st=pendingOf st0
 out:∀t,t<lo\/lo+n<=t->(arrOf st)[t]? =(arrOf st0)[t]?
theorem Lo.part{st0 st:IG}{lo n:Nat}(h:Lo U kd a₀ st0 lo n st)(c:St U kd a₀ st0):LQ U (arrOf st0).toList (arrOf st).toList lo n:=by
 refine⟨h.S.perm.trans c.perm.symm,F_ λt=>?_,F_ λt=>?_⟩
 .by_cases b:t<lo
  .rw[DK b,DK b,BU,BU];exact h.out t (.inl b)
  .rw[DR (by rw[AW];lia),DR (by rw[AW];lia)]
 .rw[GH,GH,BU,BU];exact h.out _ (.inr (by lia))
theorem Lo.mirror{st0 st:IG}{lo n i j:Nat}(h:Lo U kd a₀ st0 lo n st)(hi:lo<=i)(c:j<=lo+n)(d:lo+n<=a₀.size):Lo U kd a₀ st0 lo n (setArr st (mirror (arrOf st) i j ((j-i) / 2))):=by
 refine⟨⟨(Array.perm_iff_toList_perm.mp (mirror_perm _ _ _ _)).trans h.S.perm,h.S.kind,h.S.failed⟩,h.pend,λt b=>?_⟩;show(PyProof.Rows.mirror (arrOf st) i j ((j-i) / 2))[t]?=_;have:=h.S.size;rw[getElem?_mirror_all (by lia),AN (by lia)];exact h.out t b
theorem Q9(C:RE prog w A s U kd)(e:KeysOf U a₀){st:IG}(b:St U kd a₀ st){i j:Nat}{Q:A5 Bool->IG->Prop}(hi:i<a₀.size)(f:j<a₀.size)
  (h:Q (some (U.blt (KK U (arrOf st) i) (KK U (arrOf st) j))) st):wpS (model prog w) A E s (ltAt' i j) Q st:=by
 have:=b.size;obtain⟨p,c⟩:=d0 (a:=arrOf st) (i:=i) (by lia);obtain⟨q,d⟩:=d0 (a:=arrOf st) (i:=j) (by lia);rw[ltAt'_eq];refine wpS_bind (wpS_get ?_);refine wpS_bind (D9 c (wpS_bind (D9 d (Jc C b.kind (b.has e _ _ c) (b.has e _ _ d) ?_))));rw[Xh c,Xh d]at h;exact h
theorem UI{st:IG}{lo a b:Nat}{f:Nat->(A5 (A5 Nat)×Nat)->StateT IG Sem (ForInStep (A5 (A5 Nat)×Nat))}{Q:(A5 (A5 Nat)×Nat)->IG->Prop}
  (y:∀x n,1<=n->n<b->wpS (model prog w) A E s (f x (none,n)) (λr k=>k=st/\r=if U.blt (KK U (arrOf st) (lo+n)) (KK U (arrOf st) (lo+n-1))=true then .done (none,n)else .yield (none,n+1)) st)
  (B:1<=a) (m:a<=b) (z:SI U (arrOf st) lo a)
  (h:∀n,a<=n->n<=b->SI U (arrOf st) lo n->(n=b\/U.klt (KK U (arrOf st) (lo+n)) (KK U (arrOf st) (lo+n-1)))->Q (none,n) st):wpS (model prog w) A E s (forIn [a:b] (none,a) f) Q st:=by
 refine wpS_forRange (I:=λx c k=>k=st/\c =(none,x)/\SI U (arrOf st) lo x) ?_ ?_ ⟨rfl,rfl,z⟩
 .rintro x c k o p ⟨rfl,rfl,g⟩;refine wpS_mono (y x x (by lia) p) λr l ⟨e,er⟩=>?_;subst e;cases d:U.blt (KK U (arrOf l) (lo+x)) (KK U (arrOf l) (lo+x-1))
  .rw[d,AN BD]at er;subst er;refine⟨rfl,rfl,λi j q C=>?_⟩;by_cases t:j<x
   .exact g i j q t
   .have u:j=x:=by lia
    subst u;by_cases v:i=j
    .subst v;exact KeyOrd.kle_refl _
    .have:=g i (j-1) (by lia) (by lia);rw[show lo +(j-1)=lo+j-1 by lia]at this;exact KeyOrd.kle_trans this d
  .rw[d,AO rfl]at er;subst er;exact h x o (by lia) g (.inr d)
 .rintro c k ⟨rfl,rfl,g⟩;rw[show max a b=b by lia]at g⊢;exact h b m (Nat.le_refl _) g (.inl rfl)
theorem NI.step{xs e:CM CW}{lo x:Nat}(l:1<=x)(f:∀k,KK U e k=KK U xs k)(g:NI U xs lo x)(h:U.kle (KK U xs (lo+x)) (KK U xs (lo+x-1))):NI U e lo (x+1):=by
 intro i j a m;rw[f,f];by_cases b:j<x
 .exact g i j a b
 .have c:j=x:=by lia
  subst c;by_cases d:i=j
  .subst d;exact KeyOrd.kle_refl _
  .have:=g i (j-1) (by lia) (by lia);rw[show lo +(j-1)=lo+j-1 by lia]at this;exact KeyOrd.kle_trans h this
abbrev DS:=A5 (A5 Nat)×Nat×Nat
theorem zEz{st0 st:IG}{lo n d:Nat}(hsz:lo+d<=a₀.size){f:Nat->DS->StateT IG Sem (ForInStep DS)}{Q:DS->IG->Prop}
  (H:∀x n q b,1<=n->n<d->Lo U kd a₀ st0 lo d b->wpS (model prog w) A E s (f x (none,n,q)) (λr st2 =>
   if U.blt (KK U (arrOf b) (lo+n)) (KK U (arrOf b) (lo+n-1))=true then(st2=if q>0 then setArr b (mirror (arrOf b) (lo+n-(q+1)) (lo+n) ((lo+n-(lo+n-(q+1))) / 2))else b)/\r = .yield (none,n+1,0)
   else st2=b/\r=if U.blt (KK U (arrOf b) (lo+n-1)) (KK U (arrOf b) (lo+n))=true then .done (none,n,q)else .yield (none,n+1,q+1)) b)
  (h1:1<=n) (z:n<=d) (J:Lo U kd a₀ st0 lo d st) (K:NI U (arrOf st) lo n)
  (h:∀m q b,Lo U kd a₀ st0 lo d b->n<=m->m<=d->NI U (arrOf b) lo m->q+1<=m->(∀i,m-(q+1)<=i->i<m->KK U (arrOf b) (lo+i)=KK U (arrOf b) (lo+m-1))->Q (none,m,q) b) :
  wpS (model prog w) A E s (forIn [n:d] (none,n,0) f) Q st:=by
 refine wpS_forRange (I:=λx c b=>∃q,c =(none,x,q)/\Lo U kd a₀ st0 lo d b/\NI U (arrOf b) lo x/\q+1<=x /\
   (∀i,x-(q+1)<=i->i<x->KK U (arrOf b) (lo+i)=KK U (arrOf b) (lo+x-1))) ?_ ?_ ⟨0,rfl,J,K,by lia,λi h1 M=>by congr 1;lia⟩
 .rintro x c b B C ⟨q,rfl,j,l,v,p⟩;have L:=j.S.size;refine wpS_mono (H x x q b (by lia) C j) λr st2 y=>?_;cases g:U.blt (KK U (arrOf b) (lo+x)) (KK U (arrOf b) (lo+x-1))
  .rw[g,AN BD]at y;obtain⟨e,er⟩:=y;subst e;cases o:U.blt (KK U (arrOf st2) (lo+x-1)) (KK U (arrOf st2) (lo+x))
   .rw[o,AN BD]at er;subst er;have t:KK U (arrOf st2) (lo+x)=KK U (arrOf st2) (lo+x-1):=KeyOrd.kle_antisymm o g;refine⟨q+1,rfl,j,NI.step (by lia) (λ_=>rfl) l o,by lia,λi D F=>?_⟩;rw[show lo +(x+1)-1=lo+x by lia];by_cases G:i=x
    .subst G;rfl
    .rw[t];exact p i (by lia) (by lia)
   .rw[o,AO rfl]at er;subst er;exact h x q st2 j B (by lia) l v p
  .rw[g,AO rfl]at y;obtain⟨e,er⟩:=y;subst er;have o:U.kle (KK U (arrOf b) (lo+x)) (KK U (arrOf b) (lo+x-1)):=KeyOrd.kle_of_klt g;by_cases u:q>0
   .rw[AO u]at e;subst e;refine⟨0,rfl,j.mirror (by lia) (by lia) hsz,NI.step (by lia) (KK_mirror_equal (by lia) λk D F=>?_) l o,by lia,λi D F=>by congr 1;lia⟩;have:=p (k-lo) (by lia) (by lia);rw[show lo +(k-lo)=k by lia]at this;exact this
   .rw[AN u]at e;subst e;exact⟨0,rfl,j,NI.step (by lia) (λ_=>rfl) l o,by lia,λi D F=>by congr 1;lia⟩
 .rintro c b ⟨q,rfl,j,l,v,p⟩;rw[show max n d=d by lia]at l v p⊢;exact h d q b j z (Nat.le_refl _) l v p
theorem NI.turn{xs:CM CW}{lo n:Nat}(a:lo+n<=xs.size)(h:NI U xs lo n):SI U (mirror xs lo (lo+n) ((lo+n-lo) / 2)) lo n:=by
 intro i j b c;rw[KK_mirror a,KK_mirror a,AO (by lia),AO (by lia)];have:=h (n-1-j) (n-1-i) (by lia) (by lia);rw[show lo +(n-1-i)=lo +(lo+n)-1-(lo+i) by lia,show lo +(n-1-j)=lo +(lo+n)-1-(lo+j) by lia]at this;exact this
theorem Iv(C:RE prog w A s U kd)(D:KeysOf U a₀){st:IG}{lo c:Nat}{Q:A5 Nat->IG->Prop}(X:St U kd a₀ st)(hsz:lo+c<=a₀.size)(h1:1<=c)
  (h:∀m b,Lo U kd a₀ st lo c b->1<=m->m<=c->SI U (arrOf b) lo m->Q (some m) b):wpS (model prog w) A E s (countRun' lo c) Q st:=by
 have Y:Lo U kd a₀ st lo c st:=⟨X,rfl,λ_ _=>rfl⟩;rw[countRun'_eq];dsimp only;refine wpS_bind (UI (U:=U) (lo:=lo) (λx n G H=>?_) (Nat.le_refl 1) h1 (λi j p P=>by have:i=j:=(by lia);subst this;exact KeyOrd.kle_refl _) λn R T F Z=>?_)
 .dsimp only;refine wpS_bind (Q9 C D X (by lia) (by lia) ?_);dsimp only;cases U.blt (KK U (arrOf st) (lo+n)) (KK U (arrOf st) (lo+n-1))
  .exact wpS_pure ⟨rfl,rfl⟩
  .exact wpS_pure ⟨rfl,rfl⟩
 dsimp only;by_cases I:n=c
 .rw[AO (by simpa using I)];exact wpS_pure (h n st Y R T F)
 rw[AN (by simpa using I)];have V:U.klt (KK U (arrOf st) (lo+n)) (KK U (arrOf st) (lo+n-1)):=Z.resolve_left I;have hz:=X.size;by_cases W:n>1
 .rw[AO W];refine wpS_bind (Q9 C D X (by lia) (by lia) ?_);dsimp only;cases J:U.blt (KK U (arrOf st) lo) (KK U (arrOf st) (lo+n-1))with
  | true =>
   simp only[FC];exact wpS_pure (h n st Y R T F)
  | false =>
   simp only[A_,CP];have r:∀k,lo<=k->k<lo+n->KK U (arrOf st) k=KK U (arrOf st) (lo+n-1):=by
    intro k hk1 hk2;have a1:=F 0 (k-lo) (by lia) (by lia);have a2:=F (k-lo) (n-1) (by lia) (by lia);rw[Nat.add_zero,show lo +(k-lo)=k by lia]at a1;rw[show lo +(k-lo)=k by lia,show lo +(n-1)=lo+n-1 by lia]at a2;exact KeyOrd.kle_antisymm a2 (KeyOrd.kle_trans J a1)
   have K:=KK_mirror_equal (κ:=U) (xs:=arrOf st) (i:=lo) (j:=lo+n) (by lia) r;refine wpS_bind (wpS_reverse ?_);have L:=Y.mirror (i:=lo) (j:=lo+n) (by lia) (by lia) hsz;have hN:NI U (mirror (arrOf st) lo (lo+n) ((lo+n-lo) / 2)) lo (n+1):=by
    refine NI.step (by lia) K (λi j p P=>?_) (KeyOrd.kle_of_klt V);rw[r (lo+i) (by lia) (by lia),r (lo+j) (by lia) (by lia)];exact KeyOrd.kle_refl _
   refine wpS_bind (wpS_lift (FD ⟨rfl,?_⟩));refine wpS_bind (zEz (U:=U) (kd:=kd) (a₀:=a₀) (st0:=st) (lo:=lo) hsz (λx f q b G H t=>?_) (by lia) (by lia) L hN λm q b l hm1 u v y he=>?_)
   .dsimp only;refine wpS_bind (Q9 C D t.S (by lia) (by lia) ?_);dsimp only;cases U.blt (KK U (arrOf b) (lo+f)) (KK U (arrOf b) (lo+f - 1))
    .simp only[A_,CP];refine wpS_bind (Q9 C D t.S (by lia) (by lia) ?_);dsimp only;cases U.blt (KK U (arrOf b) (lo+f - 1)) (KK U (arrOf b) (lo+f))
     .exact wpS_pure ⟨rfl,rfl⟩
     .exact wpS_pure ⟨rfl,rfl⟩
    .simp only[FC];by_cases y:q>0
     .rw[AO y,AO y];exact wpS_bind (wpS_reverse (wpS_pure ⟨rfl,rfl⟩))
     .rw[AN y,AN y];exact wpS_pure ⟨rfl,rfl⟩
   .dsimp only;have hz3:=l.S.size;by_cases z:q>0
    .rw[AO z];refine wpS_bind (wpS_reverse (wpS_bind (wpS_reverse ?_)));have g:=l.mirror (i:=lo+m-(q+1)) (j:=lo+m) (by lia) (by lia) hsz;have d:=g.mirror (i:=lo) (j:=lo+m) (by lia) (by lia) hsz;have hz4:=g.S.size;have M:NI U (mirror (arrOf b) (lo+m-(q+1)) (lo+m) ((lo+m-(lo+m-(q+1))) / 2)) lo m:=by
      have K:=KK_mirror_equal (κ:=U) (xs:=arrOf b) (i:=lo+m-(q+1)) (j:=lo+m) (by lia) (λk G H=>by
       have:=he (k-lo) (by lia) (by lia);rw[show lo +(k-lo)=k by lia]at this;exact this)
      intro i j p P;rw[K,K];exact v i j p P
     have N:=M.turn (U:=U) (lo:=lo) (n:=m) (by rw[mirror_size];lia);refine wpS_bind (UI (U:=U) (lo:=lo) (λx f G H=>?_) (by lia) u N λO B e o _=>wpS_pure (h O _ d (by lia) e o));dsimp only;refine wpS_bind (Q9 C D d.S (by lia) (by lia) ?_);dsimp only;cases U.blt (KK U _ (lo+f)) (KK U _ (lo+f - 1))
     .exact wpS_pure ⟨rfl,rfl⟩
     .exact wpS_pure ⟨rfl,rfl⟩
    .rw[AN z];refine wpS_bind (wpS_reverse ?_);have d:=l.mirror (i:=lo) (j:=lo+m) (by lia) (by lia) hsz;have N:=v.turn (U:=U) (lo:=lo) (n:=m) (by lia);refine wpS_bind (UI (U:=U) (lo:=lo) (λx f G H=>?_) (by lia) u N λO B e o _=>wpS_pure (h O _ d (by lia) e o));dsimp only;refine wpS_bind (Q9 C D d.S (by lia) (by lia) ?_);dsimp only;cases U.blt (KK U _ (lo+f)) (KK U _ (lo+f - 1))
     .exact wpS_pure ⟨rfl,rfl⟩
     .exact wpS_pure ⟨rfl,rfl⟩
 .rw[AN W];have hn1':n=1:=by lia
  have L:=Y;have hN:NI U (arrOf st) lo (n+1):=by
   refine NI.step (by lia) (λ_=>rfl) (λi j p P=>?_) (KeyOrd.kle_of_klt V);have:i=j:=by lia
   subst this;exact KeyOrd.kle_refl _
  refine wpS_bind (wpS_lift (FD ⟨rfl,?_⟩));refine wpS_bind (zEz (U:=U) (kd:=kd) (a₀:=a₀) (st0:=st) (lo:=lo) hsz (λx f q b G H t=>?_) (by lia) (by lia) L hN λm q b l hm1 u v y he=>?_)
  .dsimp only;refine wpS_bind (Q9 C D t.S (by lia) (by lia) ?_);dsimp only;cases U.blt (KK U (arrOf b) (lo+f)) (KK U (arrOf b) (lo+f - 1))
   .simp only[A_,CP];refine wpS_bind (Q9 C D t.S (by lia) (by lia) ?_);dsimp only;cases U.blt (KK U (arrOf b) (lo+f - 1)) (KK U (arrOf b) (lo+f))
    .exact wpS_pure ⟨rfl,rfl⟩
    .exact wpS_pure ⟨rfl,rfl⟩
   .simp only[FC];by_cases y:q>0
    .rw[AO y,AO y];exact wpS_bind (wpS_reverse (wpS_pure ⟨rfl,rfl⟩))
    .rw[AN y,AN y];exact wpS_pure ⟨rfl,rfl⟩
  .dsimp only;have hz3:=l.S.size;by_cases z:q>0
   .rw[AO z];refine wpS_bind (wpS_reverse (wpS_bind (wpS_reverse ?_)));have g:=l.mirror (i:=lo+m-(q+1)) (j:=lo+m) (by lia) (by lia) hsz;have d:=g.mirror (i:=lo) (j:=lo+m) (by lia) (by lia) hsz;have hz4:=g.S.size;have M:NI U (mirror (arrOf b) (lo+m-(q+1)) (lo+m) ((lo+m-(lo+m-(q+1))) / 2)) lo m:=by
     have K:=KK_mirror_equal (κ:=U) (xs:=arrOf b) (i:=lo+m-(q+1)) (j:=lo+m) (by lia) (λk G H=>by
      have:=he (k-lo) (by lia) (by lia);rw[show lo +(k-lo)=k by lia]at this;exact this)
     intro i j p P;rw[K,K];exact v i j p P
    have N:=M.turn (U:=U) (lo:=lo) (n:=m) (by rw[mirror_size];lia);refine wpS_bind (UI (U:=U) (lo:=lo) (λx f G H=>?_) (by lia) u N λO B e o _=>wpS_pure (h O _ d (by lia) e o));dsimp only;refine wpS_bind (Q9 C D d.S (by lia) (by lia) ?_);dsimp only;cases U.blt (KK U _ (lo+f)) (KK U _ (lo+f - 1))
    .exact wpS_pure ⟨rfl,rfl⟩
    .exact wpS_pure ⟨rfl,rfl⟩
   .rw[AN z];refine wpS_bind (wpS_reverse ?_);have d:=l.mirror (i:=lo) (j:=lo+m) (by lia) (by lia) hsz;have N:=v.turn (U:=U) (lo:=lo) (n:=m) (by lia);refine wpS_bind (UI (U:=U) (lo:=lo) (λx f G H=>?_) (by lia) u N λO B e o _=>wpS_pure (h O _ d (by lia) e o));dsimp only;refine wpS_bind (Q9 C D d.S (by lia) (by lia) ?_);dsimp only;cases U.blt (KK U _ (lo+f)) (KK U _ (lo+f - 1))
    .exact wpS_pure ⟨rfl,rfl⟩
    .exact wpS_pure ⟨rfl,rfl⟩
theorem Lo.bubble{st0 st:IG}{lo n b d:Nat}(h:Lo U kd a₀ st0 lo n st)(h1:lo+d<=b)(h2:b<lo+n)(e:lo+n<=a₀.size):Lo U kd a₀ st0 lo n (setArr st (bubble (arrOf st) b d)):=by
 refine⟨⟨(Array.perm_iff_toList_perm.mp (bubble_perm _ _ _)).trans h.S.perm,h.S.kind,h.S.failed⟩,h.pend,λt c=>?_⟩;show(PyProof.Rows.bubble (arrOf st) b d)[t]?=_;have:=h.S.size;rw[getElem?_bubble (by lia) d (by lia),AN (by lia),AN (by lia)];exact h.out t c
theorem Di(C:RE prog w A s U kd)(H:KeysOf U a₀){st0 st:IG}{lo g n v:Nat}{Q:Bool->IG->Prop}(J:Lo U kd a₀ st0 lo g st)(hsz:lo+g<=a₀.size)(V:n<=g)(K:v<=n)(L:SI U (arrOf st) lo v)
  (h:∀b,Lo U kd a₀ st0 lo g b->SI U (arrOf b) lo n->Q true b):wpS (model prog w) A E s (binarySort' lo n v) Q st:=by
 rw[binarySort'_eq];refine wpS_bind (wpS_mono (wpS_forRange (I:=λk c b=>c =(none,())/\Lo U kd a₀ st0 lo g b/\SI U (arrOf b) lo (min k n))
  (Q:=λc b=>c =(none,())/\Lo U kd a₀ st0 lo g b/\SI U (arrOf b) lo n) ?step ?fin ?init) ?post)
 case post =>
  rintro c b ⟨rfl,m,f⟩;exact wpS_pure (h b m f)
 case init =>
  refine⟨rfl,J,λi j y M=>?_⟩;by_cases B:v=0
  .have:i=j:=by lia
   subst this;exact KeyOrd.kle_refl _
  .exact L i j y (by lia)
 case fin =>
  rintro c b ⟨N,m,f⟩;refine⟨N,m,?_⟩
  rwa [show min (max (max v 1) n) n=n by lia]at f
 case step =>
  rintro k c b O P ⟨rfl,m,f⟩;rw[show min k n=k by lia]at f;dsimp only;refine wpS_bind (wpS_mono (wpS_forRange (I:=λx c d=>d=b/\∃l r,c =(none,l,r)/\l<=r/\r<=k/\r-l<=k-x /\
    (∀i,i<l->U.kle (KK U (arrOf b) (lo+i)) (KK U (arrOf b) (lo+k)))/\(∀i,r<=i->i<k->U.klt (KK U (arrOf b) (lo+k)) (KK U (arrOf b) (lo+i))))
   (Q:=λc d=>d=b/\∃l r,c =(none,l,r)/\l<=k /\
    (∀i,i<l->U.kle (KK U (arrOf b) (lo+i)) (KK U (arrOf b) (lo+k)))/\(∀i,l<=i->i<k->U.klt (KK U (arrOf b) (lo+k)) (KK U (arrOf b) (lo+i)))) ?istep ?ifin ?iinit) ?ipost)
  case iinit=>exact⟨rfl,0,k,rfl,by lia,by lia,by lia,λi W=>by lia,λi B G=>by lia⟩
  case ifin =>
   rintro c d ⟨rfl,l,r,rfl,D,u,F,o,p⟩;have:l=r:=by lia
   subst this;exact⟨rfl,l,l,rfl,u,o,p⟩
  case istep =>
   rintro x c d _ R ⟨rfl,l,r,rfl,D,u,F,o,p⟩;dsimp only;by_cases t:l ≥ r
   .rw[AO t];have:l=r:=by lia
    subst this;exact wpS_pure ⟨rfl,l,l,rfl,u,o,p⟩
   .rw[AN t];refine wpS_bind (Q9 C H m.S (by lia) (by lia) ?_);dsimp only;cases q:U.blt (KK U (arrOf d) (lo+k)) (KK U (arrOf d) (lo +(l+r) / 2))
    case true =>
     simp only[FC];refine wpS_pure ⟨rfl,l,(l+r) / 2,rfl,by lia,by lia,zBj (Nat.lt_of_not_le t) F,o,λi B G=>?_⟩;exact KeyOrd.klt_of_klt_of_kle q (f _ _ B G)
    case false =>
     simp only[A_,CP];refine wpS_pure ⟨rfl,(l+r) / 2+1,r,rfl,by lia,by lia,Zy (Nat.lt_of_not_le t) F,λi B=>?_,p⟩;exact KeyOrd.kle_trans (f i ((l+r) / 2) (by lia) (by lia)) (show U.kle _ _ from q)
  case ipost =>
   rintro c d ⟨rfl,l,r,rfl,T,o,p⟩;have X:=m.S.size;show wpS _ _ _ _ (do moveDown' (lo+k) (lo+l);pure (ForInStep.yield (none,()))) _ _;rw[moveDown'_eq];refine wpS_bind (wpS_modify (wpS_pure ⟨rfl,m.bubble (by lia) (by lia) hsz,?_⟩));rw[show min (k+1) n=k+1 by lia];intro i j y M;show U.kle (KK U (bubble (arrOf d) (lo+k) (lo+k-(lo+l))) (lo+i)) (KK U (bubble (arrOf d) (lo+k) (lo+k-(lo+l))) (lo+j));rw[KK_bubble (by lia) (by lia),KK_bubble (by lia) (by lia),show lo+k-(lo+k-(lo+l))=lo+l by lia];have e:∀z,1<=z->lo+z-1=lo +(z-1):=λz _=>by lia
   repeat' split
   all_goals first
    | (exfalso;lia)
    | exact KeyOrd.kle_refl _
    | exact o _ (by lia)
    | exact KeyOrd.kle_of_klt (p _ (by lia) (by lia))
    | exact f _ _ (by lia) (by lia)
    | (rw[e j (by lia)];exact KeyOrd.kle_of_klt (p _ (by lia) (by lia)))
    | (rw[e i (by lia)];exact o _ (by lia))
    | (rw[e j (by lia)];exact f _ _ (by lia) (by lia))
    | (rw[e i (by lia),e j (by lia)];exact f _ _ (by lia) (by lia))
    | (rw[e i (by lia)];exact f _ _ (by lia) (by lia))
end
abbrev Run:=Nat×Nat×Nat
def NG:A1 Run->Nat->Nat->Prop
 | [],a,b=>a=b
 | x::r,a,b=>x.1=a/\1<=x.2.1/\NG r (a+x.2.1) b
def NG.app:∀{i l2:A1 Run} {a b:Nat},NG (i++l2) a b↔∃c,NG i a c/\NG l2 c b
 | [],l2,a,b=>⟨λh=>⟨a,rfl,h⟩,λ⟨c,d,e⟩=>by have:a=c:=d;subst this;exact e⟩
 | x::r,l2,a,b=>by
  constructor
  .rintro⟨d,e,j⟩;obtain⟨c,f,g⟩:=NG.app.mp j;exact⟨c,⟨d,e,f⟩,g⟩
  .rintro⟨c,⟨d,e,f⟩,g⟩;exact⟨d,e,NG.app.mpr ⟨c,f,g⟩⟩
def NG.le:∀{l:A1 Run} {a b:Nat},NG l a b->a+l.length<=b
 | [],a,b,h=>by have:a=b:=h;subst this;simp
 | x::r,a,b,⟨d,e,c⟩=>by have:=NG.le c;rw[BO];lia
def NG.mem:∀{l:A1 Run} {a b:Nat} {x:Run},NG l a b->x∈l->a<=x.1/\x.1+x.2.1<=b
 | [],_,_,_,_,hx=>absurd hx (by simp)
 | y::r,a,b,x,⟨d,f,c⟩,hx=>by
  have g:=NG.le c;rcases AL.mp hx with e | hx
  .subst e;lia
  .have:=NG.mem c hx;lia
def zIr{l:A1 Run}{i:Nat}{x y:Run}(a:l[i]?=some x)(b:l[i+1]?=some y):l=l.take i++x::y::l.drop (i+2):=by
 obtain⟨c,rfl⟩:=AF.mp a;obtain⟨d,rfl⟩:=AF.mp b
 conv=>lhs;rw[<-B_ i l]
 rw[DI c,DI d]
def zGj{l:A1 Run}{i:Nat}{x y:Run}(z:Run)(a:l[i]?=some x)(b:l[i+1]?=some y):(l.set i z).eraseIdx (i+1)=l.take i++z::l.drop (i+2):=by
 obtain⟨d,_⟩:=AF.mp a;obtain⟨f,_⟩:=AF.mp b;have e:=zIr a b;have c:(l.take i).length=i:=by rw[AW];lia
 generalize l.take i=p at *;generalize l.drop (i+2)=q at *;subst e;rw[List.set_append_right _ _ (by lia),c,Nat.sub_self,List.eraseIdx_append_of_length_le (by lia),c,show i+1-i=1 by lia];rfl
section
variable{prog:A7}{w:F8}{A:IM}{E:A3->A4->Prop}{s:A4}{U:KeyKind}{kd:JE}{a₀:CM CW}
structure RI(U:KeyKind)(kd:JE)(a₀:CM CW)(lo:Nat)(st:IG):Prop where
 S:St U kd a₀ st
 cov:NG (pendingOf st).toList 0 lo
 sor:∀x∈(pendingOf st).toList,LC U (JX (arrOf st).toList x.1 x.2.1)
theorem Km(C:RE prog w A s U kd)(I:KeysOf U a₀){st:IG}{lo i:Nat}{Q:Bool->IG->Prop}(R:RI U kd a₀ lo st)(J:lo<=a₀.size)(hi:i+1 <(pendingOf st).size)
  (h:∀b,RI U kd a₀ lo b->(pendingOf b).size+1 =(pendingOf st).size->LQ U (arrOf st).toList (arrOf b).toList 0 lo->Q true b):wpS (model prog w) A E s (mergeAt' i) Q st:=by
 obtain⟨⟨g,d,q⟩,u⟩:∃x,(pendingOf st)[i]?=some x:=⟨_,getElem?_pos _ i (by lia)⟩;obtain⟨⟨K,f,r⟩,n⟩:∃x,(pendingOf st)[i+1]?=some x:=⟨_,getElem?_pos _ (i+1) hi⟩;have j:(pendingOf st).toList[i]?=some (g,d,q):=by rw[BU];exact u
 have k:(pendingOf st).toList[i+1]?=some (K,f,r):=by rw[BU];exact n
 have e:=zIr j k;have c:=R.cov;rw[e]at c;obtain⟨v,B,L⟩:=NG.app.mp c;obtain⟨D,F,M,G,o⟩:=L;dsimp only at D F M G o;have N:=NG.le o;refine Jl C I R.S u n (by lia) (by lia) F G (R.sor _ (AM j)) (R.sor _ (AM k)) λb O p P T=>?_;have t:(pendingOf b).toList =(pendingOf st).toList.take i ++(g,d+f,q) ::(pendingOf st).toList.drop (i+2):=by
  rw[T,<-zGj (g,d+f,q) j k];simp
 refine h b ⟨O,?_,λx l=>?_⟩ ?_ ?_
 .rw[t];exact NG.app.mpr ⟨v,B,D,(by show 1<=d+f;lia),(by show NG _ (v +(d+f)) lo;rw[<-Nat.add_assoc];exact o)⟩
 .rw[t]at l;have m:∀y∈(pendingOf st).toList,(y.1+y.2.1<=g\/g +(d+f)<=y.1)->LC U (JX (arrOf b).toList y.1 y.2.1):=λy n ho=>by
   have:=R.sor y n;rcases ho with ho | ho
   .rw[p.seg_front ho];exact this
   .rw[p.seg_back ho];exact this
  rcases AR.mp l with hm | hm
  .have:=NG.mem B hm;exact m x (CJ hm) (.inl (by lia))
  .rcases AL.mp hm with hm | hm
   .subst hm;exact P
   .have:=NG.mem o hm;exact m x (EJ hm) (.inr (by lia))
 .have:=congrArg List.length t;rw[BG,AU,BO,AW,DD,BG]at this;lia
 .have H:∀z:A1 CW,z.drop (0+lo) =(z.drop (g +(d+f))).drop (lo-(g +(d+f))):=λz=>by
   rw[FN];congr 1;lia
  exact⟨p.perm,rfl,by rw[H,H,p.back]⟩
theorem Cj{l:CM Run}{a:Nat}:(l.modify (l.size-1) λx=>(x.1,x.2.1,a)).toList.map (λx:Run=>(x.1,x.2.1))=l.toList.map λx:Run=>(x.1,x.2.1):=by
 refine F_ λt=>?_;rw[AH,AH,BU,BU,Array.getElem?_modify];split
 .cases l[t]?<;>rfl
 .rfl
theorem NG.congr:∀{l c:A1 Run} {a b:Nat},c.map (λx:Run=>(x.1,x.2.1))=l.map (λx:Run=>(x.1,x.2.1))->NG l a b->NG c a b
 | [],[],_,_,_,h=>h
 | [],_::_,_,_,e,_=>by simp at e
 | _::_,[],_,_,e,_=>by simp at e
 | x::r,y::n,a,b,e,⟨f,g,i⟩=>by
  rw[BB,BB]at e;obtain⟨j,k⟩:=HC e;obtain⟨m,d⟩:=Prod.mk.inj j;exact⟨m.trans f,by rw[d];exact g,by rw[d];exact NG.congr k i⟩
theorem RI.congr{lo:Nat}{st:IG}(R:RI U kd a₀ lo st){p:CM Run}(e:p.toList.map (λx:Run=>(x.1,x.2.1)) =(pendingOf st).toList.map λx:Run=>(x.1,x.2.1)):RI U kd a₀ lo (setPending st p):=by
 refine⟨⟨R.S.perm,R.S.kind,R.S.failed⟩,NG.congr e R.cov,λx b=>?_⟩;have:(x.1,x.2.1)∈(pendingOf st).toList.map λx:Run=>(x.1,x.2.1):=by
  rw[<-e];exact AJ.mpr ⟨x,b,rfl⟩
 obtain⟨y,c,d⟩:=AJ.mp this;obtain⟨f,g⟩:=Prod.mk.inj d;have:=R.sor y c;rw[f,g]at this;exact this
theorem o8(C:RE prog w A s U kd)(v:KeysOf U a₀){st:IG}{Q:Unit->IG->Prop}(hS:St U kd a₀ st)(hp:pendingOf st = #[])
  (h:∀d,St U kd a₀ d->LC U (arrOf d).toList->Q () d):wpS (model prog w) A E s sortRuns' Q st:=by
 rw[sortRuns'_eq];refine wpS_bind (wpS_get ?_);dsimp only;have hz:=hS.size;rw[hz];generalize minRun' a₀.size a₀.size 0=B;refine wpS_bind (wpS_mono (wpS_forRange (I:=λx c d=>∃lo,c =(none,lo)/\RI U kd a₀ lo d/\lo<=a₀.size/\min x a₀.size<=lo)
  (Q:=λc d=>∃lo,c =(none,lo)/\RI U kd a₀ lo d/\lo=a₀.size) ?st ?en ⟨0,rfl,⟨hS,by rw[hp];rfl,λx K=>by rw[hp]at K;exact absurd K (by simp)⟩,CB _,by lia⟩) ?po)
 case en =>
  rintro c d ⟨lo,rfl,R,P,h2⟩;exact⟨lo,rfl,R,by lia⟩
 case po =>
  rintro c d ⟨lo,rfl,R,rfl⟩;dsimp only;refine wpS_bind (wpS_mono (wpS_forRange (I:=λx c d=>c =(none,())/\RI U kd a₀ a₀.size d/\(pendingOf d).size+x<=a₀.size+1)
   (Q:=λc d=>c =(none,())/\RI U kd a₀ a₀.size d/\(pendingOf d).size<=1) ?st3 ?en3 ⟨rfl,R,?in3⟩) ?po3)
  case in3 =>
   have:=NG.le R.cov;rw[BG]at this;lia
  case en3 =>
   rintro c e ⟨rfl,R2,g⟩;exact⟨rfl,R2,by lia⟩
  case po3 =>
   rintro c e ⟨rfl,R2,g⟩;refine wpS_pure (h e R2.S ?_);have c:=R2.cov;have L:=R2.sor;have hz2:=R2.S.size;have M:(pendingOf e).toList.length<=1:=by rw[BG];exact g
   generalize (pendingOf e).toList=l at c L M
   match l,c,L,M with
   | [],c,_,_ =>
    have c':0=a₀.size:=c;have:(arrOf e).toList = []:=List.eq_nil_of_length_eq_zero (by rw[BG];lia);rw[this];exact List.Pairwise.nil
   | [x],⟨c1,c2,c3⟩,L,_ =>
    have c3':0+x.2.1=a₀.size:=c3;have:=L x (AD.mpr rfl);unfold JX at this;rw[c1,FA,CQ (by rw[BG];lia)]at this;exact this
   | _::_::_,_,_,M=>exact absurd M (by simp)
  case st3 =>
   rintro x c e _ K ⟨rfl,R2,g⟩
   try dsimp only
   refine wpS_bind (wpS_get ?_);by_cases r:(pendingOf e).size<=1
   .rw[AO r];exact wpS_pure ⟨rfl,R2,r⟩
   rw[AN r];refine wpS_bind (Km C v R2 (Nat.le_refl _) ?_ λst3 R3 e3 _=>?_)
   .have T:∀{c:Prop} [Decidable c] {n:Nat},(if c then n-1 else n)+1<=n+1:=by intro c _ n;split<;>lia
    exact Nat.lt_of_le_of_lt T (by lia)
   .simp only[FH,A_,CP];exact wpS_pure ⟨rfl,R3,by lia⟩
 case st =>
  rintro x c d _ K ⟨lo,rfl,R,P,h2⟩;dsimp only;by_cases D:lo ≥ a₀.size
  .rw[AO D];exact wpS_pure ⟨lo,rfl,R,by lia⟩
  rw[AN D];refine wpS_bind (Iv C v R.S (by lia) (by lia) λm e L2 hm1 hm2 t=>?_);dsimp only;by_cases F:m<B
  .rw[AO F];refine wpS_bind (wpS_lift (FD ⟨rfl,?_⟩));refine wpS_bind (Di C v L2 (by lia) (show min (a₀.size-lo) B<=a₀.size-lo by lia) (by lia) t λq O V=>?_);simp only[FH,A_,CP];have hN:1<=min (a₀.size-lo) B/\min (a₀.size-lo) B<=a₀.size-lo:=by lia
   generalize min (a₀.size-lo) B=N at hN V⊢;have G:RI U kd a₀ lo q:=by
    refine⟨O.S,by rw[O.pend];exact R.cov,λy k=>?_⟩;rw[O.pend]at k;have hc:=NG.mem R.cov k;rw[(O.part R.S).seg_front (by lia)];exact R.sor y k
   refine wpS_bind (wpS_get ?_);have i:∀(b:IG),RI U kd a₀ lo b->LC U (JX (arrOf b).toList lo N)->RI U kd a₀ (lo+N) (setPending b ((pendingOf b).push (lo,N,0))):=λb f W=>by
    refine⟨⟨f.S.perm,f.S.kind,f.S.failed⟩,?_,λy k=>?_⟩
    .show NG ((pendingOf b).push (lo,N,0)).toList 0 (lo+N);rw[DU];exact NG.app.mpr ⟨lo,f.cov,rfl,(by show 1<=N;lia),rfl⟩
    .have hy':y∈((pendingOf b).push (lo,N,0)).toList:=k;rw[DU]at hy';rcases AR.mp hy' with hy' | hy'
     .exact f.sor y hy'
     .rw[AD.mp hy'];exact W
   cases X:(pendingOf q).back? with
   | none =>
    dsimp only;refine wpS_bind (wpS_modify (wpS_pure ⟨_,rfl,i _ G V.sor,by lia,by lia⟩))
   | some Y =>
    obtain⟨H,u,pb⟩:=Y;dsimp only;generalize power' a₀.size (2*H+u) (2*H+u+u+N) a₀.size=Z;refine wpS_bind (wpS_mono (wpS_forRange (I:=λx c b=>c =(none,())/\RI U kd a₀ lo b/\LQ U (arrOf q).toList (arrOf b).toList 0 lo)
     (Q:=λc b=>c =(none,())/\RI U kd a₀ lo b/\LQ U (arrOf q).toList (arrOf b).toList 0 lo) ?stc1 (λ_ _ z=>z) ⟨rfl,G,LQ.refl _ _ _⟩) ?poc1)
    case stc1 =>
     rintro x' c b _ _ ⟨rfl,f,j⟩
     try dsimp only
     refine wpS_bind (wpS_get ?_);by_cases o:(pendingOf b).size>1
     .rw[AO o];obtain⟨⟨u1,u2,ol⟩,hu⟩:∃y,(pendingOf b)[(pendingOf b).size-2]?=some y:=⟨_,getElem?_pos _ _ (by lia)⟩;rw[hu];dsimp only;by_cases p:ol<=Z
      .rw[AO p];exact wpS_pure ⟨rfl,f,j⟩
      rw[AN p];refine wpS_bind (Km C v f P (by lia) λst7 R7 _ J=>?_);simp only[FH,A_,CP];exact wpS_pure ⟨rfl,R7,⟨J.perm.trans j.perm,rfl,J.back.trans j.back⟩⟩
     .rw[AN o];exact wpS_pure ⟨rfl,f,j⟩
    case poc1 =>
     rintro c b ⟨rfl,f,j⟩;dsimp only;refine wpS_bind (wpS_modify (wpS_bind (wpS_modify (wpS_pure ⟨_,rfl,i _ (f.congr Cj) ?_,by lia,by lia⟩))));show LC U (JX (arrOf b).toList lo N);rw[j.seg_back (by lia)];exact V.sor
  .rw[AN F];have G:RI U kd a₀ lo e:=by
    refine⟨L2.S,by rw[L2.pend];exact R.cov,λy k=>?_⟩;rw[L2.pend]at k;have hc:=NG.mem R.cov k;rw[(L2.part R.S).seg_front (by lia)];exact R.sor y k
   refine wpS_bind (wpS_get ?_);have i:∀(b:IG),RI U kd a₀ lo b->LC U (JX (arrOf b).toList lo m)->RI U kd a₀ (lo+m) (setPending b ((pendingOf b).push (lo,m,0))):=λb f W=>by
    refine⟨⟨f.S.perm,f.S.kind,f.S.failed⟩,?_,λy k=>?_⟩
    .show NG ((pendingOf b).push (lo,m,0)).toList 0 (lo+m);rw[DU];exact NG.app.mpr ⟨lo,f.cov,rfl,(by show 1<=m;lia),rfl⟩
    .have hy':y∈((pendingOf b).push (lo,m,0)).toList:=k;rw[DU]at hy';rcases AR.mp hy' with hy' | hy'
     .exact f.sor y hy'
     .rw[AD.mp hy'];exact W
   cases X:(pendingOf e).back? with
   | none =>
    dsimp only;refine wpS_bind (wpS_modify (wpS_pure ⟨_,rfl,i _ G t.sor,by lia,by lia⟩))
   | some Y =>
    obtain⟨H,u,pb⟩:=Y;dsimp only;generalize power' a₀.size (2*H+u) (2*H+u+u+m) a₀.size=Z;refine wpS_bind (wpS_mono (wpS_forRange (I:=λx c b=>c =(none,())/\RI U kd a₀ lo b/\LQ U (arrOf e).toList (arrOf b).toList 0 lo)
     (Q:=λc b=>c =(none,())/\RI U kd a₀ lo b/\LQ U (arrOf e).toList (arrOf b).toList 0 lo) ?stc2 (λ_ _ z=>z) ⟨rfl,G,LQ.refl _ _ _⟩) ?poc2)
    case stc2 =>
     rintro x' c b _ _ ⟨rfl,f,j⟩
     try dsimp only
     refine wpS_bind (wpS_get ?_);by_cases o:(pendingOf b).size>1
     .rw[AO o];obtain⟨⟨u1,u2,ol⟩,hu⟩:∃y,(pendingOf b)[(pendingOf b).size-2]?=some y:=⟨_,getElem?_pos _ _ (by lia)⟩;rw[hu];dsimp only;by_cases p:ol<=Z
      .rw[AO p];exact wpS_pure ⟨rfl,f,j⟩
      rw[AN p];refine wpS_bind (Km C v f P (by lia) λst7 R7 _ J=>?_);simp only[FH,A_,CP];exact wpS_pure ⟨rfl,R7,⟨J.perm.trans j.perm,rfl,J.back.trans j.back⟩⟩
     .rw[AN o];exact wpS_pure ⟨rfl,f,j⟩
    case poc2 =>
     rintro c b ⟨rfl,f,j⟩;dsimp only;refine wpS_bind (wpS_modify (wpS_bind (wpS_modify (wpS_pure ⟨_,rfl,i _ (f.congr Cj) ?_,by lia,by lia⟩))));show LC U (JX (arrOf b).toList lo m);rw[j.seg_back (by lia)];exact t.sor
end
def kd1(U:KeyKind)(v:A3):U.α:=(U.keyOf v).getD U.dflt
section
variable{prog:A7}{w:F8}{A:IM}{E:A3->A4->Prop}{s:A4}{U:KeyKind}{kd:JE}
def SG(a:A2)(s c:A4):Prop:=∀b o,b≠a->s.heap.get? b=some o->c.heap.get? b=some o
structure SU(prog:A7)(w:F8)(a:A2)(s:A4)(U:KeyKind)(kd:JE)(vs:A1 A3):Prop where
 cmp:∀(A:IM) (s':A4),SG a s s'->RE prog w A s' U kd
 key:∀v∈vs,∃k,U.keyOf v=some k
 kind:2<=vs.length->∀(A:IM) (E:A3->A4->Prop) (s':A4) (Q:JE->A4->Prop),SG a s s'->Q kd s'->wpAny (model prog w) A (keyKind' vs.toArray) Q E s'
def UQ(U:KeyKind)(vs:A1 A3)(out:CM A3):Prop:=out.toList.Perm vs/\out.toList.Pairwise λu v=>U.kle (kd1 U u) (kd1 U v)
theorem Lp{vs:A1 A3}{xs:CM CW}(a:xs.toList.Perm (pairsOf vs).toList)(b:LC U xs.toList):UQ U vs (xs.map (·.2)):=by
 rw[pairsOf_toList]at a;have c:∀p∈xs.toList,p.1=p.2:=λp h=>(mem_zip_self (a.mem_iff.mp h)).1;have e:(xs.map (·.2)).toList=xs.toList.map (·.1):=by
  rw[Array.toList_map];exact HA λp h=>(c p h).symm
 refine⟨?_,?_⟩
 .rw[e];have:=a.map Prod.fst
  rwa [List.map_fst_zip (Nat.le_refl _)]at this
 .rw[e,CC];exact b
theorem Fx{a:A2}{vs:A1 A3}{n:Nat}{P:Fin->A4->Prop}(k:s.heap.get? a=some (seqObj "list" vs.toArray n))(hz:vs.length<=sizeLine)(K:SU prog w a s U kd vs)
  (h:∀out:CM A3,UQ U vs out->P (.done (.ret .none)) { s with heap:=sortedHeap s.heap a vs out }) :
  wpAny (model prog w) A (Builtin.«list.sort» ⟨[.ref a],[]⟩) P E s:=by
 rw[list_sort_plain];have m:a<s.heap.objs.size:=AI k;have i:vs.toArray.size=vs.length:=by simp
 refine AB (listItems_at k rfl ?_);refine AB (listUpdate_at k rfl ?_ (by rw[i];exact hz) (by simp));obtain⟨l,j⟩:∃l,(s.heap.update a (Obj.mapSeq λ_=>#[])).get? a=some (seqObj "list" #[] l):=⟨_,get?_update_seq k (λ_=>#[])⟩;refine AB (seqEpoch_at j rfl ?_);refine AB (GB ?_ (by simpa using hz));refine AB (GM ?_);refine BZ ?_;have d:(((s.heap.update a (Obj.mapSeq λ_=>#[])).push (seqObj "tuple" vs.toArray 0)).push (seqObj "list" #[] 0)).get? a=some (seqObj "list" #[] l):=by
  rw[HS _ _ _ (by rw[size_push',FI];exact AZ (EA m)),HS _ _ _ (by rw[FI];exact AZ m)];exact j
 show wpAny (model prog w) A _ P E { s with heap:=((s.heap.update a (Obj.mapSeq λ_=>#[])).push (seqObj "tuple" vs.toArray 0)).push (seqObj "list" #[] 0) };dsimp only;have q:SG a s { s with heap:=((s.heap.update a (Obj.mapSeq λ_=>#[])).push (seqObj "tuple" vs.toArray 0)).push (seqObj "list" #[] 0) }:=λb o r e =>
  AE _ (AE _ ((CO s.heap _ (Ne.symm r)).trans e))
 by_cases f:vs.toArray.size<2
 .rw[AO f,AO f];refine AB (AG ?_);rw[StateT.run_pure];refine AB (AG ?_);dsimp only;refine AB (seqEpoch_at d rfl ?_);refine AB (listUpdate_at d rfl ?_ (by simp) (by rw[GC];show(pairsOf vs).size<=_;rw[pairsOf_size];lia));simp only[bne_self_eq_false,A_,CP];refine AG (h _ (Lp (U:=U) (xs:=pairsOf vs) (GS _) ?_));rw[pairsOf_toList];rw[i]at f
  match vs,f with
  | [],_=>exact List.Pairwise.nil
  | [v],_=>exact DE _ _
  | _::_::_,f=>simp at f;lia
 .rw[AN f,AN f];refine AB (K.kind (by lia) A E _ _ q ?_);refine AB (CI (o8 (K.cmp A _ q) (a₀:=pairsOf vs) (st:=SortSt.mk' kd (vs.toArray.zip vs.toArray) #[] 7 none)
   (Q:=λ_ c=>St U kd (pairsOf vs) c/\LC U (arrOf c).toList)
   (λp g=>?_) ⟨GS _,rfl,rfl⟩ rfl λc t u=>⟨t,u⟩) ?_ λ_ _ e=>e)
  .rw[pairsOf_toList]at g;exact K.key _ (mem_zip_self g).2
  rintro⟨⟨⟩,c⟩ y ⟨rfl,g,x⟩;dsimp only;refine AB (seqEpoch_at d rfl ?_);refine AB (listUpdate_at d rfl ?_ (by simp) (by rw[GC];show(arrOf c).size<=_;rw[g.size,pairsOf_size];lia));rw[show failedOf c=none from g.failed];simp only[bne_self_eq_false,A_,CP];exact AG (h _ (Lp g.perm x))
theorem O_{x:A3}{Q:A3->A4->Prop}
  (g:wpAny (model prog w) A.in1 (collect x) (λvs s1=>s1.os=s.os/\vs.length<=sizeLine/\(∃(U:KeyKind) (kd:JE),(∀d:A4,SG s1.heap.objs.size s1 d->SU prog w s1.heap.objs.size d U kd vs) /\
   ∀(out:CM A3) (h':IJ) (e:Nat),UQ U vs out->(∀b o,s1.heap.get? b=some o->h'.get? b=some o)->h'.get? s1.heap.objs.size=some (seqObj "list" out e)->Q (.ref s1.heap.objs.size) { s1 with heap:=h' })) E s) :
  wpAny (model prog w) A (call (.builtin "sorted") [x]) Q E s:=by
 refine Calls.call_function_entry kind_sorted plain_sorted entry_sorted (args_sorted1 _) ?_;unfold Builtin.«sorted»;refine AB (m:=checkCount "sorted" 1 1 _) (AG ?_);refine AB (CI g (λvs s1 ⟨i,j,U,kd,K,q⟩=>?_) λ_ _ z=>z);refine AB (GM ?_);have a:(s1.heap.push (seqObj "list" vs.toArray 0)).get? s1.heap.objs.size=some (seqObj "list" vs.toArray 0):=AS _ rfl;show wpAny _ _ _ _ _ { s1 with heap:=s1.heap.push (seqObj "list" vs.toArray 0) };have k:SG s1.heap.objs.size s1 { s1 with heap:=s1.heap.push (seqObj "list" vs.toArray 0) }:=λb o _ e=>AE _ e;refine AB (BZ (DX slot_list_sort ⟨_,a,rfl⟩ entry_list_sort (Fx (s:={ s1 with heap:=s1.heap.push (seqObj "list" vs.toArray 0) }) a j (K _ k) λout l=>⟨_,rfl,?_⟩) (args_list_sort _)));obtain⟨e,n⟩:=sortedHeap_at (h:=s1.heap.push (seqObj "list" vs.toArray 0)) (out:=out) a;refine AG ⟨_,rfl,q out _ e l (λb o f=>?_) n⟩;have c:=AI f;rw[sortedHeap_old (AZ c) (by rw[size_push'];exact EA c)];exact AE _ f
theorem RH{a:A2}{vs:A1 A3}{d:A1 Str}(b:StrsAre vs d):SU prog w a s strKind oneType' vs:=by
 refine⟨λA c _=>⟨λx y k l Q E e f q=>?_⟩,λv g=>?_,λh A E c Q _ q=>?_⟩
 .rw[keyLt'_oneType];exact strKind_oneLt prog w A E c x y k l e f q
 .obtain⟨x,t,rfl⟩:=b.all v g;exact⟨_,rfl⟩
 .match vs,h,b with
  | v1::i::r,_,b =>
   rw[keyKind_strs b];exact AG q
def KH(a b:A1 Nat×A1 Nat):Bool:=decide (a.1<b.1)||(decide (a.1=b.1)&&decide (a.2<b.2))
theorem JL{a b:A1 Nat×A1 Nat}:KH a b=true↔a.1<b.1\/(a.1=b.1/\a.2<b.2):=by
 unfold KH;simp
theorem TH(a b:A1 Nat):a<b\/a=b\/b<a:=by
 by_cases h:a<b
 .exact .inl h
 .by_cases c:b<a
  .exact .inr (.inr c)
  .exact .inr (.inl (IA (List.not_lt.mp c) (List.not_lt.mp h)))
def Su:A1 A3->A5 (A1 Nat×A1 Nat)
 | [.str x _,.str y _]=>some (x.cps.toList,y.cps.toList)
 | _=>none
def Qq(c:A3):Data->A5 (A1 Nat×A1 Nat)
 | .seq a _=>if c = .type "tuple" then Su a.toList else none
 | _=>none
def OC(h:IJ):A3->A5 (A1 Nat×A1 Nat)
 | .ref p=>(h.get? p).bind λo=>Qq o.cls o.data
 | _=>none
@[reducible] def pairKind(h:IJ):KeyKind where
 α:=A1 Nat×A1 Nat
 blt:=KH
 irrefl a:=by
  rw[BQ];intro z;rcases JL.mp z with z | ⟨_,z⟩
  .exact HU _ z
  .exact HU _ z
 trans a b c e d:=by
  rw[JL]at *;rcases e with e | ⟨e,f⟩
  .rcases d with d | ⟨d,_⟩
   .exact .inl (HD e d)
   .exact .inl (d▸e)
  .rcases d with d | ⟨d,g⟩
   .exact .inl (e▸d)
   .exact .inr ⟨e.trans d,HD f g⟩
 negTrans a b c h:=by
  rw[JL]at h;simp only[JL];rcases h with h | ⟨h,i⟩
  .rcases TH a.1 b.1 with q | q | q
   .exact .inl (.inl q)
   .exact .inr (.inl (q▸h))
   .exact .inr (.inl (HD q h))
  .rcases TH a.1 b.1 with q | q | q
   .exact .inl (.inl q)
   .rcases TH a.2 b.2 with r | r | r
    .exact .inl (.inr ⟨q,r⟩)
    .exact .inr (.inr ⟨q▸h,r▸i⟩)
    .exact .inr (.inr ⟨q▸h,HD r i⟩)
   .exact .inr (.inl (h▸q))
 total a b e d:=by
  rw[BQ]at e d;rcases TH a.1 b.1 with q | q | q
  .exact absurd (JL.mpr (.inl q)) e
  .rcases TH a.2 b.2 with r | r | r
   .exact absurd (JL.mpr (.inr ⟨q,r⟩)) e
   .exact Prod.ext q r
   .exact absurd (JL.mpr (.inr ⟨q.symm,r⟩)) d
  .exact absurd (JL.mpr (.inl q)) d
 keyOf:=OC h
 dflt:=([],[])
def NA(h:IJ)(v:A3)(x y:Str):Prop:=∃p o n t u,v = .ref p/\h.get? p=some o/\o.cls = .type "tuple"/\o.data = .seq #[.str x t,.str y u] n
theorem NA.key{h:IJ}{v:A3}{x y:Str}(z:NA h v x y):OC h v=some (x.cps.toList,y.cps.toList):=by
 obtain⟨p,o,n,t,u,rfl,e,c,d⟩:=z;show(h.get? p).bind (λo=>Qq o.cls o.data)=_;rw[e];show Qq o.cls o.data=_;rw[d,c];unfold Qq;exact(AO rfl).trans rfl
theorem zDe{l:A1 A3}{k:A1 Nat×A1 Nat}(e:Su l=some k):∃x t y u,l = [.str x t,.str y u]:=by
 match l,e with
 | [.str x t,.str y u],_=>exact⟨x,t,y,u,rfl⟩
theorem Ub{h:IJ}{v:A3}{k:A1 Nat×A1 Nat}(e:OC h v=some k):∃x y,NA h v x y:=by
 match v,e with
 | .ref p,e =>
  have g:(h.get? p).bind (λo=>Qq o.cls o.data)=some k:=e;obtain⟨o,i,b⟩:=HN.mp g;cases d:o.data with
  | seq f n =>
   rw[d]at b;have a:(if o.cls = .type "tuple" then Su f.toList else none)=some k:=b;by_cases c:o.cls = .type "tuple"
   .rw[AO c]at a;obtain⟨x,t,y,u,j⟩:=zDe a;refine⟨x,y,p,o,n,t,u,rfl,i,c,?_⟩;rw[d];have:f = #[.str x t,.str y u]:=by rw[<-Array.toList_inj,j]
    rw[this]
   .rw[AN c]at a;cases a
  | _=>rw[d]at b;cases b
theorem My{h:IJ}{v:A3}{k:A1 Nat×A1 Nat}{x y:Str}(z:NA h v x y)(e:OC h v=some k):k =(x.cps.toList,y.cps.toList):=by
 rw[z.key]at e;exact(BN e).symm
theorem QY{a:A2}{vs:A1 A3}{F:IJ}(B:∀v∈vs,∃x y,NA F v x y)(C:∀b o,F.get? b=some o->b≠a/\s.heap.get? b=some o) :
  SU prog w a s (pairKind F) (tuples' true) vs:=by
 refine⟨λA G J=>⟨λx y k l Q E O P q=>?_⟩,λv K=>?_,λh2 A E G Q J q=>?_⟩
 .obtain⟨g,m,R⟩:=Ub O;obtain⟨f,i,S⟩:=Ub P;have Y:=My R O;have Z:=My S P;subst Y Z;obtain⟨px,ox,nx,t1,u1,rfl,U,_,d1⟩:=R;obtain⟨py,oy,ny,t2,u2,rfl,V,_,d2⟩:=S;have f1:=J _ _ (C _ _ U).1 (C _ _ U).2;have f2:=J _ _ (C _ _ V).1 (C _ _ V).2;refine PySem.W.kat_lt f1 d1 f2 d2 ?_;show PySem.W.KatLex prog w A true _ Q [(.str g t1,.str f t2),(.str m u1,.str i u2)] 0 G;refine PySem.W.kat_cons (IB (PySem.W.kat_go (λj=>?_) λj=>?_))
  .have j:g=f:=by simpa using j
   refine PySem.W.kat_yes (PySem.W.kat_cons (IB (PySem.W.kat_go (λh=>?_) λh=>?_)))
   .have h:m=i:=by simpa using h
    refine PySem.W.kat_yes (PySem.W.kat_nil ?_);have:KH (g.cps.toList,m.cps.toList) (f.cps.toList,i.cps.toList)=decide (2<2):=by
     rw[j,h];exact(pairKind F).irrefl (f.cps.toList,i.cps.toList)
    show Q (decide (2<2)) G;rw[<-this];exact q
   .refine PySem.W.kat_no (PySem.W.kat_one _ _ (lt_str ?_));have:KH (g.cps.toList,m.cps.toList) (f.cps.toList,i.cps.toList)=decide (m.cps.toList<i.cps.toList):=by
     rw[j];unfold KH;simp[HU]
    show Q (decide (m.cps.toList<i.cps.toList)) G;rw[<-this];exact q
  .have j:¬g=f:=by simpa using j
   refine PySem.W.kat_no (oneLt_str ?_);have L:¬g.cps.toList=f.cps.toList:=λz=>j (by cases g;cases f;simp at z;simp[z]);have:KH (g.cps.toList,m.cps.toList) (f.cps.toList,i.cps.toList)=decide (g.cps.toList<f.cps.toList):=by
    unfold KH;simp[L]
   rw[<-this];exact q
 .obtain⟨x,y,z⟩:=B v K;exact⟨_,z.key⟩
 .have hT:∀(H:A1 A3),(∀v∈H,∃x y,NA F v x y)->∃D,PySem.W.KatTups G.heap H D/\D.length=H.length/\∀v∈D,∃x t,v = .str x t:=by
   intro H
   induction H with
   | nil=>exact λ_=>⟨[],.nil,rfl,λv B=>by simp at B⟩
   | cons v r ih =>
    intro I;obtain⟨D,M,X,N⟩:=ih λu hu=>I u (BA _ hu);obtain⟨x,y,p,o,n,t,u,rfl,e,c,d⟩:=I v (BE ..);refine⟨.str x t::D,.cons (J _ _ (C _ _ e).1 (C _ _ e).2) c d rfl M,by simp[X],λz hz=>?_⟩;rcases AL.mp hz with rfl | hz
    .exact⟨x,t,rfl⟩
    .exact N z hz
  obtain⟨D,M,X,N⟩:=hT vs B;refine PySem.W.kat_kind (T:=.type "str") M (by lia) (λv B=>?_) (by rfl) q;obtain⟨x,t,rfl⟩:=N v B;exact .now
end
end TS
set_option Elab.async false
namespace L2
open PySem PySem.Spec PyProof.Rows
abbrev IZ:=Sum Int Str
def Iq:IZ->A3->Bool
 | .inl k,v=>Value.isInt k v
 | .inr x,v=>Value.isStrOf x v
def zIv(w:F8):IZ->Int
 | .inl k=>hashInt k
 | .inr x=>hashStr w x
def J8:∀{k:IZ} {v:A3},Iq k v=true->(∃i t,k=Sum.inl i/\v=Value.int i t)\/(∃x t,k=Sum.inr x/\v=Value.str x t)
 | .inl i,v,h=>by
  obtain⟨t,e⟩:=Value.isInt_shape (k:=i) (v:=v) h;exact .inl ⟨i,t,rfl,e⟩
 | .inr x,v,h=>by
  obtain⟨t,e⟩:=Value.isStrOf_shape (x:=x) (v:=v) h;exact .inr ⟨x,t,rfl,e⟩
def Tt(i:Int)(t:Tok):Iq (.inl i) (.int i t)=true:=by simp[Iq,Value.isInt]
def Qt(x:Str)(t:Tok):Iq (.inr x) (.str x t)=true:=by simp[Iq,Value.isStrOf]
def zCx(a b:Int):decide ((Sum.inl a:IZ)=Sum.inl b) =(a == b):=by
 by_cases e:a=b
 .subst e;simp
 .have h:¬(Sum.inl a:IZ)=Sum.inl b:=λq=>e (Sum.inl.inj q);rw[BC h];exact(beq_eq_false_iff_ne.mpr e).symm
def zDj(a b:Str):decide ((Sum.inr a:IZ)=Sum.inr b)=decide (a=b):=by
 by_cases e:a=b
 .subst e;simp
 .have h:¬(Sum.inr a:IZ)=Sum.inr b:=λq=>e (Sum.inr.inj q);rw[BC h,BC e]
def zCu(a:Int)(b:Str):decide ((Sum.inl a:IZ)=Sum.inr b)=false:=BC (λq=>nomatch q)
def zFj(a:Str)(b:Int):decide ((Sum.inr a:IZ)=Sum.inl b)=false:=BC (λq=>nomatch q)
def D0(prog:A7)(w:F8):PySem.KeyKind prog w IZ where
 is:=Iq
 hash:=zIv w
 inj:=λv a b g f=>by
  rcases J8 g with⟨i,t,rfl,rfl⟩ | ⟨x,t,rfl,rfl⟩
  .rcases J8 f with⟨j,u,rfl,e⟩ | ⟨y,u,rfl,e⟩
   .injection e with c _;rw[c]
   .exact nomatch e
  .rcases J8 f with⟨j,u,rfl,e⟩ | ⟨y,u,rfl,e⟩
   .exact nomatch e
   .injection e with c _;rw[c]
 byValue:=λk v h=>by
  rcases J8 h with⟨i,t,rfl,rfl⟩ | ⟨x,t,rfl,rfl⟩<;>rfl
 pyHash:=λd h=>by
  rcases J8 d with⟨i,t,rfl,rfl⟩ | ⟨x,t,rfl,rfl⟩
  .exact wpAny_pyHash_int h
  .exact wpAny_pyHash_str h
 eqBool:=λl d h=>by
  rcases J8 l with⟨i,t,rfl,rfl⟩ | ⟨x,t,rfl,rfl⟩
  .rcases J8 d with⟨j,u,rfl,rfl⟩ | ⟨y,u,rfl,rfl⟩
   .rw[zCx]at h;exact wpAny_eqBool_int h
   .rw[zCu]at h;exact SeqAt.EqAt.int_str i t y u _ _ _ _ h
  .rcases J8 d with⟨j,u,rfl,rfl⟩ | ⟨y,u,rfl,rfl⟩
   .rw[zFj]at h;exact SeqAt.EqAt.str_int x t j u _ _ _ _ h
   .rw[zDj]at h;exact IB h
 «strs»:=λk x t v h=>by
  rcases J8 h with⟨i,u,rfl,e⟩ | ⟨y,u,rfl,e⟩
  .exact nomatch e
  .injection e with c _;subst c;cases v<;>rfl
def Jv(prog:A7)(w:F8)(i:Int)(t:Tok):(D0 prog w).is (.inl i) (.int i t)=true:=Tt i t
def Jm(prog:A7)(w:F8)(x:Str)(t:Tok):(D0 prog w).is (.inr x) (.str x t)=true:=Qt x t
inductive V where
 | non | bl (b:Bool) | int (i:Int) | str (x:Str) | byt (b:CM UInt8) | flt (b:UInt64) | ref (a:A2) | ty (n:String)
 deriving DecidableEq
def RelV:V->A3->Prop
 | .non,u=>u=Value.none
 | .bl b,u=>u=Value.bool b
 | .int i,u=>∃t,u=Value.int i t
 | .str x,u=>∃t,u=Value.str x t
 | .byt b,u=>∃t,u=Value.bytes b t
 | .flt b,u=>∃t,u=Value.float b t
 | .ref a,u=>u=Value.ref a
 | .ty n,u=>u=Value.type n
abbrev IR:A1 V->A1 A3->Prop:=Paired RelV
def IR.length{xs:A1 V}{us:A1 A3}(r:IR xs us):xs.length=us.length:=Paired.length r
def IR.get:∀{xs:A1 V} {us:A1 A3} {i:Nat} {x:V},IR xs us->xs[i]?=some x->∃u,us[i]?=some u/\RelV x u
 | _,_,_,_,.nil,e=>by simp at e
 | _,_,0,_,.cons r _,e=>by simp at e;subst e;exact⟨_,rfl,r⟩
 | _,_,i+1,x,.cons _ t,e=>by
  obtain⟨u,a,b⟩:=IR.get (i:=i) (x:=x) t (by simpa using e);exact⟨u,by simpa using a,b⟩
def IR.set{x:V}{u:A3}(r:RelV x u):∀{xs:A1 V} {us:A1 A3} (i:Nat),IR xs us->IR (xs.set i x) (us.set i u)
 | _,_,_,.nil=>.nil
 | _,_,0,.cons _ t=>.cons r t
 | _,_,i+1,.cons q t=>.cons q (IR.set r i t)
def IR.append:∀{xs a:A1 V} {us b:A1 A3},IR xs us->IR a b->IR (xs++a) (us++b)
 | _,_,_,_,.nil,s=>s
 | _,_,_,_,.cons r t,s=>.cons r (IR.append t s)
def IR.take:∀{xs:A1 V} {us:A1 A3} (n:Nat),IR xs us->IR (xs.take n) (us.take n)
 | _,_,0,_=>.nil
 | _,_,_+1,.nil=>.nil
 | _,_,n+1,.cons r t=>.cons r (IR.take n t)
def IR.drop:∀{xs:A1 V} {us:A1 A3} (n:Nat),IR xs us->IR (xs.drop n) (us.drop n)
 | _,_,0,r=>r
 | _,_,_+1,.nil=>.nil
 | _,_,n+1,.cons _ t=>IR.drop n t
def NF:A5 V->A5 A3->Prop
 | some v,some u=>RelV v u
 | none,none=>True
 | _,_=>False
def KV{U:Type}:A1 (U×V)->A1 (U×A3)->Prop:=Paired λ(p:U×V) (q:U×A3)=>p.1=q.1/\RelV p.2 q.2
def kV:IZ->V
 | .inl i=>.int i
 | .inr x=>.str x
inductive HO where
 | lst (xs:A1 V)
 | tup (xs:A1 V)
 | dK (kvs:A1 (IZ×V)) | dT (kvs:A1 (A1 IZ×V))
 | set (S:Int->Bool) (n:Nat)
 | ins (C dx:A2) (fs:A1 (Str×V))
 | own (x:A2)
 | xd (fs:A1 (Str×V))
 | met (f x:A2)
 | rng (lo hi:Int)
 | frz (o:Obj) (u:HO)
 | tbl (ps:CM A3)
 | ext (φ:IJ->Prop)
set_option genInjectivity false
abbrev Hp:=A2->A5 HO
def IH(H:Hp)(a:A2)(o:HO):Hp:=λb=>if b=a then some o else H b
def B1{H:Hp}{a:A2}{o:HO}:IH H a o a=some o:=by unfold IH;rw[AO rfl]
def B5{H:Hp}{a b:A2}{o:HO}(h:b≠a):IH H a o b=H b:=by unfold IH;rw[AN h]
def S0{H:Hp}{a b:A2}{o u:HO}(h:H a=some o)(h':H b=some u)(d:o≠u):a≠b:=by
 intro e;subst e;rw[h]at h';exact d (BN h')
def A9{H:Hp}{a b:A2}{o:HO}(h:H a=some o)(h':H b=none):a≠b:=by
 intro e;subst e;rw[h]at h';cases h'
section
variable(P:A7)(w:F8)
def IU(H:Hp)(h:IJ)(a:A2):HO->Prop
 | .lst d=>d.length<=sizeLine/\∃(b:A1 A3) (n:Nat),IR d b/\h.get? a=some { cls:=.type "list",data:=.seq b.toArray n }
 | .tup d=>d.length<=sizeLine/\∃b:A1 A3,IR d b/\IsTup h a b.toArray
 | .dK c=>c.length<=sizeLine/\(a == sysModules)=false/\∃j,KV c j/\h.DictOf (D0 P w) a j
 | .dT c=>c.length<=sizeLine/\(a == sysModules)=false/\∃d:A1 (A1 IZ×A2×A3),
   Paired (λ(p:A1 IZ×V) (q:A1 IZ×A2×A3)=>p.1=q.1/\H q.2.1=some (.tup (p.1.map kV))/\RelV p.2 q.2.2) c d /\
   ∃o k r,h.get? a=some o/\o.ExactDict/\o.data = .dict k r/\k.toList=d.map (entryOfKey (tupleKind (D0 P w)))/\(d.map (·.1)).Nodup
 | .set S n=>h.SetOf (intKind P w) a S n
 | .ins C i g=>H i=some (.own a)/\g.length<=1000/\i≠a/\h.get? a=some (PySem.W.instObj C i) /\
   ∃e,h.Ns1 i e/\(∀f,NF (g.lookup f) (e f))/\PySem.Within e (g.map (·.1))
 | .own _=>∃o,h.get? a=some o
 | .xd g=>∃e,h.Ns1 a e/\∀f,NF (g.lookup f) (e f)
 | .rng lo s=>∃t u v,h.get? a=some { cls:=.type "range",data:=.fields #[.int lo t,.int s u,.int 1 v] }
 | .frz o u=>h.get? a=some o/\IU H h a u
 | .tbl y=>h.get? a=some { cls:=.none,data:=.fields y }
 | .met f x=>h.get? a=some (PySem.W.methodObj (.ref f) (.ref x))
 | .ext φ=>φ h/\(∃o,h.get? a=some o)/\∀l m:IJ,φ l->(∀o,l.get? a=some o->m.get? a=some o)->φ m
def MT(H:Hp)(h:IJ):Prop:=∀a o,H a=some o->IU P w H h a o
end
section
variable{P:A7}{w:F8}{H H':Hp}{h h':IJ}{a:A2}{o:HO}
theorem IU.lt(x:IU P w H h a o):a<h.objs.size:=by
 cases o with
 | lst c=>obtain⟨_,_,_,_,e⟩:=x;exact AI e
 | tup c=>obtain⟨_,_,_,p⟩:=x;exact p.lt
 | dK b=>obtain⟨_,_,_,_,o,_,_,e,_⟩:=x;exact AI e
 | dT b=>obtain⟨_,_,_,_,o,_,_,e,_⟩:=x;exact AI e
 | set S n=>obtain⟨o,_,_,_,e,_⟩:=x;exact AI e
 | ins C g d=>obtain⟨_,_,_,e,_⟩:=x;exact AI e
 | own y=>obtain⟨_,e⟩:=x;exact AI e
 | xd d=>obtain⟨_,⟨_,_,_,e,_⟩,_⟩:=x;exact AI e
 | rng lo i=>obtain⟨_,_,_,e⟩:=x;exact AI e
 | frz j u=>obtain⟨e,_⟩:=x;exact AI e
 | tbl k=>exact AI (show h.get? a=some _ from x)
 | met f y=>exact AI (show h.get? a=some _ from x)
 | ext φ=>obtain⟨_,⟨_,e⟩,_⟩:=x;exact AI e
theorem Paired.mapP{α β:Type}{F G:α->β->Prop}:∀{l₁:A1 α} {l₂:A1 β},Paired F l₁ l₂->(∀a b,F a b->G a b)->Paired G l₁ l₂
 | _,_,.nil,_=>.nil
 | _,_,.cons r t,f=>.cons (f _ _ r) (Paired.mapP t f)
theorem IU.stay(x:IU P w H h a o)(k:∀b u,(b=a\/H b=some (.own a))->h.get? b=some u->h'.get? b=some u)
  (D:∀b,H b=some (.own a)->H' b=some (.own a)) (E:∀b xs,H b=some (.tup xs)->H' b=some (.tup xs)):IU P w H' h' a o:=by
 induction o with
 | lst xs=>obtain⟨z,l,n,r,e⟩:=x;exact⟨z,l,n,r,k _ _ (.inl rfl) e⟩
 | tup xs=>obtain⟨z,l,r,g,e,c⟩:=x;exact⟨z,l,r,g,k _ _ (.inl rfl) e,c⟩
 | dK m=>obtain⟨z,y,F,r,g,i,j,e,c⟩:=x;exact⟨z,y,F,r,g,i,j,k _ _ (.inl rfl) e,c⟩
 | dT m =>
  obtain⟨z,y,xs,r,g,i,j,e,c⟩:=x;exact⟨z,y,xs,Paired.mapP r λp q z=>⟨z.1,E _ _ z.2.1,z.2.2⟩,g,i,j,k _ _ (.inl rfl) e,c⟩
 | set S n=>obtain⟨g,i,j,t,e,c⟩:=x;exact⟨g,i,j,t,k _ _ (.inl rfl) e,c⟩
 | ins C L G =>
  obtain⟨d,z,I,e,s,⟨A,i,j,J,c⟩,r⟩:=x;exact⟨D _ d,z,I,k _ _ (.inl rfl) e,s,⟨A,i,j,k _ _ (.inr d) J,c⟩,r⟩
 | own y=>obtain⟨g,e⟩:=x;exact⟨g,k _ _ (.inl rfl) e⟩
 | xd G=>obtain⟨s,⟨A,i,j,e,c⟩,r⟩:=x;exact⟨s,⟨A,i,j,k _ _ (.inl rfl) e,c⟩,r⟩
 | rng lo M=>obtain⟨t,u,v,e⟩:=x;exact⟨t,u,v,k _ _ (.inl rfl) e⟩
 | frz g u K=>obtain⟨e,q⟩:=x;exact⟨k _ _ (.inl rfl) e,K q⟩
 | tbl B =>
  have e:h.get? a=some { cls:=.none,data:=.fields B }:=x;show h'.get? a=some { cls:=.none,data:=.fields B };exact k a _ (.inl rfl) e
 | met f y =>
  have e:h.get? a=some (PySem.W.methodObj (.ref f) (.ref y)):=x;show h'.get? a=some (PySem.W.methodObj (.ref f) (.ref y));exact k a _ (.inl rfl) e
 | ext φ=>obtain⟨p,⟨o,e⟩,st⟩:=x;exact⟨st _ _ p λo q=>k _ _ (.inl rfl) q,⟨o,k _ _ (.inl rfl) e⟩,st⟩
theorem MT.lt(x:MT P w H h)(e:H a=some o):a<h.objs.size:=(x a o e).lt
theorem MT.fresh(x:MT P w H h)(e:h.objs.size<=a):H a=none:=by
 cases q:H a with
 | none=>rfl
 | some u=>exact absurd (BK (x.lt q) e) (EY _)
theorem MT.kept(x:MT P w H h)(k:∀b u,h.get? b=some u->h'.get? b=some u):MT P w H h':=λa o e =>
 (x a o e).stay (λb u _ q=>k b u q) (λ_ q=>q) λ_ _ q=>q
theorem MT.laid(x:MT P w H h)(k:∀b u,h.get? b=some u->h'.get? b=some u)(i:h.objs.size<=a)(d:IU P w (IH H a o) h' a o):MT P w (IH H a o) h':=λb u e=>by
 have f:=x.fresh i;by_cases g:b=a
 .subst g;rw[B1]at e;cases e;exact d
 .rw[B5 g]at e;exact(x b u e).stay (λc v _ q=>k c v q) (λc q=>by rw[B5 (A9 q f)];exact q) λc j q=>by rw[B5 (A9 q f)];exact q
end
def Rd(H:Hp)(a:A2)(u:HO):Prop:=H a=some u\/∃o,H a=some (.frz o u)
def Rd.ok{P:A7}{w:F8}{H:Hp}{h:IJ}{a:A2}{u:HO}(r:Rd H a u)(x:MT P w H h):IU P w H h a u:=by
 rcases r with r | ⟨o,r⟩
 .exact x a u r
 .obtain⟨_,q⟩:=x a _ r;exact q
def UR:A5 HO->Prop
 | some (.lst _)=>True
 | some (.dK _)=>True
 | some (.dT _)=>True
 | some (.set _ _)=>True
 | some (.ins _ _ _)=>True
 | some (.ext _)=>True
 | _=>False
section
variable{P:A7}{w:F8}{H:Hp}{h h':IJ}{x e:A2}{o':HO}
theorem MT.write(p:MT P w H h)(g:UR (H x))(n:e=x\/H e=some (.own x))(k:∀b u,b≠e->h.get? b=some u->h'.get? b=some u)(l:∃u,h'.get? e=some u)
  (m:IU P w (IH H x o') h' x o'):MT P w (IH H x o') h':=λb u q=>by
 have d:∀c y,H c=some (.own y)->c≠x:=λc y r z=>by subst z;rw[r]at g;exact g
 have f:∀c i,H c=some (.tup i)->c≠x:=λc i r z=>by subst z;rw[r]at g;exact g
 by_cases j:b=x
 .subst j;rw[B1]at q;cases q;exact m
 .rw[B5 j]at q;by_cases a:b=e
  .have o:H b=some (.own x):=by
    rcases n with z | z
    .exact absurd (a.trans z) j
    .rw[a];exact z
   rw[q]at o;cases o;obtain⟨v,s⟩:=l;exact⟨v,by rw[a];exact s⟩
  .refine(p b u q).stay (λc v hc r=>k c v ?_ r) (λc r=>by rw[B5 (d c b r)];exact r) λc i r=>by rw[B5 (f c i r)];exact r
   rcases hc with rfl | hc
   .exact a
   .rintro rfl;rcases n with z | z
    .exact d c b hc z
    .rw[hc]at z;cases z;exact j rfl
end
structure Un(fs ex:A1 A2)(H H':Hp)(h h':IJ):Prop where
 keep:∀b o,h.get? b=some o->H b=none->b∉fs->b∉ex->h'.get? b=some o
 slot:∀b o,h.get? b=some o->H b=none->b∈fs->b∉ex->∃sl,h'.get? b=some { o with slots:=sl }
 free:∀b o,h.get? b=some o->H b=none->b∉ex->H' b=none
 there:∀b o,h.get? b=some o->b∉ex->∃o',h'.get? b=some o'
 tups:∀b xs,H b=some (.tup xs)->H' b=some (.tup xs)
 frzs:∀b o u,H b=some (.frz o u)->H' b=some (.frz o u)
 tbls:∀b ps,H b=some (.tbl ps)->∃more,H' b=some (.tbl (ps++more))
section
variable{fs fs' ex ex':A1 A2}{H H1 H2:Hp}{h h1 h2 h':IJ}{a x e:A2}{o:HO}
theorem Un.any(u:Un fs ex H H1 h h1){b:A2}{ob:Obj}(q:h.get? b=some ob)(n:H b=none)(a:b∉ex):∃d,h1.get? b=some { ob with slots:=d }:=by
 by_cases c:b∈fs
 .exact u.slot b ob q n c a
 .exact⟨ob.slots,u.keep b ob q n c a⟩
theorem Un.kept(k:∀b u,h.get? b=some u->h'.get? b=some u):Un fs ex H H h h' :=
 ⟨λb a q _ _ _=>k b a q,λb a q _ _ _=>⟨a.slots,k b a q⟩,λ_ _ _ n _=>n,λb a q _=>⟨a,k b a q⟩,λ_ _ q=>q,λ_ _ _ q=>q,λ_ c q=>⟨#[],by rw[q];simp⟩⟩
theorem Un.refl:Un fs ex H H h h:=Un.kept λ_ _ q=>q
theorem Un.laid(k:∀b u,h.get? b=some u->h'.get? b=some u)(d:h.objs.size<=a)(c:H a=none):Un fs ex H (IH H a o) h h' where
 keep:=λb u q _ _ _=>k b u q
 slot:=λb u q _ _ _=>⟨u.slots,k b u q⟩
 free:=λb u q n _=>by rw[B5 (AZ (BK (AI q) d))];exact n
 there:=λb u q _=>⟨u,k b u q⟩
 tups:=λb e q=>by rw[B5 (A9 q c)];exact q
 frzs:=λb u e q=>by rw[B5 (A9 q c)];exact q
 tbls:=λb f q=>⟨#[],by rw[B5 (A9 q c),q];simp⟩
theorem Un.write(c:UR (H x))(j:e=x\/H e=some (.own x))(k:∀b u,b≠e->h.get? b=some u->h'.get? b=some u)(d:∃u,h'.get? e=some u):Un fs ex H (IH H x o) h h':=by
 have g:∀b,H b=none->b≠x:=λb n z=>by subst z;rw[n]at c;exact c
 have i:∀b,H b=none->b≠e:=λb n z=>by
  subst z;rcases j with r | r
  .exact g b n r
  .rw[n]at r;cases r
 have f:∀b u,H b=some u->¬UR (some u)->b≠x:=λb u q l z=>by subst z;rw[q]at c;exact l c
 refine⟨λb u q n _ _=>k b u (i b n) q,λb u q n _ _=>⟨u.slots,k b u (i b n) q⟩,λb u q n _=>by rw[B5 (g b n)];exact n,λb u q _=>?_,
  λb m q=>by rw[B5 (f b _ q λz=>z)];exact q,λb u m q=>by rw[B5 (f b _ q λz=>z)];exact q,λb p q=>⟨#[],by rw[B5 (f b _ q λz=>z),q];simp⟩⟩
 by_cases a:b=e
 .subst a;exact d
 .exact⟨u,k b u a q⟩
end
def trk(h:IJ)(H:Hp):A1 A2:=(List.range h.objs.size).filter λa=>(H a).isSome
def Uw(h:IJ)(H:Hp):IJ:=PySem.W.hideAll h (trk h H)
def Ht(h:IJ)(H:Hp):(Uw h H).objs.size=h.objs.size:=PySem.W.hideAll_size _ _
def Be{h:IJ}{H:Hp}{b:A2}{o:Obj}(e:h.get? b=some o)(n:H b=none):(Uw h H).get? b=some o :=
 PySem.W.hideAll_get _ e λa=>by
  have q:(H b).isSome=true:=(BH.mp a).2;rw[n]at q;simp at q
def Tr{h:IJ}{H:Hp}{b:A2}{o:Obj}(e:(Uw h H).get? b=some o):h.get? b=some o/\H b=none:=by
 have a:h.get? b=some o:=PySem.W.of_hideAll (trk h H) e;refine⟨a,?_⟩;cases q:H b with
 | none=>rfl
 | some x =>
  have c:b∈trk h H:=BH.mpr ⟨BW.mpr (AI a),by simp[q]⟩;have z:(Uw h H).get? b=none:=PySem.W.hideAll_none (trk h H) c;rw[z]at e;cases e
structure Mod(K:PySem.W.Frag)(mg:Str->A5 A3)(base:IJ):Prop where
 kin:K.In base
 glob:base.Ns mainGlobals mg
 blt:∃mb,base.Ns builtinsNs mb/\∀x:Str,x≠ "__name__"->mb x=bootBuiltins x
 nolimit:base.NoLimit
set_option genInjectivity false in
structure Cx where
 prog:A7
 w:F8
 K:PySem.W.Frag
 mg:Str->A5 A3
 base:IJ
 A:IM
 N:A1 Str
 s₀:A4
 H₀:Hp
 env:QW
 outer:A1 QW
 stack:A1 QW
 ex:A1 A2
 fn:Str->Bool
 calm:Bool
 pn:A1 (A2×Obj)
 xe:A3->A4->Prop
def QK(l:A1 QW):A1 A2:=l.filterMap (·.frame)
abbrev Cx.fs(X:Cx):A1 A2:=QK X.outer
def UN(a:JN)(x:Str):Prop:=a.names.lookup x=some .local\/a.names.lookup x=some .cell\/a.names.lookup x=some .free
def Loc(a:JN)(x:Str):Prop:=a.names.lookup x=some .local\/a.names.lookup x=some .cell
def zIy(a:QW)(h:IJ)(m:Str->A5 A3)(x:Str)(u:A3):Prop :=
 (a.kindOf x=some .local/\m x=some u)\/((a.kindOf x=some .cell\/a.kindOf x=some .free)/\∃c,a.cells.lookup x=some c/\h.IsCell c (some u))
structure Cx.Ok(X:Cx):Prop where
 mod:Mod X.K X.mg X.base
 kind:X.env.scope.kind = .function
 glob:X.env.globals=mainGlobals
 blt:X.env.builtins=builtinsNs
 above:X.s₀.heap.objs.size<=X.env.locals
 inj:∀x y c,X.env.cells.lookup x=some c->X.env.cells.lookup y=some c->x=y
 has:∀x,(X.env.kindOf x=some .cell\/X.env.kindOf x=some .free)->∃c,X.env.cells.lookup x=some c
 cab:∀x c,X.fn x=true->X.env.cells.lookup x=some c->X.s₀.heap.objs.size<=c
 hd:X.calm=true->X.A.handled=none
 frames:X.A.frames=some X.stack
 stk:X.stack=X.outer\/(X.stack=X.env::X.outer/\X.env.frame=some X.env.locals)
 exf:∀b∈X.ex,b≠X.env.locals/\∀x c,X.env.cells.lookup x=some c->c≠b
 bs:∀b o,X.base.get? b=some o->X.s₀.heap.get? b=some o/\X.H₀ b=none
 bsz:X.base.objs.size<=X.s₀.heap.objs.size
 noex:∀b o,X.base.get? b=some o->b∉X.ex
 exfs:∀b∈X.ex,b∉X.fs
 funs:X.s₀.heap.FunFrames X.base X.outer
 frf:∀b∈X.fs,X.H₀ b=none
structure Inv(X:Cx)(pins:A1 (A2×Obj))(σ:A1 (A5 V))(H:Hp)(s:A4):Prop where
 ok:X.Ok
 os:s.os=X.s₀.os
 bare:AllBare s.gens
 base:Un X.fs X.ex X.H₀ H X.s₀.heap s.heap
 loc:∃m,s.heap.Ns X.env.locals m/\∀(i:Nat) (x:Str) (v:V),X.N[i]?=some x->σ[i]?=some (some v)->UN X.env.scope x->∃u,RelV v u/\zIy X.env s.heap m x u
 cell:∀x c,X.env.cells.lookup x=some c->∃v,s.heap.IsCell c v
 free:H X.env.locals=none
 freeC:∀x c,X.env.cells.lookup x=some c->H c=none
 pin:∀p∈X.pn++pins,s.heap.get? p.1=some p.2/\H p.1=none/\p.1≠X.env.locals/\p.1∉X.fs/\∀v,p.2.data≠ .cell v
 hok:MT X.prog X.w H s.heap
 len:σ.length=X.N.length
section
variable{X:Cx}{pins:A1 (A2×Obj)}{σ:A1 (A5 V)}{H H':Hp}{s:A4}{h':IJ}
theorem Cx.Ok.nofr(a:X.Ok){b:A2}{o:Obj}(e:X.base.get? b=some o):b∉X.fs:=λc=>by
 have:=(a.funs.mem c).1;rw[e]at this;cases this
theorem Inv.bs(I:Inv X pins σ H s):∀b o,X.base.get? b=some o->s.heap.get? b=some o/\H b=none:=λb o e =>
 ⟨I.base.keep b o (I.ok.bs b o e).1 (I.ok.bs b o e).2 (I.ok.nofr e) (I.ok.noex b o e),I.base.free b o (I.ok.bs b o e).1 (I.ok.bs b o e).2 (I.ok.noex b o e)⟩
theorem Inv.bk(I:Inv X pins σ H s):∀b o,X.base.get? b=some o->s.heap.get? b=some o:=λb o e=>(I.bs b o e).1
theorem Inv.mod(I:Inv X pins σ H s):Mod X.K X.mg X.base:=I.ok.mod
theorem Inv.kIn(I:Inv X pins σ H s):X.K.In s.heap:=I.ok.mod.kin.keeps I.bk
theorem Inv.lt(I:Inv X pins σ H s):X.env.locals<s.heap.objs.size:=let⟨_,a,_⟩:=I.loc;a.lt
theorem Inv.sz(I:Inv X pins σ H s):X.s₀.heap.objs.size<=s.heap.objs.size:=Nat.le_trans I.ok.above (DT I.lt)
theorem Inv.nofs(I:Inv X pins σ H s){a:A2}(h:s.heap.objs.size<=a):a∉X.fs:=λb=>by
 obtain⟨_,o,c,_⟩:=I.ok.funs.mem b;exact absurd (BK (AI c) (Nat.le_trans I.sz h)) (EY _)
theorem Inv.cne(I:Inv X pins σ H s):∀x c,X.env.cells.lookup x=some c->c≠X.env.locals:=λx c e z=>by
 obtain⟨v,o,d,f⟩:=I.cell x c e;obtain⟨m,⟨g,h,i,a,b,_⟩,_⟩:=I.loc;rw[z,a]at d;cases d;rw[b]at f;cases f
theorem Inv.funs(I:Inv X pins σ H s):s.heap.FunFrames X.base X.outer:=by
 have a:∀(l:A1 QW),(∀b∈QK l,b∈X.fs)->X.s₀.heap.FunFrames X.base l->s.heap.FunFrames X.base l:=by
  intro l
  induction l with
  | nil=>intro _ _;trivial
  | cons h r i =>
   intro g j;obtain⟨k,⟨L,o,c,m,n,p⟩,q⟩:=j;have d:L∈X.fs:=g L (by unfold QK;rw[EU,c];exact BE);obtain⟨t,e⟩:=I.base.slot L o n (I.ok.frf L d) d λz=>I.ok.exfs L z d;exact⟨k,⟨L,_,c,m,e,p⟩,i (λb f=>g b (by unfold QK;rw[EU,c];exact BA _ f)) q⟩
 exact a X.outer (λ_ f=>f) I.ok.funs
theorem Inv.stack(I:Inv X pins σ H s):s.heap.FunFrames X.base X.stack:=by
 rcases I.ok.stk with e | ⟨e,a⟩
 .rw[e];exact I.funs
 .rw[e];obtain⟨m,b,_⟩:=I.loc;refine .cons (by rw[I.ok.kind];decide) a b ?_ I.funs;exact Heap.get?_none_of_le (Nat.le_trans I.ok.bsz I.ok.above)
theorem Inv.stkSub(I:Inv X pins σ H s):∀b∈QK X.stack,b∈X.env.locals::X.fs:=λb a=>by
 rcases I.ok.stk with e | ⟨e,c⟩
 .rw[e]at a;exact BA _ a
 .rw[e]at a;unfold QK at a;rw[EU,c]at a;exact a
theorem Inv.stkFree(I:Inv X pins σ H s):∀b∈QK X.stack,H b=none:=λb hb=>by
 rcases AL.mp (I.stkSub b hb)with e | hb
 .rw[e];exact I.free
 .obtain⟨_,o,a,_⟩:=I.ok.funs.mem hb;exact I.base.free b o a (I.ok.frf b hb) λz=>I.ok.exfs b z hb
theorem Inv.step{g':CM GenState}{t':Nat}{d':Drawn}{ch:A1 A2}(I:Inv X pins σ H s)
  (g:∀b∈ch,(b∈X.ex\/X.s₀.heap.objs.size<=b)/\b≠X.env.locals/\(∀x c,X.env.cells.lookup x=some c->c≠b)/\∀p∈X.pn++pins,p.1≠b)
  (h:∀b o,b≠X.env.locals->b∉X.fs->b∉ch->s.heap.get? b=some o->H b=none->h'.get? b=some o)
  (B:∀b o,b≠X.env.locals->b∈X.fs->b∉ch->s.heap.get? b=some o->H b=none->∃O,h'.get? b=some { o with slots:=O }) (f:∀b o,b∉ch->s.heap.get? b=some o->H b=none->H' b=none)
  (C:∀b o,b∉ch->s.heap.get? b=some o->∃F,h'.get? b=some F)
  (G:∀b xs,H b=some (.tup xs)->H' b=some (.tup xs)) (J:∀b o u,H b=some (.frz o u)->H' b=some (.frz o u)) (K:∀b N,H b=some (.tbl N)->∃more,H' b=some (.tbl (N++more)))
  (ns:∀m,s.heap.Ns X.env.locals m->h'.Ns X.env.locals m) (P:MT X.prog X.w H' h') (W:AllBare g') :
  Inv X pins σ H' { s with heap:=h',gens:=g',drawn:=d',toks:=t' }:=by
 have L:∀b o,X.s₀.heap.get? b=some o->b≠X.env.locals:=λb o e=>AZ (BK (AI e) I.ok.above);have y:∀b o,X.s₀.heap.get? b=some o->b∉X.ex->b∉ch:=λb o e a D=>by
  rcases(g b D).1 with z | z
  .exact a z
  .exact absurd (BK (AI e) z) (EY _)
 have j:∀x c,X.env.cells.lookup x=some c->∀v,s.heap.IsCell c v->h'.IsCell c v:=λx c e v ⟨o,E,Q⟩=>by
  have t:c∉ch:=λz=>(g c z).2.2.1 x c e rfl;by_cases S:c∈X.fs
  .obtain⟨O,q⟩:=B c o (I.cne x c e) S t E (I.freeC x c e);exact⟨_,q,Q⟩
  .exact⟨o,h c o (I.cne x c e) S t E (I.freeC x c e),Q⟩
 refine⟨I.ok,I.os,W,⟨λb o e n D a=>?_,λb o e n D a=>?_,λb o e n a=>?_,λb o e a=>?_,λb xs e=>G b xs (I.base.tups b xs e),λb o xs e=>J b o xs (I.base.frzs b o xs e),λb N e=>?_⟩,?_,λx c e=>?_,?_,λx c e=>?_,λp T=>?_,P,I.len⟩
 .exact h b o (L b o e) D (y b o e a) (I.base.keep b o e n D a) (I.base.free b o e n a)
 .obtain⟨O,A⟩:=I.base.slot b o e n D a;obtain⟨R,M⟩:=B b _ (L b o e) D (y b o e a) A (I.base.free b o e n a);exact⟨R,M⟩
 .obtain⟨F,A⟩:=I.base.there b o e a;exact f b F (y b o e a) A (I.base.free b o e n a)
 .obtain⟨F,A⟩:=I.base.there b o e a;exact C b F (y b o e a) A
 .obtain⟨Y,A⟩:=I.base.tbls b N e;obtain⟨Z,M⟩:=K b _ A;exact⟨Y++Z,by rw[M,Array.append_assoc]⟩
 .obtain⟨m,hn,hl⟩:=I.loc;refine⟨m,ns m hn,λi x v A M e3=>?_⟩;obtain⟨u,r,l⟩:=hl i x v A M e3;refine⟨u,r,?_⟩;rcases l with l | ⟨k,c,e,z⟩
  .exact .inl l
  .exact .inr ⟨k,c,e,j x c e _ z⟩
 .obtain⟨v,z⟩:=I.cell x c e;exact⟨v,j x c e v z⟩
 .obtain⟨m,⟨o,_,_,E,_⟩,_⟩:=I.loc;exact f _ o (λz=>(g _ z).2.1 rfl) E I.free
 .obtain⟨v,o,E,Q⟩:=I.cell x c e;exact f c o (λz=>(g c z).2.2.1 x c e rfl) E (I.freeC x c e)
 .obtain⟨e,n,U,V,d⟩:=I.pin p T;have t:p.1∉ch:=λz=>(g p.1 z).2.2.2 p T rfl;exact⟨h p.1 p.2 U V t e n,f p.1 p.2 t e n,U,V,d⟩
theorem Inv.un{t':Nat}(I:Inv X pins σ H s)(u:Un X.fs [] H H' s.heap h')(c:MT X.prog X.w H' h'):Inv X pins σ H' { s with heap:=h',toks:=t' }:=by
 obtain⟨m,⟨o,l,p,h,r⟩,_⟩:=id I.loc;obtain⟨q,i⟩:=u.any h I.free (by simp);exact I.step (g':=s.gens) (d':=s.drawn) (ch:=[]) (λ_ z=>nomatch z) (λb o _ d _ e n=>u.keep b o e n d (by simp)) (λb o _ d _ e n=>u.slot b o e n d (by simp)) (λb o _ e n=>u.free b o e n (by simp)) (λb o _ e=>u.there b o e (by simp)) u.tups u.frzs u.tbls (λt j=>by
  obtain⟨v,f,g,a,k⟩:=j;rw[h]at a;cases a;exact⟨_,f,g,i,k⟩) c I.bare
theorem Inv.call{g':CM GenState}{t':Nat}{d':Drawn}{ch:A1 A2}(I:Inv X pins σ H s)(u:Un (QK X.stack) ch H H' s.heap h')(g:MT X.prog X.w H' h')(l:AllBare g')
  (d:∀b∈ch,(b∈X.ex\/X.s₀.heap.objs.size<=b)/\b≠X.env.locals/\(∀x c,X.env.cells.lookup x=some c->c≠b)/\∀p∈X.pn++pins,p.1≠b) :
  Inv X pins σ H' { s with heap:=h',gens:=g',drawn:=d',toks:=t' }:=by
 obtain⟨m,⟨o,y,A,k,r⟩,_⟩:=id I.loc;obtain⟨B,h⟩:=u.any k I.free λz=>(d _ z).2.1 rfl;exact I.step (ch:=ch) d (λb o h q a e n=>u.keep b o e n (λz=>(AL.mp (I.stkSub b z)).elim h q) a) (λb o _ _ a e n=>u.any e n a) (λb o a e n=>u.free b o e n a) (λb o a e=>u.there b o e a) u.tups u.frzs u.tbls (λC t=>by
  obtain⟨D,i,j,f,v⟩:=t;rw[k]at f;cases f;exact⟨_,i,j,h,v⟩) g l
theorem Inv.turned{t':Nat}{a:A2}(I:Inv X pins σ H s)(k:∀b o,b≠a->s.heap.get? b=some o->h'.get? b=some o)(h:H a=none)(g:a≠X.env.locals)
  (h1:a∈X.ex\/X.s₀.heap.objs.size<=a) (h2:∀x c,X.env.cells.lookup x=some c->c≠a) (i:∀p∈X.pn++pins,p.1≠a):Inv X pins σ H { s with heap:=h',toks:=t' }:=by
 have f:∀b u,H b=some u->b≠a:=λb u e z=>by rw[z,h]at e;cases e
 refine I.step (g':=s.gens) (d':=s.drawn) (ch:=[a]) (λb j=>?_) (λb o _ _ d e _=>k b o (λz=>d (by simp[z])) e) (λb o _ _ d e _=>⟨o.slots,k b o (λz=>d (by simp[z])) e⟩) (λ_ _ _ _ n=>n)
  (λb o d e=>⟨o,k b o (λz=>d (by simp[z])) e⟩) (λ_ _ e=>e) (λ_ _ _ e=>e) (λb A e=>⟨#[],by rw[e];simp⟩) (λm l=>?_) (λb u e=>?_) I.bare
 .have e:b=a:=by simpa using j
  subst e;exact⟨h1,g,h2,i⟩
 .obtain⟨o,t,w,y,r⟩:=l;exact⟨o,t,w,k _ o (Ne.symm g) y,r⟩
 .refine(I.hok b u e).stay (λc v d q=>k c v ?_ q) (λ_ q=>q) λ_ _ q=>q;rcases d with z | z
  .rw[z];exact f b u e
  .exact f c _ z
theorem Inv.tok(I:Inv X pins σ H s)(t:Nat):Inv X pins σ H { s with toks:=t }:=I.un (h':=s.heap) (t':=t) Un.refl I.hok
theorem Inv.kept{t':Nat}(I:Inv X pins σ H s)(k:∀b u,s.heap.get? b=some u->h'.get? b=some u):Inv X pins σ H { s with heap:=h',toks:=t' }:=I.un (Un.kept k) (I.hok.kept k)
theorem Inv.laid{a:A2}{o:HO}{t':Nat}(I:Inv X pins σ H s)(k:∀b u,s.heap.get? b=some u->h'.get? b=some u)(c:s.heap.objs.size<=a)(d:IU X.prog X.w (IH H a o) h' a o) :
  Inv X pins σ (IH H a o) { s with heap:=h',toks:=t' }:=I.un (Un.laid k c (I.hok.fresh c)) (I.hok.laid k c d)
theorem Inv.write{x e:A2}{o:HO}{t':Nat}(I:Inv X pins σ H s)(d:UR (H x))(f:e=x\/H e=some (.own x))(k:∀b u,b≠e->s.heap.get? b=some u->h'.get? b=some u)(a:∃u,h'.get? e=some u)
  (c:IU X.prog X.w (IH H x o) h' x o):Inv X pins σ (IH H x o) { s with heap:=h',toks:=t' }:=I.un (Un.write d f k a) (I.hok.write d f k a c)
theorem Inv.pins_of{a:A1 (A2×Obj)}(I:Inv X pins σ H s)(h:∀p∈a,s.heap.get? p.1=some p.2/\H p.1=none/\p.1≠X.env.locals/\p.1∉X.fs/\∀v,p.2.data≠ .cell v):Inv X a σ H s :=
 ⟨I.ok,I.os,I.bare,I.base,I.loc,I.cell,I.free,I.freeC,λp b=>(AR.mp b).elim (λz=>I.pin p (EL _ z)) (h p),I.hok,I.len⟩
theorem Mh{N:A1 Str}(c:N.Nodup){i j:Nat}{x:Str}(a:N[i]?=some x)(b:N[j]?=some x):i=j:=by
 obtain⟨f,d⟩:=AF.mp a;obtain⟨g,e⟩:=AF.mp b;exact(List.getElem_inj c).mp (d.trans e.symm)
theorem Jd{M:Model}{A:IM}{E:A3->A4->Prop}{i:Nat}{x:Str}{v:V}{u:A3}{Q:Unit->A4->Prop}(I:Inv X pins σ H s)(hN:X.N.Nodup)(hi:X.N[i]?=some x)(t:Loc X.env.scope x)(r:RelV v u)
  (h:∀W,Inv X pins (σ.set i (some v)) H W->(∃a,Heap.SameBut a s.heap W.heap/\(a=X.env.locals\/X.env.cells.lookup x=some a))->Q () W) (hf:X.fn x=true\/X.env.scope.names.lookup x=some .local:=by first | exact .inl rfl | exact .inr rfl | assumption):wpAny M A (storeName X.env x u) Q E s:=by
 obtain⟨m,Y,hl⟩:=id I.loc;have K:(X.env.scope.kind == .class||(X.env.scope.kind == .module&&X.env.locals != X.env.globals))=false:=by rw[I.ok.kind];rfl
 have hiσ:i<σ.length:=by rw[I.len];exact(AF.mp hi).1
 have D:=I.cne;have g:∀{a:A2} {h':IJ},(∃o,s.heap.get? a=some o/\H a=none)->Heap.SameBut a s.heap h'->MT X.prog X.w H h':=fun{a h'} ha f b ob e=>by
  obtain⟨_,_,B⟩:=ha;refine(I.hok b ob e).stay (λc S hc q=>(f.2 c ?_).trans q) (λ_ q=>q) λ_ _ q=>q;rintro rfl;rcases hc with rfl | hc
  .rw[B]at e;cases e
  .rw[B]at hc;cases hc
 rcases t with hk | hk
 .refine wpAny_storeName_local hk Y (λh' Z f=>?_) K;obtain⟨oL,_,_,hoL,_⟩:=id Y;refine h _ ⟨I.ok,I.os,I.bare,⟨λb o e n F t=>?_,λb o e n F t=>?_,I.base.free,λb o e t=>?_,I.base.tups,I.base.frzs,I.base.tbls⟩,⟨_,Z,λj y v' l C e3=>?_⟩,λy c e=>?_,I.free,I.freeC,λp hp=>?_,g ⟨oL,hoL,I.free⟩ f,by simpa using I.len⟩ ⟨_,f,.inl rfl⟩
  .exact(f.2 b (AZ (BK (AI e) I.ok.above))).trans (I.base.keep b o e n F t)
  .obtain⟨sl,l⟩:=I.base.slot b o e n F t;exact⟨sl,(f.2 b (AZ (BK (AI e) I.ok.above))).trans l⟩
  .obtain⟨o',l⟩:=I.base.there b o e t;exact⟨o',(f.2 b (AZ (BK (AI e) I.ok.above))).trans l⟩
  .by_cases G:j=i
   .subst G;rw[hi]at l;cases l;rw[List.getElem?_set_self hiσ]at C;cases C;exact⟨u,r,.inl ⟨hk,by simp⟩⟩
   .rw[List.getElem?_set_ne (Ne.symm G)]at C;obtain⟨u',r',q⟩:=hl j y v' l C e3;refine⟨u',r',?_⟩;rcases q with⟨k,e⟩ | ⟨k,c,e,z⟩
    .refine .inl ⟨k,?_⟩;have:y≠x:=λe=>G (Mh hN l (e▸hi));simp[this,e]
    .exact .inr ⟨k,c,e,z.sameBut f (D y c e)⟩
  .obtain⟨S,z⟩:=I.cell y c e;exact⟨S,z.sameBut f (D y c e)⟩
  .obtain⟨e,n,T,nf,d⟩:=I.pin p hp;exact⟨(f.2 p.1 T).trans e,n,T,nf,d⟩
 .have J:X.fn x=true:=by
   rcases hf with z | z
   .exact z
   .rw[z]at hk;cases hk
  obtain⟨c,hc⟩:=I.ok.has x (.inl hk);obtain⟨S,z⟩:=I.cell x c hc;refine wpAny_storeName_cell I.ok.kind hk hc z (λh' L f=>?_);obtain⟨oc,O,P⟩:=id z;refine h { s with heap:=h' } ⟨I.ok,I.os,I.bare,⟨λb o e n F t=>?_,λb o e n F t=>?_,I.base.free,λb o e t=>?_,I.base.tups,I.base.frzs,I.base.tbls⟩,⟨m,Y.sameBut f (Ne.symm (D x c hc)),λj y v' l C e3=>?_⟩,λy U e=>?_,I.free,I.freeC,λp hp=>?_,g ⟨oc,O,I.freeC x c hc⟩ f,by simpa using I.len⟩ ⟨c,f,.inr hc⟩
  .exact(f.2 b (AZ (BK (AI e) (I.ok.cab x c J hc)))).trans (I.base.keep b o e n F t)
  .obtain⟨sl,l⟩:=I.base.slot b o e n F t;exact⟨sl,(f.2 b (AZ (BK (AI e) (I.ok.cab x c J hc)))).trans l⟩
  .obtain⟨o',l⟩:=I.base.there b o e t;exact⟨o',(f.2 b (AZ (BK (AI e) (I.ok.cab x c J hc)))).trans l⟩
  .by_cases G:j=i
   .subst G;rw[hi]at l;cases l;rw[List.getElem?_set_self hiσ]at C;cases C;exact⟨u,r,.inr ⟨.inl hk,c,hc,L⟩⟩
   .rw[List.getElem?_set_ne (Ne.symm G)]at C;obtain⟨u',r',q⟩:=hl j y v' l C e3;refine⟨u',r',?_⟩;rcases q with q | ⟨k,U,e,z'⟩
    .exact .inl q
    .refine .inr ⟨k,U,e,z'.sameBut f ?_⟩;rintro rfl;exact G (Mh hN l (I.ok.inj _ _ _ e hc▸hi))
  .by_cases R:U=c
   .subst R;exact⟨_,L⟩
   .obtain⟨w2,z2⟩:=I.cell y U e;exact⟨w2,z2.sameBut f R⟩
  .obtain⟨e,n,T,nf,d⟩:=I.pin p hp;refine⟨(f.2 p.1 ?_).trans e,n,T,nf,d⟩;intro q;rw[q,O]at e;have q':oc=p.2:=BN e;exact d S (by rw[<-q'];exact P)
theorem Eh{M:Model}{A:IM}{E:A3->A4->Prop}{i:Nat}{x:Str}{v:V}{u:A3}{Q:Unit->A4->Prop}(I:Inv X pins σ H s)(b:X.N.Nodup)(hi:X.N[i]?=some x)(c:Loc X.env.scope x)(r:RelV v u)
  (h:∀a,Inv X pins (σ.set i (some v)) H a->Q () a) (d:X.fn x=true\/X.env.scope.names.lookup x=some .local:=by first | exact .inl rfl | exact .inr rfl | assumption):wpAny M A (storeName X.env x u) Q E s :=
 Jd I b hi c r (λa e _=>h a e) d
theorem Inv.call'{a:A4}{ch:A1 A2}(I:Inv X pins σ H s)(g:a.os=s.os)(u:Un (QK X.stack) ch H H' s.heap a.heap)(d:MT X.prog X.w H' a.heap)(h:AllBare a.gens)
  (f:∀b∈ch,(b∈X.ex\/X.s₀.heap.objs.size<=b)/\b≠X.env.locals/\(∀x c,X.env.cells.lookup x=some c->c≠b)/\∀p∈X.pn++pins,p.1≠b):Inv X pins σ H' a:=by
 obtain⟨h',g',d',t',i⟩:=a;have e:i=s.os:=g;subst e;exact I.call (g':=g') (t':=t') (d':=d') u d h f
end
abbrev XK:=A3->A5 A2->Hp->Prop
abbrev St:=A1 (A5 V)
abbrev VK:=V->Hp->Prop
abbrev TE:=St->Hp->VK->Prop
abbrev TT:=St->Hp->(Bool->Hp->Prop)->Prop
abbrev TA:=St->Hp->(A1 V->Hp->Prop)->Prop
set_option genInjectivity false in
structure Ends where
 nx:St->Hp->Prop
 rt:VK
 bk:St->Hp->Prop:=λ_ _=>False
 ct:St->Hp->Prop:=λ_ _=>False
abbrev TS:=Ends->St->Hp->Prop
def EP(X:Cx)(a:A1 (A2×Obj))(σ:St)(Q:VK)(u:A3)(c:A4):Prop:=∃v b,Inv X a σ b c/\RelV v u/\Q v b
def TP(X:Cx)(a:A1 (A2×Obj))(σ:St)(Q:Bool->Hp->Prop)(b:Bool)(d:A4):Prop:=∃c,Inv X a σ c d/\Q b c
def AP(X:Cx)(a:A1 (A2×Obj))(σ:St)(Q:A1 V->Hp->Prop)(us:A1 A3)(d:A4):Prop:=∃b c,Inv X a σ c d/\IR b us/\Q b c
def SP(X:Cx)(a:A1 (A2×Obj))(D:Ends)(f:Flow)(c:A4):Prop :=
 match f with
 | .next=>∃σ' b,Inv X a σ' b c/\D.nx σ' b
 | .brk=>∃σ' b,Inv X a σ' b c/\D.bk σ' b
 | .cont=>∃σ' b,Inv X a σ' b c/\D.ct σ' b
 | .ret u=>∃v σ' b,Inv X a σ' b c/\RelV v u/\D.rt v b
def PE(X:Cx)(e:IL)(t:TE):Prop :=
 ∀(a:A1 (A2×Obj)) (s:A4) (σ:St) (H:Hp) (Q:VK),Inv X a σ H s->t σ H Q->wpAny (model X.prog X.w) X.A (eval e X.env) (EP X a σ Q) X.xe s
def PT(X:Cx)(e:IL)(t:TT):Prop :=
 ∀(a:A1 (A2×Obj)) (s:A4) (σ:St) (H:Hp) (Q:Bool->Hp->Prop),Inv X a σ H s->t σ H Q->wpAny (model X.prog X.w) X.A (isTrue e X.env (eval e X.env)) (TP X a σ Q) X.xe s
def PW(X:Cx)(e:IL)(t:TT):Prop :=
 ∀(b:Sem A3) (a:A1 (A2×Obj)) (s:A4) (σ:St) (H:Hp) (Q:Bool->Hp->Prop),Inv X a σ H s->t σ H Q->wpAny (model X.prog X.w) X.A (isTrue e X.env b) (TP X a σ Q) X.xe s
def PW.pt{X:Cx}{e:IL}{t:TT}(h:PW X e t):PT X e t:=h _
def PA(X:Cx)(c:A1 IL)(t:TA):Prop :=
 ∀(b:Pos) (a:A1 (A2×Obj)) (s:A4) (σ:St) (H:Hp) (Q:A1 V->Hp->Prop),Inv X a σ H s->t σ H Q->wpAny (model X.prog X.w) X.A (spliced (backTo b (starEach c X.env))) (AP X a σ Q) X.xe s
def PS(X:Cx)(st:IV)(t:TS):Prop :=
 ∀(a:A1 (A2×Obj)) (s:A4) (σ:St) (H:Hp) (D:Ends),Inv X a σ H s->t D σ H->wpAny (model X.prog X.w) X.A (exec st X.env) (SP X a D) X.xe s
def QV(X:Cx)(st:A1 IV)(t:TS):Prop :=
 ∀(a:A1 (A2×Obj)) (s:A4) (σ:St) (H:Hp) (D:Ends),Inv X a σ H s->t D σ H->wpAny (model X.prog X.w) X.A (execs st X.env) (SP X a D) X.xe s
def JA{α:Type}{t:Sem α}{Q b:α->A4->Prop}{M:Model}{A:IM}{E:A3->A4->Prop}{s:A4}(h:wpAny M A t Q E s)(c:∀a s,Q a s->b a s):wpAny M A t b E s:=CI h c λ_ _ x=>x
section
variable{X:Cx}
def Pg(i:Nat):TE:=λσ H Q=>∃v,σ[i]?=some (some v)/\Q v H
def tC(v:V):TE:=λ_ H Q=>Q v H
theorem Za{i:Nat}{x:Str}{pos:Pos}(k:X.N[i]?=some x)(n:UN X.env.scope x)(f:(x ==("__debug__":Str))=false:=by decide)(g:(x ==("__classdict__":Str))=false:=by decide):PE X (.Name x pos) (Pg i):=by
 intro d s σ H Q I h;obtain⟨v,e,h⟩:=h;obtain⟨m,o,p⟩:=I.loc;obtain⟨u,r,l⟩:=p i x v k e n;have b:EP X d σ Q u s:=⟨v,H,I,r,h⟩;rcases l with⟨hk,q⟩ | ⟨hk,c,j,a⟩
 .exact wpAny_Name (wpAny_loadName_local I.ok.kind hk o q b) f
 .rcases hk with hk | hk
  .exact wpAny_Name (wpAny_loadName_cell I.ok.kind hk j a b) f
  .exact wpAny_Name (wpAny_loadName_free I.ok.kind hk j a b g) f
theorem B8{i j pos}:PE X (.Constant (.int i) j pos) (tC (.int i)):=λ_ _ _ H _ I h=>wpAny_Constant_int ⟨.int i,H,I.tok _,⟨_,rfl⟩,h⟩
theorem Cm{b j pos}:PE X (.Constant (.bool b) j pos) (tC (.bl b)):=λ_ _ _ H _ I h=>Constant_bool ⟨.bl b,H,I,rfl,h⟩
theorem Ad{j pos}:PE X (.Constant .none j pos) (tC .non):=λ_ _ _ H _ I h=>Constant_none ⟨.non,H,I,rfl,h⟩
theorem R9{x j pos}:PE X (.Constant (.str x) j pos) (tC (.str x)):=λ_ _ _ H _ I h=>Calls.Constant_str ⟨.str x,H,I.tok _,⟨_,rfl⟩,h⟩
def Gl(X:Cx)(x:Str):Prop:=X.env.kindOf x=some .globalImplicit
theorem Lf{E:A3->A4->Prop}{a:A1 (A2×Obj)}{s:A4}{σ:St}{H:Hp}{x:Str}{u:A3}{pos:Pos}{Q:A3->A4->Prop}(I:Inv X a σ H s)(b:Gl X x)(c:X.mg x=some u)(h:Q u s)
  (d:(x ==("__debug__":Str))=false:=by decide):wpAny (model X.prog X.w) X.A (eval (.Name x pos) X.env) Q E s :=
 Calls.Name_function_global I.ok.kind b (Calls.loadGlobal_global (by rw[I.ok.glob];exact I.mod.glob.keeps I.bk) c h) d
theorem W2{E:A3->A4->Prop}{a:A1 (A2×Obj)}{s:A4}{σ:St}{H:Hp}{x:Str}{u:A3}{pos:Pos}{Q:A3->A4->Prop}(I:Inv X a σ H s)(b:Gl X x)(c:X.mg x=none)(d:bootBuiltins x=some u)(h:Q u s)
  (e:x≠ "__name__":=by decide) (f:(x ==("__debug__":Str))=false:=by decide):wpAny (model X.prog X.w) X.A (eval (.Name x pos) X.env) Q E s:=by
 obtain⟨j,g,i⟩:=I.mod.blt;exact Calls.Name_function_global I.ok.kind b (Calls.loadGlobal_builtin (by rw[I.ok.glob];exact I.mod.glob.keeps I.bk) c (by rw[I.ok.blt];exact g.keeps I.bk) ((i x e).trans d) h) f
theorem Kq{x:Str}{v:V}{u:A3}{pos:Pos}(a:Gl X x)(b:X.mg x=some u)(r:RelV v u)(c:(x ==("__debug__":Str))=false:=by decide):PE X (.Name x pos) (tC v) :=
 λ_ _ _ H _ I h=>Lf I a b ⟨v,H,I,r,h⟩ c
theorem Zk{x:Str}{v:V}{u:A3}{pos:Pos}(a:Gl X x)(b:X.mg x=none)(c:bootBuiltins x=some u)(r:RelV v u)(d:x≠ "__name__":=by decide)(e:(x ==("__debug__":Str))=false:=by decide):PE X (.Name x pos) (tC v) :=
 λ_ _ _ H _ I h=>W2 I a b c ⟨v,H,I,r,h⟩ d e
variable{a b:IL}{ta tb:TE}{pos:Pos}
def PC(X:Cx)(op:CmpOp)(a b:IL)(t:TE):Prop :=
 ∀(c:A1 (A2×Obj)) (s:A4) (σ:St) (H:Hp) (Q:VK),Inv X c σ H s->t σ H Q ->
  wpAny (model X.prog X.w) X.A (eval a X.env) (λv s₁=>wpAny (model X.prog X.w) X.A (eval b X.env) (λu s₂=>wpAny (model X.prog X.w) X.A (compareOp op v u) (EP X c σ Q) X.xe s₂) X.xe s₁) X.xe s
def tB(t:TE):TT:=λσ H Q=>t σ H λx a=>∃c,x = .bl c/\Q c a
theorem zEu{op:CmpOp}{t:TE}(h:PC X op a b t)(h1:behindInMarks op b=false:=by first | exact e _ (by decide) (by decide) | rfl):PT X (.Compare a [op] [b] pos) (tB t):=by
 intro f s σ H Q I g;refine wpAny_isTrue_Compare1 (JA (h f s σ H _ I g) λv n h1=>JA h1 λu o i=>JA i λc p ⟨x,j,k,l,m⟩=>?_) h1;obtain⟨d,rfl,q⟩:=m;cases l;exact CU ⟨j,k,q⟩
theorem Q2{e:IL}{t:TE}(h:PE X e t)(c:∀a,isTrue e X.env a =(do let v <-a;standAt e.pos;holding [v] (truthy v)):=by intro _;rfl):PT X e (tB t):=by
 intro b s σ H Q I f;refine isTrue_plain (JA (h b s σ H _ I f) λv l ⟨x,g,i,j,k⟩=>?_) (c _);obtain⟨d,rfl,q⟩:=k;cases j;exact CU ⟨g,i,q⟩
variable{tA tB':TT}{rest:A1 IL}
def zJl(t u:TT):TT:=λσ H Q=>t σ H λc a=>if c=true then u σ a Q else Q false a
def tOr(t u:TT):TT:=λσ H Q=>t σ H λc a=>if c=true then Q true a else u σ a Q
def zIw(t:TT):TT:=λσ H Q=>t σ H λc a=>Q (!c) a
theorem u4(d:PT X a tA):PW X (.BoolOp .And [a] pos) tA:=by
 intro f b s σ H Q I h;refine isTrue_and (JA (d b s σ H Q I h) λc g e=>?_);cases c with
 | true=>exact isTrue_and_nil e
 | false=>exact e
theorem Af(d:PT X a tA):PW X (.BoolOp .Or [a] pos) tA:=by
 intro f b s σ H Q I h;refine isTrue_or (JA (d b s σ H Q I h) λc g e=>?_);cases c with
 | false=>exact isTrue_or_nil e
 | true=>exact e
theorem Cn(i:PT X a tA)(j:PW X (.BoolOp .And (b::rest) pos) tB'):PW X (.BoolOp .And (a::b::rest) pos) (zJl tA tB'):=by
 intro k d s σ H Q I h;refine isTrue_and (JA (i d s σ H _ I h) λc l ⟨e,f,g⟩=>?_);cases c with
 | true=>exact j k d l σ e Q f g
 | false=>exact⟨e,f,g⟩
theorem Ij(i:PT X a tA)(j:PW X (.BoolOp .Or (b::rest) pos) tB'):PW X (.BoolOp .Or (a::b::rest) pos) (tOr tA tB'):=by
 intro k d s σ H Q I h;refine isTrue_or (JA (i d s σ H _ I h) λc l ⟨e,f,g⟩=>?_);cases c with
 | true=>exact⟨e,f,g⟩
 | false=>exact j k d l σ e Q f g
theorem W7(d:PT X a tA):PT X (.UnaryOp .Not a pos) (zIw tA):=by
 intro b s σ H Q I h;exact isTrue_not (d b s σ H (λc e=>Q (!c) e) I h)
def zGu(ta tb:TE):TE:=λσ H Q=>ta σ H λx a=>∃c,x = .bl c/\if c=true then tb σ a Q else Q (.bl false) a
def zGl(ta:TE):TE:=λσ H Q=>ta σ H λx a=>∃c,x = .bl c/\Q (.bl (!c)) a
theorem Dq{op}{t:TE}(h:PE X a t):PE X (.BoolOp op [a] pos) t:=λb s σ H Q I c=>BoolOp_one (h b s σ H Q I c)
theorem Dl(i:PE X a ta)(j:PE X (.BoolOp .And (b::rest) pos) tb):PE X (.BoolOp .And (a::b::rest) pos) (zGu ta tb):=by
 intro d s σ H Q I h;refine BoolOp_and (JA (i d s σ H _ I h) λv k ⟨x,f,g,l,e⟩=>?_);obtain⟨c,rfl,e⟩:=e;cases l;refine CU ?_;cases c with
 | true=>exact j d k σ f Q g e
 | false=>exact⟨.bl false,f,g,rfl,e⟩
theorem zDg(e:PE X a ta):PE X (.UnaryOp .Not a pos) (zGl ta):=by
 intro b s σ H Q I h;refine UnaryOp_ (JA (e b s σ H _ I h) λv j ⟨x,f,g,i,d⟩=>?_);obtain⟨c,rfl,d⟩:=d;cases i;exact not_of (CU ⟨.bl (!c),f,g,rfl,d⟩)
def tIf(t:TT)(ta tb:TE):TE:=λσ H Q=>t σ H λc a=>if c=true then ta σ a Q else tb σ a Q
theorem Vz{c:IL}(k:PT X c tA)(l:PE X a ta)(m:PE X b tb):PE X (.IfExp c a b pos) (tIf tA ta tb):=by
 intro e s σ H Q I h;refine wpAny_IfExp (JA (k e s σ H _ I h) λd f ⟨g,i,j⟩=>?_);cases d with
 | true=>exact l e f σ g Q i j
 | false=>exact m e f σ g Q i j
end
def IQ(K:PySem.W.Frag)(H:Hp)(a:A2)(xs:A1 V):Prop :=
 Rd H a (.lst xs) \/
  ∃(o:Obj) (b:CM A3) (n:Nat),K.lookup a=some o/\o.cls = .type "list"/\o.dict=none/\o.data = .seq b n/\b.size<=sizeLine/\IR xs b.toList
def JH(K:PySem.W.Frag)(H:Hp)(a:A2)(xs:A1 V):Prop :=
 Rd H a (.tup xs) \/
  ∃(o:Obj) (b:CM A3) (n:Nat),K.lookup a=some o/\o.cls = .type "tuple"/\o.data = .seq b n/\b.size<=sizeLine/\IR xs b.toList
def zJd:A3->A5 V
 | .none=>some .non
 | .bool b=>some (.bl b)
 | .int i _=>some (.int i)
 | .str x _=>some (.str x)
 | .bytes b _=>some (.byt b)
 | .float b _=>some (.flt b)
 | .ref a=>some (.ref a)
 | .type n=>some (.ty n)
 | _=>none
def RelV.abs{x:V}{u:A3}(r:RelV x u):zJd u=some x:=by
 cases x with
 | non=>cases r;rfl
 | bl _=>cases r;rfl
 | int _=>obtain⟨t,rfl⟩:=r;rfl
 | str _=>obtain⟨t,rfl⟩:=r;rfl
 | byt _=>obtain⟨t,rfl⟩:=r;rfl
 | flt _=>obtain⟨t,rfl⟩:=r;rfl
 | ref _=>cases r;rfl
 | ty _=>cases r;rfl
def RelV.inj{x y:V}{u:A3}(r:RelV x u)(q:RelV y u):x=y:=BN (r.abs.symm.trans q.abs)
def IR.inj:∀{xs a:A1 V} {us:A1 A3},IR xs us->IR a us->xs=a
 | _,_,_,.nil,.nil=>rfl
 | _,_,_,.cons r t,.cons b c=>by rw[r.inj b,IR.inj t c]
section
variable{X:Cx}{pins:A1 (A2×Obj)}{σ:St}{H:Hp}{s:A4}{a:A2}{xs ys:A1 V}
theorem IQ.of{K:PySem.W.Frag}(h:H a=some (.lst xs)):IQ K H a xs:=.inl (.inl h)
theorem JH.of{K:PySem.W.Frag}(h:H a=some (.tup xs)):JH K H a xs:=.inl (.inl h)
theorem Inv.list(I:Inv X pins σ H s)(h:IQ X.K H a xs):∃its:A1 A3,IR xs its/\PlainL s.heap a its.toArray/\xs.length<=sizeLine:=by
 rcases h with h | ⟨o,its,n,b,c,d,f,g,r⟩
 .obtain⟨z,its,n,r,e⟩:=h.ok I.hok;exact⟨its,r,⟨_,n,e,rfl,rfl,rfl⟩,z⟩
 .refine⟨its.toList,r,⟨o,n,I.kIn a o b,c,d,by simpa using f⟩,?_⟩;have e:=r.length;simp only[BG]at e;lia
theorem Inv.tuple(I:Inv X pins σ H s)(h:JH X.K H a xs):∃its:A1 A3,IR xs its/\IsTup s.heap a its.toArray/\xs.length<=sizeLine:=by
 rcases h with h | ⟨o,its,n,b,c,d,f,r⟩
 .obtain⟨z,its,r,p⟩:=h.ok I.hok;exact⟨its,r,p,z⟩
 .refine⟨its.toList,r,⟨o,I.kIn a o b,c,n,by simpa using d⟩,?_⟩;have e:=r.length;simp only[BG]at e;lia
theorem Inv.list_inj(I:Inv X pins σ H s)(h:IQ X.K H a xs)(h':IQ X.K H a ys):xs=ys:=by
 obtain⟨c,r,⟨o,n,e,_,_,d⟩,_⟩:=I.list h;obtain⟨b,i,⟨k,l,f,_,_,g⟩,_⟩:=I.list h';rw[e]at f;cases f;rw[d]at g;injection g with j _;have:c=b:=by simpa using congrArg Array.toList j
 subst this;exact r.inj i
theorem Inv.tuple_inj(I:Inv X pins σ H s)(h:JH X.K H a xs)(h':JH X.K H a ys):xs=ys:=by
 obtain⟨c,r,⟨o,e,_,n,d⟩,_⟩:=I.tuple h;obtain⟨b,i,⟨k,f,_,l,g⟩,_⟩:=I.tuple h';rw[e]at f;cases f;rw[d]at g;injection g with j _;have:c=b:=by simpa using congrArg Array.toList j
 subst this;exact r.inj i
end
abbrev Cx.wish(X:Cx)(E:A3->A4->Prop):Cx:={ X with xe:=E }
abbrev Cx.nox(X:Cx):Cx:=X.wish λ_ _=>False
def Cx.Ok.wish{X:Cx}(a:X.Ok)(E:A3->A4->Prop):(X.wish E).Ok :=
 ⟨a.mod,a.kind,a.glob,a.blt,a.above,a.inj,a.has,a.cab,a.hd,a.frames,a.stk,a.exf,a.bs,a.bsz,a.noex,a.exfs,a.funs,a.frf⟩
def Cx.Ok.unwish{X:Cx}{E:A3->A4->Prop}(a:(X.wish E).Ok):X.Ok :=
 ⟨a.mod,a.kind,a.glob,a.blt,a.above,a.inj,a.has,a.cab,a.hd,a.frames,a.stk,a.exf,a.bs,a.bsz,a.noex,a.exfs,a.funs,a.frf⟩
section
variable{X:Cx}{pins:A1 (A2×Obj)}{σ:St}{H:Hp}{s:A4}{E:A3->A4->Prop}
theorem Inv.wish(I:Inv X pins σ H s)(E:A3->A4->Prop):Inv (X.wish E) pins σ H s:=⟨I.ok.wish E,I.os,I.bare,I.base,I.loc,I.cell,I.free,I.freeC,I.pin,I.hok,I.len⟩
theorem Inv.unwish(I:Inv (X.wish E) pins σ H s):Inv X pins σ H s:=⟨I.ok.unwish,I.os,I.bare,I.base,I.loc,I.cell,I.free,I.freeC,I.pin,I.hok,I.len⟩
theorem SP.unwish{D:Ends}{f:Flow}{b:A4}(h:SP (X.wish E) pins D f b):SP X pins D f b:=by
 cases f with
 | next=>obtain⟨σ',a,I,q⟩:=h;exact⟨σ',a,I.unwish,q⟩
 | brk=>obtain⟨σ',a,I,q⟩:=h;exact⟨σ',a,I.unwish,q⟩
 | cont=>obtain⟨σ',a,I,q⟩:=h;exact⟨σ',a,I.unwish,q⟩
 | ret u=>obtain⟨v,σ',a,I,r,q⟩:=h;exact⟨v,σ',a,I.unwish,r,q⟩
theorem QV.nox{st:A1 IV}{t:TS}(h:QV X.nox st t):QV X st t:=λpins s σ H D I a =>
 CI (h pins s σ H D (I.wish _) a) (λ_ _ q=>q.unwish) λ_ _ z=>False.elim z
end
section
variable{X:Cx}{st:IV}{rest:A1 IV}{t u:TS}{e:IL}{te:TE}{pos:Pos}
def zGt:TS:=λD σ H=>D.nx σ H
def zFx(t u:TS):TS:=λD σ H=>t { D with nx:=u D } σ H
theorem C3:QV X [] zGt:=λ_ _ σ H _ I h=>wpAny_execs_nil ⟨σ,H,I,h⟩
theorem B3(h1:PS X st t)(h2:QV X rest u):QV X (st::rest) (zFx t u):=by
 intro a s σ H D I h;refine wpAny_execs_cons (JA (h1 a s σ H { D with nx:=u D } I h) λf b q=>?_);cases f with
 | next =>
  obtain⟨σ',c,d,q⟩:=q;exact h2 a b σ' c D d q
 | ret v=>exact q
 | brk=>exact q
 | cont=>exact q
theorem B4(h1:PS X st t):QV X [st] t:=by
 intro a s σ H D I h;refine wpAny_execs_cons (JA (h1 a s σ H D I h) λf b q=>?_);cases f with
 | next=>exact wpAny_execs_nil q
 | ret v=>exact q
 | brk=>exact q
 | cont=>exact q
theorem Inv.quiet{a:A1 (A2×Obj)}{σ:St}{H:Hp}{s:A4}(I:Inv X a σ H s):interactive X.env=false:=by simp[interactive,I.ok.kind]
def zGz(te:TE):TS:=λD σ H=>te σ H λ_ a=>D.nx σ a
theorem E2(b:PE X e te)(c:swapsWith e none pos.line X.env=pure false:=by rfl):PS X (.Expr e pos) (zGz te):=by
 intro a s σ H D I h;exact wpAny_Expr_any (JA (b a s σ H _ I h) λv i ⟨x,d,f,j,g⟩=>⟨σ,d,f,g⟩) I.quiet c
def zGi(te:TE):TS:=λD σ H=>te σ H D.rt
theorem C1(b:PE X e te):PS X (.Return (some e) pos) (zGi te):=by
 intro a s σ H D I h;exact wpAny_Return_some (JA (b a s σ H _ I h) λv i ⟨x,c,d,f,g⟩=>⟨x,σ,c,d,f,g⟩)
def zHn:TS:=λD _ H=>D.rt .non H
theorem y6:PS X (.Return none pos) zHn:=λ_ _ σ H _ I h=>wpAny_Return_none ⟨.non,σ,H,I,rfl,h⟩
def zIu(c:TT)(t u:TS):TS:=λD σ H=>c σ H λb a=>if b=true then t D σ a else u D σ a
theorem J7{c:IL}{a b:A1 IV}{f:TT}(l:PT X c f)(m:QV X a t)(n:QV X b u):PS X (.If c a b pos) (zIu f t u):=by
 intro e s σ H D I h;refine wpAny_If (JA (l e s σ H _ I h) λd g ⟨i,j,k⟩=>?_);cases d with
 | true=>exact m e g σ i D j k
 | false=>exact n e g σ i D j k
def zFl:TS:=λ_ _ _=>False
theorem q0:PS X st zFl:=λ_ _ _ _ _ _ h=>h.elim
end
abbrev TG:=V->St->Hp->(St->Hp->Prop)->Prop
abbrev S1:=A1 V->St->Hp->(St->Hp->Prop)->Prop
def PG(X:Cx)(a:IL)(t:TG):Prop :=
 ∀(b:A1 (A2×Obj)) (s:A4) (σ:St) (H:Hp) (v:V) (u:A3) (Q:St->Hp->Prop),Inv X b σ H s->RelV v u->t v σ H Q ->
  wpAny (model X.prog X.w) X.A (assign a X.env u) (λ_ d=>∃σ' c,Inv X b σ' c d/\Q σ' c) X.xe s
def UP(X:Cx)(ts:A1 IL)(t:S1):Prop :=
 ∀(a:A1 (A2×Obj)) (s:A4) (σ:St) (H:Hp) (b:A1 V) (c:A1 A3) (Q:St->Hp->Prop),Inv X a σ H s->IR b c->t b σ H Q ->
  wpAny (model X.prog X.w) X.A (assignInOrder ((assignEach ts X.env).map (·.2)) c) (λ_ e=>∃σ' d,Inv X a σ' d e/\Q σ' d) X.xe s
abbrev NN:=V->V->V->Hp->(Hp->Prop)->Prop
def zIh(X:Cx)(t:NN):Prop :=
 ∀(a:A1 (A2×Obj)) (s:A4) (σ:St) (H:Hp) (o i v:V) (b c u:A3) (Q:Hp->Prop),Inv X a σ H s->RelV o b->RelV i c->RelV v u->t o i v H Q ->
  wpAny (model X.prog X.w) X.A (setItem b c u) (λ_ e=>∃d,Inv X a σ d e/\Q d) X.xe s
abbrev TIp:=V->V->Hp->VK->Prop
def PIp(X:Cx)(op:Operator)(t:TIp):Prop :=
 ∀(a:A1 (A2×Obj)) (s:A4) (σ:St) (H:Hp) (x y:V) (v u:A3) (Q:VK),Inv X a σ H s->RelV x v->RelV y u->t x y H Q ->
  wpAny (model X.prog X.w) X.A (inplaceOp op v u) (EP X a σ Q) X.xe s
section
variable{X:Cx}{pos:Pos}
def W8(i:Nat):TG:=λv σ H Q=>Q (σ.set i (some v)) H
theorem D6{i:Nat}{x:Str}(b:X.N.Nodup)(hi:X.N[i]?=some x)(c:Loc X.env.scope x)(d:X.fn x=true\/X.env.scope.names.lookup x=some .local:=by first | exact .inl rfl | exact .inr rfl | assumption):PG X (.Name x pos) (W8 i):=by
 intro a s σ H v u Q I r h;exact wpAny_assign_Name (Eh I b hi c r (λf e=>⟨_,H,e,h⟩) d)
def zIn:S1:=λa σ H Q=>a = []/\Q σ H
def zBo(t:TG)(u:S1):S1:=λa σ H Q=>∃v r,a=v::r/\t v σ H λσ' b=>u r σ' b Q
theorem O7:UP X [] zIn:=by
 intro a s σ H b c Q I r h;obtain⟨e,h⟩:=h;subst e;cases r;exact assignInOrder_nil ⟨σ,H,I,h⟩
theorem C9{e:IL}{b:A1 IL}{t:TG}{u:S1}(h1:PG X e t)(h2:UP X b u)
  (c:(assignEach (e::b) X.env).map (·.2)=assign e X.env ::(assignEach b X.env).map (·.2):=by rfl):UP X (e::b) (zBo t u):=by
 intro a s σ H l m Q I r h;obtain⟨v,n,d,h⟩:=h;subst d;cases r with
 | cons r f =>
  rw[c];refine assignInOrder_cons (JA (h1 a s σ H _ _ _ I r h) λ_ g ⟨σ1,i,j,k⟩=>?_);exact h2 a g σ1 i _ _ Q j f k
def zGf(K:PySem.W.Frag)(n:Nat)(t:S1):TG:=λv σ H Q=>∃a b,v = .ref a/\JH K H a b/\b.length=n/\t b σ H Q
theorem zFf{d:A1 IL}{k:Nat}{t:S1}{n:Nat}(j:X.calm=true)(h:UP X d t)
  (l:(assignEach d X.env).length=n:=by rfl) (f:(assignEach d X.env).findIdx? (·.1)=none:=by rfl):PG X (.Tuple d k pos) (zGf X.K n t):=by
 intro c s σ H v u Q I r g;obtain⟨a,m,p,q,w,g⟩:=g;subst p;cases r;obtain⟨x,i,y,C⟩:=I.tuple q;refine assign_Tuple_tuple (I.ok.hd j) y (by simp[l,<-w,i.length]) f λz A=>?_;have B:Inv X c σ H { s with heap:=z }:=I.kept (t':=s.toks) λb o e=>A b o (AZ (AI e)) e;exact h c _ σ H m _ Q B (by simpa using i) g
def zJg(a b:TE)(t:NN):TG:=λv σ H Q=>a σ H λo c=>b σ c λi d=>t o i v d λe=>Q σ e
theorem Yt{o i:IL}{d e:TE}{t:NN}(f:PE X o d)(hi:PE X i e)(g:zIh X t)
  (j:∀v,assign (.Subscript o i pos) X.env v =(do
   let b <-holding [v] (eval o X.env)
   let c <-holding [v,b] (eval i X.env)
   standAt pos
   holding [v,b,c] (setItem b c v)
   release [v,b,c] []):=by intro _;rfl):PG X (.Subscript o i pos) (zJg d e t):=by
 intro a s σ H v u Q I r h;rw[j];refine AB (BZ (JA (f a s σ H _ I h) λb k ⟨x,l,m,n,p⟩=>?_));refine AB (BZ (JA (hi a k σ l _ m p) λc q ⟨y,w,z,A,B⟩=>?_));refine AB (HE (AB (BZ (JA (g a q σ w x y v b c u _ z n A r B) λ_ F ⟨C,D,E⟩=>?_))));exact wpAny_release ⟨σ,C,D,E⟩
def zGy(a:TE)(g:TG):TS:=λD σ H=>a σ H λx b=>g x σ b D.nx
theorem l4{tg e:IL}{b:TE}{g:TG}(c:PE X e b)(d:PG X tg g)(f:swapsWithSole [tg] e pos.line X.env=pure false:=by rfl)(hw:swappedStores [tg] e X.env=pure none:=by rfl)
  (h1:(assignEach [tg] X.env).map (·.2) = [assign tg X.env]:=by rfl):PS X (.Assign [tg] e pos) (zGy b g):=by
 intro a s σ H D I h;refine wpAny_Assign_stores (JA (c a s σ H _ I h) λv i ⟨x,j,k,l,m⟩=>?_) f hw;rw[h1];exact JA (d a i σ j x v _ k l m) λ_ n q=>q
theorem C2{i:Nat}{x:Str}{e:IL}{c:TE}{a:Pos}(d:X.N.Nodup)(hi:X.N[i]?=some x)(f:Loc X.env.scope x)(g:PE X e c)(j:swapsWith e (some (.Name x a)) pos.line X.env=pure false:=by rfl)(k:X.fn x=true\/X.env.scope.names.lookup x=some .local:=by first | exact .inl rfl | exact .inr rfl | assumption) :
  PS X (.Assign [.Name x a] e pos) (zGy c (W8 i)):=by
 intro b s σ H D I h;refine wpAny_Assign_Name (JA (g b s σ H _ I h) λv q ⟨y,l,m,n,o⟩=>?_) j;exact Eh m d hi f n (λr p=>⟨_,l,p,o⟩) k
def zIx(i:Nat)(a:TE)(b:TIp):TS:=λD σ H=>∃x,σ[i]?=some (some x)/\a σ H λy c=>b x y c λz d=>D.nx (σ.set i (some z)) d
theorem zFi{i:Nat}{x:Str}{e:IL}{j:TE}{op:Operator}{n:TIp}{d:Pos}(o:X.N.Nodup)(hi:X.N[i]?=some x)(f:Loc X.env.scope x)(p:PE X e j)(q:PIp X op n)(t:X.fn x=true\/X.env.scope.names.lookup x=some .local:=by first | exact .inl rfl | exact .inr rfl | assumption) :
  PS X (.AugAssign (.Name x d) op e pos) (zIx i j n):=by
 intro a s σ H D I h;obtain⟨v,B,h⟩:=h;obtain⟨m,C,E⟩:=I.loc;have g:UN X.env.scope x:=by rcases f with k | k;exact .inl k;exact .inr (.inl k)
 obtain⟨u,r,l⟩:=E i x v hi B g;refine wpAny_AugAssign_Name ?_;have go:wpAny (model X.prog X.w) X.A (eval e X.env) (λw s₂=>wpAny (model X.prog X.w) X.A (inplaceOp op u w) (λr s₃=>wpAny (model X.prog X.w) X.A (storeName X.env x r) (λ_=>SP X a D .next) X.xe s₃) X.xe s₂) X.xe s:=by
  refine JA (p a s σ H _ I h) λw F ⟨y,G,J,K,L⟩=>?_;refine JA (q a F σ G v y u w _ J r K L) λz U ⟨V,M,O,P,Q⟩=>?_;exact Eh O o hi f P (λW R=>⟨_,M,R,Q⟩) t
 rcases l with⟨hk,S⟩ | ⟨hk,c,T,b⟩
 .exact wpAny_loadName_local I.ok.kind hk C S go
 .rcases hk with hk | hk
  .exact wpAny_loadName_cell I.ok.kind hk T b go
  .rcases f with k | k
   .have:X.env.scope.names.lookup x=some .free:=hk;rw[k]at this;cases this
   .have:X.env.scope.names.lookup x=some .free:=hk;rw[k]at this;cases this
def ipI(f:Int->Int->Int):TIp:=λx y H Q=>∃i j,x = .int i/\y = .int j/\Q (.int (f i j)) H
def zFs(c:TT)(f:TS):TS:=λD σ H=>∃W:Nat->St->Hp->Prop,(∃m,W m σ H)/\∀m σ H,W m σ H ->
 c σ H λb a=>if b=true then ∃N:St->Hp->Prop,(∀σ' d,N σ' d->∃e,e < m/\W e σ' d)/\f { D with nx:=N,ct:=N,bk:=D.nx } σ a else D.nx σ a
theorem Fk{c:IL}{d:A1 IV}{q:TT}{r:TS}(t:PassesOwn (model X.prog X.w) X.A X.env X.xe)(C:PT X c q)(E:QV X d r):PS X (.While c d [] pos) (zFs q r):=by
 intro a s σ H D I h;obtain⟨W,⟨F,G⟩,e⟩:=h;refine wpAny_While (codeAny_whileLoop (λn J=>∃σ' u,Inv X a σ' u J/\W n σ' u) ?_ F ⟨σ,H,I,G⟩);rintro n K ⟨σ1,x,L,M⟩;refine FS t (JA (C a K σ1 x _ L (e n σ1 x M)) λb O ⟨y,z,i⟩=>?_);cases b with
 | true =>
  obtain⟨N,B,i⟩:=i;rw[AO rfl];refine FS t (JA (E a O σ1 y _ z i) λf P j=>?_);cases f with
  | next =>
   obtain⟨σ3,g,k,l⟩:=j;obtain⟨m,o,p⟩:=B σ3 g l;exact⟨m,o,σ3,g,k,p⟩
  | cont =>
   obtain⟨σ3,g,k,l⟩:=j;obtain⟨m,o,p⟩:=B σ3 g l;exact⟨m,o,σ3,g,k,p⟩
  | brk=>exact j
  | ret v=>exact j
 | false =>
  rw[AN BD];exact wpAny_execs_nil ⟨σ1,y,z,i⟩
end
set_option genInjectivity false in
structure It where
 go:Nat->Hp->Prop
 yld:Nat->Hp->V->Hp->Prop
 stop:Nat->Hp->Prop
def Es(X:Cx)(a:A1 (A2×Obj))(H:Hp)(b:A2):Prop :=
 H b=none/\b≠X.env.locals/\b∉X.fs/\(b∈X.ex\/X.s₀.heap.objs.size<=b)/\(∀x c,X.env.cells.lookup x=some c->c≠b)/\∀p∈X.pn++a,p.1≠b
def Inv.fpOk{X:Cx}{a:A1 (A2×Obj)}{σ:St}{H H':Hp}{s:A4}{b:A2}(I:Inv X a σ H s)(d:s.heap.objs.size<=b)(f:H' b=none):Es X a H' b:=by
 refine⟨f,Nat.ne_of_gt (BK I.lt d),I.nofs d,.inr (Nat.le_trans I.sz d),λx c e z=>?_,λp g z=>?_⟩
 .obtain⟨v,q⟩:=I.cell x c e;exact absurd (BK q.lt (by rw[z];exact d)) (EY _)
 .exact absurd (BK (AI (I.pin p g).1) (by rw[z];exact d)) (EY _)
structure NE(P:A7)(w:F8)(K:PySem.W.Frag)(tg:IL)(J:It)(fp:A1 A2)(it:A2)(tn:Nat->IJ->Prop):Prop where
 mem:it∈fp
 obj:∀i h,tn i h->∀b∈fp,∃o,h.get? b=some o/\∀v,o.data≠ .cell v
 keep:∀i h h',tn i h->(∀b∈fp,∀o,h.get? b=some o->h'.get? b=some o)->tn i h'
 item:∀(X:Cx),X.prog=P->X.w=w->X.K=K->X.calm=true->∀(i:Nat) (pins:A1 (A2×Obj)) (s:A4) (σ:St) (H:Hp) (E:A3->A4->Prop),Inv X pins σ H s->(∀b∈fp,Es X pins H b)->tn i s.heap->J.go i H ->
  wpAny (model P w) X.A (pyNext (.ref it)) (λr s1=>∃u,r=some u /\
   wpAny (model P w) X.A (letOwnedTupleGo tg (.ref it) u) (λ_ s2=>∃x H',Inv X pins σ H' s2/\RelV x u/\J.yld i H x H'/\tn (i+1) s2.heap/\∀b∈fp,H' b=none) E s1) E s
 done:∀(X:Cx),X.prog=P->X.w=w->X.K=K->X.calm=true->∀(i:Nat) (pins:A1 (A2×Obj)) (s:A4) (σ:St) (H:Hp) (E:A3->A4->Prop),Inv X pins σ H s->(∀b∈fp,Es X pins H b)->tn i s.heap->J.stop i H ->
  wpAny (model P w) X.A (pyNext (.ref it)) (λr s1=>r=none/\Inv X pins σ H s1) E s
 self:∀(A:IM) (i:Nat) (s:A4) (Q:A3->A4->Prop) (E:A3->A4->Prop),tn i s.heap->Q (.ref it) s->wpAny (model P w) A (pyIter (.ref it)) Q E s
abbrev TI:=St->Hp->(It->Hp->Prop)->Prop
def PIE(X:Cx)(a:A1 (A2×Obj))(σ:St)(tg:IL)(R:It->Hp->Prop)(c:A3)(e:A4):Prop :=
 ∃(f:A2) (g:A1 A2) (h:Nat->IJ->Prop) (J:It) (d:Hp),c = .ref f/\Inv X a σ d e/\NE X.prog X.w X.K tg J g f h/\h 0 e.heap/\(∀b∈g,Es X a d b)/\R J d
def PI(X:Cx)(tg iter:IL)(b:TI):Prop :=
 ∀(a:A1 (A2×Obj)) (s:A4) (σ:St) (H:Hp) (R:It->Hp->Prop),Inv X a σ H s->b σ H R ->
  wpAny (model X.prog X.w) X.A (eval iter X.env) (λv c=>wpAny (model X.prog X.w) X.A (pyIter v) (PIE X a σ tg R) X.xe c) X.xe s
def Oy{M:Model}{A:IM}{E:A3->A4->Prop}{s:A4}{tg:IL}{b:A2}{u:A3}{o:Obj}{n:String}{vs:CM A3}{Q:Unit->A4->Prop}(c:s.heap.get? b=some o)(d:o.cls = .type n)(e:o.data = .fields vs)
    (f:["enumerate", "zip", "dict_itemiterator", "dict_reverseitemiterator", "odict_iterator", "itertools.zip_longest", "itertools.pairwise"].contains n=false) (a:Q () s):wpAny M A (letOwnedTupleGo tg (.ref b) u) Q E s:=by
  unfold letOwnedTupleGo;cases tg<;>first
    | exact AG a
    | (cases u<;>first
        | exact AG a
        | (refine AB (wpAny_load c ?_)
           rw[d,e];show wpAny M A (if(["enumerate", "zip", "dict_itemiterator", "dict_reverseitemiterator", "odict_iterator", "itertools.zip_longest", "itertools.pairwise"].contains n&&vs[0]? == some (rawInt _))=true then _ else _) Q E s;rw[AN (by intro h;rw[f,EQ]at h;cases h)];exact AG a))
def UE(K:PySem.W.Frag)(a:A2):It :=
 ⟨λi H=>∃b x,IQ K H a b/\b[i]?=some x,λi H x c=>c=H/\∀b,IQ K H a b->b[i]?=some x,λi H=>∃b,IQ K H a b/\b.length<=i⟩
def Itt(K:PySem.W.Frag)(a:A2):It :=
 ⟨λi H=>∃b x,JH K H a b/\b[i]?=some x,λi H x c=>c=H/\∀b,JH K H a b->b[i]?=some x,λi H=>∃b,JH K H a b/\b.length<=i⟩
def SF(lo:Int)(n:Nat):It:=⟨λi _=>i<n,λi H x a=>a=H/\x = .int (lo+i),λi _=>n<=i⟩
def Gy{P:A7}{w:F8}{K:PySem.W.Frag}{tg:IL}(a g:A2):NE P w K tg (UE K a) [g] g (λi h=>h.IsListIter g a i) where
 mem:=by simp
 obj:=λi h st b j=>by
  have e:b=g:=by simpa using j
  subst e;obtain⟨o,e,c,d⟩:=st;exact⟨o,e,λv z=>by rw[d]at z;cases z⟩
 keep:=λi h m st k=>st.at λo e=>k g (by simp) o e
 item:=by
  intro X r t y N i f s σ H E I n st A;subst r t y;obtain⟨O,x,q,B⟩:=A;obtain⟨C,D,p,Q⟩:=I.list q;obtain⟨u,R,S⟩:=D.get B;obtain⟨F,G,T,J,L,M⟩:=n g (by simp);refine wpAny_pyNext_list_item st p.isList (x:=u) (by simpa using R) λm l U=>?_;have V:Inv X f σ H { s with heap:=m }:=I.turned (t':=s.toks) (λb o j e=>(U.2 b j).trans e) F G J L M;obtain⟨o,e,c,d⟩:=id l;exact⟨u,rfl,Oy (s:={ s with heap:=m }) e c d (by decide) ⟨x,H,V,S,⟨rfl,λys Y=>by rw[I.list_inj Y q];exact B⟩,l,λb j=>(n b j).1⟩⟩
 done:=by
  intro X r t y N i f s σ H E I n st A;subst r t y;obtain⟨O,q,B⟩:=A;obtain⟨C,D,p,Q⟩:=I.list q;obtain⟨F,G,T,J,L,M⟩:=n g (by simp);have hl:=D.length;exact wpAny_pyNext_list_end (I.ok.hd N) st p.isList (by simp;lia) λm Z=>⟨rfl,I.turned (t':=s.toks) (λb o j e=>Z b o j e) F G J L M⟩
 self:=λ_ _ _ _ _ st h=>wpAny_pyIter_listiter st h
def Ou{P:A7}{w:F8}{K:PySem.W.Frag}{tg:IL}(a g:A2):NE P w K tg (Itt K a) [g] g (λi h=>h.IsTupleIter g a i) where
 mem:=by simp
 obj:=λi h st b j=>by
  have e:b=g:=by simpa using j
  subst e;obtain⟨o,e,c,d⟩:=st;exact⟨o,e,λv z=>by rw[d]at z;cases z⟩
 keep:=λi h n st k=>st.at λo e=>k g (by simp) o e
 item:=by
  intro X t y A N i f s σ H E I q st B;subst t y A;obtain⟨O,x,r,C⟩:=B;obtain⟨l,D,p,Q⟩:=I.tuple r;obtain⟨u,R,S⟩:=D.get C;obtain⟨F,G,T,J,L,M⟩:=q g (by simp);refine wpAny_pyNext_tuple_item st (show s.heap.IsTuple a l.toArray from p) (x:=u) (by simpa using R) λn m U=>?_;have V:Inv X f σ H { s with heap:=n }:=I.turned (t':=s.toks) (λb o j e=>(U.2 b j).trans e) F G J L M;obtain⟨o,e,c,d⟩:=id m;exact⟨u,rfl,Oy (s:={ s with heap:=n }) e c d (by decide) ⟨x,H,V,S,⟨rfl,λys Y=>by rw[I.tuple_inj Y r];exact C⟩,m,λb j=>(q b j).1⟩⟩
 done:=by
  intro X t y A N i f s σ H E I q st B;subst t y A;obtain⟨O,r,C⟩:=B;obtain⟨l,D,p,Q⟩:=I.tuple r;obtain⟨F,G,T,J,L,M⟩:=q g (by simp);have hl:=D.length;exact wpAny_pyNext_tuple_end (I.ok.hd N) st (show s.heap.IsTuple a l.toArray from p) (by simp;lia) λn Z=>⟨rfl,I.turned (t':=s.toks) (λb o j e=>Z b o j e) F G J L M⟩
 self:=λ_ _ _ _ _ st h=>wpAny_pyIter_tupleiter st h
def Pb{P:A7}{w:F8}{K:PySem.W.Frag}{tg:IL}(a:A2)(lo:Int)(n:Nat):NE P w K tg (SF lo n) [a] a (λi h=>IsRangeIter h a (lo +(i:Nat)*1) ((n:Int)-(i:Nat)) 1) where
 mem:=by simp
 obj:=λi h st b d=>by
  have e:b=a:=by simpa using d
  subst e;exact⟨_,st,λv z=>by
   have D:Data.fields _=Data.cell v:=z;cases D⟩
 keep:=λi h g st k=>k a (by simp) _ st
 item:=by
  intro X l m p q i c s σ H E I j st r;subst l m p;obtain⟨u,x,F,y,A,B⟩:=j a (by simp);have W:=Walks.range (prog:=X.prog) (w:=X.w) (I.ok.hd q) a lo 1 n;refine W.item i s _ _ r st λv g C G f kk=>?_;obtain⟨t,rfl⟩:=G;have J:Inv X c σ H { s with heap:=g,toks:=C }:=I.turned (λb o d e=>kk b o (by simpa using d) e) u x y A B;refine⟨_,rfl,Oy (s:={ s with heap:=g,toks:=C }) (n := "range_iterator") f rfl rfl (by decide) ⟨.int (lo+i),H,J,⟨t,?_⟩,⟨rfl,rfl⟩,f,λb d=>(j b d).1⟩⟩;rw[Int.mul_one]
 done:=by
  intro X l m p q i c s σ H E I j st r;subst l m p;obtain⟨u,x,F,y,A,B⟩:=j a (by simp);exact wpAny_pyNext_range_end (I.ok.hd q) st (by have:n<=i:=r;lia) λg L=>⟨rfl,I.turned (t':=s.toks) (λb o d e=>L b o d e) u x y A B⟩
 self:=λ_ _ _ _ _ st h=>wpAny_pyIter_rangeiter st h
section
variable{X:Cx}{tg:IL}
def zEq(K:PySem.W.Frag)(c:TE):TI:=λσ H R=>c σ H λx b=>∃a,x = .ref a/\(∃d,IQ K b a d)/\R (UE K a) b
theorem zAh{l:IL}{g:TE}(i:PE X l g):PI X tg l (zEq X.K g):=by
 intro c s σ H R I h;refine JA (i c s σ H _ I h) λv d ⟨x,j,f,k,m⟩=>?_;obtain⟨a,e,⟨u,n⟩,q⟩:=m;subst e;cases k;obtain⟨r,w,p,y⟩:=f.list n;refine GQ p.isList ?_;refine⟨d.heap.objs.size,[d.heap.objs.size],_,_,j,rfl,f.kept (t':=d.toks) λb o e=>AE _ e,Gy a _,⟨_,AS _ rfl,rfl,rfl⟩,λb t=>?_,q⟩;have e:b=d.heap.objs.size:=by simpa using t
 subst e;exact f.fpOk (Nat.le_refl _) (f.hok.fresh (Nat.le_refl _))
theorem Og{a:A1 (A2×Obj)}{σ:St}{H:Hp}{s:A4}{R:It->Hp->Prop}{E:A3->A4->Prop}{lo hi:Int}{t u v:Tok}{c:Nat}(I:Inv X a σ H s)(h1:-(2^62)<=lo)(h2:lo<2^62)(f:-(2^62)<=hi)(g:hi<2^62)
  (q:R (SF lo (hi-lo).toNat) H):wpAny (model X.prog X.w) X.A (pyIter (.ref s.heap.objs.size)) (PIE X a σ tg R) E { s with heap:=s.heap.push { cls:=.type "range",data:=.fields #[.int lo t,.int hi u,.int 1 v] },toks:=c }:=by
 refine wpAny_pyIter_range (IsRange.new ..) (small_one h1 h2 f g) ?_;have d:Inv X a σ H { s with heap:=s.heap.push { cls:=.type "range",data:=.fields #[.int lo t,.int hi u,.int 1 v] },toks:=c }:=I.kept λb o e=>AE _ e;refine⟨(s.heap.push { cls:=.type "range",data:=.fields #[.int lo t,.int hi u,.int 1 v] }).objs.size,[(s.heap.push { cls:=.type "range",data:=.fields #[.int lo t,.int hi u,.int 1 v] }).objs.size],_,_,H,rfl,
  d.kept (t':=c) λb o e=>AE _ e,Pb _ lo (hi-lo).toNat,?_,λb h=>?_,q⟩
 .have i:lo +((0:Nat):Int)*1=lo:=by simp
  have j:(((hi-lo).toNat:Nat):Int)-((0:Nat):Int)=Builtin.Range.rangeSize lo hi 1:=by rw[rangeSize_one];split<;>lia
  show IsRangeIter _ _ (lo +((0:Nat):Int)*1) ((((hi-lo).toNat:Nat):Int)-((0:Nat):Int)) 1;rw[i,j];exact AS _ rfl
 .have e:b =(s.heap.push { cls:=.type "range",data:=.fields #[.int lo t,.int hi u,.int 1 v] }).objs.size:=by simpa using h
  subst e;exact d.fpOk (Nat.le_refl _) (d.hok.fresh (Nat.le_refl _))
def zCw(a:TA):TI:=λσ H R=>a σ H λb c=>∃j:Int,b = [.int j]/\-(2^62)<=j/\j<2^62/\R (SF 0 j.toNat) c
def zGh(a:TA):TI:=λσ H R=>a σ H λb c=>∃i j:Int,b = [.int i,.int j]/\(-(2^62)<=i/\i<2^62/\-(2^62)<=j/\j<2^62)/\R (SF i (j-i).toNat) c
theorem Tf{a:IL}{d:TA}{p pos:Pos}(f:Gl X "range")(g:X.mg "range" = none)(i:PA X [a] d)(k:starEach [a] X.env = [(false,eval a X.env)]:=by rfl):PI X tg (.Call (.Name "range" p) [a] [] pos) (zCw d):=by
 intro b s σ H R I h;refine Call_ (W2 I f g boot_range (PyProof.Rows.callWith_type1 (JA (i pos b s σ H _ I h) λu v ⟨w,x,l,m,c⟩=>?_) k rfl));obtain⟨j,e,c,n,q⟩:=c;subst e;cases m with
 | cons r o =>
  cases o;obtain⟨t,rfl⟩:=r;exact call_range_1 (Og l (by lia) (by lia) c n (by simpa using q))
theorem Qr{a b:IL}{k:TA}{p pos:Pos}(l:Gl X "range")(m:X.mg "range" = none)(n:PA X [a,b] k)(o:starEach [a,b] X.env = [(false,eval a X.env),(false,eval b X.env)]:=by rfl)(c:starEach [b] X.env = [(false,eval b X.env)]:=by rfl) :
  PI X tg (.Call (.Name "range" p) [a,b] [] pos) (zGh k):=by
 intro d s σ H R I h;refine Call_ (W2 I l m boot_range (PyProof.Rows.callWith_type1 (JA (n pos d s σ H _ I h) λA B ⟨C,D,u,v,f⟩=>?_) (by rw[o,c]) (by rw[c];rfl)));obtain⟨i,j,e,⟨f,w,x,y⟩,q⟩:=f;subst e;cases v with
 | cons r g =>
  cases g with
  | cons z g =>
   cases g;obtain⟨t,rfl⟩:=r;obtain⟨E,rfl⟩:=z;exact call_range_2 (Og u f w x y q)
def zIz(c:TI)(g:TG)(d:TS):TS:=λD σ H=>c σ H λJ e=>∃W:Nat->Nat->St->Hp->Prop,(∃m,W 0 m σ e)/\∀i m σ H,W i m σ H ->
 (J.stop i H/\D.nx σ H)\/(J.go i H/\∃N:St->Hp->Prop,(∀σ' a,N σ' a->∃b,b < m/\W (i+1) b σ' a)/\∀x a,J.yld i H x a->g x σ a λσ2 f=>d { D with nx:=N,ct:=N,bk:=D.nx } σ2 f)
def Hh(fp:A1 A2)(h:IJ):A1 (A2×Obj):=fp.filterMap λb=>(h.get? b).map λo=>(b,o)
theorem X6{fp:A1 A2}{h:IJ}{b:A2}{o:Obj}(a:b∈fp)(e:h.get? b=some o):(b,o)∈Hh fp h:=List.mem_filterMap.mpr ⟨b,a,by rw[e];rfl⟩
theorem Uv{fp:A1 A2}{h:IJ}{p:A2×Obj}(a:p∈Hh fp h):p.1∈fp/\h.get? p.1=some p.2:=by
 obtain⟨b,c,e⟩:=List.mem_filterMap.mp a;cases q:h.get? b with
 | none=>rw[q]at e;cases e
 | some o =>
  rw[q]at e;have d:(b,o)=p:=BN e;subst d;exact⟨c,q⟩
theorem Inv.pinned{a:A1 (A2×Obj)}{σ:St}{H:Hp}{s:A4}{fp:A1 A2}(I:Inv X a σ H s)(g:∀b∈fp,Es X a H b)(h:∀b∈fp,∃o,s.heap.get? b=some o/\∀v,o.data≠ .cell v):Inv X (a++Hh fp s.heap) σ H s :=
 I.pins_of λp i=>(AR.mp i).elim (λz=>I.pin p (BI _ z)) λz=>by
  obtain⟨c,e⟩:=Uv z;obtain⟨j,k,l,_⟩:=g p.1 c;obtain⟨o,f,d⟩:=h p.1 c;rw[e]at f;cases f;exact⟨e,j,k,l,d⟩
theorem Inv.unpinned{a pl:A1 (A2×Obj)}{σ:St}{H:Hp}{s:A4}(I:Inv X (a++pl) σ H s):Inv X a σ H s:=I.pins_of λp b=>I.pin p (BI _ (EL _ b))
theorem U2{iter:IL}{q:A1 IV}{R:TI}{g:TG}{S:TS}{pos:Pos}(z:PassesOwn (model X.prog X.w) X.A X.env X.xe)(U:X.calm=true)(hi:PI X tg iter R)(hg:PG X tg g)(c:QV X q S)
  (hs:∀x,foldedSetIterable iter X.env x=pure x:=by intro _;rfl):PS X (.For tg iter q [] pos) (zIz R g S):=by
 intro a s σ H D I h;refine wpAny_For (JA (hi a s σ H _ I h) λv s1 h1=>JA h1 λitv s2 h2=>?_) hs;obtain⟨it,B,V,J,H2,e,I2,T,L,Y,W,⟨m0,w0⟩,C⟩:=h2;subst e;have j:∀{p:Hp},(∀b∈B,p b=none)->∀b∈B,Es X a p b:=λhn b c=>⟨hn b c,(Y b c).2⟩;refine codeAny_forLoop_any (λn Z=>∃i σ' p,Inv X a σ' p Z/\V i Z.heap/\(∀b∈B,p b=none)/\W i n σ' p) ?_ m0 ⟨0,σ,H2,I2,L,λb c=>(Y b c).1,w0⟩;rintro n s3 ⟨i,σ3,K,I3,E,F,w3⟩;rcases C i n σ3 K w3 with⟨stop,qn⟩ | ⟨go,N,hN,step⟩
 .refine FS z (JA (T.done X rfl rfl rfl U i a s3 σ3 K X.xe I3 (j F) E stop) λr s4 ⟨M,I4⟩=>?_);subst M;exact wpAny_execs_nil ⟨σ3,K,I4,qn⟩
 .refine FS z (JA (T.item X rfl rfl rfl U i a s3 σ3 K X.xe I3 (j F) E go) λr s4 ⟨u,M,h4⟩=>?_);subst M;refine FS z (JA h4 λ_ s5 ⟨x,H5,I5,r5,y5,y,O⟩=>?_);have P:=I5.pinned (j O) (T.obj _ _ y);refine FS z (JA (hg _ s5 σ3 H5 x u _ P r5 (step x H5 y5)) λ_ s6 ⟨σ6,H6,I6,q6⟩=>?_);refine FS z (JA (c _ s6 σ6 H6 _ I6 q6) λf Q t=>?_);have again:∀{σ7:St} {k:Hp},Inv X (a++Hh B s5.heap) σ7 k Q->N σ7 k->∃m,m<n/\∃i σ' p,Inv X a σ' p Q/\V i Q.heap/\(∀b∈B,p b=none)/\W i m σ' p:=fun{σ7 k} l G=>by
   obtain⟨m',hm,w7⟩:=hN σ7 k G;refine⟨m',hm,i+1,σ7,k,l.unpinned,T.keep _ _ _ y λb c o e=>(l.pin (b,o) (BI _ (BI _ (X6 c e)))).1,λb c=>?_,w7⟩;obtain⟨o,e,d⟩:=T.obj _ _ y b c;exact(l.pin (b,o) (BI _ (BI _ (X6 c e)))).2.1
  cases f with
  | next=>obtain⟨σ7,k,l,G⟩:=t;exact again l G
  | cont=>obtain⟨σ7,k,l,G⟩:=t;exact again l G
  | brk=>obtain⟨σ7,k,l,t⟩:=t;exact⟨σ7,k,l.unpinned,t⟩
  | ret v=>obtain⟨x7,σ7,k,l,r7,t⟩:=t;exact⟨x7,σ7,k,l.unpinned,r7,t⟩
end
def Ta{lo:Int}{n:Nat}{g:TG}{c:TS}{D:Ends}{σ:St}{H:Hp}(Pv:Nat->St->Hp->Prop)(f:Pv 0 σ H)
  (h:∀i σ H,i<n->Pv i σ H->g (.int (lo+i)) σ H λσ2 b=>c { D with nx:=Pv (i+1),ct:=Pv (i+1),bk:=D.nx } σ2 b) (j:∀σ H,Pv n σ H->D.nx σ H) :
  ∃W:Nat->Nat->St->Hp->Prop,(∃m,W 0 m σ H)/\∀i m σ H,W i m σ H ->
   ((SF lo n).stop i H/\D.nx σ H)\/((SF lo n).go i H/\∃N:St->Hp->Prop,(∀σ' H',N σ' H'->∃d,d < m/\W (i+1) d σ' H')/\∀x H',(SF lo n).yld i H x H'->g x σ H' λσ2 b=>c { D with nx:=N,ct:=N,bk:=D.nx } σ2 b):=by
 refine⟨λi m σ H=>m=n-i/\i<=n/\Pv i σ H,⟨n,by simp,CB _,f⟩,?_⟩;rintro i m σ H ⟨rfl,l,p⟩;by_cases a:i<n
 .refine .inr ⟨a,Pv (i+1),λσ' H' k=>⟨n-(i+1),by lia,rfl,a,k⟩,λx H' y=>?_⟩;obtain⟨e,y⟩:=y;subst e y;exact h i σ _ a p
 .have e:i=n:=by lia
  subst e;exact .inl ⟨Nat.le_refl _,j σ H p⟩
abbrev R2:=V->V->Hp->VK->Prop
def LD(X:Cx)(f:A3->A3->Sem A3)(r:R2):Prop :=
 ∀(a:A1 (A2×Obj)) (s:A4) (σ:St) (H:Hp) (x y:V) (v u:A3) (Q:VK),Inv X a σ H s->RelV x v->RelV y u->r x y H Q ->
  wpAny (model X.prog X.w) X.A (f v u) (EP X a σ Q) X.xe s
def UnR(X:Cx)(f:A3->Sem A3)(r:V->Hp->VK->Prop):Prop :=
 ∀(a:A1 (A2×Obj)) (s:A4) (σ:St) (H:Hp) (x:V) (v:A3) (Q:VK),Inv X a σ H s->RelV x v->r x H Q ->
  wpAny (model X.prog X.w) X.A (f v) (EP X a σ Q) X.xe s
def K1(X:Cx)(f:A3)(r:A1 V->Hp->VK->Prop):Prop :=
 ∀(a:A1 (A2×Obj)) (s:A4) (σ:St) (H:Hp) (b:A1 V) (c:A1 A3) (Q:VK),Inv X a σ H s->IR b c->r b H Q ->
  wpAny (model X.prog X.w) X.A (call f c) (EP X a σ Q) X.xe s
def zIt(X:Cx)(r:V->Hp->(Bool->Hp->Prop)->Prop):Prop :=
 ∀(a:A1 (A2×Obj)) (s:A4) (σ:St) (H:Hp) (x:V) (v:A3) (Q:Bool->Hp->Prop),Inv X a σ H s->RelV x v->r x H Q ->
  wpAny (model X.prog X.w) X.A (truthy v) (TP X a σ Q) X.xe s
def tOp(r:R2)(a b:TE):TE:=λσ H Q=>a σ H λx c=>b σ c λy d=>r x y d Q
def tUn(r:V->Hp->VK->Prop)(a:TE):TE:=λσ H Q=>a σ H λx b=>r x b Q
def rI(C:Int->Int->Prop)(g:Int->Int->V):R2:=λx y H Q=>∃i j,x = .int i/\y = .int j/\C i j/\Q (g i j) H
def RQ(g:Int->Int->V):R2:=λx y H Q=>∃i j,x = .int i/\y = .int j/\Q (g i j) H
def rU(g:Int->V):V->Hp->VK->Prop:=λx H Q=>∃i,x = .int i/\Q (g i) H
section
variable{X:Cx}{a b c:IL}{ta tb tc:TE}{pos:Pos}
theorem zHa(i:PE X a ta)(j:PE X b tb){c:A1 (A2×Obj)}{s:A4}{σ:St}{H:Hp}{R:V->V->Hp->Prop}(I:Inv X c σ H s)
  (h:ta σ H λx g=>tb σ g λy d=>R x y d) {Q:A3->A4->Prop} {f:A3->A3->Sem A3}
  (k:∀v u e x y d,Inv X c σ d e->RelV x v->RelV y u->R x y d->wpAny (model X.prog X.w) X.A (f v u) Q X.xe e) :
  wpAny (model X.prog X.w) X.A (eval a X.env) (λv s₁=>wpAny (model X.prog X.w) X.A (eval b X.env) (λu s₂=>wpAny (model X.prog X.w) X.A (f v u) Q X.xe s₂) X.xe s₁) X.xe s:=by
 refine JA (i c s σ H _ I h) λv l ⟨x,g,m,n,o⟩=>?_;refine JA (j c l σ g _ m o) λu e ⟨y,d,p,q,r⟩=>?_;exact k v u e x y d p n q r
theorem D3{op:Operator}{r:R2}(d:LD X (binaryOp op) r)(e:PE X a ta)(f:PE X b tb):PE X (.BinOp a op b pos) (tOp r ta tb):=by
 intro c s σ H Q I h;exact wpAny_BinOp (zHa e f I h λv u g x y i j k l q=>d c g σ i x y v u Q j k l q)
theorem zCb{op:UnaryOp}{r:V->Hp->VK->Prop}(c:UnR X (unaryOp op) r)(d:PE X a ta):PE X (.UnaryOp op a pos) (tUn r ta):=by
 intro b s σ H Q I h;exact UnaryOp_ (JA (d b s σ H _ I h) λv e ⟨x,f,g,i,j⟩=>c b e σ f x v Q g i j)
theorem UK{f:A3->A3->Sem A3}{C:Int->Int->Prop}{g:Int->Int->Int}
  (rule:∀(i j:Int) (t u:Tok) (s:A4) (Q:A3->A4->Prop) (E:A3->A4->Prop),C i j->Q (.int (g i j) s.toks) { s with toks:=s.toks+1 }->wpAny (model X.prog X.w) X.A (f (.int i t) (.int j u)) Q E s) :
  LD X f (rI C λi j=>.int (g i j)):=by
 intro a s σ H x y v u Q I b c h;obtain⟨i,j,rfl,rfl,d,q⟩:=h;obtain⟨t,rfl⟩:=b;obtain⟨e,rfl⟩:=c;exact rule i j t e s _ _ d ⟨.int (g i j),H,I.tok _,⟨_,rfl⟩,q⟩
theorem UG{f:A3->A3->Sem A3}{g:Int->Int->Int}
  (rule:∀(i j:Int) (t u:Tok) (s:A4) (Q:A3->A4->Prop) (E:A3->A4->Prop),Q (.int (g i j) s.toks) { s with toks:=s.toks+1 }->wpAny (model X.prog X.w) X.A (f (.int i t) (.int j u)) Q E s) :
  LD X f (RQ λi j=>.int (g i j)):=by
 intro a s σ H x y v u Q I b c h;obtain⟨i,j,rfl,rfl,q⟩:=h;obtain⟨t,rfl⟩:=b;obtain⟨d,rfl⟩:=c;exact rule i j t d s _ _ ⟨.int (g i j),H,I.tok _,⟨_,rfl⟩,q⟩
theorem zGb{f:A3->A3->Sem A3}{g:Int->Int->Bool}
  (rule:∀(i j:Int) (t u:Tok) (s:A4) (Q:A3->A4->Prop) (E:A3->A4->Prop),Q (.bool (g i j)) s->wpAny (model X.prog X.w) X.A (f (.int i t) (.int j u)) Q E s) :
  LD X f (RQ λi j=>.bl (g i j)):=by
 intro a s σ H x y v u Q I b c h;obtain⟨i,j,rfl,rfl,q⟩:=h;obtain⟨t,rfl⟩:=b;obtain⟨d,rfl⟩:=c;exact rule i j t d s _ _ ⟨.bl (g i j),H,I,rfl,q⟩
def zJn(i j:Int):Prop:=0<j/\j<1073741824
def zIb(i j:Int):Prop:=0<=j/\j<=1000000/\i.natAbs<2^64
def TW(i j:Int):Prop:=(-(2^64)<i/\i<2^64)\/(-(2^64)<j/\j<2^64)
theorem TW.ok{i j:Int}(h:TW i j):IntMulOk i j:=by
 rcases h with⟨a,b⟩ | ⟨a,b⟩
 .exact .of_left (intBits_le_64 a b)
 .exact .of_right (intBits_le_64 a b)
theorem Bv:LD X (binaryOp .Add) (RQ λi j=>.int (i+j)):=UG λ_ _ _ _ _ _ _ q=>add_int q
theorem zDa:LD X (binaryOp .Sub) (RQ λi j=>.int (i-j)):=UG λ_ _ _ _ _ _ _ q=>sub_int q
theorem Dm:LD X (binaryOp .Mult) (rI TW λi j=>.int (i*j)):=UK λ_ _ _ _ _ _ _ a q=>mul_int q a.ok
theorem Px:LD X (binaryOp .FloorDiv) (rI zJn λi j=>.int (i / j)):=UK λi j _ _ _ _ _ a q=>by
 have b:(0:Int)<j:=a.1;have c:j<1073741824:=a.2;exact floordiv_int (by lia) (by rw[Int.fdiv_eq_ediv_of_nonneg i (by lia)];exact q) (.inl (PyProof.noPylong_small (by lia)))
theorem Iy:LD X (binaryOp .Mod) (rI (λ_ j=>0<j) λi j=>.int (i % j)):=UK λi j _ _ _ _ _ a q=>by
 have b:(0:Int)<j:=a;exact mod_int' (by lia) (by rw[Int.fmod_eq_emod_of_nonneg i (by lia)];exact q)
theorem zEe:LD X (binaryOp .Pow) (rI zIb λi j=>.int (i^j.toNat)):=UK λ_ _ _ _ _ _ _ a q=>pow_int_small a.1 a.2.1 a.2.2 q
theorem zDk:LD X (binaryOp .LShift) (rI zIb λi j=>.int (i*2^j.toNat)):=UK λ_ _ _ _ _ _ _ a q=>lshift_int_small a.1 a.2.1 a.2.2 q
theorem Q0:LD X (binaryOp .BitAnd) (RQ λi j=>.int (Builtin.bitAnd i j)):=UG λ_ _ _ _ _ _ _ q=>and_int q
theorem V8:LD X (binaryOp .BitOr) (RQ λi j=>.int (Builtin.bitOr i j)):=UG λ_ _ _ _ _ _ _ q=>or_int q
theorem y9:LD X (binaryOp .BitXor) (RQ λi j=>.int (Builtin.bitXor i j)):=UG λ_ _ _ _ _ _ _ q=>xor_int q
theorem unI{f:A3->Sem A3}{g:Int->Int}
  (rule:∀(i:Int) (t:Tok) (s:A4) (Q:A3->A4->Prop) (E:A3->A4->Prop),Q (.int (g i) s.toks) { s with toks:=s.toks+1 }->wpAny (model X.prog X.w) X.A (f (.int i t)) Q E s) :
  UnR X f (rU λi=>.int (g i)):=by
 intro a s σ H x v Q I b h;obtain⟨i,rfl,q⟩:=h;obtain⟨t,rfl⟩:=b;exact rule i t s _ _ ⟨.int (g i),H,I.tok _,⟨_,rfl⟩,q⟩
theorem Tj:UnR X (unaryOp .USub) (rU λi=>.int (-i)):=unI λ_ _ _ _ _ q=>neg_int q
end
def zIp:V->V->Bool
 | .non,.non=>true | .non,.int _=>true | .int _,.non=>true | .non,.bl _=>true | .bl _,.non=>true | .non,.str _=>true | .str _,.non=>true
 | .int _,.int _=>true | .bl _,.bl _=>true | .str _,.str _=>true | .byt _,.byt _=>true
 | .int _,.str _=>true | .str _,.int _=>true | .bl _,.str _=>true | .str _,.bl _=>true
 | _,_=>false
def rEq:R2:=λx y H Q=>zIp x y=true/\Q (.bl (decide (x=y))) H
def rNe:R2:=λx y H Q=>zIp x y=true/\Q (.bl (!decide (x=y))) H
def Tu{i j:Int}:decide (V.int i=V.int j) =(i == j):=by
 rw[BP];simp
def Yq{i j:Bool}:decide (V.bl i=V.bl j) =(i == j):=by
 rw[BP];simp
def Td{i j:Str}:decide (V.str i=V.str j) =(i == j):=by
 rw[BP];simp
def Ui{i j:CM UInt8}:decide (V.byt i=V.byt j) =(i.toList == j.toList):=by
 rw[BP];cases i;cases j;simp
section
variable{X:Cx}{a b c:IL}{ta tb tc:TE}{pos:Pos}
theorem G0{a:A1 (A2×Obj)}{σ:St}{H:Hp}{s:A4}{Q:VK}{k b:Bool}(I:Inv X a σ H s)(q:Q (.bl k) H)(e:k=b):EP X a σ Q (.bool b) s:=by
 subst e;exact⟨.bl k,H,I,rfl,q⟩
theorem T0:LD X (compareOp .Eq) rEq:=by
 intro e s σ H x y v u Q I d a h;obtain⟨c,q⟩:=h;cases x with
 | non =>
  cases d;cases y with
  | non=>cases a;exact PySem.EqNone.eq_none_none (G0 I q (by simp))
  | bl j=>cases a;exact PySem.EqNone.eq_none_bool (G0 I q (by simp))
  | int j=>obtain⟨b,rfl⟩:=a;exact PySem.EqNone.eq_none_int (G0 I q (by simp))
  | str j=>obtain⟨b,rfl⟩:=a;exact PySem.EqNone.eq_none_str (G0 I q (by simp))
  | _=>exact absurd (show false=true from c) BD
 | bl i =>
  cases d;cases y with
  | non=>cases a;exact PySem.EqNone.eq_bool_none (G0 I q (by simp))
  | bl j=>cases a;exact eq_bool (G0 I q Yq)
  | str j=>obtain⟨b,rfl⟩:=a;exact PySem.EqMixed.eq_bool_str (G0 I q (by simp))
  | _=>exact absurd (show false=true from c) BD
 | int i =>
  obtain⟨t,rfl⟩:=d;cases y with
  | non=>cases a;exact PySem.EqNone.eq_int_none (G0 I q (by simp))
  | int j=>obtain⟨b,rfl⟩:=a;exact eq_int (G0 I q Tu)
  | str j=>obtain⟨b,rfl⟩:=a;exact PySem.EqMixed.eq_int_str (G0 I q (by simp))
  | _=>exact absurd (show false=true from c) BD
 | str i =>
  obtain⟨t,rfl⟩:=d;cases y with
  | non=>cases a;exact PySem.EqNone.eq_str_none (G0 I q (by simp))
  | bl j=>cases a;exact PySem.EqMixed.eq_str_bool (G0 I q (by simp))
  | int j=>obtain⟨b,rfl⟩:=a;exact PySem.EqMixed.eq_str_int (G0 I q (by simp))
  | str j=>obtain⟨b,rfl⟩:=a;exact eq_str (G0 I q Td)
  | _=>exact absurd (show false=true from c) BD
 | byt i =>
  obtain⟨t,rfl⟩:=d;cases y with
  | byt j=>obtain⟨b,rfl⟩:=a;exact PySem.W.eq_bytes (G0 I q Ui)
  | _=>exact absurd (show false=true from c) BD
 | _=>cases y<;>exact absurd (show false=true from c) BD
theorem Wg:LD X (compareOp .NotEq) rNe:=by
 intro e s σ H x y v u Q I d a h;obtain⟨c,q⟩:=h;cases x with
 | non =>
  cases d;cases y with
  | non=>cases a;exact PySem.EqNone.ne_none_none (G0 I q (by simp))
  | bl j=>cases a;exact PySem.EqNone.ne_none_bool (G0 I q (by simp))
  | int j=>obtain⟨b,rfl⟩:=a;exact PySem.EqNone.ne_none_int (G0 I q (by simp))
  | str j=>obtain⟨b,rfl⟩:=a;exact PySem.EqNone.ne_none_str (G0 I q (by simp))
  | _=>exact absurd (show false=true from c) BD
 | bl i =>
  cases d;cases y with
  | non=>cases a;exact PySem.EqNone.ne_bool_none (G0 I q (by simp))
  | bl j=>cases a;exact ne_bool (G0 I q (congrArg not Yq))
  | str j=>obtain⟨b,rfl⟩:=a;exact PySem.EqMixed.ne_bool_str (G0 I q (by simp))
  | _=>exact absurd (show false=true from c) BD
 | int i =>
  obtain⟨t,rfl⟩:=d;cases y with
  | non=>cases a;exact PySem.EqNone.ne_int_none (G0 I q (by simp))
  | int j=>obtain⟨b,rfl⟩:=a;exact ne_int (G0 I q (congrArg not Tu))
  | str j=>obtain⟨b,rfl⟩:=a;exact PySem.EqMixed.ne_int_str (G0 I q (by simp))
  | _=>exact absurd (show false=true from c) BD
 | str i =>
  obtain⟨t,rfl⟩:=d;cases y with
  | non=>cases a;exact PySem.EqNone.ne_str_none (G0 I q (by simp))
  | bl j=>cases a;exact PySem.EqMixed.ne_str_bool (G0 I q (by simp))
  | int j=>obtain⟨b,rfl⟩:=a;exact PySem.EqMixed.ne_str_int (G0 I q (by simp))
  | str j=>obtain⟨b,rfl⟩:=a;exact ne_str (G0 I q (congrArg not Td))
  | _=>exact absurd (show false=true from c) BD
 | byt i =>
  obtain⟨t,rfl⟩:=d;cases y with
  | byt j=>obtain⟨b,rfl⟩:=a;exact PySem.W.ne_bytes (G0 I q (congrArg not Ui))
  | _=>exact absurd (show false=true from c) BD
 | _=>cases y<;>exact absurd (show false=true from c) BD
theorem zHk:LD X (compareOp .Lt) (RQ λi j=>.bl (decide (i<j))):=zGb λ_ _ _ _ _ _ _ q=>lt_int q
theorem zDn:LD X (compareOp .LtE) (RQ λi j=>.bl (decide (i<=j))):=zGb λ_ _ _ _ _ _ _ q=>le_int q
theorem zGw:LD X (compareOp .Gt) (RQ λi j=>.bl (decide (j<i))):=zGb λ_ _ _ _ _ _ _ q=>gt_int q
theorem zGo:LD X (compareOp .GtE) (RQ λi j=>.bl (decide (j<=i))):=zGb λ_ _ _ _ _ _ _ q=>ge_int q
theorem Qe:LD X (compareOp .In) (λx y H Q=>∃i j,x = .str i/\y = .str j/\Q (.bl (!(Builtin.Str.occurrences j i 0 j.length 1).isEmpty)) H):=by
 intro a s σ H x y v u Q I b c h;obtain⟨i,j,rfl,rfl,q⟩:=h;obtain⟨t,rfl⟩:=b;obtain⟨d,rfl⟩:=c;exact in_str (G0 I q rfl)
theorem Xx:LD X (compareOp .Is) (λx y H Q=>y = .non/\Q (.bl (decide (x = .non))) H):=by
 intro a s σ H x y v u Q I b c h;obtain⟨rfl,q⟩:=h;cases c;refine is_none_gen (G0 I q ?_);cases x<;>first
  | (cases b;rfl)
  | (obtain⟨t,rfl⟩:=b;rfl)
theorem Jz:LD X (compareOp .IsNot) (λx y H Q=>y = .non/\Q (.bl (!decide (x = .non))) H):=by
 intro a s σ H x y v u Q I b c h;obtain⟨rfl,q⟩:=h;cases c;refine isnot_none_gen (G0 I q ?_);cases x<;>first
  | (cases b;rfl)
  | (obtain⟨t,rfl⟩:=b;rfl)
theorem E5(b:IL){op:CmpOp}(h:op≠ .In:=by decide)(h2:op≠ .NotIn:=by decide):behindInMarks op b=false:=by
 have a:(op == CmpOp.In)=false:=by cases op<;>first | rfl | exact absurd rfl h
 have c:(op == CmpOp.NotIn)=false:=by cases op<;>first | rfl | exact absurd rfl h2
 cases b<;>simp[behindInMarks,a,c]
theorem R0{op:CmpOp}{r:R2}(d:LD X (compareOp op) r)(e:PE X a ta)(f:PE X b tb)(g:behindInMarks op b=false):PE X (.Compare a [op] [b] pos) (tOp r ta tb):=by
 intro c s σ H Q I h;exact wpAny_Compare1 (zHa e f I h λv u i x y j k l m q=>d c i σ j x y v u Q k l m q) g
def zCq(t:TE):TT:=λσ H Q=>t σ H λx a=>∃k,x = .bl k/\Q k a
theorem C8{op:CmpOp}{r:R2}(f:LD X (compareOp op) r)(g:PE X a ta)(i:PE X b tb)(j:behindInMarks op b=false):PT X (.Compare a [op] [b] pos) (zCq (tOp r ta tb)):=by
 intro d s σ H Q I h;refine wpAny_isTrue_Compare1 (JA (g d s σ H _ I h) λv l ⟨x,m,n,o,p⟩=>JA (i d l σ m _ n p) λu q ⟨y,t,w,A,B⟩ =>
  JA (f d q σ t x y v u _ w o A B) λc G ⟨z,C,D,E,k,e,F⟩=>?_) j
 subst e;cases E;exact CU ⟨C,D,F⟩
def zFd(r b:R2)(ta tb tc:TE):TE:=λσ H Q=>ta σ H λx c=>tb σ c λy d=>r x y d λz a=>∃k,z = .bl k /\
 (if k=true then tc σ a λe f=>b y e f Q else Q (.bl false) a)
theorem Vc{op g:CmpOp}{r j:R2}(p:LD X (compareOp op) r)(i:LD X (compareOp g) j)(q:PE X a ta)(t:PE X b tb)(w:PE X c tc)
  (A:lastMarks [op,g] [b,c]=false:=by with_unfolding_all rfl):PT X (.Compare a [op,g] [b,c] pos) (zCq (zFd r j ta tb tc)):=by
 intro f s σ H Q I h;refine isTrue_chain (JA (q f s σ H _ I h) λv B ⟨x,C,D,E,F⟩=>test_link (JA (t f B σ C _ D F) λu G ⟨y,J,K,l,L⟩ =>
  JA (p f G σ J x y v u _ K E l L) λd M ⟨z,m,n,N,k,e,o⟩=>?_)) A
 subst e;cases N;refine CU ?_;cases k with
 | false =>
  obtain⟨k',O,P⟩:=o;cases O;exact ite_ff ⟨m,n,P⟩
 | true =>
  refine ite_tt (test_last (JA (w f M σ m _ n o) λR S ⟨T,U,V,W,Y⟩=>JA (i f S σ U y T u R _ V l W Y) λd' s5 ⟨z2,Z,I5,r5,k2,e2,q5⟩=>?_));subst e2;cases r5;exact CU ⟨Z,I5,q5⟩
def zGc(K:PySem.W.Frag)(x:V)(H:Hp)(k:Bool):Prop :=
 match x with
 | .non=>k=false
 | .bl b=>k=b
 | .int i=>k =(i != 0)
 | .str y=>y.length<=sizeLine/\k =((y.length:Int) != 0)
 | .byt y=>y.size<=sizeLine/\k =((y.size:Int) != 0)
 | .ref p=>(∃a,IQ K H p a/\k=!a.isEmpty)\/(∃a,JH K H p a/\k=!a.isEmpty)\/∃c,H p=some (.dK c)/\k=!c.isEmpty
 | _=>False
theorem Pj{U:Type}{a:A1 (U×V)}{vs:A1 (U×A3)}(r:KV a vs):(!vs.isEmpty)=!a.isEmpty:=by
 cases r<;>rfl
theorem Ed{xs:A1 V}{its:A1 A3}(r:IR xs its):(!its.toArray.isEmpty)=!xs.isEmpty:=by
 cases r<;>simp
theorem Dk:(sizeLine:Nat)<2^63:=by rw[sizeLine_eq];decide
theorem Zd:zIt X (λx H Q=>∃k,zGc X.K x H k/\Q k H):=by
 intro u s σ H x v Q I g h;obtain⟨k,e,q⟩:=h;have C:=Dk;have D:sizeLine=16777216:=sizeLine_eq;cases x with
 | non =>
  cases g;have a:k=false:=e;subst a;exact truthy_none ⟨H,I,q⟩
 | bl b =>
  cases g;have a:k=b:=e;subst a;exact CU ⟨H,I,q⟩
 | int i =>
  obtain⟨t,rfl⟩:=g;have a:k =(i != 0):=e;subst a;exact PySem.P.truthy_int ⟨H,I,q⟩
 | str y =>
  obtain⟨t,rfl⟩:=g;obtain⟨A,a⟩:y.length<=sizeLine/\k =((y.length:Int) != 0):=e;subst a;exact PySem.P.truthy_str (by lia) ⟨H,I.tok _,q⟩
 | byt y =>
  obtain⟨t,rfl⟩:=g;obtain⟨A,a⟩:y.size<=sizeLine/\k =((y.size:Int) != 0):=e;subst a;exact PySem.W.truthy_bytes (by lia) ⟨H,I.tok _,q⟩
 | ref p =>
  cases g;have a:(∃f,IQ X.K H p f/\k=!f.isEmpty)\/(∃f,JH X.K H p f/\k=!f.isEmpty)\/∃c,H p=some (.dK c)/\k=!c.isEmpty:=e;rcases a with⟨f,j,a⟩ | ⟨f,j,a⟩ | ⟨c,j,a⟩
  .subst a;obtain⟨n,r,o,z⟩:=I.list j;have d:=r.length;exact wpAny_truthy_list o.isList (by simp only[AQ];lia) ⟨H,I.tok _,by rw[Ed r];exact q⟩
  .subst a;obtain⟨n,r,o,z⟩:=I.tuple j;have d:=r.length;exact truthy_tuple o (by simp only[AQ];lia) ⟨H,I.tok _,by rw[Ed r];exact q⟩
  .subst a;obtain⟨z,B,l,r,m⟩:c.length<=sizeLine/\(p == sysModules)=false/\∃l,KV c l/\s.heap.DictOf (D0 X.prog X.w) p l:=I.hok p _ j;have d:c.length=l.length:=Paired.length r;exact wpAny_truthy_dict B m (by lia) ⟨H,I.tok _,by rw[Pj r];exact q⟩
 | _=>exact(show False from e).elim
theorem Wl(d:PE X a ta)(e:∀b,isTrue a X.env b =(do let v <-b;standAt a.pos;holding [v] (truthy v))) :
  PT X a (λσ H Q=>ta σ H λx H'=>∃k,zGc X.K x H' k/\Q k H'):=by
 intro c s σ H Q I h;exact isTrue_plain (JA (d c s σ H _ I h) λv f ⟨x,g,i,j,l⟩=>Zd c f σ g x v Q i j l) (e _)
theorem Y3{x:V}{us:A1 A3}(r:IR [x] us):∃u,us = [u]/\RelV x u:=by
 cases r with
 | cons a b=>cases b;exact⟨_,rfl,a⟩
theorem zFu{x y:V}{us:A1 A3}(r:IR [x,y] us):∃u a,us = [u,a]/\RelV x u/\RelV y a:=by
 cases r with
 | cons b c =>
  cases c with
  | cons d e=>cases e;exact⟨_,_,rfl,b,d⟩
theorem Mb:K1 X (.builtin "abs") (λxs H Q=>∃i,xs = [.int i]/\Q (.int (if i<0 then -i else i)) H):=by
 intro a s σ H xs b Q I r h;obtain⟨i,rfl,q⟩:=h;obtain⟨u,rfl,t,rfl⟩:=Y3 r;exact call_abs_int λu c=>⟨.int (if i<0 then -i else i),H,I.tok _,⟨_,rfl⟩,q⟩
theorem Uo(c:X.calm=true):K1 X (.builtin "max") (λxs H Q=>∃i j,xs = [.int i,.int j]/\Q (.int (if j>i then j else i)) H):=by
 intro b s σ H xs d Q I r h;obtain⟨i,j,rfl,q⟩:=h;obtain⟨u,e,rfl,⟨t,rfl⟩,⟨f,rfl⟩⟩:=zFu r;refine max_two_ints (I.ok.hd c) λg l k=>⟨_,H,I.kept k,?_,q⟩;by_cases a:j>i
 .rw[AO a,AO a];exact⟨_,rfl⟩
 .rw[AN a,AN a];exact⟨_,rfl⟩
theorem Rk(c:X.calm=true):K1 X (.builtin "min") (λxs H Q=>∃i j,xs = [.int i,.int j]/\Q (.int (if j<i then j else i)) H):=by
 intro b s σ H xs d Q I r h;obtain⟨i,j,rfl,q⟩:=h;obtain⟨u,e,rfl,⟨t,rfl⟩,⟨f,rfl⟩⟩:=zFu r;refine min_two_ints (I.ok.hd c) λg l k=>⟨_,H,I.kept k,?_,q⟩;by_cases a:j<i
 .rw[AO a,AO a];exact⟨_,rfl⟩
 .rw[AN a,AN a];exact⟨_,rfl⟩
theorem Py:K1 X (.type "int") (λxs H Q=>(∃i,xs = [.int i]/\Q (.int i) H)\/∃k,xs = [.bl k]/\Q (.int (if k then 1 else 0)) H):=by
 intro a s σ H xs c Q I r h;rcases h with⟨i,rfl,q⟩ | ⟨k,rfl,q⟩
 .obtain⟨u,rfl,t,rfl⟩:=Y3 r;exact call_int_int ⟨.int i,H,I,⟨_,rfl⟩,q⟩
 .obtain⟨u,rfl,b⟩:=Y3 r;cases b;exact call_int_bool ⟨.int (if k then 1 else 0),H,I.tok _,⟨_,rfl⟩,q⟩
end
structure Q_(h:IJ)(x dx C:A2)(mA:Str->A5 A3):Prop where
 obj:h.get? x=some (PySem.W.instObj C dx)
 ns:h.Ns1 dx mA
 ne:dx≠x
def Qj{h:IJ}{c:A2}{d:Str->A5 A3}(n:h.Ns1 c d):∃f,h.get? c=some f/\∀name,PySem.W.lookIn name f=some (d name):=by
 obtain⟨o,g,r,i,j,k,_,l⟩:=n;refine⟨o,i,λname=>?_⟩;have e:=l name;unfold nsFind findBy at e;rw[<-Array.find?_toList]at e;unfold PySem.W.lookIn;rw[j];dsimp only;split
 .rename_i y q;rw[q]at e;exact congrArg some e
 .rename_i q;rw[q]at e;have a:g.toList.any (·.refKey)=false:=by
   rw[List.any_eq_false];intro y m;obtain⟨z,t,b⟩:=k y (Array.mem_toList_iff.mp m);simp[DictEntry.refKey,b]
  have p:¬g.toList.any (·.refKey)=true:=by rw[a];exact BD
  rw[AN p];exact congrArg some e
def Q_.look{h:IJ}{x b C:A2}{c:Str->A5 A3}(I:Q_ h x b C c):∃a,PySem.W.InstAt h x (PySem.W.instObj C b) C (some a)/\∀name,PySem.W.lookIn name a=some (c name) :=
 let⟨a,d,e⟩:=Qj I.ns
 ⟨a,⟨I.obj,rfl,rfl,d⟩,e⟩
section
variable{prog:A7}{w:F8}{A:IM}{E:A3->A4->Prop}{s:A4}{K:PySem.W.Frag}{x dx C f:A2}{mA:Str->A5 A3}{name:Str}{v:A3}
theorem zAy{a:Bool}{Q:A3->A4->Prop}(X:K.In s.heap)(I:Q_ s.heap x dx C mA)(c:PySem.W.plainGet K C name=true)(d:PySem.W.hasDictIn K C=true)
  (e:PySem.W.findIn K (.ref C) name=some none) (f:mA name=some v) (b:PySem.W.handedIn v=true) (h:Q v { s with toks:=s.toks+1 }) :
  wpAny (model prog w) A (getAttr (.ref x) name a) Q E s:=by
 obtain⟨i,J,g⟩:=I.look;exact PySem.W.get_value X J (PySem.W.plainGet_of c).1 (PySem.W.findObj_own d e rfl (by rw[g,f])) b h
theorem Xn{pl:Sem Bool}{Q:A3×A1 A3->A4->Prop}(X:K.In s.heap)(I:Q_ s.heap x dx C mA)(a:PySem.W.plainGet K C name=true)
  (b:PySem.W.findIn K (.ref C) name=some (some (.ref f))) (c:PySem.W.isFn K (.ref f)=true) (d:mA name=none) (h:Q (.ref f,[.ref x]) s) :
  wpAny (model prog w) A (getMethod (.ref x) name pl) Q E s:=by
 obtain⟨e,J,g⟩:=I.look;exact PySem.W.method_fn X J (PySem.W.plainGet_of a).1 (PySem.W.plainGet_of a).2 b (beq_iff_eq.mp c) (by show(PySem.W.lookIn name e).map (·.isSome)=some false;rw[g,d];rfl) h
theorem zAn{ns:A1 Str}{Q:Unit->A4->Prop}(X:K.In s.heap)(I:Q_ s.heap x dx C mA)
  (j:PySem.W.findIn K (.ref C) "__setattr__" = some (some (.builtin "object.__setattr__"))) (k:PySem.W.plainOver K C=true) (l:PySem.W.takerIn K C name=some none) (m:PySem.W.hasDictIn K C=true)
  (hw:PySem.Within mA ns) (hsz:ns.length<=sizeLine)
  (h:∀h',Q_ h' x dx C (λy=>if y=name then some v else mA y)->Heap.SameBut dx s.heap h'->Q () { s with heap:=h',toks:=s.toks+2 }) :
  wpAny (model prog w) A (setAttr (.ref x) name v) Q E s:=by
 obtain⟨t,J,u⟩:=I.look;refine PySem.W.set_plain X J j (PySem.W.osa_open (s:={ s with toks:=s.toks+1 }) (r:=none) X J k l λb=>?_);obtain⟨z,n,e⟩:=PySem.W.any_some m;have o:s.heap.get? x=some ⟨.ref C,some dx,.plain,#[]⟩:=I.obj;refine AB (AG (AB (AB (wpAny_loadPart o (AB (PySem.W.Looks.here (s:={ s with toks:=s.toks+1 }) (PySem.W.looks_clsIn X n) ?_))))));rw[e];refine AG (a:=some dx) (AB (AG (AB ?_)));refine wpAny_nsSet1 (s:={ s with toks:=s.toks+1 }) I.ns λh' c d=>?_;obtain⟨B,p,q,f,g,i⟩:=c.count (PySem.Within.cons name v hw);refine AB (wpAny_lookBehind f (by rw[g];exact pastItsLine_dict (Nat.le_trans i (by rw[BO];lia))) ?_);exact AG (h _ ⟨(d.2 _ (Ne.symm I.ne)).trans I.obj,c,I.ne⟩ d)
theorem Vj{R:Result->A4->Prop}{vs:A1 A3}{b:A1 (Str×A3)}(X:K.In s.heap)(c:PySem.W.makesIn K C=true)
  (hi:PySem.W.findIn K (.ref C) "__init__" = some (some (.ref f))) (e:PySem.W.typeIn K (.ref f)=some (.type "function"))
  (h:codeAny (model prog w) (A.under (.builtin "type.__call__" ⟨.ref C::vs,b⟩)) (.call (.ref f) ⟨.ref (s.heap.objs.size+1)::vs,b⟩) (PySem.W.InitBack (s.heap.objs.size+1) R)
   { s with heap:=(s.heap.push PySem.W.emptyDict).push (PySem.W.instObj C s.heap.objs.size) }) :
  codeAny (model prog w) A (.call (.ref C) ⟨vs,b⟩) R s:=by
 obtain⟨i,g,d,t,os⟩:=s;exact PySem.W.make_core (PySem.W.makes_of X c) (PySem.W.looks_findIn X hi) (λa=>PySem.W.bind_fn X a e) (.inl rfl) h
end
def Q6(f:Str)(v:V):A1 (Str×V)->A1 (Str×V)
 | []=>[(f,v)]
 | (g,x)::r=>if g=f then(g,v)::r else(g,x)::Q6 f v r
def Bt(f g:Str)(v:V):∀c:A1 (Str×V),(Q6 f v c).lookup g=if g=f then some v else c.lookup g
 | []=>by
  show List.lookup g [(f,v)]=_;by_cases h:g=f
  .have a:(g == f)=true:=beq_iff_eq.mpr h;simp only[List.lookup,a,AO h]
  .have a:(g == f)=false:=beq_eq_false_iff_ne.mpr h;simp only[List.lookup,a,AN h]
 | (k,x)::r=>by
  have d:=Bt f g v r;rw[show Q6 f v ((k,x)::r) =(if k=f then(k,v)::r else(k,x)::Q6 f v r)from rfl];by_cases b:k=f
  .rw[AO b];by_cases h:g=k
   .have a:(g == k)=true:=beq_iff_eq.mpr h;simp only[List.lookup,a,AO (h.trans b)]
   .have a:(g == k)=false:=beq_eq_false_iff_ne.mpr h;simp only[List.lookup,a,AN (λe:g=f=>h (e.trans b.symm))]
  .rw[AN b];by_cases h:g=k
   .have a:(g == k)=true:=beq_iff_eq.mpr h;simp only[List.lookup,a,AN (λe:g=f=>b (h.symm.trans e))]
   .have a:(g == k)=false:=beq_eq_false_iff_ne.mpr h;simp only[List.lookup,a];exact d
def Cc(f:Str)(v:V):∀a:A1 (Str×V),f∈(Q6 f v a).map (·.1)/\∀g,g∈a.map (·.1)->g∈(Q6 f v a).map (·.1)
 | []=>⟨by simp[Q6],λg h=>by simp at h⟩
 | (k,x)::r=>by
  obtain⟨c,d⟩:=Cc f v r;rw[show Q6 f v ((k,x)::r) =(if k=f then(k,v)::r else(k,x)::Q6 f v r)from rfl];by_cases b:k=f
  .rw[AO b];subst b;exact⟨by simp,λg h=>by simpa using h⟩
  .rw[AN b];refine⟨?_,λg h=>?_⟩
   .rw[BB];exact BA _ c
   .rw[BB]at h⊢;rcases AL.mp h with e | e
    .exact AL.mpr (.inl e)
    .exact BA _ (d g e)
def Bo(f:Str)(v:V):∀a:A1 (Str×V),(Q6 f v a).length<=a.length+1
 | []=>by simp[Q6]
 | (k,x)::r=>by
  have c:=Bo f v r;rw[show Q6 f v ((k,x)::r) =(if k=f then(k,v)::r else(k,x)::Q6 f v r)from rfl];by_cases b:k=f
  .rw[AO b,BO,BO];lia
  .rw[AN b,BO,BO];lia
def NF.some_of{v:V}{o:A5 A3}(r:NF (some v) o):∃u,o=some u/\RelV v u:=by
 cases o with
 | none=>exact(show False from r).elim
 | some u=>exact⟨u,rfl,r⟩
def NF.none_of{o:A5 A3}(r:NF none o):o=none:=by
 cases o with
 | none=>rfl
 | some u=>exact(show False from r).elim
def Ul{v:V}{u:A3}(r:RelV v u):PySem.W.handedIn u=true:=by
 cases v with
 | non=>cases(show u=Value.none from r);rfl
 | bl b=>cases(show u=Value.bool b from r);rfl
 | int i=>obtain⟨t,e⟩:=(show ∃t,u=Value.int i t from r);cases e;rfl
 | str x=>obtain⟨t,e⟩:=(show ∃t,u=Value.str x t from r);cases e;rfl
 | byt b=>obtain⟨t,e⟩:=(show ∃t,u=Value.bytes b t from r);cases e;rfl
 | flt b=>obtain⟨t,e⟩:=(show ∃t,u=Value.float b t from r);cases e;rfl
 | ref a=>cases(show u=Value.ref a from r);rfl
 | ty n=>cases(show u=Value.type n from r);rfl
section
variable{P:A7}{w:F8}{H H':Hp}{h h':IJ}{a C dx:A2}{fs fs':A1 (Str×V)}
theorem Fc(c:MT P w H h)(e:H a=some (.ins C dx fs)):∃b,Q_ h a dx C b/\(∀f,NF (fs.lookup f) (b f))/\PySem.Within b (fs.map (·.1))/\fs.length<=1000/\H dx=some (.own a):=by
 obtain⟨d,z,g,i,b,n,r,q⟩:=(show IU P w H h a (.ins C dx fs)from c a _ e);exact⟨b,⟨i,n,g⟩,r,q,z,d⟩
end
structure RN(K:PySem.W.Frag)(C:A2):Prop where
 pg:PySem.W.plainGet K C Str.empty=true
 hd:PySem.W.hasDictIn K C=true
 po:PySem.W.plainOver K C=true
 sa:PySem.W.findIn K (.ref C) "__setattr__" = some (some (.builtin "object.__setattr__"))
def RN.get{K:PySem.W.Frag}{C:A2}(c:RN K C)(f:Str):PySem.W.plainGet K C f=true:=c.pg
def JV(K:PySem.W.Frag)(C:A2)(f:Str):Prop:=PySem.W.findIn K (.ref C) f=some none
def JV.taker{K:PySem.W.Frag}{C:A2}{f:Str}(n:JV K C f):PySem.W.takerIn K C f=some none:=by
 unfold PySem.W.takerIn;rw[show PySem.W.findIn K (.ref C) f=some none from n];rfl
structure SS(K:PySem.W.Frag)(C:A2)(m:Str)(f:A2):Prop where
 at_:PySem.W.findIn K (.ref C) m=some (some (.ref f))
 fn:PySem.W.isFn K (.ref f)=true
 kp:PySem.W.keepIn K (.ref f)=true
section
variable{X:Cx}{pins:A1 (A2×Obj)}{σ:St}{H:Hp}{s:A4}{a C dx:A2}{fs:A1 (Str×V)}{f:Str}{v:V}{A:IM}{E:A3->A4->Prop}
theorem Pn{b:Bool}{Q:A3->A4->Prop}(I:Inv X pins σ H s)(e:H a=some (.ins C dx fs))(c:RN X.K C)(n:JV X.K C f)(l:fs.lookup f=some v)
  (h:∀u d,Inv X pins σ H d->RelV v u->Q u d):wpAny (model X.prog X.w) A (getAttr (.ref a) f b) Q E s:=by
 obtain⟨i,O,r,_,_,_⟩:=Fc I.hok e;obtain⟨u,j,g⟩:=NF.some_of (v:=v) (o:=i f) (by rw[<-l];exact r f);exact zAy I.kIn O (c.get f) c.hd n j (Ul g) (h u _ (I.tok _) g)
theorem Ee{m:Str}{g:A2}{pl:Sem Bool}{Q:A3×A1 A3->A4->Prop}(I:Inv X pins σ H s)(e:H a=some (.ins C dx fs))(c:RN X.K C)(k:SS X.K C m g)(l:fs.lookup m=none)
  (h:Q (.ref g,[.ref a]) s):wpAny (model X.prog X.w) A (getMethod (.ref a) m pl) Q E s:=by
 obtain⟨b,O,r,_,_,_⟩:=Fc I.hok e;have d:b m=none:=NF.none_of (by rw[<-l];exact r m);exact Xn I.kIn O (c.get m) k.at_ k.fn d h
theorem On{y:V}{u:A3}{Q:Unit->A4->Prop}(I:Inv X pins σ H s)(e:H a=some (.ins C dx fs))(c:RN X.K C)(n:JV X.K C f)(J:fs.length<1000)(m:RelV y u)
  (h:∀i,Inv X pins σ (IH H a (.ins C dx (Q6 f y fs))) i->Q () i):wpAny (model X.prog X.w) A (setAttr (.ref a) f u) Q E s:=by
 obtain⟨j,O,r,k,_,l⟩:=Fc I.hok e;have p:(fs.map (·.1)).length<=sizeLine:=by rw[AA,sizeLine_eq];lia
 refine zAn I.kIn O c.sa c.po n.taker c.hd k p λt d v=>h _ ?_;have B:∃o,t.get? dx=some o:=let⟨o,_,_,D,_⟩:=d.ns;⟨o,D⟩;refine I.write (x:=a) (e:=dx) (by rw[e];exact True.intro) (.inr l) (λb q F z=>(v.2 b F).trans z) B ?_;refine⟨by rw[B5 O.ne];exact l,?_,O.ne,d.obj,_,d.ns,λg=>?_,λg G=>?_⟩
 .have:=Bo f y fs;lia
 .show NF ((Q6 f y fs).lookup g) (if g=f then some u else j g);rw[Bt];by_cases q:g=f
  .rw[AO q,AO q];exact m
  .rw[AN q,AN q];exact r g
 .by_cases q:g=f
  .rw[q];exact(Cc f y fs).1
  .refine(Cc f y fs).2 g (k g λz=>G ?_);show(if g=f then some u else j g)=none;rw[AN q];exact z
theorem Inv.made(I:Inv X pins σ H s):Inv X pins σ (IH (IH H s.heap.objs.size (.own (s.heap.objs.size+1))) (s.heap.objs.size+1) (.ins C s.heap.objs.size []))
  { s with heap:=(s.heap.push PySem.W.emptyDict).push (PySem.W.instObj C s.heap.objs.size) }:=by
 have c:(s.heap.push PySem.W.emptyDict).get? s.heap.objs.size=some PySem.W.emptyDict:=AS s.heap rfl;have f:((s.heap.push PySem.W.emptyDict).push (PySem.W.instObj C s.heap.objs.size)).get? (s.heap.objs.size+1)=some (PySem.W.instObj C s.heap.objs.size):=by
  have:=AS (s.heap.push PySem.W.emptyDict) (o:=PySem.W.instObj C s.heap.objs.size) rfl
  rwa [EE]at this
 have g:(s.heap.push PySem.W.emptyDict).Ns s.heap.objs.size (λ_=>none):=⟨PySem.W.emptyDict,#[],_,c,rfl,(λe h=>absurd h (by simp)),λ_=>rfl⟩;have i:=I.laid (a:=s.heap.objs.size) (o:=.own (s.heap.objs.size+1)) (h':=s.heap.push PySem.W.emptyDict) (t':=s.toks) (λb u q=>AE _ q) (Nat.le_refl _) ⟨_,c⟩;refine i.laid (a:=s.heap.objs.size+1) (o:=.ins C s.heap.objs.size []) (t':=s.toks) (λb u q=>AE _ q) (HV (EE _ _)) ?_;have d:s.heap.objs.size≠s.heap.objs.size+1:=AZ (FJ _);refine⟨by rw[B5 d,B1],CB _,d,f,λ_=>none,(Heap.Ns1.of_empty g).at λo q=>AE _ q,λ_=>True.intro,λy j=>absurd rfl j⟩
theorem zAp{prog:A7}{w:F8}{a:QW}{e:IL}{f:Str}{pos:Pos}{s:A4}{Q:A3->A4->Prop}(b:attributeBase e f a (eval e a)=eval e a)
  (h:wpAny (model prog w) A (eval e a) (λo s₁=>wpAny (model prog w) A (getAttr o f true) Q E s₁) E s):wpAny (model prog w) A (eval (.Attribute e f pos) a) Q E s :=
 Attribute_any_ h (by rw[arm_eval_Attribute,b])
end
def zFy(K:PySem.W.Frag)(d:TE)(f:Str):TE:=λσ H Q=>d σ H λx b=>∃a C e c v,x = .ref a/\b a=some (.ins C e c)/\RN K C/\JV K C f/\c.lookup f=some v/\Q v b
def zIm(K:PySem.W.Frag)(e g:TE)(f:Str):TS:=λD σ H=>g σ H λy h=>e σ h λx c=>∃a C d b,x = .ref a/\c a=some (.ins C d b)/\RN K C/\JV K C f/\b.length<1000 /\
 D.nx σ (IH c a (.ins C d (Q6 f y b)))
section
variable{X:Cx}{o e value:IL}{f:Str}{pos pos' tpos:Pos}{ta tv:TE}
theorem zFv(d:PE X e ta)(g:attributeBase e f X.env (eval e X.env)=eval e X.env):PE X (.Attribute e f pos) (zFy X.K ta f):=by
 intro b s σ H Q I h;refine zAp g (JA (d b s σ H _ I h) λu t ⟨x,i,j,k,a,C,w,y,v,m,o,c,n,l,q⟩=>?_);subst m;obtain rfl:u=Value.ref a:=k;exact Pn j o c n l λz A p r=>⟨v,i,p,r,q⟩
theorem zFg(d:PE X o ta)(e:PE X value tv)(g:swapsWith value (some (.Attribute o f pos')) pos.line X.env=pure false):PS X (.Assign [.Attribute o f pos'] value pos) (zIm X.K ta tv f):=by
 intro b s σ H D I h;refine plainObj_wpAny_Assign_Attribute (JA (e b s σ H _ I h) λu i ⟨y,j,k,m,q⟩=>JA (d b i σ j _ k q) λp B ⟨x,E,r,t,a,C,F,G,v,w,c,n,l,z⟩=>?_) g;subst v;obtain rfl:p=Value.ref a:=t;exact On r w c n l m λJ A=>⟨σ,_,A,z⟩
end
section
variable{X:Cx}{pins:A1 (A2×Obj)}{σ:St}{H:Hp}{s:A4}{A:IM}{E:A3->A4->Prop}{Q:A3->A4->Prop}{c:A3}{b:Bool}
inductive MZ(K:PySem.W.Frag)(H:Hp):V->A3->Prop where
 | non:MZ K H .non (.type "NoneType")
 | bl (x:Bool):MZ K H (.bl x) (.type "bool")
 | int (i:Int):MZ K H (.int i) (.type "int")
 | str (x:Str):MZ K H (.str x) (.type "str")
 | flt (x:UInt64):MZ K H (.flt x) (.type "float")
 | lst {a:A2} {xs:A1 V} (e:H a=some (.lst xs)):MZ K H (.ref a) (.type "list")
 | frz {a:A2} {o:Obj} {xs:A1 V} (e:H a=some (.frz o (.lst xs))):MZ K H (.ref a) (.type "list")
 | tup {a:A2} {xs:A1 V} (e:H a=some (.tup xs)):MZ K H (.ref a) (.type "tuple")
 | dK {a:A2} {kvs:A1 (IZ×V)} (e:H a=some (.dK kvs)):MZ K H (.ref a) (.type "dict")
 | dT {a:A2} {kvs:A1 (A1 IZ×V)} (e:H a=some (.dT kvs)):MZ K H (.ref a) (.type "dict")
 | ins {a C dx:A2} {fs:A1 (Str×V)} (e:H a=some (.ins C dx fs)) (cl:RN K C) (ha:PySem.W.findIn K (.ref C) "__class__" = some (some (.builtin "object.__class__")))
   (hn:PySem.W.specialIn K (.builtin "object.__class__") "__get__" = some (some (.builtin "getset_descriptor.__get__"))) (htk:PySem.W.takesIn K (.builtin "object.__class__")=some true)
   (hm:PySem.W.mroIn K C (.type "object")=some true):MZ K H (.ref a) (.ref C)
theorem Sb{x:V}{u t:A3}(I:Inv X pins σ H s)(d:RelV x u)(ty:MZ X.K H x t)(e:PySem.W.kitOne X.K t c=some b)(h:∀v,Q (.bool b) { s with toks:=v }) :
  wpAny (model X.prog X.w) A (call (.builtin "isinstance") [u,c]) Q E s:=by
 cases ty with
 | non=>cases(show u=Value.none from d);exact PySem.W.kia_one PySem.W.kitx_none I.kIn True.intro e (λz=>nomatch z) h
 | bl y=>cases(show u=Value.bool y from d);exact PySem.W.kia_one PySem.W.kitx_bool I.kIn True.intro e (λz=>nomatch z) h
 | int i=>obtain⟨t,q⟩:=(show ∃t,u=Value.int i t from d);cases q;exact PySem.W.kia_one PySem.W.kitx_int I.kIn True.intro e (λz=>nomatch z) h
 | str y=>obtain⟨t,q⟩:=(show ∃t,u=Value.str y t from d);cases q;exact PySem.W.kia_one PySem.W.kitx_str I.kIn True.intro e (λz=>nomatch z) h
 | flt y=>obtain⟨t,q⟩:=(show ∃t,u=Value.float y t from d);cases q;exact PySem.W.kia_one PySem.W.kitx_float I.kIn True.intro e (λz=>nomatch z) h
 | @lst a k f =>
  cases(show u=Value.ref a from d);obtain⟨_,_,n,_,g⟩:=(show IU X.prog X.w H s.heap a (.lst k)from I.hok a _ f);exact PySem.W.kia_one PySem.W.kitx_list I.kIn ⟨_,g,rfl⟩ e (λz=>nomatch z) h
 | @frz a B k f =>
  cases(show u=Value.ref a from d);obtain⟨_,_,_,n,_,g⟩:=(show IU X.prog X.w H s.heap a (.frz B (.lst k))from I.hok a _ f);exact PySem.W.kia_one PySem.W.kitx_list I.kIn ⟨_,g,rfl⟩ e (λz=>nomatch z) h
 | @tup a k f =>
  cases(show u=Value.ref a from d);obtain⟨_,_,_,p⟩:=(show IU X.prog X.w H s.heap a (.tup k)from I.hok a _ f);obtain⟨o,g,l,_⟩:=p;exact PySem.W.kia_one PySem.W.kitx_tuple I.kIn ⟨o,g,l⟩ e (λz=>nomatch z) h
 | @dK a j f =>
  cases(show u=Value.ref a from d);obtain⟨_,_,N,_,p⟩:=(show IU X.prog X.w H s.heap a (.dK j)from I.hok a _ f);obtain⟨o,D,F,g,l,_⟩:=p;exact PySem.W.kia_one PySem.W.kitx_dict I.kIn ⟨o,g,l.1⟩ e (λz=>nomatch z) h
 | @dT a j f =>
  cases(show u=Value.ref a from d);obtain⟨_,_,k,_,o,D,F,g,l,_⟩:=(show IU X.prog X.w H s.heap a (.dT j)from I.hok a _ f);exact PySem.W.kia_one PySem.W.kitx_dict I.kIn ⟨o,g,l.1⟩ e (λz=>nomatch z) h
 | @ins a C P R f r G L m M =>
  cases(show u=Value.ref a from d);obtain⟨S,O,_⟩:=Fc I.hok f;obtain⟨T,J,_⟩:=O.look;exact PySem.W.kia_one (PySem.W.kitx_own (r.get _) r.hd G L m M) I.kIn J e (λz=>nomatch z) h
end
structure JQ(k:Nat)(A:IM):Prop where
 hd:A.handled=none
 dp:A.depth+3*k+5<recursionLimit
 un:A.units+16*k+200<cLine
def JQ.mono{j k:Nat}{A:IM}(r:JQ k A)(h:j<=k):JQ j A:=⟨r.hd,by have:=r.dp;lia,by have:=r.un;lia⟩
def JQ.deeper{k:Nat}{A:IM}(r:JQ (k+1) A)(a:QW):JQ k (A.deeper a) :=
 ⟨r.hd,by have:=r.dp;show A.depth+1+3*k+5<_;lia,by have:=r.un;show A.units+3+16*k+200<_;lia⟩
def Ov{A:IM}{C:A2}{us:A1 A3}{a:A1 (Str×A3)}:(A.under (.builtin "type.__call__" ⟨.ref C::us,a⟩)).depth=A.depth+1:=by
 first | rfl | simp[Around.under,Code.weight,Code.isCreation,Code.isGuard,Code.isCaller,Code.frames,Code.isFrame,guardIds]
def Ox{A:IM}{C:A2}{us:A1 A3}{a:A1 (Str×A3)}:(A.under (.builtin "type.__call__" ⟨.ref C::us,a⟩)).units=A.units+1:=by
 first | rfl | simp[Around.under,Code.cUnits,Code.frames,Code.isFrame]
def JQ.make{k:Nat}{A:IM}(r:JQ (k+1) A)(C:A2)(us:A1 A3)(a:A1 (Str×A3)):JQ k (A.under (.builtin "type.__call__" ⟨.ref C::us,a⟩)) :=
 ⟨r.hd,by have:=r.dp;rw[Ov];lia,by have:=r.un;rw[Ox];lia⟩
def JQ.depth{k:Nat}{A:IM}(r:JQ k A):A.depth<recursionLimit:=by have:=r.dp;lia
def JQ.units{k:Nat}{A:IM}(r:JQ k A):A.units+64<cLine:=by have:=r.un;lia
def TD:TA:=λ_ H Q=>Q [] H
def Oj(a:TE)(b:TA):TA:=λσ H Q=>a σ H λx c=>b σ c λd e=>Q (x::d) e
section
variable{X:Cx}{e:IL}{es:A1 IL}{te:TE}{t:TA}{pos:Pos}
theorem B2:PA X [] TD:=λ_ _ _ _ H Q I h=>Calls.spliced_nil ⟨[],H,I,.nil,h⟩
theorem A8(b:PE X e te)(c:PA X es t)(d:starEach (e::es) X.env =(false,eval e X.env)::starEach es X.env:=by rfl):PA X (e::es) (Oj te t):=by
 intro pos a s σ H Q I h;rw[d];show wpAny _ _ (spliced ((false,eval e X.env)::backTo pos (starEach es X.env))) _ _ s;refine Calls.spliced_cons (JA (b a s σ H _ I h) λu f ⟨x,g,i,j,k⟩=>?_);exact JA (c pos a f σ g _ i k) λq r ⟨l,m,n,o,p⟩=>⟨x::l,m,n,.cons j o,p⟩
def zHw(t:TA):TE:=λσ H Q=>t σ H λa b=>a.length<=sizeLine/\∀p,b p=none->Q (.ref p) (IH b p (.tup a))
def zIk(t:TA):TE:=λσ H Q=>t σ H λa b=>a.length<=sizeLine/\∀p,b p=none->Q (.ref p) (IH b p (.lst a))
theorem E8{g}(h:PA X es t):PE X (.Tuple es g pos) (zHw t):=by
 intro a s σ H Q I i;refine wpAny_Tuple_spliced (JA (h pos a s σ H _ I i) λj c ⟨k,d,f,r,z,q⟩=>⟨by rw[<-r.length];exact z,?_⟩);have l:d c.heap.objs.size=none:=f.hok.fresh (Nat.le_refl _);refine⟨.ref c.heap.objs.size,IH d c.heap.objs.size (.tup k),f.laid (t':=c.toks) (λb u e=>AE _ e) (Nat.le_refl _) ?_,rfl,q _ l⟩;exact⟨z,j,r,⟨_,AS _ rfl,rfl,_,rfl⟩⟩
theorem O8(h:PA X es t):PE X (.List es pos) (zIk t):=by
 intro a s σ H Q I g;refine wpAny_List_spliced (JA (h pos a s σ H _ I g) λi c ⟨j,d,f,r,z,q⟩=>⟨by rw[<-r.length];exact z,?_⟩);have k:d c.heap.objs.size=none:=f.hok.fresh (Nat.le_refl _);refine⟨.ref c.heap.objs.size,IH d c.heap.objs.size (.lst j),f.laid (t':=c.toks) (λb u e=>AE _ e) (Nat.le_refl _) ?_,rfl,q _ k⟩;exact⟨z,i,0,r,AS _ rfl⟩
end
abbrev Sp:=A1 V->Hp->VK->XK->Prop
abbrev R_:=A1 QW->Hp->A4->XK->A3->A4->Prop
structure QB(P:A7)(w:F8)(K:PySem.W.Frag)(mg:Str->A5 A3)(base:IJ)(A:IM)(outer:A1 QW)(s:A4)(H:Hp):Prop where
 frames:A.frames=some outer
 mod:Mod K mg base
 bs:∀b o,base.get? b=some o->s.heap.get? b=some o/\H b=none
 bsz:base.objs.size<=s.heap.objs.size
 funs:s.heap.FunFrames base outer
 frf:∀b∈QK outer,H b=none
 hok:MT P w H s.heap
 bare:AllBare s.gens
def CE(a:A1 QW)(P:A7)(w:F8)(H:Hp)(s:A4)(Q:VK)(u:A3)(b:A4):Prop :=
 ∃v c,b.os=s.os/\AllBare b.gens/\Un (QK a) [] H c s.heap b.heap/\MT P w c b.heap/\RelV v u/\Q v c
def CR(c:R_)(a:A1 QW)(P:A7)(w:F8)(H:Hp)(s:A4)(Q:VK)(E:XK)(r:Result)(b:A4):Prop :=
 match r with
 | .ok (.ret u)=>CE a P w H s Q u b
 | .ok _=>False
 | .error e=>c a H s E e b
structure IK(P:A7)(w:F8)(K:PySem.W.Frag)(mg:Str->A5 A3)(base:IJ)(CX:R_)(k:Nat)(f:A2)(fd:IS)(ps:A1 Str)(sp:Sp):Prop where
 len:∀vs H Q E,sp vs H Q E->vs.length=ps.length
 run:∀(A:IM) (outer:A1 QW) (s:A4) (H:Hp) (args:Args) (us:A1 A3) (vs:A1 V) (Q:VK) (E:XK),JQ k A->QB P w K mg base A outer s H->BindsTo s fd args (ps.zip us)->IR vs us->sp vs H Q E ->
  codeAny (model P w) A (.call (.ref f) args) (CR CX outer P w H s Q E) s
def IK.mono{P:A7}{w:F8}{K:PySem.W.Frag}{mg:Str->A5 A3}{base:IJ}{b:R_}{j k:Nat}{f:A2}{c:IS}{d:A1 Str}{sp:Sp}(F:IK P w K mg base b j f c d sp)(h:j<=k) :
  IK P w K mg base b k f c d sp:=⟨F.len,λA a s H args e g Q E i=>F.run A a s H args e g Q E (i.mono h)⟩
def QB.make{P:A7}{w:F8}{K:PySem.W.Frag}{mg:Str->A5 A3}{base:IJ}{A:IM}{a:A1 QW}{s:A4}{H:Hp}(e:QB P w K mg base A a s H)(C:A2)(us:A1 A3)(b:A1 (Str×A3)) :
  QB P w K mg base (A.under (.builtin "type.__call__" ⟨.ref C::us,b⟩)) a s H:=⟨by first | exact e.frames | (simpa [Around.under,Code.envs,Code.isFrame,pushEnvs] using e.frames),e.mod,e.bs,e.bsz,e.funs,e.frf,e.hok,e.bare⟩
section
variable{X:Cx}{pins:A1 (A2×Obj)}{σ:St}{H:Hp}{s s':A4}
theorem Inv.env0(I:Inv X pins σ H s):QB X.prog X.w X.K X.mg X.base X.A X.stack s H :=
 ⟨I.ok.frames,I.ok.mod,I.bs,Nat.le_trans I.ok.bsz I.sz,I.stack,I.stkFree,I.hok,I.bare⟩
theorem Inv.after{Q:VK}{u:A3}(I:Inv X pins σ H s)(h:CE X.stack X.prog X.w H s Q u s'):EP X pins σ Q u s':=by
 obtain⟨v,f,os,a,i,c,r,q⟩:=h;obtain⟨j,g,d,t,e⟩:=s';obtain rfl:e=s.os:=os;exact⟨v,f,I.call (h':=j) (g':=g) (d':=d) (t':=t) (ch:=[]) i c a (λb z=>absurd z (by simp)),r,q⟩
end
def zCd(sp:Sp)(a:A1 V)(E:XK)(t:TA):TE:=λσ H Q=>t σ H λb c=>sp (b++a) c Q E
def zEo(C:A2)(m:Str)(sp:Sp)(b:A1 V)(E:XK)(e:TE)(t:TA):TE:=λσ H Q=>e σ H λx c=>∃a f d,x = .ref a/\c a=some (.ins C f d)/\d.lookup m=none /\
 t σ c λg h=>sp (x ::(g++b)) h Q E
def zGx(C:A2)(sp:Sp)(b:A1 V)(E:XK)(t:TA):TE:=λσ H Q=>t σ H λd c=>∀x a,c x=none->c a=none->a≠x ->
 sp (.ref x ::(d++b)) (IH (IH c a (.own x)) x (.ins C a [])) (λv e=>v = .non/\Q (.ref x) e) E
def Binds(K:PySem.W.Frag)(c:IS)(b:A1 Str)(ds:A1 A3):Prop :=
 ∀(s:A4) (a:A1 A3),K.In s.heap->(a++ds).length=b.length->BindsTo s c ⟨a,[]⟩ (b.zip (a++ds))
def Binds.all{K:PySem.W.Frag}{b:IS}{a:A1 Str}(h:∀us:A1 A3,us.length=a.length->bindArgs b ⟨us,[]⟩=pure (a.zip us)):Binds K b a []:=λs us _ c=>by
 rw[CA]at c⊢;exact .of_eq (h us c)
def Ab(c:R_)(X:Cx)(E:XK):Prop:=∀(a:A1 (A2×Obj)) (σ:St) (H:Hp) (s:A4) (e:A3) (b:A4),Inv X a σ H s->c X.stack H s E e b->X.xe e b
section
variable{X:Cx}{CX:R_}{k:Nat}{f C:A2}{fd:IS}{ps:A1 Str}{sp:Sp}{dvs:A1 V}{ds:A1 A3}{E:XK}{x m:Str}{p pos apos:Pos}{e o:IL}{es:A1 IL}{ta:TE}{t:TA}
theorem Nv{a:A1 (A2×Obj)}{σ:St}{H:Hp}{s:A4}{Q:VK}{us:A1 A3}{vs:A1 V}(F:IK X.prog X.w X.K X.mg X.base CX k f fd ps sp)(d:JQ k X.A)(g:Binds X.K fd ps ds)(i:IR dvs ds)(j:Ab CX X E)
  (I:Inv X a σ H s) (r:IR vs us) (h:sp (vs++dvs) H Q E):wpAny (model X.prog X.w) X.A (call (.ref f) us) (EP X a σ Q) X.xe s:=by
 have c:IR (vs++dvs) (us++ds):=r.append i;have l:(us++ds).length=ps.length:=by rw[<-c.length];exact F.len _ _ _ _ h
 refine wpAny_call (codeAny_mono (F.run X.A X.stack s H ⟨us,[]⟩ (us++ds) (vs++dvs) Q E d I.env0 (g s us I.kIn l) c h) λr m b=>?_);cases r with
 | error e=>exact j a σ H s e m I b
 | ok n =>
  cases n with
  | ret u=>exact I.after b
  | next=>exact False.elim b
  | brk=>exact False.elim b
  | cont=>exact False.elim b
theorem zBs(F:IK X.prog X.w X.K X.mg X.base CX k f fd ps sp)(g:JQ k X.A)(i:Gl X x)(j:X.mg x=some (.ref f))(l:PySem.W.keepIn X.K (.ref f)=true)(m:Binds X.K fd ps ds)(n:IR dvs ds)(o:Ab CX X E)
  (u:PA X (e::es) t) (b:(x ==("__debug__":Str))=false:=by decide) (v:starEach (e::es) X.env =(false,eval e X.env)::starEach es X.env:=by rfl) (c:(backTo pos (starEach es X.env)).any (·.1)=false:=by rfl) :
  PE X (.Call (.Name x p) (e::es) [] pos) (zCd sp dvs E t):=by
 intro a s σ H Q I h;refine EH (Lf I i j ?_ b);refine PySem.W.callWith_K (h₀:=X.base) I.ok.mod.kin l (JA (u pos a s σ H _ I h) λy z ⟨B,C,d,r,q⟩=>⟨d.kIn,?_⟩) v c;exact Nv F g m n o d r q
theorem C4{pl:Sem Bool}(v:PE X o ta)(c:RN X.K C)(i:SS X.K C m f)(F:IK X.prog X.w X.K X.mg X.base CX k f fd ps sp)(y:JQ k X.A)(z:Binds X.K fd ps ds)(B:IR dvs ds)(D:Ab CX X E)(G:PA X (e::es) t)
  (d:starEach (e::es) X.env =(false,eval e X.env)::starEach es X.env:=by rfl) (g:(backTo pos (starEach es X.env)).any (·.1)=false:=by rfl)
  (J:eval (.Call (.Attribute o m apos) (e::es) [] pos) X.env =(do
   let j <-eval o X.env
   standAt apos.atName
   let(f,first) <-holding [j] (getMethod j m pl)
   callWith pos f first (backTo pos (starEach (e::es) X.env)) (backToKw pos (keywordEach [] X.env))):=by rfl) :
  PE X (.Call (.Attribute o m apos) (e::es) [] pos) (zEo C m sp dvs E ta t):=by
 intro b s σ H Q I h;refine PySem.W.methodCall_KW (pl:=pl) (JA (v b s σ H _ I h) λu L ⟨x,M,n,N,a,S,T,O,P,l,q⟩=>?_) J;subst O;obtain rfl:u=Value.ref a:=N;refine Ee n P c i l ?_;refine PySem.W.callWith_K (first:=[.ref a]) (h₀:=X.base) I.ok.mod.kin i.kp (JA (G pos b L σ M _ n q) λus U ⟨vs,V,p,r,R⟩=>⟨p.kIn,?_⟩) d g;exact Nv (us:=.ref a::us) (vs:=.ref a::vs) F y z B D p (.cons rfl r) R
theorem Xm{pl:Sem Bool}(i:PE X o ta)(c:RN X.K C)(e:SS X.K C m f)(F:IK X.prog X.w X.K X.mg X.base CX k f fd ps sp)(j:JQ k X.A)(n:Binds X.K fd ps ds)(p:IR dvs ds)(r:Ab CX X E)
  (t:eval (.Call (.Attribute o m apos) [] [] pos) X.env =(do
   let g <-eval o X.env
   standAt apos.atName
   let(f,first) <-holding [g] (getMethod g m pl)
   callWith pos f first (backTo pos (starEach [] X.env)) (backToKw pos (keywordEach [] X.env))):=by rfl) :
  PE X (.Call (.Attribute o m apos) [] [] pos) (zEo C m sp dvs E ta TD):=by
 intro b s σ H Q I h;refine PySem.W.methodCall_KW (pl:=pl) (JA (i b s σ H _ I h) λu B ⟨x,D,d,v,a,G,J,y,z,l,q⟩=>?_) t;subst y;obtain rfl:u=Value.ref a:=v;refine Ee d z c e l ?_;exact PySem.W.callWith_K0 (first:=[.ref a]) d.kIn e.kp (Nv (us:=[.ref a]) (vs:=[.ref a]) F j n p r d (.cons rfl .nil) q)
structure Mk(K:PySem.W.Frag)(C f:A2):Prop where
 makes:PySem.W.makesIn K C=true
 init:PySem.W.findIn K (.ref C) "__init__" = some (some (.ref f))
 fn:PySem.W.isFn K (.ref f)=true
 kp:PySem.W.keepIn K (.ref C)=true
theorem Xe{a:A1 (A2×Obj)}{σ:St}{H:Hp}{s:A4}{Q:VK}{us:A1 A3}{vs:A1 V}(M:Mk X.K C f)(F:IK X.prog X.w X.K X.mg X.base CX k f fd ps sp)(j:JQ (k+1) X.A)(l:Binds X.K fd ps ds)(m:IR dvs ds)
  (n:Ab CX X E) (I:Inv X a σ H s) (r:IR vs us)
  (h:∀x c,H x=none->H c=none->c≠x->sp (.ref x ::(vs++dvs)) (IH (IH H c (.own x)) x (.ins C c [])) (λv o=>v = .non/\Q (.ref x) o) E) :
  wpAny (model X.prog X.w) X.A (call (.ref C) us) (EP X a σ Q) X.xe s:=by
 have g:=h (s.heap.objs.size+1) s.heap.objs.size (I.hok.fresh (EK _)) (I.hok.fresh (Nat.le_refl _)) (AZ (FJ _));have d:=Inv.made (C:=C) I;have i:IR (V.ref (s.heap.objs.size+1) ::(vs++dvs)) (Value.ref (s.heap.objs.size+1) ::(us++ds)):=.cons rfl (r.append m);have p:(Value.ref (s.heap.objs.size+1)::us++ds).length=ps.length:=by
  have e:=i.length;rw[F.len _ _ _ _ g]at e;exact e.symm
 refine wpAny_call (Vj (f:=f) I.kIn M.makes M.init (beq_iff_eq.mp M.fn) (codeAny_mono (F.run _ X.stack _ _ ⟨Value.ref (s.heap.objs.size+1)::us,[]⟩ (Value.ref (s.heap.objs.size+1) ::(us++ds)) _ _ E (j.make C us [])
  (d.env0.make C us []) (l _ (Value.ref (s.heap.objs.size+1)::us) d.kIn p) i g) λr q b=>?_))
 cases r with
 | error e=>exact n a σ _ _ e q d b
 | ok t =>
  cases t with
  | ret u =>
   obtain⟨v,y,z,B,D,G⟩:=d.after b;subst D;exact⟨B,⟨V.ref (s.heap.objs.size+1),y,z,rfl,G⟩⟩
  | next=>exact False.elim b
  | brk=>exact False.elim b
  | cont=>exact False.elim b
theorem Z9(M:Mk X.K C f)(F:IK X.prog X.w X.K X.mg X.base CX k f fd ps sp)(g:JQ (k+1) X.A)(i:Gl X x)(j:X.mg x=some (.ref C))(l:Binds X.K fd ps ds)(m:IR dvs ds)(n:Ab CX X E)
  (o:PA X (e::es) t) (b:(x ==("__debug__":Str))=false:=by decide) (u:starEach (e::es) X.env =(false,eval e X.env)::starEach es X.env:=by rfl) (c:(backTo pos (starEach es X.env)).any (·.1)=false:=by rfl) :
  PE X (.Call (.Name x p) (e::es) [] pos) (zGx C sp dvs E t):=by
 intro a s σ H Q I h;refine EH (Lf I i j ?_ b);refine PySem.W.callWith_K (h₀:=X.base) I.ok.mod.kin M.kp (JA (o pos a s σ H _ I h) λv y ⟨z,B,d,r,q⟩=>⟨d.kIn,?_⟩) u c;exact Xe M F g l m n d r q
end
structure II(N P:A1 Str)(sc:JN):Prop where
 kind:sc.kind = .function
 co:sc.isCoroutine=false
 gen:sc.isGenerator=false
 nd:N.Nodup
 pre:N.take P.length=P
 par:∀x∈P,sc.names.lookup x=some .local\/sc.names.lookup x=some .cell
 nofree:∀y∈sc.names,y.2≠ .free
def Hq{kindOf:Str->A5 KE}{x:Str}:∀{a:A1 (Str×A3)} {m:Str->A5 A3},(∀v,(x,v)∉a)->bindL kindOf a m x=m x
 | [],_,_=>rfl
 | (n,v)::r,m,h=>by
  unfold bindL;rw[Hq λw b=>h w (BA _ b)];split
  .have:x≠n:=by rintro rfl;exact h v BE
   simp[this]
  .rfl
def Ip{kindOf:Str->A5 KE}{x:Str}:∀{a:A1 (Str×A3)} {m:Str->A5 A3},(∀v,(x,v)∉a)->bindC kindOf a m x=m x
 | [],_,_=>rfl
 | (n,v)::r,m,h=>by
  unfold bindC;rw[Ip λw b=>h w (BA _ b)];split
  .rfl
  .have:x≠n:=by rintro rfl;exact h v BE
   simp[this]
def Ho{kindOf:Str->A5 KE}{x:Str}{v:A3}:∀{P:A1 Str} {vs:A1 A3} {i:Nat} {m:Str->A5 A3},P.Nodup->P[i]?=some x->vs[i]?=some v->kindOf x=some .local ->
  bindL kindOf (P.zip vs) m x=some v
 | [],_,_,_,_,h,_,_=>by simp at h
 | _::_,[],_,_,_,_,h,_=>by simp at h
 | p::P,w::vs,0,m,c,a,b,d=>by
  simp at a b;subst a;subst b;show bindL kindOf ((p,w)::P.zip vs) m p=_;unfold bindL;rw[Hq λv e=>(CL.mp c).1 (FT e).1,AO d];simp
 | p::P,w::vs,i+1,m,c,a,b,d=>by
  show bindL kindOf ((p,w)::P.zip vs) m x=_;unfold bindL;exact Ho (i:=i) (CL.mp c).2 (by simpa using a) (by simpa using b) d
def Jf{kindOf:Str->A5 KE}{x:Str}{v:A3}:∀{P:A1 Str} {vs:A1 A3} {i:Nat} {m:Str->A5 A3},P.Nodup->P[i]?=some x->vs[i]?=some v->kindOf x≠some .local ->
  bindC kindOf (P.zip vs) m x=some v
 | [],_,_,_,_,h,_,_=>by simp at h
 | _::_,[],_,_,_,_,h,_=>by simp at h
 | p::P,w::vs,0,m,c,a,b,d=>by
  simp at a b;subst a;subst b;show bindC kindOf ((p,w)::P.zip vs) m p=_;unfold bindC;rw[Ip λv e=>(CL.mp c).1 (FT e).1,AN d];simp
 | p::P,w::vs,i+1,m,c,a,b,d=>by
  show bindC kindOf ((p,w)::P.zip vs) m x=_;unfold bindC;exact Jf (i:=i) (CL.mp c).2 (by simpa using a) (by simpa using b) d
def Bm(N:A1 Str)(vs:A1 V):St:=vs.map some++List.replicate (N.length-vs.length) none
def Wy(g:R_)(P:A7)(w:F8)(K:PySem.W.Frag)(mg:Str->A5 A3)(base:IJ)(N:A1 Str)(b:Str)(a:JN)(f:A2)(d:A3)(A:IM)(outer:A1 QW)(s:A4)(H:Hp)(E:XK):Cx where
 prog:=P
 w:=w
 K:=K
 mg:=mg
 base:=base
 A:=A.deeper (envOfC b a s.heap.objs.size f d)
 N:=N
 s₀:=s
 H₀:=H
 env:=envOfC b a s.heap.objs.size f d
 outer:=outer
 stack:=envOfC b a s.heap.objs.size f d::outer
 ex:=[]
 calm:=true
 fn:=λ_=>true
 pn:=[]
 xe:=λe h=>wpAny (model P w) (A.deeper (envOfC b a s.heap.objs.size f d)) (leaving (envOfC b a s.heap.objs.size f d) e) (λ_ c=>g outer H s E e c) (λi c=>g outer H s E i c) h
def Mx{a:JN}{n:Nat}{x:Str}(h:a.names.lookup x=some .cell):∃c,(cellsFrom n a.names []).lookup x=some c:=by
 have q:=PySem.W.cellsFrom_some a.names n [] (.inl h);exact EZ.mp q
def Ue{I:R_}{P:A7}{w:F8}{K:PySem.W.Frag}{mg:Str->A5 A3}{base:IJ}{N o:A1 Str}{j:Str}{d:JN}{f:A2}{D:A3}{A:IM}{g:A1 QW}{s J:A4}{H:Hp}{E:XK}{us:A1 A3}{vs:A1 V}
  (S:II N o d) (O:A.handled=none) (m:QB P w K mg base A g s H) (U:vs.length=o.length) (r:IR vs us)
  (x:InCallC s s.heap.objs.size (bindL (envOfC j d s.heap.objs.size f D).kindOf (o.zip us) λ_=>none) (cellsFrom (s.heap.objs.size+1) d.names []) (bindC (envOfC j d s.heap.objs.size f D).kindOf (o.zip us) λ_=>none) J) :
  Inv (Wy I P w K mg base N j d f D A g s H E) [] (Bm N vs) H J:=by
 have Q:o.length<=N.length:=by have:=congrArg List.length S.pre;rw[AW]at this;lia
 obtain⟨F,X,rfl,L⟩:=x.done;have t:∀b:A2,b∉(Wy I P w K mg base N j d f D A g s H E).ex:=λb z=>absurd (show b∈([]:A1 A2)from z) (by simp);refine⟨⟨m.mod,S.kind,rfl,rfl,Nat.le_refl _,λy z c F l=>?_,λy hy=>?_,λy c _ h=>?_,λ_=>O,Around.frames_deeper m.frames,.inr ⟨rfl,rfl⟩,λb z=>absurd z (t b),m.bs,m.bsz,λb _ _=>t b,λb z=>absurd z (t b),m.funs,m.frf⟩,
  rfl,m.bare,Un.kept L,⟨_,x.toInCall.ns,λi y v F l Y=>?_⟩,λy c h=>⟨_,x.cell y c h⟩,m.hok.fresh (Nat.le_refl _),λy c h=>?_,λp B=>absurd (show p∈([]:A1 (A2×Obj))from B) (by simp),m.hok.kept L,?_⟩
 .exact name_of_addr x.apart (PySem.mem_of_lookup F) (PySem.mem_of_lookup l)
 .have hy:d.names.lookup y=some .cell\/d.names.lookup y=some .free:=hy;rcases hy with hy | hy
  .exact Mx hy
  .exact absurd rfl (S.nofree _ (PySem.mem_of_lookup hy))
 .exact DT (x.above y c (PySem.mem_of_lookup h))
 .have G:i<vs.length:=by
   unfold Bm at l;by_cases G:i<vs.length
   .exact G
   .rw[CY (by simpa using G)]at l;rw[List.getElem?_replicate]at l;split at l<;>cases l
  have R:vs[i]?=some v:=by
   unfold Bm at l;rw[DA (by simpa using G),AH]at l;cases e:vs[i]? with
   | none=>rw[e]at l;cases l
   | some a=>rw[e]at l;cases l;rfl
  obtain⟨u,M,T⟩:=r.get R;have B:o[i]?=some y:=by
   rw[<-S.pre,DK (by lia)];exact F
  have C:o.Nodup:=by rw[<-S.pre];exact S.nd.sublist (EN _ _)
  refine⟨u,T,?_⟩;rcases S.par y (AM B)with k | k
  .exact .inl ⟨k,Ho C B M k⟩
  .obtain⟨c,e⟩:=Mx (n:=s.heap.objs.size+1) k;refine .inr ⟨.inl k,c,e,?_⟩;have q:=x.cell y c e;rw[Jf C B M (by show d.names.lookup y≠_;rw[k];decide)]at q;exact q
 .exact m.hok.fresh (DT (x.above y c (PySem.mem_of_lookup h)))
 .unfold Bm;show _=N.length;rw[AU,AA,List.length_replicate];lia
def zEi{F:R_}{P:A7}{w:F8}{K:PySem.W.Frag}{mg:Str->A5 A3}{base:IJ}{k:Nat}{f:A2}{name d:Str}{h:Arguments}{i:A1 IV}{a:JN}{X kV p Y g ct oc:A3}{Z od:A5 A2}
  {L:CM (A5 A3)} {N G:A1 Str} {sp:Sp} (lk:K.lookup f=some ⟨oc,od,.func (PySem.W.fnOf name d h i a X kV p Y Z g ct),L⟩) (M:PySem.W.codeIn K g d=true) (S:II N G a)
  (z:∀vs H Q E,sp vs H Q E->vs.length=G.length)
  (j:∀(A:IM) (c:A1 QW) (s:A4) (H:Hp) (vs:A1 V) (Q:VK) (E:XK),JQ k (A.deeper (envOfC d a s.heap.objs.size f g))->sp vs H Q E ->
   ∃t,QV (Wy F P w K mg base N d a f g A c s H E) i t/\t { nx:=λ_ H'=>Q .non H',rt:=Q } (Bm N vs) H) :
  IK P w K mg base F (k+1) f (PySem.W.fnOf name d h i a X kV p Y Z g ct) G sp:=by
 refine⟨z,λA c s H args us vs Q E O B hb r C=>?_⟩;have hl:=z _ _ _ _ C;have KX:K.In s.heap:=B.mod.kin.keeps λb o e=>(B.bs b o e).1;have R:s.heap.NoLimit:=B.mod.nolimit.keeps λb o e=>(B.bs b o e).1;have l:∀y∈G.zip us,a.names.lookup y.1=some .local\/(a.names.lookup y.1=some .cell/\((cellsFrom (s.heap.objs.size+1) a.names []).lookup y.1).isSome=true):=λ⟨n,v⟩ hy=>by
  rcases S.par n (FT hy).1 with q | q
  .exact .inl q
  .exact .inr ⟨q,PySem.W.cellsFrom_some _ _ _ (.inl q)⟩
 refine codeAny_call_function O.depth (KX _ _ lk) rfl S.co S.gen rfl (PySem.W.codeRec_of KX M) (hb _ _ _ _ ?_);refine wpAny_newFunctionEnv_cells S.kind l λenv he s1 x=>?_;subst he;refine⟨R.keeps x.toInCall.keep,codeAny_func ?_⟩;obtain⟨t,ht,hq⟩:=j A c s H vs Q E (O.deeper _) C;have I:Inv (Wy F P w K mg base N d a f g A c s H E) [] (Bm N vs) H s1:=Ue S O.hd B hl r x;refine CI (ht [] s1 (Bm N vs) H _ I hq) (λfl T m=>?_) λe T m=>m;have D:∀{σ':St} {H':Hp} {v:V} {u:A3},Inv (Wy F P w K mg base N d a f g A c s H E) [] σ' H' T->RelV v u->Q v H'->CE c P w H s Q u T :=
  fun{σ' H' v u} J U q=>⟨v,H',J.os,J.bare,J.base,J.hok,U,q⟩
 cases fl with
 | ret u =>
  obtain⟨v,σ',H',J,U,q⟩:=m;exact D J U q
 | next =>
  obtain⟨σ',H',J,q⟩:=m;exact D (v:=V.non) (u:=Value.none) J rfl q
 | brk =>
  obtain⟨_,_,_,q⟩:=m;exact False.elim q
 | cont =>
  obtain⟨_,_,_,q⟩:=m;exact False.elim q
section
variable{X:Cx}{x:Str}{p pos:Pos}{e:IL}{es:A1 IL}{t:TA}{id T:String}{r:A1 V->Hp->VK->Prop}
def UJ(r:A1 V->Hp->VK->Prop)(t:TA):TE:=λσ H Q=>t σ H λa b=>r a b Q
theorem Wh(d:K1 X (.builtin id) r)(f:Gl X x)(g:X.mg x=none)(i:bootBuiltins x=some (.builtin id))(j:PA X (e::es) t)(k:x≠ "__name__":=by decide)(b:(x ==("__debug__":Str))=false:=by decide)
  (l:starEach (e::es) X.env =(false,eval e X.env)::starEach es X.env:=by rfl) (c:(backTo pos (starEach es X.env)).any (·.1)=false:=by rfl):PE X (.Call (.Name x p) (e::es) [] pos) (UJ r t):=by
 intro a s σ H Q I h;refine EH (W2 I f g i ?_ k b);exact PyProof.Rows.callWith_builtin1 (JA (j pos a s σ H _ I h) λm n ⟨o,q,u,v,w⟩=>d a n σ q o m Q u v w) l c
theorem Ry(d:K1 X (.type T) r)(f:Gl X x)(g:X.mg x=none)(i:bootBuiltins x=some (.type T))(j:PA X (e::es) t)(k:x≠ "__name__":=by decide)(b:(x ==("__debug__":Str))=false:=by decide)
  (l:starEach (e::es) X.env =(false,eval e X.env)::starEach es X.env:=by rfl) (c:(backTo pos (starEach es X.env)).any (·.1)=false:=by rfl):PE X (.Call (.Name x p) (e::es) [] pos) (UJ r t):=by
 intro a s σ H Q I h;refine EH (W2 I f g i ?_ k b);exact PyProof.Rows.callWith_type1 (JA (j pos a s σ H _ I h) λm n ⟨o,q,u,v,w⟩=>d a n σ q o m Q u v w) l c
theorem Dr(c:K1 X (.type T) r)(d:Gl X x)(e:X.mg x=none)(f:bootBuiltins x=some (.type T))(g:x≠ "__name__":=by decide)(b:(x ==("__debug__":Str))=false:=by decide) :
  PE X (.Call (.Name x p) [] [] pos) (UJ r TD):=by
 intro a s σ H Q I h;refine EH (W2 I d e f ?_ g b);exact PyProof.Rows.callWith_type0 (c a s σ H [] [] Q I .nil h)
end
end L2
namespace HT
open PySem PyProof.Rows
def lexLt:A1 Int->A1 Int->Bool
 | [],[]=>false
 | [],_::_=>true
 | _::_,[]=>false
 | x::a,y::b=>if x=y then lexLt a b else decide (x<y)
def Pa(x y:Int)(xs a:A1 Int):lexLt (x::xs) (y::a)=if x=y then lexLt xs a else decide (x<y):=rfl
def Fm:lexLt [] []=false:=rfl
def Dc(y:Int)(a:A1 Int):lexLt [] (y::a)=true:=rfl
def Dh(x:Int)(xs:A1 Int):lexLt (x::xs) []=false:=rfl
def Xb(A:IM)(s:A4)(a:Int)(t:Tok)(c:Int)(u:Tok):∃e,SeqAt.EqAt A s (.int a t) (.int c u) e/\(e=true↔a=c) :=
 ⟨(a == c),SeqAt.EqAt.int_int a t c u,by simp⟩
def Vk(A:IM)(s:A4)(a:Int)(t:Tok)(c:Int)(u:Tok)(prog:A7)(w:F8)(E:A3->A4->Prop)(Q:A3->A4->Prop)(h:Q (.bool (decide (a<c))) s) :
  wpAny (model prog w) A (richCompare .Lt (.int a t) (.int c u)) Q E s :=
 (PyProof.Rows.lt_int h:wpAny (model prog w) A (compareOp .Lt (.int a t) (.int c u)) Q E s)
section
open PySem.SeqAt
open PySem.AutoSeq1 (wpAny_loadPart')
open PySem.MeetsSeq PySem.MeetsSeq2 PySem.MeetsSeq3
def Eo(l b:A2)(i f:CM A3)(n U:Nat)(V M:A5 A2)(W N:CM (A5 A3))(ns H:A1 Int)(hi:IntsAre i.toList ns)(S:IntsAre f.toList H) :
  Meets (Builtin.«tuple.__lt__» ⟨[.ref l,.ref b],[]⟩)
   (λ_ R s=>s.heap.get? l=some { cls:=.type "tuple",dict:=V,data:=.seq i n,slots:=W }/\s.heap.get? b=some { cls:=.type "tuple",dict:=M,data:=.seq f U,slots:=N } /\
    R (.ok (.ret (.bool (lexLt ns H)))) s) :=
 .of_wp λr w A R s h=>by
  obtain⟨I,g,d,J,os⟩:=s;obtain⟨X,Y,h⟩:=h;have f2:=AutoSeq1.sub_tuple_tuple;have z1:i.size=ns.length:=by rw[<-hi.length];simp
  have z2:f.size=H.length:=by rw[<-S.length];simp
  wp_walk using CN X,CN Y,wpAny_forIn_list _ (λv b O=>b.1=none/\O =⟨I,g,d,J,os⟩/\∃(K L:A1 A3) (k m:A1 Int),v=K.zip L /\
   IntsAre K k/\IntsAre L m/\k.length+f.size=m.length+i.size/\R (.ok (.ret (.bool (lexLt k m)))) ⟨I,g,d,J,os⟩) _
  case turn =>
   rintro⟨y,x⟩ v b O ⟨C,rfl,K,L,k,m,o,D,p,j,z⟩;cases D with
   | nil=>rw[List.zip_nil_left]at o;cases o
   | cons a t F =>
    cases p with
    | nil=>rw[List.zip_nil_right]at o;cases o
    | cons c u G =>
     rw[GJ]at o;injection o with P E;injection P with Z hx;subst Z hx;rw[Pa]at z;simp only[BO]at j;obtain⟨e,he,B⟩:=Xb A.in1 ⟨I,g,d,J,os⟩ a t c u;refine AB (he r w _ _ ?_);cases e with
     | true =>
      rw[AO (B.mp rfl)]at z;wp_walk;exact⟨rfl,rfl,_,_,_,_,E,F,G,by lia,z⟩
     | false =>
      rw[AN (λq=>absurd (B.mpr q) BD)]at z;have Q:=Vk A.in1 ⟨I,g,d,J,os⟩ a t c u r w;wp_walk using Q;exact⟨_,rfl,by simpa using z⟩
  case fin =>
   rintro⟨b1,b2⟩ O ⟨C,rfl,K,L,k,m,o,D,p,j,z⟩;simp only at C;subst C;have T:lexLt k m=decide (i.size<f.size):=by
    cases D with
    | nil =>
     cases p with
     | nil =>
      simp only[FE]at j;rw[Fm];exact(BC (by lia)).symm
     | cons c u hw =>
      simp only[FE,BO]at j;rw[Dc];exact(AX (by lia)).symm
    | cons a t T =>
     cases p with
     | nil =>
      simp only[FE,BO]at j;rw[Dh];exact(BC (by lia)).symm
     | cons c u hw =>
      rw[GJ]at o;cases o
   rw[T]at z;wp_walk;exact⟨_,rfl,by simpa [Builtin.Tuple.tupleCompareSizes] using z⟩
  case h =>
   exact⟨rfl,rfl,i.toList,f.toList,ns,H,rfl,hi,S,by lia,h⟩
end
section
variable{prog:A7}{w:F8}{A:IM}{E:A3->A4->Prop}{s:A4}
theorem QX{l b:A2}{c a:CM A3}{ns d:A1 Int}{Q:A3->A4->Prop}(r:IsTup s.heap l c)(t:IsTup s.heap b a)(hi:IntsAre c.toList ns)(u:IntsAre a.toList d)
  (v:A.units<cLine) (h:Q (.bool (lexLt ns d)) s):wpAny (model prog w) A (compareOp .Lt (.ref l) (.ref b)) Q E s:=by
 obtain⟨⟨y,z,k,B⟩,m,o,n,p⟩:=id r;obtain⟨⟨q,i,data2,j⟩,e,f,C,g⟩:=id t;simp only at o p f g;subst o p f g;exact richCompare_meets_room (op:=.Lt) ⟨_,m,rfl⟩ ⟨_,e,rfl⟩ PySem.F.slot_tuple_lt PySem.F.entry_tuple_lt (PySem.F.args_tuple_lt_2 _ _) (Eo l b c a n C z i B j ns d hi u)
  ⟨m,e,show Value.bool (lexLt ns d)≠Value.notImplemented/\Q (.bool (lexLt ns d)) s from⟨(λx=>nomatch x),h⟩⟩ v
theorem SO{t b:A2}{vs a:A1 A3}{Q:A3->A4->Prop}(u:IsTup s.heap t vs.toArray)(v:IsTup s.heap b a.toArray)(k:vs≠[])
  (h1:a = []->Q (.ref t) s) (h2:a≠[]->Q (.ref s.heap.objs.size) { s with heap:=s.heap.push { cls:=.type "tuple",data:=.seq (vs++a).toArray } })
  (hsz:vs.length+a.length<=sizeLine):wpAny (model prog w) A (binaryOp .Add (.ref t) (.ref b)) Q E s:=by
 obtain⟨⟨cls,l,data,m⟩,i,o,n,p⟩:=id u;obtain⟨⟨q,d,data2,f⟩,c,g,r,h⟩:=id v;simp only at o p g h;subst o p g h;have e:vs.toArray++a.toArray =(vs++a).toArray:=by simp
 by_cases j:a = []
 .exact concat_meets ⟨_,i,rfl⟩ ⟨_,c,rfl⟩ noFill_tuple_add seq_tuple_add PySem.F.slot_tuple_add PySem.F.entry_tuple_add (PySem.F.args_tuple_add_2 _ _)
   (tuple_addW1 t b vs.toArray a.toArray n r l d m f (by simpa using k) (by simp[j])) ⟨i,c,h1 j⟩
 .refine concat_meets ⟨_,i,rfl⟩ ⟨_,c,rfl⟩ noFill_tuple_add seq_tuple_add PySem.F.slot_tuple_add PySem.F.entry_tuple_add (PySem.F.args_tuple_add_2 _ _)
   (tuple_addW2 t b vs.toArray a.toArray n r l d m f (by simpa using k) (by simpa using j) (by rw[AQ,AQ];exact hsz)) ⟨i,c,?_⟩
  rw[e];exact h2 j
def QH(n d:Nat):A5 Int->Nat
 | none=>d
 | some v=>if v<0 then(v +(n:Int)).toNat else min v.toNat n
theorem RP(n d:Nat):QH n d none=d:=rfl
theorem SH(n d k:Nat):QH n d (some (k:Int))=min k n:=by
 show(if(k:Int)<0 then((k:Int) +(n:Int)).toNat else min (k:Int).toNat n)=min k n;rw[AN (by lia),HW]
end
end HT
namespace L2
open PySem PySem.Spec PyProof.Rows
abbrev TO:=St->Hp->(A5 Int->Hp->Prop)->Prop
def PO(X:Cx)(e:A5 IL)(t:TO):Prop :=
 ∀(a:A1 (A2×Obj)) (s:A4) (σ:St) (H:Hp) (Q:A5 Int->Hp->Prop),Inv X a σ H s->t σ H Q ->
  wpAny (model X.prog X.w) X.A (evalPart e X.env) (λu c=>∃o b,Inv X a σ b c/\IsPart u o/\Q o b) X.xe s
def zAg:TO:=λ_ H Q=>Q none H
def zHs(t:TE):TO:=λσ H Q=>t σ H λx a=>∃i,x = .int i/\Q (some i) a
def r9{ns:A1 Int}:∀{us:A1 A3},IR (ns.map V.int) us->IntsAre us ns:=by
 induction ns with
 | nil=>intro us r;rw[List.map_nil]at r;cases r;exact .nil
 | cons n ns a =>
  intro us r;rw[BB]at r;cases r with
  | cons b c =>
   obtain⟨t,e⟩:=b;subst e;exact .cons n t (a c)
section
variable{X:Cx}{e:IL}{te:TE}{lo hi:A5 IL}{tl th:TO}{pos p2:Pos}
theorem Z8:PO X none zAg:=by
 intro a s σ H Q I h;rw[evalPart_none];exact AG ⟨none,H,I,.none,h⟩
theorem d6(h:PE X e te):PO X (some e) (zHs te):=by
 intro a s σ H Q I b;rw[evalPart_some];refine JA (h a s σ H _ I b) λu j ⟨x,c,d,f,g⟩=>?_;obtain⟨i,rfl,q⟩:=g;obtain⟨t,rfl⟩:=f;exact⟨some i,c,d,.int i t,q⟩
def SlR(X:Cx)(r:V->A5 Int->A5 Int->Hp->VK->Prop):Prop :=
 ∀(a:A1 (A2×Obj)) (s:A4) (σ:St) (H:Hp) (x:V) (v b c:A3) (lo hi:A5 Int) (d:A2) (Q:VK),Inv X a σ H s->RelV x v->s.heap.IsSliceOf d b c .none->IsPart b lo->IsPart c hi->r x lo hi H Q ->
  ∃T id,typeLookup (.type T) "__getitem__" = pure (some (.builtin id))/\s.TypeIs v T/\wpAny (model X.prog X.w) X.A (getItem v (.ref d)) (EP X a σ Q) X.xe s
def tSl(r:V->A5 Int->A5 Int->Hp->VK->Prop)(te:TE)(tl th:TO):TE:=λσ H Q=>te σ H λx a=>tl σ a λl b=>th σ b λu c=>r x l u c Q
theorem Bb{r:V->A5 Int->A5 Int->Hp->VK->Prop}(f:SlR X r)(g:PE X e te)(i:PO X lo tl)(j:PO X hi th):PE X (.Subscript e (.Slice lo hi none p2) pos) (tSl r te tl th):=by
 intro a s σ H Q I h;refine Subscript_ (JA (g a s σ H _ I h) λv k ⟨x,m,n,o,p⟩=>?_);refine wpAny_Slice (JA (i a k σ m _ n p) λc t ⟨l,y,z,B,C⟩=>JA (j a t σ y _ z C) λvu s3 ⟨u,d,D,E,F⟩=>?_);rw[evalPart_none];refine AG ?_;have G:Inv X a σ d { s3 with heap:=s3.heap.push { cls:=.type "slice",data:=.fields #[c,vu,.none] } }:=D.kept (t':=s3.toks) λb M q=>AE _ q;obtain⟨T,id,J,K,L⟩:=f a { s3 with heap:=s3.heap.push { cls:=.type "slice",data:=.fields #[c,vu,.none] } } σ d x v c vu l u s3.heap.objs.size Q G o (Heap.IsSliceOf.new ..) B E F;show wpAny (model X.prog X.w) X.A (subscriptTail e (.Slice lo hi none p2) v (.ref s3.heap.objs.size)) (EP X a σ Q) X.xe { s3 with heap:=s3.heap.push { cls:=.type "slice",data:=.fields #[c,vu,.none] } };exact tail_any (ops:=[.ref s3.heap.objs.size,v]) K J L (by with_unfolding_all rfl)
def Je(xs:A1 V)(lo hi:A5 Int):A1 V:=(xs.drop (HT.QH xs.length 0 lo)).take (HT.QH xs.length xs.length hi-HT.QH xs.length 0 lo)
theorem Jt(xs:A1 V)(lo hi:A5 Int):(Je xs lo hi).length<=xs.length:=by
 unfold Je;rw[AW,DD];lia
def zJb(K:PySem.W.Frag):R2:=λx y H Q=>∃a b c d,x = .ref a/\y = .ref b/\JH K H a (c.map V.int)/\JH K H b (d.map V.int)/\Q (.bl (HT.lexLt c d)) H
theorem zCr(i:X.A.units<cLine):LD X (compareOp .Lt) (zJb X.K):=by
 intro e s σ H x y v u Q I j k h;obtain⟨a,b,f,g,rfl,rfl,l,m,q⟩:=h;cases j;cases k;obtain⟨d,n,o,_⟩:=I.tuple l;obtain⟨c,p,p2,_⟩:=I.tuple m;have r:IntsAre d.toArray.toList f:=r9 n;have t:IntsAre c.toArray.toList g:=r9 p;exact HT.QX o p2 r t i ⟨.bl (HT.lexLt f g),H,I,rfl,q⟩
def zHp(K:PySem.W.Frag):R2:=λx y H Q=>∃a b d c,x = .ref a/\y = .ref b/\JH K H a d/\JH K H b c/\d≠[]/\d.length+c.length<=sizeLine /\
 (c = []->Q (.ref a) H)/\(c≠[]->∀p,H p=none->Q (.ref p) (IH H p (.tup (d++c))))
theorem IR.nil_iff{xs:A1 V}{us:A1 A3}(r:IR xs us):us = []↔xs = []:=by
 cases r with
 | nil=>simp
 | cons _ _=>simp
theorem zBk:LD X (binaryOp .Add) (zHp X.K):=by
 intro e s σ H x y v u Q I i j h;obtain⟨a,b,k,l,rfl,rfl,m,n,p,f,r,t⟩:=h;cases i;cases j;obtain⟨A,d,B,_⟩:=I.tuple m;obtain⟨g,c,p2,_⟩:=I.tuple n;refine HT.SO B p2 (λz=>p (d.nil_iff.mp z)) (λz=>⟨.ref a,H,I,rfl,r (c.nil_iff.mp z)⟩) (λz=>?_) (by rw[<-d.length,<-c.length];exact f);refine⟨.ref s.heap.objs.size,_,I.laid (t':=s.toks) (o:=.tup (k++l)) (λb C q=>AE _ q) (Nat.le_refl _) ?_,rfl,t (λw=>z (c.nil_iff.mpr w)) _ (I.hok.fresh (Nat.le_refl _))⟩;exact⟨by rw[AU];exact f,_,d.append c,IsTup.new _ _⟩
end
def SM(n:Nat)(i:Int):A5 Nat:=if 0<=i then(if i<n then some i.toNat else none)else if -(n:Int)<=i then some (i+n).toNat else none
def QU{α:Type}(xs:A1 α)(i:Int):A5 α:=(SM xs.length i).bind λj=>xs[j]?
def Qa{n:Nat}{i:Int}{j:Nat}(h:SM n i=some j):seqIndex? i n=some j/\j<n/\-(n:Int)<=i/\i<n:=by
 unfold SM at h;by_cases b:0<=i
 .rw[AO b]at h;by_cases a:i<n
  .rw[AO a]at h;have e:i.toNat=j:=BN h;exact⟨by rw[seqIndex_of b a,e],by lia,by lia,a⟩
  .rw[AN a]at h;cases h
 .rw[AN b]at h;by_cases a:-(n:Int)<=i
  .rw[AO a]at h;have e:(i+n).toNat=j:=BN h;exact⟨by rw[seqIndex_neg (by lia) a,e],by lia,a,by lia⟩
  .rw[AN a]at h;cases h
def Qo{α:Type}{xs:A1 α}{i:Int}{v:α}(h:QU xs i=some v):∃j,seqIndex? i xs.length=some j/\xs[j]?=some v/\j<xs.length/\-(xs.length:Int)<=i/\i<xs.length:=by
 unfold QU at h;cases e:SM xs.length i with
 | none=>rw[e]at h;cases h
 | some j =>
  rw[e]at h;obtain⟨a,b,c,d⟩:=Qa e;exact⟨j,a,h,b,c,d⟩
def E9{α:Type}{xs:A1 α}{j:Nat}{v:α}(h:xs[j]?=some v):QU xs (j:Int)=some v:=by
 have a:j<xs.length:=(AF.mp h).1;have e:SM xs.length (j:Int)=some j:=by
  unfold SM;rw[AO (by lia),AO (by lia)];simp
 unfold QU;rw[e];exact h
def Wd{α:Type}(xs:A1 α)(v:α):QU (xs ++ [v]) (-1)=some v:=by
 have a:(xs ++ [v]).length=xs.length+1:=by simp
 have e:SM (xs ++ [v]).length (-1)=some xs.length:=by
  unfold SM;rw[a,AN (by decide),AO (by lia)];congr 1;lia
 unfold QU;rw[e];show(xs ++ [v])[xs.length]?=some v;simp
def Zt(b:IL):Prop:=∀o i,subscripted b false o i=operate [o,i] (getItem o i)
def US(X:Cx)(r:R2):Prop :=
 ∀(c a:IL) (b:A1 (A2×Obj)) (s:A4) (σ:St) (H:Hp) (x y:V) (v u:A3) (Q:VK),Inv X b σ H s->RelV x v->RelV y u->r x y H Q ->
  subscripted a false v u=operate [v,u] (getItem v u)->wpAny (model X.prog X.w) X.A (subscriptTail c a v u) (EP X b σ Q) X.xe s
def MtR(X:Cx)(id:String)(r:V->A1 V->Hp->VK->Prop):Prop :=
 ∀(a:A1 (A2×Obj)) (s:A4) (σ:St) (H:Hp) (x:V) (b:A1 V) (v:A3) (c:A1 A3) (Q:VK),Inv X a σ H s->RelV x v->IR b c->r x b H Q ->
  wpAny (model X.prog X.w) X.A (call (.builtin id) (v::c)) (EP X a σ Q) X.xe s
section
variable{X:Cx}{a b:IL}{ta tb:TE}{pos:Pos}
theorem M9{r:R2}(d:US X r)(e:PE X a ta)(f:PE X b tb)(g:Zt b):PE X (.Subscript a b pos) (tOp r ta tb):=by
 intro c s σ H Q I h;exact Subscript_ (zHa e f I h λv u i x y j k l m q=>d a b c i σ j x y v u Q k l m q (g _ _))
def zIl(K:PySem.W.Frag):R2:=λx y H Q=>∃p a i v,x = .ref p/\y = .int i/\IQ K H p a/\QU a i=some v/\Q v H
def zIj(K:PySem.W.Frag):R2:=λx y H Q=>∃p a i v,x = .ref p/\y = .int i/\JH K H p a/\QU a i=some v/\Q v H
theorem zAc:US X (zIl X.K):=by
 intro d e a s σ H x y v u Q I A B h m;obtain⟨p,M,i,z,rfl,rfl,C,D,q⟩:=h;cases A;obtain⟨t,rfl⟩:=B;obtain⟨f,r,g,N⟩:=I.list C;obtain⟨j,c,E,O,F,G⟩:=Qo D;obtain⟨w,n,k⟩:=r.get E;have J:=r.length;have P:=Dk;have b:EP X a σ Q w s:=⟨z,H,I,k,q⟩;by_cases o:0<=i
 .have l:i.toNat=j:=by
   rw[seqIndex_of o G]at c;exact BN c
  exact item_listR g.isList o (by lia) (by rw[l];simpa using n) b m
 .have l:(i +(f.toArray.size:Int)).toNat=j:=by
   rw[seqIndex_neg (by lia) F]at c;rw[AQ,<-J];exact BN c
  exact subscriptTail_builtinR (x:=w) g.isList.typeIs slot_list_getitem.lookup
   (wpAny_getItem_list_neg (Q:=λr L=>r=w/\EP X a σ Q r L) g.isList (by lia) (by rw[AQ]<;>lia) (by lia) (by rw[l];simpa using n) ⟨rfl,b⟩) m
theorem zEb:US X (zIj X.K):=by
 intro b c a s σ H x y v u Q I g k h l;obtain⟨p,F,i,z,rfl,rfl,m,n,q⟩:=h;cases g;obtain⟨t,rfl⟩:=k;obtain⟨o,r,f,G⟩:=I.tuple m;obtain⟨j,A,B,J,L,M⟩:=Qo n;obtain⟨w,C,d⟩:=r.get B;have D:=r.length;have N:=Dk;have e:EP X a σ Q w s:=⟨z,H,I,d,q⟩;exact subscriptTail_builtinR (x:=w) f.typeIs slot_tuple_getitem.lookup
  (getItem_tuple (j:=j) (Q:=λr E=>r=w/\EP X a σ Q r E) f (by lia) (by lia) (by rw[AQ,<-D];exact A) (by simpa using C) ⟨rfl,e⟩) l
theorem Oq(its:A1 A3)(n j:Nat)(u:A3):Obj.mapSeq (·.setIfInBounds j u) { cls:=.type "list",data:=.seq its.toArray n } ={ cls:=.type "list",data:=.seq (its.set j u).toArray n }:=by
 simp[Obj.mapSeq]
theorem Inv.lst{a:A1 (A2×Obj)}{σ:St}{H:Hp}{s:A4}{p:A2}{xs:A1 V}(I:Inv X a σ H s)(h:H p=some (.lst xs)) :
  ∃(its:A1 A3) (n:Nat),IR xs its/\s.heap.get? p=some { cls:=.type "list",data:=.seq its.toArray n }/\xs.length<=sizeLine:=by
 obtain⟨z,its,n,r,e⟩:=I.hok p _ h;exact⟨its,n,r,e,z⟩
theorem Inv.lstUpd{a:A1 (A2×Obj)}{σ:St}{H:Hp}{s:A4}{p:A2}{xs c:A1 V}{its its':A1 A3}{n d:Nat}{f:Obj->Obj}(I:Inv X a σ H s)(h:H p=some (.lst xs))
  (i:s.heap.get? p=some { cls:=.type "list",data:=.seq its.toArray n }) (g:f { cls:=.type "list",data:=.seq its.toArray n } ={ cls:=.type "list",data:=.seq its'.toArray d }) (r:IR c its') (hz:c.length<=sizeLine) (t:Nat) :
  Inv X a σ (IH H p (.lst c)) { s with heap:=s.heap.update p f,toks:=t }:=by
 have e:(s.heap.update p f).get? p=some { cls:=.type "list",data:=.seq its'.toArray d }:=by
  rw[EC f i (by rw[g]<;>rfl),g]
 refine I.write (x:=p) (e:=p) (by rw[h];trivial) (.inl rfl) (λb u j q=>(CO _ _ (Ne.symm j)).trans q) ⟨_,e⟩ ?_;exact⟨hz,its',d,r,e⟩
def zHv:V->V->V->Hp->(Hp->Prop)->Prop:=λo i v H Q=>∃p a k j,o = .ref p/\i = .int k/\H p=some (.lst a)/\SM a.length k=some j/\Q (IH H p (.lst (a.set j v)))
theorem Na:zIh X zHv:=by
 intro a s σ H o i v E F u Q I y z A h;obtain⟨p,B,k,j,rfl,rfl,g,C,q⟩:=h;cases y;obtain⟨t,rfl⟩:=z;obtain⟨b,n,r,d,D⟩:=I.lst g;obtain⟨c,G,l,m⟩:=Qa C;have e:=r.length;have J:=Dk;have w:Inv X a σ (IH H p (.lst (B.set j v))) { s with heap:=s.heap.update p (Obj.mapSeq (·.setIfInBounds j u)) } :=
  I.lstUpd g d (Oq b n j u) (r.set A j) (by rw[List.length_set];exact D) s.toks
 by_cases x:0<=k
 .have f:k.toNat=j:=by
   rw[seqIndex_of x m]at c;exact BN c
  exact PySem.W.ki_setAt d x (by lia) (by rw[AQ,<-e];exact m) (by rw[f];exact⟨_,w,q⟩)
 .have f:(k +(b.toArray.size:Int)).toNat=j:=by
   rw[seqIndex_neg (by lia) l]at c;rw[AQ,<-e];exact BN c
  exact PySem.W.ki_setBack d (by lia) (by rw[AQ,<-e];exact l) (by lia) (by rw[f];exact⟨_,w,q⟩)
theorem Io(lo hi:A5 Int)(n:Nat):(sliceBounds lo hi none n).1 =((HT.QH n 0 lo:Nat):Int)/\(sliceBounds lo hi none n).2.1 =((HT.QH n n hi:Nat):Int)/\(sliceBounds lo hi none n).2.2=1:=by
 refine⟨?_,?_,rfl⟩
 .cases lo with
  | none=>simp[sliceBounds,HT.QH]
  | some i =>
   simp only[sliceBounds,HT.QH,Option.getD_none,show(1:Int)>0 by decide,FC];by_cases h:i<0
   .simp only[h,FC]<;>lia
   .simp only[h,CP]<;>lia
 .cases hi with
  | none=>simp[sliceBounds,HT.QH]
  | some i =>
   simp only[sliceBounds,HT.QH,Option.getD_none,show(1:Int)>0 by decide,FC];by_cases h:i<0
   .simp only[h,FC]<;>lia
   .simp only[h,CP]<;>lia
theorem El(its:A1 A3)(lo hi:A5 Int):slicePick its.toArray lo hi none =((its.drop (HT.QH its.length 0 lo)).take (HT.QH its.length its.length hi-HT.QH its.length 0 lo)).toArray:=by
 obtain⟨a,b,c⟩:=Io lo hi its.toArray.size;unfold slicePick;rw[a,b,c];simp only[sliceRange_one,pick_run,AQ]<;>rfl
def zIc(K:PySem.W.Frag):V->A5 Int->A5 Int->Hp->VK->Prop:=λx lo c H Q=>∃a b,x = .ref a/\IQ K H a b/\∀p,H p=none->Q (.ref p) (IH H p (.lst (Je b lo c)))
theorem Zo:SlR X (zIc X.K):=by
 intro f s σ H x v t u lo e w Q I i j k l h;obtain⟨a,c,rfl,m,q⟩:=h;cases i;obtain⟨n,r,g,p⟩:=I.list m;have d:=r.length;refine⟨"list",_,slot_list_getitem.lookup,g.isList.typeIs,?_⟩;refine wpAny_getItem_list_slice g.isList j k l .none (by simp) ?_ (by rw[AQ]<;>lia);rw[El,<-d];refine⟨.ref s.heap.objs.size,_,I.laid (t':=s.toks) (o:=.lst (Je c lo e)) (λb y q=>AE _ q) (Nat.le_refl _) ?_,rfl,q _ (I.hok.fresh (Nat.le_refl _))⟩;exact⟨Nat.le_trans (Jt c lo e) p,_,0,(r.drop (HT.QH c.length 0 lo)).take (HT.QH c.length c.length e-HT.QH c.length 0 lo),AS _ rfl⟩
def Fe:V->Bool
 | .non=>true
 | .bl _=>true
 | .int _=>true
 | .str _=>true
 | _=>false
def SX:V->V->Bool
 | .non,.non=>true
 | .bl a,.bl b=>a == b
 | .bl a,.int b=>(if a then 1 else 0) == b
 | .int a,.bl b=>a ==(if b then 1 else 0)
 | .int a,.int b=>a == b
 | .str a,.str b=>a == b
 | _,_=>false
theorem zDh{A:IM}{s:A4}{y x:V}{u v:A3}(e:RelV y u)(c:RelV x v)(g:Fe y=true)(f:Fe x=true):SeqAt.EqAt A s u v (SX y x):=by
 cases y with
 | non =>
  cases e;cases x with
  | non=>cases c;exact SeqAt.EqAt.same _
  | bl b=>cases c;exact SeqAt.EqAt.none_bool b
  | int b=>obtain⟨t,rfl⟩:=c;exact SeqAt.EqAt.none_int b t
  | str b=>obtain⟨t,rfl⟩:=c;exact SeqAt.EqAt.none_str b t
  | _=>exact absurd (show false=true from f) BD
 | bl a =>
  cases e;cases x with
  | non=>cases c;exact SeqAt.EqAt.bool_none a
  | bl b=>cases c;exact SeqAt.EqAt.bool_bool a b
  | int b=>obtain⟨t,rfl⟩:=c;exact SeqAt.EqAt.bool_int a b t
  | str b=>obtain⟨t,rfl⟩:=c;exact SeqAt.EqAt.bool_str a b t
  | _=>exact absurd (show false=true from f) BD
 | int a =>
  obtain⟨d,rfl⟩:=e;cases x with
  | non=>cases c;exact SeqAt.EqAt.int_none a d
  | bl b=>cases c;exact SeqAt.EqAt.int_bool a d b
  | int b=>obtain⟨t,rfl⟩:=c;exact SeqAt.EqAt.int_int a d b t
  | str b=>obtain⟨t,rfl⟩:=c;exact SeqAt.EqAt.int_str a d b t
  | _=>exact absurd (show false=true from f) BD
 | str a =>
  obtain⟨d,rfl⟩:=e;cases x with
  | non=>cases c;exact SeqAt.EqAt.str_none a d
  | bl b=>cases c;exact SeqAt.EqAt.str_bool a d b
  | int b=>obtain⟨t,rfl⟩:=c;exact SeqAt.EqAt.str_int a d b t
  | str b=>obtain⟨t,rfl⟩:=c;exact SeqAt.EqAt.str_str a d b t
  | _=>exact absurd (show false=true from f) BD
 | _=>exact absurd (show false=true from g) BD
def QZ(x:V)(u:A3):Bool:=match u with
 | .none=>SX .non x
 | .bool b=>SX (.bl b) x
 | .int i _=>SX (.int i) x
 | .str z _=>SX (.str z) x
 | _=>false
theorem Ya{x y:V}{u:A3}(r:RelV y u)(f:Fe y=true):QZ x u=SX y x:=by
 cases y with
 | non=>cases r;rfl
 | bl b=>cases r;rfl
 | int i=>obtain⟨t,rfl⟩:=r;rfl
 | str z=>obtain⟨t,rfl⟩:=r;rfl
 | _=>exact absurd (show false=true from f) BD
theorem Ci{x:V}:∀{xs:A1 V} {us:A1 A3},IR xs us->xs.all Fe=true->us.any (QZ x)=xs.any λy=>SX y x
 | _,_,.nil,_=>rfl
 | y::xs,u::us,.cons r t,f=>by
  rw[List.all_cons,BT]at f;rw[GN,GN,Ya r f.1,Ci t f.2]
theorem m8{A:IM}{s:A4}{x:V}{v:A3}(a:RelV x v)(b:Fe x=true):∀{xs:A1 V} {us:A1 A3},IR xs us->xs.all Fe=true->∀u∈us,SeqAt.EqAt A s u v (QZ x u)
 | _,_,.nil,_=>λu hu=>by cases hu
 | y::xs,u::us,.cons r t,f=>λc hu=>by
  rw[List.all_cons,BT]at f;rcases AL.mp hu with rfl | hu
  .rw[Ya r f.1];exact zDh r a f.1 b
  .exact m8 a b t f.2 c hu
def inV(x:V)(xs:A1 V):Bool:=xs.any λy=>SX y x
def UA(K:PySem.W.Frag)(neg:Bool):R2:=λx y H Q=>∃p a,y = .ref p/\(IQ K H p a\/JH K H p a)/\Fe x=true/\a.all Fe=true/\Q (.bl (if neg then !inV x a else inV x a)) H
theorem Qd:LD X (compareOp .In) (UA X.K false):=by
 intro e s σ H x y v u Q I f i h;obtain⟨p,k,rfl,hq,g,b,q⟩:=h;cases i;rcases hq with hq | hq
 .obtain⟨a,r,c,j⟩:=I.list hq;refine SeqAt.in_listAt (QZ x) c.isList (λw d=>m8 f g r b w (by simpa using d)) ⟨.bl _,H,I,rfl,?_⟩;rw[show a.toArray.any (QZ x)=a.any (QZ x) by simp,Ci r b];exact q
 .obtain⟨a,r,c,j⟩:=I.tuple hq;refine SeqAt.in_tupleAt (QZ x) c (λw d=>m8 f g r b w (by simpa using d)) ⟨.bl _,H,I,rfl,?_⟩;rw[show a.toArray.any (QZ x)=a.any (QZ x) by simp,Ci r b];exact q
theorem Hw:LD X (compareOp .NotIn) (UA X.K true):=by
 intro e s σ H x y v u Q I f i h;obtain⟨p,k,rfl,hq,g,b,q⟩:=h;cases i;rcases hq with hq | hq
 .obtain⟨a,r,c,j⟩:=I.list hq;refine SeqAt.notIn_listAt (QZ x) c.isList (λw d=>m8 f g r b w (by simpa using d)) ⟨.bl _,H,I,rfl,?_⟩;rw[show a.toArray.any (QZ x)=a.any (QZ x) by simp,Ci r b];exact q
 .obtain⟨a,r,c,j⟩:=I.tuple hq;refine SeqAt.notIn_tupleAt (QZ x) c (λw d=>m8 f g r b w (by simpa using d)) ⟨.bl _,H,I,rfl,?_⟩;rw[show a.toArray.any (QZ x)=a.any (QZ x) by simp,Ci r b];exact q
theorem Iz:K1 X (.builtin "len") (λxs H Q=>∃p b,xs = [.ref p]/\(IQ X.K H p b\/JH X.K H p b)/\Q (.int b.length) H):=by
 intro f s σ H xs j Q I r h;obtain⟨p,b,rfl,hq,q⟩:=h;obtain⟨u,rfl,g⟩:=Y3 r;cases g;have k:=Dk;rcases hq with hq | hq
 .obtain⟨c,d,e,i⟩:=I.list hq;have a:=d.length;exact Calls.call_len_list e.isList (by simp only[AQ]<;>lia) ⟨.int b.length,H,I.tok _,⟨s.toks+1,by rw[AQ,a]⟩,q⟩
 .obtain⟨c,d,e,i⟩:=I.tuple hq;have a:=d.length;exact len_tuple e (by simp only[AQ]<;>lia) ⟨.int b.length,H,I.tok _,⟨s.toks+1,by rw[AQ,a]⟩,q⟩
theorem Hc:K1 X (.builtin "len") (λxs H Q=>∃z,xs = [.str z]/\z.length<=sizeLine/\Q (.int z.length) H):=by
 intro a s σ H xs b Q I r h;obtain⟨z,rfl,c,q⟩:=h;obtain⟨u,rfl,t,rfl⟩:=Y3 r;have d:=Dk;exact len_str (by lia) ⟨.int z.length,H,I.tok _,⟨_,rfl⟩,q⟩
theorem Gv:K1 X (.type "list") (λxs H Q=>∃p d,xs = [.ref p]/\(IQ X.K H p d\/JH X.K H p d)/\∀l,H l=none->Q (.ref l) (IH H l (.lst d))):=by
 intro i s σ H xs C Q I r h;obtain⟨p,d,rfl,hq,q⟩:=h;obtain⟨u,rfl,B⟩:=Y3 r;cases B;have j:∀(a:A1 A3),IR d a->d.length<=sizeLine->∀(c:IJ) (f:Nat),(∀b A,s.heap.get? b=some A->c.get? b=some A) ->
   c.get? s.heap.objs.size=some { cls:=.type "list",dict:=none,data:=.seq a.toArray f,slots:=#[] }->EP X i σ Q (.ref s.heap.objs.size) { s with heap:=c }:=λa g k c f m e =>
  ⟨.ref s.heap.objs.size,_,I.laid (t':=s.toks) m (Nat.le_refl _) (show IU X.prog X.w _ c _ (.lst d)from⟨k,a,f,g,e⟩),rfl,q _ (I.hok.fresh (Nat.le_refl _))⟩
 rcases hq with hq | hq
 .obtain⟨a,g,v,k⟩:=I.list hq;have t:=g.length;obtain⟨o,x,y,n,z⟩:=v.isList;exact call_list_seq p (.inl rfl) x y z (λc f m e=>j a g k c f m e) (by simp only[AQ]<;>lia)
 .obtain⟨a,g,v,k⟩:=I.tuple hq;have t:=g.length;obtain⟨o,x,y,n,z⟩:=v;exact call_list_seq p (.inr rfl) x y z (λc f m e=>j a g k c f m e) (by simp only[AQ]<;>lia)
theorem Eu:K1 X (.type "tuple") (λxs H Q=>∃p d,xs = [.ref p]/\((IQ X.K H p d/\∀l,H l=none->Q (.ref l) (IH H l (.tup d)))\/(JH X.K H p d/\Q (.ref p) H))):=by
 intro a s σ H xs y Q I r h;obtain⟨p,d,rfl,h⟩:=h;obtain⟨u,rfl,t⟩:=Y3 r;cases t;rcases h with⟨g,q⟩ | ⟨g,q⟩
 .obtain⟨c,i,j,k⟩:=I.list g;have m:=i.length;refine call_tuple_list j.isList (λf v=>?_) (by simp only[AQ]<;>lia);have n:Inv X a σ H { s with heap:=f }:=I.kept (t':=s.toks) v;have x:Inv X a σ (IH H f.objs.size (.tup d)) { s with heap:=f.push { cls:=.type "tuple",data:=.seq c.toArray } } :=
   n.laid (t':=s.toks) (λb o e=>AE _ e) (Nat.le_refl _) (show IU X.prog X.w _ _ _ (.tup d)from⟨k,c,i,IsTup.new _ _⟩)
  exact⟨.ref f.objs.size,_,x,rfl,q _ (n.hok.fresh (Nat.le_refl _))⟩
 .obtain⟨c,i,j,k⟩:=I.tuple g;exact call_tuple_same j ⟨.ref p,H,I,rfl,q⟩
def tyV(K:PySem.W.Frag)(T:String)(x:V)(H:Hp):Prop:=match x with
 | .str _=>T = "str"
 | .int _=>T = "int"
 | .ref p=>(T = "list"/\∃b,IQ K H p b)\/(T = "tuple"/\∃o,K.lookup p=some o/\o.cls = .type "tuple"/\o.dict=none) \/
   (T = "dict"/\((∃a,H p=some (.dK a))\/∃a,H p=some (.dT a)))\/(T = "set"/\∃S n,H p=some (.set S n))
 | _=>False
theorem zFo{f:A1 (A2×Obj)}{σ:St}{H:Hp}{s:A4}{T:String}{x:V}{v:A3}(I:Inv X f σ H s)(r:RelV x v)(ty:tyV X.K T x H) :
  s.TypeIs v T/\∀a,v = .ref a->∃k,s.heap.get? a=some k/\k.dict=none:=by
 cases x with
 | str z =>
  obtain⟨t,rfl⟩:=r;cases(show T = "str" from ty);exact⟨typeIs_str s z t,λ_ e=>nomatch e⟩
 | int i =>
  obtain⟨t,rfl⟩:=r;cases(show T = "int" from ty);exact⟨typeIs_int s i t,λ_ e=>nomatch e⟩
 | ref p =>
  cases r;rcases ty with⟨rfl,w,m⟩ | ⟨rfl,o,b,q,g⟩ | ⟨rfl,b⟩ | ⟨rfl,S,n,b⟩
  .obtain⟨u,_,l,_⟩:=I.list m;refine⟨l.isList.typeIs,λa e=>?_⟩;cases e;obtain⟨o,n,e,c,g,_⟩:=l;exact⟨o,e,g⟩
  .refine⟨⟨o,I.kIn p o b,q⟩,λa e=>?_⟩;cases e;exact⟨o,I.kIn _ o b,g⟩
  .have z:∃o,s.heap.get? p=some o/\o.ExactDict:=by
    rcases b with⟨h,b⟩ | ⟨h,b⟩
    .obtain⟨_,_,_,_,o,_,_,e,d,_⟩:=I.hok p _ b;exact⟨o,e,d⟩
    .obtain⟨_,_,_,_,o,_,_,e,d,_⟩:=I.hok p _ b;exact⟨o,e,d⟩
   obtain⟨o,e,d⟩:=z;refine⟨⟨o,e,d.1⟩,λa j=>?_⟩;cases j;exact⟨o,e,d.2.1⟩
  .obtain⟨o,_,_,_,e,d,_⟩:=I.hok p _ b;refine⟨⟨o,e,d.1⟩,λa j=>?_⟩;cases j;exact⟨o,e,d.2.1⟩
 | _=>exact False.elim ty
def tBM(K:PySem.W.Frag)(T:String)(r:V->A1 V->Hp->VK->Prop)(b:TE)(t:TA):TE:=λσ H Q=>b σ H λx a=>tyV K T x a/\t σ a λc d=>r x c d Q
variable{o e:IL}{es:A1 IL}{to:TE}{t:TA}{name:Str}{apos cpos:Pos}{T id:String}{r:V->A1 V->Hp->VK->Prop}
theorem zGn(m:PlainAttrs T)(f:Slot T name id)(i:typeOf (.builtin id)=pure (.type "method_descriptor"))(n:MtR X id r)(p:PE X o to)(q:PA X (e::es) t)
  (c:attributeBase o name X.env (eval o X.env)=eval o X.env:=by rfl)
  (g:((backTo cpos (starEach (e::es) X.env)).all (λx=>!x.1) &&(backToKw cpos (keywordEach [] X.env)).all (λx=>x.1.isSome)
   && decide ((e::es).length +([]:A1 Keyword).length +(if([]:A1 Keyword).isEmpty then 0 else 1)<30))=true:=by rfl)
  (d:(apos.endLine == cpos.line)=true:=by rfl) (u:starEach (e::es) X.env =(false,eval e X.env)::starEach es X.env:=by rfl) (b:(backTo cpos (starEach es X.env)).any (·.1)=false:=by rfl) :
  PE X (.Call (.Attribute o name apos) (e::es) [] cpos) (tBM X.K T r to t):=by
 intro a s σ H Q I h;refine wpAny_Call_method_late c g d rfl (JA (p a s σ H _ I h) λv w ⟨x,y,j,k,ty,z⟩=>?_);obtain⟨A,B⟩:=zFo j k ty;refine⟨T,id,m,f,i,A,B,?_⟩;have l:=q cpos a w σ y _ j z;rw[u]at l⊢;refine Calls.callWith_builtin (by show(false||(backTo cpos (starEach es X.env)).any (·.1))=false;rw[b]<;>rfl) (Calls.evalArgs_plain ?_);exact JA l λC D ⟨E,F,G,J,L⟩=>n a D σ F x E v C Q G k J L
end
def RZ(X:Cx)(id:String)(r:V->A1 V->Hp->VK->Prop):Prop :=
 ∀(a:A1 (A2×Obj)) (s:A4) (σ:St) (H:Hp) (x:V) (b:A1 V) (v:A3) (c:A1 A3) (Q:VK),Inv X a σ H s->RelV x v->IR b c->r x b H Q ->
  wpAny (model X.prog X.w) X.A (call (.builtin id) (v::c)) (EP X a σ Q) X.xe s
def IR.one:∀{x:V} {us:A1 A3},IR [x] us->∃u,us = [u]/\RelV x u
 | _,_,.cons r .nil=>⟨_,rfl,r⟩
def IR.two:∀{x y:V} {us:A1 A3},IR [x,y] us->∃u v,us = [u,v]/\RelV x u/\RelV y v
 | _,_,_,.cons r (.cons q .nil)=>⟨_,_,rfl,r,q⟩
def IR.eraseIdx:∀{xs:A1 V} {us:A1 A3} (i:Nat),IR xs us->IR (xs.eraseIdx i) (us.eraseIdx i)
 | _,_,_,.nil=>.nil
 | _,_,0,.cons _ t=>t
 | _,_,i+1,.cons r t=>.cons r (IR.eraseIdx i t)
def Jh{α:Type}:∀(l:A1 α) (i:Nat),(l.eraseIdx i).length<=l.length
 | [],_=>Nat.le_refl _
 | _::_,0=>EK _
 | _::r,i+1=>H_ (Jh r i)
section
variable{X:Cx}{pins:A1 (A2×Obj)}{σ:St}{H:Hp}{s:A4}{l b:A2}{xs ys zs:A1 V}
theorem Inv.lset{its its':A1 A3}{n:Nat}{f:CM A3->CM A3}{t':Nat}(I:Inv X pins σ H s)(a:H l=some (.lst xs))
  (e:s.heap.get? l=some { cls:=.type "list",data:=.seq its.toArray n }) (b:f its.toArray=its'.toArray) (c:IR ys its') (hz:ys.length<=sizeLine) :
  Inv X pins σ (IH H l (.lst ys)) { s with heap:=s.heap.update l (Obj.mapSeq f),toks:=t' }:=by
 have q:=PySem.IsL.update e f;rw[b]at q;refine I.write (x:=l) (e:=l) (by rw[a];exact trivial) (.inl rfl) (λh u d g=>(CO s.heap (Obj.mapSeq f) (Ne.symm d)).trans g) ⟨_,q⟩ ?_;exact⟨hz,its',_,c,q⟩
theorem Inv.lnew{its:A1 A3}{t':Nat}(I:Inv X pins σ H s)(a:IR ys its)(hz:ys.length<=sizeLine) :
  Inv X pins σ (IH H s.heap.objs.size (.lst ys)) { s with heap:=s.heap.push { cls:=.type "list",data:=.seq its.toArray },toks:=t' } :=
 I.laid (λ_ _ q=>AE _ q) (Nat.le_refl _) ⟨hz,its,0,a,AS _ rfl⟩
theorem Inv.fresh(I:Inv X pins σ H s):H s.heap.objs.size=none:=I.hok.fresh (Nat.le_refl _)
theorem Inv.lstM(I:Inv X pins σ H s)(a:H l=some (.lst xs)):xs.length<=sizeLine/\∃(its:A1 A3) (n:Nat),IR xs its/\xs.length=its.length/\s.heap.get? l=some { cls:=.type "list",data:=.seq its.toArray n }:=by
 obtain⟨z,its,n,r,e⟩:=I.hok l _ a;exact⟨z,its,n,r,r.length,e⟩
end
section
variable{X:Cx}
def zAq:V->A1 V->Hp->VK->Prop:=λx b H Q=>∃l a y,x = .ref l/\b = [y]/\H l=some (.lst a)/\a.length<sizeLine/\Q .non (IH H l (.lst (a ++ [y])))
theorem G8:RZ X "list.append" zAq:=by
 intro b s σ H x i v j Q I d f h;obtain⟨l,k,y,rfl,rfl,c,m,q⟩:=h;cases d;obtain⟨u,rfl,g⟩:=f.one;obtain⟨z,a,n,r,o,e⟩:=I.lstM c;refine call_meets F.slot_list_append ⟨_,e,rfl⟩ F.entry_list_append (F.args_list_append_2 _ _) (PySem.list_append l a.toArray n u (by rw[AQ];lia)) ⟨e,?_⟩;refine⟨.non,_,I.lset (its':=a ++ [u]) c e (by simp) (r.append (.cons g .nil)) ?_,rfl,q⟩;rw[AU,GO];lia
def zCt:V->A1 V->Hp->VK->Prop:=λx b H Q=>∃l a i k y,x = .ref l/\b = [.int i]/\H l=some (.lst a)/\-(2^63)<=i/\i<2^63/\seqIndex? i a.length=some k/\a[k]?=some y/\Q y (IH H l (.lst (a.eraseIdx k)))
theorem Nt:RZ X "list.pop" zCt:=by
 intro c s σ H x E v G Q I f g h;obtain⟨l,j,i,k,y,rfl,rfl,d,m,o,p,A,q⟩:=h;cases f;obtain⟨u,rfl,B⟩:=g.one;obtain⟨t,rfl⟩:=B;obtain⟨z,a,n,r,C,e⟩:=I.lstM d;obtain⟨w,D,b⟩:=r.get A;refine call_meets F.slot_list_pop ⟨_,e,rfl⟩ F.entry_list_pop (F.args_list_pop_2 _ _)
  (MeetsSeq.list_pop_at l a.toArray n i t k w (fitsIndex_both m o) (by rw[AQ,<-C];exact p) (by rw[<-BU];exact D) (by rw[AQ];lia)) ⟨e,?_⟩
 refine⟨y,_,I.lset (its':=a.eraseIdx k) d e ?_ (r.eraseIdx k) ?_,b,q⟩
 .show a.toArray.eraseIdxIfInBounds k =(a.eraseIdx k).toArray;rw[List.eraseIdxIfInBounds_toArray]
 .have:=Jh j k;lia
def zJh:R2:=λx y H Q=>∃l b a c,x = .ref l/\y = .ref b/\H l=some (.lst a)/\H b=some (.lst c)/\a.length+c.length<=sizeLine/\∀p,H p=none->Q (.ref p) (IH H p (.lst (a++c)))
theorem Ly:LD X (binaryOp .Add) zJh:=by
 intro d s σ H x y v u Q I f g h;obtain⟨l,b,t,w,rfl,rfl,i,j,A,q⟩:=h;cases f;cases g;obtain⟨z,c,n,r,B,e⟩:=I.lstM i;obtain⟨C,a,D,k,m,o⟩:=I.lstM j;refine PySem.P.add_list e o ?_ (by rw[AQ,AQ];lia);have p:c.toArray++a.toArray =(c++a).toArray:=by simp
 rw[p];exact⟨.ref _,_,I.lnew (t':=s.toks) (r.append k) (by rw[AU];lia),rfl,q _ I.fresh⟩
end
section
variable{U:Type}[DecidableEq U]
def V3(a:A1 (U×V))(k:U):A5 V:=(a.find? λb=>decide (b.1=k)).map (·.2)
def Cy(a:A1 (U×V))(k:U)(v:V):A1 (U×V) :=
 if(a.any λb=>decide (b.1=k))=true then a.map (λb=>if b.1=k then(b.1,v)else b)else a ++ [(k,v)]
theorem O9{p:U×V}{r:A1 (U×V)}{k:U}(e:p.1=k):V3 (p::r) k=some p.2:=by simp[V3,FF,e]
theorem P0{p:U×V}{r:A1 (U×V)}{k:U}(e:¬p.1=k):V3 (p::r) k=V3 r k:=by simp[V3,FF,e]
theorem j4(k:U):∀a:A1 (U×V),(a.any λb=>decide (b.1=k)) =(V3 a k).isSome
 | []=>rfl
 | p::r=>by
  rw[GN];by_cases e:p.1=k
  .simp only[O9 e,AX e,Bool.true_or,Option.isSome_some]
  .rw[P0 e,BC e,IE];exact j4 k r
theorem Mg(k j:U)(y:V):∀a:A1 (U×V),V3 (a.map λb=>if b.1=k then(b.1,y)else b) j =(V3 a j).map λx=>if j=k then y else x
 | []=>rfl
 | p::r=>by
  have c:=Mg k j y r;rw[BB];by_cases h:p.1=k
  .rw[AO h];by_cases e:p.1=j
   .rw[O9 (p:=(p.1,y)) e,O9 e,GK,AO (e.symm.trans h)]
   .rw[P0 (p:=(p.1,y)) e,P0 e,c]
  .rw[AN h];by_cases e:p.1=j
   .rw[O9 (p:=p) e,O9 e,GK,AN (λz=>h (e.trans z))]
   .rw[P0 (p:=p) e,P0 e,c]
theorem Hl(k j:U)(y:V):∀a:A1 (U×V),V3 a k=none->V3 (a ++ [(k,y)]) j=if j=k then some y else V3 a j
 | [],_=>by
  by_cases e:k=j
  .rw[AO e.symm];exact O9 (p:=(k,y)) e
  .rw[AN (λz=>e z.symm)];exact P0 (p:=(k,y)) e
 | p::r,b=>by
  rw[List.cons_append];have c:¬p.1=k:=λz=>by rw[O9 z]at b;cases b
  rw[P0 c]at b;have d:=Hl k j y r b;by_cases e:p.1=j
  .rw[O9 e,O9 e,AN (λz=>c (e.trans z))]
  .rw[P0 e,P0 e,d]
theorem Ba(b:A1 (U×V))(k j:U)(y:V):V3 (Cy b k y) j=if j=k then some y else V3 b j:=by
 unfold Cy;by_cases a:(b.any λc=>decide (c.1=k))=true
 .rw[AO a,Mg];rw[j4]at a;by_cases e:j=k
  .obtain⟨x,d⟩:=EZ.mp a;rw[AO e,e,d,GK,AO rfl]
  .rw[AN e];cases V3 b j with
   | none=>rfl
   | some x=>rw[GK,AN e]
 .rw[AN a];refine Hl k j y b ?_;rw[j4]at a;cases q:V3 b k with
  | none=>rfl
  | some x=>rw[q]at a;exact(a rfl).elim
theorem V2(a:A1 (U×V))(k:U)(v:V):(Cy a k v).length<=a.length+1:=by
 unfold Cy;split
 .rw[AA];lia
 .rw[AU,BO,FE];lia
theorem Wj{a:A1 (U×V)}{k:U}(v:V)(h:V3 a k=none):Cy a k v=a ++ [(k,v)]:=by
 unfold Cy;rw[j4,h];exact AN (by decide)
theorem NF.isSome_eq{o:A5 V}{u:A5 A3}(r:NF o u):o.isSome=u.isSome:=by
 cases o with
 | none=>cases u with
  | none=>rfl
  | some _=>exact(show False from r).elim
 | some _=>cases u with
  | none=>exact(show False from r).elim
  | some _=>rfl
theorem KV.val{a:A1 (U×V)}{vs:A1 (U×A3)}(r:KV a vs)(k:U):NF (V3 a k) (valueAt vs k):=by
 unfold KV at r
 induction r with
 | nil=>exact True.intro
 | @cons p q j c h t g =>
  obtain⟨f,i⟩:=h;by_cases e:p.1=k
  .have d:q.1=k:=f.symm.trans e;have b:valueAt (q::c) k=some q.2:=by simp[valueAt,FF,d]
   rw[O9 e,b];exact i
  .have d:¬q.1=k:=λz=>e (f.trans z);have b:valueAt (q::c) k=valueAt c k:=by simp[valueAt,FF,d]
   rw[P0 e,b];exact g
theorem KV.any{a:A1 (U×V)}{vs:A1 (U×A3)}(r:KV a vs)(k:U):(a.any λb=>decide (b.1=k))=vs.any λb=>decide (b.1=k):=by
 unfold KV at r
 induction r with
 | nil=>rfl
 | cons h t c=>rw[GN,GN,c,h.1]
theorem KV.repl{b:A1 (U×V)}{vs:A1 (U×A3)}(r:KV b vs)(k:U){y:V}{u:A3}(d:RelV y u) :
  KV (b.map λa=>if a.1=k then(a.1,y)else a) (vs.map λa=>if a.1=k then(a.1,u)else a):=by
 unfold KV at r⊢
 induction r with
 | nil=>exact .nil
 | @cons p q i j h t f =>
  rw[BB,BB];refine .cons ?_ f;obtain⟨c,g⟩:=h;by_cases e:p.1=k
  .rw[AO e,AO (c.symm.trans e)];exact⟨c,d⟩
  .rw[AN e,AN (λz=>e (c.trans z))];exact⟨c,g⟩
theorem KV.put{a:A1 (U×V)}{vs:A1 (U×A3)}(r:KV a vs)(k:U){y:V}{u:A3}(b:RelV y u):KV (Cy a k y) (stored vs k u):=by
 unfold Cy stored;rw[r.any k];by_cases e:(vs.any λc=>decide (c.1=k))=true
 .rw[AO e,AO e];exact r.repl k b
 .rw[AN e,AN e];exact Paired.snoc r ⟨rfl,b⟩
theorem KV.length{a:A1 (U×V)}{vs:A1 (U×A3)}(r:KV a vs):a.length=vs.length:=Paired.length r
end
def Kt{P:A7}{w:F8}{k:IZ}{u:A3}(r:RelV (kV k) u):(D0 P w).is k u=true:=by
 cases k with
 | inl i=>obtain⟨t,e⟩:=(show ∃t,u=Value.int i t from r);subst e;exact Jv P w i t
 | inr x=>obtain⟨t,e⟩:=(show ∃t,u=Value.str x t from r);subst e;exact Jm P w x t
def Gu{P:A7}{w:F8}:∀{ks:A1 IZ} {us:A1 A3},IR (ks.map kV) us->ItemsAre (D0 P w) ks us
 | [],_,r=>by rw[List.map_nil]at r;cases r;exact .nil
 | k::ks,_,r=>by
  rw[BB]at r;cases r with
  | cons h t=>exact .cons (Kt h) (Gu t)
abbrev KT(H:Hp):A1 (A1 IZ×V)->A1 (A1 IZ×A2×A3)->Prop:=Paired λp q=>p.1=q.1/\H q.2.1=some (.tup (p.1.map kV))/\RelV p.2 q.2.2
def KT.val{H:Hp}{a:A1 (A1 IZ×V)}{xs:A1 (A1 IZ×A2×A3)}(r:KT H a xs)(k:A1 IZ):NF (V3 a k) ((atKey xs k).map (·.2)):=by
 induction r with
 | nil=>exact True.intro
 | @cons p q j c h t g =>
  obtain⟨f,_,i⟩:=h;by_cases e:p.1=k
  .have d:q.1=k:=f.symm.trans e;have b:atKey (q::c) k=some q.2:=by simp[atKey,FF,d]
   rw[O9 e,b];exact i
  .have d:¬q.1=k:=λz=>e (f.trans z);have b:atKey (q::c) k=atKey c k:=by simp[atKey,FF,d]
   rw[P0 e,b];exact g
def KT.repl{H:Hp}{a:A1 (A1 IZ×V)}{xs:A1 (A1 IZ×A2×A3)}(r:KT H a xs)(k:A1 IZ){y:V}{u:A3}(f:RelV y u) :
  KT H (a.map λc=>if c.1=k then(c.1,y)else c) (xs.map (putAt k u)):=by
 induction r with
 | nil=>exact .nil
 | @cons p q j l h t g =>
  rw[BB,BB];refine .cons ?_ g;obtain⟨b,d,i⟩:=h;unfold putAt;by_cases e:p.1=k
  .rw[AO e,AO (b.symm.trans e)];exact⟨b,d,f⟩
  .rw[AN e,AN (λz=>e (b.trans z))];exact⟨b,d,i⟩
def KT.put{H:Hp}{a:A1 (A1 IZ×V)}{xs:A1 (A1 IZ×A2×A3)}(r:KT H a xs)(k:A1 IZ){b:A2}{y:V}{u:A3}(d:H b=some (.tup (k.map kV)))(c:RelV y u) :
  KT H (Cy a k y) (storedH xs k b u):=by
 have e:(a.any λf=>decide (f.1=k)) =(atKey xs k).isSome:=by
  rw[j4,(r.val k).isSome_eq,Option.isSome_map]
 unfold Cy storedH;rw[e];by_cases q:(atKey xs k).isSome=true
 .rw[AO q,AO q];exact r.repl k c
 .rw[AN q,AN q];exact Paired.snoc r ⟨rfl,d,c⟩
def KT.keeps{H H':Hp}{a:A1 (A1 IZ×V)}{xs:A1 (A1 IZ×A2×A3)}(r:KT H a xs)(d:∀b c,H b=some (.tup c)->H' b=some (.tup c)):KT H' a xs :=
 Paired.mapP r λ_ _ z=>⟨z.1,d _ _ z.2.1,z.2.2⟩
section
variable{P:A7}{w:F8}{H:Hp}{h:IJ}{a:A2}
theorem zEl{u:HO}(b:MT P w H h)(e:Rd H a u):IU P w H h a u:=e.ok b
theorem Sr{b:A1 (IZ×V)}(c:MT P w H h)(e:Rd H a (.dK b)):b.length<=sizeLine/\(a == sysModules)=false/\∃vs,KV b vs/\h.DictOf (D0 P w) a vs :=
 show IU P w H h a (.dK b)from zEl c e
theorem zBq{b:A1 (IZ×V)}(c:MT P w H h)(e:H a=some (.dK b)):b.length<=sizeLine/\(a == sysModules)=false/\∃vs,KV b vs/\h.DictOf (D0 P w) a vs:=Sr c (.inl e)
theorem Aa{ks:A1 IZ}(c:MT P w H h)(e:H a=some (.tup (ks.map kV))):(tupleKind (D0 P w)).is h ks a:=by
 obtain⟨_,b,r,o,d,f,n,g⟩:=(show IU P w H h a (.tup (ks.map kV))from c a _ e);exact⟨o,b.toArray,n,d,f,g,by simpa using Gu r⟩
theorem Qf{b:A1 (A1 IZ×V)}(d:MT P w H h)(e:Rd H a (.dT b)):b.length<=sizeLine/\(a == sysModules)=false /\
  ∃xs,KT H b xs/\h.DictOfH (tupleKind (D0 P w)) a xs:=by
 obtain⟨z,y,xs,r,o,g,i,j,k,n,s,u⟩:=(show IU P w H h a (.dT b)from zEl d e);refine⟨z,y,xs,r,o,g,i,j,k,n,s,λx hx=>?_,u⟩;have c:∀{l:A1 (A1 IZ×V)} {m:A1 (A1 IZ×A2×A3)},KT H l m->∀x∈m,(tupleKind (D0 P w)).is h x.1 x.2.1:=by
  intro l m q
  induction q with
  | nil=>intro x hx;exact nomatch hx
  | @cons p q A B f t v =>
   intro x hx;rcases AL.mp hx with e | hx
   .subst e;exact Aa d (by rw[<-f.1];exact f.2.1)
   .exact v x hx
 exact c r x hx
theorem zHf{b:A1 (A1 IZ×V)}(c:MT P w H h)(e:H a=some (.dT b)):b.length<=sizeLine/\(a == sysModules)=false /\
  ∃xs,KT H b xs/\h.DictOfH (tupleKind (D0 P w)) a xs:=Qf c (.inl e)
end
def OY(H:Hp)(a:A2)(y:V)(r:A5 V):Prop :=
 (∃c k,Rd H a (.dK c)/\y=kV k/\r=V3 c k)\/∃c k b,Rd H a (.dT c)/\y = .ref b/\H b=some (.tup (k.map kV))/\r=V3 c k
def zGa(H:Hp)(a:A2)(y v:V)(H':Hp):Prop :=
 (∃c k,H a=some (.dK c)/\y=kV k/\c.length<sizeLine/\H'=IH H a (.dK (Cy c k v))) \/
 ∃c k b,H a=some (.dT c)/\y = .ref b/\H b=some (.tup (k.map kV))/\c.length<sizeLine/\H'=IH H a (.dT (Cy c k v))
def OY.k{H:Hp}{a:A2}{b:A1 (IZ×V)}{k:IZ}(e:H a=some (.dK b)):OY H a (kV k) (V3 b k):=.inl ⟨b,k,.inl e,rfl,rfl⟩
section
variable{X:Cx}{pins:A1 (A2×Obj)}{σ:St}{H:Hp}{s:A4}{a:A2}{y v:V}{u r:A3}{o:A5 V}{A:IM}{E:A3->A4->Prop}
theorem Inv.big(I:Inv X pins σ H s):sysModules<s.heap.objs.size:=by
 have h:mainGlobals<s.heap.objs.size:=(I.mod.glob.keeps I.bk).lt;exact Nat.lt_trans (by decide) h
theorem Ts{Q:A3->A4->Prop}(x:A.units+1<cLine)(I:Inv X pins σ H s)(g:OY H a y (some v))(r:RelV y u)(h:∀f t,Inv X pins σ H t->RelV v f->Q f t) :
  wpAny (model X.prog X.w) A (getItem (.ref a) u) Q E s:=by
 rcases g with⟨i,k,e,j,l⟩ | ⟨i,k,b,e,j,B,l⟩
 .subst j;obtain⟨z,C,D,c,m⟩:=Sr I.hok e;obtain⟨f,n,d⟩:=NF.some_of (v:=v) (o:=valueAt D k) (by rw[l];exact c.val k);exact wpAny_getItem_of (Kt r) m.mapOf n (h f _ (I.tok _) d)
 .subst j;cases(show u=Value.ref b from r);obtain⟨z,C,F,c,m⟩:=Qf I.hok e;obtain⟨f,n,d⟩:=NF.some_of (v:=v) (o:=(atKey F k).map (·.2)) (by rw[l];exact c.val k);obtain⟨p,G,q⟩:=BF.mp n;refine wpAny_getItem_heap (tupleKind_room_in1 x) (Aa I.hok B) m G ?_;rw[q];exact h f _ (I.tok _) d
theorem zAj{Q:A3->A4->Prop}(p:A.units+1<cLine)(I:Inv X pins σ H s)(g:OY H a y o)(m:RelV y u)(h:∀n,Inv X pins σ H n->Q (.bool (!o.isSome)) n) :
  wpAny (model X.prog X.w) A (compareOp .NotIn u (.ref a)) Q E s:=by
 rcases g with⟨d,k,e,f,l⟩ | ⟨d,k,b,e,f,r,l⟩
 .subst f;obtain⟨z,i,t,c,j⟩:=Sr I.hok e;refine wpAny_notIn_of (Kt m) i j.mapOf ?_;rw[<-(c.val k).isSome_eq,<-l];exact h _ (I.tok _)
 .subst f;cases(show u=Value.ref b from m);obtain⟨z,i,v,c,j⟩:=Qf I.hok e;refine wpAny_notIn_heap (tupleKind_room_in1 p) (Aa I.hok r) i j ?_;have q:=(c.val k).isSome_eq;rw[Option.isSome_map]at q;rw[<-q,<-l];exact h _ (I.tok _)
theorem Js{h':IJ}{t':Nat}{c:HO}(I:Inv X pins σ H s)(f:UR (H a))(g:Heap.SameBut a s.heap h')(h:∃q,h'.get? a=some q)(d:IU X.prog X.w (IH H a c) h' a c) :
  Inv X pins σ (IH H a c) { s with heap:=h',toks:=t' } :=
 I.write (x:=a) (e:=a) f (.inl rfl) (λb q i z=>(g.2 b i).trans z) h d
theorem Yz{P:A7}{w:F8}{H':Hp}{h':IJ}{b:A1 (IZ×V)}{vs:A1 (IZ×A3)}(z:b.length<=sizeLine)(d:(a == sysModules)=false)(c:KV b vs)(e:h'.DictOf (D0 P w) a vs) :
  IU P w H' h' a (.dK b):=⟨z,d,vs,c,e⟩
theorem Ra{H':Hp}{Q:Unit->A4->Prop}(L:A.units+1<cLine)(I:Inv X pins σ H s)(g:zGa H a y v H')(C:RelV y u)(D:RelV v r)(h:∀F,Inv X pins σ H' F->Q () F) :
  wpAny (model X.prog X.w) A (setItem (.ref a) u r) Q E s:=by
 rcases g with⟨d,k,e,m,l,n⟩ | ⟨d,k,b,e,m,G,l,n⟩
 .subst m n;obtain⟨z,o,M,f,p⟩:=zBq I.hok e;have t:M.length<=sizeLine:=by rw[<-f.length];exact z
  have x:(Cy d k v).length<=sizeLine:=by have:=V2 d k v;lia
  refine wpAny_setItem_pairs (hsz:=t) (Kt C) p λJ i B=>h _ ?_;have N:∃q,J.get? a=some q:=let⟨q,_,_,j,_⟩:=i;⟨q,j⟩;exact Js I (by rw[e];exact True.intro) B N (Yz x o (f.put k D) i)
 .subst m n;cases(show u=Value.ref b from C);obtain⟨z,o,O,f,p⟩:=zHf I.hok e;have t:O.length<=sizeLine:=by rw[<-Paired.length f];exact z
  have x:(Cy d k v).length<=sizeLine:=by have:=V2 d k v;lia
  refine wpAny_setItem_heap (hsz:=t) (tupleKind_room_in1 L) (Aa I.hok G) p λJ i B=>h _ ?_;obtain⟨q,P,R,j,S,T,U,_,V⟩:=i;refine Js I (by rw[e];exact True.intro) B ⟨q,j⟩ ⟨x,o,_,(f.put k G D).keeps λc W K=>?_,q,P,R,j,S,T,U,V⟩;rw[B5 (S0 K e (λz=>nomatch z))];exact K
end
def zIi(i:IL):Prop:=∀a b,subscripted i false a b=operate [a,b] (getItem a b)
def zBu{prog:A7}{w:F8}{A:IM}{E:A3->A4->Prop}{s:A4}{c:QW}{b a:IL}{pos:Pos}{T id:String}{Q:A3->A4->Prop}
  (f:typeLookup (.type T) "__getitem__" = pure (some (.builtin id))) (g:zIi a)
  (h:wpAny (model prog w) A (eval b c) (λo s₁=>wpAny (model prog w) A (eval a c) (λi s₂=>s₂.TypeIs o T/\wpAny (model prog w) A (getItem o i) Q E s₂) E s₁) E s) :
  wpAny (model prog w) A (eval (.Subscript b a pos) c) Q E s:=by
 refine Subscript_ (CI h (λo s₁ h₁=>CI h₁ (λi s₂ h₂=>?_) λ_ _ x=>x) λ_ _ x=>x);obtain⟨e,h₂⟩:=h₂;unfold subscriptTail;refine AB ?_;rw[getitemInPython_of_ne e.not_modules];refine AB (HL e f ?_);have d:wpAny (model prog w) A (subscripted a false o i) (λr s₃=>wpAny (model prog w) A (letTemporaryGo b o r >>= λ_=>pure r) Q E s₃) E s₂:=by
  rw[g o i];exact wpAny_operating (CI h₂ (λr s₃ h₃=>AB (wpAny_letTemporaryGo (AG h₃))) λ_ _ x=>x)
 first
  | exact AG (AB d)
  | exact AB (AG (AB d))
  | exact AB d
def Ks{X:Cx}{c:A1 (A2×Obj)}{σ:St}{H:Hp}{s:A4}{a:A2}{y:V}{o:A5 V}(I:Inv X c σ H s)(g:OY H a y o):s.TypeIs (.ref a) "dict":=by
 rcases g with⟨d,k,e,_,_⟩ | ⟨d,k,b,e,_,_,_⟩
 .obtain⟨_,_,h,_,f⟩:=Sr I.hok e;exact f.typeIs
 .obtain⟨_,_,i,_,f⟩:=Qf I.hok e;exact f.typeIs
def Vd(c ty:TE):TE:=λσ H Q=>c σ H λx d=>ty σ d λy b=>∃a v,x = .ref a/\OY b a y (some v)/\Q v b
def zAm(ty c:TE):TE:=λσ H Q=>ty σ H λy d=>c σ d λx b=>∃a o,x = .ref a/\OY b a y o/\Q (.bl (!o.isSome)) b
def zHe(c ty d:TE):TS:=λD σ H=>d σ H λv e=>c σ e λx f=>ty σ f λy g=>∃a b,x = .ref a/\zGa g a y v b/\D.nx σ b
section
variable{X:Cx}{o i e value:IL}{pos pos' tpos:Pos}{td ty tv:TE}
theorem O0(e:X.A.units+1<cLine)(f:PE X o td)(hi:PE X i ty)(j:zIi i):PE X (.Subscript o i pos) (Vd td ty):=by
 intro b s σ H Q I h;refine zBu PySem.F.slot_dict_getitem.lookup j (JA (f b s σ H _ I h) λu k ⟨x,l,m,n,p⟩=>JA (hi b k σ l _ m p) λB C ⟨y,q,d,r,a,v,t,g,w⟩=>?_);subst t;obtain rfl:u=Value.ref a:=n;exact⟨Ks d g,Ts e d g r λD E z c=>⟨v,q,z,c,w⟩⟩
theorem Sa(c:X.A.units+1<cLine)(hi:PE X i ty)(d:PE X o td):PC X .NotIn i o (zAm ty td):=by
 intro b s σ H Q I h;refine JA (hi b s σ H _ I h) λw e ⟨y,f,j,k,l⟩=>JA (d b e σ f _ j l) λu z ⟨x,m,n,p,a,q,r,g,t⟩=>?_;subst r;obtain rfl:u=Value.ref a:=p;exact zAj c n g k λB v=>⟨.bl (!q.isSome),m,v,rfl,t⟩
theorem Ri(c:X.A.units+1<cLine)(d:PE X o td)(hi:PE X i ty)(e:PE X value tv)(f:swapsWith value (some (.Subscript o i pos')) pos.line X.env=pure false) :
  PS X (.Assign [.Subscript o i pos'] value pos) (zHe td ty tv):=by
 intro b s σ H D I h;refine wpAny_Assign_Subscript (JA (e b s σ H _ I h) λr j ⟨v,k,l,m,n⟩=>JA (d b j σ k _ l n) λu p ⟨x,q,t,w,z⟩=>JA (hi b p σ q _ t z) λK L ⟨y,M,B,C,a,E,F,g,G⟩=>?_) f;subst F;obtain rfl:u=Value.ref a:=w;exact Ra c B g C m λN J=>⟨σ,E,J,G⟩
end
def Oe{P:A7}{w:F8}{H:Hp}(h:IJ)(a:sysModules<h.objs.size):IU P w H (h.push { cls:=.type "dict",data:=.dict #[] }) h.objs.size (.dK []) :=
 ⟨CB _,beq_eq_false_iff_ne.mpr (Ne.symm (AZ a)),[],.nil,Heap.DictOf.new h⟩
def zCl:TE:=λ_ H Q=>∀p,H p=none->Q (.ref p) (IH H p (.dK []))
section
variable{X:Cx}{pos:Pos}
theorem Nq:PE X (.Dict [] [] pos) zCl:=λb s σ H Q I h =>
 wpAny_Dict_empty ⟨.ref s.heap.objs.size,_,I.laid (a:=s.heap.objs.size) (o:=.dK []) (t':=s.toks) (λ_ _ q=>AE _ q) (Nat.le_refl _) (Oe s.heap I.big),rfl,h _ (I.hok.fresh (Nat.le_refl _))⟩
end
def IsD(H:Hp)(a:A2):Prop:=(∃b,Rd H a (.dK b))\/∃b,Rd H a (.dT b)
def zEc{X:Cx}{f:A1 (A2×Obj)}{σ:St}{H:Hp}{s:A4}{a:A2}(I:Inv X f σ H s)(d:IsD H a) :
  s.TypeIs (.ref a) "dict"/\(∀b,Value.ref a = .ref b->∃c,s.heap.get? b=some c/\c.dict=none)/\(a == sysModules)=false:=by
 rcases d with⟨h,e⟩ | ⟨h,e⟩
 .obtain⟨_,i,l,_,g⟩:=Sr I.hok e;refine⟨g.typeIs,λb q=>?_,i⟩;cases q;obtain⟨c,_,_,j,k,_⟩:=g;exact⟨c,j,k.2.1⟩
 .obtain⟨_,i,m,_,g⟩:=Qf I.hok e;refine⟨g.typeIs,λb q=>?_,i⟩;cases q;obtain⟨c,_,_,j,k,_⟩:=g;exact⟨c,j,k.2.1⟩
end L2
namespace Att
open PySem PySem.W PySem.Calls PyProof.Rows
def Bw{P:Params}{h:IJ}:∀(ns:A1 Int) (vs:A1 A3),WellAll P h vs (ns.map WData.int)->IntsAre vs ns:=by
 intro ns
 induction ns with
 | nil =>
  intro vs w;rw[List.map_nil]at w;cases w;exact .nil
 | cons n ns c =>
  intro vs w;rw[BB]at w;cases w with
  | cons a b =>
   cases a;exact .cons _ _ (c _ b)
def Qy{l:OpenLaw}{n:Nat}(o:l.most=some n){P:Params}{h:IJ}{args:A1 WData}{b:A1 A3}
  (c:l.row.toRowW.claim.pre args=true) (j:WellAll P h b args) :
  ∃a vs ns,b = [Value.ref a]/\args = [WData.list (ns.map WData.int)]/\h.get? a=some { cls:=.type "list",data:=.seq vs.toArray }/\IntsAre vs ns/\ns.length<=n:=by
 have k:WShape.hasAll [] args [.list .int]=true:=(pre_splitW c).1;have m:l.pre.holds [] { args:=args }=true:=(pre_splitW c).2;obtain⟨d,r,rfl,p,s⟩:=hasAllW_cons k;obtain rfl:=hasAllW_nil s;obtain⟨y,rfl,t⟩:=hasW_list p;obtain⟨ns,rfl⟩:=items_int t;have e:ns.length<=n:=by
  unfold OpenLaw.pre at m;have g:(WTm.not (.lt (.lit (.int (n:Int))) (.len (.arg 0)))).holds [] { args:=[.list (ns.map .int)] }=true:=by
   have g:=(holds_andW m).1;rw[o]at g;exact g
  have i:=condW_of g (w_not (w_lt w_lit (w_len_list (w_arg rfl))));rw[AA]at i;refine Nat.le_of_not_lt λq=>?_;have u:(n:Int) <((ns.length:Nat):Int):=by lia
  first
   | (rw[AX u]at i;exact absurd i (by decide))
   | (simp at i;lia)
 cases j with
 | cons v w =>
  cases w;cases v with
  | list x f=>exact⟨_,_,ns,rfl,rfl,x,Bw ns _ f,e⟩
def Us(l:OpenLaw)(args:A1 WData):l.row.toRowW.claim.post args (.bool true) args=true :=
 postW_of (r:=l.row.toRowW) (X:=(true == true))
  (show WShape.has [] (.bool true) .bool=true by first | rfl | decide | simp[WShape.has,WShape.arms,WShape.armsAll])
  (show(WTm.eq .res (.lit (.bool true))).value [] { args:=args,res:=some (.bool true),after:=args }=some (.bool (true == true))from w_eq_bool (w_res rfl) w_lit) rfl
def QL{l:OpenLaw}{n:Nat}{q:A7}{b:A1 Str}{z:(Str->A5 A3)->IJ->Prop}{A:F8->IJ->Prop}{d:DefRec}
  (E:l.most=some n) (p:d.params.defaults = [])
  (call:∀(w:F8) (s₀ s₁:A4) (mg t:Str->A5 A3) (g:A2) (o:Obj) (u k c:A3) (a:A2) (vs:A1 A3) (ns:A1 Int),
   Ground q b [] z w s₀ mg t s₁.heap->A w s₁.heap ->
   s₁.heap.get? g=some o->o.data = .func (docDef d.name d.params d.body d.scope u k c)->s₁.heap.CodeRec k d.name->mg d.name=some (.ref g) ->
   s₁.heap.get? a=some { cls:=.type "list",data:=.seq vs.toArray }->IntsAre vs ns->ns.length<=n->s₁.gens = #[] ->
   codeAny (model l.prog w) callerA (.call (.ref g) ⟨[.ref a],[]⟩) (λr m=>r = .ok (.ret (.bool true))/\OldK s₁.heap m.heap/\m.os=s₁.os/\AllBare m.gens) s₁) :
  WalkO q b z A l.row.toRowW d [] (λf vs=>PySem.call f vs):=by
 intro w s₀ s₁ mg t G Y g o u k c F kV H I v B x J args C R h D K y L;obtain rfl:F = .none:=Dflts.none B p;obtain rfl:kV = .none:=Dflts.noKw B;obtain⟨a,vs,ns,rfl,rfl,i,e,j⟩:=Qy E h y;refine enter_call (codeAny_mono (call w s₀ s₁ mg t g o u k c a vs ns G Y H (fd_plain I) v x i e j J) λr m M=>?_);obtain⟨rfl,N,O,P⟩:=M;exact⟨.inl ⟨.bool true,.bool true,[],rfl,λ_=>rfl,.bool true,Us l _,λ_=>⟨List.Pairwise.nil,λ_ Q=>(nomatch Q)⟩⟩,N,O,P⟩
end Att
namespace L2
open PySem PySem.Spec PyProof.Rows
def Gj:∀{vs:A1 A3} {ns:A1 Int},IntsAre vs ns->IR (ns.map V.int) vs
 | _,_,.nil=>.nil
 | _,_,.cons n t h=>.cons ⟨t,rfl⟩ (Gj h)
def N9(s:IV)(j:Nat):IV:=match s with
 | .ClassDef _ _ _ a _ _ _ _ _ _ _=>a.getD j (.Pass ⟨0,0,0,0⟩)
 | _=>.Pass ⟨0,0,0,0⟩
def S8(s:IV):Arguments:=match s with
 | .FunctionDef _ a _ _ _ _ _ _ _ _=>a
 | _=>{ posonlyargs:=[],args:=[],vararg:=none,kwonlyargs:=[],kw_defaults:=[],kwarg:=none,defaults:=[] }
def P2(s:IV):A1 IV:=match s with
 | .FunctionDef _ _ b _ _ _ _ _ _ _=>b
 | _=>[]
def B7(s:IV):JN:=match s with
 | .FunctionDef _ _ _ _ _ _ a _ _ _=>a
 | _=>{ kind:=.function,names:=[],isGenerator:=false,isCoroutine:=false }
abbrev IY:R_:=λ_ _ _ _ _ _=>False
abbrev E0:XK:=λ_ _ _=>False
def E7{X:Cx}:Ab IY X E0:=λ_ _ _ _ _ _ _ h=>h.elim
structure QD(K:PySem.W.Frag)(x qual:Str)(st:IV)(f:A2)(fd:IS):Prop where
 ex:∃(oc:A3) (od:A5 A2) (kV doc pm:A3) (an:A5 A2) (cdv ct:A3) (osl:CM (A5 A3)),
  fd=PySem.W.fnOf x qual (S8 st) (P2 st) (B7 st) .none kV doc pm an cdv ct/\K.lookup f=some ⟨oc,od,.func fd,osl⟩/\PySem.W.codeIn K cdv qual=true
 kp:PySem.W.keepIn K (.ref f)=true
section
variable{P:A7}{w:F8}{K:PySem.W.Frag}{mg:Str->A5 A3}{base:IJ}
theorem QD.ok{x b:Str}{st:IV}{f:A2}{l:IS}{N e:A1 Str}{k:Nat}{sp:Sp}(F:QD K x b st f l)(S:II N e (B7 st))(g:∀vs H Q E,sp vs H Q E->vs.length=e.length)
  (d:∀(c:A3) (A:IM) (a:A1 QW) (s:A4) (H:Hp) (vs:A1 V) (Q:VK) (E:XK),JQ k (A.deeper (envOfC b (B7 st) s.heap.objs.size f c))->sp vs H Q E ->
   ∃t,QV (Wy IY P w K mg base N b (B7 st) f c A a s H E).nox (P2 st) t/\t { nx:=λ_ H'=>Q .non H',rt:=Q } (Bm N vs) H):IK P w K mg base IY (k+1) f l e sp:=by
 obtain⟨p,r,kV,m,u,v,c,y,n,rfl,lk,i⟩:=F.ex;refine zEi lk i S g λA a s H vs Q E o j=>?_;obtain⟨t,h,q⟩:=d c A a s H vs Q E o j;exact⟨t,h.nox,q⟩
theorem QD.binds{x a:Str}{st:IV}{f:A2}{i:IS}{d:A1 Str}(F:QD K x a st f i)
  (h:∀(kV b e:A3) (g:A5 A2) (c ct:A3) (us:A1 A3),us.length=d.length->bindArgs (PySem.W.fnOf x a (S8 st) (P2 st) (B7 st) .none kV b e g c ct) ⟨us,[]⟩=pure (d.zip us)):Binds K i d []:=by
 obtain⟨l,m,kV,b,e,g,c,ct,j,rfl,lk,k⟩:=F.ex;exact .all (h kV b e g c ct)
theorem L_{x a:Str}{st:IV}{f:A2}{i:A3}{j g:A5 A2}{e:CM (A5 A3)}{kV d h b ct:A3}(l:K.lookup f=some ⟨i,j,.func (PySem.W.fnOf x a (S8 st) (P2 st) (B7 st) .none kV d h g b ct),e⟩)
  (c:PySem.W.codeIn K b a=true) (k:PySem.W.keepIn K (.ref f)=true):QD K x a st f (PySem.W.fnOf x a (S8 st) (P2 st) (B7 st) .none kV d h g b ct):=⟨⟨i,j,kV,d,h,g,b,ct,e,rfl,l,c⟩,k⟩
end
def Y7{A:IM}{k:Nat}(a:JQ k A):A.units+1<cLine:=Nat.lt_of_le_of_lt (ET (by decide:1<=64) _) a.units
section
variable{X:Cx}
theorem pv(i:Nat){x:Str}{pos:Pos}(b:X.N[i]?=some x:=by rfl)(c:UN X.env.scope x:=by first | exact Or.inl rfl | exact Or.inr (Or.inl rfl) | exact Or.inr (Or.inr rfl))(d:(x ==("__debug__":Str))=false:=by decide)
  (a:(x ==("__classdict__":Str))=false:=by decide):PE X (.Name x pos) (Pg i):=Za b c d a
end
def i7{A B:Prop}(h:B):if false=true then A else B:=by
 rw[AN BD];exact h
def Fw{A B:Prop}(h:A):if true=true then A else B:=by
 rw[AO rfl];exact h
def Q3{c A B:Prop}[Decidable c](h1:c->A)(h2:¬c->B):if c then A else B:=by
 by_cases h:c
 .rw[AO h];exact h1 h
 .rw[AN h];exact h2 h
def Cs(H H':Hp):Prop:=∀b o,H b=some o->H' b=some o
def Cs.refl(H:Hp):Cs H H:=λ_ _ h=>h
def Cs.trans{H d e:Hp}(a:Cs H d)(b:Cs d e):Cs H e:=λc o h=>b c o (a c o h)
def Cs.free{H H':Hp}(e:Cs H H'){l:A2}(h:H' l=Option.none):H l=Option.none:=by
 cases q:H l with
 | none=>rfl
 | some o =>
  rw[e l o q]at h;cases h
def ND(X:Cx)(a:JN)(cl:A1 (Str×A2))(N':A1 Str)(b:A1 (A2×Obj))(ex:A1 A2)(c:A4)(d:Hp):Cx where
 prog:=X.prog
 w:=X.w
 K:=X.K
 mg:=X.mg
 base:=X.base
 A:=X.A
 N:=N'
 s₀:=c
 H₀:=d
 env:=compEnvC a cl c.heap.objs.size X.env
 outer:=X.stack
 stack:=X.stack
 ex:=ex
 fn:=λ_=>false
 calm:=X.calm
 pn:=X.pn++b
 xe:=λ_ _=>False
def OZ(X:Cx)(a:JN)(cl:A1 (Str×A2)):A1 Str->A1 (A5 Nat)->Prop
 | [],[]=>True
 | _::N,none::c=>OZ X a cl N c
 | x::N,some j::c=>(X.N[j]?=some x/\X.env.scope.names.lookup x=some .cell/\(relabel a X.env).names.lookup x=some .cell/\cl.lookup x=X.env.cells.lookup x)/\OZ X a cl N c
 | _,_=>False
def RL(X:Cx):A1 (Str×A2)->Prop
 | []=>True
 | p::r=>X.env.cells.lookup p.1=some p.2/\RL X r
structure NQ(X:Cx)(scope:JN)(cl:A1 (Str×A2))(N':A1 Str)(cap:A1 (A5 Nat)):Prop where
 kind:scope.kind = .function
 nocell:∀y∈scope.names,y.2≠ .cell
 loc:∀y∈scope.names,y.2 = .local->scope.names.lookup y.1=some .local
 clos:closureFor scope X.env=pure cl
 cin:RL X cl
 has:((relabel scope X.env).names.all λy=>!(y.2 == .cell||y.2 == .free)||(cl.lookup y.1).isSome)=true
 caps:OZ X scope cl N' cap
def Yu(cap:A1 (A5 Nat))(σ:St):St:=cap.map λo=>o.bind λj=>(σ[j]?).join
def RL.get{X:Cx}:∀{cl:A1 (Str×A2)} {x:Str} {c:A2},RL X cl->cl.lookup x=some c->X.env.cells.lookup x=some c
 | [],_,_,_,h=>by simp at h
 | (y,d)::r,x,c,⟨a,b⟩,h=>by
  rw[IC]at h;cases e:x == y with
  | true =>
   rw[e]at h;cases h;rw[beq_iff_eq.mp e];exact a
  | false =>
   rw[e]at h;exact RL.get b h
def OZ.len{X:Cx}{a:JN}{cl:A1 (Str×A2)}:∀{N:A1 Str} {cap:A1 (A5 Nat)},OZ X a cl N cap->cap.length=N.length
 | [],[],_=>rfl
 | _::N,none::c,h=>by rw[BO,BO,OZ.len (N:=N) (cap:=c) h]
 | _::N,some j::c,h=>by rw[BO,BO,OZ.len h.2]
 | [],_::_,h=>h.elim
 | _::_,[],h=>h.elim
def OZ.get{X:Cx}{a:JN}{cl:A1 (Str×A2)}{j:Nat}{x:Str}:∀{N:A1 Str} {cap:A1 (A5 Nat)} {i:Nat},OZ X a cl N cap->N[i]?=some x->cap[i]?=some (some j) ->
  X.N[j]?=some x/\X.env.scope.names.lookup x=some .cell/\(relabel a X.env).names.lookup x=some .cell/\cl.lookup x=X.env.cells.lookup x
 | [],_,_,_,h,_=>by simp at h
 | _::_,[],_,_,_,h=>by simp at h
 | y::N,none::c,0,_,_,h=>by simp at h
 | y::N,none::c,i+1,h,b,d=>OZ.get (N:=N) (cap:=c) (i:=i) h (by simpa using b) (by simpa using d)
 | y::N,some k::c,0,h,b,d=>by
  simp at b d;subst b;subst d;exact h.1
 | y::N,some k::c,i+1,h,b,d=>OZ.get (N:=N) (cap:=c) (i:=i) h.2 (by simpa using b) (by simpa using d)
section
variable{X:Cx}{scope:JN}{cl:A1 (Str×A2)}{N':A1 Str}{cap:A1 (A5 Nat)}{pins:A1 (A2×Obj)}{σ:St}{H3:Hp}{s3:A4}{ex:A1 A2}
theorem Ds{p:KE->Bool}:∀{names:A1 (Str×KE)} {q:Str->KE->Bool} {x:Str} {k:KE},(names.all λy=>q y.1 y.2)=true->names.lookup x=some k->q x k=true
 | [],_,_,_,_,h=>by simp at h
 | (y,d)::r,q,x,k,a,h=>by
  rw[List.all_cons,BT]at a;rw[IC]at h;cases e:x == y with
  | true =>
   rw[e]at h;cases h;rw[beq_iff_eq.mp e];exact a.1
  | false =>
   rw[e]at h;exact Ds (p:=p) (names:=r) (q:=q) a.2 h
theorem Inv.block(I:Inv X pins σ H3 s3)(S:NQ X scope cl N' cap)(hc:X.calm=true)(t:∀b∈ex,Es X pins H3 b/\∃o,s3.heap.get? b=some o){h1:IJ}{T:Nat}
  (G:h1.Ns s3.heap.objs.size (λ_=>none)) (B:∀b o,s3.heap.get? b=some o->h1.get? b=some o) :
  Inv (ND X scope cl N' pins ex s3 H3) [] (Yu cap σ) H3 { s3 with heap:=h1,toks:=T }:=by
 have C:∀b o,s3.heap.get? b=some o->b≠s3.heap.objs.size:=λb o e=>AZ (AI e);have w:∀x c,cl.lookup x=some c->∃v,s3.heap.IsCell c v:=λx c e=>I.cell x c (S.cin.get e);have A:H3 s3.heap.objs.size=none:=I.hok.fresh (Nat.le_refl _);refine⟨⟨I.ok.mod,?_,I.ok.glob,I.ok.blt,Nat.le_refl _,λx y c H g=>I.ok.inj x y c (S.cin.get H) (S.cin.get g),λx U=>?_,λx c h _=>absurd h BD,I.ok.hd,I.ok.frames,.inl rfl,λb D=>?_,I.bs,Nat.le_trans I.ok.bsz I.sz,λb o e D=>?_,λb D=>?_,I.stack,I.stkFree⟩,
  rfl,I.bare,Un.kept B,⟨_,G,λi x v H g e3=>?_⟩,λx c e=>?_,A,λx c e=>I.freeC x c (S.cin.get e),λp V=>?_,I.hok.kept B,?_⟩
 .exact S.kind
 .have q:∀k,(relabel scope X.env).names.lookup x=some k->(!(k == .cell||k == .free)||(cl.lookup x).isSome)=true:=λk e=>Ds (p:=λ_=>true) (q:=λa k=>!(k == .cell||k == .free)||(cl.lookup a).isSome) S.has e;have J:(relabel scope X.env).names.lookup x=some .cell\/(relabel scope X.env).names.lookup x=some .free:=U;have:(cl.lookup x).isSome=true:=by
   rcases J with e | e
   .exact q _ e
   .exact q _ e
  exact EZ.mp this
 .obtain⟨⟨_,_,_,_,W,_⟩,o,e⟩:=t b D;exact⟨C b o e,λx c E=>W x c (S.cin.get E)⟩
 .obtain⟨⟨f0,P,Q,f3,_⟩,_⟩:=t b D;rcases f3 with f3 | f3
  .exact I.ok.noex b o e f3
  .have:=(I.ok.bs b o e).1;exact absurd (BK (AI this) f3) (EY _)
 .intro K;obtain⟨⟨_,P,Q,_⟩,_⟩:=t b D;rcases AL.mp (I.stkSub b K)with z | z
  .exact P z
  .exact Q z
 .unfold Yu at g;rw[AH]at g;cases E:cap[i]? with
  | none=>rw[E]at g;cases g
  | some o =>
   rw[E]at g;cases o with
   | none=>cases g
   | some j =>
    have f:(σ[j]?).join=some v:=BN g;obtain⟨Y,R,Z,c4⟩:=S.caps.get H E;have F:σ[j]?=some (some v):=by
     cases F:σ[j]? with
     | none=>rw[F]at f;cases f
     | some z=>rw[F]at f;cases z with
      | none=>cases f
      | some z=>cases f;rfl
    obtain⟨m,hn,hl⟩:=I.loc;obtain⟨u,r,l⟩:=hl j x v Y F (.inr (.inl R));refine⟨u,r,?_⟩;rcases l with⟨k,_⟩ | ⟨_,c,L,s⟩
    .have:X.env.scope.names.lookup x=some .local:=k;rw[R]at this;cases this
    .exact .inr ⟨.inl Z,c,c4.trans L,let⟨o,M,N⟩:=s;⟨o,B _ _ M,N⟩⟩
 .obtain⟨v,o,M,N⟩:=w x c e;exact⟨v,o,B _ _ M,N⟩
 .have O:p∈X.pn++pins:=by simpa [ND] using V
  obtain⟨e,n,ne,nf,d⟩:=I.pin p O;refine⟨B _ _ e,n,C _ _ e,λK=>?_,d⟩;rcases AL.mp (I.stkSub p.1 K)with z | z
  .exact ne z
  .exact nf z
 .unfold Yu;rw[AA];exact S.caps.len
theorem Inv.unblock{σ':St}{H':Hp}{s':A4}{h':IJ}(I:Inv X pins σ H3 s3)(g:∀b∈ex,Es X pins H3 b)(J:Inv (ND X scope cl N' pins ex s3 H3) [] σ' H' s')(f:Heap.SameBut s3.heap.objs.size s'.heap h') :
  Inv X pins σ H' { s' with heap:=h' }:=by
 have d:H' s3.heap.objs.size=none:=J.free;refine I.call' (ch:=ex) J.os ⟨λb o e n h a=>?_,λb o e n h a=>?_,λb o e n a=>?_,λb o e a=>?_,J.base.tups,J.base.frzs,J.base.tbls⟩ (λb j e=>?_) J.bare λb i=>?_
 .exact(f.2 b (AZ (AI e))).trans (J.base.keep b o e n h a)
 .obtain⟨k,q⟩:=J.base.slot b o e n h a;exact⟨k,(f.2 b (AZ (AI e))).trans q⟩
 .exact J.base.free b o e n a
 .obtain⟨l,q⟩:=J.base.there b o e a;exact⟨l,(f.2 b (AZ (AI e))).trans q⟩
 .refine(J.hok b j e).stay (λc u m q=>(f.2 c ?_).trans q) (λ_ q=>q) λ_ _ q=>q;rintro rfl;rcases m with z | z
  .rw[<-z,d]at e;cases e
  .rw[d]at z;cases z
 .obtain⟨_,p,_,r,s,t⟩:=g b i;exact⟨r,p,s,t⟩
end
def Mo(e:IL)(d:Nat)(iter tg:IL)(ifs:A1 IL)(b:Sem Fin->Sem Fin)(g f:A3)(a:QW):Sem Fin:=do
 standAt iter.pos
 match <-pyNext g with
 | none=>pure (.done .next)
 | some v =>
  letOwnedTupleGo tg g v
  assign tg a v
  let mut h:=true
  for c in ifs do
   if h then h <-isTrue c a (eval c a)
  if h then b (again (.compLoop e d g f a))else again (.compLoop e d g f a)
def emL(a:IL)(b:A3)(c:QW)(k:Sem Fin):Sem Fin:=(do let _ <-call (.builtin "list.append") [b,<-eval a c]:Sem Unit) >>= λ_=>k
def emD(a b:IL)(D:A2)(c:QW)(k:Sem Fin):Sem Fin:=(do
   let d <-eval a c
   let e <-holding [d] (eval b c)
   standAt { a.pos with endLine:=b.pos.endLine,endCol:=b.pos.endCol }
   holding [d,e] (dictSet D d e):Sem Unit) >>= λ_=>k
def Eb(b tg iter:IL)(ifs:A1 IL)(a:JN)(pos:Pos)(e c:A3)(d:QW) :
  compTurn (.ListComp b [⟨tg,iter,ifs,0⟩] a pos) 0 e c d=Mo (.ListComp b [⟨tg,iter,ifs,0⟩] a pos) 0 iter tg ifs (emL b c d) e c d:=rfl
def Pc(k v tg iter:IL)(ifs:A1 IL)(a:JN)(pos:Pos)(c:A3)(D:A2)(b:QW) :
  compTurn (.DictComp k v [⟨tg,iter,ifs,0⟩] a pos) 0 c (.ref D) b=Mo (.DictComp k v [⟨tg,iter,ifs,0⟩] a pos) 0 iter tg ifs (emD k v D b) c (.ref D) b:=rfl
abbrev SD:=St->Hp->(St->Hp->Prop)->Prop
def PEm(X:Cx)(b:Sem Fin->Sem Fin)(t:SD):Prop :=
 ∀(a:A1 (A2×Obj)) (s:A4) (σ:St) (H:Hp) (Q:St->Hp->Prop) (k:Sem Fin) (F:Fin->A4->Prop) (E:A3->A4->Prop),Inv X a σ H s->t σ H Q ->
  (∀c σ' d,Inv X a σ' d c->Q σ' d->wpAny (model X.prog X.w) X.A k F E c)->wpAny (model X.prog X.w) X.A (b k) F E s
def UD(X:Cx)(ifs:A1 IL)(t:TT):Prop :=
 ∀(a:A1 (A2×Obj)) (s:A4) (σ:St) (H:Hp) (Q:Bool->Hp->Prop),Inv X a σ H s->t σ H Q ->
  wpAny (model X.prog X.w) X.A (forIn ifs true λc r=>if r=true then do let b <-isTrue c X.env (eval c X.env);pure (ForInStep.yield b)else pure (ForInStep.yield r)) (TP X a σ Q) X.xe s
def By:TT:=λ_ H Q=>Q true H
def J9{X:Cx}:UD X [] By:=λ_ _ _ H _ I h=>wpAny_tests_nil ⟨H,I,h⟩
def Ca{X:Cx}{c:IL}{t:TT}(h:PT X c t):UD X [c] t:=λa s σ H Q I q=>wpAny_tests_one (h a s σ H Q I q)
def Ji(g:TG)(e:TT)(f:SD)(J:It)(σ:St)(H:Hp)(Q:St->Hp->Prop):Prop :=
 ∃W:Nat->Nat->St->Hp->Prop,(∃m,W 0 m σ H)/\∀i m σ H,W i m σ H->(J.stop i H/\Q σ H)\/(J.go i H/\∀x c,J.yld i H x c->g x σ c λσ2 h=>e σ2 h λb d =>
  if b=true then f σ2 d λσ3 j=>∃a,a < m/\W (i+1) a σ3 j else ∃a,a < m/\W (i+1) a σ2 d)
section
variable{X:Cx}{e tg iter:IL}{d:Nat}{ifs:A1 IL}{emit:Sem Fin->Sem Fin}{it:A2}{acc:A3}{g:TG}{tc:TT}{em:SD}{J:It}{fp:A1 A2}{tn:Nat->IJ->Prop}{R:Result->A4->Prop}
theorem Co(G:X.A.under (.compLoop e d (.ref it) acc X.env)=X.A)(t:(model X.prog X.w).den (.compLoop e d (.ref it) acc X.env) =(compTurn e d (.ref it) acc X.env).onRaise (λx=>do noteFrame x X.env;theTreesLotGoes x))(V:X.calm=true)(L:X.xe=λ_ _=>False)(M:compTurn e d (.ref it) acc X.env=Mo e d iter tg ifs emit (.ref it) acc X.env)(hg:PG X tg g)(ht:UD X ifs tc)(N:PEm X emit em)
  (T:NE X.prog X.w X.K tg J fp it tn) {a:A1 (A2×Obj)} {s:A4} {σ:St} {H:Hp} {Q:St->Hp->Prop} (I:Inv X a σ H s) (st:tn 0 s.heap) (Y:∀b∈fp,Es X a H b) (h:Ji g tc em J σ H Q)
  (hR:∀v σ' H',Inv X a σ' H' v->Q σ' H'->R (.ok .next) v):codeAny (model X.prog X.w) X.A (.compLoop e d (.ref it) acc X.env) R s:=by
 obtain⟨W,⟨m0,w0⟩,y⟩:=h;have c:∀{H':Hp},(∀b∈fp,H' b=none)->∀b∈fp,Es X a H' b:=λhn b f=>⟨hn b f,(Y b f).2⟩;have Z:∀{α:Type} {m:Sem α} {P:α->A4->Prop} {E:A3->A4->Prop} {s:A4},wpAny (model X.prog X.w) X.A m P X.xe s->wpAny (model X.prog X.w) X.A m P E s:=λq=>by
  rw[L]at q;exact CI q (λ_ _ z=>z) λ_ _ z=>z.elim
 refine codeAny_loop rfl (λn v=>∃i σ' H',Inv X a σ' H' v/\tn i v.heap/\(∀b∈fp,H' b=none)/\W i n σ' H') (λn s3 hI=>?_) m0 ⟨0,σ,H,I,st,λb f=>(Y b f).1,w0⟩;obtain⟨i,σ3,D,I3,B,C,w3⟩:=hI;rw[G,t];refine wpAny_noted ?_;rw[M];unfold Mo;refine AB (HE (AB ?_));rcases y i n σ3 D w3 with⟨stop,qn⟩ | ⟨go,step⟩
 .refine CI (T.done X rfl rfl rfl V i a s3 σ3 D _ I3 (c C) B stop) (λr s4 ⟨O,I4⟩=>?_) λ_ _ z=>z;subst O;exact AG (hR s4 σ3 D I4 qn)
 .refine CI (T.item X rfl rfl rfl V i a s3 σ3 D _ I3 (c C) B go) (λr s4 ⟨u,O,h4⟩=>?_) λ_ _ z=>z;subst O;refine AB (CI h4 (λ_ s5 ⟨x,H5,I5,r5,y5,j,S⟩=>?_) λ_ _ z=>z);have U:=I5.pinned (c S) (T.obj _ _ j);have again:∀{σ7:St} {k:Hp} {l:A4},Inv X (a++Hh fp s5.heap) σ7 k l->(∃F,F < n/\W (i+1) F σ7 k)->∃m,m<n/\∃i σ' H',Inv X a σ' H' l/\tn i l.heap/\(∀b∈fp,H' b=none)/\W i m σ' H':=fun{σ7 k l} p n7=>by
   obtain⟨F,hm,w7⟩:=n7;refine⟨F,hm,i+1,σ7,k,p.unpinned,T.keep _ _ _ j λb f o e=>(p.pin (b,o) (BI _ (BI _ (X6 f e)))).1,λb f=>?_,w7⟩;obtain⟨o,e,d⟩:=T.obj _ _ j b f;exact(p.pin (b,o) (BI _ (BI _ (X6 f e)))).2.1
  refine AB (CI (Z (hg _ s5 σ3 H5 x u _ U r5 (step x H5 y5))) (λ_ s6 ⟨σ6,H6,I6,q6⟩=>?_) λ_ _ z=>z);refine AB (CI (Z (ht _ s6 σ6 H6 _ I6 q6)) (λok l ⟨k,p,q7⟩=>?_) λ_ _ z=>z);cases ok with
  | false=>exact AG ⟨rfl,again p q7⟩
  | true =>
   exact N _ l σ6 k _ _ _ _ p q7 λs8 σ8 H8 I8 q8=>AG ⟨rfl,again I8 q8⟩
theorem Ea(f:X.A.under (.compStart e d (.ref it) acc X.env)=X.A)(b:(model X.prog X.w).den (.compStart e d (.ref it) acc X.env) =(compStart e d (.ref it) acc X.env).onRaise (λx=>do noteFrame x X.env;standAt theWindowsPlace)){gs:A1 Comprehension}(g:clausesOf e=gs)(k:gs[d]?=some ⟨tg,iter,ifs,0⟩){s:A4}(T:NE X.prog X.w X.K tg J fp it tn)(st:tn 0 s.heap)
  (h:codeAny (model X.prog X.w) X.A (.compLoop e d (.ref it) acc X.env) R s):codeAny (model X.prog X.w) X.A (.compStart e d (.ref it) acc X.env) R s:=by
 refine codeAny_of_tree ?_;rw[f,b];refine wpAny_notedAt ?_;unfold compStart;rw[g,k];show wpAny _ X.A (ask >>= _) _ _ s;refine AB (wpAny_askSetting (wpAny_ite ?_));have j:=T.self X.A 0 s (λa c=>codeAny (model X.prog X.w) X.A (.compLoop e d a acc X.env) R c) (notedBy (model X.prog X.w) X.A X.env λx c=>R (.error x) c) st h;split
 .first
   | exact AB (AG (AG (And.intro rfl h)))
   | exact AG (And.intro rfl h)
 .first
   | exact AB (FD (AB (HE (AB (CI j (λa c i=>AG (And.intro rfl i)) λ_ _ x=>x)))))
   | (refine AB (FD ?_);show wpAny _ _ (standAt iter.pos >>= _) _ _ s;exact AB (HE (AB (CI j (λa c i=>AG (And.intro rfl i)) λ_ _ x=>x))))
end
section
variable{X:Cx}{tg iter:IL}{ifs:A1 IL}{g:TG}{tc:TT}{em:SD}{scope:JN}{cl:A1 (Str×A2)}{N':A1 Str}{cap:A1 (A5 Nat)}{pos:Pos}{wi:TI}
def Sz(wi:TI)(o:A2->HO)(cap:A1 (A5 Nat))(b:A2->It->St->Hp->(St->Hp->Prop)->Prop):TE:=λσ H Q=>wi σ H λJ a=>∀D,a D=none->b D J (Yu cap σ) (IH a D (o D)) λ_ c=>Q (.ref D) c
theorem No{e:IL}{gs:A1 Comprehension}{newAcc:Sem A3}{p2:Pos}(r:clausesOf e =⟨tg,iter,ifs,0⟩::gs)(o:A2->HO)(hs:∀x,foldedSetIterable iter X.env x=pure x)(S:NQ X scope cl N' cap)(hc:X.calm=true)(hi:PI X tg iter wi)
  {lp:A2->It->St->Hp->(St->Hp->Prop)->Prop}
  (t:∀(a:A1 (A2×Obj)) (s:A4) (σ:St) (H:Hp) (Q:A3->A4->Prop) (E:A3->A4->Prop),Inv X a σ H s->(∀l,Inv X a σ (IH H s.heap.objs.size (o s.heap.objs.size)) l->(∀b f,s.heap.get? b=some f->l.heap.get? b=some f)->Q (.ref s.heap.objs.size) l)->wpAny (model X.prog X.w) X.A newAcc Q E s)
  (L:∀(a:A1 (A2×Obj)) (M:A1 A2) (s3:A4) (N:Hp) (D k:A2) (fp:A1 A2) (u:Nat->IJ->Prop) (J:It) (σ:St) (s:A4) (H:Hp) (Q:St->Hp->Prop) (R:Result->A4->Prop),
   NE X.prog X.w X.K tg J fp k u->Inv (ND X scope cl N' a M s3 N) [] σ H s->u 0 s.heap->(∀b∈fp,Es (ND X scope cl N' a M s3 N) [] H b)->lp D J σ H Q ->
   (∀l σ' H',Inv (ND X scope cl N' a M s3 N) [] σ' H' l->Q σ' H'->R (.ok .next) l) ->
   codeAny (model X.prog X.w) X.A (.compLoop e 0 (.ref k) (.ref D) (compEnvC scope cl s3.heap.objs.size X.env)) R s)
  (O:∀k D g,X.A.under (.compStart e 0 (.ref k) (.ref D) g)=X.A) (B:∀k D g,(model X.prog X.w).den (.compStart e 0 (.ref k) (.ref D) g) =(compStart e 0 (.ref k) (.ref D) g).onRaise (λx=>do noteFrame x g;standAt theWindowsPlace))
  (P:∀E Q s,wpAny (model X.prog X.w) X.A (comprehension e scope X.env p2 newAcc false (eval iter X.env)) Q E s->wpAny (model X.prog X.w) X.A (eval e X.env) Q E s) :
  PE X e (Sz wi o cap lp):=by
 intro a s σ H Q I h;refine P _ _ _ (wpAny_comprehension_free (use:=none) r hs S.clos S.kind S.loc (JA (hi a s σ H _ I h) λv s1 C=>JA C λitv i h2=>?_));obtain⟨k,fp,u,J,q,U,I2,T,F,f2,R2⟩:=h2;subst U;refine t a i σ q _ _ I2 λs3 V k3=>?_;have hD:q i.heap.objs.size=none:=I2.hok.fresh (Nat.le_refl _);have n:∀b∈fp,Es X a (IH q i.heap.objs.size (o i.heap.objs.size)) b/\∃f,s3.heap.get? b=some f:=λb j=>by
  obtain⟨f,e,_⟩:=T.obj _ _ F b j;obtain⟨W,fr⟩:=f2 b j;exact⟨⟨by rw[B5 (AZ (AI e))];exact W,fr⟩,f,k3 b f e⟩
 refine wpAny_newFunctionEnv S.nocell (by intro y hy;simp at hy) (λC Y Z=>?_) S.kind;have hk:∀b f,s3.heap.get? b=some f->C.get? b=some f:=λb f e=>(Z.2 b (AZ (AI e))).trans (AE _ e);have I4:Inv (ND X scope cl N' a fp s3 (IH q i.heap.objs.size (o i.heap.objs.size))) [] (Yu cap σ) (IH q i.heap.objs.size (o i.heap.objs.size)) { s3 with heap:=C,toks:=s3.toks +([]:A1 (Str×A3)).length } :=
  V.block S hc n Y hk
 have G:u 0 C:=T.keep 0 _ _ F λb j f e=>hk b f (k3 b f e);refine Ea (X:=ND X scope cl N' a fp s3 (IH q i.heap.objs.size (o i.heap.objs.size))) (gs:=⟨tg,iter,ifs,0⟩::gs) (e:=e) (d:=0) (tg:=tg) (iter:=iter) (ifs:=ifs) (O _ _ _) (B _ _ _) r rfl T G ?_;refine L a fp s3 _ i.heap.objs.size k fp u J (Yu cap σ) _ _ _ _ T I4 G (λb j=>?_) (R2 _ hD) λl σ' H' I' q'=>?_
 .obtain⟨⟨W,f1,f2',f3,f4,f5⟩,f,eo⟩:=n b j;refine⟨W,AZ (AI eo),λhf=>?_,.inl j,λx c e=>f4 x c (S.cin.get e),λp hp=>f5 p (by simpa [ND] using hp)⟩;rcases AL.mp (V.stkSub b hf)with z | z
  .exact f1 z
  .exact f2' z
 .obtain⟨m,hn,_⟩:=I'.loc;exact⟨m,hn,λh' j=>⟨.ref _,H',V.unblock (λb j=>(n b j).1) I' j,rfl,q'⟩⟩
end
section
variable{X:Cx}{tg iter elt:IL}{ifs:A1 IL}{g:TG}{tc:TT}{te:TE}{scope:JN}{cl:A1 (Str×A2)}{N':A1 Str}{cap:A1 (A5 Nat)}{pos:Pos}{wi:TI}
def Cp(D:A2)(te:TE):SD:=λσ H Q=>te σ H λy b=>∃a,b D=some (.lst a)/\a.length<sizeLine/\Q σ (IH b D (.lst (a ++ [y])))
theorem Lx{α:Type}{X:Cx}(a:X.xe=λ_ _=>False){m:Sem α}{P:α->A4->Prop}{E:A3->A4->Prop}{s:A4}(q:wpAny (model X.prog X.w) X.A m P X.xe s):wpAny (model X.prog X.w) X.A m P E s:=by
 rw[a]at q;exact CI q (λ_ _ z=>z) λ_ _ z=>z.elim
theorem Od{D:A2}(b:X.xe=λ_ _=>False)(d:PE X elt te):PEm X (emL elt (.ref D) X.env) (Cp D te):=by
 intro a s σ H Q k F E I h e;unfold emL;refine AB (AB (CI (Lx b (d a s σ H _ I h)) (λu f ⟨y,g,i,j,l,m,n,o⟩=>?_) λ_ _ z=>z));refine AB (CI (Lx b (G8 a f σ g (.ref D) [y] (.ref D) [u] (λv c=>v = .non/\Q σ c) i rfl (.cons j .nil) ⟨D,l,y,rfl,rfl,m,n,rfl,o⟩)) (λv p ⟨t,c,q,w,_,r⟩=>?_) λ_ _ z=>z);exact AG (e p σ c q r)
theorem U1(S:NQ X scope cl N' cap)(i:X.calm=true)(hi:PI X tg iter wi)
  (j:∀(a:A1 (A2×Obj)) (c:A1 A2) (d:A4) (f:Hp),PG (ND X scope cl N' a c d f) tg g/\UD (ND X scope cl N' a c d f) ifs tc/\PE (ND X scope cl N' a c d f) elt te)
  (k:∀x,foldedSetIterable iter X.env x=pure x:=by intro _;rfl) :
  PE X (.ListComp elt [⟨tg,iter,ifs,0⟩] scope pos) (Sz wi (λ_=>.lst []) cap λD J σ H Q=>Ji g tc (Cp D te) J σ H Q):=by
 refine No (newAcc:=newList []) (p2:=firstIterPos [⟨tg,iter,ifs,0⟩] pos) rfl (λ_=>.lst []) k S i hi (λa s σ H Q E I h=>?_) (λa c d f D q r t J σ s H Q R T I st l h m=>?_) (λ_ _ _=>rfl) (λ_ _ _=>rfl) (λE Q s h=>h)
 .refine GM ?_;exact h _ (I.lnew (t':=s.toks) (its:=[]) .nil (CB _)) λb u e=>AE _ e
 .obtain⟨n,o,p⟩:=j a c d f;exact Co (X:=ND X scope cl N' a c d f) rfl rfl i rfl (Eb elt tg iter ifs scope pos _ _ _) n o (Od rfl p) T I st l h m
def Wp(D:A2)(c d:TE):SD:=λσ H Q=>c σ H λy e=>d σ e λv b=>∃a k,b D=some (.dK a)/\y=kV k/\a.length<sizeLine/\Q σ (IH b D (.dK (Cy a k v)))
theorem Vt{D:A2}{a b:IL}{j m:TE}(d:X.xe=λ_ _=>False)(o:PE X a j)(p:PE X b m):PEm X (emD a b D X.env) (Wp D j m):=by
 intro c s σ H Q k F E I h t;unfold emD;refine AB (AB (CI (Lx d (o c s σ H _ I h)) (λu w ⟨y,x,A,B,C⟩=>?_) λ_ _ z=>z));refine AB (BZ (CI (Lx d (p c w σ x _ A C)) (λr G ⟨v,W,n,J,f,kk,e,K,l,L⟩=>?_) λ_ _ z=>z));refine AB (HE (BZ ?_));subst K;obtain⟨z,M,N,g,O⟩:=zBq n.hok e;have P:N.length<=sizeLine:=by rw[<-g.length];exact z
 have R:(Cy f kk v).length<=sizeLine:=by have:=V2 f kk v;lia
 refine wpAny_dictSet_pairs (hsz:=P) (Kt B) O λS i T=>?_;have U:∃q,S.get? D=some q:=let⟨q,_,_,V,_⟩:=i;⟨q,V⟩;exact t _ σ _ (Js (t':=G.toks+1) n (by rw[e];exact True.intro) T U (Yz R M (g.put kk J) i)) L
theorem Uk{a b:IL}{j k:TE}(S:NQ X scope cl N' cap)(l:X.calm=true)(hi:PI X tg iter wi)
  (m:∀(c:A1 (A2×Obj)) (d:A1 A2) (f:A4) (i:Hp),PG (ND X scope cl N' c d f i) tg g/\UD (ND X scope cl N' c d f i) ifs tc/\PE (ND X scope cl N' c d f i) a j/\PE (ND X scope cl N' c d f i) b k)
  (n:∀x,foldedSetIterable iter X.env x=pure x:=by intro _;rfl) :
  PE X (.DictComp a b [⟨tg,iter,ifs,0⟩] scope pos) (Sz wi (λ_=>.dK []) cap λD J σ H Q=>Ji g tc (Wp D j k) J σ H Q):=by
 refine No (newAcc:=newDict) (p2:=firstIterPos [⟨tg,iter,ifs,0⟩] pos) rfl (λ_=>.dK []) n S l hi (λc s σ H Q E I h=>?_) (λc d f i D y z A J σ s H Q R T I st p h r=>?_) (λ_ _ _=>rfl) (λ_ _ _=>rfl) (λE Q s h=>h)
 .refine wpAny_newObj_type ?_;exact h _ (I.laid (a:=s.heap.objs.size) (o:=.dK []) (t':=s.toks) (λ_ _ q=>AE _ q) (Nat.le_refl _) (Oe s.heap I.big)) λb B e=>AE _ e
 .obtain⟨t,u,v,w⟩:=m c d f i;exact Co (X:=ND X scope cl N' c d f i) rfl rfl l rfl (Pc a b tg iter ifs scope pos _ _ _) t u (Vt rfl v w) T I st p h r
end
instance:LawfulBEq IZ where
 rfl {a}:=by cases a with
  | inl i=>show(i == i)=true;simp
  | inr x=>show(x == x)=true;simp
 eq_of_beq {a b} h:=by
  cases a with
  | inl i=>cases b with
   | inl j=>exact congrArg Sum.inl (eq_of_beq (show(i == j)=true from h))
   | inr j=>exact absurd h (by intro z;cases z)
  | inr i=>cases b with
   | inl j=>exact absurd h (by intro z;cases z)
   | inr j=>exact congrArg Sum.inr (eq_of_beq (show(i == j)=true from h))
def Pu(P:A7)(w:F8)(a:A2)(l:A1 IZ):HO:=.ext λh=>h.SetOf (D0 P w) a (λk=>decide (k∈l)) l.length
section
variable{X:Cx}{pins:A1 (A2×Obj)}{σ:St}{H:Hp}{s:A4}{a:A2}{l:A1 IZ}
theorem zDq{P:A7}{w:F8}{H:Hp}{h:IJ}(z:h.SetOf (D0 P w) a (λk=>decide (k∈l)) l.length):IU P w H h a (Pu P w a l) :=
 ⟨z,let⟨o,_,_,_,e,_⟩:=z;⟨o,e⟩,λd f ⟨o,b,c,t,e,r⟩ k=>⟨o,b,c,t,k o e,r⟩⟩
theorem Inv.set(I:Inv X pins σ H s)(e:H a=some (Pu X.prog X.w a l)):s.heap.SetOf (D0 X.prog X.w) a (λk=>decide (k∈l)) l.length:=by
 obtain⟨z,_⟩:=(show IU X.prog X.w H s.heap a (Pu X.prog X.w a l)from I.hok a _ e);exact z
theorem Lq{k:IZ}{u:A3}(r:RelV (kV k) u):u.scannable=true:=by
 cases k with
 | inl i=>obtain⟨t,rfl⟩:=r;rfl
 | inr x=>obtain⟨t,rfl⟩:=r;rfl
def zGd(l:A1 IZ)(k:IZ):A1 IZ:=if k∈l then l else l ++ [k]
theorem Ki{P:A7}{w:F8}{h:IJ}{S b:IZ->Bool}{n c:Nat}(z:h.SetOf (D0 P w) a S n)(e:∀k,b k=S k)(en:c=n):h.SetOf (D0 P w) a b c:=by
 have:b=S:=funext e;subst this;subst en;exact z
theorem Sk:K1 X (.type "set") (λxs H Q=>xs = []/\∀p,H p=none->Q (.ref p) (IH H p (Pu X.prog X.w p []))):=by
 intro pins s σ H xs c Q I r h;obtain⟨rfl,q⟩:=h;cases r;refine call_set_0 λa=>⟨.ref s.heap.objs.size,_,I.laid (t':=s.toks) (λb o e=>AE _ e) (Nat.le_refl _) (zDq ?_),rfl,q _ (I.hok.fresh (Nat.le_refl _))⟩;exact(setObjOf_fresh a).setOf (AS _ rfl) (by decide)
def zEm(P:A7)(w:F8):V->A1 V->Hp->VK->Prop:=λx b H Q=>∃a l k,x = .ref a/\b = [kV k]/\H a=some (Pu P w a l)/\l.length+1<4096/\Q .non (IH H a (Pu P w a (zGd l k)))
theorem zCv:RZ X "set.add" (zEm X.prog X.w):=by
 intro pins s σ H x r v t Q I g i h;obtain⟨a,l,k,rfl,rfl,c,j,q⟩:=h;cases g;obtain⟨u,rfl,d⟩:=i.one;refine call_set_add (Kt d) (Lq d) (I.set c) j λy m z=>?_;refine⟨.non,_,I.write (x:=a) (e:=a) (t':=s.toks+1) (by rw[c];exact True.intro) (.inl rfl) (λb q n e=>(m.2 b n).trans e) (let⟨o,_,_,_,e,_⟩:=z;⟨o,e⟩) (zDq (Ki z (λp=>?_) ?_)),rfl,q⟩
 .unfold zGd;by_cases e:k∈l
  .rw[AO e];by_cases f:p=k
   .subst f;simp[e]
   .simp[f]
  .rw[AN e];simp
 .unfold zGd;by_cases e:k∈l
  .rw[AO e];simp[e]
  .rw[AN e];simp[e]
def zIe(P:A7)(w:F8)(neg:Bool):R2:=λx y H Q=>∃a l k,y = .ref a/\x=kV k/\H a=some (Pu P w a l)/\Q (.bl (if neg then !decide (k∈l)else decide (k∈l))) H
theorem Qp:LD X (compareOp .In) (zIe X.prog X.w false):=by
 intro pins s σ H x y v u Q I b c h;obtain⟨a,l,k,rfl,rfl,d,q⟩:=h;cases c;exact wpAny_inSet_of (Kt b) (Lq b) (I.set d) ⟨.bl (decide (k∈l)),H,I.tok _,rfl,q⟩
end
def SV(x:Str):It:=⟨λi _=>i<x.cps.size,λi H v a=>a=H/\∃c,x.cps[i]?=some c/\v = .str ⟨#[c]⟩,λi _=>i=x.cps.size⟩
def Mw{P:A7}{w:F8}{K:PySem.W.Frag}{tg:IL}(a:A2)(x:Str)(t:Tok)(ty:String)(p:["enumerate", "zip", "dict_itemiterator", "dict_reverseitemiterator", "odict_iterator", "itertools.zip_longest", "itertools.pairwise"].contains ty=false)
  (W:∀R:IM,R.handled=none->Walks P w R a [a] [a] x.cps.size (SignAt x) (λi h=>h.IsStrIter a ty x t i))
  (g:∀(A:IM) (i:Nat) (s:A4) (Q:A3->A4->Prop) (E:A3->A4->Prop),s.heap.IsStrIter a ty x t i->Q (.ref a) s->wpAny (model P w) A (pyIter (.ref a)) Q E s):NE P w K tg (SV x) [a] a (λi h=>h.IsStrIter a ty x t i) where
 mem:=by simp
 obj:=λi h st b j=>by
  have e:b=a:=by simpa using j
  subst e;obtain⟨o,e,c,d⟩:=st;exact⟨o,e,λv z=>by rw[d]at z;cases z⟩
 keep:=λi h m st k=>let⟨o,e,r⟩:=st;⟨o,k a (by simp) o e,r⟩
 item:=by
  intro X q y B C i f s σ H E I n st D;subst q y B;obtain⟨F,G,S,J,L,M⟩:=n a (by simp);refine(W X.A (I.ok.hd C)).item i s _ _ D st λv m N T l k=>?_;obtain⟨c,u,U,V⟩:=T;have Y:Inv X f σ H { s with heap:=m,toks:=N }:=I.turned (λb o j e=>k b o (by simpa using j) e) F G J L M;obtain⟨o,e,Z,d⟩:=id l;exact⟨v,rfl,Oy (s:={ s with heap:=m,toks:=N }) e Z d p ⟨.str ⟨#[c]⟩,H,Y,⟨u,V⟩,⟨rfl,c,U,rfl⟩,l,λb j=>(n b j).1⟩⟩
 done:=by
  intro X q y B C i f s σ H E I n st D;subst q y B;obtain⟨F,G,S,J,L,M⟩:=n a (by simp);have O:i=x.cps.size:=D;subst O;exact(W X.A (I.ok.hd C)).done s _ _ st λm N k=>⟨rfl,I.turned (λb o j e=>k b o (by simpa using j) e) F G J L M⟩
 self:=λA i s Q E st h=>g A i s Q E st h
section
variable{X:Cx}{tg:IL}
def zJp(a:TE):TI:=λσ H R=>a σ H λx b=>∃z,x = .str z/\R (SV z) b
theorem zDv{l:IL}{k:TE}(n:PE X l k):PI X tg l (zJp k):=by
 intro a s σ H R I h;refine JA (n a s σ H _ I h) λv s1 ⟨x,p,g,r,u⟩=>?_;obtain⟨z,e,q⟩:=u;subst e;obtain⟨t,rfl⟩:=r;have f:∀(o:Obj) (ty:String),o.cls = .type ty->o.data = .fields #[.str z t,.int (0:Nat) 0]->o.isFreed=false->NE X.prog X.w X.K tg (SV z) [s1.heap.objs.size] s1.heap.objs.size (λi h=>h.IsStrIter s1.heap.objs.size ty z t i) ->
   PIE X a σ tg R (.ref s1.heap.objs.size) { s1 with heap:=s1.heap.push o }:=λo ty c d y T=>by
  refine⟨s1.heap.objs.size,[s1.heap.objs.size],_,_,p,rfl,g.kept (t':=s1.toks) λb o e=>AE _ e,T,⟨o,AS _ y,c,d⟩,λb B=>?_,q⟩;have e:b=s1.heap.objs.size:=by simpa using B
  subst e;exact g.fpOk (Nat.le_refl _) (g.hok.fresh (Nat.le_refl _))
 cases m:z.cps.all (· < 128)
 .exact wpAny_pyIter_wide m (f _ _ rfl rfl rfl (Mw _ z t "str_iterator" (by decide) (λC j=>Walks.strWide j _ z t) λA i s Q E st h=>wpAny_pyIter_striter_wide st h))
 .exact wpAny_pyIter_ascii m (f _ _ rfl rfl rfl (Mw _ z t "str_ascii_iterator" (by decide) (λC j=>Walks.strAscii j _ z t) λA i s Q E st h=>wpAny_pyIter_striter_ascii st h))
end
section
variable{X:Cx}
theorem Xd(E:X.calm=true):K1 X (.builtin "all") (λxs H Q=>∃(p:A2) (bs:A1 Bool),xs = [.ref p]/\IQ X.K H p (bs.map V.bl)/\Q (.bl (bs.all id)) H):=by
 intro B s σ H xs M Q I r h;obtain⟨p,bs,rfl,F,q⟩:=h;obtain⟨u,rfl,t⟩:=Y3 r;cases t;obtain⟨a,w,x,N⟩:=I.list F;refine call_all_walk (GQ x.isList ?_);have y:p≠s.heap.objs.size:=by
  obtain⟨o,n,e,_⟩:=x;exact AZ (AI e)
 refine⟨s.heap.objs.size,_,_,_,_,_,λi=>bs.getD i true,rfl,Walks.list (A:=X.A.in1) (show X.A.in1.handled=none from I.ok.hd E) _ p y a.toArray,⟨⟨_,AS _ rfl,rfl,rfl⟩,?_⟩,λi v O P R G J=>?_,λS T k=>?_⟩
 .obtain⟨o,n,e,c,d,L⟩:=x;exact⟨o,AE _ e,c,n,L⟩
 .have f:(bs.map V.bl)[i]?=some (V.bl (bs.getD i true))/\RelV (V.bl (bs.getD i true)) v:=by
   have g:a[i]?=some v:=by simpa using G
   have j:i<a.length:=(AF.mp g).1;have m:=w.length;rw[AA]at m;have e:(bs.map V.bl)[i]?=some (V.bl (bs.getD i true)):=by
    rw[AH,AC (by lia)];simp[AV,AC (show i<bs.length by lia)]
   obtain⟨u,C,t⟩:=w.get e;rw[g]at C;cases C;exact⟨e,t⟩
  cases f.2;exact CU J
 .have m:=w.length;rw[AA]at m;have e:(List.range a.toArray.size).all (λi=>bs.getD i true)=bs.all id:=by
   rw[AQ,<-m];rw[BP,FK,FK];constructor
   .intro z b f;obtain⟨i,j,rfl⟩:=FY.mp f;have:=z i (BW.mpr j);simpa [AV,AC j] using this
   .intro z i j;have l:=BW.mp j;have:=z bs[i] (FM l);simpa [AV,AC l] using this
  rw[e];exact⟨.bl (bs.all id),H,I.kept λb o D=>k b o (by
   intro f;have:b=s.heap.objs.size:=by simpa using f
   exact absurd (AI D) (by rw[this];exact EY _)) (AE _ D),rfl,q⟩
theorem Ec:∀{a:A1 Str} {us:A1 A3},IR (a.map V.str) us->StrsAre us a
 | [],_,.nil=>.nil
 | _::_,_,.cons ⟨t,e⟩ r=>by subst e;exact .cons _ _ (Ec r)
def SB(a b:Str):Prop:=¬b.cps.toList<a.cps.toList
theorem Hy:K1 X (.builtin "sorted") (λxs H Q=>∃(p:A2) (j:A1 Str),xs = [.ref p]/\IQ X.K H p (j.map V.str)/\∀(l:A2) (c:A1 Str),H l=none->c.Perm j->c.Pairwise SB->Q (.ref l) (IH H l (.lst (c.map V.str)))):=by
 intro F s σ H xs f Q I r h;obtain⟨p,j,rfl,M,q⟩:=h;obtain⟨u,rfl,N⟩:=Y3 r;cases N;obtain⟨g,G,O,Y⟩:=I.list M;have m:=Ec G;have Z:=G.length;refine TS.O_ (collect_list (vs:=g) O.isList ?_ (by lia));refine⟨rfl,by lia,strKind,oneType',λs2 _=>TS.RH m,λa J e P k R=>?_⟩;have i:((s.heap.push (seqObj "list" #[] 0)).update s.heap.objs.size (Obj.mapSeq (· ++ g.toArray))).objs.size=s.heap.objs.size+1:=by rw[FI,size_push']
 obtain⟨n,S⟩:=P;have w:∀v∈a.toList,∃x t,v = .str x t:=λv z=>m.all v (n.mem_iff.mp z);have z:IR ((a.toList.map strOf).map V.str) a.toList:=by
  have:∀f:A1 A3,(∀v∈f,∃x t,v = .str x t)->IR ((f.map strOf).map V.str) f:=by
   intro f
   induction f with
   | nil=>exact λ_=>.nil
   | cons v r T =>
    intro h;obtain⟨x,t,rfl⟩:=h v (BE ..);exact .cons ⟨t,rfl⟩ (T λu A=>h u (BA _ A))
  exact this _ w
 have d:(a.toList.map strOf).Perm j:=by
  have:=n.map strOf
  rwa [m.strs]at this
 have B:(a.toList.map strOf).Pairwise SB:=by
  rw[CC];refine(List.Pairwise.and_mem.mp S).imp fun{u v} ⟨A,C,q⟩=>?_;obtain⟨x,t,rfl⟩:=w u A;obtain⟨y,t',rfl⟩:=w v C;have U:decide (y.cps.toList<x.cps.toList)=false:=q;exact of_decide_eq_false U
 have D:∀b o,s.heap.get? b=some o->J.get? b=some o:=λb o L=>k b o (by
  rw[Heap.get?_update_ne _ _ _ _ (AZ (AI L))];exact AE _ L)
 have W:H (s.heap.objs.size+1)=none:=I.hok.fresh (EK _);have E:J.get? (s.heap.objs.size+1)=some (seqObj "list" a e):=by rw[<-i];exact R
 refine⟨.ref (s.heap.objs.size+1),IH H (s.heap.objs.size+1) (.lst ((a.toList.map strOf).map V.str)),?_,by show Value.ref _=_;rw[<-i],q _ _ W d B⟩;refine I.laid (t':=s.toks) D (EK _) ⟨?_,a.toList,e,z,by simpa using E⟩;rw[AA,AA,n.length_eq];lia
end
def z6{α β:Type}(f:α->β){l m:A1 β}(h:l.Perm m):∀a:A1 α,m=a.map f->∃b:A1 α,b.Perm a/\l=b.map f:=by
 induction h with
 | nil=>intro a e;exact⟨a,.refl _,e⟩
 | cons x _ o =>
  intro a e;cases a with
  | nil=>cases e
  | cons p a =>
   rw[BB]at e;obtain⟨rfl,c⟩:=HC e;obtain⟨b,d,g⟩:=o a c;exact⟨p::b,.cons _ d,by rw[BB,g]⟩
 | swap x y l =>
  intro a e
  match a,e with
  | p::q::a,e =>
   rw[BB,BB]at e;obtain⟨rfl,c⟩:=HC e;obtain⟨rfl,r⟩:=HC c;exact⟨q::p::a,.swap _ _ _,by rw[BB,BB,r]⟩
 | trans _ _ i j =>
  intro a e;obtain⟨k,d,g⟩:=j a e;obtain⟨n,s,t⟩:=i k g;exact⟨n,s.trans d,t⟩
abbrev JS:=A2×Str×Str
def Uz(q:JS):A1 Nat×A1 Nat:=(q.2.1.cps.toList,q.2.2.cps.toList)
def SL(q r:JS):Prop:=TS.KH (Uz r) (Uz q)=false
def F0(H:Hp)(q:JS):Prop:=H q.1=some (.tup [.str q.2.1,.str q.2.2])
def Gx:∀{a:A1 JS} {us:A1 A3},IR (a.map λq=>V.ref q.1) us->us=a.map λq=>Value.ref q.1
 | [],_,.nil=>rfl
 | _::_,_,.cons r t=>by rw[BB,Gx t];cases r;rfl
def Gf:∀(a:A1 JS),IR (a.map λq=>V.ref q.1) (a.map λq=>Value.ref q.1)
 | []=>.nil
 | _::a=>.cons rfl (Gf a)
section
variable{X:Cx}
theorem Inv.pairAt{a:A1 (A2×Obj)}{σ:St}{H:Hp}{s:A4}{q:JS}(I:Inv X a σ H s)(h:F0 H q):TS.NA s.heap (.ref q.1) q.2.1 q.2.2:=by
 obtain⟨b,f,⟨o,e,c,n,d⟩,_⟩:=I.tuple (JH.of h);obtain⟨i,j,rfl,⟨t,rfl⟩,⟨g,rfl⟩⟩:=f.two;exact⟨q.1,o,n,t,g,rfl,e,c,d⟩
theorem Ie:K1 X (.builtin "sorted") (λxs H Q=>∃(p:A2) (j:A1 JS),xs = [.ref p]/\IQ X.K H p (j.map λq=>V.ref q.1)/\(∀q∈j,F0 H q) /\
  ∀(l:A2) (c:A1 JS),H l=none->c.Perm j->c.Pairwise SL->Q (.ref l) (IH H l (.lst (c.map λq=>V.ref q.1)))):=by
 intro C s σ H xs us Q I r h;obtain⟨p,j,rfl,m,y,q⟩:=h;obtain⟨u,rfl,O⟩:=Y3 r;cases O;obtain⟨d,D,P,E⟩:=I.list m;have F:=Gx D;have hl:=D.length;refine TS.O_ (collect_list (vs:=d) P.isList ?_ (by lia));have f:((s.heap.push (seqObj "list" #[] 0)).update s.heap.objs.size (Obj.mapSeq (· ++ d.toArray))).objs.size=s.heap.objs.size+1:=by rw[FI,size_push']
 have n:∀b o,s.heap.get? b=some o->((s.heap.push (seqObj "list" #[] 0)).update s.heap.objs.size (Obj.mapSeq (· ++ d.toArray))).get? b=some o:=λb o g=>by
  rw[Heap.get?_update_ne _ _ _ _ (AZ (AI g))];exact AE _ g
 have i:∀q∈j,TS.NA s.heap (.ref q.1) q.2.1 q.2.2:=λq m=>I.pairAt (y q m);refine⟨rfl,by lia,TS.pairKind s.heap,tuples' true,λs2 R=>TS.QY (λv G=>?_) (λb o g=>?_),λt S e T k U=>?_⟩
 .rw[F]at G;obtain⟨q,m,rfl⟩:=AJ.mp G;exact⟨_,_,i q m⟩
 .have w:b≠((s.heap.push (seqObj "list" #[] 0)).update s.heap.objs.size (Obj.mapSeq (· ++ d.toArray))).objs.size:=by
   rw[f];exact AZ (EA (AI g))
  exact⟨w,R b o w (n b o g)⟩
 .obtain⟨J,L⟩:=T;rw[F]at J;obtain⟨c,x,M⟩:=z6 (λq:JS=>Value.ref q.1) J j rfl;have A:c.Pairwise SL:=by
   rw[M,CC]at L;refine(List.Pairwise.and_mem.mp L).imp fun{a b} ⟨W,Y,z⟩=>?_;have Z:=(i a (x.mem_iff.mp W)).key;have kb:=(i b (x.mem_iff.mp Y)).key;have N:TS.KH ((TS.OC s.heap (.ref b.1)).getD ([],[])) ((TS.OC s.heap (.ref a.1)).getD ([],[]))=false:=z;rw[Z,kb]at N;exact N
  have hn:H (s.heap.objs.size+1)=none:=I.hok.fresh (EK _);have B:S.get? (s.heap.objs.size+1)=some (seqObj "list" t e):=by rw[<-f];exact U
  refine⟨.ref (s.heap.objs.size+1),IH H (s.heap.objs.size+1) (.lst (c.map λq=>V.ref q.1)),?_,by show Value.ref _=_;rw[<-f],q _ _ hn x A⟩;refine I.laid (t':=s.toks) (λb o g=>k b o (n b o g)) (EK _) ⟨?_,t.toList,e,by rw[M];exact Gf c,by simpa using B⟩;rw[AA,x.length_eq];rw[AA]at E;exact E
end
def Inv.turnLaid{X:Cx}{d:A1 (A2×Obj)}{σ:St}{H:Hp}{s:A4}{h':IJ}{t':Nat}{fp:A1 A2}{T:A2}{o:HO}(I:Inv X d σ H s)(k:∀b a,b∉fp->s.heap.get? b=some a->h'.get? b=some a)
  (i:∀b∈fp,Es X d H b) (x:∀b∈fp,∃a,s.heap.get? b=some a) (l:s.heap.objs.size<=T) (j:IU X.prog X.w (IH H T o) h' T o):Inv X d σ (IH H T o) { s with heap:=h',toks:=t' }:=by
 have h:=I.hok.fresh l;have y:∀b a,s.heap.get? b=some a->b≠T:=λb a e=>AZ (BK (AI e) l);have p:∀b u,H b=some u->b∉fp:=λb u e f=>by rw[(i b f).1]at e;cases e
 refine I.step (g':=s.gens) (d':=s.drawn) (ch:=fp) (λb f=>let⟨_,A,_,B,C,D⟩:=i b f;⟨B,A,C,D⟩) (λb a _ _ g e _=>k b a g e) (λb a _ _ g e _=>⟨a.slots,k b a g e⟩) (λb a _ e n=>by rw[B5 (y b a e)];exact n)
  (λb a g e=>⟨a,k b a g e⟩) (λb t e=>by rw[B5 (A9 e h)];exact e) (λb u t e=>by rw[B5 (A9 e h)];exact e) (λb K e=>⟨#[],by rw[B5 (A9 e h),e];simp⟩) (λm E=>?_) (λb u e=>?_) I.bare
 .obtain⟨a,F,G,J,r⟩:=E;exact⟨a,F,G,k _ a (λf=>(i _ f).2.1 rfl) J,r⟩
 .by_cases f:b=T
  .subst f;rw[B1]at e;cases e;exact j
  .rw[B5 f]at e;refine(I.hok b u e).stay (λc v g q=>k c v ?_ q) (λc q=>by rw[B5 (A9 q h)];exact q) λc t q=>by rw[B5 (A9 q h)];exact q
   rcases g with z | z
   .rw[z];exact p b u e
   .exact p c _ z
def Ite(K:PySem.W.Frag)(a:A2):It :=
 ⟨λi H=>∃b x,IQ K H a b/\b[i]?=some x,λi H v c=>∃T x,v = .ref T/\H T=none/\c=IH H T (.tup [.int i,x])/\∀b,IQ K H a b->b[i]?=some x,λi H=>∃b,IQ K H a b/\b.length=i⟩
def Ut{P:A7}{w:F8}{K:PySem.W.Frag}{F:A1 IL}{kk:Nat}{tp:Pos}(a g e:A2)(N:e≠g):NE P w K (.Tuple F kk tp) (Ite K a) [e,g] e (λi h=>(∃f,IsEnum h e g i f)/\h.IsListIter g a i) where
 mem:=by simp
 obj:=λi h st b hb=>by
  obtain⟨⟨f,y⟩,o,G,c,d⟩:=st;rcases AL.mp hb with rfl | hb
  .exact⟨_,y,λv z=>by cases z⟩
  .rw[AD.mp hb];exact⟨o,G,λv z=>by rw[d]at z;cases z⟩
 keep:=λi h h' st k=>⟨let⟨f,y⟩:=st.1;⟨f,k e (by simp) _ y⟩,st.2.at λo x=>k g (by simp) o x⟩
 item:=by
  intro X hP hw hK B i O s σ H E I D st hg;subst hP hw hK;obtain⟨xs,x,Z,hx⟩:=hg;obtain⟨j,rv,p,hz⟩:=I.list Z;obtain⟨u,hu,ru⟩:=rv.get hx;obtain⟨f0,f1,f2,f3,f4,f5⟩:=D e (by simp);obtain⟨g0,g1,g2,g3,g4,g5⟩:=D g (by simp);have J:a≠e:=λz=>by
   obtain⟨f,y⟩:=st.1;obtain⟨o,n,l,c,_⟩:=p;rw[z,y]at l;cases l;exact absurd c (by show ¬Value.type "enumerate" = Value.type "list";decide)
  have L:a≠g:=λz=>by
   obtain⟨o2,G,c2,d2⟩:=st.2;obtain⟨o,n,l,c,_⟩:=p;rw[z,G]at l;cases l;rw[c2]at c;exact absurd c (by decide)
  have hi:i<j.toArray.size:=by
   rw[AQ];exact(AF.mp hu).1
  have W:=WalksT.enumerate (prog:=X.prog) (w:=X.w) (A:=X.A) (I.ok.hd B) e g a N J L j.toArray;refine W.item i s _ _ hi ⟨st.1,st.2,p.isList⟩ λT vals h' tk hv hT ht R k=>?_;obtain⟨t,x',S,rfl⟩:=hv;have:x'=u:=by
   have:j.toArray[i]?=some u:=by simpa using hu
   rw[this]at S;exact(BN S).symm
  subst this;refine⟨.ref T,rfl,W.go F kk tp i T _ _ _ R λG U k2=>?_⟩;have hTn:H T=none:=I.hok.fresh hT;have V:T≠e:=λz=>W.apart i T h' R (by simp[z]);have Y:T≠g:=λz=>W.apart i T h' R (by simp[z]);have kk2:∀b o,b≠e->b≠g->s.heap.get? b=some o->G.get? b=some o:=λb o b1 b2 M=>k2 b o (by simp[b1,b2]) (k b o (by simp[b1,b2]) M);have hT2:G.IsTuple T #[.int i t,x']:=by
   obtain⟨o,l,r⟩:=ht;exact⟨o,k2 T o (by simp[V,Y]) l,r⟩
  refine⟨.ref T,IH H T (.tup [.int i,x]),I.turnLaid (fp:=[e,g]) (λb o hb M=>kk2 b o (λz=>hb (by simp[z])) (λz=>hb (by simp[z])) M) D (λb hb=>?_) hT ⟨?_,[.int i t,x'],.cons ⟨t,rfl⟩ (.cons ru .nil),hT2⟩,rfl,⟨T,x,rfl,hTn,rfl,λys hy=>by rw[I.list_inj hy Z];exact hx⟩,⟨U.1,U.2.1⟩,λb hb=>?_⟩
  .rcases AL.mp hb with rfl | hb
   .obtain⟨f,y⟩:=st.1;exact⟨_,y⟩
   .rw[AD.mp hb];obtain⟨o,y,_⟩:=st.2;exact⟨o,y⟩
  .show 2<=sizeLine;decide
  .rcases AL.mp hb with rfl | hb
   .rw[B5 (Ne.symm V)];exact f0
   .rw[AD.mp hb,B5 (Ne.symm Y)];exact g0
 done:=by
  intro X hP hw hK B i O s σ H E I D st hg;subst hP hw hK;obtain⟨xs,Z,hx⟩:=hg;obtain⟨j,rv,p,hz⟩:=I.list Z;obtain⟨f0,f1,f2,f3,f4,f5⟩:=D e (by simp);obtain⟨g0,g1,g2,g3,g4,g5⟩:=D g (by simp);have J:a≠e:=λz=>by
   obtain⟨f,y⟩:=st.1;obtain⟨o,n,l,c,_⟩:=p;rw[z,y]at l;cases l;exact absurd c (by show ¬Value.type "enumerate" = Value.type "list";decide)
  have L:a≠g:=λz=>by
   obtain⟨o2,G,c2,d2⟩:=st.2;obtain⟨o,n,l,c,_⟩:=p;rw[z,G]at l;cases l;rw[c2]at c;exact absurd c (by decide)
  have W:=WalksT.enumerate (prog:=X.prog) (w:=X.w) (A:=X.A) (I.ok.hd B) e g a N J L j.toArray;have hl:=rv.length;have hi:i=j.toArray.size:=by rw[AQ];lia
  rw[hi]at st;refine W.done s _ _ ⟨st.1,st.2,p.isList⟩ λh' tk k=>⟨rfl,?_⟩;have I1:=I.step (h':=h') (H':=H) (t':=tk) (g':=s.gens) (d':=s.drawn) (ch:=[e,g]) (λb hb=>let⟨_,f1,_,f3,f4,f5⟩:=D b hb;⟨f3,f1,f4,f5⟩) (λb C _ _ B e _=>k b C B e) (λb C _ _ B e _=>⟨C.slots,k b C B e⟩) (λ_ _ _ _ n=>n)
   (λb C B e=>⟨C,k b C B e⟩) (λ_ _ e=>e) (λ_ _ _ e=>e) (λb ps e=>⟨#[],by rw[e];simp⟩) (λm R=>?_) (λb u M=>?_) I.bare
  .exact I1
  .obtain⟨C,es,ep,ho,r⟩:=R;exact⟨C,es,ep,k _ C (λhb=>(D _ hb).2.1 rfl) ho,r⟩
  .have nf:∀b u,H b=some u->b∉[e,g]:=λb u e hb=>by rw[(D b hb).1]at e;cases e
   refine(I.hok b u M).stay (λc v B q=>k c v ?_ q) (λ_ q=>q) λ_ _ q=>q;rcases B with z | z
   .rw[z];exact nf b u M
   .exact nf c _ z
 self:=λA i s Q E st h=>by
  obtain⟨f,he⟩:=st.1;exact wpAny_pyIter_enum he h
section
variable{X:Cx}{elts:A1 IL}{kk:Nat}{tp:Pos}
def zFb(K:PySem.W.Frag)(c:TA):TI:=λσ H R=>c σ H λd b=>∃a e,d = [.ref a]/\IQ K b a e/\R (Ite K a) b
theorem Zh{a:IL}{g:TA}{p pos:Pos}(m:Gl X "enumerate")(n:X.mg "enumerate" = none)(o:bootBuiltins "enumerate" = some (.type "enumerate"))(r:PA X [a] g)(t:starEach [a] X.env = [(false,eval a X.env)]:=by rfl):PI X (.Tuple elts kk tp) (.Call (.Name "enumerate" p) [a] [] pos) (zFb X.K g):=by
 intro c s σ H R I h;refine Call_ (W2 I m n o (PyProof.Rows.callWith_type1 (JA (r pos c s σ H _ I h) λF s1 ⟨G,i,d,v,w⟩=>?_) t rfl));obtain⟨l,J,e,x,q⟩:=w;subst e;obtain⟨u,rfl,y⟩:=Y3 v;cases y;obtain⟨A,L,B,M⟩:=d.list x;refine call_enumerate_list B.isList λC j f D k=>wpAny_pyIter_enum j ?_;have E:Inv X c σ i { s1 with heap:=C }:=d.kept (t':=s1.toks) k;refine⟨s1.heap.objs.size+1,[s1.heap.objs.size+1,s1.heap.objs.size],_,_,i,rfl,E,Ut l s1.heap.objs.size (s1.heap.objs.size+1) (Nat.succ_ne_self _),⟨⟨_,j⟩,f⟩,λb hb=>?_,q⟩;rcases AL.mp hb with z | hb
 .rw[z];exact d.fpOk (EK _) (d.hok.fresh (EK _))
 .rw[AD.mp hb];exact d.fpOk (Nat.le_refl _) (d.hok.fresh (Nat.le_refl _))
end
end L2
namespace ST
open PySem
def stp(mask i:Nat):Nat:=(5*i+1) %(mask+1)
def SC(mask:Nat):Nat->Nat->Nat
 | 0,i=>i
 | t+1,i=>SC mask t (stp mask i)
def orb(mask:Nat):Nat->Nat->A1 Nat
 | 0,_=>[]
 | n+1,i=>i::orb mask n (stp mask i)
def Li(mask a b i:Nat):SC mask (a+b) i=SC mask b (SC mask a i):=by
 induction a generalizing i with
 | zero=>rw[EF];rfl
 | succ a c=>rw[Nat.succ_add];exact c (stp mask i)
def Re{mask j:Nat}:∀{n i:Nat},j∈orb mask n i->∃t,t<n/\SC mask t i=j
 | 0,_,h=>by simp[orb]at h
 | n+1,i,h=>by
  rcases AL.mp h with rfl | h
  .exact⟨0,by lia,rfl⟩
  .obtain⟨t,b,a⟩:=Re h;exact⟨t+1,by lia,a⟩
def SE(mask:Nat):Prop:=mask=7\/mask=31\/mask=127\/mask=511
def RJ(mask:Nat):Bool:=(List.range (mask+1)).all (λj=>(orb mask (mask+1) 0).contains j)&&SC mask (mask+1) 0 == 0
def zHr:RJ 7=true:=by decide +kernel
def zEf:RJ 31=true:=by decide +kernel
def Zp:RJ 127=true:=by decide +kernel
def zAx:RJ 511=true:=by decide +kernel
def SE.full{mask:Nat}(h:SE mask):RJ mask=true:=by
 rcases h with rfl | rfl | rfl | rfl
 .exact zHr
 .exact zEf
 .exact Zp
 .exact zAx
def cyc{mask:Nat}(h:SE mask){i j:Nat}(hi:i<=mask)(l:j<=mask):∃t,t<=mask/\SC mask t i=j:=by
 have f:=h.full;unfold ST.RJ at f;rw[BT,FK]at f;obtain⟨m,d⟩:=f;have d:SC mask (mask+1) 0=0:=by simpa using d
 have c:∀k,k<=mask->∃t,t<mask+1/\SC mask t 0=k:=λk o=>Re (by simpa using m k (BW.mpr (by lia)));obtain⟨a,p,e⟩:=c i hi;obtain⟨b,q,g⟩:=c j l;by_cases n:a<=b
 .refine⟨b-a,by lia,?_⟩;rw[<-e,<-Li,show a +(b-a)=b by lia,g]
 .refine⟨mask+1-a+b,by lia,?_⟩;rw[<-e,<-Li,show a +(mask+1-a+b) =(mask+1)+b by lia,Li,d,g]
def OD(mask:Nat):Nat->Nat×Nat->Nat×Nat
 | 0,x=>x
 | t+1,x=>OD mask t (SetTable.leap mask x.1 x.2)
def zBz(mask a b:Nat)(x:Nat×Nat):OD mask (a+b) x=OD mask b (OD mask a x):=by
 induction a generalizing x with
 | zero=>rw[EF];rfl
 | succ a c=>rw[Nat.succ_add];exact c _
def Of(mask:Nat):∀(t:Nat) (x:Nat×Nat),(OD mask t x).2=x.2 / 32^t
 | 0,x=>by simp[OD]
 | t+1,x=>by
  show(OD mask t (SetTable.leap mask x.1 x.2)).2=_;rw[Of mask t];show x.2 / 32 / 32^t=_;rw[Nat.div_div_eq_div_mul,Nat.pow_succ,Nat.mul_comm]
def Yl(mask:Nat):∀(t:Nat) (x:Nat×Nat),x.1<=mask->(OD mask t x).1<=mask
 | 0,_,h=>h
 | t+1,x,_=>Yl mask t _ (Nat.lt_succ_iff.mp (Nat.mod_lt _ (Nat.succ_pos _)))
def Nk(mask:Nat):∀(t i:Nat),OD mask t (i,0) =(SC mask t i,0)
 | 0,_=>rfl
 | t+1,i=>by
  show OD mask t ((i*5+1+0 / 32) %(mask+1),0 / 32)=_;rw[Nat.zero_div,Nat.add_zero,Nk mask t,Nat.mul_comm];rfl
def Te{mask:Nat}(h:SE mask){i j p:Nat}(hi:i<=mask)(a:j<=mask)(b:p<2^64):∃t,t<=mask+13/\(OD mask t (i,p)).1=j:=by
 have c:(OD mask 13 (i,p)).2=0:=by
  rw[Of];exact Nat.div_eq_of_lt (BK b (by decide))
 obtain⟨t,e,d⟩:=cyc h (Yl mask 13 (i,p) hi) a;refine⟨13+t,by lia,?_⟩;rw[zBz];have:OD mask 13 (i,p) =((OD mask 13 (i,p)).1,0):=Prod.ext rfl c;rw[this,Nk];exact d
def N_(t:IW):Nat->SetTable.Probe->SetTable.Probe
 | 0,p=>p
 | n+1,p=>N_ t n (t.advance p)
def Th(t:IW)(a b:Nat)(p:SetTable.Probe):N_ t (a+b) p=N_ t b (N_ t a p):=by
 induction a generalizing p with
 | zero=>rw[EF];rfl
 | succ a c=>rw[Nat.succ_add];exact c _
def Rx(t:IW):∀(m:Nat) (p:SetTable.Probe),p.more=m->∃a,N_ t (m+1) p=a/\a.i =(SetTable.leap t.mask p.i p.perturb).1/\a.perturb =(SetTable.leap t.mask p.i p.perturb).2/\a.j=a.i/\a.more=SetTable.runEnd t.mask a.i-a.i/\a.dummy=p.dummy
 | 0,p,h=>by
  have b:t.advance p ={ p with j:=(SetTable.leap t.mask p.i p.perturb).1,more:=SetTable.runEnd t.mask (SetTable.leap t.mask p.i p.perturb).1-(SetTable.leap t.mask p.i p.perturb).1,i:=(SetTable.leap t.mask p.i p.perturb).1,perturb:=(SetTable.leap t.mask p.i p.perturb).2 }:=by
   unfold SetTable.advance;rw[AN (by lia)]
  refine⟨t.advance p,rfl,?_⟩;rw[b];exact⟨rfl,rfl,rfl,rfl,rfl⟩
 | m+1,p,h=>by
  have b:t.advance p ={ p with j:=p.j+1,more:=p.more-1 }:=by unfold SetTable.advance;rw[AO (by lia)]
  obtain⟨a,d,c⟩:=Rx t m (t.advance p) (by rw[b];show p.more-1=m;lia);rw[b]at c;exact⟨a,d,c⟩
def zDs(mask i:Nat):SetTable.runEnd mask i-i<=9:=by unfold SetTable.runEnd;split<;>lia
def Uj(t:IW):∀(n:Nat) (p:SetTable.Probe),p.j=p.i->p.more=SetTable.runEnd t.mask p.i-p.i->∃k,k<=10*n/\(N_ t k p).j =(OD t.mask n (p.i,p.perturb)).1
 | 0,p,a,_=>⟨0,by lia,a⟩
 | n+1,p,a,l=>by
  obtain⟨b,e,c,d,f,g,_⟩:=Rx t p.more p rfl;obtain⟨k,m,h⟩:=Uj t n b f g;have:=zDs t.mask p.i;refine⟨p.more+1+k,by lia,?_⟩;rw[Th,e,h,c,d];rfl
def Hx(t:IW):∀(n:Nat) (p:SetTable.Probe),(N_ t n p).dummy=p.dummy
 | 0,_=>rfl
 | n+1,p=>by
  show(N_ t n (t.advance p)).dummy=_;rw[Hx t n];unfold SetTable.advance;split<;>rfl
def Sd{t:IW}(a:SE t.mask)(h:Int){j:Nat}(b:j<=t.mask):∃n,n<10*SetTable.turns t.mask/\(N_ t n (t.probeStart h)).j=j:=by
 have c:SetTable.bits h<2^64:=by
  unfold SetTable.bits;have g:0<=h %(2^64:Int):=GL _ (by decide);have i:h %(2^64:Int)<2^64:=FO _ (by decide);lia
 have d:SetTable.bits h %(t.mask+1)<=t.mask:=Nat.lt_succ_iff.mp (Nat.mod_lt _ (Nat.succ_pos _));obtain⟨n,l,e⟩:=Te a d b c;obtain⟨k,m,f⟩:=Uj t n (t.probeStart h) rfl rfl;refine⟨k,by unfold SetTable.turns;lia,f.trans e⟩
def t6{t:IW}(a:t.dummies = #[])(j:Nat):t.slot j = .empty\/∃i,t.slot j = .live i/\t.place[i]?=some j:=by
 unfold SetTable.slot;dsimp only;by_cases h:(t.place[SetTable.below t.place j]? == some j)=true
 .rw[AO h];exact .inr ⟨_,rfl,by simpa using h⟩
 .rw[AN h];have:SetTable.has t.dummies j=false:=by
   rw[a];unfold SetTable.has;simp
  rw[this];exact .inl rfl
def Pe{t:IW}(c:t.dummies = #[])(f:t.place.size<=t.mask):∃j,j<=t.mask/\t.slot j = .empty:=by
 by_cases h:∃j,j<=t.mask/\t.slot j = .empty
 .exact h
 .exfalso;have a:∀j∈List.range (t.mask+1),j∈t.place.toList:=λj d=>by
   have b:j<=t.mask:=by have:=BW.mp d;lia
   rcases t6 c j with e | ⟨i,_,e⟩
   .exact absurd ⟨j,b,e⟩ h
   .exact AM (by rw[BU];exact e)
  have:=(GD (n:=t.mask+1)).length_le_of_subset a;rw[CD,BG]at this;lia
def Xs{t:IW}(o:t.dummies = #[])(hashAt:Nat->Int)(h:Int)(p:SetTable.Probe)(c:p.dummy=none):∀(k m n a:Nat),m+k=n->t.slot (N_ t n p).j = .empty->k<a ->
  (∃j,SetTable.probe.go t hashAt h a (N_ t m p)=some (.empty j none)/\t.slot j = .empty) \/
   ∃l i,m<=l/\l<n/\t.slot (N_ t l p).j = .live i/\hashAt i=h/\SetTable.probe.go t hashAt h a (N_ t m p)=some (.candidate (N_ t l p).j i (N_ t (l+1) p))
 | k,m,n,0,_,_,q=>absurd q (Nat.not_lt_zero _)
 | k,m,n,a+1,e,r,q=>by
  have d:(N_ t m p).dummy=none:=(Hx t m p).trans c;have s:N_ t (m+1) p=t.advance (N_ t m p):=Th t m 1 p;rcases t6 o (N_ t m p).j with b | ⟨i,b,A⟩
  .refine .inl ⟨(N_ t m p).j,?_,b⟩;unfold SetTable.probe.go;rw[b,d]
  .have B:k≠0:=by
    rintro rfl;have:m=n:=by lia
    subst this;rw[r]at b;cases b
   by_cases f:hashAt i=h
   .refine .inr ⟨m,i,Nat.le_refl _,by lia,b,f,?_⟩;unfold SetTable.probe.go;rw[b];dsimp only;rw[AO (by simpa using f),s]
   .have u:SetTable.probe.go t hashAt h (a+1) (N_ t m p)=SetTable.probe.go t hashAt h a (N_ t (m+1) p):=by
     conv=>lhs;unfold SetTable.probe.go
     rw[b];dsimp only;rw[AN (by simpa using f),s]
    rcases Xs o hashAt h p c (k-1) (m+1) n a (by lia) r (by lia)with⟨j,v,g⟩ | ⟨l,w,v,g,x,y,z⟩
    .exact .inl ⟨j,u.trans v,g⟩
    .exact .inr ⟨l,w,by lia,g,x,y,u.trans z⟩
def Fr{α β:Type}{f g:α->A5 β}:∀{l:A1 α},(∀x∈l,f x=g x)->l.filterMap f=l.filterMap g
 | [],_=>rfl
 | a::r,h=>by
  have b:=h a (BE ..);have c:=Fr (l:=r) λx d=>h x (BA _ d);rw[EU,EU,b,c]
def Zb{α:Type}{f g:Nat->A5 α}{j:Nat}{k:α}(d:g j=some k)(m:f j=none):∀{l:A1 Nat},l.Nodup->j∈l->(∀i,i≠j->g i=f i)->(l.filterMap g).Perm (k::l.filterMap f)
 | [],_,h,_=>by simp at h
 | i::r,o,h,a=>by
  obtain⟨p,q⟩:=CL.mp o;by_cases e:i=j
  .subst e;have er:r.filterMap g=r.filterMap f:=Fr λx s=>a x λz=>p (z▸s);rw[DC d,E_ m,er]
  .have n:=Zb d m q ((AL.mp h).resolve_left λz=>e z.symm) a;cases c:f i with
   | none=>rw[E_ ((a i e).trans c),E_ c];exact n
   | some b =>
    rw[DC ((a i e).trans c),DC c];exact(List.Perm.cons b n).trans (List.Perm.swap _ _ _)
def UB(mask:Nat)(a:CM (A5 Nat)):A1 Nat:=(List.range (mask+1)).filterMap λj=>a.getD j none
structure LI(mask:Nat)(ow:CM (A5 Nat))(k:Nat):Prop where
 sz:ow.size=mask+1
 pm:(UB mask ow).Perm (List.range k)
def Uq{mask:Nat}{b:CM (A5 Nat)}{j:Nat}(c:b[j]?=some none):∀(t a i p:Nat),(OD mask t (i,p)).1=j->t<a->∃d,SetTable.layClean.free mask b a i p=some d/\b[d]?=some none
 | t,0,_,_,_,h=>absurd h (Nat.not_lt_zero _)
 | t,a+1,i,p,e,h=>by
  unfold SetTable.layClean.free;cases q:(List.range (SetTable.runEnd mask i+1-i)).find? λk=>(b.getD (i+k) (some 0)).isNone with
  | some k =>
   refine⟨i+k,rfl,?_⟩;have:=List.find?_some q;rw[CS]at this;cases g:b[i+k]? with
   | none=>rw[g]at this;simp at this
   | some z=>rw[g]at this;simp at this;rw[this]
  | none =>
   dsimp only;cases t with
   | zero =>
    exfalso;have f:i=j:=e;subst f;have l:0∈List.range (SetTable.runEnd mask i+1-i):=BW.mpr (by unfold SetTable.runEnd;split<;>lia);have:=List.find?_eq_none.mp q 0 l;rw[CS,Nat.add_zero,c]at this;simp at this
   | succ t=>exact Uq c t a _ _ e (by lia)
def LI.room{mask:Nat}{a:CM (A5 Nat)}{k:Nat}(h:LI mask a k)(p:k<=mask):∃j,j<=mask/\a[j]?=some none:=by
 by_cases q:∃j,j<=mask/\a[j]?=some none
 .exact q
 .exfalso;have b:∀j∈List.range (mask+1),∃v,a.getD j none=some v:=λj c=>by
   have g:j<a.size:=by rw[h.sz];exact BW.mp c
   cases e:a[j]? with
   | none=>rw[Array.getElem?_eq_none_iff]at e;lia
   | some v =>
    cases v with
    | none=>exact absurd ⟨j,by have:=BW.mp c;lia,e⟩ q
    | some v=>exact⟨v,by rw[CS,e];rfl⟩
  have i:∀l:A1 Nat,(∀j∈l,∃v,a.getD j none=some v)->(l.filterMap λj=>a.getD j none).length=l.length:=by
   intro l
   induction l with
   | nil=>intro _;rfl
   | cons j r m =>
    intro d;obtain⟨v,n⟩:=d j (BE ..);rw[DC (f:=λj=>a.getD j none) n,BO,BO,m λx o=>d x (BA _ o)]
  have:=h.pm.length_eq;unfold UB at this;rw[i _ b,CD,CD]at this;lia
def LI.put{mask:Nat}{a:CM (A5 Nat)}{k j:Nat}(h:LI mask a k)(c:a[j]?=some none):LI mask (a.setIfInBounds j (some k)) (k+1):=by
 have b:j<a.size:=by
  obtain⟨d,_⟩:=GT.mp c;exact d
 refine⟨by rw[HB];exact h.sz,?_⟩;have p:=Zb (f:=λj=>a.getD j none) (g:=λi=>(a.setIfInBounds j (some k)).getD i none) (j:=j) (k:=k) (by rw[CS,Array.getElem?_setIfInBounds_self_of_lt b];rfl) (by rw[CS,c];rfl)
  (l:=List.range (mask+1)) GD (BW.mpr (by rw[<-h.sz];exact b)) λi m=>by
   rw[CS,Array.getElem?_setIfInBounds_ne (Ne.symm m),<-CS]
 have e:List.range (k+1)=List.range k ++ [k]:=EW;refine p.trans ?_;rw[e];exact(List.Perm.cons k h.pm).trans (CZ (l₁:=[k]))
def zBg(h:Int):SetTable.bits h<2^64:=by
 unfold SetTable.bits;have a:0<=h %(2^64:Int):=GL _ (by decide);have b:h %(2^64:Int)<2^64:=FO _ (by decide);lia
def Zc{mask:Nat}(f:SE mask):∀(d:A1 Int) (b:CM (A5 Nat)) (k:Nat),LI mask b k->k+d.length<=mask->∃c,(d.foldl (init:=some (b,k)) λe h=>do
   let(a,k) <-e
   let j <-SetTable.layClean.free mask a (SetTable.turns mask) (SetTable.bits h %(mask+1)) (SetTable.bits h)
   pure (a.setIfInBounds j (some k),k+1))=some (c,k+d.length)/\LI mask c (k+d.length)
 | [],b,k,h,_=>⟨b,rfl,h⟩
 | x::r,b,k,h,l=>by
  rw[BO]at l;obtain⟨j,m,n⟩:=h.room (by lia);obtain⟨t,v,o⟩:=Te f (i:=SetTable.bits x %(mask+1)) (j:=j) (Nat.lt_succ_iff.mp (Nat.mod_lt _ (Nat.succ_pos _))) m (zBg x);obtain⟨g,p,q⟩:=Uq n t (SetTable.turns mask) _ _ o (by unfold SetTable.turns;lia);obtain⟨c,s,u⟩:=Zc f r (b.setIfInBounds g (some k)) (k+1) (h.put q) (by lia);refine⟨c,?_,by rw[BO,show k +(r.length+1)=k+1+r.length by lia];exact u⟩;rw[List.foldl_cons];show List.foldl _ ((SetTable.layClean.free mask b (SetTable.turns mask) (SetTable.bits x %(mask+1)) (SetTable.bits x)).bind λj=>some (b.setIfInBounds j (some k),k+1)) r=_;rw[p];show List.foldl _ (some (b.setIfInBounds g (some k),k+1)) r=_;rw[BO,show k +(r.length+1)=k+1+r.length by lia];exact s
def zBm{mask:Nat}(h:SE mask)(finger moves:Nat)(led plain:Bool)(c:CM Int)(l:c.size<=mask) :
  ∃place a,SetTable.laid mask finger moves led plain c=some ({ mask,place,dummies:=#[],finger,led,moves,plain },a)/\place.size=c.size/\a.toList.Perm (List.range c.size):=by
 have i:LI mask (Array.replicate (mask+1) none) 0:=by
  refine⟨Array.size_replicate,?_⟩;have:UB mask (Array.replicate (mask+1) none) = []:=by
   unfold UB;rw[List.filterMap_eq_nil_iff];intro j m;rw[CS,Array.getElem?_replicate];split<;>rfl
  rw[this];exact GS _
 obtain⟨b,e,d⟩:=Zc h c.toList _ 0 i (by rw[BG];lia);rw[EF,BG]at e d;have k:SetTable.layClean mask c=some b:=by
  unfold SetTable.layClean;rw[<-Array.foldl_toList,e];rfl
 have g:((List.range (mask+1)).filterMap λj=>(b.getD j none).map (j,·)).map (·.2)=UB mask b:=by
  unfold UB;rw[List.map_filterMap];refine Fr λj _=>?_;cases b.getD j none<;>rfl
 refine⟨(((List.range (mask+1)).filterMap λj=>(b.getD j none).map (j,·)).map (·.1)).toArray,(((List.range (mask+1)).filterMap λj=>(b.getD j none).map (j,·)).map (·.2)).toArray,?_,?_,?_⟩
 .unfold SetTable.laid;rw[k];rfl
 .rw[AQ,AA,<-AA (f:=(·.2)),g,d.pm.length_eq,CD]
 .show(((List.range (mask+1)).filterMap λj=>(b.getD j none).map (j,·)).map (·.2)).Perm _;rw[g];exact d.pm
def Wv{c:CM (Int×A3)}{b:CM Nat}(h:b.toList.Perm (List.range c.size)):(b.filterMap (c[·]?)).toList.Perm c.toList:=by
 rw[Array.toList_filterMap];refine(h.filterMap _).trans (List.Perm.of_eq ?_);refine F_ λt=>?_;have:(List.range c.size).filterMap (λx=>c[x]?)=c.toList:=by
  have:∀(l:A1 (Int×A3)),(List.range l.length).filterMap (λx=>l[x]?)=l:=by
   intro l
   induction l with
   | nil=>rfl
   | cons a r d =>
    rw[BO,List.range_succ_eq_map,DC (by rfl:(a::r)[0]?=some a),List.filterMap_map];congr 1
  have q:=this c.toList;rw[BG]at q;simpa using q
 rw[this]
section
variable{prog:A7}{w:F8}{K:Type}[DecidableEq K]{knd:KeyKind prog w K}{A:IM}{E:A3->A4->Prop}{s:A4}
structure SZ(t:IW)(n:Nat):Prop where
 dm:t.dummies = #[]
 pl:t.place.size=n
 mm:SE t.mask
 rm:n*5<t.mask*3
theorem SZ.fits{t:IW}{n:Nat}(h:SZ t n):t.fits n=true:=by
 have:=h.rm;have:=h.pl;unfold SetTable.fits SetTable.fill;rw[h.dm];simp;lia
theorem SZ.odd{t:IW}{n:Nat}(h:SZ t n):t.gaveWay=false:=by
 unfold SetTable.gaveWay;rcases h.mm with e | e | e | e<;>rw[e]<;>rfl
def TV(knd:KeyKind prog w K)(a:CM (Int×A3))(ks:A1 (A1 K×A2)):Prop:=a.toList.Perm (ks.map λq=>((tupleKind knd).hash q.1,Value.ref q.2))
def NN(knd:KeyKind prog w K)(h:IJ)(a:A2)(ks:A1 (A1 K×A2)):Prop:=∃o b c t,h.get? a=some o/\o.ExactSet/\o.data = .set b c t/\TV knd b ks/\SZ t b.size
theorem TV.get{a:CM (Int×A3)}{ks:A1 (A1 K×A2)}(h:TV knd a ks){i:Nat}{e:Int×A3}(b:a[i]?=some e):∃k p,(k,p)∈ks/\e =((tupleKind knd).hash k,.ref p):=by
 have:e∈a.toList:=AM (by rw[BU];exact b);obtain⟨q,c,rfl⟩:=AJ.mp (h.mem_iff.mp this);exact⟨q.1,q.2,c,rfl⟩
theorem Ct{β:Type}{c:β}{f:A3->β->Sem (ForInStep β)}:∀{l:A1 A3},(∀y∈l,f y c=pure (.yield c))->forIn l c f=pure c
 | [],_=>List.forIn_nil
 | a::r,h=>by
  rw[FU,h a (BE ..),pure_bind];exact Ct λy b=>h y (BA _ b)
theorem Gz{ks:A1 K}{vs:A1 A3}(h:ItemsAre knd ks vs):∀v∈vs,∃x,knd.is x v=true:=by
 induction h with
 | nil=>intro v hv;simp at hv
 | cons a _ b =>
  intro v hv;rcases AL.mp hv with rfl | hv
  .exact⟨_,a⟩
  .exact b v hv
def Flat(knd:KeyKind prog w K):Prop:=∀v,(∃x,knd.is x v=true)->carriedByValue v=true
theorem Flat.no{v:A3}(a:Flat knd)(h:∃x,knd.is x v=true)(d:Nat):ofAClassStatement d v=pure false:=by
 have:=a v h;cases v<;>first
  | (cases d<;>rfl)
  | (exact absurd this (by intro z;cases z))
theorem Yr{k:A1 K}{p:A2}{Q:Bool->A4->Prop}(c:Flat knd)(d:(tupleKind knd).is s.heap k p)(h:Q false s):wpAny (model prog w) A (ofAClassStatement 8 (.ref p)) Q E s:=by
 obtain⟨o,a,n,b,e,f,g⟩:=d;have i:s.TypeIs (.ref p) "tuple":=⟨o,b,e⟩;unfold ofAClassStatement;refine AB (wpAny_typeOf i ?_);dsimp only;rw[AO (by rfl)];refine AB (AG ?_);simp only[FH,A_,CP];refine AB (DB b f ?_);dsimp only;rw[<-HM,Ct λy j=>by rw[c.no (Gz g y j)];rfl];exact AB (AG (AG h))
theorem zEg{m:A1 K}{b:A2}{Q:Bool->A4->Prop}(g:Flat knd)(i:(tupleKind knd).is s.heap m b)(h:Q false s){l:A1 A3}(n:∀v∈l,∃k p,v = .ref p/\(tupleKind knd).is s.heap k p) :
  wpAny (model prog w) A (searchCouldBeSeen (.ref b) l) Q E s:=by
 unfold searchCouldBeSeen;refine AB (wpAny_forIn_list _ (λa c d=>d=s/\c =(none,())/\∀v∈a,v∈l) _ ?_ ?_ l _ ⟨rfl,rfl,λ_ h=>h⟩)
 .rintro v a c d ⟨rfl,rfl,e⟩;obtain⟨k,p,rfl,j⟩:=n v (e v (BE ..));dsimp only;have o:carriedByValue (Value.ref b)=false:=rfl;rw[o,EQ,Bool.or_false];split
  .exact AG ⟨rfl,rfl,λu f=>e u (BA _ f)⟩
  .refine AB ((tupleKind knd).quiet i ?_);simp only[FH,A_,CP];refine AB ((tupleKind knd).quiet j ?_);simp only[FH,A_,CP];refine AB (Yr g i ?_);simp only[A_,CP];refine AB (Yr g j ?_);simp only[A_,CP];exact AG ⟨rfl,rfl,λu f=>e u (BA _ f)⟩
 .rintro c d ⟨rfl,rfl,_⟩;exact AG h
theorem Vv(t:IW):t.sameMemory t.moves t.mask=some true:=by
 unfold SetTable.sameMemory;simp
theorem Kv{a:A2}{o:Obj}{r:CM (Int×A3)}{ep:Nat}{t:IW}{ks:A1 (A1 K×A2)}{d:A1 K}{G:A2}{c:Bool}{Q:SetFound->A4->Prop}{n:Nat}
  (hr:(tupleKind knd).room A) (hF:Flat knd) (U:s.heap.get? a=some o) (V:o.data = .set r ep t) (W:TV knd r ks) (D:SZ t r.size)
  (H:∀q∈ks,(tupleKind knd).is s.heap q.1 q.2) (X:(tupleKind knd).is s.heap d G) (M:∀q∈ks,q.1≠d) (hn:n<10*SetTable.turns t.mask)
  (he:t.slot (N_ t n (t.probeStart ((tupleKind knd).hash d))).j = .empty) (h:∀j,t.slot j = .empty->Q (.free j false) s) :
  ∀(k m b:Nat) (e:A5 SetTable.Probe),e.getD (t.probeStart ((tupleKind knd).hash d))=N_ t m (t.probeStart ((tupleKind knd).hash d))->m+k=n->k<b ->
   wpAny (model prog w) A (setSearchFrom a (.ref G) ((tupleKind knd).hash d) c b e) Q E s:=by
 intro k
 induction k using Nat.strongRecOn with
 | _ k ih =>
  intro m b e N O hf;cases b with
  | zero=>lia
  | succ b =>
   unfold setSearchFrom;refine AB (GA U V D.fits ?_);dsimp only;rw[D.odd];simp only[A_,CP];rw[N];unfold SetTable.probe;rcases Xs D.dm _ ((tupleKind knd).hash d) (t.probeStart ((tupleKind knd).hash d)) rfl k m n (10*SetTable.turns t.mask) O he (by lia)with⟨j,F,Y⟩ | ⟨l,i,h1,h2,F,Y,e3⟩
   .rw[F];dsimp only;exact AG (h j Y)
   .rw[e3];dsimp only;obtain⟨u,I,P⟩:∃u,t.slot (N_ t l (t.probeStart ((tupleKind knd).hash d))).j = .live u/\t.place[u]?=some (N_ t l (t.probeStart ((tupleKind knd).hash d))).j:=by
     rcases t6 D.dm (N_ t l (t.probeStart ((tupleKind knd).hash d))).j with z | z
     .rw[z]at F;cases F
     .exact z
    rw[F]at I;cases I;have R:i<r.size:=by
     have:=(GT.mp P).1;rw[D.pl]at this;exact this
    obtain⟨J,f⟩:∃J,r[i]?=some J:=⟨r[i],GT.mpr ⟨R,rfl⟩⟩;obtain⟨k',p',L,rfl⟩:=W.get f;have B:∀v∈(r.filter (·.1 ==(tupleKind knd).hash d)).toList.map (·.2),∃k p,v = .ref p/\(tupleKind knd).is s.heap k p:=by
     intro v hv;obtain⟨z,Z,rfl⟩:=AJ.mp hv;have S:z∈r.toList:=by
      rw[Array.toList_filter]at Z;exact(BH.mp Z).1
     obtain⟨q,hq,rfl⟩:=AJ.mp (W.mem_iff.mp S);exact⟨q.1,q.2,rfl,H q hq⟩
    have x:wpAny (model prog w) A (do
      let some (_,y):=r[i]? | unsupported "internal:set-entry"
      let g <-holding [y] (eqBool y (.ref G))
      let(T,_,t') <-setState a
      if c&&g then return .there none
      let some same:=t'.sameMemory t.moves t.mask | unsupported "set.changed-during-lookup:is-the-new-block-at-the-old-address"
      let C <-match(if same then t'.slot (N_ t l (t.probeStart ((tupleKind knd).hash d))).j else .empty)with
       | .live u=>match T[u]? with
        | some (_,y')=>do pure (if <-isSame y' y then some u else none)
        | none=>pure none
       | _=>pure none
      match C with
      | none=>rule "set.search.anew";setSearchFrom a (.ref G) ((tupleKind knd).hash d) c b none
      | some u=>if g then return .there (some u)else setSearchFrom a (.ref G) ((tupleKind knd).hash d) c b (some (N_ t (l+1) (t.probeStart ((tupleKind knd).hash d))))) Q E s:=by
     rw[f];dsimp only;refine AB (BZ ((tupleKind knd).eqBool hr (H _ L) X ?_));rw[BC (M _ L)];refine AB (GA U V D.fits ?_);dsimp only;rw[Vv,HX];simp only[A_,CP,FC];rw[F];dsimp only;rw[f];dsimp only;refine AB (wpAny_isSame_ref_self (AB (AG ?_)));simp only[FC];exact ih (n-(l+1)) (by lia) (l+1) b _ rfl (by lia) (by lia)
    cases hled:t.led with
    | true =>
     simp only[FH,A_,CP];exact x
    | false =>
     simp only[Bool.not_false,FC];refine AB (zEg hF X ?_ B);simp only[A_,CP];exact x
theorem Cv{a:A2}{o:Obj}{f:CM (Int×A3)}{ep:Nat}{t:IW}{ks:A1 (A1 K×A2)}{d:A1 K}{k:A2}{b:Bool}{Q:SetFound->A4->Prop}
  (l:(tupleKind knd).room A) (m:Flat knd) (p:s.heap.get? a=some o) (r:o.data = .set f ep t) (u:TV knd f ks) (c:SZ t f.size)
  (g:∀q∈ks,(tupleKind knd).is s.heap q.1 q.2) (v:(tupleKind knd).is s.heap d k) (i:∀q∈ks,q.1≠d) (h:∀j,t.slot j = .empty->Q (.free j false) s) :
  wpAny (model prog w) A (setSearch a (.ref k) ((tupleKind knd).hash d) b) Q E s:=by
 obtain⟨j,x,y⟩:=Pe c.dm (by rw[c.pl];have:=c.rm;lia);obtain⟨n,z,e⟩:=Sd c.mm ((tupleKind knd).hash d) x;unfold setSearch;refine Kv l m p r u c g v i z (by rw[e];exact y) h n 0 100000 none rfl (by lia) ?_;have:SetTable.turns t.mask<=526:=by
  unfold SetTable.turns;rcases c.mm with e | e | e | e<;>lia
 lia
theorem NN.typeIs{a:A2}{ks:A1 (A1 K×A2)}(h:NN knd s.heap a ks):s.TypeIs (.ref a) "set":=let⟨o,_,_,_,b,c,_⟩:=h;⟨o,b,c.1⟩
theorem Up{a:A2}{b:CM (Int×A3)}:byScan (.ref a) b=false:=rfl
theorem Rl{a:A2}{ks:A1 (A1 K×A2)}{b:A1 K}{e:A2}{Q:A5 Nat->A4->Prop}(k:(tupleKind knd).room A)(l:Flat knd)(m:NN knd s.heap a ks)
  (c:∀q∈ks,(tupleKind knd).is s.heap q.1 q.2) (n:(tupleKind knd).is s.heap b e) (d:∀q∈ks,q.1≠b) (h:Q none s):wpAny (model prog w) A (setFind a (.ref e) ((tupleKind knd).hash b)) Q E s:=by
 obtain⟨o,r,u,t,f,_,g,p,i⟩:=m;unfold setFind setFindIn;refine AB (GA f g i.fits ?_);dsimp only;rw[Up];simp only[A_,CP];refine AB (Cv k l f g p i c n d λj _=>?_);dsimp only;exact AG h
theorem SN{neg:Bool}{a:A2}{ks:A1 (A1 K×A2)}{b:A1 K}{d:A2}{Q:A3->A4->Prop}(g:A.units+1<cLine)(j:Flat knd)(c:NN knd s.heap a ks)
  (e:∀q∈ks,(tupleKind knd).is s.heap q.1 q.2) (i:(tupleKind knd).is s.heap b d) (f:∀q∈ks,q.1≠b) (h:Q (.bool false) { s with toks:=s.toks +(tupleKind knd).draws b }) :
  wpAny (model prog w) A (compareOp .In (.ref d) (.ref a)) Q E s:=by
 show wpAny _ _ (do return .bool (<-contains (.ref a) (.ref d))) Q E s;refine AB ?_;unfold contains
 try with_reducible refine BZ ?_
 refine AB (HL c.typeIs F.slot_set_contains.lookup ?_);show wpAny _ _ (if(some (Value.builtin "set.__contains__") == some Value.none)=true then _ else _) _ E s;rw[AN (by rw[beq_builtin_none];exact BD)];refine AB (wpAny_callSpecialUnlessNone?_slot (name:=Str.ofString "__contains__") c.typeIs F.slot_set_contains
  (DX F.slot_set_contains c.typeIs entry_set_contains ?_ (F.args_set_contains_2 _ _)))
 unfold Builtin.«frozenset.__contains__» Builtin.Frozenset.oneOther;simp only[List.isEmpty_nil,bind_assoc];unfold Builtin.Frozenset.addrOf Builtin.Frozenset.withSetAsKey setContains;refine AB (AG ?_)
 try dsimp only
 refine AB (AG ?_)
 try dsimp only
 refine AB (GE ?_);refine BZ ?_;refine AB ((tupleKind knd).pyHash ?hroom i ?_)
 case hroom=>exact g
 refine AB (Rl (s:={ s with toks:=s.toks +(tupleKind knd).draws b }) ?hroom j c e i f ?_)
 case hroom=>exact g
 refine AG ?_;show wpAny _ _ (ret (Value.bool false)) _ _ _;exact AG ⟨_,rfl,CU (AG h)⟩
def SQ(knd:KeyKind prog w K):Prop:=∀v,(∃x,knd.is x v=true)->v.scannable=true
theorem hbv{j:A1 K}{f:A2}{Q:Bool->A4->Prop}(k:SQ knd)(l:(tupleKind knd).is s.heap j f)(h:∀b,Q b s):wpAny (model prog w) A (hashByValue 8 (.ref f)) Q E s:=by
 obtain⟨o,d,n,g,m,p,r⟩:=l;have t:s.TypeIs (.ref f) "tuple":=⟨o,g,m⟩;unfold hashByValue;refine AB (HL t F.slot_tuple_hash.lookup ?_);dsimp only;refine AB (DB g p ?_);dsimp only[Option.getD_some];rw[<-HM];refine AB (CI (wpAny_forIn_list _ (λa c e=>e=s/\c =(none,())/\∀v∈a,v∈d.toList) (λc e=>e=s/\(c =(none,())\/c =(some false,()))) ?_ ?_ _ _ ⟨rfl,rfl,λ_ z=>z⟩) ?_ λ_ _ q=>q)
 .rintro v a c e ⟨rfl,rfl,i⟩;rw[hashByValue_scannable _ (k v (Gz r v (i v (BE ..))))];refine AB (AG ?_);cases plainKind v with
  | true =>
   simp only[FH,A_,CP];exact AG ⟨rfl,rfl,λu x=>i u (BA _ x)⟩
  | false =>
   simp only[Bool.not_false,FC];exact AG ⟨rfl,.inr rfl⟩
 .rintro c e ⟨rfl,rfl,_⟩;exact⟨rfl,.inl rfl⟩
 .rintro c e ⟨rfl,rfl | rfl⟩
  .exact AG (h _)
  .exact AG (h _)
theorem i9{α:Type}(xs:CM α)(p:Nat)(x:α)(a:p<=xs.size):(SetTable.insertAt xs p x).size=xs.size+1:=by
 unfold SetTable.insertAt;rw[Array.size_append,Array.size_push,GI,GI];lia
theorem Ev{α:Type}(xs:CM α)(p:Nat)(x:α)(b:p<=xs.size):(SetTable.insertAt xs p x).toList.Perm (xs.toList ++ [x]):=by
 unfold SetTable.insertAt;rw[BS,DU,FB,FB];simp only[EX,FA,Nat.sub_zero];have e:List.take (xs.size-p) (List.drop p xs.toList)=List.drop p xs.toList:=by
  rw[CQ];rw[DD,BG];lia
 rw[e];have a:xs.toList=xs.toList.take p++xs.toList.drop p:=(B_ ..).symm
 conv=>rhs;rw[a]
 rw[BM,BM];exact DQ _ CZ
theorem i6(xs:CM Nat)(j:Nat):∀(f lo hi:Nat),lo<=hi->SetTable.below.go xs j f lo hi<=hi
 | 0,lo,hi,h=>h
 | f+1,lo,hi,h=>by
  unfold SetTable.below.go;split
  .rename_i a;dsimp only;split
   .exact i6 xs j f _ _ (by lia)
   .exact Nat.le_trans (i6 xs j f _ _ (by lia)) (by lia)
  .exact h
theorem Xp(xs:CM Nat)(j:Nat):SetTable.below xs j<=xs.size:=i6 xs j _ _ _ (CB _)
theorem zDc{t:IW}(a:t.dummies = #[])(j:Nat):t.put j =({ t with place:=SetTable.insertAt t.place (SetTable.below t.place j) j },SetTable.below t.place j):=by
 unfold SetTable.put;have:SetTable.has t.dummies j=false:=by
  rw[a];unfold SetTable.has;simp
 rw[this];rfl
theorem zJq:SetTable.sizeAbove 20=32:=by decide
theorem zJr:SetTable.sizeAbove 76=128:=by decide
theorem zHh:SetTable.sizeAbove 308=512:=by decide
theorem Wn{f:CM (Int×A3)->A5 (IW×CM Nat)->Sem (CM (Int×A3)×IW)}(y:∀c g,f c g =(do
  let some (t,b):=g | unsupported "internal:set-table-without-room"
  let d:=b.filterMap (c[·]?)
  if d.size != c.size then unsupported "internal:set-table-lost-an-element"
  pure (d,t)))
  {a:A2} {o:Obj} {c:CM (Int×A3)} {ep:Nat} {t:IW} {n m:Nat} {Q:Unit->A4->Prop} (q:s.heap.get? a=some o) (r:o.data = .set c ep t) (z:t.dummies = #[]) (j:t.fits c.size=true)
  (l:SetTable.sizeAbove n=m+1) (i:SE m) (hsz:c.size*5<m*3)
  (h:∀(d:CM (Int×A3)) (t':IW),d.toList.Perm c.toList->SZ t' d.size->Q () { s with heap:=s.heap.update a (Obj.putSet d t') }) :
  wpAny (model prog w) A (do
   let(c,_,t) <-setState a
   if SetTable.sizeAbove n>sizeLine then unsupported "set:memory"
   let(c,t) <-f c (t.relaid (c.map (·.1)) n)
   storeSet a c t) Q E s:=by
 refine AB (GA q r j ?_);dsimp only;have p:m<=511:=by rcases i with e | e | e | e<;>lia
 rw[l,AN (by rw[sizeLine_eq];lia)];rw[y];have B:(c.map (·.1)).size<=m:=by rw[GC];lia
 obtain⟨place,b,u,C,v⟩:=zBm i t.finger (t.movedTo (SetTable.sizeAbove n-1)) t.led t.plain (c.map (·.1)) B;have D:t.relaid (c.map (·.1)) n=some ({ mask:=m,place,dummies:=#[],finger:=t.finger,led:=t.led,moves:=t.movedTo (SetTable.sizeAbove n-1),plain:=t.plain },b):=by
  unfold SetTable.relaid;rw[l];rw[l]at u;exact u
 rw[D];dsimp only;have x:(b.filterMap (c[·]?)).toList.Perm c.toList:=Wv (by rw[GC]at v;exact v);have k:(b.filterMap (c[·]?)).size=c.size:=by rw[<-BG,x.length_eq,BG]
 rw[AN (by rw[k];simp)];refine AB (AG ?_);dsimp only;refine wpAny_storeSet_of q r (h _ _ x ⟨rfl,?_,i,?_⟩) (by rw[k,sizeLine_eq];lia)
 .rw[k,C,GC]
 .rw[k];exact hsz
theorem Rv{h:IJ}{a:A2}{o:Obj}{d:CM (Int×A3)}{ep:Nat}{t:IW}(e:h.get? a=some o)(c:o.data = .set d ep t)(b:CM (Int×A3))(t':IW) :
  (h.update a (Obj.putSet b t')).get? a=some { o with data:=.set b (ep+1) t' }:=by
 have:=EC (Obj.putSet b t') e (by rw[putSet_of b t' c];rfl);rw[putSet_of b t' c]at this;exact this
theorem Ph{a:A2}{ks:A1 (A1 K×A2)}{g:A1 K}{l:A2}{Q:Bool->A4->Prop}(V:(tupleKind knd).room A)(W:Flat knd)(X:SQ knd)(Y:NN knd s.heap a ks)
  (I:∀q∈ks,(tupleKind knd).is s.heap q.1 q.2) (S:(tupleKind knd).is s.heap g l) (J:∀q∈ks,q.1≠g) (hl:ks.length+1<=300)
  (h:∀h',Heap.SameBut a s.heap h'->NN knd h' a (ks ++ [(g,l)])->Q true { s with heap:=h' }) :
  wpAny (model prog w) A (setAddHashed a (.ref l) ((tupleKind knd).hash g)) Q E s:=by
 obtain⟨o,c,ep,t,y,z,B,L,i⟩:=Y;have Z:c.size=ks.length:=by
  have:=L.length_eq;rw[BG,AA]at this;exact this
 unfold setAddHashed setAddHashedIn;refine BZ ?_;refine AB (GA y B i.fits ?_);dsimp only;rw[Up];simp only[A_,CP];refine AB (Cv V W y B L i I S J λj hj=>?_);dsimp only;refine AB (GA y B i.fits ?_);dsimp only;rw[zDc i.dm];dsimp only;have M:=Xp t.place j;have C:SetTable.below t.place j<=c.size:=by rw[i.pl]at M;exact M
 have hrm:=i.rm;have p:=i.mm;have d:=i9 c (SetTable.below t.place j) ((tupleKind knd).hash g,Value.ref l) C;have N:=Ev c (SetTable.below t.place j) ((tupleKind knd).hash g,Value.ref l) C;have D:∀f:CM (Int×A3),f.toList.Perm (SetTable.insertAt c (SetTable.below t.place j) ((tupleKind knd).hash g,Value.ref l)).toList->TV knd f (ks ++ [(g,l)]):=λf O=>by
  unfold TV;rw[AK];exact O.trans (N.trans (L.append_right _))
 have r:∀n:IW,n.dummies = #[]->n.mask=t.mask->n.place.size=c.size+1->wpAny (model prog w) A (do
   storeSet a (SetTable.insertAt c (SetTable.below t.place j) ((tupleKind knd).hash g,Value.ref l)) n
   if(!false&&n.tooFull)=true then do
    setRelay a (SetTable.grown (c.size+1))
    pure true
   else pure true) Q E s:=by
  intro n G H P;refine AB (wpAny_storeSet_of y B ?_ (by rw[d,sizeLine_eq];lia));have u:=Rv y B (SetTable.insertAt c (SetTable.below t.place j) ((tupleKind knd).hash g,Value.ref l)) n;have F:=DZ s.heap a (Obj.putSet (SetTable.insertAt c (SetTable.below t.place j) ((tupleKind knd).hash g,Value.ref l)) n);have R:n.tooFull=decide ((c.size+1)*5 ≥ t.mask*3):=by
   unfold SetTable.tooFull SetTable.fill;rw[G,H,P];rfl
  rw[R,Bool.not_false,Bool.true_and];by_cases k:(c.size+1)*5 ≥ t.mask*3
  .rw[AX k,AO rfl];have v:∃m,SetTable.sizeAbove (SetTable.grown (c.size+1))=m+1/\SE m/\(c.size+1)*5<m*3:=by
    have hg:SetTable.grown (c.size+1) =(c.size+1)*4:=by
     unfold SetTable.grown;rw[AN (by lia)]
    rw[hg];rcases p with e | e | e | e
    .have:c.size+1=5:=by lia
     rw[this];exact⟨31,zJq,.inr (.inl rfl),by decide⟩
    .have:c.size+1=19:=by lia
     rw[this];exact⟨127,zJr,.inr (.inr (.inl rfl)),by decide⟩
    .have:c.size+1=77:=by lia
     rw[this];exact⟨511,zHh,.inr (.inr (.inr rfl)),by decide⟩
    .lia
   obtain⟨m,c1,c2,c3⟩:=v;refine AB ?_;unfold setRelay;refine Wn (λ_ _=>rfl) (s:={ s with heap:=_ }) u rfl G ?_ c1 c2 (by rw[d];exact c3) λf T O ht=>?_
   .unfold SetTable.fits SetTable.fill;rw[d,P,G,H];have U:c.size+1+0<=t.mask:=by rcases p with e | e | e | e<;>lia
    simp;lia
   .refine AG (h _ (F.trans (DZ _ a _)) ?_);exact⟨_,f,_,T,Rv u rfl f T,z,rfl,D f O,ht⟩
  .rw[BC k,AN (by decide)];refine AG (h _ F ⟨_,_,_,n,u,z,rfl,D _ (.refl _),⟨G,?_,?_,?_⟩⟩)
   .rw[P,d]
   .rw[H];exact p
   .rw[H,d];lia
 have x:(SetTable.insertAt t.place (SetTable.below t.place j) j).size=c.size+1:=by rw[i9 _ _ _ M,i.pl]
 cases hpl:t.plain with
 | true =>
  simp only[FC];refine AB (hbv X S λb=>?_);cases b with
  | true =>
   simp only[FC];exact r _ i.dm rfl x
  | false =>
   simp only[A_,CP];exact r _ i.dm rfl x
 | false =>
  simp only[A_,CP];refine AB (AG ?_);simp only[FC];exact r _ i.dm rfl x
theorem RV{a:A2}{ks:A1 (A1 K×A2)}{b:A1 K}{c:A2}{Q:A3->A4->Prop}(i:A.units+1<cLine)(l:Flat knd)(m:SQ knd)(j:NN knd s.heap a ks)
  (d:∀q∈ks,(tupleKind knd).is s.heap q.1 q.2) (k:(tupleKind knd).is s.heap b c) (e:∀q∈ks,q.1≠b) (n:ks.length+1<=300)
  (h:∀h',Heap.SameBut a s.heap h'->NN knd h' a (ks ++ [(b,c)])->Q .none { s with heap:=h',toks:=s.toks +(tupleKind knd).draws b }) :
  wpAny (model prog w) A (call (.builtin "set.add") [.ref a,.ref c]) Q E s:=by
 refine DX F.slot_set_add j.typeIs F.entry_set_add ?_ (F.args_set_add_2 _ _);unfold Builtin.«set.add» Builtin.Frozenset.oneOther;simp only[List.isEmpty_nil,bind_assoc];unfold Builtin.Frozenset.addrOf setAdd;refine AB (AG ?_)
 try dsimp only
 refine AB (AG ?_)
 try dsimp only
 refine AB ?_;refine BZ ?_;refine AB ((tupleKind knd).pyHash ?hroom k ?_)
 case hroom=>exact i
 refine Ph (s:={ s with toks:=s.toks +(tupleKind knd).draws b }) ?hroom l m j d k e n λh' f g=>?_
 case hroom=>exact i
 show wpAny _ _ (ret Value.none) _ _ _;exact AG ⟨_,rfl,h h' f g⟩
end
section
variable{prog:A7}{w:F8}{A:IM}{E:A3->A4->Prop}{s:A4}
theorem MA{α:Type}:∀{l:A1 α} {i:Nat} {x:α},l[i]?=some x->(x::l.eraseIdx i).Perm l
 | [],i,x,h=>by simp at h
 | y::l,0,x,h=>by
  have:y=x:=by simpa using h
  subst this;exact .refl _
 | y::l,i+1,x,h=>by
  have a:l[i]?=some x:=by simpa using h
  exact(List.Perm.swap y x _).trans ((MA a).cons y)
structure SAt(w:F8)(h:IJ)(a:A2)(o:Obj)(es:CM (Int×A3))(ep:Nat)(t:IW):Prop where
 ho:h.get? a=some o
 ex:o.ExactSet
 hd:o.data = .set es ep t
 ft:t.fits es.size=true
 led:t.led=!(w.params.followText "set-order")
 pln:t.plain=true->es.size=0
 few:es.size<4096
variable{a it:A2}{o:Obj}{es:CM (Int×A3)}{ep:Nat}{t:IW}
end
end ST
namespace ST
open PySem L2
def zJa:A3->Str
 | .str x _=>x
 | _=>Str.empty
section
variable{prog:A7}{w:F8}{A:IM}{E:A3->A4->Prop}{s:A4}{a:A2}
structure UO(w:F8)(es:CM (Int×A3))(ss:A1 Str):Prop where
 el:∀e∈es.toList,∃x tk,e =(hashStr w x,Value.str x tk)
 pm:(es.toList.map λe=>zJa e.2).Perm ss
 nd:ss.Nodup
def WS(w:F8)(h:IJ)(a:A2)(c:A1 Str):Prop:=∃o b d t,SAt w h a o b d t/\UO w b c
end
end ST
namespace L2
open PySem PySem.Spec PyProof.Rows
def zGv(w:F8)(a:A2)(b:A1 Str):HO:=.ext λh=>ST.WS w h a b
section
variable{X:Cx}{pins:A1 (A2×Obj)}{σ:St}{H:Hp}{s:A4}{a:A2}{ss:A1 Str}
theorem Inv.setw(I:Inv X pins σ H s)(e:H a=some (zGv X.w a ss)):ST.WS X.w s.heap a ss:=by
 obtain⟨z,_⟩:=(show IU X.prog X.w H s.heap a (zGv X.w a ss)from I.hok a _ e);exact z
end
def Pt(P:A7)(w:F8)(a:A2)(ks:A1 (A1 IZ×A2)):HO:=.ext λh=>ST.NN (D0 P w) h a ks
def Nh(H:Hp)(ks:A1 (A1 IZ×A2)):Prop:=∀q∈ks,H q.2=some (.tup (q.1.map kV))
section
variable{X:Cx}{pins:A1 (A2×Obj)}{σ:St}{H:Hp}{s:A4}{a:A2}{ks:A1 (A1 IZ×A2)}
theorem Nn(P:A7)(w:F8):ST.Flat (D0 P w):=λv ⟨x,h⟩=>(D0 P w).byValue x v h
theorem Vr(P:A7)(w:F8):ST.SQ (D0 P w):=λv ⟨x,h⟩=>by
 rcases J8 (show Iq x v=true from h)with⟨i,t,_,rfl⟩ | ⟨y,t,_,rfl⟩<;>rfl
theorem Yh{P:A7}{w:F8}{H:Hp}{h:IJ}(z:ST.NN (D0 P w) h a ks):IU P w H h a (Pt P w a ks) :=
 ⟨z,let⟨o,_,_,_,e,_⟩:=z;⟨o,e⟩,λd f ⟨o,b,c,t,e,r⟩ k=>⟨o,b,c,t,k o e,r⟩⟩
theorem Inv.sett(I:Inv X pins σ H s)(e:H a=some (Pt X.prog X.w a ks)):ST.NN (D0 X.prog X.w) s.heap a ks:=by
 obtain⟨z,_⟩:=(show IU X.prog X.w H s.heap a (Pt X.prog X.w a ks)from I.hok a _ e);exact z
theorem Pf:K1 X (.type "set") (λxs H Q=>xs = []/\∀p,H p=none->Q (.ref p) (IH H p (Pt X.prog X.w p []))):=by
 intro pins s σ H xs c Q I r h;obtain⟨rfl,q⟩:=h;cases r;refine call_set_0 λa=>⟨.ref s.heap.objs.size,_,I.laid (t':=s.toks) (λb o e=>AE _ e) (Nat.le_refl _) (Yh ?_),rfl,q _ (I.hok.fresh (Nat.le_refl _))⟩;exact⟨_,#[],0,_,AS _ rfl,⟨rfl,rfl,rfl⟩,rfl,.refl _,⟨rfl,rfl,.inl rfl,by show 0*5<7*3;decide⟩⟩
def zIq(P:A7)(w:F8):R2:=λx y H Q=>∃a p ks k,y = .ref a/\x = .ref p/\H a=some (Pt P w a ks)/\H p=some (.tup (k.map kV))/\Nh H ks/\(∀q∈ks,q.1≠k)/\Q (.bl false) H
theorem Pq(b:X.A.units+1<cLine):LD X (compareOp .In) (zIq X.prog X.w):=by
 intro pins s σ H x y v u Q I c d h;obtain⟨a,p,ks,k,rfl,rfl,e,f,g,i,q⟩:=h;cases d;cases c;exact ST.SN (neg:=false) b (Nn _ _) (I.sett e) (λz j=>Aa I.hok (g z j)) (Aa I.hok f) i ⟨.bl false,H,I.tok _,rfl,q⟩
def zCo(P:A7)(w:F8):V->A1 V->Hp->VK->Prop:=λx b H Q=>∃a p ks k,x = .ref a/\b = [.ref p]/\H a=some (Pt P w a ks)/\H p=some (.tup (k.map kV))/\Nh H ks/\(∀q∈ks,q.1≠k)/\ks.length+1<=300/\Q .non (IH H a (Pt P w a (ks ++ [(k,p)])))
theorem zAr(d:X.A.units+1<cLine):RZ X "set.add" (zCo X.prog X.w):=by
 intro pins s σ H x B v C Q I f g h;obtain⟨a,p,ks,k,rfl,rfl,c,i,j,l,m,q⟩:=h;cases f;obtain⟨u,rfl,n⟩:=g.one;cases n;refine ST.RV d (Nn _ _) (Vr _ _) (I.sett c) (λz r=>Aa I.hok (j z r)) (Aa I.hok i) l m λD t z=>?_;exact⟨.non,_,I.write (x:=a) (e:=a) (by rw[c];exact True.intro) (.inl rfl) (λb q y e=>(t.2 b y).trans e) (let⟨o,_,_,_,e,_⟩:=z;⟨o,e⟩) (Yh z),rfl,q⟩
end
section
variable{X:Cx}{tg:IL}
def zIa(K:PySem.W.Frag)(d:TE):TI:=λσ H R=>d σ H λx b=>∃a,x = .ref a/\(((∃c,IQ K b a c)/\R (UE K a) b)\/((∃c,JH K b a c)/\R (Itt K a) b))
theorem zCy{l:IL}{n:TE}(r:PE X l n):PI X tg l (zIa X.K n):=by
 intro d s σ H R I h;refine JA (r d s σ H _ I h) λv c ⟨x,j,f,t,k⟩=>?_;obtain⟨a,e,k⟩:=k;subst e;cases t;have g:∀b,b∈[c.heap.objs.size]->Es X d j b:=λb u=>by
  have e:b=c.heap.objs.size:=by simpa using u
  subst e;exact f.fpOk (Nat.le_refl _) (f.hok.fresh (Nat.le_refl _))
 rcases k with⟨⟨w,m⟩,q⟩ | ⟨⟨w,m⟩,q⟩
 .obtain⟨i,y,p,z⟩:=f.list m;refine GQ p.isList ?_;exact⟨c.heap.objs.size,[c.heap.objs.size],_,_,j,rfl,f.kept (t':=c.toks) λb o e=>AE _ e,Gy a _,⟨_,AS _ rfl,rfl,rfl⟩,g,q⟩
 .obtain⟨i,y,p,z⟩:=f.tuple m;refine wpAny_pyIter_tuple (show c.heap.IsTuple a i.toArray from p) ?_;exact⟨c.heap.objs.size,[c.heap.objs.size],_,_,j,rfl,f.kept (t':=c.toks) λb o e=>AE _ e,Ou a _,⟨_,AS _ rfl,rfl,rfl⟩,g,q⟩
end
section
variable{X:Cx}
theorem Qm:K1 X (.builtin "isinstance") (λxs H Q=>∃x n t b,xs = [x,.ty n]/\MZ X.K H x t/\PySem.W.kitOne X.K t (.type n)=some b/\Q (.bl b) H):=by
 intro a s σ H xs g Q I r h;obtain⟨x,n,t,b,rfl,c,d,q⟩:=h;obtain⟨u,v,rfl,e,f⟩:=r.two;cases f;exact Sb I e c d λi=>⟨.bl b,H,I.tok _,rfl,q⟩
end
mutual
def Rp(K:PySem.W.Frag)(H:Hp):PyData->V->Prop
 | .none,v=>v = .non
 | .bool b,v=>v = .bl b
 | .int i,v=>v = .int i
 | .str x,v=>v = .str x
 | .list d,v=>∃a c,v = .ref a/\IQ K H a c/\PU K H d c
 | .tuple d,v=>∃a c,v = .ref a/\JH K H a c/\PU K H d c
 | .dict _,_=>False
def PU(K:PySem.W.Frag)(H:Hp):A1 PyData->A1 V->Prop
 | [],a=>a = []
 | d::b,a=>∃v r,a=v::r/\Rp K H d v/\PU K H b r
end
section
variable{X:Cx}{pins:A1 (A2×Obj)}{σ:St}{H:Hp}{s:A4}
mutual
theorem Inv.reads(I:Inv X pins σ H s):∀(d:PyData) (v:V) (u:A3),Rp X.K H d v->RelV v u->∃as,Reads s.heap u d as
 | .none,v,u,h,r=>by
  cases(show v = .non by simpa [Rp] using h);cases r;exact⟨_,.none⟩
 | .bool b,v,u,h,r=>by
  cases(show v = .bl b by simpa [Rp] using h);cases r;exact⟨_,.bool b⟩
 | .int i,v,u,h,r=>by
  cases(show v = .int i by simpa [Rp] using h);obtain⟨t,rfl⟩:=r;exact⟨_,.int i t⟩
 | .str x,v,u,h,r=>by
  cases(show v = .str x by simpa [Rp] using h);obtain⟨t,rfl⟩:=r;exact⟨_,.str x t⟩
 | .list j,v,u,h,r=>by
  obtain⟨a,c,e,k,l⟩:=(show ∃a c,v=V.ref a/\IQ X.K H a c/\PU X.K H j c by simpa [Rp] using h);subst e;cases r;obtain⟨f,m,⟨o,n,e,p,q,g⟩,_⟩:=I.list k;obtain⟨as,z⟩:=I.readsAll j c f l m;exact⟨_,.list e p g (by simpa using z)⟩
 | .tuple j,v,u,h,r=>by
  obtain⟨a,c,e,k,l⟩:=(show ∃a c,v=V.ref a/\JH X.K H a c/\PU X.K H j c by simpa [Rp] using h);subst e;cases r;obtain⟨f,m,⟨o,e,p,n,g⟩,_⟩:=I.tuple k;obtain⟨as,z⟩:=I.readsAll j c f l m;exact⟨_,.tuple e p g (by simpa using z)⟩
 | .dict _,v,u,h,r=>by simp[Rp]at h
theorem Inv.readsAll(I:Inv X pins σ H s):∀(ds:A1 PyData) (vs:A1 V) (us:A1 A3),PU X.K H ds vs->IR vs us->∃as,ReadsAll s.heap us ds as
 | [],vs,us,h,r=>by
  cases(show vs = [] by simpa [PU] using h);cases r;exact⟨_,.nil⟩
 | d::ds,vs,us,h,r=>by
  obtain⟨v,a,e,b,c⟩:=(show ∃v r,vs=v::r/\Rp X.K H d v/\PU X.K H ds r by simpa [PU] using h);subst e;cases r with
  | cons f g =>
   obtain⟨as,z⟩:=I.reads d v _ b f;obtain⟨j,i⟩:=I.readsAll ds a _ c g;exact⟨_,.cons z i⟩
end
def Pl(d:PyData):Prop:=d.canLay0=true/\d.depth<=50
def zFz(K:PySem.W.Frag):R2:=λx y H Q=>∃d e,Rp K H d x/\Rp K H e y/\Pl d/\Pl e/\Q (.bl (PyData.eqv d e)) H
def zId(K:PySem.W.Frag):R2:=λx y H Q=>∃d e,Rp K H d x/\Rp K H e y/\Pl d/\Pl e/\Q (.bl (!PyData.eqv d e)) H
def zEw(m:X.A.units+64<cLine):LD X (compareOp .Eq) (zFz X.K):=by
 intro a s σ H x y v u Q I f g h;obtain⟨d,e,i,j,b,c,q⟩:=h;obtain⟨n,k⟩:=I.reads d x v i f;obtain⟨o,l⟩:=I.reads e y u j g;exact PySem.SeqAt.compareEq_reads k l b.1 c.1 (by have:=b.2;have:=c.2;lia) ⟨.bl (PyData.eqv d e),H,I,rfl,q⟩
def zEd(m:X.A.units+64<cLine):LD X (compareOp .NotEq) (zId X.K):=by
 intro a s σ H x y v u Q I f g h;obtain⟨d,e,i,j,b,c,q⟩:=h;obtain⟨n,k⟩:=I.reads d x v i f;obtain⟨o,l⟩:=I.reads e y u j g;exact PySem.SeqAt.compareNe_reads k l b.1 c.1 (by have:=b.2;have:=c.2;lia) ⟨.bl (!PyData.eqv d e),H,I,rfl,q⟩
def zGq(K:PySem.W.Frag)(neg:Bool):R2:=λx y H Q=>∃d a,Rp K H d x/\(Rp K H (.list a) y\/Rp K H (.tuple a) y)/\Pl d/\PyData.canLayAll0 a=true/\Q (.bl (if neg then !(a.any λz=>PyData.eqv z d)else a.any λz=>PyData.eqv z d)) H
def Rs(n:X.A.units+64<cLine):LD X (compareOp .NotIn) (zGq X.K true):=by
 intro f s σ H x y v u Q I k g h;obtain⟨d,b,l,h2,c,i,q⟩:=h;obtain⟨o,j⟩:=I.reads d x v l k;have a:X.A.units+1+min (PyData.depthAll b) d.depth<cLine:=by have:=c.2;lia
 rcases h2 with h2 | h2
 .obtain⟨m,e⟩:=I.reads (.list b) y u h2 g;exact PySem.SeqAt.notIn_list_reads e j i c.1 a ⟨.bl _,H,I,rfl,q⟩
 .obtain⟨m,e⟩:=I.reads (.tuple b) y u h2 g;exact PySem.SeqAt.notIn_tuple_reads e j i c.1 a ⟨.bl _,H,I,rfl,q⟩
end
section
variable{X:Cx}
theorem IR.insert{xs:A1 V}{us:A1 A3}{x:V}{u:A3}(h:IR xs us)(r:RelV x u)(k:Nat):IR (xs.take k++x::xs.drop k) (us.take k++u::us.drop k):=(h.take k).append (.cons r (h.drop k))
def zAt:V->A1 V->Hp->VK->Prop:=λx b H Q=>∃l a i k y,x = .ref l/\b = [.int i,y]/\i =((k:Nat):Int)/\H l=some (.lst a)/\k<=a.length/\a.length<sizeLine/\Q .non (IH H l (.lst (a.take k++y::a.drop k)))
theorem zGr{k:Nat}{i:Int}(e:i =(k:Int))(h:k<=sizeLine):¬(!Builtin.List.listFitsIndex i)=true:=by
 rw[sizeLine_eq]at h;have a:-(2^63:Int)<=i:=by lia
 have b:i<2^63:=by lia
 have:=fitsIndex_both a b;simpa using this
theorem Sh:RZ X "list.insert" zAt:=by
 intro c s σ H x E v G Q I m o h;obtain⟨l,J,i,k,y,rfl,rfl,d,f,K,L,q⟩:=h;cases m;obtain⟨M,g,rfl,⟨t,rfl⟩,p⟩:=o.two;obtain⟨z,a,n,r,N,e⟩:=I.lstM f;have u:k<=sizeLine:=by lia
 have w:=zGr d u;have A:a.toArray.size<=sizeLine:=by rw[AQ];lia
 have B:=@PySem.AutoListH.list_insert_list_int_val_1 l a.toArray n i t g w A;refine call_meets F.slot_list_insert ⟨_,e,rfl⟩ F.entry_list_insert (F.args_list_insert_3 _ _ _) B ⟨e,?_⟩;refine⟨.non,_,I.lset (its':=a.take k++g::a.drop k) f e ?_ (r.insert p k) ?_,rfl,q⟩
 .have b:min k a.length=k:=by lia
  have C:¬((k:Int)<0):=by lia
  subst d;have j:¬((k:Int)+0<0):=by lia
  have D:List.take (a.length-k) (List.drop k a)=List.drop k a:=CQ (by simp);simp[b,C,D]
 .rw[AU,BO,AW,DD];lia
def Yj:V->A1 V->Hp->VK->Prop:=λx b H Q=>∃z y a,x = .str z/\b = [.str y]/\(decide (z.length<y.length)||decide (Builtin.Str.strKind z<Builtin.Str.strKind y))=false/\(y.length == 0)=false /\
 (Builtin.Str.occurrences z y 0 z.length (z.length+1)).isEmpty=false/\z.length<=4000/\Builtin.Str.partsBetween z (Builtin.Str.occurrences z y 0 z.length (z.length+1)) y.length=a/\a.length<=4000/\∀l,H l=none->Q (.ref l) (IH H l (.lst (a.map V.str)))
theorem Hz:∀(b:A1 Str) (a:Nat),IR (b.map V.str) (strsFrom a b)
 | [],_=>.nil
 | _::r,a=>.cons ⟨a,rfl⟩ (Hz r (a+1))
theorem Ve:RZ X "str.split" Yj:=by
 intro a s σ H x k v l Q I c d h;obtain⟨z,y,m,rfl,rfl,e,f,g,n,rfl,o,q⟩:=h;obtain⟨t,rfl⟩:=c;obtain⟨u,rfl,⟨i,rfl⟩⟩:=d.one;have j:z.length<=sizeLine:=by rw[sizeLine_eq];lia
 have b:(Builtin.Str.partsBetween z (Builtin.Str.occurrences z y 0 z.length (z.length+1)) y.length).length<=sizeLine:=by rw[sizeLine_eq];lia
 refine call_meets F.slot_str_split (typeIs_str _ _ _) F.entry_str_split (F.args_str_split_2 _ _) (PySem.meets_str_split_sep z y t i e f g j b) ?_;exact⟨.ref s.heap.objs.size,_,I.lnew (Hz _ _) (by rw[AA];exact b),rfl,q _ I.fresh⟩
end
end L2
namespace L2
open PySem PySem.Spec PyProof.Rows
set_option genInjectivity false in
structure Fn(K:PySem.W.Frag)(mg:Str->A5 A3)(x:Str)(st:IV)(ps:A1 Str) where
 f:A2
 fd:IS
 F:QD K x x st f fd
 b:Binds K fd ps []
 m:mg x=some (.ref f)
set_option genInjectivity false in
structure Mt(K:PySem.W.Frag)(C:A2)(m qual:Str)(st:IV)(ps:A1 Str) where
 f:A2
 fd:IS
 F:QD K m qual st f fd
 b:Binds K fd ps []
 m:SS K C m f
section
variable{X:Cx}
theorem C7{x:Str}{st:IV}{g:A1 Str}{k:Nat}{sp:Sp}{e:IL}{a:A1 IL}{t:TA}{p pos:Pos}(D:Fn X.K X.mg x st g)(G:IK X.prog X.w X.K X.mg X.base IY k D.f D.fd g sp)(h:JQ k X.A)(i:PA X (e::a) t)
  (j:Gl X x:=by rfl) (c:(x ==("__debug__":Str))=false:=by decide) (l:starEach (e::a) X.env =(false,eval e X.env)::starEach a X.env:=by rfl) (d:(backTo pos (starEach a X.env)).any (·.1)=false:=by rfl) :
  PE X (.Call (.Name x p) (e::a) [] pos) (zCd sp [] E0 t):=zBs G h j D.m D.F.kp D.b .nil E7 i c l d
def Rj(P:A7)(w:F8)(x:V)(H:Hp):Prop:=∃p,x = .ref p/\((∃l,H p=some (Pu P w p l))\/(∃l,H p=some (zGv w p l))\/∃a,H p=some (Pt P w p a))
theorem zEy{c:A1 (A2×Obj)}{σ:St}{H:Hp}{s:A4}{x:V}{v:A3}(I:Inv X c σ H s)(r:RelV x v)(ty:Rj X.prog X.w x H):s.TypeIs v "set"/\∀a,v = .ref a->∃d,s.heap.get? a=some d/\d.dict=none:=by
 obtain⟨p,rfl,h⟩:=ty;cases r;have z:∃o,s.heap.get? p=some o/\o.ExactSet:=by
  rcases h with⟨l,h⟩ | ⟨l,h⟩ | ⟨l,h⟩
  .obtain⟨o,_,_,_,e,b,_⟩:=I.set h;exact⟨o,e,b⟩
  .obtain⟨o,_,_,_,S,_⟩:=I.setw h;exact⟨o,S.ho,S.ex⟩
  .obtain⟨o,_,_,_,e,b,_⟩:=I.sett h;exact⟨o,e,b⟩
 obtain⟨o,e,b⟩:=z;refine⟨⟨o,e,b.1⟩,λa f=>?_⟩;cases f;exact⟨o,e,b.2.1⟩
def zIo(P:A7)(w:F8)(r:V->A1 V->Hp->VK->Prop)(b:TE)(t:TA):TE:=λσ H Q=>b σ H λx a=>Rj P w x a/\t σ a λc d=>r x c d Q
theorem zAk{o e:IL}{i:TE}{t:TA}{c a:Pos}{r:V->A1 V->Hp->VK->Prop}(m:RZ X "set.add" r)(n:PE X o i)(p:PA X [e] t)
  (d:attributeBase o "add" X.env (eval o X.env)=eval o X.env:=by rfl)
  (g:((backTo a (starEach [e] X.env)).all (λx=>!x.1) &&(backToKw a (keywordEach [] X.env)).all (λx=>x.1.isSome)
   && decide ([e].length +([]:A1 Keyword).length +(if([]:A1 Keyword).isEmpty then 0 else 1)<30))=true:=by rfl)
  (f:(c.endLine == a.line)=true:=by rfl) (q:starEach [e] X.env = [(false,eval e X.env)]:=by rfl) :
  PE X (.Call (.Attribute o "add" c) [e] [] a) (zIo X.prog X.w r i t):=by
 intro b s σ H Q I h;refine wpAny_Call_method_late d g f rfl (JA (n b s σ H _ I h) λv u ⟨x,y,j,k,ty,z⟩=>?_);obtain⟨A,B⟩:=zEy j k ty;refine⟨"set", "set.add",F.plainAttrs_set,F.slot_set_add,F.type_set_add,A,B,?_⟩;have l:=p a b u σ y _ j z;rw[q]at l⊢;refine Calls.callWith_builtin rfl (Calls.evalArgs_plain ?_);exact JA l λC D ⟨E,G,J,K,L⟩=>m b D σ G x E v C Q J k K L
theorem zBr{x:Str}{i:Int}{pos:Pos}(h:∃t,X.mg x=some (.int i t))(a:Gl X x:=by rfl)(b:(x ==("__debug__":Str))=false:=by decide):PE X (.Name x pos) (tC (.int i)):=by
 obtain⟨t,e⟩:=h;exact Kq a e ⟨t,rfl⟩ b
theorem zGs{x y:Str}{pos:Pos}(h:∃t,X.mg x=some (.str y t))(a:Gl X x:=by rfl)(b:(x ==("__debug__":Str))=false:=by decide):PE X (.Name x pos) (tC (.str y)):=by
 obtain⟨t,e⟩:=h;exact Kq a e ⟨t,rfl⟩ b
theorem Y5{x:Str}{n:String}{pos:Pos}(a:X.mg x=none)(b:bootBuiltins x=some (.type n))(c:Gl X x:=by rfl)(d:x≠ "__name__":=by decide)(e:(x ==("__debug__":Str))=false:=by decide):PE X (.Name x pos) (tC (.ty n)) :=
 Zk c a b rfl d e
theorem I9{x:Str}{id:String}{r:A1 V->Hp->VK->Prop}{e:IL}{a:A1 IL}{t:TA}{p pos:Pos}(d:K1 X (.builtin id) r)(f:X.mg x=none)(g:bootBuiltins x=some (.builtin id))(h:PA X (e::a) t)(i:Gl X x:=by rfl)(j:x≠ "__name__":=by decide)(b:(x ==("__debug__":Str))=false:=by decide)
  (k:starEach (e::a) X.env =(false,eval e X.env)::starEach a X.env:=by rfl) (c:(backTo pos (starEach a X.env)).any (·.1)=false:=by rfl):PE X (.Call (.Name x p) (e::a) [] pos) (UJ r t):=Wh d i f g h j b k c
theorem Dd{x:Str}{T:String}{r:A1 V->Hp->VK->Prop}{e:IL}{a:A1 IL}{t:TA}{p pos:Pos}(d:K1 X (.type T) r)(f:X.mg x=none)(g:bootBuiltins x=some (.type T))(h:PA X (e::a) t)(i:Gl X x:=by rfl)(j:x≠ "__name__":=by decide)(b:(x ==("__debug__":Str))=false:=by decide)
  (k:starEach (e::a) X.env =(false,eval e X.env)::starEach a X.env:=by rfl) (c:(backTo pos (starEach a X.env)).any (·.1)=false:=by rfl):PE X (.Call (.Name x p) (e::a) [] pos) (UJ r t):=Ry d i f g h j b k c
theorem Q1{a:JN}{cl:A1 (Str×A2)}{N':A1 Str}{cap:A1 (A5 Nat)}(c:OZ X a cl N' cap)(e:RL X cl)(d:closureFor a X.env=pure cl:=by rfl)(kind:a.kind = .function:=by rfl)(b:∀y∈a.names,y.2≠ .cell:=by decide +kernel)
  (f:∀y∈a.names,y.2 = .local->a.names.lookup y.1=some .local:=by decide +kernel) (g:((relabel a X.env).names.all λy=>!(y.2 == .cell||y.2 == .free)||(cl.lookup y.1).isSome)=true:=by rfl):NQ X a cl N' cap:=⟨kind,b,f,d,e,g,c⟩
theorem NR{a:JN}{cl:A1 (Str×A2)}{N':A1 Str}{b:A1 (A2×Obj)}{c:A1 A2}{d:A4}{e:Hp}{x:Str}{pos:Pos}(i:Nat)(f:N'.Nodup:=by decide +kernel)(hi:N'[i]?=some x:=by rfl)(g:Loc (ND X a cl N' b c d e).env.scope x:=by exact Or.inl rfl)
  (h:(ND X a cl N' b c d e).env.scope.names.lookup x=some .local:=by rfl):PG (ND X a cl N' b c d e) (.Name x pos) (W8 i):=D6 (X:=ND X a cl N' b c d e) f hi g (.inr h)
end
def U3:bootBuiltins "len" = some (.builtin "len"):=by decide +kernel
def Im:bootBuiltins "enumerate" = some (.type "enumerate"):=by decide +kernel
def Xz:bootBuiltins "min" = some (.builtin "min"):=by decide +kernel
def zDi:bootBuiltins "max" = some (.builtin "max"):=by decide +kernel
def Yd:bootBuiltins "abs" = some (.builtin "abs"):=by decide +kernel
def n9:bootBuiltins "sorted" = some (.builtin "sorted"):=by decide +kernel
def Yf:bootBuiltins "int" = some (.type "int"):=by decide +kernel
def Lr:bootBuiltins "str" = some (.type "str"):=by decide +kernel
def Lb:bootBuiltins "bool" = some (.type "bool"):=by decide +kernel
def Q5:bootBuiltins "list" = some (.type "list"):=by decide +kernel
def X8:bootBuiltins "tuple" = some (.type "tuple"):=by decide +kernel
def Yb:bootBuiltins "set" = some (.type "set"):=by decide +kernel
def C6:bootBuiltins "isinstance" = some (.builtin "isinstance"):=by decide +kernel
def Xw:bootBuiltins "all" = some (.builtin "all"):=by decide +kernel
def KJ(a:A2)(b H:Hp):Prop:=∀o,b a=some o->H a=some o
def Sm(D:A1 A2)(H H':Hp):Prop:=∀b o,H b=some o->b∉D->H' b=some o
def Cs.at{b H:Hp}(h:Cs b H)(a:A2):KJ a b H:=λo e=>h a o e
def Cs.new{H:Hp}{p:A2}{o:HO}(h:H p=none):Cs H (IH H p o):=λb u e=>by rw[B5 (A9 e h)];exact e
def Cs.upd{a H:Hp}{p:A2}{o:HO}(s:Cs a H)(h:a p=none):Cs a (IH H p o):=λb u e=>by rw[B5 (A9 e h)];exact s b u e
def Cs.sm{D:A1 A2}{H H':Hp}(h:Cs H H'):Sm D H H':=λb o e _=>h b o e
def Sm.refl(D:A1 A2)(H:Hp):Sm D H H:=λ_ _ e _=>e
def Sm.trans{D:A1 A2}{H d e:Hp}(a:Sm D H d)(b:Sm D d e):Sm D H e:=λc o h n=>b c o (a c o h n) n
def Sm.new{D:A1 A2}{H c:Hp}{p:A2}{o:HO}(a:Sm D H c)(h:c p=none):Sm D H (L2.IH c p o):=λb u e n=>by
 have:=a b u e n;rw[B5 (A9 this h)];exact this
def Sm.upd{D:A1 A2}{H c:Hp}{p:A2}{o:HO}(a:Sm D H c)(h:p∈D):Sm D H (L2.IH c p o):=λb u e n=>by
 rw[B5 (show b≠p from λz=>n (by rw[z];exact h))];exact a b u e n
def Sm.updN{D:A1 A2}{H c:Hp}{p:A2}{o:HO}(a:Sm D H c)(h:H p=none):Sm D H (L2.IH c p o):=λb u e n=>by rw[B5 (A9 e h)];exact a b u e n
def Sm.at{D:A1 A2}{H H':Hp}(h:Sm D H H'){a:A2}(n:a∉D):KJ a H H':=λo e=>h a o e n
def Sm.none{D:A1 A2}{H H':Hp}(h:Sm D H H'){a:A2}(n:a∉D)(e:H' a=Option.none):H a=Option.none:=by
 cases q:H a with
 | none=>rfl
 | some o=>rw[h a o q n]at e;cases e
def KJ.seqL{K:PySem.W.Frag}{H H':Hp}{a:A2}{xs:A1 V}(e:KJ a H H')(h:IQ K H a xs):IQ K H' a xs:=by
 rcases h with(h | ⟨o,h⟩) | h
 .exact .inl (.inl (e _ h))
 .exact .inl (.inr ⟨o,e _ h⟩)
 .exact .inr h
def KJ.seqT{K:PySem.W.Frag}{H H':Hp}{a:A2}{xs:A1 V}(e:KJ a H H')(h:JH K H a xs):JH K H' a xs:=by
 rcases h with(h | ⟨o,h⟩) | h
 .exact .inl (.inl (e _ h))
 .exact .inl (.inr ⟨o,e _ h⟩)
 .exact .inr h
def RX(K:PySem.W.Frag)(H:Hp)(a:A2)(xs:A1 V):Prop:=IQ K H a xs\/JH K H a xs
def KJ.seq{K:PySem.W.Frag}{H H':Hp}{a:A2}{xs:A1 V}(e:KJ a H H')(h:RX K H a xs):RX K H' a xs:=h.imp e.seqL e.seqT
structure LY(J:It)(xs:A1 V)(a:A2)(H0:Hp):Prop where
 go:∀H i,KJ a H0 H->i<xs.length->J.go i H
 stop:∀H,KJ a H0 H->J.stop xs.length H
 yld:∀H i x H',KJ a H0 H->i<xs.length->J.yld i H x H'->H'=H/\xs[i]?=some x
def OW{K:PySem.W.Frag}{b:Hp}{a:A2}{xs:A1 V}(h:IQ K b a xs):LY (UE K a) xs a b :=
 ⟨λH i k c=>⟨xs,xs[i],k.seqL h,AC c⟩,λH k=>⟨xs,k.seqL h,Nat.le_refl _⟩,λH i x d k c ⟨e,y⟩=>⟨e,y xs (k.seqL h)⟩⟩
def asT{K:PySem.W.Frag}{b:Hp}{a:A2}{xs:A1 V}(h:JH K b a xs):LY (Itt K a) xs a b :=
 ⟨λH i k c=>⟨xs,xs[i],k.seqT h,AC c⟩,λH k=>⟨xs,k.seqT h,Nat.le_refl _⟩,λH i x d k c ⟨e,y⟩=>⟨e,y xs (k.seqT h)⟩⟩
def Zw{J:It}{n:Nat}{g:TG}{f:TS}{D:Ends}{σ:St}{H:Hp}(Pv:Nat->St->Hp->Prop)(j:Pv 0 σ H)(b:∀i σ H,i<n->Pv i σ H->J.go i H)(c:∀σ H,Pv n σ H->J.stop n H)
  (k:∀i σ H x H',i<n->Pv i σ H->J.yld i H x H'->g x σ H' λσ2 d=>f { D with nx:=Pv (i+1),ct:=Pv (i+1),bk:=D.nx } σ2 d) (l:∀σ H,Pv n σ H->D.nx σ H) :
  ∃W:Nat->Nat->St->Hp->Prop,(∃m,W 0 m σ H)/\∀i m σ H,W i m σ H ->
   (J.stop i H/\D.nx σ H)\/(J.go i H/\∃N:St->Hp->Prop,(∀σ' H',N σ' H'->∃h,h < m/\W (i+1) h σ' H')/\∀x H',J.yld i H x H'->g x σ H' λσ2 d=>f { D with nx:=N,ct:=N,bk:=D.nx } σ2 d):=by
 refine⟨λi m σ H=>m=n-i/\i<=n/\Pv i σ H,⟨n,by simp,CB _,j⟩,?_⟩;rintro i m σ H ⟨rfl,q,p⟩;by_cases a:i<n
 .exact .inr ⟨b i σ H a p,Pv (i+1),λσ' H' o=>⟨n-(i+1),by lia,rfl,a,o⟩,λx H' y=>k i σ H x H' a p y⟩
 .have e:i=n:=by lia
  subst e;exact .inl ⟨c σ H p,l σ H p⟩
def Yk{J:It}{xs:A1 V}{a:A2}{f:Hp}(as:LY J xs a f){g:TG}{h:TS}{D:Ends}{σ:St}{H:Hp}(Pv:Nat->St->Hp->Prop)(k:Pv 0 σ H)(c:∀i σ H,i<=xs.length->Pv i σ H->KJ a f H)
  (l:∀i σ H x,xs[i]?=some x->Pv i σ H->g x σ H λσ2 d=>h { D with nx:=Pv (i+1),ct:=Pv (i+1),bk:=D.nx } σ2 d) (o:∀σ H,Pv xs.length σ H->D.nx σ H) :
  ∃W:Nat->Nat->St->Hp->Prop,(∃m,W 0 m σ H)/\∀i m σ H,W i m σ H ->
   (J.stop i H/\D.nx σ H)\/(J.go i H/\∃N:St->Hp->Prop,(∀σ' H',N σ' H'->∃j,j < m/\W (i+1) j σ' H')/\∀x H',J.yld i H x H'->g x σ H' λσ2 d=>h { D with nx:=N,ct:=N,bk:=D.nx } σ2 d) :=
 Zw (n:=xs.length) Pv k (λi σ H b p=>as.go H i (c i σ H (DT b) p) b) (λσ H p=>as.stop H (c _ σ H (Nat.le_refl _) p)) (λi σ H x H' b p y=>by
  obtain⟨rfl,e⟩:=as.yld H i x H' (c i σ H (DT b) p) b y;exact l i σ _ x e p) o
def Ce{J:It}{n:Nat}{g:TG}{f:TT}{h:SD}{σ:St}{H:Hp}{Q:St->Hp->Prop}(Pv:Nat->St->Hp->Prop)(k:Pv 0 σ H)(c:∀i σ H,i<n->Pv i σ H->J.go i H)(d:∀σ H,Pv n σ H->J.stop n H)
  (l:∀i σ H x H' (N:St->Hp->Prop),i<n->Pv i σ H->J.yld i H x H'->(∀σ' H',Pv (i+1) σ' H'->N σ' H')->g x σ H' λσ2 o=>f σ2 o λb j=>if b=true then h σ2 j N else N σ2 j)
  (q:∀σ H,Pv n σ H->Q σ H):Ji g f h J σ H Q:=by
 refine⟨λi m σ H=>m=n-i/\i<=n/\Pv i σ H,⟨n,by simp,CB _,k⟩,?_⟩;rintro i m σ H ⟨rfl,s,p⟩;by_cases a:i<n
 .exact .inr ⟨c i σ H a p,λx H' y=>l i σ H x H' _ a p y λσ3 t r=>⟨n-(i+1),by lia,rfl,a,r⟩⟩
 .have e:i=n:=by lia
  subst e;exact .inl ⟨d σ H p,q σ H p⟩
def V1{J:It}{xs:A1 V}{a:A2}{f:Hp}(as:LY J xs a f){g:TG}{h:TT}{j:SD}{σ:St}{H:Hp}{Q:St->Hp->Prop}(Pv:Nat->St->Hp->Prop)(l:Pv 0 σ H)(d:∀i σ H,i<=xs.length->Pv i σ H->KJ a f H)
  (m:∀i σ H x (N:St->Hp->Prop),xs[i]?=some x->Pv i σ H->(∀σ' H',Pv (i+1) σ' H'->N σ' H')->g x σ H λσ2 o=>h σ2 o λb k=>if b=true then j σ2 k N else N σ2 k)
  (q:∀σ H,Pv xs.length σ H->Q σ H):Ji g h j J σ H Q :=
 Ce (n:=xs.length) Pv l (λi σ H c p=>as.go H i (d i σ H (DT c) p) c) (λσ H p=>as.stop H (d _ σ H (Nat.le_refl _) p)) (λi σ H x H' N c p y r=>by
  obtain⟨rfl,e⟩:=as.yld H i x H' (d i σ H (DT c) p) c y;exact m i σ _ x N e p r) q
def Ef{a:SD}{N:St->Hp->Prop}{σ:St}{H:Hp}{i:Nat}{x:V}(h:a (σ.set i (some x)) H N):W8 i x σ H λσ2 d=>By σ2 d λb c=>if b=true then a σ2 c N else N σ2 c:=by
 show if true=true then a (σ.set i (some x)) H N else N (σ.set i (some x)) H
 rw[AO rfl];exact h
def zAo{a:SD}{N:St->Hp->Prop}{σ:St}{H:Hp}(h:a σ H N):By σ H λb c=>if b=true then a σ c N else N σ c:=by
 show if true=true then a σ H N else N σ H
 rw[AO rfl];exact h
section
variable{X:Cx}(K:PySem.W.Frag)(P:A7)(w:F8){tg:IL}
theorem OU{l:IL}{a:TE}(b:PE X l a)(c:X.K=K:=by rfl):PI X tg l (zEq K a):=by subst c;exact zAh b
theorem piS{l:IL}{a:TE}(b:PE X l a)(c:X.K=K:=by rfl):PI X tg l (zIa K a):=by subst c;exact zCy b
theorem piE{b:A1 IL}{kk:Nat}{d:Pos}{a:IL}{c:TA}{p pos:Pos}(e:X.mg "enumerate" = none)(f:PA X [a] c)(g:Gl X "enumerate":=by rfl)(h:starEach [a] X.env = [(false,eval a X.env)]:=by rfl)(i:X.K=K:=by rfl) :
  PI X (.Tuple b kk d) (.Call (.Name "enumerate" p) [a] [] pos) (zFb K c):=by subst i;exact Zh g e Im f h
theorem zHm{a:IL}{b:TA}{p pos:Pos}(c:X.mg "range" = none)(d:PA X [a] b)(e:Gl X "range":=by rfl)(f:starEach [a] X.env = [(false,eval a X.env)]:=by rfl):PI X tg (.Call (.Name "range" p) [a] [] pos) (zCw b):=Tf e c d f
theorem RB{a:A1 IL}{k:Nat}{t:S1}{n:Nat}{pos:Pos}(h:UP X a t)(c:X.calm=true:=by rfl)(d:(assignEach a X.env).length=n:=by rfl)(b:(assignEach a X.env).findIdx? (·.1)=none:=by rfl)(e:X.K=K:=by rfl):PG X (.Tuple a k pos) (zGf K n t):=by subst e;exact zFf c h d b
theorem NS{e:IL}{a:TE}{f:Str}{pos:Pos}(b:PE X e a)(c:attributeBase e f X.env (eval e X.env)=eval e X.env:=by rfl)(d:X.K=K:=by rfl):PE X (.Attribute e f pos) (zFy K a f):=by subst d;exact zFv b c
theorem SA{o a:IL}{c d:TE}{f:Str}{pos b:Pos}(e:PE X o c)(g:PE X a d)(h:swapsWith a (some (.Attribute o f b)) pos.line X.env=pure false:=by rfl)(i:X.K=K:=by rfl):PS X (.Assign [.Attribute o f b] a pos) (zIm K c d f):=by subst i;exact zFg e g h
theorem V5(b:X.K=K:=by rfl):K1 X (.builtin "len") (λxs H Q=>∃p a,xs = [.ref p]/\(IQ K H p a\/JH K H p a)/\Q (.int a.length) H):=by subst b;exact Iz
theorem i5(b:X.K=K:=by rfl):K1 X (.type "list") (λxs H Q=>∃p a,xs = [.ref p]/\(IQ K H p a\/JH K H p a)/\∀l,H l=none->Q (.ref l) (IH H l (.lst a))):=by subst b;exact Gv
theorem Nd(b:X.K=K:=by rfl):K1 X (.type "tuple") (λxs H Q=>∃p a,xs = [.ref p]/\((IQ K H p a/\∀l,H l=none->Q (.ref l) (IH H l (.tup a)))\/(JH K H p a/\Q (.ref p) H))):=by subst b;exact Eu
theorem Ym(a:X.calm=true:=by rfl)(b:X.K=K:=by rfl):K1 X (.builtin "all") (λxs H Q=>∃(p:A2) (bs:A1 Bool),xs = [.ref p]/\IQ K H p (bs.map V.bl)/\Q (.bl (bs.all id)) H):=by subst b;exact Xd a
theorem Xc(c:X.K=K:=by rfl):K1 X (.builtin "sorted") (λxs H Q=>∃(p:A2) (b:A1 Str),xs = [.ref p]/\IQ K H p (b.map V.str)/\∀(l:A2) (a:A1 Str),H l=none->a.Perm b->a.Pairwise SB->Q (.ref l) (IH H l (.lst (a.map V.str)))):=by subst c;exact Hy
theorem Wc(c:X.K=K:=by rfl):K1 X (.builtin "sorted") (λxs H Q=>∃(p:A2) (b:A1 JS),xs = [.ref p]/\IQ K H p (b.map λq=>V.ref q.1)/\(∀q∈b,F0 H q)/\∀(l:A2) (a:A1 JS),H l=none->a.Perm b->a.Pairwise SL->Q (.ref l) (IH H l (.lst (a.map λq=>V.ref q.1)))):=by subst c;exact Ie
theorem P1(a:X.K=K:=by rfl):K1 X (.builtin "isinstance") (λxs H Q=>∃x n t b,xs = [x,.ty n]/\MZ K H x t/\PySem.W.kitOne K t (.type n)=some b/\Q (.bl b) H):=by subst a;exact Qm
theorem Zn(a:X.prog=P:=by rfl)(hw:X.w=w:=by rfl):K1 X (.type "set") (λxs H Q=>xs = []/\∀p,H p=none->Q (.ref p) (IH H p (Pu P w p []))):=by subst a;subst hw;exact Sk
theorem Ww(a:X.prog=P:=by rfl)(hw:X.w=w:=by rfl):K1 X (.type "set") (λxs H Q=>xs = []/\∀p,H p=none->Q (.ref p) (IH H p (Pt P w p []))):=by subst a;subst hw;exact Pf
theorem Az(a:X.A.units+64<cLine)(b:X.K=K:=by rfl):LD X (compareOp .NotIn) (zGq K true):=by subst b;exact Rs a
theorem Wk(a:X.A.units+64<cLine)(b:X.K=K:=by rfl):LD X (compareOp .Eq) (zFz K):=by subst b;exact zEw a
theorem zHb(a:X.A.units+64<cLine)(b:X.K=K:=by rfl):LD X (compareOp .NotEq) (zId K):=by subst b;exact zEd a
theorem zCk(a:X.K=K:=by rfl):LD X (compareOp .In) (UA K false):=by subst a;exact Qd
theorem Wi(a:X.K=K:=by rfl):LD X (compareOp .NotIn) (UA K true):=by subst a;exact Hw
theorem zHd(a:X.prog=P:=by rfl)(hw:X.w=w:=by rfl):LD X (compareOp .In) (zIe P w false):=by subst a;subst hw;exact Qp
theorem zHu(a:X.A.units+1<cLine)(b:X.prog=P:=by rfl)(hw:X.w=w:=by rfl):LD X (compareOp .In) (zIq P w):=by subst b;subst hw;exact Pq a
theorem zFt(a:X.prog=P:=by rfl)(hw:X.w=w:=by rfl):RZ X "set.add" (zEm P w):=by subst a;subst hw;exact zCv
theorem zFa(a:X.A.units+1<cLine)(b:X.prog=P:=by rfl)(hw:X.w=w:=by rfl):RZ X "set.add" (zCo P w):=by subst b;subst hw;exact zAr a
theorem Ys{o e:IL}{g:TE}{t:TA}{b a:Pos}{r:V->A1 V->Hp->VK->Prop}(h:RZ X "set.add" r)(i:PE X o g)(j:PA X [e] t)
  (c:attributeBase o "add" X.env (eval o X.env)=eval o X.env:=by rfl)
  (f:((backTo a (starEach [e] X.env)).all (λx=>!x.1) &&(backToKw a (keywordEach [] X.env)).all (λx=>x.1.isSome)
   && decide ([e].length +([]:A1 Keyword).length +(if([]:A1 Keyword).isEmpty then 0 else 1)<30))=true:=by rfl)
  (d:(b.endLine == a.line)=true:=by rfl) (k:starEach [e] X.env = [(false,eval e X.env)]:=by rfl) (l:X.prog=P:=by rfl) (hw:X.w=w:=by rfl) :
  PE X (.Call (.Attribute o "add" b) [e] [] a) (zIo P w r g t):=by subst l;subst hw;exact zAk h i j c f d k
theorem P7(a:X.K=K:=by rfl):US X (zIl K):=by subst a;exact zAc
theorem RC(a:X.K=K:=by rfl):US X (zIj K):=by subst a;exact zEb
theorem slL(a:X.K=K:=by rfl):SlR X (zIc K):=by subst a;exact Zo
theorem RR{a:IL}{c:TE}(d:PE X a c)(e:∀b,isTrue a X.env b =(do let v <-b;standAt a.pos;holding [v] (truthy v)):=by intro _;rfl)(f:X.K=K:=by rfl):PT X a (λσ H Q=>c σ H λx H'=>∃k,zGc K x H' k/\Q k H'):=by subst f;exact Wl d e
theorem Fu{T id:String}{name:Str}{o e:IL}{d:A1 IL}{k:TE}{t:TA}{c a:Pos}{r:V->A1 V->Hp->VK->Prop}(l:PlainAttrs T)(h:Slot T name id)(j:typeOf (.builtin id)=pure (.type "method_descriptor"))(m:RZ X id r)(n:PE X o k)(p:PA X (e::d) t)
  (f:attributeBase o name X.env (eval o X.env)=eval o X.env:=by rfl)
  (i:((backTo a (starEach (e::d) X.env)).all (λx=>!x.1) &&(backToKw a (keywordEach [] X.env)).all (λx=>x.1.isSome)
   && decide ((e::d).length +([]:A1 Keyword).length +(if([]:A1 Keyword).isEmpty then 0 else 1)<30))=true:=by rfl)
  (g:(c.endLine == a.line)=true:=by rfl) (q:starEach (e::d) X.env =(false,eval e X.env)::starEach d X.env:=by rfl) (b:(backTo a (starEach d X.env)).any (·.1)=false:=by rfl) (s:X.K=K:=by rfl) :
  PE X (.Call (.Attribute o name c) (e::d) [] a) (tBM K T r k t):=by subst s;exact zGn l h j m n p f i g q b
end
section
variable{X:Cx}
theorem Pi{f:A1 (A2×Obj)}{σ:St}{H:Hp}{s:A4}{A:IM}{E:A3->A4->Prop}{Q:A3->A4->Prop}{b:Bool}{x:V}{u t:A3}{l:A2}{its:A1 A3}(I:Inv X f σ H s)(g:RelV x u)(ty:MZ X.K H x t)(i:IsTup s.heap l its.toArray)(e:PySem.W.kitAny X.K t its=some b)(m:(∃y,x = .str y)\/(∃a xs,x = .ref a/\(H a=some (.lst xs)\/H a=some (.tup xs))))(h:∀r,Q (.bool b) { s with toks:=r }) :
  wpAny (model X.prog X.w) A (call (.builtin "isinstance") [u,.ref l]) Q E s:=by
 obtain⟨⟨G,J,v,B⟩,j,C,n,D⟩:=i;cases C;cases D;rcases m with⟨y,rfl⟩ | ⟨a,xs,rfl,ea | ea⟩
 .cases ty;obtain⟨t,q⟩:=(show ∃t,u=Value.str y t from g);cases q;exact PySem.W.kia_tup PySem.W.kitx_str I.kIn True.intro j e (λz=>nomatch z) h
 .cases(show u=Value.ref a from g);have d:t = .type "list":=by cases ty with
   | lst=>rfl
   | frz=>rfl
   | tup c=>rw[ea]at c;cases c
   | dK c=>rw[ea]at c;cases c
   | dT c=>rw[ea]at c;cases c
   | ins c=>rw[ea]at c;cases c
  subst d;obtain⟨_,_,n,_,k⟩:=(show IU X.prog X.w H s.heap a (.lst xs)from I.hok a _ ea);exact PySem.W.kia_tup PySem.W.kitx_list I.kIn ⟨_,k,rfl⟩ j e (λz=>nomatch z) h
 .cases(show u=Value.ref a from g);have d:t = .type "tuple":=by cases ty with
   | tup=>rfl
   | frz c=>rw[ea]at c;cases c
   | lst c=>rw[ea]at c;cases c
   | dK c=>rw[ea]at c;cases c
   | dT c=>rw[ea]at c;cases c
   | ins c=>rw[ea]at c;cases c
  subst d;obtain⟨_,_,_,p⟩:=(show IU X.prog X.w H s.heap a (.tup xs)from I.hok a _ ea);obtain⟨o,k,F,_⟩:=p;exact PySem.W.kia_tup PySem.W.kitx_tuple I.kIn ⟨o,k,F⟩ j e (λz=>nomatch z) h
def zAw(K:PySem.W.Frag):A1 V->Hp->VK->Prop:=λc H Q=>∃(x:V) (p:A2) (d:A1 String) (t:A3) (b:Bool),c = [x,.ref p]/\H p=some (.tup (d.map V.ty))/\MZ K H x t/\((∃y,x = .str y)\/(∃a c,x = .ref a/\(H a=some (.lst c)\/H a=some (.tup c))))/\PySem.W.kitAny K t (d.map Value.type)=some b/\Q (.bl b) H
theorem Jp:∀{ns:A1 String} {us:A1 A3},IR (ns.map V.ty) us->us=ns.map Value.type
 | [],_,.nil=>rfl
 | _::_,_,.cons r t=>by rw[BB,Jp t];cases r;rfl
theorem Ol:K1 X (.builtin "isinstance") (zAw X.K):=by
 intro c s σ H l m Q I r h;obtain⟨x,p,n,t,b,rfl,e,f,g,i,q⟩:=h;obtain⟨u,v,rfl,j,a⟩:=r.two;cases a;obtain⟨k,a,d,o⟩:=I.tuple (JH.of e);rw[Jp a]at d;exact Pi I j f d i g λw=>⟨.bl b,H,I.tok _,rfl,q⟩
variable(K:PySem.W.Frag)
theorem Vl(a:X.K=K:=by rfl):K1 X (.builtin "isinstance") (zAw K):=by subst a;exact Ol
end
section
variable{prog:A7}{w:F8}{A:IM}{E:A3->A4->Prop}{s:A4}{it l:A2}{i:Nat}{items:CM A3}{x:A3}{Q:A3->A4->Prop}
theorem zBp{α:Type}{Q:α->A4->Prop}(a:A.handled=none)(h:∀h' e,(∀b o,s.heap.get? b=some o->h'.get? b=some o)->(∃o,h'.get? e=some o/\o.cls = .type "StopIteration")->E (.ref e) { s with heap:=h' }):wpAny (model prog w) A (Builtin.SmallTypes.stopIteration (α:=α)) Q E s:=by
 refine AB (AB (GB (AB (AG (wpAny_newObj_type ?_ (sizeOk_excFields ..)))) (by show 0<=sizeLine;decide)));refine AB (wpAny_handled ?_);rw[a];exact wpAny_throw (h _ _ (λb o e=>AE _ (AE _ e)) ⟨_,AS _ rfl,rfl⟩)
theorem X2(a:s.heap.IsTupleIter it l i)(g:s.heap.IsTuple l items)(h:items[i]?=some x)
  (j:∀h',h'.IsTupleIter it l (i+1)->Heap.SameBut it s.heap h'->Q x { s with heap:=h' }):wpAny (model prog w) A (Builtin.SmallTypes.nextOf (.ref it)) Q E s:=by
 obtain⟨o,d,k,b⟩:=id a;obtain⟨m,e,_,n,f⟩:=g;refine AB (EM a.typeIs F.slot_tuple_iterator_next (DX F.slot_tuple_iterator_next a.typeIs F.entry_tuple_iterator_next ?_ (F.args_tuple_iterator_next_1 _)));refine AB (AG (AB (DH d b rfl ?_)));refine EG (c:=(Value.ref l == Value.none)=true) rfl ?_;refine AB (DH d b rfl (AB (DB e f ?_)));dsimp only;rw[show items[(i:Int).toNat]?=some x from h];refine AB (wpAny_setField d b (FJ 1) (AG ⟨x,rfl,AG (j _ ⟨_,EC _ d (Obj.isFreed_of_fields (Obj.data_mapFields b _)),(Obj.cls_mapFields o _).trans k,(Obj.data_mapFields b _).trans ?_⟩ (DZ _ _ _))⟩));rfl
theorem Dg(j:A.handled=none)(a:s.heap.IsTupleIter it l i)(m:s.heap.IsTuple l items)(n:items[i]?=none)
  (p:∀h' e,Heap.ExtBut it s.heap h'->(∃o,h'.get? e=some o/\o.cls = .type "StopIteration")->E (.ref e) { s with heap:=h' }):wpAny (model prog w) A (Builtin.SmallTypes.nextOf (.ref it)) Q E s:=by
 obtain⟨o,d,r,f⟩:=id a;obtain⟨t,g,_,u,h⟩:=m;refine AB (EM a.typeIs F.slot_tuple_iterator_next (DX F.slot_tuple_iterator_next a.typeIs F.entry_tuple_iterator_next ?_ (F.args_tuple_iterator_next_1 _)));refine AB (AG (AB (DH d f rfl ?_)));refine EG (c:=(Value.ref l == Value.none)=true) rfl ?_;refine AB (DH d f rfl (AB (DB g h ?_)));dsimp only;rw[show items[(i:Int).toNat]?=none from n];refine AB (FD (AB (wpAny_setField d f (GF 1) ?_)));exact zBp j λh' e k d=>p h' e (λb o q e=>k b o (((DZ _ _ _).2 b q).trans e)) d
theorem Rz{M:Model}{α β:Type}{a b:α}{i u v:β}{f:α->β->Sem (ForInStep β)}{Q:β->A4->Prop}(h:wpAny M A (f a i) (λr c=>r = .yield u/\wpAny M A (f b u) (λr c=>r = .yield v/\Q v c) E c) E s):wpAny M A (forIn [a,b] i f) Q E s:=by
 rw[FU];refine AB (CI h (λr c z=>?_) λe c z=>z);obtain⟨rfl,z⟩:=z;show wpAny M A (forIn [b] u f) Q E c;rw[FU];refine AB (CI z (λr c z=>?_) λe c z=>z);obtain⟨rfl,z⟩:=z;exact AG z
theorem Db{z TI TO d f m l2:A2}{r t:Nat}{xs K:CM A3}{x y a b:A3}(D:ZipApart z TI TO d f m l2)(hz:IsZip s.heap z TI TO .none)(B:IsPair s.heap TI (.ref d) (.ref f))(C:IsPair s.heap TO a b)
  (h1:s.heap.IsTupleIter d m r) (h2:s.heap.IsTupleIter f l2 t) (T:s.heap.IsTuple m xs) (U:s.heap.IsTuple l2 K) (V:xs[r]?=some x) (W:K[t]?=some y)
  (X:∀h',IsZip h' z TI TO (rawInt s.heap.objs.size)->IsPair h' TO x y->h'.IsTupleIter d m (r+1)->h'.IsTupleIter f l2 (t+1)->IsPair h' s.heap.objs.size x y->h'.objs.size=s.heap.objs.size+1->(∀c o,c≠z->c≠TO->c≠d->c≠f->s.heap.get? c=some o->h'.get? c=some o)->Q (.ref s.heap.objs.size) { s with heap:=h' }) :
  wpAny (model prog w) A (Builtin.«zip.__next__» ⟨[.ref z],[]⟩) (λfin Y=>∃v,fin = .done (.ret v)/\Q v Y) E s:=by
 obtain⟨F,gg,dd,tt,oo⟩:=s;refine AB (AG (AB (DH hz rfl rfl (AB (DH hz rfl rfl (AB (DB B rfl ?_)))))));refine EG rfl (AB (AB (DH hz rfl rfl (AG (wpAny_ite_true rfl ?_)))));refine AB (FD (AB (DH hz rfl rfl (AB (FP hz (GF 4) λh3 Z g=>?_)))));have a3:=h1.extBut g.extBut D.i1z;have b3:=h2.extBut g.extBut D.i2z;have c3:=T.extBut g.extBut D.l1z;have d3:=U.extBut g.extBut D.l2z;have e3:=(g.2 TO D.TOz).trans C;refine AB ?_;rw[show(#[Value.ref d,Value.ref f].toList.zipIdx) = [(Value.ref d,0),(Value.ref f,1)]from rfl];refine Rz (u:=(none,())) (v:=(none,())) ?_;refine AB (wpAny_onRaise (EG rfl (AB (X2 a3 c3 V λh4 a4 h=>AG ?_))));have L:=(h.2 TO D.TOi1).trans e3;refine AB (DB L rfl (AB (wpAny_updateSeq_pair L λh5 e5 i=>AB (HP (AG ⟨rfl,?_⟩)))));have b5:=(b3.extBut h.extBut D.i12.symm).extBut i.extBut D.TOi2.symm;have d5:=(d3.extBut h.extBut D.l2i1).extBut i.extBut D.l2TO;refine AB (wpAny_onRaise (EG rfl (AB (X2 b5 d5 W λh6 b6 j=>AG ?_))));have M:=(j.2 TO D.TOi2).trans e5;refine AB (DB M rfl (AB (wpAny_updateSeq_pair M λn N k=>AB (HP (AG ⟨rfl,?_⟩)))));have z7:=(k.2 z D.TOz.symm).trans ((j.2 z D.i2z.symm).trans ((i.2 z D.TOz.symm).trans ((h.2 z D.i1z.symm).trans Z)));have G:n.objs.size=F.objs.size:=k.1.trans (j.1.trans (i.1.trans (h.1.trans g.1)));have O:∀{c:A2} {o:Obj},F.get? c=some o->c≠n.objs.size:=λe=>by rw[G];exact AZ (AI e)
 refine AB (DB N rfl (AB (GB (AB (AB (FP (AE _ z7) (GF 4) λh8 z8 H=>FP z8 (Nat.succ_lt_succ (GF 3)) λp P I=>AG ⟨_,rfl,?_⟩))) (by show 2<=sizeLine;decide))));have q:∀{c:A2} {o:Obj},c≠z->n.get? c=some o->p.get? c=some o:=λl e=>(I.2 _ l).trans ((H.2 _ l).trans (AE _ e));have J:p.objs.size=F.objs.size+1:=I.1.trans (H.1.trans ((EE ..).trans (congrArg (· + 1) G)));have R:p.get? n.objs.size=some ⟨.type "tuple",none,.seq #[x,y],#[]⟩:=(I.2 _ (O hz).symm).trans ((H.2 _ (O hz).symm).trans (AS _ rfl));rw[G]at P R⊢;refine X p P (q D.TOz N) (a4.at λo e=>?_) (b6.at λo e=>?_) R J λc o l S n1 n2 e=>q l ?_
 .exact q D.i1z ((k.2 _ D.TOi1.symm).trans ((j.2 _ D.i12).trans ((i.2 _ D.TOi1.symm).trans e)))
 .exact q D.i2z ((k.2 _ D.TOi2.symm).trans e)
 .exact(k.2 _ S).trans ((j.2 _ n2).trans ((i.2 _ S).trans ((h.2 _ n1).trans ((g.2 _ l).trans e))))
theorem Fa{z TI TO a b f l2:A2}{j:Nat}{xs:CM A3}{Q:PySem.Fin->A4->Prop}(p:A.handled=none)(D:ZipApart z TI TO a b f l2)(hz:IsZip s.heap z TI TO .none)(g:IsPair s.heap TI (.ref a) (.ref b))
  (h1:s.heap.IsTupleIter a f j) (r:s.heap.IsTuple f xs) (t:xs[j]?=none)
  (u:∀h' e,(∀c o,c≠z->c≠TO->c≠a->c≠b->s.heap.get? c=some o->h'.get? c=some o)->(∃o,h'.get? e=some o/\o.cls = .type "StopIteration")->E (.ref e) { s with heap:=h' }) :
  wpAny (model prog w) A (Builtin.«zip.__next__» ⟨[.ref z],[]⟩) Q E s:=by
 obtain⟨B,C,F,tt,G⟩:=s;refine AB (AG (AB (DH hz rfl rfl (AB (DH hz rfl rfl (AB (DB g rfl ?_)))))));refine EG rfl (AB (AB (DH hz rfl rfl (AG (wpAny_ite_true rfl ?_)))));refine AB (FD (AB (DH hz rfl rfl (AB (FP hz (GF 4) λH k h=>?_)))));refine AB ?_;rw[show(#[Value.ref a,Value.ref b].toList.zipIdx) = [(Value.ref a,0),(Value.ref b,1)]from rfl,FU];refine AB (AB (wpAny_onRaise (EG rfl (AB (Dg p (h1.extBut h.extBut D.i1z) (r.extBut h.extBut D.l1z) t λI e i d=>?_)))));refine FP (i z _ D.i1z.symm k) (GF 4) λv J l=>u v e (λc o m _ x _ e=>(l.2 _ m).trans (i c o x ((h.2 _ m).trans e))) ?_;obtain⟨o,d,n⟩:=d;have y:e≠z:=λq=>by
  subst q;rw[i e _ D.i1z.symm k]at d;cases d;exact absurd (show Value.type "zip" = .type "StopIteration" from n) (by decide)
 exact⟨o,(l.2 _ y).trans d,n⟩
theorem Ml{z TI TO:A2}{a:A3}(hz:IsZip s.heap z TI TO a):s.TypeIs (.ref z) "zip":=⟨_,hz,rfl⟩
theorem zAz(O:A.handled=none)(z TI TO f g j l2:A2)(D:ZipApart z TI TO f g j l2)(xs v:CM A3)(P:xs.size<=v.size) :
  WalksT prog w A z [z,TI,TO,f,g,j,l2] [z,TO,f,g] xs.size (λi C=>∃x y,xs[i]?=some x/\v[i]?=some y/\C = #[x,y])
   (λi h=>IsZip h z TI TO .none/\IsPair h TI (.ref f) (.ref g)/\(∃a b,IsPair h TO a b)/\h.IsTupleIter f j i/\h.IsTupleIter g l2 i/\h.IsTuple j xs/\h.IsTuple l2 v)
   (λi T h=>IsZip h z TI TO (rawInt T)/\IsPair h TI (.ref f) (.ref g)/\(∃a b,IsPair h TO a b)/\h.IsTupleIter f j (i+1)/\h.IsTupleIter g l2 (i+1)/\h.IsTuple j xs/\h.IsTuple l2 v/\T≠z/\T≠TO/\T≠f/\T≠g) where
 sub:=by simp
 frame:=λi h B ⟨c,l,⟨a,b,p⟩,m,r,n,t⟩ k=>⟨k z (by simp) _ c,k TI (by simp) _ l,⟨a,b,k TO (by simp) _ p⟩,m.at (k f (by simp)),r.at (k g (by simp)),n.at (k j (by simp)),t.at (k l2 (by simp))⟩
 item:=λi s Q E K ⟨c,l,⟨a,b,p⟩,m,r,n,t⟩ G=>by
  have H:xs[i]?=some xs[i]:=FQ K;have L:v[i]?=some (v[i]'(BK K P)):=FQ _;refine AB (ID (EM (Ml c) F.slot_zip_next (DX F.slot_zip_next (Ml c) F.entry_zip_next (Db D c l p m r n t H L λB I R S U V sz k=>AG ?_) (F.args_zip_next_1 _))));refine G _ _ B s.toks ⟨_,_,H,L,rfl⟩ (Nat.le_refl _) ⟨_,V,rfl,_,rfl⟩ ⟨I,k TI _ D.TIz D.TITO D.TIi1 D.TIi2 l,⟨_,_,R⟩,S,U,n.at λo e=>k j o D.l1z D.l1TO D.l1i1 D.l1i2 e,t.at λo e=>k l2 o D.l2z D.l2TO D.l2i1 D.l2i2 e,?_,?_,?_,?_⟩ λb o d e=>?_
  .exact(AZ (AI c)).symm
  .exact(AZ (AI p)).symm
  .obtain⟨o,e,_⟩:=m;exact(AZ (AI e)).symm
  .obtain⟨o,e,_⟩:=r;exact(AZ (AI e)).symm
  .simp only[AL,AY,or_false,not_or]at d;exact k b o d.1 d.2.1 d.2.2.1 d.2.2.2 e
 go:=λM k W i T s Q E ⟨c,l,⟨a,b,p⟩,m,r,n,t,_⟩ G=>wpAny_letOwnedTupleGo_zip c λB I u=>G B ⟨I,(u.2 _ D.TIz).trans l,⟨a,b,(u.2 _ D.TOz).trans p⟩,m.extBut u.extBut D.i1z,r.extBut u.extBut D.i2z,n.extBut u.extBut D.l1z,t.extBut u.extBut D.l2z⟩ λb o d e=>(u.2 b λq=>d (by rw[q];exact BE ..)).trans e
 apart:=λi T h ⟨_,_,_,_,_,_,_,X,Y,Z,n4⟩ N=>by
  simp only[AL,AY,or_false]at N;rcases N with e | e | e | e
  .exact X e
  .exact Y e
  .exact Z e
  .exact n4 e
 done:=λs Q E ⟨c,l,⟨a,b,p⟩,m,r,n,t⟩ G=>by
  have H:xs[xs.size]?=none:=Array.getElem?_eq_none (Nat.le_refl _);refine AB (ID (EM (Ml c) F.slot_zip_next (DX F.slot_zip_next (Ml c) F.entry_zip_next (Fa O D c l m n H λB e k J=>?_) (F.args_zip_next_1 _))));obtain⟨o,J,hc⟩:=J;refine AB (wpAny_isInstance ⟨o,J,hc⟩ isSubtype_stop (AG (G B s.toks λb o d e=>?_)));simp only[AL,AY,or_false,not_or]at d;exact k b o d.1 d.2.1 d.2.2.1 d.2.2.2 e
 self:=λi s Q E ⟨c,_⟩ q=>GV c q
end
section
variable{prog:A7}{w:F8}{A:IM}{E:A3->A4->Prop}{s:A4}
theorem Go{M:Model}{T:String}{vs:A1 A3}{Q:A3->A4->Prop}(h:Q (.ref s.heap.objs.size) { s with heap:=s.heap.push { cls:=.type T,data:=.fields vs.toArray } })(a:sizeOk (.fields vs.toArray)):wpAny M A (Builtin.SmallTypes.newRecord (.type T) vs) Q E s:=wpAny_newObj_type h a
theorem Rc{d l2:A2}{xs n:CM A3}{Q:A3->A4->Prop}(y:s.heap.IsTuple d xs)(z:s.heap.IsTuple l2 n)
  (B:∀h',IsZip h' (s.heap.objs.size+4) (s.heap.objs.size+2) (s.heap.objs.size+3) .none->IsPair h' (s.heap.objs.size+2) (.ref s.heap.objs.size) (.ref (s.heap.objs.size+1))->IsPair h' (s.heap.objs.size+3) .none .none ->
   h'.IsTupleIter s.heap.objs.size d 0->h'.IsTupleIter (s.heap.objs.size+1) l2 0->(∀c o,s.heap.get? c=some o->h'.get? c=some o)->Q (.ref (s.heap.objs.size+4)) { s with heap:=h' }) :
  wpAny (model prog w) A (call (.type "zip") [.ref d,.ref l2]) Q E s:=by
 refine callType_new (S:=λA R j=>j=s/\∀h',IsZip h' (s.heap.objs.size+4) (s.heap.objs.size+2) (s.heap.objs.size+3) .none->IsPair h' (s.heap.objs.size+2) (.ref s.heap.objs.size) (.ref (s.heap.objs.size+1))->IsPair h' (s.heap.objs.size+3) .none .none ->
   h'.IsTupleIter s.heap.objs.size d 0->h'.IsTupleIter (s.heap.objs.size+1) l2 0->(∀c o,s.heap.get? c=some o->h'.get? c=some o)->R (.ok (.ret (.ref (s.heap.objs.size+4)))) { s with heap:=h' }) F.called_zip rfl (F.typeCall_zip_2 _ _) (F.newCall_zip_2 _ _) (λ_=>F.args_object_init_3 _ _ _) F.entry_zip_new (.of_wp λprog w A R j l=>?_) ⟨rfl,λh' p C D G H k=>⟨⟨_,p,rfl⟩,B h' p C D G H k⟩⟩
 obtain⟨rfl,l⟩:=l;obtain⟨a,I,J,tt,K⟩:=j;refine AB (AB (AG (EG rfl (AB (wpAny_of_eq sub_zip (EG rfl (AG ?_)))))))
 let b:=a.push { cls:=.type "tuple_iterator",data:=.fields #[.ref d,.int 0 0] }
 let f:=b.push { cls:=.type "tuple_iterator",data:=.fields #[.ref l2,.int 0 0] }
 let g:=f.push { cls:=.type "tuple",data:=.seq #[.ref a.objs.size,.ref b.objs.size] }
 let i:=g.push { cls:=.type "tuple",data:=.seq #[.none,.none] }
 have r:b.objs.size=a.objs.size+1:=EE ..;have t:f.objs.size=a.objs.size+2:=(EE ..).trans (congrArg (· + 1) r);have x:g.objs.size=a.objs.size+3:=(EE ..).trans (congrArg (· + 1) t);have L:i.objs.size=a.objs.size+4:=(EE ..).trans (congrArg (· + 1) x);have m:b.IsTuple l2 n:=z.at λo e=>AE _ e;have M:b.get? a.objs.size=some { cls:=.type "tuple_iterator",data:=.fields #[.ref d,.int 0 0] }:=AS _ rfl;have N:f.get? b.objs.size=some { cls:=.type "tuple_iterator",data:=.fields #[.ref l2,.int 0 0] }:=AS _ rfl;have O:g.get? f.objs.size=some { cls:=.type "tuple",data:=.seq #[.ref a.objs.size,.ref b.objs.size] }:=AS _ rfl;have P:i.get? g.objs.size=some { cls:=.type "tuple",data:=.seq #[.none,.none] }:=AS _ rfl;have u:∀{h:IJ} {o:Obj} {c:A2} {q:Obj},h.get? c=some q->(h.push o).get? c=some q:=λe=>AE _ e;refine EG rfl (AB (AB (Rz (u:=#[.ref a.objs.size]) (v:=#[.ref a.objs.size,.ref b.objs.size]) (AB (BZ (wpAny_pyIter_tuple y (AG ⟨rfl,AB (BZ (wpAny_pyIter_tuple m (AG ⟨rfl,AG ?_⟩)))⟩)))))));refine AB (GB (AB (GB (AB (Go (AG ⟨_,rfl,?_⟩) ?_)) (by show 2<=sizeLine;decide))) (by show 2<=sizeLine;decide))
 .have T:=AS i (o:={ cls:=.type "zip",data:=.fields #[.none,.bool false,.bool false,.ref f.objs.size,.ref g.objs.size] }) rfl;have q:=l (i.push { cls:=.type "zip",data:=.fields #[.none,.bool false,.bool false,.ref f.objs.size,.ref g.objs.size] });rw[show(Shared.mk a I J tt K).heap.objs.size=a.objs.size from rfl,<-r,<-t,<-x,<-L]at q;exact q T (u (u O)) (u P) ⟨_,u (u (u (u M))),rfl,rfl⟩ ⟨_,u (u (u N)),rfl,rfl⟩ λc o e=>u (u (u (u (u e))))
 .show 5<=sizeLine+2;decide
end
def TY(e:Hp->A2->A1 V->Prop)(a b:A2):It :=
  ⟨λi H=>∃c d x y,e H a c/\e H b d/\c.length<=d.length/\c[i]?=some x/\d[i]?=some y,λi H v f=>∃T x y,v = .ref T/\H T=none/\f=IH H T (.tup [x,y])/\(∀c,e H a c->c[i]?=some x)/\∀d,e H b d->d[i]?=some y,
   λi H=>∃c d,e H a c/\e H b d/\c.length<=d.length/\c.length=i⟩
def Qw(c:IJ->A2->A2->Nat->Prop)(z TI TO d e a b:A2)(i:Nat)(h:IJ):Prop:=IsZip h z TI TO .none/\IsPair h TI (.ref d) (.ref e)/\(∃u v,IsPair h TO u v)/\c h d a i/\c h e b i
section
variable{P:A7}{w:F8}{K:PySem.W.Frag}{elts:A1 IL}{kk:Nat}{tp:Pos}{isIt:IJ->A2->A2->Nat->Prop}{isq:IJ->A2->CM A3->Prop}{sq:Hp->A2->A1 V->Prop}
theorem Iw(oI:∀h c l i,isIt h c l i->∃o,h.get? c=some o/\∀v,o.data≠ .cell v)(kI:∀h h' c l i,isIt h c l i->(∀o,h.get? c=some o->h'.get? c=some o)->isIt h' c l i)
  (gI:∀(X:Cx) f σ H s c xs,X.K=K->Inv X f σ H s->sq H c xs->∃its,IR xs its/\isq s.heap c its.toArray) (uI:∀(X:Cx) f σ H s c xs D,X.K=K->Inv X f σ H s->sq H c xs->sq H c D->xs=D)
  (z TI TO g j a b:A2) (WI:∀(A:IM),A.handled=none->∀xs D:CM A3,xs.size<=D.size->WalksT P w A z [z,TI,TO,g,j,a,b] [z,TO,g,j] xs.size (λi G=>∃x y,xs[i]?=some x/\D[i]?=some y/\G = #[x,y])
   (λi h=>IsZip h z TI TO .none/\IsPair h TI (.ref g) (.ref j)/\(∃a b,IsPair h TO a b)/\isIt h g a i/\isIt h j b i/\isq h a xs/\isq h b D)
   (λi T h=>IsZip h z TI TO (rawInt T)/\IsPair h TI (.ref g) (.ref j)/\(∃a b,IsPair h TO a b)/\isIt h g a (i+1)/\isIt h j b (i+1)/\isq h a xs/\isq h b D/\T≠z/\T≠TO/\T≠g/\T≠j)) :
  NE P w K (.Tuple elts kk tp) (TY sq a b) [z,TI,TO,g,j] z (Qw isIt z TI TO g j a b) where
 mem:=BE ..
 obj:=λi h st c t=>by
  obtain⟨h1,R,⟨u,v,U⟩,V,Y⟩:=st;simp only[AL,AY,or_false]at t;rcases t with rfl | rfl | rfl | rfl | rfl
  .exact⟨_,h1,λv z=>by cases z⟩
  .exact⟨_,R,λv z=>by cases z⟩
  .exact⟨_,U,λv z=>by cases z⟩
  .exact oI _ _ _ _ V
  .exact oI _ _ _ _ Y
 keep:=λi h h' st k=>by
  obtain⟨h1,R,⟨u,v,U⟩,V,Y⟩:=st;exact⟨k z (by simp) _ h1,k TI (by simp) _ R,⟨u,v,k TO (by simp) _ U⟩,kI _ _ _ _ _ V (k g (by simp)),kI _ _ _ _ _ Y (k j (by simp))⟩
 item:=by
  intro X hP hw L t i f s σ H E I S st hg;subst hP hw;obtain⟨xs,D,x,y,hq,hr,M,hx,hy⟩:=hg;obtain⟨its,rv,p⟩:=gI _ _ _ _ _ _ _ L I hq;obtain⟨N,F,p'⟩:=gI _ _ _ _ _ _ _ L I hr;obtain⟨u,hu,ru⟩:=rv.get hx;obtain⟨v,hv,rv'⟩:=F.get hy;have hl:=rv.length;have O:=F.length;have W:=WI X.A (I.ok.hd t) its.toArray N.toArray (by rw[AQ,AQ,<-hl,<-O];exact M);have hi:i<its.toArray.size:=by rw[AQ];exact(AF.mp hu).1
  obtain⟨s1,s2,s3,Z,s5⟩:=id st;refine W.item i s _ _ hi ⟨s1,s2,s3,Z,s5,p,p'⟩ λT G h' tk hvs hT ht hm k=>?_;obtain⟨x',y',hx',hy',rfl⟩:=hvs;have ex:x'=u:=BN (hx'.symm.trans ((List.getElem?_toArray ..).trans hu));have ey:y'=v:=BN (hy'.symm.trans ((List.getElem?_toArray ..).trans hv));subst ex ey;refine⟨.ref T,rfl,W.go elts kk tp i T _ _ _ hm λR C k2=>?_⟩;have kk2:∀b o,b∉[z,TI,TO,g,j]->s.heap.get? b=some o->R.get? b=some o:=λc o d ec=>by
   have n4:c∉[z,TO,g,j]:=λm=>d (by
    simp only[AL,AY,or_false]at m⊢;exact m.imp_right .inr)
   exact k2 c o n4 (k c o n4 ec)
  have hT2:R.IsTuple T #[x',y']:=ht.at λo e=>k2 T o (W.apart i T h' hm) e;have J:∀c∈[z,TI,TO,g,j],∃B,s.heap.get? c=some B:=λc d=>by
   obtain⟨u3,v3,U⟩:=s3;obtain⟨o4,V,_⟩:=oI _ _ _ _ Z;obtain⟨o5,Y,_⟩:=oI _ _ _ _ s5;simp only[AL,AY,or_false]at d;rcases d with rfl | rfl | rfl | rfl | rfl
   .exact⟨_,s1⟩
   .exact⟨_,s2⟩
   .exact⟨_,U⟩
   .exact⟨_,V⟩
   .exact⟨_,Y⟩
  refine⟨.ref T,IH H T (.tup [x,y]),I.turnLaid (fp:=[z,TI,TO,g,j]) kk2 S J hT ⟨?_,[x',y'],.cons ru (.cons rv' .nil),hT2⟩,rfl,⟨T,x,y,rfl,I.hok.fresh hT,rfl,λzs hz=>by rw[uI _ _ _ _ _ _ _ _ L I hz hq];exact hx,λzs hz=>by rw[uI _ _ _ _ _ _ _ _ L I hz hr];exact hy⟩,⟨C.1,C.2.1,C.2.2.1,C.2.2.2.1,C.2.2.2.2.1⟩,λc d=>?_⟩
  .show 2<=sizeLine;decide
  .obtain⟨B,eb⟩:=J c d;rw[B5 (AZ (BK (AI eb) hT))];exact(S c d).1
 done:=by
  intro X hP hw L t i f s σ H E I S st hg;subst hP hw;obtain⟨xs,D,hq,hr,M,hx⟩:=hg;obtain⟨its,rv,p⟩:=gI _ _ _ _ _ _ _ L I hq;obtain⟨N,F,p'⟩:=gI _ _ _ _ _ _ _ L I hr;have hl:=rv.length;have O:=F.length;have W:=WI X.A (I.ok.hd t) its.toArray N.toArray (by rw[AQ,AQ,<-hl,<-O];exact M);have hi:i=its.toArray.size:=by rw[AQ,<-hl,hx]
  obtain⟨s1,s2,s3,Z,s5⟩:=id st;rw[hi]at Z s5;refine W.done s _ _ ⟨s1,s2,s3,Z,s5,p,p'⟩ λh' tk k=>⟨rfl,?_⟩;have nf:∀b u,H b=some u->b∉[z,TI,TO,g,j]:=λb u e hb=>by rw[(S b hb).1]at e;cases e
  have k':∀c o,c∉[z,TI,TO,g,j]->s.heap.get? c=some o->h'.get? c=some o:=λc o d ec=>k c o (λm=>d (by
    simp only[AL,AY,or_false]at m⊢;exact m.imp_right .inr)) ec
  refine I.step (h':=h') (H':=H) (t':=tk) (g':=s.gens) (d':=s.drawn) (ch:=[z,TI,TO,g,j]) (λb hb=>let⟨_,f1,_,f3,f4,f5⟩:=S b hb;⟨f3,f1,f4,f5⟩) (λb B _ _ t e _=>k' b B t e) (λb B _ _ t e _=>⟨B.slots,k' b B t e⟩) (λ_ _ _ _ n=>n)
   (λb B t e=>⟨B,k' b B t e⟩) (λ_ _ e=>e) (λ_ _ _ e=>e) (λb ps e=>⟨#[],by rw[e];simp⟩) (λm hm=>?_) (λb u eb=>?_) I.bare
  .obtain⟨B,es,ep,ho,r⟩:=hm;exact⟨B,es,ep,k' _ B (λhb=>(S _ hb).2.1 rfl) ho,r⟩
  .refine(I.hok b u eb).stay (λc v t q=>k' c v ?_ q) (λ_ q=>q) λ_ _ q=>q;rcases t with z | z
   .rw[z];exact nf b u eb
   .exact nf c _ z
 self:=λA i s Q E st h=>GV st.1 h
theorem Rf(z TI TO f g a b:A2)(D:ZipApart z TI TO f g a b):NE P w K (.Tuple elts kk tp) (TY (IQ K) a b) [z,TI,TO,f,g] z (Qw Heap.IsListIter z TI TO f g a b) :=
 Iw (isq:=Heap.IsList) (λh c l i ⟨o,e,_,d⟩=>⟨o,e,λv z=>by rw[d]at z;cases z⟩) (λh C c l i z k=>z.at k) (λX j σ H s c m n I q=>by subst n;obtain⟨r,u,p,_⟩:=I.list q;exact⟨r,u,p.isList⟩) (λX j σ H s c m t n I q x=>by subst n;exact I.list_inj q x)
  z TI TO f g a b λA y m t B=>by
   have W:=WalksT.zip2 (prog:=P) (w:=w) y z TI TO f g a b D m t
   rwa [FR B]at W
theorem Ua(z TI TO f g a b:A2)(D:ZipApart z TI TO f g a b):NE P w K (.Tuple elts kk tp) (TY (JH K) a b) [z,TI,TO,f,g] z (Qw Heap.IsTupleIter z TI TO f g a b) :=
 Iw (isq:=Heap.IsTuple) (λh c l i ⟨o,e,_,d⟩=>⟨o,e,λv z=>by rw[d]at z;cases z⟩) (λh C c l i z k=>z.at k) (λX j σ H s c m n I q=>by subst n;obtain⟨r,u,p,_⟩:=I.tuple q;exact⟨r,u,p⟩) (λX j σ H s c m t n I q x=>by subst n;exact I.tuple_inj q x)
  z TI TO f g a b λA y m t B=>zAz y z TI TO f g a b D m t B
end
section
variable{X:Cx}{elts:A1 IL}{kk:Nat}{tp:Pos}
def zIf(K:PySem.W.Frag)(R:It->Hp->Prop)(a b:A2)(xs c:A1 V)(H:Hp):Prop:=IQ K H a xs/\IQ K H b c/\R (TY (IQ K) a b) H\/JH K H a xs/\JH K H b c/\R (TY (JH K) a b) H
def zCj(K:PySem.W.Frag)(c:TA):TI:=λσ H R=>c σ H λd e=>∃a b f g,d = [.ref a,.ref b]/\zIf K R a b f g e
theorem Sq:bootBuiltins "zip" = some (.type "zip"):=by decide +kernel
theorem zCf{a b:IL}{L:TA}{p pos:Pos}(N:Gl X "zip")(O:X.mg "zip" = none)(P:PA X [a,b] L)(Q:starEach [a,b] X.env =(false,eval a X.env)::starEach [b] X.env:=by rfl)(t:(backTo pos (starEach [b] X.env)).any (·.1)=false:=by rfl):PI X (.Tuple elts kk tp) (.Call (.Name "zip" p) [a,b] [] pos) (zCj X.K L):=by
 intro f s σ H R I h;refine Call_ (W2 I N O Sq (PyProof.Rows.callWith_type1 (JA (P pos f s σ H _ I h) λus d ⟨vs,w,g,S,T⟩=>?_) Q t));obtain⟨l,m,xs,ys,e,q⟩:=T;subst e;obtain⟨u,v,rfl,U,V⟩:=S.two;cases U;cases V;have i:∀c∈[d.heap.objs.size+4,d.heap.objs.size+2,d.heap.objs.size+3,d.heap.objs.size,d.heap.objs.size+1],Es X f w c:=λc M=>by
  have j:d.heap.objs.size<=c:=by
   simp only[AL,AY,or_false]at M;rcases M with rfl | rfl | rfl | rfl | rfl
   .exact DJ ..
   .exact DJ ..
   .exact DJ ..
   .exact Nat.le_refl _
   .exact DJ ..
  exact g.fpOk j (g.hok.fresh j)
 rcases q with⟨x,y,q⟩ | ⟨x,y,q⟩
 .obtain⟨z,W,n,Y⟩:=g.list x;obtain⟨A,Z,o,B⟩:=g.list y;have C:l<d.heap.objs.size:=by obtain⟨_,e,_⟩:=n.isList;exact AI e
  have D:m<d.heap.objs.size:=by obtain⟨_,e,_⟩:=o.isList;exact AI e
  refine call_zip_2 n.isList o.isList λh' r E F G J hsz k=>GV r ?_;exact⟨d.heap.objs.size+4,_,_,_,w,rfl,g.kept (t':=d.toks) k,Rf _ _ _ _ _ l m (zipApart_new C D),⟨r,E,⟨_,_,F⟩,G,J⟩,i,q⟩
 .obtain⟨z,W,n,Y⟩:=g.tuple x;obtain⟨A,Z,o,B⟩:=g.tuple y;have C:l<d.heap.objs.size:=by obtain⟨_,e,_⟩:=id n;exact AI e
  have D:m<d.heap.objs.size:=by obtain⟨_,e,_⟩:=id o;exact AI e
  refine Rc n o λh' r E F G J k=>GV r ?_;exact⟨d.heap.objs.size+4,_,_,_,w,rfl,g.kept (t':=d.toks) k,Ua _ _ _ _ _ l m (zipApart_new C D),⟨r,E,⟨_,_,F⟩,G,J⟩,i,q⟩
variable(K:PySem.W.Frag)
theorem zJs{a b:IL}{d:TA}{p pos:Pos}(e:X.mg "zip" = none)(f:PA X [a,b] d)(g:Gl X "zip":=by rfl)(h:starEach [a,b] X.env =(false,eval a X.env)::starEach [b] X.env:=by rfl)(c:(backTo pos (starEach [b] X.env)).any (·.1)=false:=by rfl)(i:X.K=K:=by rfl):PI X (.Tuple elts kk tp) (.Call (.Name "zip" p) [a,b] [] pos) (zCj K d):=by subst i;exact zCf g e f h c
end
section
variable{X:Cx}{tg iter elt:IL}{ifs:A1 IL}{scope:JN}{cl:A1 (Str×A2)}{N':A1 Str}{cap:A1 (A5 Nat)}{wi:TI}{pos:Pos}
theorem Tk{e:IL}{gs:A1 Comprehension}{newAcc:Sem A3}{p2:Pos}{use:A5 (A3->Sem Unit)}{Qv:A3->A4->Prop}(q:clausesOf e =⟨tg,iter,ifs,0⟩::gs)(o:A2->HO)(hs:∀x,foldedSetIterable iter X.env x=pure x)(S:NQ X scope cl N' cap)(hc:X.calm=true)(hi:PI X tg iter wi)
  {lp:A2->It->St->Hp->(St->Hp->Prop)->Prop}
  (r:∀(a:A1 (A2×Obj)) (s:A4) (σ:St) (H:Hp) (Q:A3->A4->Prop) (E:A3->A4->Prop),Inv X a σ H s->(∀g,Inv X a σ (IH H s.heap.objs.size (o s.heap.objs.size)) g->(∀b f,s.heap.get? b=some f->g.heap.get? b=some f)->Q (.ref s.heap.objs.size) g)->wpAny (model X.prog X.w) X.A newAcc Q E s)
  (L:∀(a:A1 (A2×Obj)) (M:A1 A2) (s3:A4) (N:Hp) (D l:A2) (fp:A1 A2) (t:Nat->IJ->Prop) (J:It) (σ:St) (s:A4) (H:Hp) (Q:St->Hp->Prop) (R:Result->A4->Prop),
   NE X.prog X.w X.K tg J fp l t->Inv (ND X scope cl N' a M s3 N) [] σ H s->t 0 s.heap->(∀b∈fp,Es (ND X scope cl N' a M s3 N) [] H b)->lp D J σ H Q ->
   (∀g σ' H',Inv (ND X scope cl N' a M s3 N) [] σ' H' g->Q σ' H'->R (.ok .next) g) ->
   codeAny (model X.prog X.w) X.A (.compLoop e 0 (.ref l) (.ref D) (compEnvC scope cl s3.heap.objs.size X.env)) R s)
  (O:∀l D i,X.A.under (.compStart e 0 (.ref l) (.ref D) i)=X.A) (u:∀l D i,(model X.prog X.w).den (.compStart e 0 (.ref l) (.ref D) i) =(compStart e 0 (.ref l) (.ref D) i).onRaise (λx=>do noteFrame x i;standAt theWindowsPlace))
  {a:A1 (A2×Obj)} {s:A4} {σ:St} {H:Hp} {Q:V->Hp->Prop} (I:Inv X a σ H s) (h:Sz wi o cap lp σ H Q)
  (B:∀(D:A2) (fp:A1 A2) (k:Hp) (s3 g:A4) (σ':St) (H':Hp),Inv X a σ k s3->(∀b∈fp,Es X a k b)->Inv (ND X scope cl N' a fp s3 k) [] σ' H' g->Q (.ref D) H'->compPost (model X.prog X.w) X.A X.xe use Qv (.ref D) s3.heap.objs.size (.ok .next) g) :
  wpAny (model X.prog X.w) X.A (comprehension e scope X.env p2 newAcc false (eval iter X.env) use) Qv X.xe s:=by
 refine wpAny_comprehension_free q hs S.clos S.kind S.loc (JA (hi a s σ H _ I h) λv s1 C=>JA C λitv j h2=>?_);obtain⟨l,fp,t,J,k,P,I2,T,F,f2,R2⟩:=h2;subst P;refine r a j σ k _ _ I2 λs3 U k3=>?_;have hD:k j.heap.objs.size=none:=I2.hok.fresh (Nat.le_refl _);have n:∀b∈fp,Es X a (IH k j.heap.objs.size (o j.heap.objs.size)) b/\∃f,s3.heap.get? b=some f:=λb m=>by
  obtain⟨f,e,_⟩:=T.obj _ _ F b m;obtain⟨W,fr⟩:=f2 b m;exact⟨⟨by rw[B5 (AZ (AI e))];exact W,fr⟩,f,k3 b f e⟩
 refine wpAny_newFunctionEnv S.nocell (by intro y hy;simp at hy) (λC Y Z=>?_) S.kind;have hk:∀b f,s3.heap.get? b=some f->C.get? b=some f:=λb f e=>(Z.2 b (AZ (AI e))).trans (AE _ e);have I4:Inv (ND X scope cl N' a fp s3 (IH k j.heap.objs.size (o j.heap.objs.size))) [] (Yu cap σ) (IH k j.heap.objs.size (o j.heap.objs.size)) { s3 with heap:=C,toks:=s3.toks +([]:A1 (Str×A3)).length } :=
  U.block S hc n Y hk
 have G:t 0 C:=T.keep 0 _ _ F λb m f e=>hk b f (k3 b f e);refine Ea (X:=ND X scope cl N' a fp s3 (IH k j.heap.objs.size (o j.heap.objs.size))) (gs:=⟨tg,iter,ifs,0⟩::gs) (e:=e) (d:=0) (tg:=tg) (iter:=iter) (ifs:=ifs) (O _ _ _) (u _ _ _) q rfl T G ?_;refine L a fp s3 _ j.heap.objs.size l fp t J (Yu cap σ) _ _ _ _ T I4 G (λb m=>?_) (R2 _ hD) λg σ' H' I' q'=>?_
 .obtain⟨⟨W,f1,f2',f3,f4,f5⟩,f,eo⟩:=n b m;refine⟨W,AZ (AI eo),λhf=>?_,.inl m,λx c e=>f4 x c (S.cin.get e),λp hp=>f5 p (by simpa [ND] using hp)⟩;rcases AL.mp (U.stkSub b hf)with z | z
  .exact f1 z
  .exact f2' z
 .exact B _ fp _ s3 g σ' H' U (λb m=>(n b m).1) I' q'
theorem Vm{i:Nat}{x:Str}{o j:Pos}{g:TG}{V:TT}{W:TE}(hN:X.N.Nodup)(hi:X.N[i]?=some x)(hx:Loc X.env.scope x)(S:NQ X scope cl N' cap)(p:X.calm=true)(hI:PI X tg iter wi)
  (t:∀(d:A1 (A2×Obj)) (y:A1 A2) (l:A4) (A:Hp),PG (ND X scope cl N' d y l A) tg g/\UD (ND X scope cl N' d y l A) ifs V/\PE (ND X scope cl N' d y l A) elt W)
  (hs:∀x,foldedSetIterable iter X.env x=pure x:=by intro _;rfl)
  (F:swapsWith (.ListComp elt [⟨tg,iter,ifs,0⟩] scope j) (some (.Name x o)) pos.line X.env=pure true:=by rfl)
  (G:X.fn x=true\/X.env.scope.names.lookup x=some .local:=by first | exact .inl rfl | exact .inr rfl | assumption) :
  PS X (.Assign [.Name x o] (.ListComp elt [⟨tg,iter,ifs,0⟩] scope j) pos) (zGy (Sz wi (λ_=>.lst []) cap λD J σ H Q=>Ji g V (Cp D W) J σ H Q) (W8 i)):=by
 intro d s σ H D I h;rw[exec_Assign];refine AB (HE (AB (wpAny_of_eq F (wpAny_ite_true rfl (AB (AB ?_))))));refine Tk (newAcc:=newList []) (p2:=firstIterPos [⟨tg,iter,ifs,0⟩] j) rfl (λ_=>.lst []) hs S p hI (λd s σ H Q E I h=>?_) (λd y l A D it fp tn J σ s H Q R T I st G h hR=>?_) (λ_ _ _=>rfl) (λ_ _ _=>rfl) I h λE fp H2 l s' σ' H' Y K L q=>?_
 .refine GM ?_;exact h _ (I.lnew (t':=s.toks) (its:=[]) .nil (CB _)) λb f e=>AE _ e
 .obtain⟨b1,b2,b3⟩:=t d y l A;exact Co (X:=ND X scope cl N' d y l A) rfl rfl p rfl (Eb elt tg iter ifs scope j _ _ _) b1 b2 (Od rfl b3) T I st G h hR
 .have IX:Inv X d σ H' s':=Y.unblock K L ⟨rfl,λ_ _=>rfl⟩;have w:Es X d H' l.heap.objs.size:=Y.fpOk (Nat.le_refl _) L.free;obtain⟨m,hn,_⟩:=L.loc;show wpAny _ _ (assign (.Name x o) X.env (.ref E)) _ _ _;refine wpAny_assign_Name (Jd (v:=.ref E) IX hN hi hx rfl (λC M ⟨a,O,ha⟩=>?_) G);have nC:l.heap.objs.size≠a:=by
   rcases ha with rfl | ha
   .exact w.2.1
   .exact(w.2.2.2.2.1 _ _ ha).symm
  refine⟨m,?_,λh' B=>AG (AG ?_)⟩
  .obtain⟨f,P,U,e1,r⟩:=hn;exact⟨f,P,U,(O.2 _ nC).trans e1,r⟩
  refine⟨_,H',?_,q⟩;have k:∀b f,b∉[l.heap.objs.size]->C.heap.get? b=some f->h'.get? b=some f:=λb f t e=>(B.2 b λz=>t (AD.mpr z)).trans e;refine M.step (h':=h') (H':=H') (t':=C.toks) (g':=C.gens) (d':=C.drawn) (ch:=[l.heap.objs.size]) (λb t=>by rw[AD.mp t];exact⟨w.2.2.2.1,w.2.1,w.2.2.2.2⟩) (λb f _ _ p e _=>k b f p e) (λb f _ _ p e _=>⟨f.slots,k b f p e⟩) (λ_ _ _ _ n=>n)
   (λb f p e=>⟨f,k b f p e⟩) (λ_ _ e=>e) (λ_ _ _ e=>e) (λb ps e=>⟨#[],by rw[e];simp⟩) (λm hm=>?_) (λb u Z=>?_) M.bare
  .obtain⟨f,P,U,ho,r⟩:=hm;exact⟨f,P,U,k _ f (λt=>w.2.1 (AD.mp t).symm) ho,r⟩
  .have nf:∀b u,H' b=some u->b∉[l.heap.objs.size]:=λb u e t=>by rw[AD.mp t,w.1]at e;cases e
   refine(M.hok b u Z).stay (λc v p q=>k c v ?_ q) (λ_ q=>q) λ_ _ q=>q;rcases p with z | z
   .rw[z];exact nf b u Z
   .exact nf c _ z
end
section
variable{X:Cx}
theorem Rt{x:Str}{C:A2}{pos:Pos}(h:X.mg x=some (.ref C))(a:Gl X x:=by rfl)(b:(x ==("__debug__":Str))=false:=by decide):PE X (.Name x pos) (tC (.ref C)):=Kq a h rfl b
theorem Xk(E:X.calm=true):K1 X (.builtin "any") (λxs H Q=>∃(p:A2) (bs:A1 Bool),xs = [.ref p]/\IQ X.K H p (bs.map V.bl)/\Q (.bl (bs.any id)) H):=by
 intro B s σ H xs M Q I r h;obtain⟨p,bs,rfl,F,q⟩:=h;obtain⟨u,rfl,t⟩:=Y3 r;cases t;obtain⟨a,w,x,N⟩:=I.list F;refine call_any_walk (GQ x.isList ?_);have y:p≠s.heap.objs.size:=by
  obtain⟨o,n,e,_⟩:=x;exact AZ (AI e)
 refine⟨s.heap.objs.size,_,_,_,_,_,λi=>bs.getD i false,rfl,Walks.list (A:=X.A.in1) (show X.A.in1.handled=none from I.ok.hd E) _ p y a.toArray,⟨⟨_,AS _ rfl,rfl,rfl⟩,?_⟩,λi v O P R G J=>?_,λS T k=>?_⟩
 .obtain⟨o,n,e,c,d,L⟩:=x;exact⟨o,AE _ e,c,n,L⟩
 .have f:(bs.map V.bl)[i]?=some (V.bl (bs.getD i false))/\RelV (V.bl (bs.getD i false)) v:=by
   have g:a[i]?=some v:=by simpa using G
   have j:i<a.length:=(AF.mp g).1;have m:=w.length;rw[AA]at m;have e:(bs.map V.bl)[i]?=some (V.bl (bs.getD i false)):=by
    rw[AH,AC (by lia)];simp[AV,AC (show i<bs.length by lia)]
   obtain⟨u,C,t⟩:=w.get e;rw[g]at C;cases C;exact⟨e,t⟩
  cases f.2;exact CU J
 .have m:=w.length;rw[AA]at m;have e:(List.range a.toArray.size).any (λi=>bs.getD i false)=bs.any id:=by
   rw[AQ,<-m,BP,GW,GW];constructor
   .rintro⟨i,j,z⟩;have l:=BW.mp j;refine⟨bs[i],FM l,?_⟩;simpa [AV,AC l] using z
   .rintro⟨b,f,z⟩;obtain⟨i,j,rfl⟩:=FY.mp f;refine⟨i,BW.mpr j,?_⟩;simpa [AV,AC j] using z
  rw[e];exact⟨.bl (bs.any id),H,I.kept λb o D=>k b o (by
   intro f;have:b=s.heap.objs.size:=by simpa using f
   exact absurd (AI D) (by rw[this];exact EY _)) (AE _ D),rfl,q⟩
theorem Xr:bootBuiltins "any" = some (.builtin "any"):=by decide +kernel
variable(K:PySem.W.Frag)
theorem Ye(a:X.calm=true:=by rfl)(b:X.K=K:=by rfl):K1 X (.builtin "any") (λxs H Q=>∃(p:A2) (bs:A1 Bool),xs = [.ref p]/\IQ K H p (bs.map V.bl)/\Q (.bl (bs.any id)) H):=by subst b;exact Xk a
end
def Ha:bootBuiltins "sum" = some (.builtin "sum"):=by decide +kernel
section
variable{X:Cx}
theorem Ud(f:X.calm=true):K1 X (.builtin "sum") (λxs H Q=>∃(p:A2) (ns:A1 Int),xs = [.ref p]/\IQ X.K H p (ns.map V.int)/\Q (.int ns.sum) H):=by
 intro b s σ H xs o Q I r h;obtain⟨p,ns,rfl,g,q⟩:=h;obtain⟨u,rfl,i⟩:=Y3 r;cases i;obtain⟨a,j,l,t⟩:=I.list g;have c:=r9 j;obtain⟨xs,d⟩:=c.allInts.items;refine sum_intListG (xs:=xs) (I.ok.hd f) (by rw[<-d];exact l.isList) λv w m k=>⟨.int ns.sum,H,I.kept k,⟨m,?_⟩,q⟩;have e:numsOf a=ns:=c.numsOf;have n:numsOf (intItems xs).toList=numsOf a:=by rw[<-d]
 rw[preSum_eq,CQ (by simp),<-nums_intItems,n,e]
theorem Mp(K:PySem.W.Frag)(a:X.K=K:=by rfl)(b:X.calm=true:=by rfl):K1 X (.builtin "sum") (λxs H Q=>∃(p:A2) (ns:A1 Int),xs = [.ref p]/\IQ K H p (ns.map V.int)/\Q (.int ns.sum) H):=by subst a;exact Ud b
end
def zFk{α:Type}:∀{a:A1 (A2×α)} {us:A1 A3},IR (a.map λq=>V.ref q.1) us->us=a.map λq=>Value.ref q.1
 | [],_,.nil=>rfl
 | _::_,_,.cons r t=>by rw[BB,zFk t];cases r;rfl
def zCm{α:Type}:∀(a:A1 (A2×α)),IR (a.map λq=>V.ref q.1) (a.map λq=>Value.ref q.1)
 | []=>.nil
 | _::a=>.cons rfl (zCm a)
def Itd(d:A2)(o:Obj)(a:A1 (IZ×V)):It :=
 ⟨λi H=>H d=some (.frz o (.dK a))/\i<a.length,λi H x b=>b=H/\∃k v,a[i]?=some (k,v)/\x=kV k,λi H=>H d=some (.frz o (.dK a))/\a.length<=i⟩
def KV.at{c:A1 (IZ×V)}{vs:A1 (IZ×A3)}(h:KV c vs):∀{i:Nat} {k:IZ} {v:V},c[i]?=some (k,v)->∃u,vs[i]?=some (k,u):=by
 induction h with
 | nil=>intro i k v e;rw[List.getElem?_nil]at e;cases e
 | cons r _ d =>
  intro i k v e;cases i with
  | zero =>
   rw[HQ]at e⊢;cases e;obtain⟨a,b⟩:=r;exact⟨_,by rw[show k=_ from a]⟩
  | succ i=>exact d e
def zAf{k:IZ}{u:A3}(h:Iq k u=true):RelV (kV k) u:=by
 cases k with
 | inl i=>obtain⟨t,rfl⟩:=Value.isInt_shape h;exact⟨t,rfl⟩
 | inr x=>obtain⟨t,rfl⟩:=Value.isStrOf_shape h;exact⟨t,rfl⟩
section
variable{X:Cx}{tg:IL}
theorem So{P:A7}{w:F8}{K:PySem.W.Frag}{d g:A2}{o:Obj}{a:A1 (IZ×V)}{C:CM DictEntry}{ep:Nat}(t:o.data = .dict C ep):NE P w K tg (Itd d o a) [g] g (λi h=>h.IsKeyIter g d i a.length ep) where
 mem:=by simp
 obj:=λi h st b j=>by
  have e:b=g:=by simpa using j
  subst e;obtain⟨o,e,c,d⟩:=st;exact⟨o,e,λv z=>by rw[d]at z;cases z⟩
 keep:=λi h x st k=>by
  obtain⟨o,e,r⟩:=st;exact⟨o,k g (by simp) o e,r⟩
 item:=by
  intro X D F G hc i f s σ H E I y st J;subst D F G;obtain⟨L,A⟩:=J;obtain⟨M,N,f2,O,Q,R⟩:=y g (by simp);obtain⟨m,hz,hS,S,r,ob,T,U,n,Y,p,Z⟩:=(show IU X.prog X.w H s.heap d (.frz o (.dK a))from I.hok d _ L);rw[m]at n;cases n;rw[t]at p;cases p;have hx:a[i]?=some (a[i].1,a[i].2):=AC A;obtain⟨u,hu⟩:=r.at hx;have B:a.length=S.length:=r.length;rw[B]at st;refine wpAny_pyNext_dict_item (knd:=D0 X.prog X.w) st ⟨o,C,m,Y,t,Z⟩ hu λkey x q l sb=>?_;have I1:Inv X f σ H { s with heap:=x }:=I.turned (t':=s.toks) (λb o j e=>(sb.2 b j).trans e) M N O Q R;obtain⟨oi,ei,ci,di⟩:=id l;rw[<-B]at l;exact⟨key,rfl,Oy (s:={ s with heap:=x }) ei ci di (by decide) ⟨kV a[i].1,H,I1,zAf q,⟨rfl,_,_,hx,rfl⟩,l,λb j=>(y b j).1⟩⟩
 done:=by
  intro X D F G hc i f s σ H E I y st J;subst D F G;obtain⟨L,A⟩:=J;obtain⟨M,N,f2,O,Q,R⟩:=y g (by simp);obtain⟨m,hz,hS,S,r,ob,T,U,n,Y,p,Z⟩:=(show IU X.prog X.w H s.heap d (.frz o (.dK a))from I.hok d _ L);rw[m]at n;cases n;rw[t]at p;cases p;have B:a.length=S.length:=r.length;rw[B]at st A;exact wpAny_pyNext_dict_end (knd:=D0 X.prog X.w) (I.ok.hd hc) st ⟨o,C,m,Y,t,Z⟩ (DR A) λx eb=>⟨rfl,I.turned (t':=s.toks) (λb o j e=>eb b o j e) M N O Q R⟩
 self:=λ_ _ _ _ _ st h=>wpAny_pyIter_keyiter st h
end
section
variable{prog:A7}{w:F8}{A:IM}{E:A3->A4->Prop}{s:A4}
theorem Wr{t b:A2}{vs g:A1 A3}{Q:A3->A4->Prop}(o:IsTup s.heap t vs.toArray)(p:IsTup s.heap b g.toArray)(q:vs = [])(h:Q (.ref b) s):wpAny (model prog w) A (binaryOp .Add (.ref t) (.ref b)) Q E s:=by
 obtain⟨⟨r,u,i,v⟩,j,k,n,l⟩:=id o;obtain⟨⟨m,e,data2,f⟩,a,c,x,d⟩:=id p;simp only at k l c d;subst k l c d;exact concat_meets ⟨_,j,rfl⟩ ⟨_,a,rfl⟩ noFill_tuple_add seq_tuple_add PySem.F.slot_tuple_add PySem.F.entry_tuple_add (PySem.F.args_tuple_add_2 _ _)
  (tuple_addW0 t b vs.toArray g.toArray n x u e v f (by simp[q])) ⟨j,a,h⟩
end
section
variable{X:Cx}(K:PySem.W.Frag)
def zGg:R2:=λx y H Q=>∃a b c d,x = .ref a/\y = .ref b/\JH K H a c/\JH K H b d/\d≠[]/\c.length+d.length<=sizeLine /\
 (c = []->Q (.ref b) H)/\(c≠[]->∀p,H p=none->Q (.ref p) (IH H p (.tup (c++d))))
theorem Zu(n:X.K=K:=by rfl):LD X (binaryOp .Add) (zGg K):=by
 subst n;intro d s σ H x y v u Q I e f h;obtain⟨a,b,g,o,i,j,k,l,p,q,r,t⟩:=h;by_cases c:g = []
 .subst i j c;cases e;cases f;obtain⟨w,A,B,_⟩:=I.tuple k;obtain⟨m,D,C,_⟩:=I.tuple l;exact Wr B C (A.nil_iff.mpr rfl) ⟨.ref b,H,I,rfl,r rfl⟩
 .exact zBk _ _ _ _ _ _ _ _ _ I e f ⟨a,b,g,o,i,j,k,l,c,q,λz=>absurd z p,λ_=>t c⟩
end
end L2
namespace TS
open PySem PyProof.Rows
section
variable{prog:A7}{w:F8}{A:IM}{E:A3->A4->Prop}{s:A4}{U:KeyKind}{kd:JE}
structure R5(prog:A7)(w:F8)(a:A2)(s:A4)(U:KeyKind)(kd:JE)(vs:A1 A3):Prop where
 cmp:∀(A:IM) (s':A4),A.units+4<cLine->SG a s s'->RE prog w A s' U kd
 key:∀v∈vs,∃k,U.keyOf v=some k
 kind:2<=vs.length->∀(A:IM) (E:A3->A4->Prop) (s':A4) (Q:JE->A4->Prop),SG a s s'->Q kd s'->wpAny (model prog w) A (keyKind' vs.toArray) Q E s'
theorem De{a:A2}{vs:A1 A3}{n:Nat}{P:Fin->A4->Prop}(r:A.units+4<cLine)(k:s.heap.get? a=some (seqObj "list" vs.toArray n))(hz:vs.length<=sizeLine)(K:R5 prog w a s U kd vs)
  (h:∀out:CM A3,UQ U vs out->P (.done (.ret .none)) { s with heap:=sortedHeap s.heap a vs out }) :
  wpAny (model prog w) A (Builtin.«list.sort» ⟨[.ref a],[]⟩) P E s:=by
 rw[list_sort_plain];have m:a<s.heap.objs.size:=AI k;have i:vs.toArray.size=vs.length:=by simp
 refine AB (listItems_at k rfl ?_);refine AB (listUpdate_at k rfl ?_ (by rw[i];exact hz) (by simp));obtain⟨l,j⟩:∃l,(s.heap.update a (Obj.mapSeq λ_=>#[])).get? a=some (seqObj "list" #[] l):=⟨_,get?_update_seq k (λ_=>#[])⟩;refine AB (seqEpoch_at j rfl ?_);refine AB (GB ?_ (by simpa using hz));refine AB (GM ?_);refine BZ ?_;have d:(((s.heap.update a (Obj.mapSeq λ_=>#[])).push (seqObj "tuple" vs.toArray 0)).push (seqObj "list" #[] 0)).get? a=some (seqObj "list" #[] l):=by
  rw[HS _ _ _ (by rw[size_push',FI];exact AZ (EA m)),HS _ _ _ (by rw[FI];exact AZ m)];exact j
 show wpAny (model prog w) A _ P E { s with heap:=((s.heap.update a (Obj.mapSeq λ_=>#[])).push (seqObj "tuple" vs.toArray 0)).push (seqObj "list" #[] 0) };dsimp only;have q:SG a s { s with heap:=((s.heap.update a (Obj.mapSeq λ_=>#[])).push (seqObj "tuple" vs.toArray 0)).push (seqObj "list" #[] 0) }:=λb o t e =>
  AE _ (AE _ ((CO s.heap _ (Ne.symm t)).trans e))
 by_cases f:vs.toArray.size<2
 .rw[AO f,AO f];refine AB (AG ?_);rw[StateT.run_pure];refine AB (AG ?_);dsimp only;refine AB (seqEpoch_at d rfl ?_);refine AB (listUpdate_at d rfl ?_ (by simp) (by rw[GC];show(pairsOf vs).size<=_;rw[pairsOf_size];lia));simp only[bne_self_eq_false,A_,CP];refine AG (h _ (Lp (U:=U) (xs:=pairsOf vs) (GS _) ?_));rw[pairsOf_toList];rw[i]at f
  match vs,f with
  | [],_=>exact List.Pairwise.nil
  | [v],_=>exact DE _ _
  | _::_::_,f=>simp at f;lia
 .rw[AN f,AN f];refine AB (K.kind (by lia) A E _ _ q ?_);refine AB (CI (o8 (K.cmp A _ r q) (a₀:=pairsOf vs) (st:=SortSt.mk' kd (vs.toArray.zip vs.toArray) #[] 7 none)
   (Q:=λ_ c=>St U kd (pairsOf vs) c/\LC U (arrOf c).toList)
   (λp g=>?_) ⟨GS _,rfl,rfl⟩ rfl λc u x=>⟨u,x⟩) ?_ λ_ _ e=>e)
  .rw[pairsOf_toList]at g;exact K.key _ (mem_zip_self g).2
  rintro⟨⟨⟩,c⟩ z ⟨rfl,g,y⟩;dsimp only;refine AB (seqEpoch_at d rfl ?_);refine AB (listUpdate_at d rfl ?_ (by simp) (by rw[GC];show(arrOf c).size<=_;rw[g.size,pairsOf_size];lia));rw[show failedOf c=none from g.failed];simp only[bne_self_eq_false,A_,CP];exact AG (h _ (Lp g.perm y))
theorem QE{x:A3}{Q:A3->A4->Prop}(p:A.units+6<cLine)
  (g:wpAny (model prog w) A.in1 (collect x) (λvs s1=>s1.os=s.os/\vs.length<=sizeLine/\(∃(U:KeyKind) (kd:JE),(∀d:A4,SG s1.heap.objs.size s1 d->R5 prog w s1.heap.objs.size d U kd vs) /\
   ∀(out:CM A3) (h':IJ) (e:Nat),UQ U vs out->(∀b o,s1.heap.get? b=some o->h'.get? b=some o)->h'.get? s1.heap.objs.size=some (seqObj "list" out e)->Q (.ref s1.heap.objs.size) { s1 with heap:=h' })) E s) :
  wpAny (model prog w) A (call (.builtin "sorted") [x]) Q E s:=by
 refine Calls.call_function_entry kind_sorted plain_sorted entry_sorted (args_sorted1 _) ?_;unfold Builtin.«sorted»;refine AB (m:=checkCount "sorted" 1 1 _) (AG ?_);refine AB (CI g (λvs s1 ⟨i,j,U,kd,K,q⟩=>?_) λ_ _ z=>z);refine AB (GM ?_);have a:(s1.heap.push (seqObj "list" vs.toArray 0)).get? s1.heap.objs.size=some (seqObj "list" vs.toArray 0):=AS _ rfl;show wpAny _ _ _ _ _ { s1 with heap:=s1.heap.push (seqObj "list" vs.toArray 0) };have k:SG s1.heap.objs.size s1 { s1 with heap:=s1.heap.push (seqObj "list" vs.toArray 0) }:=λb o _ e=>AE _ e;refine AB (BZ (DX slot_list_sort ⟨_,a,rfl⟩ entry_list_sort (De (s:={ s1 with heap:=s1.heap.push (seqObj "list" vs.toArray 0) }) (by simp only[Around.in1_units];lia) a j (K _ k) λout l=>⟨_,rfl,?_⟩) (args_list_sort _)));obtain⟨e,n⟩:=sortedHeap_at (h:=s1.heap.push (seqObj "list" vs.toArray 0)) (out:=out) a;refine AG ⟨_,rfl,q out _ e l (λb o f=>?_) n⟩;have c:=AI f;rw[sortedHeap_old (AZ c) (by rw[size_push'];exact EA c)];exact AE _ f
open PySem.SeqAt PySem.MeetsSeq PySem.MeetsSeq3
open AutoSeq1 (wpAny_loadPart')
theorem QI{l b:A2}{c a:CM A3}{n e:Nat}{r:Bool}{Q:Bool->A4->Prop}(f:A.units<cLine)(d:s.heap.get? l=some (seqObj "list" c n))(g:s.heap.get? b=some (seqObj "list" a e))
  (i:Meets (Builtin.«list.__lt__» ⟨[.ref l,.ref b],[]⟩) (λA R s=>s.heap.get? l=some (seqObj "list" c n)/\s.heap.get? b=some (seqObj "list" a e)/\R (.ok (.ret (.bool r))) s)) (h:Q r s) :
  wpAny (model prog w) A (oneLt' true (.ref l) (.ref b)) Q E s:=by
 rw[oneLt'_eq];simp only[FC];refine AB (wpAny_cRoomFor f ?_);refine AB (wpAny_callSpecialIfBound?_slot (T := "list") ⟨_,d,rfl⟩ F.slot_list_lt (call_meets F.slot_list_lt ⟨_,d,rfl⟩ F.entry_list_lt (F.args_list_lt_2 _ _) i ⟨d,g,?_⟩));exact CU h
end
end TS
namespace L2
open PySem PySem.Spec PyProof.Rows
def LAt(h:IJ)(p:A2)(us:A1 A3):Prop:=∃n,h.get? p=some (seqObj "list" us.toArray n)
def Nx:∀{a b:A1 Str},a.map V.str=b.map V.str->a=b
 | [],[],_=>rfl
 | [],_::_,h=>(by cases h)
 | _::_,[],h=>(by cases h)
 | x::r,y::t,h=>by
  rw[BB,BB]at h;injection h with c d;injection c with c;rw[c,Nx d]
def Ax:∀{xs:A1 V} {us:A1 A3},IR xs us->∀i:Nat,(xs[i]?=none/\us[i]?=none)\/∃x u,xs[i]?=some x/\us[i]?=some u/\RelV x u
 | _,_,.nil,i=>.inl ⟨rfl,rfl⟩
 | x::xs,u::us,.cons r t,0=>.inr ⟨x,u,rfl,rfl,r⟩
 | x::xs,u::us,.cons r t,i+1=>Ax t i
def zFm(i:Nat)(f:A2)(sp:Sp)(E:XK)(t:TA):TE:=λσ H Q=>σ[i]?=some (some (.ref f))/\zCd sp [] E t σ H Q
section
variable{X:Cx}{CX:R_}{k:Nat}{f:A2}{fd:IS}{ps:A1 Str}{sp:Sp}{x:Str}{e:IL}{es:A1 IL}{t:TA}{p pos:Pos}{E:XK}{ds:A1 A3}
theorem Ei{i:Nat}(F:IK X.prog X.w X.K X.mg X.base CX k f fd ps sp)(l:JQ k X.A)(m:PySem.W.keepIn X.K (.ref f)=true)(n:Binds X.K fd ps [])(o:Ab CX X E)
  (y:PA X (e::es) t) (z:X.N[i]?=some x:=by rfl) (B:UN X.env.scope x:=by first | exact Or.inl rfl | exact Or.inr (Or.inl rfl) | exact Or.inr (Or.inr rfl)) (b:(x ==("__debug__":Str))=false:=by decide) (c:(x ==("__classdict__":Str))=false:=by decide)
  (C:starEach (e::es) X.env =(false,eval e X.env)::starEach es X.env:=by rfl) (d:(backTo pos (starEach es X.env)).any (·.1)=false:=by rfl) :
  PE X (.Call (.Name x p) (e::es) [] pos) (zFm i f sp E t):=by
 intro a s σ H Q I h;obtain⟨D,h⟩:=h;refine EH (JA (Za (i:=i) (pos:=p) z B b c a s σ H (λv G=>v = .ref f/\G=H) I ⟨_,D,rfl,rfl⟩) λu J ⟨v,L,g,M,O,P⟩=>?_);subst O P;cases M;refine PySem.W.callWith_K (h₀:=X.base) g.ok.mod.kin m (JA (y pos a J σ L _ g h) λR S ⟨T,U,j,r,q⟩=>⟨j.kIn,?_⟩) C d;exact Nv F l n .nil o j r q
end
end L2
namespace TS
open PySem PyProof.Rows
def KB:A1 (A1 Nat)->A1 (A1 Nat)->Bool
 | _,[]=>false
 | [],_::_=>true
 | x::a,y::b=>decide (x<y)||(decide (x=y)&&KB a b)
def KD{x y:A1 Nat}{a b:A1 (A1 Nat)}:KB (x::a) (y::b)=true↔x<y\/(x=y/\KB a b=true):=by
 rw[KB];simp
def Bd(a:A1 (A1 Nat)):KB a []=false:=by cases a<;>rfl
def Cb:∀a,KB a a=false
 | []=>rfl
 | x::a=>by
  rw[BQ];intro z;rcases KD.mp z with z | ⟨_,z⟩
  .exact HU _ z
  .rw[Cb a]at z;cases z
def Dn:∀a b c,KB a b=true->KB b c=true->KB a c=true
 | _,[],_,h,_=>by rw[Bd]at h;cases h
 | _,_::_,[],_,h=>by rw[Bd]at h;cases h
 | [],_::_,_::_,_,_=>rfl
 | x::a,y::b,z::c,e,d=>by
  rw[KD]at *;rcases e with e | ⟨e,f⟩
  .rcases d with d | ⟨d,_⟩
   .exact .inl (HD e d)
   .exact .inl (d▸e)
  .rcases d with d | ⟨d,g⟩
   .exact .inl (e▸d)
   .exact .inr ⟨e.trans d,Dn a b c f g⟩
def Nj:∀a b c,KB a c=true->KB a b=true\/KB b c=true
 | _,_,[],h=>by rw[Bd]at h;cases h
 | [],[],_::_,_=>.inr rfl
 | _::_,[],_::_,_=>.inr rfl
 | [],_::_,_::_,_=>.inl rfl
 | x::a,y::b,z::c,h=>by
  rw[KD]at h;simp only[KD];rcases TH x y with q | q | q
  .exact .inl (.inl q)
  .rcases h with h | ⟨h,d⟩
   .exact .inr (.inl (q▸h))
   .rcases Nj a b c d with r | r
    .exact .inl (.inr ⟨q,r⟩)
    .exact .inr (.inr ⟨q▸h,r⟩)
  .rcases h with h | ⟨h,_⟩
   .exact .inr (.inl (HD q h))
   .exact .inr (.inl (h▸q))
def NM:∀a b,KB a b=false->KB b a=false->a=b
 | [],[],_,_=>rfl
 | [],_::_,h,_=>by cases h
 | _::_,[],_,h=>by cases h
 | x::a,y::b,c,d=>by
  rw[BQ]at c d;rcases TH x y with q | q | q
  .exact absurd (KD.mpr (.inl q)) c
  .rw[q,NM a b (BQ.mpr λz=>c (KD.mpr (.inr ⟨q,z⟩))) (BQ.mpr λz=>d (KD.mpr (.inr ⟨q.symm,z⟩)))]
  .exact absurd (KD.mpr (.inl q)) d
def OE(tab:A1 (A2×A1 (A1 Nat))):A3->A5 (A1 (A1 Nat))
 | .ref a=>(tab.find? λq=>decide (q.1=a)).map λq=>q.2
 | _=>none
@[reducible] def lexKind(tab:A1 (A2×A1 (A1 Nat))):PyProof.Rows.KeyKind where
 α:=A1 (A1 Nat)
 blt:=KB
 irrefl:=Cb
 trans:=Dn
 negTrans:=Nj
 total:=NM
 keyOf:=OE tab
 dflt:=[]
def NL{tab:A1 (A2×A1 (A1 Nat))}{v:A3}{k:A1 (A1 Nat)}(h:OE tab v=some k):∃q∈tab,v = .ref q.1/\q.2=k:=by
 match v,h with
 | .ref a,h =>
  obtain⟨q,e,b⟩:=BF.mp h;exact⟨q,List.mem_of_find?_eq_some e,by rw[BJ (List.find?_some (p:=λq:A2×A1 (A1 Nat)=>decide (q.1=a)) e)],b⟩
def OV{tab:A1 (A2×A1 (A1 Nat))}{q:A2×A1 (A1 Nat)}(h:q∈tab):∃k,OE tab (.ref q.1)=some k:=by
 show ∃k,(tab.find? λr=>decide (r.1=q.1)).map (λr=>r.2)=some k;cases e:tab.find? λr=>decide (r.1=q.1)with
 | none=>exact absurd (AX rfl) (List.find?_eq_none.mp e _ h)
 | some r=>exact⟨r.2,rfl⟩
open PySem.SeqAt PySem.MeetsSeq PySem.MeetsSeq3
open AutoSeq1 (wpAny_loadPart')
def SV(a:CM A3)(as:A1 Str):Prop:=a.size=as.length/\∀(j:Nat) (x:Str),as[j]?=some x->∃t,a[j]?=some (.str x t)
abbrev MS(as:A1 Str):A1 (A1 Nat):=as.map λx=>x.cps.toList
def Jn(l b:A2)(f a:CM A3)(n C:Nat)(as bs:A1 Str)(x:SV f as)(y:SV a bs)(k:Nat) :
  ∀i:Nat,as.length-i=k->i<=as.length->i<=bs.length->Meets (Builtin.«list.__eq__.loop» ⟨[.ref l,.ref b,rawInt i,rawInt 0],[]⟩)
   (λA R s=>s.heap.get? l=some (seqObj "list" f n)/\s.heap.get? b=some (seqObj "list" a C)/\R (.ok (.ret (.bool (KB (MS (as.drop i)) (MS (bs.drop i)))))) s):=by
 induction k with
 | zero =>
  intro i D E F p w A R s h;obtain⟨G,g,d,H,os⟩:=s;obtain⟨q,j,h⟩:=h;wp_walk using CN q,CN j;have m:f[((i:Nat):Int).toNat]?=none:=by have:=x.1;simp;lia
  rw[m];have e:KB (MS (as.drop i)) (MS (bs.drop i))=decide (f.size<a.size):=by
   rw[x.1,y.1,HY (by lia)];by_cases c:i<bs.length
   .rw[AX (by lia),DI c];rfl
   .rw[BC (by lia),HY (by lia)];rfl
  rw[e]at h;wp_walk using CN q,CN j;exact h
 | succ k I =>
  intro i D E F p w A R s h;obtain⟨G,g,d,H,os⟩:=s;obtain⟨q,j,h⟩:=h;wp_walk using CN q,CN j;have v:i<as.length:=by lia
  obtain⟨t,J⟩:=x.2 i as[i] (AC v);have m:f[((i:Nat):Int).toNat]?=some (.str as[i] t):=by simpa using J
  by_cases c:i<bs.length
  .obtain⟨u,K⟩:=y.2 i bs[i] (AC c);have o:a[((i:Nat):Int).toNat]?=some (.str bs[i] u):=by simpa using K
   have L:((i:Int)+1) =((i+1:Nat):Int):=by push_cast;rfl
   rw[DI v,DI c]at h;have h:R (.ok (.ret (.bool (decide (as[i].cps.toList<bs[i].cps.toList)||(decide (as[i].cps.toList=bs[i].cps.toList)&&KB (MS (as.drop (i+1))) (MS (bs.drop (i+1)))))))) _:=h;rw[m,o];refine AB (IB ?_);by_cases e:as[i]=bs[i]
   .rw[AX e];rw[e,BC (HU _),AX rfl,IE,Bool.true_and]at h;wp_walk;rw[L];exact⟨plainId_quiet plain_eq_loop _,FV entry_eq_loop (by
     rw[Around.under_plainId plain_eq_loop _];exact I (i+1) (by lia) (by lia) (by lia) p w A R _ ⟨q,j,h⟩)⟩
   .rw[BC e];have M:as[i].cps.toList≠bs[i].cps.toList:=λz=>e (by
     have B:=Array.toList_inj.mp z;cases N:as[i];cases O:bs[i];rw[N,O]at B;exact congrArg Str.mk B)
    rw[BC M,EQ,Bool.or_false]at h;wp_walk using CN q,CN j;rw[m,o];show wpAny _ _ (richCompare CmpOp.Lt (.str as[i] t) (.str bs[i] u) >>= λr=>ret r) _ _ _;refine AB (wpAny_richCompare_same (typeIs_str _ _ _) (typeIs_str _ _ _) slot_str_lt (call_str_lt ⟨(by intro z;cases z),AG h⟩) rfl)
  .have o:a[((i:Nat):Int).toNat]?=none:=by have:=y.1;simp;lia
   rw[m,o];have e:KB (MS (as.drop i)) (MS (bs.drop i))=decide (f.size<a.size):=by
    rw[x.1,y.1,HY (l:=bs) (by lia),BC (by lia)];exact Bd _
   rw[e]at h;wp_walk using CN q,CN j;exact h
def QJ(l b:A2)(c a:CM A3)(n i:Nat)(as bs:A1 Str)(k:SV c as)(m:SV a bs) :
  Meets (Builtin.«list.__lt__» ⟨[.ref l,.ref b],[]⟩)
   (λA R s=>s.heap.get? l=some (seqObj "list" c n)/\s.heap.get? b=some (seqObj "list" a i)/\R (.ok (.ret (.bool (KB (MS as) (MS bs))))) s):=by
 intro e w A R s h;obtain⟨o,g,d,p,os⟩:=s;obtain⟨j,f,h⟩:=h;have q:=AutoSeq1.sub_list_list;wp_walk using CN j,CN f;exact⟨plainId_quiet plain_eq_loop _,FV entry_eq_loop (by
  rw[Around.under_plainId plain_eq_loop _];exact Jn l b c a n i as bs k m _ 0 rfl (CB _) (CB _) e w A R _ ⟨j,f,h⟩)⟩
end TS
namespace L2
open PySem PySem.Spec PyProof.Rows
def Yp{l:A1 Str}{us:A1 A3}(r:IR (l.map V.str) us):TS.SV us.toArray l:=by
 induction l generalizing us with
 | nil =>
  cases r;exact⟨rfl,λj x h=>by rw[List.getElem?_nil]at h;cases h⟩
 | cons y l b =>
  cases r with
  | cons c d =>
   obtain⟨f,rfl⟩:=c;obtain⟨a,g⟩:=b d;refine⟨by simp only[AQ,BO]at a⊢;rw[a],λj x h=>?_⟩;cases j with
   | zero =>
    rw[HQ]at h;cases h;exact⟨f,rfl⟩
   | succ j =>
    rw[List.getElem?_cons_succ]at h;obtain⟨t,e⟩:=g j x h;exact⟨t,by simpa using e⟩
def TZ(ts:A1 (A2×A1 Str)):A1 (A2×A1 (A1 Nat)):=ts.map λq=>(q.1,TS.MS q.2)
def Oo{P:A7}{w:F8}{s:A4}{a:A2}{ts:A1 (A2×A1 Str)}{m:IJ}(g:∀q∈ts,∃us,IR (q.2.map V.str) us/\LAt m q.1 us)(d:∀b o,m.get? b=some o->b≠a/\s.heap.get? b=some o) :
  TS.R5 P w a s (TS.lexKind (TZ ts)) oneType' (ts.map λq=>Value.ref q.1):=by
 refine⟨λA r I f=>⟨λx y k l Q E t u q=>?_⟩,λv c=>?_,λz A E r Q f q=>?_⟩
 .obtain⟨_,B,rfl,rfl⟩:=TS.NL t;obtain⟨_,C,rfl,rfl⟩:=TS.NL u;obtain⟨x,D,rfl⟩:=AJ.mp B;obtain⟨y,F,rfl⟩:=AJ.mp C;obtain⟨us,n,G,e⟩:=g x D;obtain⟨J,H,K,p⟩:=g y F;have h:=f _ _ (d _ _ e).1 (d _ _ e).2;have i:=f _ _ (d _ _ p).1 (d _ _ p).2;rw[keyLt'_oneType];exact TS.QI (by lia) h i (TS.QJ _ _ _ _ _ _ _ _ (Yp n) (Yp H)) q
 .obtain⟨q,j,rfl⟩:=AJ.mp c;exact TS.OV (q:=(q.1,TS.MS q.2)) (AJ.mpr ⟨q,j,rfl⟩)
 .refine PySem.W.kas_kind (T:=.type "list") z (λv c=>?_) (by decide) (by decide) q;obtain⟨q,j,rfl⟩:=AJ.mp c;obtain⟨us,n,G,e⟩:=g q j;exact(PySem.W.Looks.ld (f _ _ (d _ _ e).1 (d _ _ e).2)).andThen .now
section
variable{X:Cx}
def Xt(K:PySem.W.Frag):A1 V->Hp->VK->Prop:=λe H Q=>∃(p:A2) (d:A1 (A2×A1 Str)),e = [.ref p]/\IQ K H p (d.map λq=>V.ref q.1)/\(∀q∈d,H q.1=some (.lst (q.2.map V.str))) /\
  ∀(l:A2) (c:A1 (A2×A1 Str)),H l=none->c.Perm d->c.Pairwise (λa b=>TS.KB (TS.MS b.2) (TS.MS a.2)=false)->Q (.ref l) (IH H l (.lst (c.map λq=>V.ref q.1)))
theorem Ic(hu:X.A.units+64<cLine):K1 X (.builtin "sorted") (Xt X.K):=by
 intro J s σ H xs B Q I r h;obtain⟨p,d,rfl,l,f,q⟩:=h;obtain⟨u,rfl,S⟩:=Y3 r;cases S;obtain⟨c,x,T,L⟩:=I.list l;have C:=zFk x;have hl:=x.length;refine TS.QE (by lia) (collect_list (vs:=c) T.isList ?_ (by lia));have g:((s.heap.push (seqObj "list" #[] 0)).update s.heap.objs.size (Obj.mapSeq (· ++ c.toArray))).objs.size=s.heap.objs.size+1:=by rw[FI,size_push']
 have t:∀b o,s.heap.get? b=some o->((s.heap.push (seqObj "list" #[] 0)).update s.heap.objs.size (Obj.mapSeq (· ++ c.toArray))).get? b=some o:=λb o i=>by
  rw[Heap.get?_update_ne _ _ _ _ (AZ (AI i))];exact AE _ i
 have D:∀q∈d,∃B,IR (q.2.map V.str) B/\LAt s.heap q.1 B:=λq l=>by
  obtain⟨z,c,n,x,e⟩:=I.hok _ _ (f q l);exact⟨c,x,n,e⟩
 refine⟨rfl,by lia,TS.lexKind (TZ d),oneType',λs2 U=>?_,λv W e Y k Z=>?_⟩
 .rw[C];refine Oo D λb o i=>?_;rw[<-C];have w:b≠((s.heap.push (seqObj "list" #[] 0)).update s.heap.objs.size (Obj.mapSeq (· ++ c.toArray))).objs.size:=by
   rw[g];exact AZ (EA (AI i))
  exact⟨w,U b o w (t b o i)⟩
 .obtain⟨M,N⟩:=Y;rw[C]at M;obtain⟨j,y,O⟩:=z6 (λq:A2×A1 Str=>Value.ref q.1) M d rfl;have P:∀q∈d,TS.OE (TZ d) (.ref q.1)=some (TS.MS q.2):=λq l=>by
   obtain⟨k,e⟩:=TS.OV (tab:=TZ d) (q:=(q.1,TS.MS q.2)) (AJ.mpr ⟨q,l,rfl⟩);obtain⟨_,m,E,e2⟩:=TS.NL e;obtain⟨r,mr,rfl⟩:=AJ.mp m;have E:q.1=r.1:=Value.ref.inj E;have e3:=(f q l).symm.trans ((congrArg H E).trans (f r mr));have e4:q.2=r.2:=Nx (HO.lst.inj (BN e3));rw[e,<-e2,e4]
  have F:j.Pairwise (λa b=>TS.KB (TS.MS b.2) (TS.MS a.2)=false):=by
   rw[O,CC]at N;refine(List.Pairwise.and_mem.mp N).imp fun{a b} ⟨ha,hb,z⟩=>?_;have R:TS.KB ((TS.OE (TZ d) (.ref b.1)).getD []) ((TS.OE (TZ d) (.ref a.1)).getD [])=false:=z;rw[P a (y.mem_iff.mp ha),P b (y.mem_iff.mp hb)]at R;exact R
  have hn:H (s.heap.objs.size+1)=none:=I.hok.fresh (EK _);have G:W.get? (s.heap.objs.size+1)=some (seqObj "list" v e):=by rw[<-g];exact Z
  refine⟨.ref (s.heap.objs.size+1),IH H (s.heap.objs.size+1) (.lst (j.map λq=>V.ref q.1)),?_,by show Value.ref _=_;rw[<-g],q _ _ hn y F⟩;refine I.laid (t':=s.toks) (λb o i=>k b o (t b o i)) (EK _) ⟨?_,v.toList,e,by rw[O];exact zCm j,by simpa using G⟩;rw[AA,y.length_eq];rw[AA]at L;exact L
theorem Mf(K:PySem.W.Frag)(a:X.A.units+64<cLine)(b:X.K=K:=by rfl):K1 X (.builtin "sorted") (Xt K):=by subst b;exact Ic a
end
def Lz(v d:A2):HO:=.ext λh=>h.IsValuesView v d
def Itv(d:A2)(o:Obj)(a:A1 (IZ×V)):It :=
 ⟨λi H=>H d=some (.frz o (.dK a))/\i<a.length,λi H x b=>b=H/\∃k,a[i]?=some (k,x),λi H=>H d=some (.frz o (.dK a))/\a.length<=i⟩
def KV.atV{c:A1 (IZ×V)}{vs:A1 (IZ×A3)}(h:KV c vs):∀{i:Nat} {k:IZ} {v:V},c[i]?=some (k,v)->∃u,vs[i]?=some (k,u)/\RelV v u:=by
 induction h with
 | nil=>intro i k v e;rw[List.getElem?_nil]at e;cases e
 | cons r _ d =>
  intro i k v e;cases i with
  | zero =>
   rw[HQ]at e⊢;cases e;obtain⟨a,b⟩:=r;exact⟨_,by rw[show k=_ from a],b⟩
  | succ i=>exact d e
section
variable{X:Cx}{tg:IL}
def zHo(d:TE):TE:=λσ H Q=>d σ H λx b=>∃a c,x = .ref a/\b a=some (.dK c)/\∀v,b v=none->Q (.ref v) (IH b v (Lz v a))
theorem Sg{o:IL}{c d:Pos}{m:TE}(t:PE X o m)(f:attributeBase o "values" X.env (eval o X.env)=eval o X.env:=by rfl)(g:(c.endLine == d.line)=true:=by rfl):PE X (.Call (.Attribute o "values" c) [] [] d) (zHo m):=by
 intro i s σ H Q I h;refine wpAny_Call_method0_late f g (JA (t i s σ H _ I h) λv n ⟨x,u,j,y,a,l,A,p,B⟩=>?_);subst A;obtain rfl:v=Value.ref a:=y;obtain⟨z,C,D,E,q⟩:=zBq j.hok p;obtain⟨G,J,_⟩:=zEc j (.inl ⟨l,.inl p⟩);refine⟨"dict", "dict.values",PySem.F.plainAttrs_dict,PySem.F.slot_dict_values,PySem.F.type_dict_values,G,J,Calls.callWith_builtin rfl (PySem.evalArgs_none ?_)⟩;refine call_meetsIn PySem.F.slot_dict_values q.typeIs PySem.F.entry_dict_values (PySem.F.args_dict_values_1 _) (meets_dict_values (D0 X.prog X.w) a C) ⟨⟨D,q⟩,?_⟩;exact⟨.ref n.heap.objs.size,IH u _ (Lz _ a),j.laid (t':=n.toks) (λb o K=>AE _ K) (Nat.le_refl _) ⟨⟨_,AS _ rfl,rfl,rfl⟩,⟨_,AS _ rfl⟩,λL M ⟨o,e,r⟩ k=>⟨o,k o e,r⟩⟩,rfl,B _ j.fresh⟩
theorem Se{P:A7}{w:F8}{K:PySem.W.Frag}{d g:A2}{o:Obj}{a:A1 (IZ×V)}{B:CM DictEntry}{ep:Nat}(q:o.data = .dict B ep):NE P w K tg (Itv d o a) [g] g (λi h=>h.IsValIter g d i a.length ep) where
 mem:=by simp
 obj:=λi h st b j=>by
  have e:b=g:=by simpa using j
  subst e;obtain⟨o,e,c,d⟩:=st;exact⟨o,e,λv z=>by rw[d]at z;cases z⟩
 keep:=λi h t st k=>by
  obtain⟨o,e,r⟩:=st;exact⟨o,k g (by simp) o e,r⟩
 item:=by
  intro X C D F Z i f s σ H E I x st G;subst C D F;obtain⟨J,y⟩:=G;obtain⟨L,M,f2,N,O,Q⟩:=x g (by simp);obtain⟨m,hz,hS,R,r,ob,S,T,n,U,p,Y⟩:=(show IU X.prog X.w H s.heap d (.frz o (.dK a))from I.hok d _ J);rw[m]at n;cases n;rw[q]at p;cases p;have hx:a[i]?=some (a[i].1,a[i].2):=AC y;obtain⟨u,hu,ru⟩:=r.atV hx;have A:a.length=R.length:=r.length;rw[A]at st;refine wpAny_pyNext_values_item (knd:=D0 X.prog X.w) st ⟨o,B,m,U,q,Y⟩ hu λt l sb=>?_;have I1:Inv X f σ H { s with heap:=t }:=I.turned (t':=s.toks) (λb o j e=>(sb.2 b j).trans e) L M N O Q;obtain⟨oi,ei,ci,di⟩:=id l;rw[<-A]at l;exact⟨u,rfl,Oy (s:={ s with heap:=t }) ei ci di (by decide) ⟨a[i].2,H,I1,ru,⟨rfl,_,hx⟩,l,λb j=>(x b j).1⟩⟩
 done:=by
  intro X C D F Z i f s σ H E I x st G;subst C D F;obtain⟨J,y⟩:=G;obtain⟨L,M,f2,N,O,Q⟩:=x g (by simp);obtain⟨m,hz,hS,R,r,ob,S,T,n,U,p,Y⟩:=(show IU X.prog X.w H s.heap d (.frz o (.dK a))from I.hok d _ J);rw[m]at n;cases n;rw[q]at p;cases p;have A:a.length=R.length:=r.length;rw[A]at st y;exact wpAny_pyNext_values_end (knd:=D0 X.prog X.w) (I.ok.hd Z) st ⟨o,B,m,U,q,Y⟩ (DR y) λt eb=>⟨rfl,I.turned (t':=s.toks) (λb o j e=>eb b o j e) L M N O Q⟩
 self:=λ_ _ _ _ _ st h=>wpAny_pyIter_valiter st h
def zJi(c:TE):TI:=λσ H R=>c σ H λx b=>∃v d a,x = .ref v/\b v=some (Lz v d)/\b d=some (.dK a)/\∀o,R (Itv d o a) (IH b d (.frz o (.dK a)))
theorem zDu{l:IL}{t:TE}(j:PE X l t):PI X tg l (zJi t):=by
 intro c s σ H R I h;refine JA (j c s σ H _ I h) λv s1 ⟨x,g,k,D,E⟩=>?_;obtain⟨m,d,a,e,F,y,q⟩:=E;subst e;cases D;obtain⟨f,_⟩:=(show IU X.prog X.w g s1.heap m (Lz m d)from k.hok m _ F);obtain⟨G,J,z,r,o,A,ep,i,B,n,C⟩:=(show IU X.prog X.w g s1.heap d (.dK a)from k.hok d _ y);have p:Inv X c σ (IH g d (.frz o (.dK a))) { s1 with heap:=s1.heap,toks:=s1.toks }:=k.write (t':=s1.toks) (by rw[y];trivial) (.inl rfl) (λb u _ e=>e) ⟨_,i⟩ ⟨i,G,J,z,r,o,A,ep,i,B,n,C⟩;have j:a.length=z.length:=r.length;refine wpAny_pyIter_values (knd:=D0 X.prog X.w) (ep:=ep) f ⟨o,A,i,B,n,C⟩ ?_;refine⟨s1.heap.objs.size,[s1.heap.objs.size],_,_,IH g d (.frz o (.dK a)),rfl,p.kept (t':=s1.toks) λb o e=>AE _ e,Se n,?_,λb K=>?_,q o⟩
 .rw[j];exact⟨_,AS _ rfl,rfl,rfl⟩
 have e:b=s1.heap.objs.size:=by simpa using K
 subst e;exact p.fpOk (Nat.le_refl _) (p.hok.fresh (Nat.le_refl _))
theorem Bq(ns:A1 Int):∀{n:Nat},n<=ns.length->preSum (λi=>ns.getD i 0) n =(ns.take n).sum
 | 0,_=>rfl
 | n+1,h=>by
  have e:ns[n]?=some ns[n]:=AC (by lia);show preSum (λi=>ns.getD i 0) n+ns.getD n 0=_;rw[Bq ns (by lia),List.take_succ,List.sum_append,AV,e];simp
def zHi:A1 V->Hp->VK->Prop:=λc H Q=>∃(v d:A2) (a:A1 (IZ×V)) (b:A1 Int),c = [.ref v]/\H v=some (Lz v d)/\H d=some (.dK a)/\(a.map λq=>q.2)=b.map V.int/\Q (.int b.sum) H
theorem zBw(F:X.calm=true:=by rfl):K1 X (.builtin "sum") zHi:=by
 intro p s σ H N O Q I r h;obtain⟨v,d,a,c,rfl,G,J,x,q⟩:=h;obtain⟨u,rfl,j⟩:=Y3 r;cases j;obtain⟨f,_⟩:=(show IU X.prog X.w H s.heap v (Lz v d)from I.hok v _ G);obtain⟨P,R,g,r,o,y,ep,m,z,A,B⟩:=(show IU X.prog X.w H s.heap d (.dK a)from I.hok d _ J);have S:a.length=g.length:=r.length;have K:a.length=c.length:=by have:=congrArg List.length x;rw[AA,AA]at this;exact this
 refine call_sum_walkG (wpAny_pyIter_values (knd:=D0 X.prog X.w) (ep:=ep) f ⟨o,y,m,z,A,B⟩ ?_);have n:d≠s.heap.objs.size:=AZ (AI m);refine⟨s.heap.objs.size,_,_,g.length,_,_,λi=>c.getD i 0,rfl,Walks.dictValues (knd:=D0 X.prog X.w) (by simp only[Around.in1_handled];exact I.ok.hd F) s.heap.objs.size d n g ep,⟨⟨_,AS _ rfl,rfl,rfl⟩,o,y,AE _ m,z,A,B⟩,λb hb=>?_,λi u ⟨k,C⟩=>?_,λT L t' M=>⟨.int c.sum,H,I.kept (t':=L) λb o e=>M b o (by simpa using AZ (AI e)) (AE _ e),⟨t',?_⟩,q⟩⟩
 .rw[EE];rcases AL.mp hb with rfl | hb
  .exact FJ _
  .rw[AD.mp hb];exact EA (AI m)
 .have U:i<g.length:=(AF.mp C).1;have D:a[i]?=some (a[i].1,a[i].2):=AC (by lia);obtain⟨W,E,j⟩:=r.atV D;rw[C]at E;cases E;have e:=congrArg (λl=>l[i]?) x;rw[AH,AH,D,AC (by lia:i<c.length)]at e;have e:a[i].2=V.int c[i]:=BN e;rw[e]at j;obtain⟨t,rfl⟩:=j;exact⟨t,by show Value.int c[i] t=Value.int (c.getD i 0) t;rw[AV,AC (by lia:i<c.length)];rfl⟩
 .have:preSum (λi=>c.getD i 0) g.length=c.sum:=by
   rw[Bq _ (by lia),CQ (by lia)]
  rw[this]
end
section
variable{X:Cx}
theorem zHt:PIp X .BitOr (ipI λi j=>Builtin.bitOr i j):=by
 intro a s σ H x y v u Q I b c h;obtain⟨i,j,d,e,q⟩:=h;subst d;subst e;obtain⟨t,rfl⟩:=b;obtain⟨f,rfl⟩:=c;exact ior_int ⟨.int _,H,I.tok _,⟨_,rfl⟩,q⟩
end
section
variable{X:Cx}{tg:IL}
def zGk(c:TE):TI:=λσ H R=>c σ H λx b=>∃d a,x = .ref d/\Rd b d (.dK a)/\∀o,R (Itd d o a) (IH b d (.frz o (.dK a)))
theorem Vg{H:Hp}{d:A2}{o:HO}(h:H d=some o):IH H d o=H:=funext λb=>by
 by_cases e:b=d
 .subst e;rw[B1,h]
 .rw[B5 e]
theorem Zq{l:IL}{D:TE}(B:PE X l D):PI X tg l (zGk D):=by
 intro i s σ H R I h;refine JA (B i s σ H _ I h) λv s1 ⟨x,z,A,E,F⟩=>?_;obtain⟨d,a,e,j,q⟩:=F;subst e;cases E;obtain⟨o,C,t,m,c,r,f,ep,g,n,k,p⟩:∃o,Inv X i σ (IH z d (.frz o (.dK a))) { s1 with heap:=s1.heap,toks:=s1.toks }/\a.length<=sizeLine/\(d == sysModules)=false/\∃c,KV a c/\∃f ep,s1.heap.get? d=some o/\o.ExactDict/\o.data = .dict f ep/\(PySem.KeysOf (D0 X.prog X.w) f/\Pairs (D0 X.prog X.w) f.toList c/\(c.map (·.1)).Nodup):=by
  rcases j with j | ⟨o,j⟩
  .obtain⟨t,m,c,r,o,f,ep,g,n,k,p⟩:=(show IU X.prog X.w z s1.heap d (.dK a)from A.hok d _ j);exact⟨o,A.write (t':=s1.toks) (by rw[j];trivial) (.inl rfl) (λb u _ e=>e) ⟨_,g⟩ ⟨g,t,m,c,r,o,f,ep,g,n,k,p⟩,t,m,c,r,f,ep,g,n,k,p⟩
  .obtain⟨g,t,m,c,r,J,f,ep,y,n,k,p⟩:=(show IU X.prog X.w z s1.heap d (.frz o (.dK a))from A.hok d _ j);rw[g]at y;cases y;exact⟨o,by rw[Vg j];exact A,t,m,c,r,f,ep,g,n,k,p⟩
 have B:a.length=c.length:=r.length;refine wpAny_pyIter_dict (knd:=D0 X.prog X.w) (ep:=ep) m ⟨o,f,g,n,k,p⟩ ?_;refine⟨s1.heap.objs.size,[s1.heap.objs.size],_,_,IH z d (.frz o (.dK a)),rfl,C.kept (t':=s1.toks) λb o e=>AE _ e,So k,?_,λb G=>?_,q o⟩
 .rw[B];exact⟨_,AS _ rfl,rfl,rfl⟩
 have e:b=s1.heap.objs.size:=by simpa using G
 subst e;exact C.fpOk (Nat.le_refl _) (C.hok.fresh (Nat.le_refl _))
end
def t8{a b:A2}{n:Nat}(h1:a<n)(h2:n<=b):b≠a:=λz=>by subst z;exact absurd h2 (Nat.not_le_of_lt h1)
section
variable{fs ex:A1 A2}{H:Hp}{h h':IJ}{a:A2}
theorem MT.table{P:A7}{w:F8}{f g:CM A3}(i:MT P w H h)(j:H a=some (.tbl f))(k:∀b u,b≠a->h.get? b=some u->h'.get? b=some u)(l:h'.get? a=some { cls:=.none,data:=.fields g }):MT P w (IH H a (.tbl g)) h':=λb u q=>by
 by_cases d:b=a
 .subst d;rw[B1]at q;cases q;exact l
 .rw[B5 d]at q;have n:∀c o,H c=some o->o≠ .tbl f->c≠a:=λc o e m z=>by rw[z,j]at e;cases e;exact m rfl
  refine(i b u q).stay (λc v hc r=>k c v ?_ r) (λc r=>by rw[B5 (n c _ r (by intro z;cases z))];exact r) λc p r=>by rw[B5 (n c _ r (by intro z;cases z))];exact r
  rcases hc with rfl | hc
  .exact d
  .exact n c _ hc (by intro z;cases z)
end
section
variable{P:A7}{w:F8}{fs ex:A1 A2}{H H':Hp}{h h':IJ}{a:A2}{o:HO}
theorem Un.more{p:A2}{g more:CM A3}(c:H p=some (.tbl g))(d:H' p=some (.tbl (g++more)))(a:∀b o,H b=some o->b≠p->H' b=some o)(f:∀b,b<h.objs.size->H b=none->H' b=none)
  (k:∀b u,b≠p->h.get? b=some u->h'.get? b=some u) (j:∃u,h'.get? p=some u):Un fs ex H H' h h':=by
 have i:∀b,H b=none->b≠p:=λb n e=>by rw[e,c]at n;cases n
 refine⟨λb u q n _ _=>k b u (i b n) q,λb u q n _ _=>⟨u.slots,k b u (i b n) q⟩,λb u q n _=>f b (AI q) n,λb u q _=>?_,λb l q=>a b _ q λe=>?_,λb o u q=>a b _ q λe=>?_,λb m q=>?_⟩
 .by_cases e:b=p
  .subst e;exact j
  .exact⟨u,k b u e q⟩
 .rw[e,c]at q;cases q
 .rw[e,c]at q;cases q
 .by_cases e:b=p
  .subst e;rw[c]at q;cases q;exact⟨more,d⟩
  .exact⟨#[],by rw[a b _ q e];simp⟩
theorem MT.track(x:MT P w H h)(f:H a=none)(d:IU P w (IH H a o) h a o):MT P w (IH H a o) h:=λb u e=>by
 by_cases g:b=a
 .subst g;rw[B1]at e;cases e;exact d
 .rw[B5 g]at e;exact(x b u e).stay (λc v _ q=>q) (λc q=>by rw[B5 (A9 q f)];exact q) λc i q=>by rw[B5 (A9 q f)];exact q
end
def LO(c:A2)(q:Str):HO:=.ext λh=>h.CodeRec (.ref c) q
def OG(f c:A2)(q:Str)(a:Arguments)(b:IL)(d:JN)(cl:A1 (Str×A2)):HO:=.ext λh=>∃e g,h.get? f=some (PySem.W.kla_obj "<lambda>" q a b d cl e c g)
def LO.ok{P:A7}{w:F8}{H:Hp}{h:IJ}{c:A2}{q:Str}(r:h.CodeRec (.ref c) q):IU P w H h c (LO c q):=by
 have g:=r;obtain⟨i,o,b,t,e,a,d,f⟩:=r;cases e;refine⟨g,⟨o,a⟩,λl m j k=>?_⟩;obtain⟨i,o,b,t,e,a,d,f⟩:=j;cases e;exact⟨c,o,b,t,rfl,k o a,d,f⟩
def OG.ok{P:A7}{w:F8}{H:Hp}{h:IJ}{f c:A2}{q:Str}{d:Arguments}{b:IL}{g:JN}{cl:A1 (Str×A2)}{a ct:A3}(r:h.get? f=some (PySem.W.kla_obj "<lambda>" q d b g cl a c ct)):IU P w H h f (OG f c q d b g cl) :=
 ⟨⟨a,ct,r⟩,⟨_,r⟩,λi j ⟨a,ct,e⟩ k=>⟨a,ct,k _ e⟩⟩
def P8(cells:A1 (Str×A2)):A1 (Str×KE)->A1 (Str×A2)->A1 (Str×A2)
 | [],a=>a
 | (n,k)::r,a=>P8 cells r (if(k == NameKind.free)=true then(n,(cells.lookup n).getD 0)::a else a)
def l5{b:JN}{a:QW}(h:∀x∈b.names,x.2 = .free->(a.cells.lookup x.1).isSome=true):closureFor b a=pure (P8 a.cells b.names []):=by
 have g:∀(l:A1 (Str×KE)) (f:A1 (Str×A2)),(∀x∈l,x.2 = .free->(a.cells.lookup x.1).isSome=true) ->
   (forIn (m:=Sem) l f λx i=>match x with
    | (name,j)=>if(j == NameKind.free)=true then do
      let d <-cellOf a name
      pure (ForInStep.yield ((name,d)::i))
     else pure (ForInStep.yield i))=pure (P8 a.cells l f):=by
  intro l
  induction l with
  | nil=>intro f _;rfl
  | cons x r s =>
   obtain⟨n,k⟩:=x;intro f o;rw[FU];by_cases e:(k == NameKind.free)=true
   .have u:k = .free:=eq_of_beq e;obtain⟨c,t⟩:=EZ.mp (o (n,k) (BE ..) u);have p:cellOf a n=pure c:=by
     unfold cellOf;rw[show List.lookup n a.cells=some c from t]
    simp only[e,FC,p,pure_bind];rw[s _ λy q=>o y (BA _ q)];show _=pure (P8 a.cells r (if(k == NameKind.free)=true then(n,(a.cells.lookup n).getD 0)::f else f));rw[AO e,show List.lookup n a.cells=some c from t];rfl
   .simp only[e,A_,CP,pure_bind];rw[s _ λy q=>o y (BA _ q)];show _=pure (P8 a.cells r (if(k == NameKind.free)=true then(n,(a.cells.lookup n).getD 0)::f else f));rw[AN e]
 unfold closureFor;simp only[g b.names [] h,pure_bind]
def Ck{pos q:Pos}{c:A3}:∀(l:A1 A3),TriplesOk l->¬(pos.line=q.line/\pos.col=q.col)->codeAmong q (l ++ [rawInt pos.line,rawInt pos.col,c])=codeAmong q l
 | [],_,n=>by
  show(if((pos.line:Int) ==(q.line:Int) &&(pos.col:Int) ==(q.col:Int))=true then some c else none)=none;rw[AN];intro z;rw[BT,beq_iff_eq,beq_iff_eq]at z;exact n ⟨by lia,by lia⟩
 | .int a _ :: .int b _::x::r,h,n=>by
  show(if(a ==(q.line:Int)&&b ==(q.col:Int))=true then some x else codeAmong q (r ++ [rawInt pos.line,rawInt pos.col,c]))=if(a ==(q.line:Int)&&b ==(q.col:Int))=true then some x else codeAmong q r
  rw[Ck r h n]
def K0(H:Hp)(P:A2)(ls:A1 (Pos×Str)):Prop:=∃a,H P=some (.tbl a)/\TriplesOk a.toList/\∀l∈ls,codeAmong l.1 a.toList=none\/∃c,codeAmong l.1 a.toList=some (.ref c)/\H c=some (LO c l.2)
structure TabAt(K:PySem.W.Frag)(mg:Str->A5 A3)(c P:A2):Prop where
 hd:∀h:IJ,K.In h->PySem.W.CodeHd h c P
 ne:mainGlobals≠P
def zJk(P:A2)(ls:A1 (Pos×Str))(cl:A1 (Str×A2))(q:Str)(e:Arguments)(b:IL)(g:JN):TE:=λ_ H Q=>K0 H P ls/\∀f c d,H f=none->K0 d P ls->d c=some (LO c q)->d f=some (OG f c q e b g cl)->f≠P->(∀a o,H a=some o->a≠P->d a=some o)->Q (.ref f) d
section
variable{X:Cx}
theorem zEv{args:Arguments}{f:IL}{a:JN}{pos:Pos}{c P:A2}{ls:A1 (Pos×Str)}(T:TabAt X.K X.mg c P)(U:X.base.BuiltinsAt X.mg P)(V:X.env.code = .ref c)(hd1:args.defaults = [])(hd2:args.kw_defaults = [])
  (r:∀x∈a.names,x.2 = .free->X.env.scope.names.lookup x.1=some .cell) (hl:(pos,X.env.qual ++ "<lambda>")∈ls) (hu:∀l∈ls,∀l'∈ls,l.1.line=l'.1.line->l.1.col=l'.1.col->l=l') :
  PE X (.Lambda args f a pos) (zJk P ls (P8 X.env.cells a.names []) (X.env.qual ++ "<lambda>") args f a):=by
 intro pins s σ H Q I h;obtain⟨⟨A,C,D,B⟩,q⟩:=h;have E:defaultsOf args X.env =([],[]):=by
  cases args;cases hd1;cases hd2;rfl
 rw[arm_eval_Lambda,E];refine AB (AG (AB (BZ (AG ?_))));have v:s.heap.get? P=some (PySem.W.tabObj A):=I.hok P _ C;have r:∀x∈a.names,x.2 = .free->(X.env.cells.lookup x.1).isSome=true:=λx hx e=>by
  obtain⟨c,V⟩:=I.ok.has x.1 (.inl (r x hx e));rw[V];rfl
 have F:s.heap.Ns mainGlobals X.mg:=I.mod.glob.keeps I.bk;have U:s.heap.BuiltinsAt X.mg P:=let⟨bm,o,h1,Y,h3,h4,h5,h6⟩:=U;⟨bm,o,h1,Y,h3,h4,I.bk _ _ h5,h6⟩;rcases B _ hl with e | ⟨d,e,hc'⟩
 .refine PySem.W.kla_makeFunction (l5 r) I.ok.glob F V (T.hd _ I.kIn) v D e T.ne U λd m g tk xb le Z cr eP=>?_;have w:P<s.heap.objs.size:=AI v;have G:d≠P:=t8 w le;have p:g.objs.size≠P:=t8 w (Nat.le_trans le (DT Z));have J:g.objs.size≠d:=t8 Z (Nat.le_refl _);have L:H d=none:=I.hok.fresh le;have j:H g.objs.size=none:=I.hok.fresh (Nat.le_trans le (DT Z));have eO:(g.push (PySem.W.kla_obj "<lambda>" (X.env.qual ++ "<lambda>") args f a (P8 X.env.cells a.names []) ((X.mg "__name__").getD .none) d m)).get? g.objs.size=some (PySem.W.kla_obj "<lambda>" (X.env.qual ++ "<lambda>") args f a (P8 X.env.cells a.names []) ((X.mg "__name__").getD .none) d m):=AS _ rfl;have kk:∀b u,g.get? b=some u->(g.push (PySem.W.kla_obj "<lambda>" (X.env.qual ++ "<lambda>") args f a (P8 X.env.cells a.names []) ((X.mg "__name__").getD .none) d m)).get? b=some u:=λb u e=>AE _ e;generalize g.push (PySem.W.kla_obj "<lambda>" (X.env.qual ++ "<lambda>") args f a (P8 X.env.cells a.names []) ((X.mg "__name__").getD .none) d m)=Y at eO kk⊢;have k:∀b u,b≠P->s.heap.get? b=some u->Y.get? b=some u:=λb u n e=>kk b u (xb b u n e);have cr2:Y.CodeRec (.ref d) (X.env.qual ++ "<lambda>"):=by
   obtain⟨c1,o,vs,t,e1,ho,hd,hv⟩:=cr;exact⟨c1,o,vs,t,e1,kk _ _ ho,hd,hv⟩
  have M:=kk _ _ eP;have u1:IH H P (.tbl (A ++ #[rawInt pos.line,rawInt pos.col,.ref d])) d=none:=by rw[B5 G];exact L
  have u2:IH (IH H P (.tbl (A ++ #[rawInt pos.line,rawInt pos.col,.ref d]))) d (LO d (X.env.qual ++ "<lambda>")) g.objs.size=none:=by rw[B5 J,B5 p];exact j
  have N:=((I.hok.table C k M).track u1 (LO.ok cr2)).track u2 (OG.ok eO);have O:IH (IH (IH H P (.tbl (A ++ #[rawInt pos.line,rawInt pos.col,.ref d]))) d (LO d (X.env.qual ++ "<lambda>"))) g.objs.size (OG g.objs.size d (X.env.qual ++ "<lambda>") args f a (P8 X.env.cells a.names [])) P=some (.tbl (A ++ #[rawInt pos.line,rawInt pos.col,.ref d])):=by rw[B5 p.symm,B5 G.symm,B1]
  have R:IH (IH (IH H P (.tbl (A ++ #[rawInt pos.line,rawInt pos.col,.ref d]))) d (LO d (X.env.qual ++ "<lambda>"))) g.objs.size (OG g.objs.size d (X.env.qual ++ "<lambda>") args f a (P8 X.env.cells a.names [])) d=some (LO d (X.env.qual ++ "<lambda>")):=by rw[B5 J.symm,B1]
  have i:∀b o,H b=some o->b≠P->IH (IH (IH H P (.tbl (A ++ #[rawInt pos.line,rawInt pos.col,.ref d]))) d (LO d (X.env.qual ++ "<lambda>"))) g.objs.size (OG g.objs.size d (X.env.qual ++ "<lambda>") args f a (P8 X.env.cells a.names [])) b=some o:=λb o e n=>by
   rw[B5 (A9 e j),B5 (A9 e L),B5 n];exact e
  refine⟨.ref g.objs.size,_,I.un (Un.more C O i (λb lb n=>?_) k ⟨_,M⟩) N,rfl,q _ d _ j ⟨_,O,?_,λl ml=>?_⟩ R B1 p i⟩
  .rw[B5 (t8 lb (Nat.le_trans le (DT Z))).symm,B5 (t8 lb le).symm,B5 (by intro z;rw[z,C]at n;cases n)];exact n
  .rw[BS];exact TriplesOk_snoc _ _ _ _ D
  .rw[BS];by_cases el:l =(pos,X.env.qual ++ "<lambda>")
   .subst el;exact .inr ⟨d,codeAmong_snoc _ D e,R⟩
   .have ne:¬(pos.line=l.1.line/\pos.col=l.1.col):=λz=>el (hu l ml _ hl z.1.symm z.2.symm);rw[show(#[rawInt pos.line,rawInt pos.col,Value.ref d]:CM A3).toList = [rawInt pos.line,rawInt pos.col,Value.ref d]from rfl,Ck _ D ne];rcases B l ml with z | ⟨cc,z,S⟩
    .exact .inl z
    .exact .inr ⟨cc,z,i _ _ S λy=>by rw[y,C]at S;cases S⟩
 .refine PySem.W.kla_makeFunctionHit (l5 r) I.ok.glob F V (T.hd _ I.kIn) v D e U λm g tk k le=>?_;have w:P<s.heap.objs.size:=AI v;have p:g.objs.size≠P:=t8 w le;have j:H g.objs.size=none:=I.hok.fresh le;have i:∀b o,H b=some o->IH H g.objs.size (OG g.objs.size d (X.env.qual ++ "<lambda>") args f a (P8 X.env.cells a.names [])) b=some o:=λb o e=>by rw[B5 (A9 e j)];exact e
  refine⟨.ref g.objs.size,_,I.laid (t':=tk) (λb u e=>AE _ (k b u e)) le (OG.ok (AS _ rfl)),rfl,q _ d _ j ⟨A,i _ _ C,D,λl ml=>?_⟩ (i _ _ hc') B1 p λb o e _=>i b o e⟩;rcases B l ml with z | ⟨cc,z,S⟩
  .exact .inl z
  .exact .inr ⟨cc,z,i _ _ S⟩
structure OB(X:Cx)(base':IJ)(σ:St):Prop where
 val:∀(i:Nat) (x:Str) (v:V) (c:A2),X.N[i]?=some x->σ[i]?=some (some v)->X.env.scope.names.lookup x=some .cell->X.env.cells.lookup x=some c->∃u,RelV v u/\base'.IsCell c (some u)
 inj:∀x y c,X.env.cells.lookup x=some c->X.env.cells.lookup y=some c->x=y
 has:∀x,X.env.scope.names.lookup x=some .cell->∃c,X.env.cells.lookup x=some c
def Cr(X:Cx)(h:IJ):IJ:=Uw h λb=>open Classical in if(X.base.get? b).isSome=true\/∃x,X.fn x=true/\X.env.cells.lookup x=some b then none else some (.own 0)
theorem Ib{h:IJ}{b:A2}{o:Obj}(e:h.get? b=some o)(p:(X.base.get? b).isSome=true\/∃x,X.fn x=true/\X.env.cells.lookup x=some b):(Cr X h).get? b=some o:=Be e (by rw[AO p])
theorem Ni{h:IJ}{b:A2}{o:Obj}(e:(Cr X h).get? b=some o):h.get? b=some o/\((X.base.get? b).isSome=true\/∃x,X.fn x=true/\X.env.cells.lookup x=some b):=by
 obtain⟨c,a⟩:=Tr e;refine⟨c,GY λz=>?_⟩;rw[AN z]at a;cases a
variable{pins:A1 (A2×Obj)}{σ:St}{H:Hp}{s:A4}
theorem Inv.wbs(I:Inv X pins σ H s){b:A2}{o:Obj}(e:X.base.get? b=some o):(Cr X s.heap).get? b=some o:=Ib (I.bk b o e) (.inl (by rw[e];rfl))
theorem Inv.wmod(I:Inv X pins σ H s):Mod X.K X.mg (Cr X s.heap):=by
 obtain⟨c,a,⟨g,h,d⟩,f⟩:=I.ok.mod;exact⟨c.keeps λb o e=>I.wbs e,a.keeps λb o e=>I.wbs e,⟨g,h.keeps λb o e=>I.wbs e,d⟩,f.keeps λb o e=>I.wbs e⟩
theorem Inv.cell_nofs(I:Inv X pins σ H s){x:Str}{c:A2}(a:X.fn x=true)(e:X.env.cells.lookup x=some c):c∉QK X.stack:=λz=>by
 rcases AL.mp (I.stkSub c z)with y | y
 .exact I.cne x c e y
 .obtain⟨_,o,b,_⟩:=I.ok.funs.mem y;exact absurd (AI b) (Nat.not_lt_of_le (I.ok.cab x c a e))
theorem Inv.wfuns(I:Inv X pins σ H s):s.heap.FunFrames (Cr X s.heap) X.stack:=by
 have a:∀l:A1 QW,(∀b∈QK l,b∈QK X.stack)->s.heap.FunFrames X.base l->s.heap.FunFrames (Cr X s.heap) l:=by
  intro l
  induction l with
  | nil=>intro _ _;trivial
  | cons e r f =>
   intro d g;obtain⟨i,⟨L,o,c,j,k,m⟩,n⟩:=g;have p:L∈QK X.stack:=d L (by unfold QK;rw[EU,c];exact BE);refine⟨i,⟨L,o,c,?_,k,m⟩,f (λb t=>d b (by unfold QK;rw[EU,c];exact BA _ t)) n⟩;cases q:(Cr X s.heap).get? L with
   | none=>rfl
   | some u =>
    rcases(Ni q).2 with z | ⟨x,z,y⟩
    .rw[j]at z;cases z
    .exact absurd p (I.cell_nofs z y)
 exact a X.stack (λ_ h=>h) I.stack
theorem Inv.wenv(I:Inv X pins σ H s):QB X.prog X.w X.K X.mg (Cr X s.heap) X.A X.stack s H:=by
 refine⟨I.ok.frames,I.wmod,λb o e=>?_,HV (Ht _ _),I.wfuns,I.stkFree,I.hok,I.bare⟩;obtain⟨a,c⟩:=Ni e;refine⟨a,?_⟩;rcases c with z | ⟨x,_,y⟩
 .obtain⟨u,d⟩:=EZ.mp z;exact(I.bs b u d).2
 .exact I.freeC x b y
theorem Inv.wcells(I:Inv X pins σ H s)(e:∀x,X.fn x=true):OB X (Cr X s.heap) σ:=by
 refine⟨λi x v c f g a b=>?_,I.ok.inj,λx h=>I.ok.has x (.inl h)⟩;obtain⟨m,_,h⟩:=I.loc;obtain⟨u,r,l⟩:=h i x v f g (.inr (.inl a));refine⟨u,r,?_⟩;rcases l with⟨z,_⟩ | ⟨_,n,d,o,j,k⟩
 .rw[show X.env.kindOf x=some .cell from a]at z;cases z
 .rw[b]at d;cases d;exact⟨o,Ib j (.inr ⟨x,e x,b⟩),k⟩
end
structure OA(N ps fr:A1 Str)(sc:JN):Prop where
 kind:sc.kind = .function
 co:sc.isCoroutine=false
 gen:sc.isGenerator=false
 eq:N=ps++fr
 nd:N.Nodup
 par:∀x∈ps,sc.names.lookup x=some .local
 fre:∀x∈fr,sc.names.lookup x=some .free
 nocell:∀y∈sc.names,y.2≠ .cell
 has:∀y∈sc.names,y.2 = .free->y.1∈fr
def Ps(P:A7)(w:F8)(K:PySem.W.Frag)(mg:Str->A5 A3)(base:IJ)(N:A1 Str)(b:Str)(a:JN)(f:A2)(c:A3)(cl:A1 (Str×A2))(A:IM)(outer:A1 QW)(s:A4)(H:Hp):Cx where
 prog:=P
 w:=w
 K:=K
 mg:=mg
 base:=base
 A:=A.deeper (PySem.W.envX b a s.heap.objs.size f c cl)
 N:=N
 s₀:=s
 H₀:=H
 env:=PySem.W.envX b a s.heap.objs.size f c cl
 outer:=outer
 stack:=PySem.W.envX b a s.heap.objs.size f c cl::outer
 ex:=[]
 calm:=true
 fn:=λ_=>false
 pn:=[]
 xe:=λ_ _=>False
def Dy{us:A1 A3}:∀{a:A1 Str} {us:A1 A3} {i:Nat} {x:Str} {u:A3},a.Nodup->a[i]?=some x->us[i]?=some u->(a.zip us).reverse.lookup x=some u
 | [],_,_,_,_,_,h,_=>by simp at h
 | _::_,[],_,_,_,_,_,h=>by simp at h
 | p::a,w::us,0,x,u,d,b,c=>by
  simp at b c;subst b c;rw[GJ,List.reverse_cons,List.lookup_append];have:(a.zip us).reverse.lookup p=none:=by
   rw[List.lookup_eq_none_iff];intro q f;have:=(FT (List.mem_reverse.mp f)).1;simp;intro e;exact(CL.mp d).1 (e▸this)
  rw[this];simp
 | p::a,w::us,i+1,x,u,d,b,c=>by
  rw[GJ,List.reverse_cons,List.lookup_append,Dy (us:=us) (CL.mp d).2 (by simpa using b) (by simpa using c)];rfl
section
variable{P:A7}{w:F8}{K:PySem.W.Frag}{mg:Str->A5 A3}{base:IJ}{N ps fr:A1 Str}{qual:Str}{scope:JN}{f c:A2}{cl:A1 (Str×A2)}{A:IM}{outer:A1 QW}{s:A4}{H:Hp}
structure QS(base:IJ)(cl:A1 (Str×A2))(fr:A1 Str)(gs:A1 V):Prop where
 len:gs.length=fr.length
 val:∀(i:Nat) (x:Str) (v:V),fr[i]?=some x->gs[i]?=some v->∃c u,cl.lookup x=some c/\RelV v u/\base.IsCell c (some u)
 only:∀x c,cl.lookup x=some c->x∈fr
 inj:∀x y c,cl.lookup x=some c->cl.lookup y=some c->x=y
theorem zAl{us:A1 A3}{vs gs:A1 V}{h':IJ}{J:Nat}(S:OA N ps fr scope)(C:QS base cl fr gs)(g:A.handled=none)(a:QB P w K mg base A outer s H)(G:vs.length=ps.length)(r:IR vs us)
  (ns:h'.Ns s.heap.objs.size λx=>(ps.zip us).reverse.lookup x) (k:∀b o,s.heap.get? b=some o->h'.get? b=some o) :
  Inv (Ps P w K mg base N qual scope f (.ref c) cl A outer s H) [] (vs.map some++gs.map some) H { s with heap:=h',toks:=J }:=by
 have j:∀x d,cl.lookup x=some d->∃u o,base.get? d=some o/\o.data = .cell (some u):=λx d e=>by
  obtain⟨i,q⟩:=ED.mp (C.only x d e);have t:i<gs.length:=by rw[C.len];exact(AF.mp q).1
  obtain⟨I,u,B,_,o,m,g⟩:=C.val i x gs[i] q (AC t);rw[e]at B;cases B;exact⟨u,o,m,g⟩
 have n:∀b:A2,b∉(Ps P w K mg base N qual scope f (.ref c) cl A outer s H).ex:=λb z=>absurd (show b∈([]:A1 A2)from z) (by simp);refine⟨⟨a.mod,S.kind,rfl,rfl,Nat.le_refl _,C.inj,λy hy=>?_,λy d z _=>?_,λ_=>g,Around.frames_deeper a.frames,.inr ⟨rfl,rfl⟩,λb z=>absurd z (n b),a.bs,a.bsz,λb _ _=>n b,λb z=>absurd z (n b),a.funs,a.frf⟩,
  rfl,a.bare,Un.kept k,⟨_,ns,λi y v l D T=>?_⟩,λy d h=>?_,a.hok.fresh (Nat.le_refl _),λy d h=>?_,λp L=>absurd (show p∈([]:A1 (A2×Obj))from L) (by simp),a.hok.kept k,?_⟩
 .have hy:scope.names.lookup y=some .cell\/scope.names.lookup y=some .free:=hy;rcases hy with hy | hy
  .exact absurd rfl (S.nocell _ (PySem.mem_of_lookup hy))
  .obtain⟨i,q⟩:=ED.mp (S.has _ (PySem.mem_of_lookup hy) rfl);have t:i<gs.length:=by rw[C.len];exact(AF.mp q).1
   obtain⟨I,_,B,_⟩:=C.val i y gs[i] q (AC t);exact⟨I,B⟩
 .cases(show false=true from z)
 .have l:(ps++fr)[i]?=some y:=by rw[<-S.eq];exact l
  have M:(ps++fr).Nodup:=by rw[<-S.eq];exact S.nd
  by_cases t:i<vs.length
  .rw[DA (by rw[AA];exact t),AH]at D;rw[DA (by lia)]at l;obtain⟨O,E,e⟩:=BF.mp D;cases e;obtain⟨u,Q,F⟩:=r.get E;exact⟨u,F,.inl ⟨S.par y (AM l),Dy (us:=us) (EB.mp M).1 l Q⟩⟩
  .rw[CY (by rw[AA];lia),AH,AA]at D;rw[CY (by lia)]at l;obtain⟨O,E,e⟩:=BF.mp D;cases e;rw[G]at E;obtain⟨d,u,R,F,o,m,g⟩:=C.val _ y v l E;exact⟨u,F,.inr ⟨.inr (S.fre y (AM l)),d,R,o,k _ _ (a.bs _ _ m).1,g⟩⟩
 .obtain⟨u,o,m,g⟩:=j y d h;exact⟨_,o,k _ _ (a.bs _ _ m).1,g⟩
 .obtain⟨u,o,m,g⟩:=j y d h;exact(a.bs _ _ m).2
 .show _=N.length;rw[S.eq,AU,AA,AA,AU,G,C.len]
theorem zCp{args:Arguments}{a:IL}{k:Nat}{gs:A1 V}{sp:Sp}{L ct:A3}(S:OA N ps fr scope)(C:QS base cl fr gs)(i:∀vs H Q E,sp vs H Q E->vs.length=ps.length)
  (l:∀vs H Q E,sp vs H Q E->H f=some (OG f c qual args a scope cl)/\H c=some (LO c qual))
  (d:∀(A:IM) (outer:A1 QW) (s:A4) (H:Hp) (vs:A1 V) (Q:VK) (E:XK),JQ k (A.deeper (PySem.W.envX qual scope s.heap.objs.size f (.ref c) cl))->sp vs H Q E ->
   ∃t,PE (Ps P w K mg base N qual scope f (.ref c) cl A outer s H) a t/\t (vs.map some++gs.map some) H Q) :
  IK P w K mg base IY (k+1) f (PySem.W.kla_fn "<lambda>" qual args a scope cl L (.ref c) ct) ps sp:=by
 refine⟨i,λA outer s H g m vs Q E p j M r h=>?_⟩;have O:=i _ _ _ _ h;obtain⟨R,T⟩:=l _ _ _ _ h;obtain⟨⟨q,x,U⟩,_⟩:=(show IU P w H s.heap f (OG f c qual args a scope cl)from j.hok f _ R);obtain⟨X,_⟩:=(show IU P w H s.heap c (LO c qual)from j.hok c _ T);have z:s.heap.NoLimit:=j.mod.nolimit.keeps λb o e=>(j.bs b o e).1;have Y:∀y∈ps.zip m,scope.names.lookup y.1=some .local:=λ⟨n,v⟩ Z=>S.par n (FT Z).1;have B:BindsTo s (PySem.W.kla_fn "<lambda>" qual args a scope cl q (.ref c) x) g (ps.zip m):=M;refine PySem.W.kla_callFunE p.depth U rfl S.co S.gen rfl X (B _ _ _ _ ?_);refine wpAny_newFunctionEnv S.nocell Y (λF ns sb=>?_) S.kind;have G:∀b o,s.heap.get? b=some o->F.get? b=some o:=λb o e=>by
  rw[sb.2 b (AZ (AI e))];exact AE _ e
 refine⟨z.keeps G,PySem.W.kla_codeExpr ?_⟩;obtain⟨t,ht,hq⟩:=d A outer s H vs Q E (p.deeper _) h;have I:Inv (Ps P w K mg base N qual scope f (.ref c) cl A outer s H) [] (vs.map some++gs.map some) H { s with heap:=F,toks:=s.toks +(ps.zip m).length }:=zAl S C p.hd j O r ns G;refine CI (ht [] _ _ H Q I hq) (λu s' D=>?_) λe s' D=>D.elim;obtain⟨v,H',J,rv,qv⟩:=D;exact⟨v,H',J.os,J.bare,J.base,J.hok,rv,qv⟩
theorem Lu{cells:A1 (Str×A2)}:∀{names:A1 (Str×KE)} {cs:A1 (Str×A2)} {x:Str} {c:A2},(P8 cells names cs).lookup x=some c->((x,NameKind.free)∈names/\c =(cells.lookup x).getD 0)\/cs.lookup x=some c
 | [],_,_,_,h=>.inr h
 | (n,k)::r,cs,x,c,h=>by
  rcases Lu (names:=r) h with⟨z,e⟩ | z
  .exact .inl ⟨BA _ z,e⟩
  .by_cases f:(k == NameKind.free)=true
   .rw[AO f]at z;by_cases e:x=n
    .subst e;rw[List.lookup_cons_self]at z;cases z;exact .inl ⟨by rw[eq_of_beq f];exact BE ..,rfl⟩
    .rw[IC,show(x == n)=false from by simpa using e]at z;exact .inr z
   .rw[AN f]at z;exact .inr z
theorem Mj{cells:A1 (Str×A2)}{x:Str}:∀{names:A1 (Str×KE)} {cs:A1 (Str×A2)},(x,NameKind.free)∈names\/(∃c,cs.lookup x=some c)->∃c,(P8 cells names cs).lookup x=some c
 | [],_,h=>h.resolve_left (by simp)
 | (n,k)::r,cs,h=>by
  refine Mj (names:=r) ?_;by_cases e:x=n
  .by_cases f:(k == NameKind.free)=true
   .subst e;exact .inr ⟨_,by rw[AO f,List.lookup_cons_self]⟩
   .rw[AN f];rcases h with z | z
    .rcases AL.mp z with y | y
     .cases y;exact absurd rfl f
     .exact .inl y
    .exact .inr z
  .rcases h with z | ⟨c,z⟩
   .rcases AL.mp z with y | y
    .cases y;exact absurd rfl e
    .exact .inl y
   .refine .inr ⟨c,?_⟩;by_cases f:(k == NameKind.free)=true
    .rw[AO f,IC,show(x == n)=false from by simpa using e];exact z
    .rw[AN f];exact z
theorem OB.clos{X:Cx}{a:IJ}{σ:St}{fr:A1 Str}{gs:A1 V}{names:A1 (Str×KE)}(h:OB X a σ)(n:∀y∈names,y.2=NameKind.free->y.1∈fr)(o:∀x∈fr,(x,NameKind.free)∈names)(g:∀x∈fr,X.env.scope.names.lookup x=some .cell)(f:gs.length=fr.length)
  (p:∀(i:Nat) (x:Str) (v:V),fr[i]?=some x->gs[i]?=some v->∃j:Nat,X.N[j]?=some x/\σ[j]?=some (some v)):QS a (P8 X.env.cells names []) fr gs:=by
 have b:∀{x c},(P8 X.env.cells names []).lookup x=some c->x∈fr/\X.env.cells.lookup x=some c:=fun{x c} e=>by
  rcases Lu e with⟨z,y⟩ | z
  .have m:=n _ z rfl;obtain⟨d,k⟩:=h.has x (g x m);rw[k]at y;rw[k,y];exact⟨m,rfl⟩
  .cases z
 refine⟨f,λi x v l q=>?_,λx c e=>(b e).1,λx y c s t=>h.inj x y c (b s).2 (b t).2⟩;have m:=AM l;obtain⟨c,e⟩:=Mj (cells:=X.env.cells) (cs:=[]) (.inl (o x m));obtain⟨j,w,A⟩:=p i x v l q;obtain⟨u,r,B⟩:=h.val j x v c w A (g x m) (b e).2;exact⟨c,u,e,r,B⟩
end
def QD.okC{P:A7}{w:F8}{K:PySem.W.Frag}{mg:Str->A5 A3}{base:IJ}{x b:Str}{st:IV}{f:A2}{e:IS}{N g:A1 Str}{k:Nat}{sp:Sp}(F:QD K x b st f e)(S:II N g (B7 st))(i:∀vs H Q E,sp vs H Q E->vs.length=g.length)
  (d:∀(c:A3) (A:IM) (a:A1 QW) (s:A4) (H:Hp) (vs:A1 V) (Q:VK) (E:XK),e.code=c->JQ k (A.deeper (envOfC b (B7 st) s.heap.objs.size f c))->sp vs H Q E ->
   ∃t,QV (Wy IY P w K mg base N b (B7 st) f c A a s H E).nox (P2 st) t/\t { nx:=λ_ H'=>Q .non H',rt:=Q } (Bm N vs) H):IK P w K mg base IY (k+1) f e g sp:=by
 obtain⟨p,r,kV,m,u,v,c,y,n,rfl,lk,j⟩:=F.ex;refine zEi lk j S i λA a s H vs Q E o l=>?_;obtain⟨t,h,q⟩:=d c A a s H vs Q E rfl o l;exact⟨t,h.nox,q⟩
def Ug{P:A7}{w:F8}{K:PySem.W.Frag}{mg N:Str->A5 A3}{k:Nat}{fa a:A2}{fd:IS}{x:Str}{sp:Sp}{s₁:A4}{vs:A1 A3}{ns:A1 Int}{ts:A1 A2}
  (f:∀p∈ts,s₁.heap.get? p=some (PySem.W.tabObj #[])) (O:∀p∈ts,isCodeTable s₁.heap p) (Q:∀p∈ts,s₁.heap.BuiltinsAt mg p) (t:∀p∈ts,K.lookup p=none)
  (KX:K.In s₁.heap) (y:s₁.heap.Ns mainGlobals mg) (R:s₁.heap.Ns builtinsNs N) (S:∀x:Str,x≠ "__name__"->N x=bootBuiltins x) (A:s₁.heap.NoLimit) (hg:s₁.gens = #[])
  (l:s₁.heap.get? a=some { cls:=.type "list",data:=.seq vs.toArray }) (hi:IntsAre vs ns) (hl:ns.length<=sizeLine) (hr:JQ k callerA)
  (F:∀base:IJ,K.In base->base.Ns mainGlobals mg->(∀p∈ts,base.BuiltinsAt mg p)->IK P w K mg base IY k fa fd [x] sp) (j:∀(s:A4) (u:A3),BindsTo s fd ⟨[u],[]⟩ [(x,u)])
  (T:∀H:Hp,(∀p∈ts,H p=some (.tbl #[]))->IQ K H a (ns.map V.int)->sp [.ref a] H (λv _=>v = .bl true) λ_ _ _=>False) :
  codeAny (model P w) callerA (.call (.ref fa) ⟨[.ref a],[]⟩) (λr B=>r = .ok (.ret (.bool true))/\OldK s₁.heap B.heap/\B.os=s₁.os/\AllBare B.gens) s₁:=by
 have rv:=Gj hi;have U:a∉ts:=λz=>by
  have:=f a z;rw[l]at this;cases this
 obtain⟨H,hT,hS,X,ok,hK⟩:∃H:Hp,(∀p∈ts,H p=some (.tbl #[]))/\IQ K H a (ns.map V.int)/\(∀b o,H b=some o->(b∈ts/\o = .tbl #[])\/(b=a/\∃Y xs,o = .frz Y (.lst xs)))/\MT P w H s₁.heap/\∀b,H b≠none->K.lookup b=none:=by
  cases Z:K.lookup a with
  | some o =>
   have e:=KX a o Z;rw[l]at e;cases e;refine⟨λb=>if b∈ts then some (.tbl #[])else none,λp n=>AO n,.inr ⟨_,vs.toArray,_,Z,rfl,rfl,rfl,by rw[AQ,hi.length];exact hl,by simpa using rv⟩,λb o e=>?_,λb o e=>?_,λb e=>?_⟩
   .dsimp only at e;by_cases c:b∈ts
    .rw[AO c]at e;cases e;exact .inl ⟨c,rfl⟩
    .rw[AN c]at e;cases e
   .dsimp only at e;by_cases c:b∈ts
    .rw[AO c]at e;cases e;exact f b c
    .rw[AN c]at e;cases e
   .by_cases c:b∈ts
    .exact t b c
    .exact absurd (AN c) e
  | none =>
   refine⟨λb=>if b=a then some (.frz { cls:=.type "list",data:=.seq vs.toArray } (.lst (ns.map V.int)))else if b∈ts then some (.tbl #[])else none,λp n=>?_,.inl (.inr ⟨{ cls:=.type "list",data:=.seq vs.toArray },AO rfl⟩),λb o e=>?_,λb o e=>?_,λb e=>?_⟩
   .show(if p=a then _ else if p∈ts then _ else _)=_;have np:p≠a:=λz=>U (z▸n);rw[AN np,AO n]
   .dsimp only at e;by_cases d:b=a
    .rw[AO d]at e;cases e;exact .inr ⟨d,_,_,rfl⟩
    .rw[AN d]at e;by_cases c:b∈ts
     .rw[AO c]at e;cases e;exact .inl ⟨c,rfl⟩
     .rw[AN c]at e;cases e
   .dsimp only at e;by_cases d:b=a
    .rw[AO d]at e;cases e;subst d;exact⟨l,by rw[AA];exact hl,vs,_,rv,l⟩
    .rw[AN d]at e;by_cases c:b∈ts
     .rw[AO c]at e;cases e;exact f b c
     .rw[AN c]at e;cases e
   .by_cases d:b=a
    .rw[d];exact Z
    .by_cases c:b∈ts
     .exact t b c
     .exact absurd ((AN d).trans (AN c)) e
 have nod:∀{b:A2} {o:Obj} {I:CM DictEntry} {J:Nat},s₁.heap.get? b=some o->o.data = .dict I J->H b=none:=fun{b o I J} e d=>by
  cases q:H b with
  | none=>rfl
  | some u =>
   rcases X b u q with⟨z,_⟩ | ⟨z,_⟩
   .rw[f b z]at e;cases e;cases d
   .rw[z,l]at e;cases e;cases d
 have g:∀{b:A2} {m:Str->A5 A3},s₁.heap.Ns b m->(Uw s₁.heap H).Ns b m:=fun{b m} ⟨o,I,J,e,d,r⟩=>⟨o,I,J,Be e (nod e d),d,r⟩;have hBb:∀p∈ts,(Uw s₁.heap H).BuiltinsAt mg p:=λp n=>by
  obtain⟨L,o,h1,h2,h3,h4,C,h6,h7,h8⟩:=Q p n;refine⟨L,o,h1,h2,h3,h4,Be C ?_,h6,h7,h8⟩;cases q:H L with
  | none=>rfl
  | some u =>
   rcases X L u q with⟨z,_⟩ | ⟨z,_⟩
   .rw[f L z]at C;cases C;cases h8
   .rw[z,l]at C;cases C;cases h8
 have D:K.In (Uw s₁.heap H):=λb o e=>Be (KX b o e) (by
  cases q:H b with
  | none=>rfl
  | some u=>rw[hK b (by rw[q];simp)]at e;cases e)
 have hM:Mod K mg (Uw s₁.heap H):=⟨D,g y,⟨N,g R,S⟩,let⟨mc,h1,h2⟩:=A;⟨mc,g h1,h2⟩⟩;have e0:QB P w K mg (Uw s₁.heap H) callerA [] s₁ H:=⟨rfl,hM,λb o e=>Tr e,HV (Ht _ _),trivial,λb R=>absurd (show b∈([]:A1 A2)from R) (by simp),ok,.of_eq hg⟩;refine codeAny_mono ((F _ D (g y) hBb).run callerA [] s₁ H ⟨[.ref a],[]⟩ [.ref a] [.ref a] _ _ hr e0 (j s₁ (.ref a)) (.cons rfl .nil) (T H hT hS)) λr B h=>?_;cases r with
 | error e=>exact h.elim
 | ok fl =>
  cases fl with
  | next=>exact False.elim h
  | brk=>exact False.elim h
  | cont=>exact False.elim h
  | ret u =>
   obtain⟨v,H',os,E,M,G,r',q⟩:=h;have q':v = .bl true:=q;subst q';obtain rfl:u=Value.bool true:=r';refine⟨rfl,⟨λb o e=>?_,λb o e=>M.there b o e (by simp)⟩,os,E⟩;cases q:H b with
   | none=>exact .inl (M.keep b o e q (λz=>absurd (show b∈([]:A1 A2)from z) (by simp)) (by simp))
   | some u =>
    rcases X b u q with⟨z,rfl⟩ | ⟨_,Y,xs,rfl⟩
    .obtain⟨i,em⟩:=M.tbls b _ q;have e2:B.heap.get? b=some { cls:=.none,data:=.fields (#[]++i) }:=G b _ em;rw[f b z]at e;cases e;exact .inr (.inl ⟨O b z,rfl,#[],i,rfl,e2⟩)
    .obtain⟨e1,_⟩:=ok b _ q;obtain⟨e2,_⟩:=G b _ (M.frzs b Y _ q);rw[e]at e1;cases e1;exact .inl e2
def RO{l:PySem.W.OpenLaw}{n k:Nat}{q:A7}{e:A1 Str}{O:(Str->A5 A3)->IJ->Prop}{t:F8->IJ->Prop}{d:DefRec}{K:Params->PySem.W.Frag}{sp:F8->Sp}{x:Str}{ts:A1 A2}
  (P:l.most=some n) (y:n<=sizeLine) (A:d.params.defaults = []) (Q:JQ k callerA) (R:∀(w:F8) (h:IJ),t w h->(K w.params).In h) (j:∀(w:F8) (h:IJ),t w h->∀p∈ts,h.get? p=some (PySem.W.tabObj #[]))
  (F:∀(w:F8) (mg:Str->A5 A3) (r:A2) (h:IJ),(K w.params).In h->h.Ns mainGlobals mg->mg d.name=some (.ref r) ->
   (∀p∈ts,isCodeTable h p)/\(∀p∈ts,(K w.params).lookup p=none)/\∃B:IS,(∀(s:A4) (u:A3),BindsTo s B ⟨[u],[]⟩ [(x,u)]) /\
    ∀base:IJ,(K w.params).In base->base.Ns mainGlobals mg->(∀p∈ts,base.BuiltinsAt mg p)->IK l.prog w (K w.params) mg base IY k r B [x] (sp w))
  (C:∀(w:F8) (H:Hp) (a:A2) (ns:A1 Int),ns.length<=n->(∀p∈ts,H p=some (.tbl #[]))->IQ (K w.params) H a (ns.map V.int)->sp w [.ref a] H (λv _=>v = .bl true) λ_ _ _=>False) :
  PySem.W.WalkO q e O t l.row.toRowW d [] (λf vs=>PySem.call f vs):=by
 refine Att.QL P A λw s₀ s₁ mg mb r o pm cd S a vs ns G Y ho hd U D m i c X=>?_;have L:=R w _ Y;obtain⟨Z,h2,B,hb,hF⟩:=F w mg r _ L G.T.g D;have E:∀p∈ts,s₁.heap.BuiltinsAt mg p:=λp hp=>by
  obtain⟨bm,o,b1,b2,I,b4,b5,J⟩:=G.T.bmain;refine⟨bm,o,b1,b2,λz=>?_,λz=>?_,I,b4,b5,J⟩
  .obtain⟨o',es,ep,M,N,_⟩:=G.T.g;rw[<-z,I]at M;cases M;rw[J]at N;cases N
  .have:=j w _ Y p hp;rw[<-z,I]at this;cases this;cases J
 exact Ug (j w _ Y) Z E h2 L G.T.g G.T.b G.T.builtins G.T.nolimit X m i (Nat.le_trans c y) Q hF hb λH hO hS=>C w H a ns c hO hS
section
variable{prog:A7}{w:F8}{A:IM}{s:A4}{I:A2}{fp wr:A1 A2}{n:Nat}{P:Nat->A3->Prop}{St:Nat->IJ->Prop}{R:Result->A4->Prop}
theorem Gn{id:String}{b:Builtin}{args:A1 A3}{d:A1 (Str×A3)}{Q E:A3->A4->Prop}(k:builtinKind id=none)(l:plainId id=true)(m:entryFor table id=some b)(n:argsOk id ⟨args,d⟩)
  (i:wpAny (model prog w) A.in1 (b ⟨args,d⟩) (λfin a=>match fin with
   | .done f=>(match(Except.ok f:Result)with | .ok (.ret v)=>Q v a | .ok _=>False | .error e=>E e a)
   | .again j=>j.quiet=true/\codeAny (model prog w) A j (λr a=>match r with | .ok (.ret v)=>Q v a | .ok _=>False | .error e=>E e a) a) E s) :
  wpAny (model prog w) A (call (.builtin id) args d) Q E s:=by
 refine wpAny_call (codeAny_call_builtin l m ?_);simp only[checkBuiltinCall,k];cases c:Manifest.signature? id with
 | none=>exact AG i
 | some g =>
  have h:Bind.checkArgs id g ⟨args,d⟩=pure ():=by simpa only[argsOk,c] using n
  simp only[h];exact AG i
end
def Cx.i1(X:Cx):Cx:={ X with A:=X.A.in1,xe:=λ_ _=>False }
section
variable{X:Cx}{pins:A1 (A2×Obj)}{σ:St}{H:Hp}{s:A4}
theorem Cx.Ok.i1(a:X.Ok):X.i1.Ok :=
 ⟨a.mod,a.kind,a.glob,a.blt,a.above,a.inj,a.has,a.cab,a.hd,a.frames,a.stk,a.exf,a.bs,a.bsz,a.noex,a.exfs,a.funs,a.frf⟩
theorem Cx.Ok.o1(a:X.i1.Ok):X.Ok :=
 ⟨a.mod,a.kind,a.glob,a.blt,a.above,a.inj,a.has,a.cab,a.hd,a.frames,a.stk,a.exf,a.bs,a.bsz,a.noex,a.exfs,a.funs,a.frf⟩
theorem Inv.i1(I:Inv X pins σ H s):Inv X.i1 pins σ H s:=⟨I.ok.i1,I.os,I.bare,I.base,I.loc,I.cell,I.free,I.freeC,I.pin,I.hok,I.len⟩
theorem Inv.o1(I:Inv X.i1 pins σ H s):Inv X pins σ H s:=⟨I.ok.o1,I.os,I.bare,I.base,I.loc,I.cell,I.free,I.freeC,I.pin,I.hok,I.len⟩
def OX(X:Cx)(pins:A1 (A2×Obj))(b:A2):Prop:=(b∈X.ex\/X.s₀.heap.objs.size<=b)/\(∀x c,X.env.cells.lookup x=some c->c≠b)/\∀p∈X.pn++pins,p.1≠b
theorem OX.turned{t':Nat}{a:A2}{h':IJ}(o:OX X pins a)(I:Inv X pins σ H s)(c:H a=none)(d:a≠X.env.locals)(k:∀b o,b≠a->s.heap.get? b=some o->h'.get? b=some o):Inv X pins σ H { s with heap:=h',toks:=t' } :=
 I.turned k c d o.1 o.2.1 o.2.2
end
def Jj(a:Nat->A1 Int):Nat->Nat
 | 0=>0
 | n+1=>if HT.lexLt (a (n+1)) (a (Jj a n))=true then n+1 else Jj a n
def To(a:Nat->A1 Int):∀n,Jj a n<=n
 | 0=>Nat.le_refl _
 | n+1=>by
  unfold Jj;split
  .exact Nat.le_refl _
  .exact Nat.le_succ_of_le (To a n)
section
variable{X:Cx}{pins:A1 (A2×Obj)}{σ:St}{l I S f:A2}{cs:A1 A2}{xs:A1 V}{kf:Nat->A1 Int}{G:Hp->Prop}{R:Result->A4->Prop}
def zHl(X:Cx)(cs:A1 A2)(σ:St)(f:A2)(xs:A1 V)(kf:Nat->A1 Int)(G:Hp->Prop):Prop:=∀(j:Nat) (x:V) (u:A3) (pins:A1 (A2×Obj)) (s:A4) (H:Hp),xs[j]?=some x->RelV x u->Inv X pins σ H s->G H ->
 wpAny (model X.prog X.w) X.A (call (.ref f) [u]) (EP X pins σ λv b=>∃a,v = .ref a/\a∉cs/\Sm cs H b/\G b/\JH X.K b a ((kf j).map V.int)) X.xe s
theorem Aw{X:Cx}{pins:A1 (A2×Obj)}{σ:St}{H:Hp}{s:A4}{S I:A2}{a oI:Obj}(J:Inv X ((S,a) ::(I,oI)::pins) σ H s) :
  (s.heap.get? S=some a/\H S=none/\S≠X.env.locals/\S∉X.fs/\∀v,a.data≠ .cell v)/\(s.heap.get? I=some oI/\H I=none/\I≠X.env.locals/\I∉X.fs/\∀v,oI.data≠ .cell v)/\Inv X pins σ H s :=
 ⟨J.pin (S,a) (BI _ (.head _)),J.pin (I,oI) (BI _ (.tail _ (.head _))),J.pins_of λp b=>J.pin p (BI _ (.tail _ (.tail _ b)))⟩
theorem Wq{X:Cx}{pins:A1 (A2×Obj)}{σ:St}{H:Hp}{s:A4}{S I:A2}{a oI:Obj}(J:Inv X pins σ H s)(b:s.heap.get? S=some a/\H S=none/\S≠X.env.locals/\S∉X.fs/\∀v,a.data≠ .cell v)
  (c:s.heap.get? I=some oI/\H I=none/\I≠X.env.locals/\I∉X.fs/\∀v,oI.data≠ .cell v):Inv X ((S,a) ::(I,oI)::pins) σ H s:=J.pins_of λp hp=>by
 rcases AL.mp hp with rfl | hp
 .exact b
 rcases AL.mp hp with rfl | hp
 .exact c
 exact J.pin p (BI _ hp)
theorem Sx(hc:X.calm=true)(hu:X.A.units+1<cLine)(turn:zHl X.i1 cs σ f xs kf G)(hG:∀H,G H->IQ X.K H l xs)(oI:OX X pins I)(oS:OX X pins S)(y:S≠I)(U:l≠I) :
  ∀(r j:Nat) (s:A4) (H:Hp) (P:A3) (b:A2) (c:Nat) (ob:Obj),xs.length-(j+1)=r->j+1<=xs.length->Inv X.i1 ((S,seqObj "list" #[P,.ref b] c) ::(I,ob)::pins) σ H s->s.heap.IsListIter I l (j+1) ->
   RelV (xs.getD (Jj kf j) .non) P->b∉cs->JH X.K H b ((kf (Jj kf j)).map V.int)->G H ->
   (∀u Q H',Inv X pins σ H' Q->RelV (xs.getD (Jj kf (xs.length-1)) .non) u->Sm cs H H'->G H'->R (.ok (.ret u)) Q) ->
   codeAny (model X.prog X.w) X.A (.builtin "min.loop" ⟨[.ref I,.ref f,.ref S],[]⟩) R s:=by
 have n:(toString "min" ++ toString ".loop":String) = "min.loop":=by decide
 intro r
 induction r with
 | zero =>
  intro j s H P b c ob hr hj J L rb nb x g hR;have ej:j=xs.length-1:=by lia
  obtain⟨D,E,Y⟩:=Aw J;obtain⟨m,rv,pl,hz⟩:=J.list (hG H g);have p:m.toArray.size=xs.length:=by rw[AQ];exact rv.length.symm
  have W:=Walks.list (prog:=X.prog) (w:=X.w) (A:=X.A.in1) (show X.A.in1.handled=none from Y.o1.ok.hd hc) I l U m.toArray;refine FV PySem.F.entry_min_loop ?_;rw[Around.under_plainId PySem.F.plain_min_loop _];show wpAny _ X.A.in1 (seqItems? (.ref S) >>= _) _ _ _;refine AB (DB D.1 rfl ?_);show wpAny _ X.A.in1 (tryCatch (pyNext (.ref I)) _ >>= _) _ _ _;refine AB (GE (W.done _ _ _ ⟨by rw[p,show xs.length=j+1 by lia];exact L,pl.isList⟩ λh' M q=>?_));have J1:Inv X.i1 pins σ H { s with heap:=h',toks:=M }:=OX.turned (X:=X.i1) oI Y E.2.1 E.2.2.1 λb o x e=>q b o (by simpa using x) e;have hS':=q S _ (by simpa using y) D.1;show wpAny _ X.A.in1 (updateSeq S (λ_=>#[]) >>= _) _ _ _;refine AB ?_;refine FW hS' rfl (AB (HP (AG ?_)));refine hR P _ H (OX.turned (X:=X.i1) oS J1 D.2.1 D.2.2.1 λb o x e=>(CO _ _ (Ne.symm x)).trans e).o1 (by rw[<-ej];exact rb) (Sm.refl _ _) g
 | succ r ih =>
  intro j s H P b c ob hr hj J L rb nb x g hR;have B:j+1<xs.length:=by lia
  obtain⟨D,E,Y⟩:=Aw J;obtain⟨m,rv,pl,hz⟩:=J.list (hG H g);have p:m.toArray.size=xs.length:=by rw[AQ];exact rv.length.symm
  have W:=Walks.list (prog:=X.prog) (w:=X.w) (A:=X.A.in1) (show X.A.in1.handled=none from Y.o1.ok.hd hc) I l U m.toArray;refine FV PySem.F.entry_min_loop ?_;rw[Around.under_plainId PySem.F.plain_min_loop _];show wpAny _ X.A.in1 (seqItems? (.ref S) >>= _) _ _ _;refine AB (DB D.1 rfl ?_);show wpAny _ X.A.in1 (tryCatch (pyNext (.ref I)) _ >>= _) _ _ _;refine AB (GE (W.item (j+1) _ _ _ (by rw[p];exact B) ⟨L,pl.isList⟩ λv h' M hP Z q=>?_));have hv:m[j+1]?=some v:=by simpa using hP
  have ex:xs[j+1]?=some xs[j+1]:=AC B;obtain⟨v',hv',rx⟩:=rv.get ex;rw[hv]at hv';cases hv';obtain⟨t,hob',hoc,N⟩:=id Z.1;have J1:Inv X.i1 pins σ H { s with heap:=h',toks:=M }:=OX.turned (X:=X.i1) oI Y E.2.1 E.2.2.1 λb o x e=>q b o (by simpa using x) e;have J2:=Wq J1 (S:=S) (I:=I) (oI:=t) ⟨q S _ (by simpa using y) D.1,D.2⟩ ⟨hob',E.2.1,E.2.2.1,E.2.2.2.1,λv z=>by rw[N]at z;cases z⟩;show wpAny _ X.A.in1 (tryCatch (holding [v] (call (.ref f) [v])) _ >>= _) _ _ _;refine AB (GE (BZ (CI (turn (j+1) _ v _ _ _ ex rx J2 g) (λu2 s2 he=>?_) λ_ _ hF=>False.elim hF)));obtain⟨v2,H2,J3,r2,a,rfl,na,sm,g2,ha⟩:=he;cases r2;have hb2:JH X.K H2 b ((kf (Jj kf j)).map V.int):=x.imp (λh=>h.imp (λe=>sm _ _ e nb) λ⟨o,e⟩=>⟨o,sm _ _ e nb⟩) id;show wpAny _ X.A.in1 (tryCatch (holding [v,.ref a] (richCompare .Lt (.ref a) (.ref b) >>= _)) _ >>= _) _ _ _;refine AB (GE (BZ (AB (CI (zCr (X:=X.i1) hu _ s2 σ H2 (.ref a) (.ref b) (.ref a) (.ref b) (λv H'=>v = .bl (HT.lexLt (kf (j+1)) (kf (Jj kf j)))/\H'=H2) J3 rfl rfl ⟨a,b,_,_,rfl,rfl,ha,hb2,rfl,rfl⟩) (λu3 s3 he=>?_) λ_ _ hF=>False.elim hF))));obtain⟨v3,H3,J4,r3,rfl,rfl⟩:=he;cases r3;refine AB (BZ (CU ?_));refine AB (HP (AG ?_));obtain⟨d,C,J5⟩:=Aw J4;have T:Jj kf (j+1)=if HT.lexLt (kf (j+1)) (kf (Jj kf j))=true then j+1 else Jj kf j:=rfl
  cases hb':HT.lexLt (kf (j+1)) (kf (Jj kf j))with
  | true =>
   rw[hb',AO rfl]at T;simp only[FC];refine AB ?_;refine FW d.1 rfl (AB (HP ?_));rw[n];have k:∀b o,b≠S->s3.heap.get? b=some o->(s3.heap.update S (Obj.mapSeq λ_=>#[v,.ref a])).get? b=some o:=λb o x e=>(CO _ _ (Ne.symm x)).trans e;have J6:=OX.turned (X:=X.i1) (t':=s3.toks) oS J5 d.2.1 d.2.2.1 k;obtain⟨c2,hc2⟩:∃c2,(s3.heap.update S (Obj.mapSeq λ_=>#[v,.ref a])).get? S=some (seqObj "list" #[v,.ref a] c2):=⟨_,get?_update_seq d.1 λ_=>#[v,.ref a]⟩;refine AG ⟨plainId_quiet PySem.F.plain_min_loop _,ih (j+1) _ H3 v a c2 t (by lia) B (Wq J6 ⟨hc2,d.2.1,d.2.2.1,d.2.2.2.1,λv z=>by cases z⟩ ⟨k _ _ (Ne.symm y) C.1,C.2⟩) ⟨t,k _ _ (Ne.symm y) C.1,hoc,N⟩ ?_ na ?_ g2 λu Q H' i r' O g'=>hR u Q H' i r' (sm.trans O) g'⟩
   .rw[T,AV,ex];exact rx
   .rw[T];exact ha
  | false =>
   rw[hb',AN (by simp)]at T;simp only[A_,CP];refine AB (HP ?_);rw[n];refine AG ⟨plainId_quiet PySem.F.plain_min_loop _,ih (j+1) _ H3 P b c t (by lia) B J4 ⟨t,C.1,hoc,N⟩ ?_ nb ?_ g2 λu Q H' i r' O g'=>hR u Q H' i r' (sm.trans O) g'⟩
   .rw[T];exact rb
   .rw[T];exact hb2
theorem Tv(a v:A3):argsOk "min" ⟨[a],[("key",v)]⟩:=by unfold argsOk;kernel_rfl
theorem Tz{H:Hp}{s:A4}{Q:VK}(hc:X.calm=true)(hu:X.A.units+1<cLine)(turn:zHl X.i1 cs σ f xs kf G)(hG:∀H,G H->IQ X.K H l xs)(J:Inv X pins σ H s)(g:G H)(hx:xs≠[])
  (h:∀H',Sm cs H H'->G H'->Q (xs.getD (Jj kf (xs.length-1)) .non) H'):wpAny (model X.prog X.w) X.A (call (.builtin "min") [.ref l] [("key",.ref f)]) (EP X pins σ Q) X.xe s:=by
 have j:(toString "min" ++ toString ".loop":String) = "min.loop":=by decide
 obtain⟨n,rv,pl,hz⟩:=J.list (hG H g);have t:=pl.isList;obtain⟨ol,U,_⟩:=id t;have V:l<s.heap.objs.size:=AI U;have E:n.toArray.size=xs.length:=by rw[AQ];exact rv.length.symm
 have m:0<xs.length:=List.length_pos_iff.mpr hx;refine Gn PySem.F.kind_min PySem.F.plain_min PySem.F.entry_min (Tv _ _) ?_;show wpAny _ X.A.in1 (Builtin.Builtins.bindParams "min" ["key", "default"] 0 ⟨[],[("key",.ref f)]⟩ >>= _) _ _ s;refine AB (wpAny_of_eq (show Builtin.Builtins.bindParams "min" ["key", "default"] 0 ⟨[],[("key",.ref f)]⟩=pure [some (.ref f),none]from rfl) ?_);refine AB (AG ?_);refine AB (GQ t ?_);refine AB (GM ?_ (CB _));rw[j];have hS:(s.heap.push { cls:=.type "list_iterator",data:=.fields #[.ref l,.int 0 0] }).objs.size=s.heap.objs.size+1:=EE ..;have d:(s.heap.push { cls:=.type "list_iterator",data:=.fields #[.ref l,.int 0 0] }).objs.size≠s.heap.objs.size:=by lia
 have x:l≠s.heap.objs.size:=AZ V;have y:s.heap.objs.size<=(s.heap.push { cls:=.type "list_iterator",data:=.fields #[.ref l,.int 0 0] }).objs.size:=by lia
 have hle0:s.heap.objs.size<=s.heap.objs.size:=Nat.le_refl _;generalize Y:(s.heap.push { cls:=.type "list_iterator",data:=.fields #[.ref l,.int 0 0] }).objs.size=S at d y⊢;obtain⟨I,Z⟩:∃I,s.heap.objs.size=I:=⟨_,rfl⟩;rw[Z]at d x;have p:s.heap.objs.size<=I:=by lia
 rw[show(Value.ref s.heap.objs.size)=Value.ref I by rw[Z]];refine AG ⟨plainId_quiet PySem.F.plain_min_loop _,?_⟩;have kk:∀b o,s.heap.get? b=some o->((s.heap.push { cls:=.type "list_iterator",data:=.fields #[.ref l,.int 0 0] }).push (seqObj "list" #[] 0)).get? b=some o:=λb o e=>AE _ (AE _ e);have gI:((s.heap.push { cls:=.type "list_iterator",data:=.fields #[.ref l,.int 0 0] }).push (seqObj "list" #[] 0)).get? I=some { cls:=.type "list_iterator",data:=.fields #[.ref l,.int 0 0] } :=
  Z▸AE _ (AS _ rfl)
 have gS:((s.heap.push { cls:=.type "list_iterator",data:=.fields #[.ref l,.int 0 0] }).push (seqObj "list" #[] 0)).get? S=some (seqObj "list" #[] 0):=Y▸AS _ rfl;have q:=J.fpOk (H':=H) (b:=I) p (J.hok.fresh p);have D:=J.fpOk (H':=H) (b:=S) y (J.hok.fresh y);have oI:OX X pins I:=⟨q.2.2.2.1,q.2.2.2.2.1,q.2.2.2.2.2⟩;have oS:OX X pins S:=⟨D.2.2.2.1,D.2.2.2.2.1,D.2.2.2.2.2⟩;have W:=Walks.list (prog:=X.prog) (w:=X.w) (A:=X.A.in1) (show X.A.in1.handled=none from J.ok.hd hc) I l x n.toArray;have J0:=(J.kept (t':=s.toks) kk).i1;have L:((s.heap.push { cls:=.type "list_iterator",data:=.fields #[.ref l,.int 0 0] }).push (seqObj "list" #[] 0)).IsList l n.toArray:=by
  obtain⟨o,e,r⟩:=t;exact⟨o,kk _ _ e,r⟩
 refine FV PySem.F.entry_min_loop ?_;rw[Around.under_plainId PySem.F.plain_min_loop _];show wpAny _ X.A.in1 (seqItems? (.ref S) >>= _) _ _ _;refine AB (DB gS rfl ?_);show wpAny _ X.A.in1 (tryCatch (pyNext (.ref I)) _ >>= _) _ _ _;refine AB (GE (W.item 0 _ _ _ (by rw[E];exact m) ⟨⟨_,gI,rfl,rfl⟩,L⟩ λv h' tk' hP M N=>?_));have hv:n[0]?=some v:=by simpa using hP
 have ex:xs[0]?=some xs[0]:=AC m;obtain⟨v',O,rx⟩:=rv.get ex;rw[hv]at O;cases O;obtain⟨B,P,hoc,R⟩:=id M.1;have J1:=OX.turned (X:=X.i1) (h':=h') (t':=tk') oI J0 q.1 q.2.1 λb o hb e=>N b o (by simpa using hb) e;have J2:=Wq J1 (S:=S) (I:=I) (oI:=B) ⟨N S _ (by simpa using d) gS,D.1,D.2.1,D.2.2.1,λv z=>by cases z⟩ ⟨P,q.1,q.2.1,q.2.2.1,λv z=>by rw[R]at z;cases z⟩;show wpAny _ X.A.in1 (tryCatch (holding [v] (call (.ref f) [v])) _ >>= _) _ _ _;refine AB (GE (BZ (CI (turn 0 _ v _ _ _ ex rx J2 g) (λu2 T he=>?_) λ_ _ hF=>False.elim hF)));obtain⟨v2,H2,J3,r2,a,rfl,na,sm,g2,ha⟩:=he;cases r2;obtain⟨c,C,J5⟩:=Aw J3;show wpAny _ X.A.in1 (updateSeq S (λ_=>#[v,.ref a]) >>= _) _ _ _;refine AB ?_;refine FW c.1 rfl ?_;rw[j];have k:∀b o,b≠S->T.heap.get? b=some o->(T.heap.update S (Obj.mapSeq λ_=>#[v,.ref a])).get? b=some o:=λb o hb e=>(CO _ _ (Ne.symm hb)).trans e;have J6:=OX.turned (X:=X.i1) (t':=T.toks) oS J5 c.2.1 c.2.2.1 k;obtain⟨c2,hc2⟩:∃c2,(T.heap.update S (Obj.mapSeq λ_=>#[v,.ref a])).get? S=some (seqObj "list" #[v,.ref a] c2):=⟨_,get?_update_seq c.1 λ_=>#[v,.ref a]⟩;refine AG ⟨plainId_quiet PySem.F.plain_min_loop _,Sx hc hu turn hG oI oS d x _ 0 _ H2 v a c2 B rfl m (Wq J6 ⟨hc2,c.2.1,c.2.2.1,c.2.2.2.1,λv z=>by cases z⟩ ⟨k _ _ (Ne.symm d) C.1,C.2⟩) ⟨B,k _ _ (Ne.symm d) C.1,hoc,R⟩ ?_ na ha g2 λu s' H' i r' sm' g'=>⟨_,H',i,r',h H' (sm.trans sm') g'⟩⟩;show RelV (xs.getD 0 .non) v;rw[AV,ex];exact rx
end
def TU(X:Cx)(k:Nat)(cs:A1 A2)(σ:St)(f:A2)(xs:A1 V)(h:Nat->A1 Int)(G:Hp->Prop):Prop:=∀b:IJ,OB X b σ->X.K.In b->∃(d:IS) (e:A1 Str) (g:Sp),IK X.prog X.w X.K X.mg b IY k f d e g/\Binds X.K d e [] /\
 ∀(j:Nat) (x:V) (H:Hp),xs[j]?=some x->G H->g [x] H (λv c=>∃a,v = .ref a/\a∉cs/\Sm cs H c/\G c/\JH X.K c a ((h j).map V.int)) E0
def zGp(X:Cx)(k:Nat)(h:TA)(i:TE):TE:=λσ H Q=>h σ H λj m=>i σ m λd c=>∃(l f:A2) (e:A1 A2) (a:A1 V) (g:Nat->A1 Int) (G:Hp->Prop),j = [.ref l]/\d = .ref f/\a≠[]/\G c/\(∀H,G H->IQ X.K H l a)/\TU X k e σ f a g G /\
 ∀b,Sm e c b->G b->Q (a.getD (Jj g (a.length-1)) .non) b
section
variable{X:Cx}{k:Nat}{e ed:IL}{ta:TA}{td:TE}{p kp pos:Pos}
theorem TU.keyR{cs:A1 A2}{σ:St}{f:A2}{xs:A1 V}{l:Nat->A1 Int}{G:Hp->Prop}(h:TU X k cs σ f xs l G)(n:∀x,X.fn x=true)(d:JQ (k+1) X.A):zHl X.i1 cs σ f xs l G:=by
 intro j x u m s H o p I g;have cs:OB X.i1 (Cr X.i1 s.heap) σ:=I.wcells n;obtain⟨y,q,z,F,c,t⟩:=h (Cr X.i1 s.heap) ⟨cs.val,cs.inj,cs.has⟩ I.wmod.kin;have a:=t j x H o g;have r:IR [x] [u]:=.cons p .nil;have v:[u].length=q.length:=by rw[<-r.length];exact F.len _ _ _ _ a
 have c:=c s [u] I.kIn (by rw[CA];exact v);rw[CA]at c;have i:JQ k X.A.in1:=⟨d.hd,by have:=d.dp;show X.A.depth+3*k+5<_;lia,by have:=d.un;show X.A.units+1+16*k+200<_;lia⟩;refine wpAny_call (codeAny_mono (F.run X.A.in1 X.stack s H ⟨[u],[]⟩ [u] [x] _ E0 i I.wenv c r a) λr B b=>?_);cases r with
 | error e=>exact b.elim
 | ok w =>
  cases w with
  | ret u=>exact I.after b
  | next=>exact False.elim b
  | brk=>exact False.elim b
  | cont=>exact False.elim b
theorem zAe(d:∀x,X.fn x=true)(b:JQ (k+1) X.A)(i:X.mg "min" = none)(j:PA X [e] ta)(m:PE X ed td)(n:X.calm=true:=by rfl)(o:Gl X "min":=by rfl)
  (c:starEach [e] X.env = [(false,eval e X.env)]:=by rfl):PE X (.Call (.Name "min" p) [e] [⟨some "key",ed,kp⟩] pos) (zGp X k ta td):=by
 intro a s σ H Q I h;refine EH (W2 I o i Xz ?_ (by decide) (by decide));refine callWith_kw (JA (j pos a s σ H _ I h) λL q ⟨M,r,t,v,w⟩=>kws_cons (JA (m a q σ r _ t w) λN O ⟨P,R,y,z,l,f,S,T,U,G,B,C,D,g,E,F,J⟩=>kws_nil ?_)) (by rw[c];rfl) (by rw[c];rfl);subst B C;obtain⟨u,rfl,K⟩:=Y3 v;cases K;cases z;have:=b.un;exact Tz n (by lia) (F.keyR d b) E y g D J
end
section
variable{P:A7}{w:F8}{K:PySem.W.Frag}{mg:Str->A5 A3}{base:IJ}
theorem QD.o1{x a:Str}{st:IV}{f:A2}{i:IS}{N e:A1 Str}{k:Nat}{sp:Sp}(F:QD K x a st f i)(S:II N e (B7 st))
  (b:∀(d:A3) (A:IM) (c:A1 QW) (s:A4) (H:Hp) (vs:A1 V) (Q:VK) (E:XK),JQ k (A.deeper (envOfC a (B7 st) s.heap.objs.size f d))->sp vs H Q E ->
   ∃t,QV (Wy IY P w K mg base N a (B7 st) f d A c s H E).nox (P2 st) t/\t { nx:=λ_ H'=>Q .non H',rt:=Q } (Bm N vs) H) (g:∀vs H Q E,sp vs H Q E->vs.length=e.length:=by intro _ _ _ _ h;repeat first | (obtain⟨h,_⟩:=h;subst h;rfl) | (obtain⟨_,h⟩:=h)):IK P w K mg base IY (k+1) f i e sp:=F.ok S g b
end
def QD.oC{P:A7}{w:F8}{K:PySem.W.Frag}{mg:Str->A5 A3}{base:IJ}{x a:Str}{st:IV}{f:A2}{e:IS}{N g:A1 Str}{k:Nat}{sp:Sp}(F:QD K x a st f e)(S:II N g (B7 st))
  (b:∀(c:A3) (A:IM) (d:A1 QW) (s:A4) (H:Hp) (vs:A1 V) (Q:VK) (E:XK),e.code=c->JQ k (A.deeper (envOfC a (B7 st) s.heap.objs.size f c))->sp vs H Q E ->
   ∃t,QV (Wy IY P w K mg base N a (B7 st) f c A d s H E).nox (P2 st) t/\t { nx:=λ_ H'=>Q .non H',rt:=Q } (Bm N vs) H) (i:∀vs H Q E,sp vs H Q E->vs.length=g.length:=by intro _ _ _ _ h;repeat first | (obtain⟨h,_⟩:=h;subst h;rfl) | (obtain⟨_,h⟩:=h)):IK P w K mg base IY (k+1) f e g sp:=F.okC S i b
end L2
namespace TS
open PySem
section
variable{prog:A7}{w:F8}{A:IM}{E:A3->A4->Prop}{s:A4}
theorem Jk{a:A2}{Q:A5 Obj->A4->Prop}(h:Q (s.heap.get? a) s):wpAny (model prog w) A (loadIfAlive a) Q E s:=λΓ p _=>(Sem.wp_loadIfAlive (M:=model prog w) (Γ:=Γ) (a:=a) ..).mpr h
abbrev OH(h:IJ)(z TI TO:A2)(a:A3)(b:Bool):Prop :=
 h.get? z=some { cls:=.type "zip",dict:=none,data:=.fields #[a,.bool b,.bool false,.ref TI,.ref TO],slots:=#[] }
theorem Mu{z TI TO T:A2}{b:Bool}{o:Obj}{Q:Bool->A4->Prop}(hz:OH s.heap z TI TO (rawInt T) b)(c:s.heap.get? T=some o)
  (a:∀h',OH h' z TI TO (rawInt T) true->Heap.SameBut z s.heap h'->Q false { s with heap:=h' }):wpAny (model prog w) A (Builtin.SmallTypes.ownedTupleIsFree (.ref z)) Q E s:=by
 unfold Builtin.SmallTypes.ownedTupleIsFree;refine AB (DH hz rfl (x:=rawInt T) rfl ?_);show wpAny _ _ (loadIfAlive T >>= _) _ _ _;refine AB (Jk ?_);rw[c];show wpAny _ _ (field (.ref z) 1 >>= _) _ _ _;refine AB (DH hz rfl (x:=.bool b) rfl ?_);cases b with
 | true=>exact AG (a s.heap hz ⟨rfl,λ_ _=>rfl⟩)
 | false =>
  show wpAny _ _ (setField (.ref z) 1 (.bool true) >>= _) _ _ _;refine AB (FP hz (by simp) λh₁ hz₁ d₁=>?_);exact AG (a h₁ hz₁ d₁)
theorem Qb{z TI TO d f i l2 T:A2}{b:Bool}{o:Obj}{j k:Nat}{xs p:CM A3}{x y:A3}{Q:A3->A4->Prop}(D:ZipApart z TI TO d f i l2)
  (hz:OH s.heap z TI TO (rawInt T) b) (r:s.heap.get? T=some o) (l:IsPair s.heap TI (.ref d) (.ref f))
  (h1:s.heap.IsListIter d i j) (h2:s.heap.IsListIter f l2 k) (m:s.heap.IsList i xs) (n:s.heap.IsList l2 p) (t:xs[j]?=some x) (u:p[k]?=some y)
  (B:∀h',OH h' z TI TO (rawInt T) true->h'.IsListIter d i (j+1)->h'.IsListIter f l2 (k+1)->IsPair h' s.heap.objs.size x y->h'.objs.size=s.heap.objs.size+1 ->
   (∀c o,c≠z->c≠d->c≠f->s.heap.get? c=some o->h'.get? c=some o)->Q (.ref s.heap.objs.size) { s with heap:=h' }) :
  wpAny (model prog w) A (Builtin.«zip.__next__» ⟨[.ref z],[]⟩) (λfin C=>∃v,fin = .done (.ret v)/\Q v C) E s:=by
 show wpAny _ _ (field (.ref z) 2 >>= _) _ _ _;refine AB (DH hz rfl (x:=.bool false) rfl ?_);show wpAny _ _ (field (.ref z) 3 >>= _) _ _ _;refine AB (DH hz rfl (x:=.ref TI) rfl ?_);refine AB (DB l rfl ?_);show wpAny _ _ (Builtin.SmallTypes.ownedTupleIsFree (.ref z) >>= _) _ _ _;refine AB (Mu hz r λh₁ hz₁ a₁=>?_);show wpAny _ _ (forIn (#[Value.ref d,.ref f]) _ _ >>= _) _ _ _;refine AB ?_;simp only[<-HM,FU,List.forIn_nil];refine AB (AB (BZ ?_));show wpAny _ _ (Builtin.SmallTypes.nextOf (.ref d) >>= _) _ _ _;refine AB (HZ (h1.extBut a₁.extBut D.i1z) (m.extBut a₁.extBut D.l1z) t λh₂ h1₂ a₂=>AG (AG ?_));refine AB (AB (BZ ?_));show wpAny _ _ (Builtin.SmallTypes.nextOf (.ref f) >>= _) _ _ _;refine AB (HZ ((h2.extBut a₁.extBut D.i2z).extBut a₂.extBut D.i12.symm) ((n.extBut a₁.extBut D.l2z).extBut a₂.extBut D.l2i1) u λh₃ h2₃ a₃=>AG (AG (AG ?_)));show wpAny _ _ (newTuple [x,y] >>= _) _ _ _;refine AB (GB ?_);have g:h₃.objs.size=s.heap.objs.size:=by rw[a₃.1,a₂.1,a₁.1]
 refine AG ⟨_,rfl,?_⟩;show Q (.ref h₃.objs.size) _;have F:∀c o,c≠z->c≠d->c≠f->s.heap.get? c=some o->(h₃.push { cls:=.type "tuple",data:=.seq #[x,y] }).get? c=some o:=λc o G H I e=>AE _ (a₃.extBut _ _ I (a₂.extBut _ _ H (a₁.extBut _ _ G e)));have q:=B (h₃.push { cls:=.type "tuple",data:=.seq #[x,y] }) (AE _ (a₃.extBut _ _ D.i2z.symm (a₂.extBut _ _ D.i1z.symm hz₁)))
  (((h1₂.extBut a₃.extBut D.i12)).at λo e=>AE _ e) (h2₃.at λo e=>AE _ e) (by rw[<-g];exact AS _ rfl) (by rw[EE,g]) F
 rw[g];exact q
theorem En{z TI TO d f j l2 T:A2}{b:Bool}{o:Obj}{k l:Nat}{xs m:CM A3}{Q:PySem.Fin->A4->Prop}(v:A.handled=none)(D:ZipApart z TI TO d f j l2)
  (hz:OH s.heap z TI TO (rawInt T) b) (B:s.heap.get? T=some o) (n:IsPair s.heap TI (.ref d) (.ref f))
  (h1:s.heap.IsListIter d j k) (h2:s.heap.IsListIter f l2 l) (g:s.heap.IsList j xs) (p:s.heap.IsList l2 m) (i:xs[k]?=none\/m[l]?=none)
  (y:∀h' e,(∀c o,c≠z->c≠d->c≠f->s.heap.get? c=some o->h'.get? c=some o)->(∃o,h'.get? e=some o/\o.cls = .type "StopIteration")->E (.ref e) { s with heap:=h' }) :
  wpAny (model prog w) A (Builtin.«zip.__next__» ⟨[.ref z],[]⟩) Q E s:=by
 show wpAny _ _ (field (.ref z) 2 >>= _) _ _ _;refine AB (DH hz rfl (x:=.bool false) rfl ?_);show wpAny _ _ (field (.ref z) 3 >>= _) _ _ _;refine AB (DH hz rfl (x:=.ref TI) rfl ?_);refine AB (DB n rfl ?_);show wpAny _ _ (Builtin.SmallTypes.ownedTupleIsFree (.ref z) >>= _) _ _ _;refine AB (Mu hz B λh₁ hz₁ a₁=>?_);show wpAny _ _ (forIn (#[Value.ref d,.ref f]) _ _ >>= _) _ _ _;refine AB ?_;simp only[<-HM,FU,List.forIn_nil];refine AB (AB (BZ ?_));show wpAny _ _ (Builtin.SmallTypes.nextOf (.ref d) >>= _) _ _ _;cases q:xs[k]? with
 | none =>
  exact AB (wpAny_nextOf_list_end v (h1.extBut a₁.extBut D.i1z) (g.extBut a₁.extBut D.l1z) q λh₂ e a₂ r=>y h₂ e (λc o t u _ x=>a₂ _ _ u (a₁.extBut _ _ t x)) r)
 | some x =>
  have C:m[l]?=none:=by rcases i with h | h;rw[q]at h;cases h;exact h
  refine AB (HZ (h1.extBut a₁.extBut D.i1z) (g.extBut a₁.extBut D.l1z) q λh₂ h1₂ a₂=>AG (AG ?_));refine AB (AB (BZ ?_));show wpAny _ _ (Builtin.SmallTypes.nextOf (.ref f) >>= _) _ _ _;exact AB (wpAny_nextOf_list_end v ((h2.extBut a₁.extBut D.i2z).extBut a₂.extBut D.i12.symm) ((p.extBut a₁.extBut D.l2z).extBut a₂.extBut D.l2i1) C λh₃ e a₃ r=>y h₃ e (λc o t u F x=>a₃ _ _ F (a₂.extBut _ _ u (a₁.extBut _ _ t x))) r)
structure SY(z TI TO i1 i2 l1 l2:A2)(xs ys:CM A3)(i:Nat)(h:IJ):Prop where
 own:(IsZip h z TI TO .none/\∃a b,IsPair h TO a b)\/∃(T:A2) (b:Bool) (o:Obj),OH h z TI TO (rawInt T) b/\h.get? T=some o/\T≠z
 ti:IsPair h TI (.ref i1) (.ref i2)
 a1:h.IsListIter i1 l1 i
 a2:h.IsListIter i2 l2 i
 h1:h.IsList l1 xs
 h2:h.IsList l2 ys
theorem SY.at{z TI TO d f g l2 S:A2}{xs l:CM A3}{i:Nat}{h h':IJ}(x:SY z TI TO d f g l2 xs l i h)(k:∀b o,b≠S->h.get? b=some o->h'.get? b=some o)(q:∃o,h'.get? S=some o)(n:S≠z/\S≠TI/\S≠TO/\S≠d/\S≠f/\S≠g/\S≠l2):SY z TI TO d f g l2 xs l i h':=by
 obtain⟨j,r,s,t,u,v,w⟩:=n;refine⟨?_,k _ _ r.symm x.ti,x.a1.at λo e=>k _ o t.symm e,x.a2.at λo e=>k _ o u.symm e,x.h1.at λo e=>k _ o v.symm e,x.h2.at λo e=>k _ o w.symm e⟩;rcases x.own with⟨e,a,b,p⟩ | ⟨T,b,o,e,y,m⟩
 .exact .inl ⟨k _ _ j.symm e,a,b,k _ _ s.symm p⟩
 .by_cases c:T=S
  .obtain⟨A,B⟩:=q;exact .inr ⟨T,b,A,k _ _ j.symm e,by rw[c];exact B,m⟩
  .exact .inr ⟨T,b,o,k _ _ j.symm e,k _ _ c y,m⟩
theorem zHz{z TI TO d f j l2:A2}{xs l:CM A3}{i:Nat}{x y:A3}{Q:A5 A3->A4->Prop}(D:ZipApart z TI TO d f j l2)(st:SY z TI TO d f j l2 xs l i s.heap)(K:xs[i]?=some x)(L:l[i]?=some y)
  (M:∀h',SY z TI TO d f j l2 xs l (i+1) h'->IsPair h' s.heap.objs.size x y->h'.objs.size=s.heap.objs.size+1->(∀c o,c≠z->c≠TO->c≠d->c≠f->s.heap.get? c=some o->h'.get? c=some o)->Q (some (.ref s.heap.objs.size)) { s with heap:=h' }) :
  wpAny (model prog w) A (pyNext (.ref z)) Q E s:=by
 have N:∀{h':IJ},(∀c o,c≠z->c≠TO->c≠d->c≠f->s.heap.get? c=some o->h'.get? c=some o)->h'.IsList j xs/\h'.IsList l2 l/\IsPair h' TI (.ref d) (.ref f):=λk =>
  ⟨st.h1.at λo e=>k _ o D.l1z D.l1TO D.l1i1 D.l1i2 e,st.h2.at λo e=>k _ o D.l2z D.l2TO D.l2i1 D.l2i2 e,k _ _ D.TIz D.TITO D.TIi1 D.TIi2 st.ti⟩
 rcases st.own with⟨e,a,b,p⟩ | ⟨T,b,o,e,v,m⟩
 .have O:=(AZ (AI e)).symm;refine wpAny_pyNext_zip_item D e st.ti p st.a1 st.a2 st.h1 st.h2 K L λh' g S n q r B k=>?_;obtain⟨C,G,H⟩:=N k;exact M h' ⟨.inr ⟨_,false,_,g,r,O⟩,H,n,q,C,G⟩ r B k
 .have h:s.TypeIs (.ref z) "zip":=⟨_,e,rfl⟩;have O:=(AZ (AI e)).symm;have U:=AI v;unfold pyNext;refine AB (ID (EM (name:=Str.ofString "__next__") h F.slot_zip_next (DX F.slot_zip_next h F.entry_zip_next
   (Qb D e v st.ti st.a1 st.a2 st.h1 st.h2 K L λh' g n q r B k=>AG ?_) (F.args_zip_next_1 _))))
  have P:∀c o,c≠z->c≠TO->c≠d->c≠f->s.heap.get? c=some o->h'.get? c=some o:=λc o R _ t u x=>k c o R t u x;obtain⟨C,G,H⟩:=N P;refine M h' ⟨.inr ?_,H,n,q,C,G⟩ r B P;by_cases t:T=d
  .obtain⟨I,J,_⟩:=n;exact⟨T,true,I,g,by rw[t];exact J,m⟩
  by_cases u:T=f
  .obtain⟨I,J,_⟩:=q;exact⟨T,true,I,g,by rw[u];exact J,m⟩
  exact⟨T,true,o,g,k _ _ m t u v,m⟩
theorem zJf{z TI TO g h j l2:A2}{xs l:CM A3}{i:Nat}{Q:A5 A3->A4->Prop}(m:A.handled=none)(D:ZipApart z TI TO g h j l2)(st:SY z TI TO g h j l2 xs l i s.heap)(d:xs[i]?=none\/l[i]?=none)
  (n:∀h',(∀c o,c≠z->c≠TO->c≠g->c≠h->s.heap.get? c=some o->h'.get? c=some o)->Q none { s with heap:=h' }) :
  wpAny (model prog w) A (pyNext (.ref z)) Q E s:=by
 rcases st.own with⟨e,a,b,p⟩ | ⟨T,b,o,e,q,G⟩
 .exact wpAny_pyNext_zip_end m D e st.ti p st.a1 st.a2 st.h1 st.h2 d n
 .have f:s.TypeIs (.ref z) "zip":=⟨_,e,rfl⟩;unfold pyNext;refine AB (ID (EM (name:=Str.ofString "__next__") f F.slot_zip_next (DX F.slot_zip_next f F.entry_zip_next
   (En m D e q st.ti st.a1 st.a2 st.h1 st.h2 d λh' H k r=>?_) (F.args_zip_next_1 _))))
  obtain⟨t,u,v⟩:=r;refine AB (wpAny_isInstance (T := "StopIteration") (b:=true) ⟨t,u,v⟩ isSubtype_stop ?_);exact AG (n _ λc o y _ B C x=>k c o y B C x)
structure PSt(base:Nat)(xs ys:CM A3)(acc:CM A3)(i:Nat)(h:IJ)(ps:A1 (A2×A3×A3)):Prop where
 len:ps.length=i
 acc:acc.toList=ps.map λp=>Value.ref p.1
 get:∀(j:Nat) (p:A2×A3×A3),ps[j]?=some p->xs[j]?=some p.2.1/\ys[j]?=some p.2.2
 at_:∀p∈ps,base<=p.1/\IsPair h p.1 p.2.1 p.2.2
 nd:(ps.map λp=>p.1).Nodup
theorem zHx{R:Result->A4->Prop}{z TI TO C E T l2 S:A2}{xs q:CM A3}{base:Nat}(hh:A.handled=none)(D:ZipApart z TI TO C E T l2)(n:S≠z/\S≠TI/\S≠TO/\S≠C/\S≠E/\S≠T/\S≠l2)(lt:S<base/\z<base/\TO<base/\C<base/\E<base){m:Nat}(m1:m<=xs.size)(m2:m<=q.size)(me:xs[m]?=none\/q[m]?=none)(hn:m<=sizeLine)(res:A3) :
  ∀(k i:Nat) (s:A4) (d:CM A3) (c:Nat) (G:A1 (A2×A3×A3)),m-i=k->i<=m->SY z TI TO C E T l2 xs q i s.heap->s.heap.get? S=some { cls:=.type "list",dict:=none,data:=.seq d c,slots:=#[] }->base<=s.heap.objs.size->PSt base xs q d i s.heap G ->
  (∀h' U g V t,(∀b o,b<base->b≠S->b≠z->b≠TO->b≠C->b≠E->s.heap.get? b=some o->h'.get? b=some o)->h'.get? S=some { cls:=.type "list",dict:=none,data:=.seq g V,slots:=#[] }->PSt base xs q g m h' t->R (.ok (.ret res)) { s with heap:=h',toks:=U }) ->
  codeAny (model prog w) A (.builtin "list.extend.loop" ⟨[.ref S,.ref z,res],[]⟩) R s:=by
 obtain⟨n1,n2,n3,n4,n5,n6,n7⟩:=id n;obtain⟨t1,t2,t3,t4,t5⟩:=lt;have l:∀{a b:Nat},base<=a->b<base->a≠b:=fun{a b} u P=>(AZ (BK P u)).symm;intro k
 induction k with
 | zero =>
  intro i s d c G hk hi v W H f X;have Y:i=m:=by lia
  subst Y;refine FV F.entry_extend_loop ?_;rw[Around.under_plainId F.plain_extend_loop _];show wpAny _ A.in1 (pyNext (.ref z) >>= _) _ _ s;refine AB (zJf hh D v me λh' k=>?_);refine AG (X h' s.toks d c G (λb o _ _ I J K L e=>k b o I J K L e) (k _ _ n1 n3 n4 n5 W) ⟨f.len,f.acc,f.get,λp hp=>?_,f.nd⟩);obtain⟨h,Z⟩:=f.at_ p hp;exact⟨h,k _ _ (l h t2) (l h t3) (l h t4) (l h t5) Z⟩
 | succ k ih =>
  intro i s d c G hk hi v W H f X;have hlt:i<m:=by lia
  have hx:xs[i]?=some (xs[i]'(by lia)):=FQ _;have hy:q[i]?=some (q[i]'(by lia)):=FQ _;generalize (xs[i]'(by lia))=x at hx;generalize (q[i]'(by lia))=y at hy;refine FV F.entry_extend_loop ?_;rw[Around.under_plainId F.plain_extend_loop _];show wpAny _ A.in1 (pyNext (.ref z) >>= _) _ _ s;refine AB (zHz D v hx hy λu st1 pr hsz k1=>?_);have M:=k1 _ _ n1 n3 n4 n5 W;show wpAny _ A.in1 (updateSeq S (·.push (.ref s.heap.objs.size)) >>= _) _ _ _;refine AB ?_;have N:d.size=i:=by have:=congrArg List.length f.acc;rw[AA,f.len,BG]at this;exact this
  refine FW M rfl (AG ⟨plainId_quiet F.plain_extend_loop _,?_⟩) (by rw[N];lia) (by show(d.push (Value.ref s.heap.objs.size)).size<=sizeLine+1;rw[Array.size_push,N];lia);have B:=EC (Obj.mapSeq (·.push (.ref s.heap.objs.size))) M rfl;have Q:∀b o,b≠S->u.get? b=some o->(u.update S (Obj.mapSeq (·.push (.ref s.heap.objs.size)))).get? b=some o:=λb o H e=>(CO _ _ (Ne.symm H)).trans e;have r:(u.update S (Obj.mapSeq (·.push (.ref s.heap.objs.size)))).objs.size=u.objs.size:=(DZ ..).1;generalize u.update S (Obj.mapSeq (·.push (.ref s.heap.objs.size)))=P at B Q r⊢;have O:∀b o,b≠S->b≠z->b≠TO->b≠C->b≠E->s.heap.get? b=some o->P.get? b=some o:=λb o b0 I J K L e=>Q b o b0 (k1 b o I J K L e);refine ih (i+1) _ (d.push (.ref s.heap.objs.size)) _ (G ++ [(s.heap.objs.size,x,y)]) (by lia) hlt (st1.at Q ⟨_,B⟩ n) B (by show base<=P.objs.size;rw[r,hsz];exact Nat.le_succ_of_le H) ⟨by rw[AU,f.len];rfl,by rw[DU,f.acc,AK];rfl,λj p e=>?_,λp hp=>?_,?_⟩ λh' U g V t kk hS' hP'=>?_
  .rcases Nat.lt_or_ge j G.length with c | c
   .rw[DA c]at e;exact f.get j p e
   .rw[CY c]at e;have:j=i:=by have:=(AF.mp e).1;rw[f.len]at this c;simp at this;lia
    subst this;rw[f.len,Nat.sub_self]at e;cases e;exact⟨hx,hy⟩
  .rcases AR.mp hp with hp | hp
   .obtain⟨h,Z⟩:=f.at_ p hp;exact⟨h,O _ _ (l h t1) (l h t2) (l h t3) (l h t4) (l h t5) Z⟩
   .rw[AD.mp hp];exact⟨H,Q _ _ (l H t1) pr⟩
  .rw[AK,EB];refine⟨f.nd,CL.mpr ⟨AY,ER⟩,λa ha b hb'=>?_⟩;obtain⟨p,hp,rfl⟩:=AJ.mp ha;have:=AI (f.at_ p hp).2;rw[AD.mp hb'];exact AZ this
  .exact X h' U g V t (λb o b0 I J K L b5 e=>kk b o b0 I J K L b5 (O b o I J K L b5 e)) hS' hP'
theorem Pd:typeLookup (.type "zip") "__len__" = pure none:=by rw[typeLookup_type,builtinLookup_eq_fast];kernel_rfl
theorem Kp:typeLookup (.type "zip") "__length_hint__" = pure none:=by rw[typeLookup_type,builtinLookup_eq_fast];kernel_rfl
theorem Wa{z:A2}{Q:Bool->A4->Prop}(a:s.TypeIs (.ref z) "zip")(h:Q true s):wpAny (model prog w) A (Builtin.List.listLengthHint (.ref z)) Q E s:=by
 unfold Builtin.List.listLengthHint;refine AB (HL a Pd ?_);show wpAny _ A (specialOf (Value.ref z) (Str.ofString "__length_hint__") >>= _) _ _ _;refine AB (HL a Kp ?_);exact AG h
theorem PR{Q:A3->A4->Prop}{z TI TO u v B l2:A2}{xs C:CM A3}(hh:A.handled=none)(D:ZipApart z TI TO u v B l2)(hz:IsZip s.heap z TI TO .none)(G:IsPair s.heap TO .none .none)(H:IsPair s.heap TI (.ref u) (.ref v))(Y:s.heap.IsListIter u B 0)(Z:s.heap.IsListIter v l2 0)(h1:s.heap.IsList B xs)(h2:s.heap.IsList l2 C){m:Nat}(m1:m<=xs.size)(m2:m<=C.size)(me:xs[m]?=none\/C[m]?=none)(hn:m<=sizeLine)
  (hQ:∀h' x a P i,(∀b o,b≠z->b≠TO->b≠u->b≠v->s.heap.get? b=some o->h'.get? b=some o) ->
   h'.get? s.heap.objs.size=some { cls:=.type "list",dict:=none,data:=.seq a P,slots:=#[] }->PSt (s.heap.objs.size+1) xs C a m h' i->Q (.ref s.heap.objs.size) { s with heap:=h',toks:=x }) :
  wpAny (model prog w) A (call (.type "list") [.ref z]) Q E s:=by
 have I:=AI hz;have k:=AI G;have J:=AI H;have l:u<s.heap.objs.size:=by obtain⟨_,e,_⟩:=Y;exact AI e
 have n:v<s.heap.objs.size:=by obtain⟨_,e,_⟩:=Z;exact AI e
 have K:B<s.heap.objs.size:=by obtain⟨_,e,_⟩:=h1;exact AI e
 have L:l2<s.heap.objs.size:=by obtain⟨_,e,_⟩:=h2;exact AI e
 have d:∀{b:Nat},b<s.heap.objs.size->s.heap.objs.size≠b:=λh=>(AZ h).symm;refine callType_codes (Q₁:=λM s₁=>M = .ref s.heap.objs.size/\s₁ ={ s with heap:=s.heap.push { cls:=.type "list",data:=.seq #[] } }) F.called_list (F.typeCall_list_1 _) F.entry_list_init
  (code_list_new _ ⟨rfl,rfl⟩) λM s₁ h₁=>?_
 obtain⟨rfl,rfl⟩:=h₁;have f:(s.heap.push { cls:=.type "list",data:=.seq #[] }).get? s.heap.objs.size=some { cls:=.type "list",data:=.seq #[] }:=AS _ rfl;refine⟨⟨_,f,rfl⟩,F.args_list_init_2 _ _,?_⟩;have k1:∀b o,s.heap.get? b=some o->(s.heap.push { cls:=.type "list",data:=.seq #[] }).get? b=some o:=λb o e=>AE _ e;have R:(s.heap.push { cls:=.type "list",data:=.seq #[] }).objs.size=s.heap.objs.size+1:=EE ..;show wpAny _ _ (do let S <-Builtin.List.listItems (.ref s.heap.objs.size);Builtin.List.listUpdate (.ref s.heap.objs.size) (λ_=>#[]);letGo S.toList.reverse;Builtin.List.listExtendWith (.ref s.heap.objs.size) (.ref z) .none) _ _ _;refine AB ?_;unfold Builtin.List.listItems;refine AB (DB f rfl (AG ?_));show wpAny _ _ (updateSeq s.heap.objs.size (λ_=>#[]) >>= λ_=>letGo (#[]:CM A3).toList.reverse >>= λ_=>Builtin.List.listExtendWith (.ref s.heap.objs.size) (.ref z) .none) _ _ _;refine AB (FW f rfl ?_);have f₂:=EC (Obj.mapSeq (λ_=>(#[]:CM A3))) f rfl;have O:∀b o,b≠s.heap.objs.size->s.heap.get? b=some o->((s.heap.push { cls:=.type "list",data:=.seq #[] }).update s.heap.objs.size (Obj.mapSeq (λ_=>(#[]:CM A3)))).get? b=some o :=
  λb o q e=>(CO _ _ (Ne.symm q)).trans (k1 b o e)
 have N:((s.heap.push { cls:=.type "list",data:=.seq #[] }).update s.heap.objs.size (Obj.mapSeq (λ_=>(#[]:CM A3)))).objs.size=s.heap.objs.size+1:=(DZ ..).1.trans R;refine AB (HP ?_);generalize (s.heap.push { cls:=.type "list",data:=.seq #[] }).update s.heap.objs.size (Obj.mapSeq (λ_=>(#[]:CM A3)))=y at f₂ O N⊢;have zp:IsZip y z TI TO .none:=O _ _ (d I).symm hz;have hT:∀{x:Nat},Shared.TypeIs { s with heap:=y,toks:=x } (.ref z) "zip":=fun{x}=>⟨_,zp,rfl⟩;unfold Builtin.List.listExtendWith;refine AB (wpAny_typeOf (T := "zip") hT ?_);have e1:Builtin.List.listSameRef (.ref s.heap.objs.size) (.ref z)=false:=by simp[Builtin.List.listSameRef,d I]
 have e2:(Value.type "zip" == Value.type "list")=false:=by decide
 have e3:(Value.type "zip" == Value.type "tuple")=false:=by decide
 simp only[e1,e2,e3,Bool.or_false,A_,CP];refine AB (GV zp ?_);refine AB (BZ (Wa hT ?_));have U:∀{h':IJ},(∀b o,b≠s.heap.objs.size->y.get? b=some o->h'.get? b=some o)->SY z TI TO u v B l2 xs C 0 h':=fun{h'} kk=>by
  have t:∀b o,b<s.heap.objs.size->s.heap.get? b=some o->h'.get? b=some o:=λb o q e=>kk b o (d q).symm (O b o (d q).symm e);exact⟨.inl ⟨t _ _ I hz,_,_,t _ _ k G⟩,t _ _ J H,Y.at λo e=>t _ o l e,Z.at λo e=>t _ o n e,h1.at λo e=>t _ o K e,h2.at λo e=>t _ o L e⟩
 have g:∀{b:Nat},b<s.heap.objs.size->b<s.heap.objs.size+1:=λh=>EA h;have V:∀(h:IJ) (c₁:Nat),(∀b o,b≠s.heap.objs.size->y.get? b=some o->h.get? b=some o)->h.objs.size=s.heap.objs.size+1->h.get? s.heap.objs.size=some { cls:=.type "list",data:=.seq #[] c₁ } ->
   codeAny (model prog w) A.in1 (.builtin "list.extend.loop" ⟨[.ref s.heap.objs.size,.ref z,.none],[]⟩) (wants (λr s₂=>r=Value.none/\Q (.ref s.heap.objs.size) s₂) E) { s with heap:=h }:=by
  intro h c₁ kk sz hc;refine zHx (A:=A.in1) hh D ⟨d I,d J,d k,d l,d n,d K,d L⟩ ⟨FJ _,g I,g k,g l,g n⟩ m1 m2 me hn .none _ 0 _ #[] c₁ [] rfl (CB _) (U kk) hc (HV sz.symm) ⟨rfl,rfl,λj p e=>by simp at e,λp y=>absurd y AY,ER⟩ λh' x a P i k4 W hP=>⟨rfl,?_⟩;exact hQ h' x a P i (λb o b1 b2 b3 b4 e=>k4 b o (g (AI e)) (d (AI e)).symm b1 b2 b3 b4 (kk b o (d (AI e)).symm (O b o (d (AI e)).symm e))) W hP
 refine wpAny_ite_split (λ_=>?_) (λX=>absurd rfl X);refine AB (FD ?_);refine AB ?_;show wpAny _ _ (updateSeq s.heap.objs.size (·.push .none) >>= λ_=>updateSeq s.heap.objs.size (·.pop)) _ _ _;refine AB (FW f₂ rfl ?_);have f₃:=EC (Obj.mapSeq (·.push Value.none)) f₂ rfl;refine FW (hz:=by seq_fits) f₃ rfl ?_;have f₄:=EC (Obj.mapSeq (·.pop)) f₃ rfl;refine AG ⟨plainId_quiet F.plain_extend_loop _,V _ _ (λb o q e=>?_) ?_ f₄⟩
 .exact(CO _ _ (Ne.symm q)).trans ((CO _ _ (Ne.symm q)).trans e)
 .rw[(DZ ..).1,(DZ ..).1];exact N
end
end TS
namespace L2
open PySem PySem.Spec PyProof.Rows
section
variable{X:Cx}{H:Hp}
def TX(H:Hp):A1 (A2×V×V)->Hp
 | []=>H
 | q::l=>IH (TX H l) q.1 (.tup [q.2.1,q.2.2])
theorem Fq{b:A2}:∀{a:A1 (A2×V×V)},b∉a.map (λp=>p.1)->TX H a b=H b
 | [],_=>rfl
 | q::l,h=>by
  rw[BB,AL,not_or]at h;show IH (TX H l) q.1 _ b=_;rw[B5 h.1,Fq h.2]
theorem La:∀{a:A1 (A2×V×V)},(a.map λp=>p.1).Nodup->∀p∈a,TX H a p.1=some (.tup [p.2.1,p.2.2])
 | [],_,p,h=>absurd h AY
 | q::l,b,p,h=>by
  rw[BB,CL]at b;show IH (TX H l) q.1 _ p.1=_;rcases AL.mp h with rfl | h
  .exact B1
  .rw[B5 λe=>b.1 (by rw[<-e];exact AJ.mpr ⟨p,h,rfl⟩)];exact La b.2 p h
theorem Inv.more{a:A1 (A2×Obj)}{σ:St}{H':Hp}{s:A4}{h':IJ}{t':Nat}(I:Inv X a σ H s)(k:∀b u,s.heap.get? b=some u->h'.get? b=some u)(d:∀b,b<s.heap.objs.size->H' b=H b)(g:∀b o,s.heap.objs.size<=b->H' b=some o->IU X.prog X.w H' h' b o):Inv X a σ H' { s with heap:=h',toks:=t' }:=by
 have f:∀b o,H b=some o->H' b=some o:=λb o e=>(d b (I.hok.lt e)).trans e;refine I.un ⟨λb o q _ _ _=>k b o q,λb o q _ _ _=>⟨o.slots,k b o q⟩,λb o q n _=>(d b (AI q)).trans n,λb o q _=>⟨o,k b o q⟩,λb h q=>f _ _ q,λb o u q=>f _ _ q,λb i q=>⟨#[],by rw[f _ _ q];simp⟩⟩ λb o e=>?_;by_cases c:b<s.heap.objs.size
 .rw[d b c]at e;exact(I.hok b o e).stay (λb u _ q=>k b u q) (λb q=>f _ _ q) λb h q=>f _ _ q
 .exact g b o (Nat.le_of_not_lt c) e
def zEs(K:PySem.W.Frag)(h:TA):TE:=λσ H Q=>h σ H λi c=>∃a b f g,i = [.ref a,.ref b]/\IQ K c a f/\IQ K c b g /\
 ∀(e:A1 (A2×V×V)) l d,Cs c d->c l=none->d l=some (.lst (e.map λp=>.ref p.1))->(e.map λp=>p.2)=f.zip g->(∀p∈e,c p.1=none/\d p.1=some (.tup [p.2.1,p.2.2]))->Q (.ref l) d
theorem zCa{a b:IL}{ta:TA}{p g pos d:Pos}(G:X.mg "list" = none)(Y:X.mg "zip" = none)(ha:PA X [a,b] ta)(hc:X.calm=true:=by rfl)(hg:Gl X "list":=by rfl)(Z:Gl X "zip":=by rfl)
  (hs:starEach [a,b] X.env =(false,eval a X.env)::starEach [b] X.env:=by rfl) (hpl:(backTo d (starEach [b] X.env)).any (·.1)=false:=by rfl) (M:starEach [Expr.Call (.Name "zip" g) [a,b] [] d] X.env =(false,eval (.Call (.Name "zip" g) [a,b] [] d) X.env)::starEach [] X.env:=by rfl):PE X (.Call (.Name "list" p) [.Call (.Name "zip" g) [a,b] [] d] [] pos) (zEs X.K ta):=by
 intro N s σ H Q I h;refine EH (W2 I hg G Q5 ?_ (by decide) (by decide));refine callWith_type1 ?_ M rfl;rw[M];refine Calls.spliced_cons ?_;refine Call_ (W2 I Z Y Sq (PyProof.Rows.callWith_type1 (JA (ha d N s σ H _ I h) λus s1 ⟨vs,U,F,r1,l,m,xs,ys,e,hq,hr,q⟩=>?_) hs hpl));subst e;obtain⟨u,v,rfl,ru,rv⟩:=r1.two;cases ru;cases rv;obtain⟨n,rx,pl,hz⟩:=F.list hq;obtain⟨t,ry,pm,hz'⟩:=F.list hr;have a1:l<s1.heap.objs.size:=by obtain⟨_,e,_⟩:=pl.isList;exact AI e
 have a2:m<s1.heap.objs.size:=by obtain⟨_,e,_⟩:=pm.isList;exact AI e
 refine call_zip_2 pl.isList pm.isList λC g1 g2 g3 g4 g5 D k=>Calls.spliced_nil ?_;have lx:=rx.length;have ly:=ry.length;have me:(n.toArray)[min n.length t.length]?=none\/(t.toArray)[min n.length t.length]?=none:=by
  rcases Nat.le_total n.length t.length with h | h
  .exact .inl (by rw[FR h];simp)
  .exact .inr (by rw[Nat.min_eq_right h];simp)
 refine TS.PR (s:={ s1 with heap:=C }) (m:=min n.length t.length) (F.ok.hd hc) (zipApart_new a1 a2) g1 g3 g2 g4 g5 (pl.isList.at λo e=>k _ o e) (pm.isList.at λo e=>k _ o e) (by simp;exact Nat.min_le_left ..) (by simp;exact Nat.min_le_right ..) me (by have:=Nat.min_le_left n.length t.length;lia) λh2 tk O c y k2 hS L=>?_;have kk:∀b o,s1.heap.get? b=some o->h2.get? b=some o:=λb o e=>by
  have lt:=AI e;have W:∀j:Nat,b≠s1.heap.objs.size+j:=λj=>AZ (BK lt (DJ _ _));exact k2 b o (W 4) (W 3) (W 0) (W 1) (k b o e)
 have D:C.objs.size=s1.heap.objs.size+5:=D;have hb:∀p∈y,s1.heap.objs.size<=p.1/\p.1≠C.objs.size:=λp i=>by
  have:=(L.at_ p i).1;have this:C.objs.size+1<=p.1:=this;exact⟨Nat.le_trans (by rw[D];exact DJ _ 6) this,(AZ this).symm⟩
 have OD:=L.len;have lz:(xs.zip ys).length=y.length:=by rw[OD,List.length_zip,lx,ly]
 generalize J:(y.map λp=>p.1).zip (xs.zip ys)=w;have P:(w.map λp=>p.1)=y.map λp=>p.1:=by rw[<-J];exact List.map_fst_zip (by rw[AA,lz];exact Nat.le_refl _)
 have f2:(w.map λp=>p.2)=xs.zip ys:=by rw[<-J];exact List.map_snd_zip (by rw[AA,lz];exact Nat.le_refl _)
 have nd:(w.map λp=>p.1).Nodup:=by rw[P];exact L.nd
 have bp:∀p∈w,∃g∈y,g.1=p.1/\RelV p.2.1 g.2.1/\RelV p.2.2 g.2.2:=λp i=>by
  obtain⟨j,hj⟩:=ED.mp i;rw[<-J,GZ,AH]at hj;obtain⟨j1,E⟩:=hj;obtain⟨g,A,e'⟩:=BF.mp j1;obtain⟨q1,q2⟩:=L.get j g A;rw[show p.2 =(p.2.1,p.2.2)from rfl,GZ]at E;rw[List.getElem?_toArray]at q1 q2;refine⟨g,AM A,e',?_,?_⟩
  .rcases Ax rx j with⟨z,_⟩ | ⟨x,u,z1,z2,r⟩
   .rw[z]at E;cases E.1
   .rw[z1]at E;rw[z2]at q1;cases E.1;cases q1;exact r
  .rcases Ax ry j with⟨z,_⟩ | ⟨x,u,z1,z2,r⟩
   .rw[z]at E;cases E.2
   .rw[z1]at E;rw[z2]at q2;cases E.2;cases q2;exact r
 have R:s1.heap.objs.size<=C.objs.size:=by rw[D];exact DJ ..
 have Sn:C.objs.size∉w.map λp=>p.1:=λG=>by
  rw[P]at G;obtain⟨p,i,e⟩:=AJ.mp G;exact(hb p i).2 e
 have S:∀b,b<s1.heap.objs.size->b∉w.map λp=>p.1:=λb B G=>by
  rw[P]at G;obtain⟨p,i,e⟩:=AJ.mp G;have:=(hb p i).1;rw[e]at this;exact absurd B (Nat.not_lt.mpr this)
 have fr:∀p∈w,U p.1=none:=λp i=>by
  obtain⟨g,A,e,_⟩:=bp p i;exact F.hok.fresh (by rw[<-e];exact(hb g A).1)
 have hv:IR (w.map λp=>V.ref p.1) O.toList:=by
  rw[L.acc,show(w.map λp=>V.ref p.1) =(w.map λp=>p.1).map V.ref by rw[BV];rfl,P,BV];generalize y=l
  induction l with
  | nil=>exact .nil
  | cons p l ih=>exact .cons rfl ih
 have hl:U C.objs.size=none:=F.hok.fresh R;have T:∀b,b<s1.heap.objs.size->IH (TX U w) C.objs.size (.lst (w.map λp=>V.ref p.1)) b=U b:=λb B=>by
  rw[B5 (AZ (BK B R)),Fq (S b B)]
 refine⟨.ref C.objs.size,_,F.more (t':=tk) kk T λb o B e=>?_,rfl,q w _ _ (λb o e=>(T b (F.hok.lt e)).trans e) hl B1 f2 λp i=>⟨fr p i,?_⟩⟩
 .by_cases c1:b=C.objs.size
  .subst c1;rw[B1]at e;cases e;exact⟨by rw[AA,<-AA (f:=λp:A2×V×V=>p.1),P,AA,OD];have:=Nat.min_le_left n.length t.length;lia,O.toList,c,hv,by simpa using hS⟩
  rw[B5 c1]at e;by_cases c2:b∈w.map λp=>p.1
  .obtain⟨p,i,rfl⟩:=AJ.mp c2;rw[La nd p i]at e;cases e;obtain⟨g,A,e',r1,r2⟩:=bp p i;have ip:=(L.at_ g A).2;rw[e']at ip;exact⟨by show 2<=sizeLine;decide,[g.2.1,g.2.2],.cons r1 (.cons r2 .nil),⟨_,ip,rfl,_,rfl⟩⟩
  .rw[Fq c2,F.hok.fresh B]at e;cases e
 .rw[B5 λe=>Sn (by rw[<-e];exact AJ.mpr ⟨p,i,rfl⟩)];exact La nd p i
theorem Yv{a b:IL}{i:TA}{p d pos c:Pos}(K:PySem.W.Frag)(j:X.mg "list" = none)(e:X.mg "zip" = none)(k:PA X [a,b] i)(l:X.calm=true:=by rfl)(m:Gl X "list":=by rfl)(f:Gl X "zip":=by rfl)
  (n:starEach [a,b] X.env =(false,eval a X.env)::starEach [b] X.env:=by rfl) (g:(backTo c (starEach [b] X.env)).any (·.1)=false:=by rfl) (h:starEach [Expr.Call (.Name "zip" d) [a,b] [] c] X.env =(false,eval (.Call (.Name "zip" d) [a,b] [] c) X.env)::starEach [] X.env:=by rfl) (o:X.K=K:=by rfl):PE X (.Call (.Name "list" p) [.Call (.Name "zip" d) [a,b] [] c] [] pos) (zEs K i):=by subst o;exact zCa j e k l m f n g h
end
def U0{α:Type}(a:A1 Nat)(xs:A1 α):A1 α:=a.filterMap λk=>xs[k]?
def r8(n:Nat)(lo hi st:A5 Int):A1 Nat:=sliceRange (sliceBounds lo hi st n).1 (sliceBounds lo hi st n).2.1 (sliceBounds lo hi st n).2.2
def Er{α:Type}{xs:A1 α}:∀{a:A1 Nat},(∀r∈a,r<xs.length)->∀j:Nat,(U0 a xs)[j]?=a[j]?.bind λk=>xs[k]?
 | [],_,j=>rfl
 | r::a,h,j=>by
  have e:=AC (h r (.head _));unfold U0;rw[DC e];cases j with
  | zero=>exact e.symm
  | succ j=>exact Er (λr b=>h r (.tail _ b)) j
def w5{xs:A1 V}{us:A1 A3}(r:IR xs us):∀l:A1 Nat,IR (U0 l xs) (U0 l us)
 | []=>.nil
 | k::l=>by
  unfold U0;rcases Ax r k with⟨a,b⟩ | ⟨x,u,a,b,c⟩
  .rw[E_ a,E_ b];exact w5 r l
  .rw[DC a,DC b];exact .cons c (w5 r l)
def zJe(K:PySem.W.Frag)(e:TE)(f g ts:TO):TE:=λσ H Q=>e σ H λx h=>f σ h λl i=>g σ i λu j=>ts σ j λc d=>c≠some 0/\∃a b,x = .ref a/\IQ K d a b/\(U0 (r8 b.length l u c) b).length<=sizeLine/\∀p,d p=none->Q (.ref p) (IH d p (.lst (U0 (r8 b.length l u c) b)))
def Ja{X:Cx}(K:PySem.W.Frag){e:IL}{p:TE}{lo hi:A5 IL}{st:IL}{t y ts:TO}{pos p2:Pos}(B:PE X e p)(C:PO X lo t)(D:PO X hi y)(i:PO X (some st) ts)(E:X.K=K:=by rfl):PE X (.Subscript e (.Slice lo hi (some st) p2) pos) (zJe K p t y ts):=by
 subst E;intro d s σ H Q I h;refine Subscript_ (JA (B d s σ H _ I h) λv F ⟨x,G,J,L,M⟩=>?_);refine wpAny_Slice (JA (C d F σ G _ J M) λj N ⟨l,O,P,R,S⟩=>?_);refine JA (D d N σ O _ P S) λvu T ⟨u,U,V,Y,Z⟩=>JA (i d T σ U _ V Z) λk s4 ⟨c,H4,I4,ps,hc,a,m,ex,hx,hn,q⟩=>?_;subst ex;cases L;have n:Inv X d σ H4 { s4 with heap:=s4.heap.push { cls:=.type "slice",data:=.fields #[j,vu,k] } }:=I4.kept (t':=s4.toks) λb ob q=>AE _ q;obtain⟨f,r,z,hz⟩:=n.list hx;have g:=r.length;have hg:wpAny (model X.prog X.w) X.A (getItem (.ref a) (.ref s4.heap.objs.size)) (EP X d σ Q) X.xe { s4 with heap:=s4.heap.push { cls:=.type "slice",data:=.fields #[j,vu,k] } }:=by
  refine wpAny_getItem_list_slice z.isList (Heap.IsSliceOf.new ..) R Y ps hc ?_ (by rw[AQ]<;>lia);have es:slicePick f.toArray l u c =(U0 (r8 m.length l u c) f).toArray:=by
   unfold slicePick U0 r8;rw[AQ,<-g];congr 1;simp
  rw[es];refine⟨.ref _,_,n.laid (t':=s4.toks) (o:=.lst (U0 (r8 m.length l u c) m)) (λb ob q=>AE _ q) (Nat.le_refl _) ?_,rfl,q _ (n.hok.fresh (Nat.le_refl _))⟩;exact⟨hn,_,0,w5 r _,AS _ rfl⟩
 show wpAny (model X.prog X.w) X.A (subscriptTail e (.Slice lo hi (some st) p2) (.ref a) (.ref s4.heap.objs.size)) (EP X d σ Q) X.xe { s4 with heap:=s4.heap.push { cls:=.type "slice",data:=.fields #[j,vu,k] } };exact tail_any (ops:=[.ref a,.ref s4.heap.objs.size]) z.isList.typeIs slot_list_getitem.lookup hg (by with_unfolding_all rfl)
def zJo(K:PySem.W.Frag)(b c:TE):TE:=λσ H Q=>b σ H λx a=>∃k,zGc K x a k/\if k=true then Q x a else c σ a Q
section
variable{X:Cx}{a b:IL}{rest:A1 IL}{pos:Pos}
theorem zDl{K:PySem.W.Frag}{i f:TE}(n:PE X a i)(o:PE X (.BoolOp .Or (b::rest) pos) f)(p:X.K=K:=by rfl):PE X (.BoolOp .Or (a::b::rest) pos) (zJo K i f):=by
 subst p;intro d s σ H Q I h;refine BoolOp_or (JA (n d s σ H _ I h) λv q ⟨x,r,t,j,g⟩=>?_);obtain⟨k,u,g⟩:=g;have:=Zd d q σ r x v (λc e=>if c=true then Q x e else f σ e Q) t j ⟨k,u,g⟩;refine JA this λc w ⟨e,l,m⟩=>?_;cases c with
 | true=>exact⟨x,e,l,j,m⟩
 | false=>exact o d w σ e Q l m
end
end L2
namespace Sw
open PySem L2
def KM(i:Nat):IV:=PySem.Challenge.pw_strikeweave_k34_asked_by_turns.main.body.getD i (.Pass ⟨0,0,0,0⟩)
abbrev QF:IV:=KM 10
abbrev OQ:IV:=KM 11
abbrev MM:IV:=KM 12
abbrev MI:IV:=KM 13
abbrev OT:IV:=KM 14
abbrev QG:IV:=KM 15
abbrev LH:IV:=KM 16
abbrev MV:IV:=KM 17
abbrev LJ:IV:=KM 18
abbrev MD:IV:=KM 20
abbrev MK:IV:=KM 21
abbrev MF:IV:=KM 22
abbrev NH:IV:=KM 23
abbrev ME:IV:=KM 24
abbrev PX:IV:=KM 25
abbrev PM:IV:=KM 26
abbrev LG:IV:=KM 27
abbrev LK:IV:=KM 28
abbrev KZ:IV:=KM 29
abbrev NU:IV:=KM 30
abbrev NW:IV:=KM 31
abbrev NV:IV:=KM 32
abbrev OS:IV:=KM 33
abbrev PZ:IV:=KM 38
abbrev NK:IV:=KM 39
abbrev MN:IV:=KM 40
abbrev OP:IV:=KM 41
abbrev PY:IV:=KM 43
abbrev PL:IV:=KM 44
abbrev PK:IV:=KM 45
abbrev OM:IV:=KM 46
abbrev PH:IV:=KM 47
abbrev NJ:IV:=KM 48
abbrev PJ:IV:=KM 49
abbrev MJ:IV:=KM 50
abbrev PF:IV:=KM 51
abbrev ON:IV:=KM 52
abbrev K_:IV:=KM 53
abbrev OO:IV:=KM 54
abbrev LV:IV:=N9 (KM 9) 0
abbrev MQ:IV:=N9 (KM 9) 1
abbrev LU:IV:=N9 (KM 9) 2
abbrev LA:IV:=N9 (KM 9) 3
abbrev MY:IV:=N9 (KM 9) 4
abbrev LN:IV:=N9 (KM 9) 5
abbrev KU:IV:=N9 (KM 9) 6
abbrev KS:IV:=N9 (KM 9) 7
abbrev NZ:IV:=N9 (KM 9) 8
abbrev MX:IV:=N9 (KM 37) 0
abbrev MP:IV:=N9 (KM 37) 1
abbrev NY:IV:=N9 (KM 37) 2
abbrev MW:IV:=N9 (KM 37) 3
abbrev NX:IV:=N9 (KM 37) 4
abbrev MO:IV:=N9 (KM 37) 5
def Gg:Str:=("best_split":Str) ++ ".<locals>." ++ "<lambda>"
def B9:A1 (Pos×Str):=[(⟨154,27,154,74⟩,Gg)]
set_option genInjectivity false in
structure Tx(K:PySem.W.Frag)(mg:Str->A5 A3) where
 bl:Fn K mg "joined" QF ["sets"]
 az:Fn K mg "first_bit" OQ ["some"]
 aY:Fn K mg "greatest_sets" MM ["web"]
 aZ:Fn K mg "outright_sets" MI ["web"]
 ap:Fn K mg "all_found" OT ["web", "settle", "greatest"]
 an:Fn K mg "gather" QG ["marks", "settle", "greatest", "chosen", "barred", "found"]
 aJ:Fn K mg "settle_standing" LH ["marks", "chosen", "barred"]
 aD:Fn K mg "settle_whole" MV ["marks", "chosen", "barred"]
 aq:Fn K mg "settle_outright" LJ ["marks", "chosen", "barred"]
 aF:Fn K mg "standing_with" MD ["web", "some"]
 aG:Fn K mg "greatest_with" MK ["web"]
 aH:Fn K mg "outright_with" MF ["web"]
 as:Fn K mg "tree_beside" NH ["web", "splits_at", "sets"]
 ao:Fn K mg "standing_from" ME ["marks", "held"]
 av:Fn K mg "tree_at" PX ["marks", "splits_at", "sets", "held", "known"]
 aK:Fn K mg "clash_at" PM ["marks", "held"]
 al:Fn K mg "standing_splits" LG ["marks", "sets", "held"]
 ar:Fn K mg "outright_splits" LK ["marks", "sets", "held"]
 aA:Fn K mg "best_split" KZ ["marks", "held", "splits"]
 bO:A2
 aa:A2
 bq:TabAt K mg bO aa
 bE:aA.fd.code = .ref bO
 a9:Fn K mg "split_cost" NU ["marks", "held", "added"]
 aM:Fn K mg "answers_at" NW ["marks", "held"]
 aB:Fn K mg "beyonds_at" NV ["marks", "sets", "held"]
 bd:Fn K mg "covers_at" OS ["marks", "held"]
 bm:Fn K mg "is_name" PZ ["thing"]
 a6:Fn K mg "check_names" NK ["names"]
 a0:Fn K mg "check_strikes" MN ["names", "strikes"]
 be:Fn K mg "is_strike" OP ["names", "thing"]
 bg:Fn K mg "_law_mix" PY ["_law_cell", "_law_k"]
 ba:Fn K mg "_law_left" PL ["_law_script", "_law_k"]
 am:Fn K mg "_law_pick" PK ["_law_left_here", "_law_many"]
 bf:Fn K mg "_law_names" OM ["_law_left_here", "_law_many"]
 bh:Fn K mg "_law_size" PH ["_law_left_here"]
 aV:Fn K mg "_law_strikes" NJ ["_law_left_here", "_law_names_here"]
 ax:Fn K mg "_law_same" PJ ["_law_found", "_law_due"]
 a1:Fn K mg "_law_web_drawn" MJ ["_law_left_here", "_law_most"]
 bi:Fn K mg "_law_some" PF ["_law_left_here", "_law_names_here"]
 aE:Fn K mg "_law_asked" ON ["_law_web", "_law_way", "_law_some_here"]
 aQ:Fn K mg "_law_spoilt_lists" K_ ["_law_found"]
 ab:A2
 ac:RN K ab
 bn:mg "Marks" = some (.ref ab)
 aS:JV K ab "names"
 au:JV K ab "full"
 bb:JV K ab "bit_of"
 aL:JV K ab "strikers_of"
 bj:JV K ab "struck_of"
 a3:JV K ab "loops"
 a5:A2
 a4:IS
 bv:QD K "__init__" "Marks.__init__" LV a5 a4
 aT:Binds K a4 ["self", "web"] []
 bo:Mk K ab a5
 ad:Mt K ab "bits_in" "Marks.bits_in" MQ ["self", "some"]
 ai:Mt K ab "names_in" "Marks.names_in" LU ["self", "some"]
 aj:Mt K ab "first_name" "Marks.first_name" LA ["self", "some"]
 ay:Mt K ab "set_of" "Marks.set_of" MY ["self", "some"]
 ae:Mt K ab "struck_by" "Marks.struck_by" LN ["self", "some"]
 af:Mt K ab "strikers_at" "Marks.strikers_at" KU ["self", "some"]
 ah:Mt K ab "unstruck_by" "Marks.unstruck_by" KS ["self", "some"]
 aW:Mt K ab "kept" "Marks.kept" NZ ["self", "some"]
 ag:A2
 aC:RN K ag
 bw:mg "Web" = some (.ref ag)
 a2:JV K ag "names"
 bs:JV K ag "strikes"
 aR:JV K ag "strikers_by_name"
 aU:JV K ag "struck_by_name"
 bB:A2
 bA:IS
 bC:QD K "__init__" "Web.__init__" MX bB bA
 bc:Binds K bA ["self", "names", "strikes"] []
 bx:Mk K ag bB
 aN:Mt K ag "all_names" "Web.all_names" MP ["self"]
 bP:Mt K ag "all_strikes" "Web.all_strikes" NY ["self"]
 aO:Mt K ag "strikers" "Web.strikers" MW ["self", "name"]
 aX:Mt K ag "struck" "Web.struck" NX ["self", "name"]
 aw:Mt K ag "check_has" "Web.check_has" MO ["self", "name"]
 bF:∃t,mg "MOST" = some (.int 300 t)
 bM:∃t,mg "LETTERS" = some (.str "abcdefghijklmnopqrstuvwxyz" t)
 bD:∃t,mg "LONGEST_NAME" = some (.int 8 t)
 aP:mg "len" = none
 bp:mg "range" = none
 a7:mg "enumerate" = none
 bz:mg "zip" = none
 bG:mg "min" = none
 bN:mg "max" = none
 br:mg "sum" = none
 bH:mg "abs" = none
 bk:mg "sorted" = none
 bI:mg "int" = none
 bt:mg "str" = none
 bu:mg "bool" = none
 aI:mg "list" = none
 a8:mg "tuple" = none
 bJ:mg "set" = none
 ak:mg "isinstance" = none
 bK:mg "all" = none
 bL:mg "any" = none
 bQ:mg "ValueError" = none
end Sw
namespace L2
open PySem
def KO{N b:A1 Str}{a:JN}(h1:a.kind = .function:=by rfl)(h2:a.isCoroutine=false:=by rfl)(c:a.isGenerator=false:=by rfl)(d:N.Nodup:=by decide +kernel)(e:N.take b.length=b:=by rfl)(f:∀x∈b,a.names.lookup x=some .local\/a.names.lookup x=some .cell:=by decide +kernel)(g:∀y∈a.names,y.2≠ .free:=by decide +kernel):II N b a:=⟨h1,h2,c,d,e,f,g⟩
def Rm{j k:Nat}{A:IM}(h:JQ k A)(e:j<=k:=by decide):JQ j A:=h.mono e
def w9{J:It}{xs:A1 V}{a:A2}{d:Hp}(as:LY J xs a d){g:TG}{e:TS}{D:Ends}{σ:St}{H:Hp}(Pv:Nat->St->Hp->Prop)(h:Pv 0 σ H)(j:∀i σ H,i<=xs.length->Pv i σ H->KJ a d H)
  (k:∀i σ H x,xs[i]?=some x->Pv i σ H->∀b:Ends,(∀σ' H',Pv (i+1) σ' H'->b.nx σ' H')->b.rt=D.rt->g x σ H λσ2 c=>e b σ2 c) (l:∀σ H,Pv xs.length σ H->D.nx σ H) :
  ∃W:Nat->Nat->St->Hp->Prop,(∃m,W 0 m σ H)/\∀i m σ H,W i m σ H ->
   (J.stop i H/\D.nx σ H)\/(J.go i H/\∃N:St->Hp->Prop,(∀σ' H',N σ' H'->∃f,f < m/\W (i+1) f σ' H')/\∀x H',J.yld i H x H'->g x σ H' λσ2 c=>e { D with nx:=N,ct:=N,bk:=D.nx } σ2 c) :=
 Yk as Pv h j (λi σ H x n o=>k i σ H x n o _ (λ_ _ z=>z) rfl) l
def X7{lo:Int}{n:Nat}{g:TG}{c:TS}{D:Ends}{σ:St}{H:Hp}(Pv:Nat->St->Hp->Prop)(e:Pv 0 σ H)
  (f:∀i σ H,i<n->Pv i σ H->∀a:Ends,(∀σ' H',Pv (i+1) σ' H'->a.nx σ' H')->a.rt=D.rt->g (.int (lo+i)) σ H λσ2 b=>c a σ2 b) (h:∀σ H,Pv n σ H->D.nx σ H) :
  ∃W:Nat->Nat->St->Hp->Prop,(∃m,W 0 m σ H)/\∀i m σ H,W i m σ H ->
   ((SF lo n).stop i H/\D.nx σ H)\/((SF lo n).go i H/\∃N:St->Hp->Prop,(∀σ' H',N σ' H'->∃d,d < m/\W (i+1) d σ' H')/\∀x H',(SF lo n).yld i H x H'->g x σ H' λσ2 b=>c { D with nx:=N,ct:=N,bk:=D.nx } σ2 b) :=
 Ta Pv e (λi σ H j k=>f i σ H j k _ (λ_ _ z=>z) rfl) h
def A6{α:Type}{A C:α->Prop}{a:α}(e:A a)(h:C a):∃v,A v/\C v:=⟨a,e,h⟩
def q9{α0 α1 α2:Type}{d e f g h i:α0->α1->α2->Prop}{a:α0}{b:α1}{c:α2}(j:d a b c)(h1:e a b c)(h2:f a b c)(k:g a b c)(l:h a b c)(m:i a b c):∃a b c,d a b c/\e a b c/\f a b c/\g a b c/\h a b c/\i a b c:=⟨a,b,c,j,h1,h2,k,l,m⟩
def zCe{α0 α1 α2 α3 α4 α5:Type}{g h i j k l m n:α0->α1->α2->α3->α4->α5->Prop}{a:α0}{b:α1}{c:α2}{d:α3}{e:α4}{f:α5}(o:g a b c d e f)(h1:h a b c d e f)(h2:i a b c d e f)(p:j a b c d e f)(q:k a b c d e f)(r:l a b c d e f)(s:m a b c d e f)(t:n a b c d e f):∃a b c d e f,g a b c d e f/\h a b c d e f/\i a b c d e f/\j a b c d e f/\k a b c d e f/\l a b c d e f/\m a b c d e f/\n a b c d e f:=⟨a,b,c,d,e,f,o,h1,h2,p,q,r,s,t⟩
def C0{α0 α1:Type}{c d e:α0->α1->Prop}{a:α0}{b:α1}(f:c a b)(h1:d a b)(h2:e a b):∃a b,c a b/\d a b/\e a b:=⟨a,b,f,h1,h2⟩
def B6{t u:TS}{D:Ends}{σ:St}{H:Hp}(h:∀N:St->Hp->Prop,(∀σ' H',u D σ' H'->N σ' H')->t { D with nx:=N } σ H):zFx t u D σ H:=h _ λ_ _ z=>z
def We{i:Nat}{v:V}{t u:TS}{D:Ends}{σ:St}{H:Hp}(h:∀N:St->Hp->Prop,(∀σ' H',u D σ' H'->N σ' H')->t { D with nx:=N } (σ.set i (some v)) H):W8 i v σ H (λσ2 a=>zFx t u D σ2 a):=h _ λ_ _ z=>z
end L2
namespace Sw
open PySem L2
section
variable{P:A7}{w:F8}{K:PySem.W.Frag}{mg:Str->A5 A3}{base:IJ}
def Zg(c:Nat):Bool:=decide (97<=c)&&decide (c<=122)
def P5(x:Str):Bool:=decide (1<=x.length)&&decide (x.length<=8)&&x.cps.toList.all Zg
theorem Kh:("abcdefghijklmnopqrstuvwxyz":Str).cps.toList=List.range' 97 26:=by decide +kernel
theorem zAs(c:Nat):decide (c∈("abcdefghijklmnopqrstuvwxyz":Str).cps.toList)=Zg c:=by
 rw[Kh];unfold Zg;by_cases a:97<=c
 .by_cases b:c<=122
  .rw[AX (List.mem_range'_1.mpr (by lia)),AX a,AX b];rfl
  .rw[BC (λz=>by have:=List.mem_range'_1.mp z;lia),BC b,HX]
 .rw[BC (λz=>by have:=List.mem_range'_1.mp z;lia),BC a,EQ]
theorem Pk:II ["thing"] ["thing"] (B7 PZ):=KO
def Ot:Sp:=λb H Q _=>∃x,b = [.str x]/\x.length<=1000/\∀a,Cs H a->Q (.bl (P5 x)) a
theorem Pp(T:Tx K mg):IK P w K mg base IY 1 T.bm.f T.bm.fd ["thing"] Ot:=by
 refine T.bm.F.o1 Pk λr A b s H B Q E C h=>?_
 .obtain⟨x,rfl,G,k⟩:=h;refine⟨_,(B3 (J7 (PW.pt (Ij (W7 (Q2 (I9 (P1 K) T.ak C6 (A8 (pv 0) (A8 (Y5 T.bt Lr) B2))))) (Af (W7 (Vc zDn zDn B8 (I9 Hc T.aP U3 (A8 (pv 0) B2)) (zBr T.bD)))))) (B4 (C1 Cm)) C3)
   (B4 (C1 (I9 (Ym K) T.bK Xw (A8 (U1 (N':=["letter"]) (cap:=[none]) (cl:=[]) (Q1 trivial trivial) rfl (zDv (pv 0)) (λ_ _ _ _=>by exact⟨(NR 0),J9,(R0 Qe (pv 0) (zGs T.bM) rfl)⟩)) B2))))),?_⟩
  have d:x.length<=sizeLine:=by rw[sizeLine_eq];lia
  have m:x.cps.size=x.length:=rfl;refine A6 rfl ⟨.str x, "str",_,true,rfl,.str x,rfl,A6 rfl ?_⟩;refine i7 ?_;refine A6 rfl ⟨x,rfl,d,C0 rfl rfl (A6 rfl ?_)⟩;refine Q3 (λa=>?_) (λa=>?_)
  .have a:(1:Int)<=(x.length:Int):=BJ a;refine C0 rfl rfl (A6 rfl ?_);by_cases o:(x.length:Int)<=8
   .rw[AX o];refine i7 ?_;refine A6 rfl ⟨x,rfl,λD p=>?_⟩;refine Ce (n:=x.cps.size) (λi σ g=>(∃v,σ = [v])/\Cs H g/\g D=some (.lst ((x.cps.toList.take i).map λc=>V.bl (Zg c)))) ⟨⟨_,rfl⟩,Cs.new p,B1⟩ (λi _ _ q _=>q) (λ_ _ _=>rfl) ?_ ?_
    .rintro i σ t v g N q ⟨⟨I,rfl⟩,j,l⟩ ⟨rfl,c,u,rfl⟩ y;refine Ef ?_;refine A6 rfl (C0 rfl rfl ⟨_,l,?_,?_⟩)
     .rw[AA,AW,sizeLine_eq];lia
     .rw[PySem.StrLaws.found_one,zAs];refine y _ _ ⟨⟨_,rfl⟩,j.upd p,?_⟩;rw[B1];have:x.cps.toList[i]?=some c:=by rw[BU];exact u
      rw[List.take_add_one,this,AK];rfl
    .rintro σ t ⟨_,j,l⟩;refine⟨D,x.cps.toList.map Zg,rfl,IQ.of ?_,?_⟩
     .rw[l,<-BG,CK,BV];rfl
     .have e:(x.cps.toList.map Zg).all id=P5 x:=by
       unfold P5;rw[AX (show 1<=x.length by lia),AX (show x.length<=8 by lia),List.all_map];rfl
      rw[e];exact k _ j
   .rw[BC o];refine Fw ?_;have e:P5 x=false:=by
     unfold P5;rw[BC (show ¬x.length<=8 by lia),HX,EQ]
    have:=k H (Cs.refl H);rw[e]at this;exact this
  .have a:¬(1:Int)<=(x.length:Int):=λz=>a (AX z);refine A6 rfl ?_;refine Fw ?_;have e:P5 x=false:=by
    unfold P5;rw[BC (show ¬1<=x.length by lia),EQ,EQ]
   have:=k H (Cs.refl H);rw[e]at this;exact this
theorem I7{α:Type}{l:A1 α}{i:Nat}{x:α}(h:l[i]?=some x):l.take (i+1)=l.take i ++ [x]:=by
 rw[List.take_add_one,h];rfl
theorem Dx{α:Type}{l:A1 α}{i:Nat}{x:α}(a:l.Nodup)(h:l[i]?=some x):x∉l.take i:=by
 intro b;obtain⟨j,c,e⟩:=DN b;have d:j<i:=by rw[AW]at c;lia
 rw[List.getElem_take]at e;obtain⟨g,f⟩:=AF.mp h;have:=(List.getElem_inj a).mp (e.trans f.symm);lia
theorem KF:II ["names", "seen", "place", "name"] ["names"] (B7 NK):=KO
def KC(a:A1 Str):Prop:=(∀x∈a,P5 x=true)/\a.Nodup/\a.length<=100
def Cz(K:PySem.W.Frag):Sp:=λc H Q _=>∃(p:A2) (a:A1 Str),c = [.ref p]/\IQ K H p (a.map V.str)/\KC a/\∀b,Cs H b->Q .non b
theorem Rw{x:Str}(h:P5 x=true):1<=x.length/\x.length<=8:=by
 unfold P5 at h;rw[BT,BT]at h;exact⟨BJ h.1.1,BJ h.1.2⟩
theorem Df(T:Tx K mg):IK P w K mg base IY 2 T.a6.f T.a6.fd ["names"] (Cz K):=by
 refine T.a6.F.o1 KF λU A C s H Z Q E J h=>?_
 .obtain⟨a,b,rfl,r,⟨V,W,hL⟩,k⟩:=h;have hu:=Y7 J;refine⟨_,(B3 (C2 (i:=1) KF.nd rfl (.inl rfl) (Dr (Zn P w) (by rfl) T.bJ Yb))
   (B4 (U2 PassesOwn.never rfl (piE K T.a7 (A8 (pv 0) B2)) (RB K (n:=2) (C9 (D6 (i:=2) KF.nd rfl (.inl rfl)) (C9 (D6 (i:=3) KF.nd rfl (.inl rfl)) O7)))
   (B3 (J7 (PW.pt (Ij (W7 (Q2 (C7 T.bm (Pp T) (Rm J) (A8 (pv 3) B2)))) (Af (C8 (zHd P w) (pv 3) (pv 1) rfl)))) (B4 q0) C3)
   (B4 (E2 (Ys P w (zFt P w) (pv 1) (A8 (pv 3) B2)))))))),?_⟩
  refine⟨rfl,λp L=>?_⟩;have M:Cs H (IH H p (Pu P w p [])):=Cs.new L;refine A6 rfl ⟨a,A6 rfl ⟨(M.at a).seqL r,Zw (n:=b.length) (λi σ g=>∃l m,σ = [some (.ref a),some (.ref p),l,m]/\Cs H g/\g p=some (Pu P w p ((b.take i).map Sum.inr))) ⟨_,_,rfl,M,B1⟩ ?_ ?_ ?_ ?_⟩⟩
  .rintro i σ g u ⟨l,m,rfl,c,o⟩;exact⟨_,_,(c.at a).seqL r,by rw[AH,AC u];rfl⟩
  .rintro σ g ⟨l,m,rfl,c,o⟩;exact⟨_,(c.at a).seqL r,by rw[AA]⟩
  .rintro i σ g v H' u ⟨l,m,rfl,c,o⟩ ⟨t,x,rfl,N,rfl,B⟩;have B:=B _ ((c.at a).seqL r);have j:b[i]?=some b[i]:=AC u;rw[AH,j]at B;cases B;have X:b[i]∈b:=FM u;have q:=V _ X;have O:=Rw q;have D:p≠t:=A9 o N;refine⟨t,A6 rfl ⟨JH.of B1,rfl,_,A6 rfl (C0 rfl rfl ?_)⟩⟩;refine A6 rfl ⟨b[i],rfl,by lia,λR S=>⟨_,rfl,?_⟩⟩;rw[q];refine i7 ?_;have G:Cs H R:=(c.trans (Cs.new N)).trans S;have I:R p=some (Pu P w p ((b.take i).map Sum.inr)):=S _ _ (by rw[B5 D];exact o);have d:¬(Sum.inr b[i]:IZ)∈(b.take i).map Sum.inr:=λz=>by
    obtain⟨y,Y,e⟩:=AJ.mp z;cases e;exact Dx W j Y
   refine A6 rfl (A6 rfl ⟨p,_,Sum.inr b[i],rfl,rfl,I,A6 rfl ?_⟩);rw[AN (by decide),BC d];refine i7 ?_;refine A6 rfl ⟨⟨p,rfl,.inl ⟨_,I⟩⟩,A6 rfl ⟨p,_,Sum.inr b[i],rfl,rfl,I,?_,?_⟩⟩
   .rw[AA,AW];lia
   .refine⟨_,A6 rfl ⟨G.upd L,?_⟩⟩;rw[B1];unfold zGd;rw[AN d,I7 j,AK];rfl
  .rintro σ g ⟨l,m,rfl,c,o⟩;exact k g c
end
def Gi(a:A1 Str):(a.map V.str).all Fe=true:=by
 rw[FK];intro v b;obtain⟨x,_,rfl⟩:=AJ.mp b;rfl
def Sj(x:Str)(a:A1 Str):inV (.str x) (a.map V.str)=decide (x∈a):=by
 unfold inV;rw[List.any_map]
 induction a with
 | nil=>rfl
 | cons y r b =>
  rw[GN,b];show((y == x)||decide (x∈r))=decide (x∈y::r);by_cases e:x=y
  .subst e;simp
  .have:(y == x)=false:=by simpa using λz=>e z.symm
   rw[this,IE];by_cases h:x∈r
   .rw[AX h,AX (BA _ h)]
   .rw[BC h,BC (λz=>(AL.mp z).elim e h)]
def Sy{K:PySem.W.Frag}{H:Hp}{p:A2}{x:Str}{a:A1 Str}{Q:VK}(h:RX K H p (a.map V.str))(q:Q (.bl (decide (x∈a))) H):UA K false (.str x) (.ref p) H Q :=
 ⟨p,_,rfl,h,rfl,Gi a,by rw[AN (by decide),Sj];exact q⟩
def Pm{K:PySem.W.Frag}{H:Hp}{p:A2}{x:Str}{a:A1 Str}{Q:VK}(h:RX K H p (a.map V.str))(q:Q (.bl (!decide (x∈a))) H):UA K true (.str x) (.ref p) H Q :=
 ⟨p,_,rfl,h,rfl,Gi a,by rw[AO rfl,Sj];exact q⟩
section
variable{P:A7}{w:F8}{K:PySem.W.Frag}{mg:Str->A5 A3}{base:IJ}
theorem Iu:II ["names", "thing"] ["names", "thing"] (B7 OP):=KO
def Gp(K:PySem.W.Frag):Sp:=λb H Q _=>∃(p:A2) (a:A1 Str) (t:A2) (x y:Str),b = [.ref p,.ref t]/\IQ K H p (a.map V.str)/\H t=some (.tup [.str x,.str y])/\x∈a/\y∈a/\Q (.bl true) H
theorem Ii(T:Tx K mg):IK P w K mg base IY 1 T.be.f T.be.fd ["names", "thing"] (Gp K):=by
 refine T.be.F.o1 Iu λe A c s H j Q E l h=>?_
 .obtain⟨p,m,t,x,y,rfl,d,b,g,i,k⟩:=h;refine⟨_,(B3 (J7 (PW.pt (Ij (W7 (Q2 (I9 (P1 K) T.ak C6 (A8 (pv 1) (A8 (Y5 T.a8 X8) B2))))) (Af (C8 Wg (I9 (V5 K) T.aP U3 (A8 (pv 1) B2)) B8 (E5 _))))) (B4 (C1 Cm)) C3)
   (B4 (C1 (Dl (R0 (zCk K) (M9 (RC K) (pv 1) B8 (λ_ _=>rfl)) (pv 0) rfl) (Dq (R0 (zCk K) (M9 (RC K) (pv 1) B8 (λ_ _=>rfl)) (pv 0) rfl)))))),?_⟩
  refine A6 rfl ⟨_, "tuple",_,true,rfl,.tup b,rfl,A6 rfl ?_⟩;refine i7 ?_;refine A6 rfl (C0 (a:=t) rfl (.inr (JH.of b)) ⟨rfl,A6 rfl ?_⟩);refine i7 ?_;refine A6 rfl ⟨t,_,C0 rfl rfl ⟨JH.of b,rfl,A6 rfl (Sy (.inl d) ⟨_,rfl,?_⟩)⟩⟩;rw[AX g];refine Fw ?_;refine A6 rfl ⟨t,_,C0 rfl rfl ⟨JH.of b,rfl,A6 rfl (Sy (.inl d) ?_)⟩⟩;rw[AX i];exact k
structure M_(ss:A1 Str)(ps:A1 JS):Prop where
 nm:∀q∈ps,q.2.1∈ss/\q.2.2∈ss
 nd:(ps.map λq=>q.2).Nodup
 len:ps.length<=200
def K3(a:A1 JS):A1 V:=a.map λq=>V.ref q.1
def Kb(a:A1 JS):A1 (A1 IZ×A2):=a.map λq=>([.inr q.2.1,.inr q.2.2],q.1)
theorem Wo{H:Hp}{a:A1 JS}(h:∀q∈a,F0 H q):Nh H (Kb a):=λk b=>by
 obtain⟨q,c,rfl⟩:=AJ.mp b;exact h q c
theorem Q8{H H':Hp}{a:A1 JS}(s:Cs H H')(h:∀q∈a,F0 H q):∀q∈a,F0 H' q:=λq b=>s _ _ (h q b)
theorem J_:II ["names", "strikes", "seen", "place", "strike"] ["names", "strikes"] (B7 MN):=KO
def Au(K:PySem.W.Frag):Sp:=λe H Q _=>∃(p:A2) (c:A1 Str) (a:A2) (b:A1 JS),e = [.ref p,.ref a]/\IQ K H p (c.map V.str)/\IQ K H a (K3 b)/\(∀q∈b,F0 H q)/\M_ c b/\∀d,Cs H d->Q .non d
theorem An(T:Tx K mg):IK P w K mg base IY 2 T.a0.f T.a0.fd ["names", "strikes"] (Au K):=by
 refine T.a0.F.o1 J_ λX A D s H vs Q E N h=>?_
 .obtain⟨n,Y,a,b,rfl,Z,y,O,⟨hN,hD,hL⟩,k⟩:=h;have R:=Y7 N;refine⟨_,(B3 (C2 (i:=2) J_.nd rfl (.inl rfl) (Dr (Ww P w) (by rfl) T.bJ Yb))
   (B4 (U2 PassesOwn.never rfl (piE K T.a7 (A8 (pv 1) B2)) (RB K (n:=2) (C9 (D6 (i:=3) J_.nd rfl (.inl rfl)) (C9 (D6 (i:=4) J_.nd rfl (.inl rfl)) O7)))
   (B3 (J7 (PW.pt (Ij (W7 (Q2 (C7 T.be (Ii T) (Rm N) (A8 (pv 0) (A8 (pv 4) B2))))) (Af (C8 (zHu P w R) (pv 4) (pv 2) rfl)))) (B4 q0) C3)
   (B4 (E2 (Ys P w (zFa P w R) (pv 2) (A8 (pv 4) B2)))))))),?_⟩
  refine⟨rfl,λp S=>?_⟩;have U:Cs H (IH H p (Pt P w p [])):=Cs.new S;refine A6 rfl ⟨a,A6 rfl ⟨(U.at a).seqL y,Zw (n:=b.length) (λi σ c=>∃l v4,σ = [some (.ref n),some (.ref a),some (.ref p),l,v4]/\Cs H c/\c p=some (Pt P w p (Kb (b.take i)))) ⟨_,_,rfl,U,B1⟩ ?_ ?_ ?_ ?_⟩⟩
  .rintro i σ c B ⟨G,l,rfl,d,m⟩;exact⟨_,_,(d.at a).seqL y,by unfold K3;rw[AH,AC B];rfl⟩
  .rintro σ c ⟨G,l,rfl,d,m⟩;exact⟨_,(d.at a).seqL y,by unfold K3;rw[AA]⟩
  .rintro i σ c v H' B ⟨G,l,rfl,d,m⟩ ⟨t,x,rfl,V,rfl,o⟩;have o:=o _ ((d.at a).seqL y);have g:b[i]?=some b[i]:=AC B;unfold K3 at o;rw[AH,g]at o;cases o;have W:b[i]∈b:=FM B;obtain⟨I,J⟩:=hN _ W;have L:p≠t:=A9 m V;have C:Cs H (IH c t (.tup [.int i,.ref b[i].1])):=d.trans (Cs.new V);have j:=C _ _ (O _ W);refine⟨t,A6 rfl ⟨JH.of B1,rfl,_,A6 rfl (C0 rfl rfl ?_)⟩⟩;refine A6 rfl (A6 rfl ⟨n,Y,b[i].1,b[i].2.1,b[i].2.2,rfl,(C.at n).seqL Z,j,I,J,A6 rfl ?_⟩);refine i7 ?_;have M:(IH c t (.tup [.int i,.ref b[i].1])) p=some (Pt P w p (Kb (b.take i))):=by rw[B5 L];exact m
   have r:Nh (IH c t (.tup [.int i,.ref b[i].1])) (Kb (b.take i)):=Wo (Q8 C λq j=>O q (CJ j));have u:∀q∈Kb (b.take i),q.1≠[.inr b[i].2.1,.inr b[i].2.2]:=λq j e=>by
    obtain⟨z,hz,rfl⟩:=AJ.mp j;have e':z.2=b[i].2:=by
     obtain⟨z1,z2,z3⟩:=z;simp only[List.cons.injEq,Sum.inr.injEq,and_true]at e;exact Prod.ext e.1 e.2
    have h1:(b.map λq=>q.2)[i]?=some b[i].2:=by rw[AH,g];rfl
    refine Dx hD h1 ?_;rw[<-List.map_take,<-e'];exact AJ.mpr ⟨z,hz,rfl⟩
   refine A6 rfl (A6 rfl ⟨p,b[i].1,_,[.inr b[i].2.1,.inr b[i].2.2],rfl,rfl,M,j,r,u,A6 rfl ?_⟩);refine i7 ?_;refine A6 rfl ⟨⟨p,rfl,.inr (.inr ⟨_,M⟩)⟩,A6 rfl ⟨p,b[i].1,_,[.inr b[i].2.1,.inr b[i].2.2],rfl,rfl,M,j,r,u,?_,?_⟩⟩
   .unfold Kb;rw[AA,AW];lia
   .refine⟨_,A6 rfl ⟨C.upd S,?_⟩⟩;rw[B1,I7 g];unfold Kb;rw[AK];rfl
  .rintro σ c ⟨G,l,rfl,d,m⟩;exact k c d
end
def la(a:A1 (IZ×V))(n:Str):A2:=match V3 a (.inr n)with | some (.ref l)=>l | _=>0
def Tq(a:A1 (IZ×V))(n m:Str)(v:V):V3 (Cy a (Sum.inr n:IZ) v) (.inr m)=if m=n then some v else V3 a (.inr m):=by
 rw[Ba];by_cases e:m=n
 .rw[AO e,AO (by rw[e])]
 .rw[AN e,AN (λz=>e (Sum.inr.inj z))]
def Dp(a:A1 (IZ×V))(n m:Str)(p:A2):la (Cy a (.inr n) (.ref p)) m=if m=n then p else la a m:=by
 unfold la;rw[Tq];by_cases e:m=n
 .rw[AO e,AO e]
 .rw[AN e,AN e]
structure DOk(H0:Hp)(kvs:A1 (IZ×V))(ns:A1 Str):Prop where
 val:∀n∈ns,V3 kvs (.inr n)=some (.ref (la kvs n))
 inj:∀n∈ns,∀m∈ns,la kvs n=la kvs m->n=m
 fr:∀n∈ns,H0 (la kvs n)=none
def Yi{K:PySem.W.Frag}{J:It}{a:A2}{ns:A1 Str}{H:Hp}{σ:St}{Q:St->Hp->Prop}(as:LY J (ns.map V.str) a H)(hσ:∃v,σ = [v])(I:ns.Nodup)(L:ns.length<=1000){D:A2}(A:H D=none)
  (q:∀σ b H',Cs H H'->H' D=some (.dK b)->DOk H b ns->(∀n∈ns,H' (la b n)=some (.lst []))->(∀n∈ns,la b n≠D)->Q σ H') :
  Ji (W8 0) By (Wp D (Pg 0) (zIk TD)) J σ (IH H D (.dK [])) Q:=by
 obtain⟨v,rfl⟩:=hσ;refine V1 as (λi σ f=>(∃v,σ = [v])/\∃b,Cs H f/\f D=some (.dK b)/\b.length<=i/\DOk H b (ns.take i)/\(∀n∈ns.take i,f (la b n)=some (.lst []))/\∀n∈ns.take i,la b n≠D)
  ⟨⟨v,rfl⟩,[],Cs.new A,B1,CB _,⟨λn h=>by simp at h,λn h=>by simp at h,λn h=>by simp at h⟩,λn h=>by simp at h,λn h=>by simp at h⟩ (λi σ f _ ⟨_,b,l,_⟩=>l.at a) ?_ ?_
 .rintro i σ f x N s ⟨⟨v,rfl⟩,b,l,w,C,t,o,y⟩ E;rw[AH]at s;have F:i<ns.length:=by
   rcases Nat.lt_or_ge i ns.length with z | z
   .exact z
   .rw[DR z]at s;cases s
  have u:ns[i]?=some ns[i]:=AC F;rw[u]at s;cases s;refine Ef ?_;refine A6 rfl ⟨CB _,λp r=>?_⟩;have g:D≠p:=A9 w r;refine⟨b,.inr ns[i],by rw[B5 g];exact w,rfl,by rw[sizeLine_eq];lia,E _ _ ⟨⟨_,rfl⟩,Cy b (.inr ns[i]) (.ref p),?_,B1,?_,⟨?_,?_,?_⟩,?_,?_⟩⟩
  .exact(l.trans (Cs.new r)).upd A
  .have:=V2 b (Sum.inr ns[i]:IZ) (.ref p);lia
  all_goals rw[I7 u]
  .intro n c;rw[Tq,Dp];by_cases e:n=ns[i]
   .rw[AO e,AO e]
   .rw[AN e,AN e];rcases AR.mp c with z | z
    .exact t.val n z
    .exact absurd (AD.mp z) e
  .intro n c m B;rw[Dp,Dp];have d:∀k∈ns.take i ++ [ns[i]],k≠ns[i]->k∈ns.take i:=λk G e=>(AR.mp G).elim id λz=>absurd (AD.mp z) e;by_cases e:n=ns[i]
   .by_cases j:m=ns[i]
    .exact λ_=>e.trans j.symm
    .rw[AO e,AN j];intro z;have:=o m (d m B j);rw[<-z,r]at this;cases this
   .by_cases j:m=ns[i]
    .rw[AN e,AO j];intro z;have:=o n (d n c e);rw[z,r]at this;cases this
    .rw[AN e,AN j];exact t.inj n (d n c e) m (d m B j)
  .intro n c;rw[Dp];by_cases e:n=ns[i]
   .rw[AO e];exact l.free r
   .rw[AN e];rcases AR.mp c with z | z
    .exact t.fr n z
    .exact absurd (AD.mp z) e
  .intro n c;rw[Dp];by_cases e:n=ns[i]
   .rw[AO e,B5 g.symm,B1]
   .rw[AN e];rcases AR.mp c with z | z
    .rw[B5 (y n z),B5 (A9 (o n z) r)];exact o n z
    .exact absurd (AD.mp z) e
  .intro n c;rw[Dp];by_cases e:n=ns[i]
   .rw[AO e];exact g.symm
   .rw[AN e];rcases AR.mp c with z | z
    .exact y n z
    .exact absurd (AD.mp z) e
 .rintro σ f ⟨_,b,l,w,C,t,o,y⟩;rw[AA]at *;rw[CK]at *;exact q σ b f l w t o y
def C5(a:A1 JS)(n:Str):A1 Str:=(a.filter λq=>decide (q.2.2=n)).map λq=>q.2.1
def E6(a:A1 JS)(n:Str):A1 Str:=(a.filter λq=>decide (q.2.1=n)).map λq=>q.2.2
def Cl(a:A1 JS)(q:JS)(n:Str):C5 (a ++ [q]) n=C5 a n ++(if q.2.2=n then [q.2.1]else []):=by
 unfold C5;rw[EI,AK];by_cases e:q.2.2=n
 .rw[AO e,DL,AO (AX e)];rfl
 .rw[AN e,DL,AN (by simp[e])];rfl
def Fb(a:A1 JS)(q:JS)(n:Str):E6 (a ++ [q]) n=E6 a n ++(if q.2.1=n then [q.2.2]else []):=by
 unfold E6;rw[EI,AK];by_cases e:q.2.1=n
 .rw[AO e,DL,AO (AX e)];rfl
 .rw[AN e,DL,AN (by simp[e])];rfl
def wf(a b c d:A2):A1 (Str×V):=[("names",.ref a),("strikes",.ref b),("strikers_by_name",.ref c),("struck_by_name",.ref d)]
structure UM(ns:A1 Str)(qs:A1 JS):Prop where
 nd:ns.Nodup
 len:ns.length<=100
 srt:ns.Pairwise SB
 mem:∀q∈qs,q.2.1∈ns/\q.2.2∈ns
 ndq:(qs.map λq=>q.2).Nodup
 lenq:qs.length<=200
 srq:qs.Pairwise SL
structure JP(C:A2)(H:Hp)(x:A2)(ns:A1 Str)(qs:A1 JS):Prop where
 ok:UM ns qs
 ex:∃dx a b c d kc kd,H x=some (.ins C dx (wf a b c d))/\H a=some (.lst (ns.map V.str))/\H b=some (.lst (K3 qs))/\(∀q∈qs,F0 H q)/\H c=some (.dK kc)/\H d=some (.dK kd) /\
  (∀n∈ns,∃l,V3 kc (.inr n)=some (.ref l)/\H l=some (.lst ((C5 qs n).map V.str)))/\∀n∈ns,∃l,V3 kd (.inr n)=some (.ref l)/\H l=some (.lst ((E6 qs n).map V.str))
section
variable{P:A7}{w:F8}{K:PySem.W.Frag}{mg:Str->A5 A3}{base:IJ}
theorem KQ:II ["self", "names", "strikes", "one", "other"] ["self", "names", "strikes"] (B7 MX):=KO
end
def JP.same{C:A2}{H H':Hp}{x:A2}{ns:A1 Str}{g:A1 JS}(h:JP C H x ns g)(s:Cs H H'):JP C H' x ns g:=by
 obtain⟨i,j,a,b,c,d,k,m,o,p,q,r,t,u,w,y⟩:=h;exact⟨i,j,a,b,c,d,k,m,s _ _ o,s _ _ p,s _ _ q,Q8 s r,s _ _ t,s _ _ u,λn f=>let⟨l,v,e⟩:=w n f;⟨l,v,s _ _ e⟩,λn f=>let⟨l,v,e⟩:=y n f;⟨l,v,s _ _ e⟩⟩
section
variable{P:A7}{w:F8}{K:PySem.W.Frag}{mg:Str->A5 A3}{base:IJ}
theorem Ah:II ["self"] ["self"] (B7 MP):=KO
def Ia(C:A2):Sp:=λb H Q _=>∃(x:A2) (a:A1 Str) (c:A1 JS),b = [.ref x]/\JP C H x a c/\∀l,H l=none->Q (.ref l) (IH H l (.lst (a.map V.str)))
theorem Am(T:Tx K mg):IK P w K mg base IY 1 T.aN.f T.aN.fd ["self"] (Ia T.ag):=by
 refine T.aN.F.o1 Ah λg A e s H m Q E n h=>?_
 .obtain⟨x,o,p,rfl,⟨q,i,a,b,c,d,r,t,j,l,u,v,y,z,B,C⟩,k⟩:=h;refine⟨_,(B4 (C1 (Dd (i5 K) T.aI Q5 (A8 (NS K (pv 0)) B2)))),?_⟩;exact⟨_,rfl,x,T.ag,i,_,_,rfl,j,T.aC,T.a2,rfl,a,_,rfl,.inl (IQ.of l),k⟩
theorem Aj:II ["self", "name"] ["self", "name"] (B7 MO):=KO
def Jb(C:A2):Sp:=λb H Q _=>∃(x:A2) (n:Str) (a:A1 Str) (c:A1 JS),b = [.ref x,.str n]/\JP C H x a c/\n∈a/\Q .non H
theorem V6(T:Tx K mg):IK P w K mg base IY 1 T.aw.f T.aw.fd ["self", "name"] (Jb T.ag):=by
 refine T.aw.F.o1 Aj λg A e s H o Q E p h=>?_
 .obtain⟨x,n,q,r,rfl,⟨t,i,a,b,c,d,u,v,j,l,y,z,B,C,D,G⟩,m,k⟩:=h;refine⟨_,(B4 (J7 (C8 (Wi K) (pv 1) (NS K (pv 0)) rfl) (B4 q0) C3)),?_⟩;refine A6 rfl (A6 rfl ⟨x,T.ag,i,_,A6 rfl ⟨j,T.aC,T.a2,rfl,Pm (.inl (IQ.of l)) ⟨_,rfl,?_⟩⟩⟩);rw[AX m];exact i7 k
theorem Eg:II ["self", "name"] ["self", "name"] (B7 NX):=KO
def Sl(C:A2):Sp:=λc H Q _=>∃(x:A2) (n:Str) (a:A1 Str) (b:A1 JS),c = [.ref x,.str n]/\JP C H x a b/\n∈a/\∀l,H l=none->Q (.ref l) (IH H l (.lst ((E6 b n).map V.str)))
theorem Ej(T:Tx K mg):IK P w K mg base IY 2 T.aX.f T.aX.fd ["self", "name"] (Sl T.ag):=by
 refine T.aX.F.o1 Eg λr A g s H C Q E i h=>?_
 .obtain⟨x,n,t,u,rfl,j,o,k⟩:=h;have y:=Y7 i;obtain⟨D,p,a,b,c,d,G,I,q,J,L,M,N,z,O,B⟩:=id j;refine⟨_,(B3 (E2 (C4 (pv 0) T.aC T.aw.m (V6 T) (Rm i) T.aw.b .nil E7 (A8 (pv 1) B2)))
   (B4 (C1 (Dd (i5 K) T.aI Q5 (A8 (O0 y (NS K (pv 0)) (pv 1) (λ_ _=>rfl)) B2))))),?_⟩
  refine A6 rfl ⟨x,p,A6 rfl ⟨q,rfl,A6 rfl ⟨x,n,t,u,rfl,j,o,?_⟩⟩⟩;obtain⟨l,v,e⟩:=B n o;exact⟨_,rfl,x,T.ag,p,_,_,rfl,q,T.aC,T.aU,rfl,_,rfl,d,_,rfl,by rw[<-v];exact OY.k (k:=Sum.inr n) z,l,_,rfl,.inl (IQ.of e),k⟩
theorem Bs:II ["self", "name"] ["self", "name"] (B7 MW):=KO
def Lk(C:A2):Sp:=λc H Q _=>∃(x:A2) (n:Str) (a:A1 Str) (b:A1 JS),c = [.ref x,.str n]/\JP C H x a b/\n∈a/\∀l,H l=none->Q (.ref l) (IH H l (.lst ((C5 b n).map V.str)))
theorem Bl(T:Tx K mg):IK P w K mg base IY 2 T.aO.f T.aO.fd ["self", "name"] (Lk T.ag):=by
 refine T.aO.F.o1 Bs λr A g s H C Q E i h=>?_
 .obtain⟨x,n,t,u,rfl,j,o,k⟩:=h;have y:=Y7 i;obtain⟨D,p,a,b,c,d,G,I,q,J,L,M,z,N,B,O⟩:=id j;refine⟨_,(B3 (E2 (C4 (pv 0) T.aC T.aw.m (V6 T) (Rm i) T.aw.b .nil E7 (A8 (pv 1) B2)))
   (B4 (C1 (Dd (i5 K) T.aI Q5 (A8 (O0 y (NS K (pv 0)) (pv 1) (λ_ _=>rfl)) B2))))),?_⟩
  refine A6 rfl ⟨x,p,A6 rfl ⟨q,rfl,A6 rfl ⟨x,n,t,u,rfl,j,o,?_⟩⟩⟩;obtain⟨l,v,e⟩:=B n o;exact⟨_,rfl,x,T.ag,p,_,_,rfl,q,T.aC,T.aR,rfl,_,rfl,c,_,rfl,by rw[<-v];exact OY.k (k:=Sum.inr n) z,l,_,rfl,.inl (IQ.of e),k⟩
theorem PD:II ["_law_cell", "_law_k", "_law_m"] ["_law_cell", "_law_k"] (B7 PY):=KO
def zCs:Sp:=λb H Q _=>∃(a k:Int),b = [.int a,.int k]/\0<=k/\k<=2000000/\∀m:Int,0<=m->m<1999999973->Q (.int m) H
theorem Dw(T:Tx K mg):IK P w K mg base IY 1 T.bg.f T.bg.fd ["_law_cell", "_law_k"] zCs:=by
 refine T.bg.F.o1 PD λd A b s H e Q E g h=>?_
 .obtain⟨a,k,rfl,j,l,q⟩:=h;refine⟨_,(B3 (C2 (i:=2) PD.nd rfl (.inl rfl) (D3 Iy (D3 Dm (D3 Bv (D3 Bv (D3 Iy (pv 0) B8) (D3 Dm (D3 Dm (pv 1) (pv 1)) B8)) B8) B8) B8))
   (B4 (C1 (D3 Iy (D3 Dm (pv 2) (pv 2)) B8)))),?_⟩
  refine A6 rfl (C0 rfl rfl ⟨(show(0:Int)<2147483629 by decide),A6 rfl (A6 rfl (C0 rfl rfl ⟨.inl ⟨by lia,by lia⟩,C0 rfl rfl ⟨.inr ⟨by decide,by decide⟩,C0 rfl rfl (C0 rfl rfl (C0 rfl rfl ⟨.inr ⟨by decide,by decide⟩,C0 rfl rfl ⟨(show(0:Int)<2147483647 by decide),?_⟩⟩))⟩⟩))⟩);generalize c:(a % 2147483629+k*k*7919+11)*48271 % 2147483647=m;have n:0<=m:=by rw[<-c];exact GL _ (by decide)
  have o:m<2147483647:=by rw[<-c];exact FO _ (by decide)
  exact⟨_,rfl,_,rfl,_,_,rfl,rfl,.inl ⟨by lia,by lia⟩,_,_,rfl,rfl,(show(0:Int)<1999999973 by decide),q _ (GL _ (by decide)) (FO _ (by decide))⟩
def IT(H:Hp)(p:A2)(c:Int):Prop:=∃a b:Int,H p=some (.lst [.int a,.int b,.int c])/\0<=c
theorem IT.isS{H:Hp}{p:A2}{c:Int}(h:IT H p c):(H p).isSome=true:=by
 obtain⟨_,_,e,_⟩:=h;rw[e];rfl
theorem IT.get{H:Hp}{p:A2}{c:Int}(h:IT H p c):H p=some ((H p).get h.isS):=(Option.some_get _).symm
theorem IT.cast{H:Hp}{p:A2}{c a:Int}(h:IT H p c)(e:c=a):IT H p a:=e▸h
theorem IT.upd{H:Hp}{p a:A2}{c:Int}{o:HO}(h:IT H p c)(n:p≠a):IT (L2.IH H a o) p c:=by
 obtain⟨x,y,e,z⟩:=h;exact⟨x,y,by rw[B5 n];exact e,z⟩
theorem IT.same{H H':Hp}{p:A2}{c:Int}(h:IT H p c)(s:Cs H H'):IT H' p c:=by
 obtain⟨x,y,e,z⟩:=h;exact⟨x,y,s _ _ e,z⟩
theorem zIg(c:Bool):-(2^64) <(if c=true then(1:Int)else 0)/\(if c=true then(1:Int)else 0)<2^64:=by cases c<;>exact⟨by decide,by decide⟩
theorem OK:II ["_law_script", "_law_k", "_law_cell"] ["_law_script", "_law_k"] (B7 PL):=KO
def zAd(K:PySem.W.Frag):Sp:=λb H Q _=>∃(p:A2) (c:A1 Int) (k:Nat),b = [.ref p,.int (k:Int)]/\IQ K H p (c.map V.int)/\k<=1000/\∀l a,H l=none->Cs H a->IT a l 0->Q (.ref l) a
theorem Cq(T:Tx K mg):IK P w K mg base IY 1 T.ba.f T.ba.fd ["_law_script", "_law_k"] (zAd K):=by
 refine T.ba.F.o1 OK λo A g s H t Q E u h=>?_
 .obtain⟨p,d,k,rfl,n,v,q⟩:=h;refine⟨_,(B3 (C2 (i:=2) OK.nd rfl (.inl rfl) (Vz (C8 zHk (pv 1) (I9 (V5 K) T.aP U3 (A8 (pv 0) B2)) (E5 _)) (M9 (P7 K) (pv 0) (pv 1) (λ_ _=>rfl)) B8))
   (B4 (C1 (O8 (A8 (D3 Dm (I9 Mb T.bH Yd (A8 (pv 2) B2)) (Dd Py T.bI Yf (A8 (R0 zGo (I9 Mb T.bH Yd (A8 (pv 2) B2)) (D3 zEe B8 B8) (E5 _)) B2))) (A8 (D3 Bv (pv 2) (D3 Dm B8 (pv 1))) (A8 B8 B2))))))),?_⟩
  refine A6 rfl (A6 rfl (C0 (a:=p) rfl (.inl n) (C0 rfl rfl (A6 rfl ?_))));have j:decide ((k:Int) <((d.map V.int).length:Int))=true->∃c:Int,QU (d.map V.int) (k:Int)=some (.int c):=λb=>by
   have b:(k:Int) <((d.map V.int).length:Int):=BJ b;rw[AA]at b;have m:d[k]?=some (d[k]'(by lia)):=AC (by lia);exact⟨_,E9 (by rw[AH,m];rfl)⟩
  refine Q3 (λb=>?_) (λb=>?_)
  .obtain⟨c,r⟩:=j b;refine A6 rfl (A6 rfl ⟨p,_,C0 rfl rfl ⟨n,r,?_⟩⟩)
   (repeat first | refine⟨_,rfl,?_⟩ | refine⟨_,_,rfl,rfl,?_⟩)
   refine⟨⟨by decide,by decide,by decide⟩,?_⟩
   (repeat first | refine⟨_,rfl,?_⟩ | refine⟨_,_,rfl,rfl,?_⟩)
   refine .inr ⟨_,rfl,?_⟩
   (repeat first | refine⟨_,rfl,?_⟩ | refine⟨_,_,rfl,rfl,?_⟩)
   refine⟨.inr ?_,?_⟩
   .exact zIg _
   (repeat first | refine⟨_,rfl,?_⟩ | refine⟨_,_,rfl,rfl,?_⟩)
   refine⟨.inl ⟨by decide,by decide⟩,?_⟩
   (repeat first | refine⟨_,rfl,?_⟩ | refine⟨_,_,rfl,rfl,?_⟩)
   exact⟨by show 3<=sizeLine;decide,λl e=>q l _ e (Cs.new e) ⟨_,_,B1,by decide⟩⟩
  .skip;(repeat first | refine⟨_,rfl,?_⟩ | refine⟨_,_,rfl,rfl,?_⟩)
   refine⟨⟨by decide,by decide,by decide⟩,?_⟩
   (repeat first | refine⟨_,rfl,?_⟩ | refine⟨_,_,rfl,rfl,?_⟩)
   refine .inr ⟨_,rfl,?_⟩
   (repeat first | refine⟨_,rfl,?_⟩ | refine⟨_,_,rfl,rfl,?_⟩)
   refine⟨.inr ?_,?_⟩
   .exact zIg _
   (repeat first | refine⟨_,rfl,?_⟩ | refine⟨_,_,rfl,rfl,?_⟩)
   refine⟨.inl ⟨by decide,by decide⟩,?_⟩
   (repeat first | refine⟨_,rfl,?_⟩ | refine⟨_,_,rfl,rfl,?_⟩)
   exact⟨by show 3<=sizeLine;decide,λl e=>q l _ e (Cs.new e) ⟨_,_,B1,by decide⟩⟩
theorem OJ:II ["_law_left_here", "_law_many", "_law_digit"] ["_law_left_here", "_law_many"] (B7 PK):=KO
def Zm:Sp:=λe H Q _=>∃(p:A2) (c a:Int),e = [.ref p,.int a]/\IT H p c/\c<=1000000/\0<a/\a<=1000000 /\
 ∀(d:Nat) b,(d:Int)<a->Sm [p] H b->IT b p (c+1)->Q (.int (d:Int)) b
theorem D4(T:Tx K mg):IK P w K mg base IY 2 T.am.f T.am.fd ["_law_left_here", "_law_many"] Zm:=by
 refine T.am.F.o1 OJ λu A o s H x Q E r h=>?_
 .obtain⟨p,c,j,rfl,⟨a,b,e,y⟩,z,k,B,q⟩:=h;refine⟨_,(B3 (l4 (D3 Bv (M9 (P7 K) (pv 0) B8 (λ_ _=>rfl)) B8) (Yt (pv 0) B8 Na))
   (B3 (J7 (C8 zGw (M9 (P7 K) (pv 0) B8 (λ_ _=>rfl)) B8 (E5 _)) (B3 (C2 (i:=2) OJ.nd rfl (.inl rfl) (D3 Iy (M9 (P7 K) (pv 0) B8 (λ_ _=>rfl)) (pv 1)))
   (B3 (l4 (D3 Px (M9 (P7 K) (pv 0) B8 (λ_ _=>rfl)) (pv 1)) (Yt (pv 0) B8 Na))
   (B4 (C1 (pv 2))))) C3)
   (B4 (C1 (D3 Iy (D3 Px (C7 T.bg (Dw T) (Rm r) (A8 (C7 T.bg (Dw T) (Rm r) (A8 (M9 (P7 K) (pv 0) B8 (λ_ _=>rfl)) (A8 (M9 (P7 K) (pv 0) B8 (λ_ _=>rfl)) B2))) (A8 (D3 Bv (M9 (P7 K) (pv 0) B8 (λ_ _=>rfl)) B8) B2))) B8) (pv 1)))))),?_⟩
  have t:∀d:Int,0<=d->d<j->∀l m,Q (.int d) (IH (IH H p (.lst [.int a,.int b,.int (c+1)])) p (.lst [.int l,.int m,.int (c+1)]))/\Q (.int d) (IH H p (.lst [.int l,.int m,.int (c+1)])):=λd v g l m=>by
   obtain⟨n,rfl⟩:=Int.eq_ofNat_of_zero_le v;exact⟨q n _ g (((Sm.refl _ _).upd (by simp)).upd (by simp)) ⟨l,m,B1,by lia⟩,q n _ g ((Sm.refl _ _).upd (by simp)) ⟨l,m,B1,by lia⟩⟩
  refine A6 rfl ⟨p,_,C0 rfl rfl ⟨IQ.of e,rfl,C0 rfl rfl (A6 rfl ⟨p,_,_,2,rfl,rfl,e,rfl,?_⟩)⟩⟩;refine A6 rfl ⟨p,_,C0 rfl rfl ⟨IQ.of B1,rfl,C0 rfl rfl (A6 rfl ?_)⟩⟩;refine Q3 (λg=>?_) (λg=>?_)
  .have g:(0:Int)<a:=BJ g;refine A6 rfl ⟨p,_,C0 rfl rfl ⟨IQ.of B1,rfl,A6 rfl (C0 rfl rfl ⟨k,?_⟩)⟩⟩;refine A6 rfl ⟨p,_,C0 rfl rfl ⟨IQ.of B1,rfl,A6 rfl (C0 rfl rfl ⟨⟨k,by lia⟩,A6 rfl ⟨p,_,_,0,rfl,rfl,B1,rfl,?_⟩⟩)⟩⟩;exact⟨_,rfl,(t _ (GL _ (by lia)) (FO _ k) _ _).1⟩
  .refine A6 rfl ⟨p,_,C0 rfl rfl ⟨IQ.of B1,rfl,A6 rfl ⟨p,_,C0 rfl rfl ⟨IQ.of B1,rfl,_,A6 rfl ⟨by lia,by lia,λC D G=>?_⟩⟩⟩⟩⟩;refine A6 rfl ⟨p,_,C0 rfl rfl ⟨IQ.of B1,rfl,C0 rfl rfl ⟨_,A6 rfl ⟨by lia,by lia,λI J L=>?_⟩⟩⟩⟩;refine C0 rfl rfl ⟨⟨by decide,by decide⟩,A6 rfl (C0 rfl rfl ⟨k,?_⟩)⟩;exact(t _ (GL _ (by lia)) (FO _ k) _ _).2
end
def six{d n:Nat}(h:d<n):seqIndex? (d:Int) n=some d:=by
 unfold seqIndex?;simp;lia
def MA{α:Type}{l:A1 α}{i:Nat}{x:α}(h:l[i]?=some x):(x::l.eraseIdx i).Perm l:=ST.MA h
def Ch{α β:Type}(f:α->β):∀(l:A1 α) (i:Nat),(l.map f).eraseIdx i =(l.eraseIdx i).map f
 | [],_=>rfl
 | _::_,0=>rfl
 | a::l,i+1=>by
  show f a ::(l.map f).eraseIdx i=f a ::(l.eraseIdx i).map f;rw[Ch f l i]
def Vi{a b c:A1 Str}(d:(b++c).Perm a)(h1:∀x∈a,P5 x=true)(h2:a.Nodup)(f:a.length<=100):KC c:=by
 refine⟨λx e=>h1 x (d.mem_iff.mp (BI _ e)),?_,?_⟩
 .exact(EB.mp (d.nodup_iff.mpr h2)).2.1
 .have:=d.length_eq;rw[AU]at this;lia
def Mc{c a b:A1 Str}{d:Nat}{x:Str}(e:(a++b).Perm c)(h:a[d]?=some x):(a.eraseIdx d ++(b ++ [x])).Perm c:=by
 refine List.Perm.trans ?_ e;rw[<-BM];refine CZ.trans ?_;rw[<-BM];exact(MA h).append_right b
def KW{p b:A2}{H H':Hp}{o:HO}(h:Sm [p] H H')(e:H b=some o)(n:b≠p):H' b=some o:=h b o e λz=>n (AD.mp z)
section
variable{P:A7}{w:F8}{K:PySem.W.Frag}{mg:Str->A5 A3}{base:IJ}
def QN:A1 Str:=["b", "aa", "zebra", "c", "quartzes", "ab", "m", "knows", "d", "mm", "likes", "z", "a", "ba", "abcdefgh", "y", "zz", "e", "x", "f"]
abbrev PV:Str := "b aa zebra c quartzes ab m knows d mm likes z a ba abcdefgh y zz e x f"
theorem Zx:Builtin.Str.partsBetween PV (Builtin.Str.occurrences PV " " 0 PV.length (PV.length+1)) (" ":Str).length=QN:=by decide +kernel
theorem QM:(∀x∈QN,P5 x=true)/\QN.Nodup:=⟨by decide +kernel,by decide +kernel⟩
theorem Lj:∃a:A1 Str,a.length=20/\(∀x∈a,P5 x=true)/\a.Nodup/\∀(Q:VK) (H:Hp),(∀l,H l=none->Q (.ref l) (IH H l (.lst (a.map V.str))))->Yj (.str PV) [.str " "] H Q :=
 ⟨QN,rfl,QM.1,QM.2,λQ H h=>⟨PV, " ",QN,rfl,rfl,by decide +kernel,by decide +kernel,by decide +kernel,by decide +kernel,Zx,by decide +kernel,h⟩⟩
theorem KY:II ["_law_left_here", "_law_many", "_law_some_here", "_law_names_here", "_law_k"] ["_law_left_here", "_law_many"] (B7 OM):=KO
def Wf:Sp:=λe H Q _=>∃(p:A2) (c:Int) (a:Nat),e = [.ref p,.int (a:Int)]/\IT H p c/\c<=900000/\a<=20 /\
 ∀l (d:A1 Str) b,H l=none->Sm [p] H b->b l=some (.lst (d.map V.str))->d.length=a->KC d->IT b p (c+a)->Q (.ref l) b
set_option maxHeartbeats 2000000 in
theorem Hj(T:Tx K mg):IK P w K mg base IY 3 T.bf.f T.bf.fd ["_law_left_here", "_law_many"] Wf:=by
 refine T.bf.F.o1 KY λX A C s H vs Q E Y h=>?_
 .obtain⟨p,c,o,rfl,R,c1,m1,q⟩:=h;obtain⟨a0,b0,S,c0⟩:=id R;refine⟨_,(B3 (C2 (i:=2) KY.nd rfl (.inl rfl) (Fu K PySem.F.plainAttrs_str PySem.F.slot_str_split PySem.F.type_str_split Ve R9 (A8 R9 B2)))
   (B3 (C2 (i:=3) KY.nd rfl (.inl rfl) (O8 B2))
   (B3 (U2 PassesOwn.never rfl (zHm T.bp (A8 (pv 1) B2)) (D6 (i:=4) KY.nd rfl (.inl rfl))
   (B4 (E2 (Fu K PySem.F.plainAttrs_list PySem.F.slot_list_append PySem.F.type_list_append G8 (pv 3) (A8 (Fu K PySem.F.plainAttrs_list PySem.F.slot_list_pop PySem.F.type_list_pop Nt (pv 2) (A8 (C7 T.am (D4 T) (Rm Y) (A8 (pv 0) (A8 (I9 (V5 K) T.aP U3 (A8 (pv 2) B2)) B2))) B2)) B2)))))
   (B4 (C1 (pv 3)))))),?_⟩
  obtain⟨r,Z,a1,a2,t⟩:=Lj;refine⟨rfl,?_⟩;dsimp only[Oj,tC,TD];refine t _ _ λa v=>?_;refine⟨CB _,λb D=>?_⟩;have j:H b=none:=(Cs.new v).free D;have k:a≠b:=A9 B1 D;have l:p≠a:=A9 S v;have m:p≠b:=A9 S j;refine A6 rfl (A6 rfl ⟨by lia,by lia,?_⟩);rw[HW];refine X7 (λi σ n=>(∃G,σ = [some (.ref p),some (.int (o:Int)),some (.ref a),some (.ref b),G])/\Sm [p] H n/\IT n p (c+i)/\∃e g:A1 Str,n a=some (.lst (e.map V.str))/\n b=some (.lst (g.map V.str))/\(e++g).Perm r/\g.length=i) ?_ ?_ ?_
  .refine⟨⟨_,rfl⟩,((Cs.new v).trans (Cs.new D)).sm,((R.cast (by lia)).upd l).upd m,r,[],by rw[B5 k,B1],by rw[B1];rfl,by rw[CA],rfl⟩
  .rintro i σ n hi ⟨⟨G,rfl⟩,I,J,e,g,x,y,z,B⟩ D1 L _;have U:e.length=20-i:=by
    have:=z.length_eq;rw[AU,B,Z]at this;lia
   refine A6 rfl ⟨.inl ⟨rfl,_,IQ.of y⟩,A6 rfl ⟨.inl ⟨rfl,_,IQ.of x⟩,A6 rfl (A6 rfl (C0 (a:=a) rfl (.inl (IQ.of x)) (q9 (a:=p) (b:=c+i) rfl J (by lia) ?_ ?_ λd H2 hd M L2=>?_)))⟩⟩
   .rw[AA];lia
   .rw[AA];lia
   rw[AA]at hd;have u:d<e.length:=by lia
   have W:e[d]?=some e[d]:=AC u;have N:=KW M x l.symm;have O:=KW M y m.symm;refine⟨a,_,_,d,.str e[d],rfl,rfl,N,by lia,by lia,six (by rw[AA];exact u),by rw[AH,W];rfl,b,C0 rfl rfl ⟨by rw[B5 k.symm];exact O,?_,?_⟩⟩
   .rw[AA,sizeLine_eq];lia
   refine L _ _ ⟨⟨_,rfl⟩,?_,?_,e.eraseIdx d,g ++ [e[d]],?_,?_,Mc z W,by rw[AU,B];rfl⟩
   .exact((I.trans M).updN v).updN j
   .exact((L2.cast (by lia)).upd l).upd m
   .rw[B5 k,B1,Ch]
   .rw[B1,AK];rfl
  .rintro σ n ⟨⟨G,rfl⟩,I,J,e,g,x,y,z,B⟩;exact⟨_,rfl,q b g n j I y B (Vi z a1 a2 (by lia)) J⟩
end
def pd(k:Str×Str):PyData:=.tuple [.str k.1,.str k.2]
def X3{x:Str}(h:P5 x=true):PySem.PyData.strOk x=true:=by
 unfold P5 at h;rw[BT]at h;unfold PySem.PyData.strOk;rw[<-Array.all_toList,FK];intro c a;have:=(FK.mp h.2) c a;unfold Zg at this;rw[BT]at this;have:=BJ this.2;exact AX (by lia)
def Qh{K:PySem.W.Frag}{H:Hp}{t:A2}{k:Str×Str}(h:H t=some (.tup [.str k.1,.str k.2])):Rp K H (pd k) (.ref t):=by
 unfold pd;simp only[Rp,PU];exact⟨t,_,rfl,JH.of h,_,_,rfl,rfl,_,_,rfl,rfl,rfl⟩
def Hr{K:PySem.W.Frag}{H:Hp}:∀{a:A1 JS},(∀q∈a,F0 H q)->PU K H (a.map λq=>pd q.2) (K3 a)
 | [],_=>by simp[PU,K3]
 | q::r,h=>by
  show PU K H (pd q.2::r.map λq=>pd q.2) (V.ref q.1::K3 r);simp only[PU];exact⟨_,_,rfl,Qh (h q (BE ..)),Hr λz b=>h z (BA _ b)⟩
def Vq{K:PySem.W.Frag}{H:Hp}{l:A2}{a:A1 JS}(b:H l=some (.lst (K3 a)))(h:∀q∈a,F0 H q):Rp K H (.list (a.map λq=>pd q.2)) (.ref l):=by
 simp only[Rp];exact⟨l,_,rfl,IQ.of b,Hr h⟩
def zDy(a b:Str×Str):PyData.eqv (pd a) (pd b)=decide (a=b):=by
 unfold pd;rw[PyData.eqv,PyData.eqvAll,PyData.eqvAll,PyData.eqvAll,PyData.eqv,PyData.eqv];by_cases c:a.1=b.1
 .by_cases d:a.2=b.2
  .rw[AX (Prod.ext c d),c,d];simp
  .rw[BC λz=>d (congrArg Prod.snd z)];simp[d]
 .rw[BC λz=>c (congrArg Prod.fst z)];simp[c]
def Hk(k:Str×Str):∀a:A1 JS,((a.map λq=>pd q.2).any λz=>PyData.eqv z (pd k))=decide (k∈a.map λq=>q.2)
 | []=>rfl
 | q::r=>by
  rw[BB,GN,Hk k r,zDy,BB];by_cases e:q.2=k
  .rw[AX e,Bool.true_or,AX (show k∈q.2::_ from by rw[<-e];exact BE ..)]
  .rw[BC e,IE];by_cases h:k∈r.map λq=>q.2
   .rw[AX h,AX (BA _ h)]
   .rw[BC h,BC λz=>(AL.mp z).elim (λz=>e z.symm) h]
def Yy{k:Str×Str}(h1:PySem.PyData.strOk k.1=true)(h2:PySem.PyData.strOk k.2=true):(pd k).canLay0=true:=by
 unfold pd;simp[PyData.canLay0,PyData.canLayAll0,h1,h2]
def Rn:∀{a:A1 JS},(∀q∈a,PySem.PyData.strOk q.2.1=true/\PySem.PyData.strOk q.2.2=true)->PyData.canLayAll0 (a.map λq=>pd q.2)=true
 | [],_=>rfl
 | q::r,h=>by
  rw[BB,PyData.canLayAll0,Yy (h q (BE ..)).1 (h q (BE ..)).2,Rn λz b=>h z (BA _ b)];rfl
def Y0{K:PySem.W.Frag}{H:Hp}{t l:A2}{k:Str×Str}{a:A1 JS}{Q:VK}(c:H t=some (.tup [.str k.1,.str k.2]))(d:H l=some (.lst (K3 a)))(e:∀q∈a,F0 H q)
  (b:PySem.PyData.strOk k.1=true/\PySem.PyData.strOk k.2=true) (f:∀q∈a,PySem.PyData.strOk q.2.1=true/\PySem.PyData.strOk q.2.2=true) (q:Q (.bl (!decide (k∈a.map λq=>q.2))) H):zGq K true (.ref t) (.ref l) H Q :=
 ⟨pd k,_,Qh c,.inl (Vq d e),⟨Yy b.1 b.2,by simp[pd,PyData.depth,PyData.depthAll]⟩,Rn f,by rw[AO rfl,Hk];exact q⟩
structure FL(H:Hp)(l:A2)(ps:A1 JS)(ss:A1 Str):Prop where
 at_:H l=some (.lst (K3 ps))
 pin:∀q∈ps,F0 H q
 nm:∀q∈ps,q.2.1∈ss/\q.2.2∈ss
 nd:(ps.map λq=>q.2).Nodup
def FL.sm{H H':Hp}{p l:A2}{c:Int}{a:A1 JS}{b:A1 Str}(h:FL H l a b)(L:IT H p c)(n:l≠p)(s:Sm [p] H H'):FL H' l a b:=by
 obtain⟨x,y,e,_⟩:=L;exact⟨KW s h.at_ n,λq d=>KW s (h.pin q d) (S0 (h.pin q d) e (by intro z;cases z)),h.nm,h.nd⟩
def FL.new{H:Hp}{l t:A2}{o:HO}{a:A1 JS}{b:A1 Str}(h:FL H l a b)(n:H t=none):FL (IH H t o) l a b :=
 ⟨by rw[B5 (A9 h.at_ n)];exact h.at_,λq c=>by unfold F0;rw[B5 (A9 (h.pin q c) n)];exact h.pin q c,h.nm,h.nd⟩
def FL.put{H:Hp}{l t:A2}{a:A1 JS}{c:A1 Str}{x y:Str}(h:FL H l a c)(k:Nat)(d:H t=some (.tup [.str x,.str y]))(g:x∈c)(i:y∈c)(j:(x,y)∉a.map λq=>q.2) :
  FL (IH H l (.lst ((K3 a).take k++V.ref t ::(K3 a).drop k))) l (a.take k ++(t,x,y)::a.drop k) c:=by
 have e:(a.take k ++(t,x,y)::a.drop k).Perm ((t,x,y)::a):=by
  refine List.perm_middle.trans (List.Perm.cons _ ?_);rw[B_]
 have f:∀q∈a.take k ++(t,x,y)::a.drop k,q =(t,x,y)\/q∈a:=λq b=>AL.mp (e.mem_iff.mp b);refine⟨?_,λq b=>?_,λq b=>?_,?_⟩
 .rw[B1];unfold K3;rw[AK,List.map_take,BB,List.map_drop]
 .unfold F0;rcases f q b with rfl | z
  .rw[B5 (S0 d h.at_ (by intro z;cases z))];exact d
  .rw[B5 (S0 (h.pin q z) h.at_ (by intro z;cases z))];exact h.pin q z
 .rcases f q b with rfl | z
  .exact⟨g,i⟩
  .exact h.nm q z
 .rw[(e.map _).nodup_iff];show((x,y)::a.map λq=>q.2).Nodup;exact CL.mpr ⟨j,h.nd⟩
def FL.app{H:Hp}{l t:A2}{a:A1 JS}{b:A1 Str}{x y:Str}(h:FL H l a b)(c:H t=some (.tup [.str x,.str y]))(d:x∈b)(f:y∈b)(g:(x,y)∉a.map λq=>q.2) :
  FL (IH H l (.lst (K3 a ++ [V.ref t]))) l (a ++ [(t,x,y)]) b:=by
 have:=h.put a.length c d f g;have e:(K3 a).length=a.length:=by unfold K3;rw[AA]
 rw[<-e,CK,List.drop_length,e,CK,List.drop_length]at this;exact this
def Oa(c:A1 Str):∀tt:A1 Str,(tt.flatMap λa=>c.map λb=>(a,b)).length=tt.length*c.length
 | []=>by simp
 | a::r=>by rw[List.flatMap_cons,AU,AA,Oa c r,BO,Nat.succ_mul];lia
def FL.len{H:Hp}{l:A2}{d:A1 JS}{c:A1 Str}(h:FL H l d c):d.length<=c.length*c.length:=by
 have:=h.nd.length_le_of_subset (l₂:=c.flatMap λa=>c.map λb=>(a,b)) (λk e=>by
  obtain⟨q,f,rfl⟩:=AJ.mp e;obtain⟨g,i⟩:=h.nm q f;exact List.mem_flatMap.mpr ⟨q.2.1,g,AJ.mpr ⟨q.2.2,i,rfl⟩⟩)
 rw[Oa,AA]at this;exact this
section
variable{P:A7}{w:F8}{K:PySem.W.Frag}{mg:Str->A5 A3}{base:IJ}
theorem zBd(a b d:Nat)(h1:a<5)(h2:b<4)(h:d<8):∃n:Nat,n<=12/\QU [V.int (8 +(a:Int)),V.int b,V.int 4,V.int 5,V.int 6,V.int 7,V.int 5,V.int 6] (d:Int)=some (.int (n:Int)):=by
 suffices ∃n:Nat,n<=12/\[V.int (8 +(a:Int)),V.int b,V.int 4,V.int 5,V.int 6,V.int 7,V.int 5,V.int 6][d]?=some (.int (n:Int)) by
  obtain⟨n,h,e⟩:=this;exact⟨n,h,E9 e⟩
 match d,h with
 | 0,_=>exact⟨8+a,by lia,by show some (V.int _)=_;rw[Int.natCast_add];rfl⟩
 | 1,_=>exact⟨b,by lia,rfl⟩
 | 2,_=>exact⟨4,by lia,rfl⟩
 | 3,_=>exact⟨5,by lia,rfl⟩
 | 4,_=>exact⟨6,by lia,rfl⟩
 | 5,_=>exact⟨7,by lia,rfl⟩
 | 6,_=>exact⟨5,by lia,rfl⟩
 | 7,_=>exact⟨6,by lia,rfl⟩
theorem OI:II ["_law_left_here", "_law_way"] ["_law_left_here"] (B7 PH):=KO
def Zr:Sp:=λb H Q _=>∃(p:A2) (c:Int),b = [.ref p]/\IT H p c/\c<=900000 /\
 ∀(n:Nat) a,n<=12->Sm [p] H a->IT a p (c+3)->Q (.int (n:Int)) a
theorem Jq(T:Tx K mg):IK P w K mg base IY 3 T.bh.f T.bh.fd ["_law_left_here"] Zr:=by
 refine T.bh.F.o1 OI λm A b s H G Q E g h=>?_
 .obtain⟨p,c,rfl,o,I,q⟩:=h;refine⟨_,(B3 (C2 (i:=1) OI.nd rfl (.inl rfl) (C7 T.am (D4 T) (Rm g) (A8 (pv 0) (A8 B8 B2))))
   (@B4 _ _ _ (@C1 _ _ _ _ (@M9 _ _ _ _ _ _ _ (P7 K) (@O8 _ _ _ _ (@A8 _ _ _ _ _ (D3 Bv B8 (C7 T.am (D4 T) (Rm g) (A8 (pv 0) (A8 B8 B2)))) (@A8 _ _ _ _ _ (C7 T.am (D4 T) (Rm g) (A8 (pv 0) (A8 B8 B2))) (@A8 _ _ _ _ _ B8 (@A8 _ _ _ _ _ B8 (@A8 _ _ _ _ _ B8 (@A8 _ _ _ _ _ B8 (@A8 _ _ _ _ _ B8 (@A8 _ _ _ _ _ B8 B2 (by rfl)) (by rfl)) (by rfl)) (by rfl)) (by rfl)) (by rfl)) (by rfl)) (by rfl))) (pv 1) (λ_ _=>rfl))))),?_⟩
  refine A6 rfl (q9 (a:=p) rfl o (by lia) (by decide) (by decide) λd J L r t=>?_);refine A6 rfl (q9 (a:=p) rfl t (by lia) (by decide) (by decide) λu M v x L2=>?_);refine C0 rfl rfl ?_;refine A6 rfl (q9 (a:=p) rfl L2 (by lia) (by decide) (by decide) λy N z B j=>?_);refine⟨by show 8<=sizeLine;decide,λl k=>?_⟩;obtain⟨n,C,e⟩:=zBd u y d (by lia) (by lia) (by lia);have D:=j.get;refine A6 rfl ⟨l,_,C0 rfl rfl ⟨IQ.of B1,e,?_⟩⟩;exact q n _ C (((r.trans x).trans B).new k) ((j.cast (by lia)).upd (A9 D k))
theorem IT.ne{H:Hp}{p n:A2}{c:Int}{d:A1 Str}(h:IT H p c)(f:H n=some (.lst (d.map V.str))):n≠p:=by
 rintro rfl;obtain⟨a,b,e,_⟩:=h;rw[f]at e;cases d with
 | nil=>cases e
 | cons x r=>cases e
theorem IT.neP{H:Hp}{p n:A2}{c:Int}{d:A1 JS}(h:IT H p c)(f:H n=some (.lst (K3 d))):n≠p:=by
 rintro rfl;obtain⟨a,b,e,_⟩:=h;rw[f]at e;cases d with
 | nil=>cases e
 | cons x r=>cases e
theorem Vs(d:Nat)(h:d<4):∃n:Nat,0<n/\n<=9/\QU [V.int 4,V.int 6,V.int 9,V.int 3] (d:Int)=some (.int (n:Int)):=by
 suffices ∃n:Nat,0<n/\n<=9/\[V.int 4,V.int 6,V.int 9,V.int 3][d]?=some (.int (n:Int)) by
  obtain⟨n,a,b,e⟩:=this;exact⟨n,a,b,E9 e⟩
 match d,h with
 | 0,_=>exact⟨4,by lia,by lia,rfl⟩
 | 1,_=>exact⟨6,by lia,by lia,rfl⟩
 | 2,_=>exact⟨9,by lia,by lia,rfl⟩
 | 3,_=>exact⟨3,by lia,by lia,rfl⟩
theorem JT:II ["_law_left_here", "_law_names_here", "_law_found", "_law_often", "_law_one", "_law_other"] ["_law_left_here", "_law_names_here"] (B7 NJ):=KO
def Oz(K:PySem.W.Frag):Sp:=λf H Q _=>∃(p n:A2) (c:Int) (b:A1 Str),f = [.ref p,.ref n]/\IT H p c/\c<=900000/\H n=some (.lst (b.map V.str))/\KC b/\b.length<=10 /\
 ∀l (d:A1 JS) e a,H l=none->Sm [p] H a->a l=some (.lst (K3 d))->(∀q∈d,F0 a q)->M_ b d->e<=c+1000->IT a p e->Q (.ref l) a
def SI(H:Hp)(p f:A2)(d:A1 Str)(b:Int)(a:Hp):Prop:=Sm [p] H a/\(∃c,c<=b/\IT a p c)/\∃e,FL a f e d
set_option maxHeartbeats 4000000 in
theorem Z0(T:Tx K mg):IK P w K mg base IY 3 T.aV.f T.aV.fd ["_law_left_here", "_law_names_here"] (Oz K):=by
 refine T.aV.F.o1 JT λcdv A outer s H vs Q E hr h=>?_
 .obtain⟨p,n,c,u,rfl,hL,c1,hn,hN,m,q⟩:=h;obtain⟨a0,b0,e0,c0⟩:=id hL;refine⟨_,(B3 (C2 (i:=2) JT.nd rfl (.inl rfl) (O8 B2))
   (B3 (C2 (i:=3) JT.nd rfl (.inl rfl) (M9 (P7 K) (O8 (A8 B8 (A8 B8 (A8 B8 (A8 B8 B2))))) (C7 T.am (D4 T) (Rm hr) (A8 (pv 0) (A8 B8 B2))) (λ_ _=>rfl)))
   (B3 (U2 PassesOwn.never rfl (OU K (pv 1)) (D6 (i:=4) JT.nd rfl (.inl rfl))
   (B3 (U2 PassesOwn.never rfl (OU K (pv 1)) (D6 (i:=5) JT.nd rfl (.inl rfl))
   (B4 (J7 (PW.pt (Cn (C8 Wg (pv 4) (pv 5) (E5 _)) (Cn (C8 T0 (C7 T.am (D4 T) (Rm hr) (A8 (pv 0) (A8 (pv 3) B2))) B8 (E5 _)) (u4 (C8 (Az K hr.units) (E8 (A8 (pv 4) (A8 (pv 5) B2))) (pv 2) rfl))))) (B3 (E2 (Fu K PySem.F.plainAttrs_list PySem.F.slot_list_insert PySem.F.type_list_insert Sh (pv 2) (A8 (C7 T.am (D4 T) (Rm hr) (A8 (pv 0) (A8 (D3 Bv (I9 (V5 K) T.aP U3 (A8 (pv 2) B2)) B8) B2))) (A8 (E8 (A8 (pv 4) (A8 (pv 5) B2))) B2))))
   (B4 (J7 (PW.pt (Cn (C8 T0 (C7 T.am (D4 T) (Rm hr) (A8 (pv 0) (A8 B8 B2))) B8 (E5 _)) (u4 (C8 (Az K hr.units) (E8 (A8 (pv 5) (A8 (pv 4) B2))) (pv 2) rfl)))) (B4 (E2 (Fu K PySem.F.plainAttrs_list PySem.F.slot_list_append PySem.F.type_list_append G8 (pv 2) (A8 (E8 (A8 (pv 5) (A8 (pv 4) B2))) B2)))) C3))) C3)))
   (B4 (J7 (PW.pt (Cn (C8 T0 (C7 T.am (D4 T) (Rm hr) (A8 (pv 0) (A8 B8 B2))) B8 (E5 _)) (u4 (C8 (Az K hr.units) (E8 (A8 (pv 4) (A8 (pv 4) B2))) (pv 2) rfl)))) (B4 (E2 (Fu K PySem.F.plainAttrs_list PySem.F.slot_list_append PySem.F.type_list_append G8 (pv 2) (A8 (E8 (A8 (pv 4) (A8 (pv 4) B2))) B2)))) C3))))
   (B4 (C1 (pv 2)))))),?_⟩
  refine⟨CB _,λf hf=>?_⟩;have z:p≠f:=A9 e0 hf;have nnf:n≠f:=A9 hn hf;have nnp:n≠p:=hL.ne hn;have nnD:n∉[p]:=by simpa using nnp
  have N:∀x∈u,PySem.PyData.strOk x=true:=λx L=>X3 (hN.1 x L);refine⟨by show 4<=sizeLine;decide,λt ht=>?_⟩;have s1:Cs H (IH (IH H f (.lst [])) t (.lst [.int 4,.int 6,.int 9,.int 3])):=(Cs.new hf).trans (Cs.new ht);have ef:(IH (IH H f (.lst [])) t (.lst [.int 4,.int 6,.int 9,.int 3])) f=some (.lst []):=by rw[B5 (A9 B1 ht),B1]
  refine A6 rfl (q9 (a:=p) (b:=c) rfl (hL.same s1) (by lia) (by decide) (by decide) λd C hd O W=>?_);obtain⟨S,o1,o2,eo⟩:=Vs d (by lia);have hpt:p≠t:=A9 ((Cs.new hf) _ _ e0) ht;refine⟨t,_,C0 rfl rfl ⟨IQ.of (KW O B1 hpt.symm),eo,?_⟩⟩;have i0:SI H p f u (c+1) C:=⟨s1.sm.trans O,⟨_,Int.le_refl _,W⟩,[],KW O ef z.symm,by simp,by simp,by simp⟩;have hseq:∀{C b},SI H p f u b C->IQ K C n (u.map V.str):=λh=>(h.1.at nnD).seqL (IQ.of hn);refine A6 rfl ⟨n,rfl,⟨_,hseq i0⟩,?_⟩;refine w9 (OW (K:=K) (IQ.of hn)) (λi σ C=>(∃v4 v5,σ = [some (.ref p),some (.ref n),some (.ref f),some (.int (S:Int)),v4,v5])/\SI H p f u (c+1+31*i) C) ?_ ?_ ?_ ?_
  .exact⟨⟨_,_,rfl⟩,by simpa using i0⟩
  .rintro i σ C hi ⟨_,X⟩;exact X.1.at nnD
  .rintro i σ C x L ⟨⟨v4,v5,rfl⟩,X⟩ D1 hD1 _;rw[AH]at L;obtain⟨g,ho,rfl⟩:∃y,u[i]?=some y/\V.str y=x:=by
    cases e:u[i]? with
    | none=>rw[e]at L;cases L
    | some y=>rw[e]at L;exact⟨y,rfl,by injection L⟩
   have r:g∈u:=AM ho;have hi:i<u.length:=(AF.mp ho).1;refine A6 rfl ⟨n,rfl,⟨_,hseq X⟩,?_⟩;refine w9 (OW (K:=K) (IQ.of hn)) (λj σ C=>(∃v5,σ = [some (.ref p),some (.ref n),some (.ref f),some (.int (S:Int)),some (.str g),v5])/\SI H p f u (c+1+31*i+3*j) C) ?_ ?_ ?_ ?_
   .exact⟨⟨_,rfl⟩,by simpa using X⟩
   .rintro i σ C hi ⟨_,X⟩;exact X.1.at nnD
   .rintro j σ C x L ⟨⟨v5,rfl⟩,X⟩ D2 M _;rw[AH]at L;obtain⟨l,ho,rfl⟩:∃y,u[j]?=some y/\V.str y=x:=by
     cases e:u[j]? with
     | none=>rw[e]at L;cases L
     | some y=>rw[e]at L;exact⟨y,rfl,by injection L⟩
    have J:l∈u:=AM ho;have hj:j<u.length:=(AF.mp ho).1;obtain⟨O,⟨c',Z,W⟩,v,Y⟩:=X;have done:∀{R c2 D},Sm [p] H R->c2<=c'+3->IT R p c2->FL R f D u->SI H p f u (c+1+31*i+3 *((j+1:Nat):Int)) R:=fun{R c2 D} a b d e=>⟨a,⟨c2,by lia,d⟩,D,e⟩;refine A6 rfl (A6 rfl ⟨rfl,A6 rfl ?_⟩);refine Q3 (λX=>?_) (λX=>i7 (M _ _ ⟨⟨_,rfl⟩,done O (by lia) W Y⟩));refine A6 rfl (A6 rfl (q9 (a:=p) (b:=c') rfl W (by lia) (by lia) (by lia) λd1 R hd1 k2 L2=>⟨rfl,_,rfl,?_⟩));have F2:=Y.sm W z.symm k2;refine Q3 (λh2=>?_) (λh2=>i7 (M _ _ ⟨⟨_,rfl⟩,done (O.trans k2) (by lia) L2 F2⟩));refine A6 rfl (A6 rfl ⟨by show 2<=sizeLine;decide,λt2 ht2=>?_⟩);have F3:=F2.new (o:=.tup [.str g,.str l]) ht2;have e2:=L2.get;have L3:=L2.upd (o:=.tup [.str g,.str l]) (A9 e2 ht2);have k3:=(O.trans k2).new (o:=.tup [.str g,.str l]) ht2;refine A6 rfl (Y0 (k:=(g,l)) B1 F3.at_ F3.pin ⟨N _ r,N _ J⟩ (λq hq=>⟨N _ (F3.nm q hq).1,N _ (F3.nm q hq).2⟩) ⟨_,rfl,?_⟩);refine Q3 (λh3=>?_) (λh3=>M _ _ ⟨⟨_,rfl⟩,done k3 (by lia) L3 F3⟩);have h3':(g,l)∉v.map λq=>q.2:=by simpa using h3
    have OD:=F3.len;have U:v.length<=100:=Nat.le_trans OD (Nat.mul_le_mul m m);have rl:(K3 v).length=v.length:=by unfold K3;rw[AA]
    refine A6 rfl ⟨.inl ⟨rfl,_,IQ.of F3.at_⟩,A6 rfl (A6 rfl (C0 (a:=f) rfl (.inl (IQ.of F3.at_)) (C0 rfl rfl (q9 (a:=p) (b:=c'+1) rfl L3 (by lia) (by lia) (by lia) λd2 H4 hd2 k4 L4=>?_))))⟩;have F4:=F3.sm L3 z.symm k4;refine A6 rfl (A6 rfl ⟨by show 2<=sizeLine;decide,λt3 ht3=>?_⟩);have F5:=F4.new (o:=.tup [.str g,.str l]) ht3;have e4:=L4.get;have L5:=L4.upd (o:=.tup [.str g,.str l]) (A9 e4 ht3);have k5:=(k3.trans k4).new (o:=.tup [.str g,.str l]) ht3;refine⟨f,_,_,d2,A6 rfl ⟨rfl,rfl,F5.at_,by lia,by rw[sizeLine_eq];lia,?_⟩⟩;have F6:=F5.put d2 B1 r J h3';have L6:=L5.upd (o:=.lst ((K3 v).take d2++V.ref t3 ::(K3 v).drop d2)) z;have k6:=k5.updN (o:=.lst ((K3 v).take d2++V.ref t3 ::(K3 v).drop d2)) hf;generalize hps:v.take d2 ++(t3,g,l)::v.drop d2=ps' at F6;refine A6 rfl (q9 (a:=p) rfl L6 (by lia) (by decide) (by decide) λd3 H7 hd3 k7 L7=>⟨rfl,_,rfl,?_⟩);have F7:=F6.sm L6 z.symm k7;refine Q3 (λh4=>?_) (λh4=>i7 (M _ _ ⟨⟨_,rfl⟩,done (k6.trans k7) (by lia) L7 F7⟩));refine A6 rfl (A6 rfl ⟨by show 2<=sizeLine;decide,λt4 G=>?_⟩);have B:=F7.new (o:=.tup [.str l,.str g]) G;have e7:=L7.get;have L8:=L7.upd (o:=.tup [.str l,.str g]) (A9 e7 G);have k8:=(k6.trans k7).new (o:=.tup [.str l,.str g]) G;refine A6 rfl (Y0 (k:=(l,g)) B1 B.at_ B.pin ⟨N _ J,N _ r⟩ (λq hq=>⟨N _ (B.nm q hq).1,N _ (B.nm q hq).2⟩) ⟨_,rfl,?_⟩);refine Q3 (λh5=>?_) (λh5=>M _ _ ⟨⟨_,rfl⟩,done k8 (by lia) L8 B⟩);have h5':(l,g)∉ps'.map λq=>q.2:=by simpa using h5
    have OD:=B.len;have U:ps'.length<=100:=Nat.le_trans OD (Nat.mul_le_mul m m);have rl:(K3 ps').length=ps'.length:=by unfold K3;rw[AA]
    refine A6 rfl ⟨.inl ⟨rfl,_,IQ.of B.at_⟩,A6 rfl (A6 rfl ⟨by show 2<=sizeLine;decide,λt5 I=>?_⟩)⟩;have F9:=B.new (o:=.tup [.str l,.str g]) I;have e8:=L8.get;have L9:=L8.upd (o:=.tup [.str l,.str g]) (A9 e8 I);have k9:=k8.new (o:=.tup [.str l,.str g]) I;refine⟨f,C0 rfl rfl ⟨F9.at_,by rw[sizeLine_eq];lia,M _ _ ⟨⟨_,rfl⟩,done (k9.updN hf) (by lia) (L9.upd z) (F9.app B1 J r h5')⟩⟩⟩
   .rintro σ C ⟨⟨v5,rfl⟩,O,⟨c',Z,W⟩,v,Y⟩;simp only[AA]at Z;have done:∀{R c2 D},Sm [p] H R->c2<=c'+1->IT R p c2->FL R f D u->SI H p f u (c+1+31 *((i+1:Nat):Int)) R:=fun{R c2 D} a b d e=>⟨a,⟨c2,by lia,d⟩,D,e⟩;refine A6 rfl (q9 (a:=p) (b:=c') rfl W (by lia) (by decide) (by decide) λd3 H7 hd3 k7 L7=>⟨rfl,_,rfl,?_⟩);have F7:=Y.sm W z.symm k7;refine Q3 (λh4=>?_) (λh4=>i7 (hD1 _ _ ⟨⟨_,_,rfl⟩,done (O.trans k7) (by lia) L7 F7⟩));refine A6 rfl (A6 rfl ⟨by show 2<=sizeLine;decide,λt4 G=>?_⟩);have B:=F7.new (o:=.tup [.str g,.str g]) G;have e7:=L7.get;have L8:=L7.upd (o:=.tup [.str g,.str g]) (A9 e7 G);have k8:=(O.trans k7).new (o:=.tup [.str g,.str g]) G;refine A6 rfl (Y0 (k:=(g,g)) B1 B.at_ B.pin ⟨N _ r,N _ r⟩ (λq hq=>⟨N _ (B.nm q hq).1,N _ (B.nm q hq).2⟩) ⟨_,rfl,?_⟩);refine Q3 (λh5=>?_) (λh5=>hD1 _ _ ⟨⟨_,_,rfl⟩,done k8 (by lia) L8 B⟩);have h5':(g,g)∉v.map λq=>q.2:=by simpa using h5
    have OD:=B.len;have U:v.length<=100:=Nat.le_trans OD (Nat.mul_le_mul m m);have rl:(K3 v).length=v.length:=by unfold K3;rw[AA]
    refine A6 rfl ⟨.inl ⟨rfl,_,IQ.of B.at_⟩,A6 rfl (A6 rfl ⟨by show 2<=sizeLine;decide,λt5 I=>?_⟩)⟩;have F9:=B.new (o:=.tup [.str g,.str g]) I;have e8:=L8.get;have L9:=L8.upd (o:=.tup [.str g,.str g]) (A9 e8 I);have k9:=k8.new (o:=.tup [.str g,.str g]) I;refine⟨f,C0 rfl rfl ⟨F9.at_,by rw[sizeLine_eq];lia,hD1 _ _ ⟨⟨_,_,rfl⟩,done (k9.updN hf) (by lia) (L9.upd z) (F9.app B1 r r h5')⟩⟩⟩
  .rintro σ C ⟨⟨v4,v5,rfl⟩,O,⟨c',Z,W⟩,v,Y⟩;simp only[AA]at Z;have OD:=Y.len;have U:v.length<=100:=Nat.le_trans OD (Nat.mul_le_mul m m);exact⟨_,rfl,q f v c' C hf O Y.at_ Y.pin ⟨Y.nm,Y.nd,by lia⟩ (by lia) W⟩
end
def QC(x y:Nat):Builtin.bitOr (x:Int) (y:Int) =((x ||| y:Nat):Int):=by
 have b:¬0<=Builtin.bitNot (x:Int):=by unfold Builtin.bitNot;lia
 have c:¬0<=Builtin.bitNot (y:Int):=by unfold Builtin.bitNot;lia
 have a:∀z:Int,Builtin.bitNot (Builtin.bitNot z)=z:=λz=>by unfold Builtin.bitNot;lia
 rw[Builtin.bitOr,PyProof.Rows.bitAnd_nn b c,a,a,a];rfl
def Tn(x y:Nat):Builtin.bitAnd (x:Int) (y:Int) =((x &&& y:Nat):Int):=by simp[Builtin.bitAnd]
def zJm(k:Nat):(1:Int)*2 ^((k:Int).toNat) =((2^k:Nat):Int):=by rw[Int.one_mul,HW,Int.natCast_pow];rfl
def O1(m:Nat):V:=.int (m:Int)
structure MB(ns:A1 Str)(ks:A1 (Str×Str))(B:A1 Nat):Prop where
 len:B.length=ns.length
 bit:∀i j,(B.getD i 0).testBit j=true↔∃k∈ks,ns[i]?=some k.1/\ns[j]?=some k.2
def l7{α:Type}{l:A1 α}(h:l.Nodup){i j:Nat}{x:α}(hi:l[i]?=some x)(c:l[j]?=some x):i=j:=by
 obtain⟨a,e⟩:=AF.mp hi;obtain⟨b,d⟩:=AF.mp c;exact(List.getElem_inj h).mp (e.trans d.symm)
def Lm{x y:Str}(h:x.cps.toList=y.cps.toList):x=y:=by
 cases x;cases y;exact congrArg Str.mk (Array.toList_inj.mp h)
def Xj{x y:Str}(h1:SB x y)(h2:SB y x):x=y:=Lm (IA (as:=x.cps.toList) (bs:=y.cps.toList) h1 h2)
def Do{a b:A1 Str}(h1:a.Pairwise SB)(h2:b.Pairwise SB)(h:a.Perm b):a=b:=HF (λ_ _ _ _=>Xj) h1 h2 h
def leK(k l:Str×Str):Prop:=SL (0,k) (0,l)
def Vy{k l:Str×Str}(h1:leK k l)(h2:leK l k):k=l:=by
 have h1:¬TS.KH (Uz (0,l)) (Uz (0,k))=true:=λz=>by rw[show TS.KH (Uz (0,l)) (Uz (0,k))=false from h1]at z;cases z
 have h2:¬TS.KH (Uz (0,k)) (Uz (0,l))=true:=λz=>by rw[show TS.KH (Uz (0,k)) (Uz (0,l))=false from h2]at z;cases z
 rw[TS.JL]at h1 h2;have a:k.1.cps.toList=l.1.cps.toList:=IA (as:=k.1.cps.toList) (bs:=l.1.cps.toList) (λz=>h1 (.inl z)) (λz=>h2 (.inl z));have b:k.2.cps.toList=l.2.cps.toList:=IA (as:=k.2.cps.toList) (bs:=l.2.cps.toList) (λz=>h1 (.inr ⟨a.symm,z⟩)) (λz=>h2 (.inr ⟨a,z⟩));exact Prod.ext (Lm a) (Lm b)
def Bj{a b:A1 JS}(h1:a.Pairwise SL)(h2:b.Pairwise SL)(h:a.Perm b):(a.map λq=>q.2)=b.map λq=>q.2 :=
 HF (le:=leK) (λ_ _ _ _=>Vy) (CC.mpr h1) (CC.mpr h2) (h.map _)
def Ge(ns:A1 Str)(m i:Nat):A1 Str:=(List.range i).filterMap λk=>if m.testBit k=true then ns[k]? else none
def JG(ns:A1 Str)(m:Nat):A1 Str:=Ge ns m ns.length
def y7{ns:A1 Str}{m i:Nat}{x:Str}(h:ns[i]?=some x):Ge ns m (i+1)=Ge ns m i++if m.testBit i=true then [x]else []:=by
 unfold Ge;rw[EW,List.filterMap_append];congr 1;by_cases e:m.testBit i=true
 .rw[AO e];simp[e,h]
 .rw[AN e];simp[e]
def P6{ns:A1 Str}{m:Nat}{x:Str}:x∈JG ns m↔∃k,m.testBit k=true/\ns[k]?=some x:=by
 unfold JG Ge;rw[List.mem_filterMap];constructor
 .rintro⟨k,a,e⟩;by_cases h:m.testBit k=true
  .rw[AO h]at e;exact⟨k,h,e⟩
  .rw[AN h]at e;cases e
 .rintro⟨k,h,e⟩;exact⟨k,BW.mpr (AF.mp e).1,by rw[AO h];exact e⟩
def Bu(ns:A1 Str)(m:Nat):∀i,i<=ns.length->(Ge ns m i).Sublist (ns.take i)
 | 0,_=>by simp[Ge]
 | i+1,h=>by
  have a:ns[i]?=some ns[i]:=AC (by lia);rw[y7 a,I7 a];refine(Bu ns m i (by lia)).append ?_;by_cases e:m.testBit i=true
  .rw[AO e];exact List.Sublist.refl _
  .rw[AN e];exact List.nil_sublist _
def o9(ns:A1 Str)(m:Nat):(JG ns m).Sublist ns:=by
 have:=Bu ns m ns.length (Nat.le_refl _)
 rwa [CK]at this
def W0(B:A1 Nat)(m j:Nat):Prop:=∃k,m.testBit k=true/\(B.getD k 0).testBit j=true
def Kd(n:Nat)(A B:A1 Nat)(m j:Nat):Prop:=j<n/\∀b,(A.getD j 0).testBit b=true->W0 B m b
def Nw(B:A1 Nat)(m:Nat):Prop:=∀i j,m.testBit i=true->m.testBit j=true->¬(B.getD i 0).testBit j=true
def P9(d k j:Nat):(d ||| 2^k).testBit j=true↔d.testBit j=true\/j=k:=by
 rw[BR,CG,D_,BX];exact⟨λh=>h.imp id Eq.symm,λh=>h.imp id Eq.symm⟩
def zBn{H H':Hp}{p:A2}{c:Int}{q:JS}(h:F0 H q)(L:IT H p c)(s:Sm [p] H H'):F0 H' q:=by
 obtain⟨x,y,e,_⟩:=L;exact KW s h (S0 h e (by intro z;cases z))
def sd(a:A1 Str):PyData:=.list (a.map PyData.str)
def Mi{K:PySem.W.Frag}{H:Hp}:∀a:A1 Str,PU K H (a.map PyData.str) (a.map V.str)
 | []=>by simp[PU]
 | x::r=>by
  simp only[BB,PU,Rp];exact⟨_,_,rfl,rfl,Mi r⟩
def Ti{K:PySem.W.Frag}{H:Hp}{l:A2}{a:A1 Str}(h:IQ K H l (a.map V.str)):Rp K H (sd a) (.ref l):=by
 unfold sd;simp only[Rp];exact⟨l,_,rfl,h,Mi a⟩
def y4:∀a:A1 Str,PyData.depthAll (a.map PyData.str)<=1
 | []=>by simp[PyData.depthAll]
 | x::r=>by
  have:=y4 r;simp only[BB,PyData.depthAll,PyData.depth];lia
def Lw:∀{a:A1 Str},(∀x∈a,PySem.PyData.strOk x=true)->PyData.canLayAll0 (a.map PyData.str)=true
 | [],_=>rfl
 | x::r,h=>by
  rw[BB,PyData.canLayAll0,Lw λz b=>h z (BA _ b)];simp[PyData.canLay0,h x (BE ..)]
def Sc{a:A1 Str}(h:∀x∈a,P5 x=true):Pl (sd a):=by
 refine⟨?_,?_⟩
 .unfold sd;rw[PyData.canLay0];exact Lw λx b=>X3 (h x b)
 .unfold sd;rw[PyData.depth];have:=y4 a;lia
def pB(p:Prop):Bool:=@decide p (Classical.propDecidable p)
def LB{p:Prop}:pB p=true↔p:=@BX p (Classical.propDecidable p)
def zCn{p:Prop}{b:Bool}(h:b=true↔p):b=pB p:=BP.mpr (h.trans LB.symm)
def Sv:∀(j a b:Nat),(∀j,a.testBit j=true->¬b.testBit j=true)->(a+b).testBit j =(a.testBit j||b.testBit j)
 | 0,a,b,h=>by
  have c:=h 0;rw[CT,CT,BX,BX]at c;rw[CT,CT,CT,<-Bool.decide_or];exact decide_eq_decide.mpr ⟨λz=>by lia,λz=>by lia⟩
 | j+1,a,b,h=>by
  have c:=h 0;rw[CT,CT,BX,BX]at c;rw[DF,DF,DF,show(a+b) / 2=a / 2+b / 2 by lia];exact Sv j (a / 2) (b / 2) λi=>by have:=h (i+1);rw[DF,DF]at this;exact this
def Bk:∀{l:A1 Nat},l.Nodup->∀j,((l.map λk=>2^k).sum).testBit j=true↔j∈l
 | [],_,j=>by simp
 | k::l,b,j=>by
  obtain⟨c,d⟩:=CL.mp b;have a:=Bk d;rw[BB,HG,Nat.add_comm,Sv j _ _ λi z y=>?_,CG,a,D_,BX,AL];rotate_left
  .rw[D_,BX]at y;exact c (y▸(a i).mp z)
  exact⟨λh=>h.elim .inr λe=>.inl e.symm,λh=>h.elim (λe=>.inr e.symm) .inl⟩
def zAi:∀(s:Nat),0<s->∃k,s.testBit k=true/\s-(s &&&(s-1))=2^k/\∀i,i<k->¬s.testBit i=true:=by
 intro s
 induction s using Nat.strongRecOn with
 | _ s b =>
  intro h;by_cases o:s % 2=1
  .refine⟨0,by rw[CT];exact AX o,?_,λi a=>absurd a (Nat.not_lt_zero _)⟩;have e:s &&&(s-1)=s-1:=BL λi=>by
    rw[CV];cases i with
    | zero=>rw[CT,CT,BC (by lia:¬(s-1) % 2=1),HX]
    | succ i=>rw[DF,DF,show(s-1) / 2=s / 2 by lia,Bool.and_self]
   rw[e];lia
  .obtain⟨k,c,f,d⟩:=b (s / 2) (by lia) (by lia);refine⟨k+1,by rw[DF];exact c,?_,λi a=>by
    cases i with
    | zero=>rw[CT,BX];exact o
    | succ i=>rw[DF];exact d i (by lia)⟩
   have e:s &&&(s-1)=2 *(s / 2 &&&(s / 2-1)):=BL λi=>by
    rw[CV];cases i with
    | zero=>rw[CT,CT,BC o,EQ,CT,BC (by lia)]
    | succ i=>rw[DF,DF,DF,Nat.mul_div_cancel_left _ (by decide),CV,show(s-1) / 2=s / 2-1 by lia]
   have:s / 2 &&&(s / 2-1)<=s / 2:=Nat.and_le_left;rw[e,Nat.pow_succ];lia
def JW(n m:Nat):Prop:=∀j,m.testBit j=true->j<n
def JW.or{n m k:Nat}(h:JW n m)(b:k<n):JW n (m ||| 2^k):=λj a=>((P9 m k j).mp a).elim (h j) λe=>by lia
def JW.zero(n:Nat):JW n 0:=λj a=>by rw[DG]at a;cases a
def JW.lt{n m:Nat}(h:JW n m):m<2^n:=Nat.lt_pow_two_of_testBit m λi a=>BQ.mpr λz=>by have:=h i z;lia
structure RM(n:Nat)(A B:A1 Nat):Prop where
 tr:∀i j,(A.getD i 0).testBit j=true↔(B.getD j 0).testBit i=true
 lt:∀i j,(B.getD i 0).testBit j=true->i<n/\j<n
def MB.net{ns:A1 Str}{ks:A1 (Str×Str)}{A B:A1 Nat}(a:MB ns (ks.map λk=>(k.2,k.1)) A)(b:MB ns ks B):RM ns.length A B:=by
 refine⟨λi j=>?_,λi j h=>?_⟩
 .rw[a.bit,b.bit];constructor
  .rintro⟨_,e,c,d⟩;obtain⟨k,f,rfl⟩:=AJ.mp e;exact⟨k,f,d,c⟩
  .rintro⟨k,e,c,d⟩;exact⟨_,AJ.mpr ⟨k,e,rfl⟩,d,c⟩
 .obtain⟨k,_,c,d⟩:=(b.bit i j).mp h;exact⟨(AF.mp c).1,(AF.mp d).1⟩
def KI(n:Nat)(A B:A1 Nat)(m:Nat):Prop:=JW n m/\Nw B m/\∀j,m.testBit j=true->Kd n A B m j
def JD(c b m:Nat):Prop:=(∀j,c.testBit j=true->m.testBit j=true)/\∀j,m.testBit j=true->¬b.testBit j=true
def Sub(c a:Nat):Prop:=∀j,c.testBit j=true->a.testBit j=true
def JD.mono{c a b d m:Nat}(h:JD a d m)(e:Sub c a)(f:Sub b d):JD c b m:=⟨λj z=>h.1 j (e j z),λj z y=>h.2 j z (f j y)⟩
def Rr(n:Nat)(A B:A1 Nat)(c b:Nat):Prop:=(∀j,W0 B c j->b.testBit j=true)/\(∀j,W0 A c j->b.testBit j=true) /\
 ∀i j,i<n->(¬∃k,k<n/\¬b.testBit k=true/\(B.getD k 0).testBit i=true)->(B.getD i 0).testBit j=true->b.testBit j=true
def Qn{n:Nat}{A B:A1 Nat}(N:RM n A B){c b m:Nat}(h:KI n A B m)(f:JD c b m):(∀j,W0 B c j->¬m.testBit j=true)/\(∀j,W0 A c j->¬m.testBit j=true) /\
  ∀i j,i<n->(¬∃k,k<n/\¬b.testBit k=true/\(B.getD k 0).testBit i=true)->(B.getD i 0).testBit j=true->¬m.testBit j=true:=by
 obtain⟨lo,d,g⟩:=h;refine⟨λj ⟨k,a,e⟩ z=>d k j (f.1 k a) z e,λj ⟨k,a,e⟩ z=>d j k z (f.1 k a) ((N.tr k j).mp e),λi j p l e z=>?_⟩;obtain⟨k,a,o⟩:=(g j z).2 i ((N.tr j i).mpr e);exact l ⟨k,lo k a,f.2 k a,o⟩
def Du{n:Nat}{A B:A1 Nat}(N:RM n A B){c b:Nat}(lo:JW n c)(s:Rr n A B c b)(a:∀j,c.testBit j=true->¬b.testBit j=true)(g:∀j,j<n->c.testBit j=true\/b.testBit j=true):KI n A B c:=by
 obtain⟨l,t,m⟩:=s;refine⟨lo,λi j o f e=>a j f (l j ⟨i,o,e⟩),λj f=>⟨lo j f,λx p=>?_⟩⟩;have d:=(N.tr j x).mp p;by_cases h:W0 B c x
 .exact h
 .refine absurd (m x j (N.lt x j d).1 (λ⟨k,q,r,e⟩=>h ⟨k,(g k q).resolve_right r,e⟩) d) (a j f)
def Il{n c b m:Nat}(lo:JW n m)(a:∀j,j<n->c.testBit j=true\/b.testBit j=true)(f:JD c b m):m=c:=BL λj=>by
 rw[BP];exact⟨λh=>(a j (lo j h)).resolve_right (f.2 j h),f.1 j⟩
def NC{c b m k:Nat}:JD (c ||| 2^k) b m↔JD c b m/\m.testBit k=true:=by
 constructor
 .rintro⟨a,d⟩;exact⟨⟨λj z=>a j (by rw[BR,z];rfl),d⟩,a k (by rw[BR,DM,Bool.or_true])⟩
 .rintro⟨⟨a,d⟩,f⟩;exact⟨λj z=>((P9 c k j).mp z).elim (a j) λe=>e▸f,d⟩
def LX{c b m k:Nat}:JD c (b ||| 2^k) m↔JD c b m/\¬m.testBit k=true:=by
 constructor
 .rintro⟨d,a⟩;exact⟨⟨d,λj z y=>a j z (by rw[BR,y];rfl)⟩,λz=>a k z (by rw[BR,DM,Bool.or_true])⟩
 .rintro⟨⟨d,a⟩,f⟩;exact⟨d,λj z y=>((P9 b k j).mp y).elim (a j z) λe=>f (e▸z)⟩
def TF(n c b:Nat):Nat:=(List.range n).countP λi=>!c.testBit i&&!b.testBit i
def Np{n c a b d:Nat}(e:Sub c a)(f:Sub b d):TF n a d<=TF n c b:=List.countP_mono_left λi _ h=>by
 rw[BT,EO,EO]at h⊢;exact⟨BQ.mpr λz=>BQ.mp h.1 (e i z),BQ.mpr λz=>BQ.mp h.2 (f i z)⟩
def Oh{n c a b d k:Nat}(j:Sub c a)(m:Sub b d)(o:k<n)(f:¬c.testBit k=true/\¬b.testBit k=true)(h1:a.testBit k=true\/d.testBit k=true):TF n a d < TF n c b:=by
 unfold TF;have r:=BW.mpr o;obtain⟨s,t,e⟩:=List.append_of_mem r;rw[e,List.countP_append,List.countP_append,List.countP_cons,List.countP_cons];have g:=λl:A1 Nat=>List.countP_mono_left (l:=l) (p:=λi=>!a.testBit i&&!d.testBit i) (q:=λi=>!c.testBit i&&!b.testBit i) λi _ h=>by
  rw[BT,EO,EO]at h⊢;exact⟨BQ.mpr λz=>BQ.mp h.1 (j i z),BQ.mpr λz=>BQ.mp h.2 (m i z)⟩
 have w:=g s;have x:=g t;have u:(!a.testBit k&&!d.testBit k)=false:=by
  rcases h1 with h | h<;>rw[h]<;>simp
 have v:(!c.testBit k&&!b.testBit k)=true:=by
  rw[BQ.mpr f.1,BQ.mpr f.2];rfl
 rw[u,v,AN (by decide),AO rfl];lia
def Ko(m i:Nat):((Builtin.bitAnd ((2^i:Nat):Int) (m:Int)) != 0)=m.testBit i:=by
 rw[Tn];have e:(2^i &&& m)=if m.testBit i=true then 2^i else 0:=BL λj=>by
  rw[CV,D_];by_cases h:m.testBit i=true
  .rw[AO h,D_];by_cases c:i=j
   .subst c;rw[h,Bool.and_true]
   .rw[BC c,EQ]
  .rw[AN h,DG];by_cases c:i=j
   .subst c;rw[BQ.mpr h,HX]
   .rw[BC c,EQ]
 rw[e];have p:0<2^i:=Nat.pow_pos (by decide);by_cases h:m.testBit i=true
 .rw[AO h,h,bne_iff_ne];lia
 .rw[AN h,BQ.mpr h];rfl
def Yo(x y:Nat)(h:∀j,y.testBit j=true->x.testBit j=true):∃z:Nat,Builtin.bitXor (x:Int) (y:Int) =(z:Int)/\∀j,z.testBit j=true↔x.testBit j=true/\¬y.testBit j=true:=by
 have b:∀j,(x ^^^ y).testBit j=true↔x.testBit j=true/\¬y.testBit j=true:=λj=>by
  rw[Nat.testBit_xor];cases d:x.testBit j<;>cases f:y.testBit j<;>simp;exact absurd (h j f) (by rw[d];decide)
 refine⟨x ^^^ y,?_,b⟩;have e:(x ^^^ y)+y=x:=BL λj=>by
  rw[Sv j _ _ λi z=>((b i).mp z).2,BP,CG,b];exact⟨λz=>z.elim (·.1) (h j),λz=>by by_cases c:y.testBit j=true<;>simp[z,c]⟩
 have a:x &&& y=y:=BL λj=>by
  rw[CV,BP,BT];exact⟨(·.2),λz=>⟨h j z,z⟩⟩
 rw[PyProof.Rows.bitXor_and,Tn,a];lia
def bK(M:A1 Nat)(n:Nat):A1 (IZ×V):=(List.range n).map λi=>((Sum.inl ((2^i:Nat):Int):IZ),O1 (M.getD i 0))
def Qc{i j:Nat}(h:((2^i:Nat):Int) =((2^j:Nat):Int)):i=j:=(Nat.pow_right_inj (by decide)).mp (Int.ofNat_inj.mp h)
def Ma(M:A1 Nat):∀{n i:Nat},i<n->V3 (bK M n) (.inl ((2^i:Nat):Int))=some (O1 (M.getD i 0))
 | n+1,i,h=>by
  unfold V3 bK;rw[EW,AK,List.find?_append];by_cases c:i<n
  .have a:=Ma M c;unfold V3 bK at a;cases e:(List.find? (λb:IZ×V=>decide (b.1=Sum.inl ((2^i:Nat):Int))) ((List.range n).map λi=>((Sum.inl ((2^i:Nat):Int):IZ),O1 (M.getD i 0))))with
   | none=>rw[e]at a;cases a
   | some q=>rw[e]at a;rw[Option.some_or];exact a
  .have e:i=n:=by lia
   subst e;rw[List.find?_eq_none.mpr λq d z=>?_,Option.none_or]
   .rw[BB,FF,AX rfl];rfl
   .obtain⟨k,f,rfl⟩:=AJ.mp d;have:=Qc (Sum.inl.inj (BJ z));have:=BW.mp f;lia
def mf(a b c d:A2)(n L:Nat):A1 (Str×V):=[("names",.ref a),("full",O1 (2^n-1)),("bit_of",.ref b),("strikers_of",.ref c),("struck_of",.ref d),("loops",O1 L)]
structure F1(C:A2)(H:Hp)(x c:A2)(ns:A1 Str)(A B:A1 Nat)(L:Nat):Prop where
 ex:∃dx a b d kb,H x=some (.ins C dx (mf a b c d ns.length L))/\H a=some (.lst (ns.map V.str))/\Rd H b (.dK kb)/\(∀i n,ns[i]?=some n->V3 kb (.inr n)=some (O1 (2^i)))/\Rd H c (.dK (bK A ns.length))/\H d=some (.dK (bK B ns.length))/\d≠c/\b≠c
 net:RM ns.length A B
 nd:ns.Nodup
 len:ns.length<=100
 loops:∀j,L.testBit j=true↔(A.getD j 0).testBit j=true
def Vp{H:Hp}{a c:A2}{b:A1 (IZ×V)}{o:HO}(r:Rd H c (.dK b))(h:H a=some o)(e:∀b,o≠ .dK b)(f:∀d u,o≠ .frz d u):a≠c:=by
 rintro rfl;rcases r with r | ⟨d,r⟩
 .rw[h]at r;exact e _ (BN r)
 .rw[h]at r;exact f _ _ (BN r)
def zHc{H H':Hp}{b c:A2}{u:HO}(r:Rd H b u)(s:Sm [c] H H')(n:b≠c):Rd H' b u:=r.imp (λh=>KW s h n) λ⟨o,h⟩=>⟨o,KW s h n⟩
def F1.fz{C:A2}{H H':Hp}{x c:A2}{ns:A1 Str}{A B:A1 Nat}{L:Nat}(h:F1 C H x c ns A B L)(s:Sm [c] H H')(r:Rd H' c (.dK (bK A ns.length))):F1 C H' x c ns A B L:=by
 obtain⟨⟨k,a,b,d,l,e,f,m,n,g,o,i,j⟩,p,q,t,u⟩:=h;exact⟨⟨k,a,b,d,l,KW s e (Vp g e (λ_ z=>by cases z) λ_ _ z=>by cases z),KW s f (Vp g f (λ_ z=>by cases z) λ_ _ z=>by cases z),zHc m s j,n,r,KW s o i,i,j⟩,p,q,t,u⟩
def F1.same{C:A2}{H H':Hp}{x c:A2}{ns:A1 Str}{A B:A1 Nat}{L:Nat}(h:F1 C H x c ns A B L)(s:Cs H H'):F1 C H' x c ns A B L :=
 h.fz s.sm (let⟨_,_,_,_,_,_,_,_,_,a,_⟩:=h.ex;a.imp (s _ _) λ⟨o,e⟩=>⟨o,s _ _ e⟩)
def D8(m i:Nat):A1 Nat:=(List.range i).filter λk=>m.testBit k
def U6(m i:Nat):D8 m (i+1)=D8 m i++if m.testBit i=true then [i]else []:=by
 unfold D8;rw[EW,EI,DL,List.filter_nil]
def M0(m i:Nat):(D8 m i).length<=i:=Nat.le_trans (CH ..) (by rw[CD];exact Nat.le_refl _)
section
variable{P:A7}{w:F8}{K:PySem.W.Frag}{mg:Str->A5 A3}{base:IJ}
theorem Ar:II ["self", "some"] ["self", "some"] (B7 MQ):=KO
def u8(C:A2):Sp:=λd H Q _=>∃(x c:A2) (b:A1 Str) (A B:A1 Nat) (L m:Nat),d = [.ref x,.int (m:Int)]/\F1 C H x c b A B L/\∀l a,H l=none->Sm [c] H a->F1 C a x c b A B L->a l=some (.lst ((D8 m b.length).map λk=>O1 (2^k)))->Q (.ref l) a
theorem E4(T:Tx K mg):IK P w K mg base IY 1 T.ad.f T.ad.fd ["self", "some"] (u8 T.ab):=by
 refine T.ad.F.o1 Ar λW A p s H vs Q E hr h=>?_
 .obtain⟨x,c,e,A,B,L,m,rfl,r,q⟩:=h;obtain⟨X,a,b,d,kb,Y,e2,e3,e4,Z,e6,n1,n2⟩:=r.ex;have ln:=r.len;refine⟨_,(B4 (C1 (U1 (N':=["bit", "some"]) (cap:=[none,some 1]) (cl:=[("some",_)]) (Q1 ⟨⟨rfl,rfl,rfl,rfl⟩,trivial⟩ ⟨rfl,trivial⟩) rfl (Zq (NS K (pv 0))) (λ_ _ _ _=>by exact⟨(NR 0),(Ca (RR K (D3 Q0 (pv 0) (pv 1)))),(pv 0)⟩)))),?_⟩;refine A6 rfl ⟨x,T.ab,X,_,A6 rfl ⟨Y,T.ac,T.aL,rfl,c,_,rfl,Z,λo D j=>?_⟩⟩;have t:D≠c:=λz=>by rw[z,B1]at j;cases j
  have u:Sm [c] H (IH H c (.frz o (.dK (bK A e.length)))):=(Sm.refl _ _).upd (by simp);have O:Rd (IH H c (.frz o (.dK (bK A e.length)))) c (.dK (bK A e.length)):=.inr ⟨o,B1⟩;have C:(IH H c (.frz o (.dK (bK A e.length)))) c=some (.frz o (.dK (bK A e.length))):=B1;have I:H D=none:=by rw[B5 t]at j;exact j
  have R:=r.fz u O;generalize IH H c (.frz o (.dK (bK A e.length)))=H1 at j u O C R⊢;have S:(bK A e.length).length=e.length:=by unfold bK;rw[AA,CD]
  refine Ce (n:=e.length) (λi σ G=>(∃U,σ = [U,some (.int (m:Int))])/\Cs H1 G/\G D=some (.lst ((D8 m i).map λk=>O1 (2^k)))) ⟨⟨_,rfl⟩,Cs.new j,B1⟩ ?_ ?_ ?_ ?_
  .rintro i σ G J ⟨_,g,_⟩;exact⟨g _ _ C,by rw[S];exact J⟩
  .rintro σ G ⟨_,g,_⟩;exact⟨g _ _ C,by rw[S];exact Nat.le_refl _⟩
  .rintro i σ G y H' N J ⟨⟨U,rfl⟩,g,l⟩ ⟨rfl,k,v,M,rfl⟩ V;unfold bK at M;rw[AH,List.getElem?_range J]at M;obtain⟨rfl,rfl⟩:=Prod.mk.inj (BN M);refine A6 rfl (A6 rfl (C0 rfl rfl ⟨_,rfl,?_⟩));dsimp only;rw[Ko];have hl:=M0 m i;refine Q3 (λz=>A6 rfl ⟨_,l,by rw[AA,sizeLine_eq];lia,V _ _ ⟨⟨_,rfl⟩,g.upd j,?_⟩⟩) (λz=>V _ _ ⟨⟨_,rfl⟩,g,?_⟩)
   .rw[B1,U6,AO z,AK];rfl
   .rw[U6,AN z,CA];exact l
  .rintro σ G ⟨_,g,l⟩;exact q D G I (u.trans g.sm) (R.same g) l
end
def zEr{α:Type}{J:It}{b:A1 α}{r:α->V}(f:α->V){a D:A2}{H:Hp}(as:LY J (b.map r) a H){j:TT}{k:TE}{c:St}{l:A5 V}{Q:St->Hp->Prop}(p:α->Bool)(z:b.length<=5000)(m:H D=none)
  (A:∀y∈b,∀G,Cs H G->∀M:Bool->Hp->Prop,(∀e,Cs G e->M (p y) e)->j (some (r y)::c) G M) (B:∀y∈b,∀G,Cs H G->∀M:VK,(∀e,Cs G e->M (f y) e)->k (some (r y)::c) G M)
  (q:∀σ G,Cs H G->G D=some (.lst ((b.filter p).map f))->Q σ G):Ji (W8 0) j (Cp D k) J (l::c) (IH H D (.lst [])) Q:=by
 refine V1 as (λi σ G=>(∃v,σ=v::c)/\Cs H G/\G D=some (.lst (((b.take i).filter p).map f))) ⟨⟨_,rfl⟩,Cs.new m,B1⟩ (λi σ G _ h=>h.2.1.at a) ?_ ?_
 .rintro i σ G v N n ⟨⟨l,rfl⟩,d,g⟩ o;rw[AH]at n;obtain⟨y,s,rfl⟩:=BF.mp n;have t:=AM s;refine A y t G d _ λe u=>?_;have g:=u _ _ g;have d:=d.trans u;have w:(b.take (i+1)).filter p =(b.take i).filter p++if p y=true then [y]else []:=by
   rw[I7 s,EI,DL,List.filter_nil]
  have C:=CH p (b.take i);rw[AW]at C;refine Q3 (λc=>B y t e d _ λE x=>⟨_,x _ _ g,by rw[AA,sizeLine_eq];lia,o _ _ ⟨⟨_,rfl⟩,(d.trans x).upd m,?_⟩⟩) (λc=>o _ _ ⟨⟨_,rfl⟩,d,?_⟩)
  .rw[B1,w,AO c,AK];rfl
  .rw[w,AN c,CA];exact g
 .rintro σ G ⟨_,d,g⟩;rw[AA,CK]at g;exact q σ G d g
def Um{α:Type}{J:It}{d:A1 α}{r:α->V}(f:α->V){a D:A2}{H:Hp}(as:LY J (d.map r) a H){h:TT}{i:TE}{c:St}{k:A5 V}{Q:St->Hp->Prop}(p:α->Bool)(g:d.length<=5000)(l:H D=none)
  (m:∀y∈d,∀G,Cs H G->∀M:Bool->Hp->Prop,(∀j,Cs G j->M (p y) j)->h (some (r y)::c) G M) (n:∀y∈d,∀G,Cs H G->∀M:VK,M (f y) G->i (some (r y)::c) G M)
  (q:∀σ G,Cs H G->G D=some (.lst ((d.filter p).map f))->Q σ G):Ji (W8 0) h (Cp D i) J (k::c) (IH H D (.lst [])) Q :=
 zEr f as p g l m (λy t G s M u=>n y t G s M (u G λb o e=>e)) q
def JM{m n k:Nat}:k∈D8 m n↔k<n/\m.testBit k=true:=by
 unfold D8;rw[BH,BW]
def I0(n j:Nat):(2^n-1).testBit j=true↔j<n:=by rw[Nat.testBit_two_pow_sub_one,BX]
section
variable{P:A7}{w:F8}{K:PySem.W.Frag}{mg:Str->A5 A3}{base:IJ}
theorem w8:II ["self", "some"] ["self", "some"] (B7 LU):=KO
def b9(C:A2):Sp:=λd H Q _=>∃(x c:A2) (b:A1 Str) (A B:A1 Nat) (L m:Nat),d = [.ref x,.int (m:Int)]/\F1 C H x c b A B L/\∀l a,H l=none->Cs H a->a l=some (.lst ((JG b m).map V.str))->Q (.ref l) a
theorem M8(T:Tx K mg):IK P w K mg base IY 1 T.ai.f T.ai.fd ["self", "some"] (b9 T.ab):=by
 refine T.ai.F.o1 w8 λS A l s H vs Q E U h=>?_
 .obtain⟨x,c,t,A,B,L,m,rfl,u,q⟩:=h;have W:=Y7 U;obtain⟨v,a,b,d,C,I,J,X,Y,e5,e6,n1,n2⟩:=u.ex;have ln:=u.len;refine⟨_,(B4 (C1 (U1 (N':=["name", "some", "self"]) (cap:=[none,some 1,some 0]) (cl:=[("some",_),("self",_)]) (Q1 ⟨⟨rfl,rfl,rfl,rfl⟩,⟨⟨rfl,rfl,rfl,rfl⟩,trivial⟩⟩ ⟨rfl,⟨rfl,trivial⟩⟩) rfl (OU K (NS K (pv 0))) (λ_ _ _ _=>by exact⟨(NR 0),(Ca (RR K (D3 Q0 (O0 W (NS K (pv 2)) (pv 0) (λ_ _=>rfl)) (pv 1)))),(pv 0)⟩)))),?_⟩;refine A6 rfl ⟨x,T.ab,v,_,A6 rfl ⟨I,T.ac,T.aS,rfl,a,rfl,⟨_,IQ.of J⟩,λD p=>?_⟩⟩;refine V1 (OW (IQ.of J)) (λi σ G=>(∃M,σ = [M,some (.int (m:Int)),some (.ref x)])/\Cs H G/\G D=some (.lst ((Ge t m i).map V.str))) ⟨⟨_,rfl⟩,Cs.new p,B1⟩ (λi σ G _ h=>h.2.1.at a) ?_ ?_
  .rintro i σ G y N O ⟨⟨M,rfl⟩,g,j⟩ R;rw[AH]at O;obtain⟨n,k,rfl⟩:=BF.mp O;have li:=(AF.mp k).1;have Z:Rd G b (.dK C):=X.imp (g _ _) λ⟨o,e⟩=>⟨o,g _ _ e⟩;refine A6 rfl ⟨x,T.ab,v,_,A6 rfl ⟨g _ _ I,T.ac,T.bb,rfl,A6 rfl ⟨b,_,rfl,.inl ⟨C,.inr n,Z,rfl,(Y i n k).symm⟩,A6 rfl (C0 rfl rfl ⟨_,rfl,?_⟩)⟩⟩⟩;dsimp only;rw[Ko];have r:=(Bu t m i (by lia)).length_le;rw[AW]at r;refine Q3 (λz=>A6 rfl ⟨_,j,by rw[AA,sizeLine_eq];lia,R _ _ ⟨⟨_,rfl⟩,g.upd p,?_⟩⟩) (λz=>R _ _ ⟨⟨_,rfl⟩,g,?_⟩)
   .rw[B1,y7 k,AO z,AK];rfl
   .rw[y7 k,AN z,CA];exact j
  .rintro σ G ⟨_,g,j⟩;rw[AA]at j;exact q D G p g j
theorem NB:II ["sets", "whole", "one"] ["sets"] (B7 QF):=KO
def Rh(K:PySem.W.Frag):Sp:=λb H Q _=>∃(l:A2) (a:A1 Nat),b = [.ref l]/\H l=some (.lst (a.map O1))/\∀r:Nat,(∀j,r.testBit j=true↔∃z∈a,z.testBit j=true)->Q (.int (r:Int)) H
theorem Hb(T:Tx K mg):IK P w K mg base IY 1 T.bl.f T.bl.fd ["sets"] (Rh K):=by
 refine T.bl.F.o1 NB λu A c s H B Q E a h=>?_
 .obtain⟨l,v,rfl,p,q⟩:=h;refine⟨_,(B3 (C2 (i:=1) NB.nd rfl (.inl rfl) B8)
   (B3 (U2 PassesOwn.never rfl (OU K (pv 0)) (D6 (i:=2) NB.nd rfl (.inl rfl))
   (B4 (zFi (i:=1) NB.nd rfl (Or.inl rfl) (pv 2) zHt)))
   (B4 (C1 (pv 1))))),?_⟩
  refine B6 λC d=>?_;refine d _ _ (B6 λD g=>?_);refine A6 rfl ⟨l,rfl,⟨_,IQ.of p⟩,?_⟩;refine w9 (OW (K:=K) (IQ.of p)) (λi σ G=>G=H/\∃(r:Nat) (k:A5 V),σ = [some (.ref l),some (.int (r:Int)),k]/\∀j,r.testBit j=true↔∃z∈v.take i,z.testBit j=true) ⟨rfl,0,_,rfl,λj=>by simp⟩ (λi σ G _ h=>by rw[h.1];exact λo e=>e) ?_ ?_
  .rintro i σ G y t ⟨rfl,r,k,rfl,a⟩ I m _;rw[AH]at t;obtain⟨z,x,rfl⟩:=BF.mp t;refine A6 rfl (A6 rfl (C0 rfl rfl ?_));dsimp only;rw[QC];refine m _ _ ⟨rfl,_,_,rfl,λj=>?_⟩;rw[BR,CG,a,I7 x];constructor
   .rintro(⟨n,h1,b⟩ | h)
    .exact⟨n,EL _ h1,b⟩
    .exact⟨z,BI _ (AD.mpr rfl),h⟩
   .rintro⟨n,h1,b⟩;rcases AR.mp h1 with h1 | h1
    .exact .inl ⟨n,h1,b⟩
    .rw[AD.mp h1]at b;exact .inr b
  .rintro σ G ⟨rfl,r,k,rfl,a⟩;rw[AA,CK]at a;exact g _ _ (A6 rfl (q r a))
def Tw(C:A2)(f:A1 Nat->A1 Nat->A1 Nat):Sp:=λd H Q _=>∃(x c:A2) (b:A1 Str) (A B:A1 Nat) (L m:Nat),d = [.ref x,.int (m:Int)]/\F1 C H x c b A B L/\∀(r:Nat) a,Sm [c] H a->F1 C a x c b A B L->(∀j,r.testBit j=true↔W0 (f A B) m j)->Q (.int (r:Int)) a
theorem Tc{n m r:Nat}{M:A1 Nat}(b:∀k j,(M.getD k 0).testBit j=true->k<n)(h:∀j,r.testBit j=true↔∃z∈(D8 m n).map (λk=>M.getD k 0),z.testBit j=true)(j:Nat):r.testBit j=true↔W0 M m j:=by
 rw[h];constructor
 .rintro⟨z,c,e⟩;obtain⟨k,a,rfl⟩:=AJ.mp c;exact⟨k,(JM.mp a).2,e⟩
 .rintro⟨k,a,e⟩;exact⟨_,AJ.mpr ⟨k,JM.mpr ⟨b k j e,a⟩,rfl⟩,e⟩
theorem n8:II ["self", "some"] ["self", "some"] (B7 LN):=KO
theorem E1(T:Tx K mg):IK P w K mg base IY 2 T.ae.f T.ae.fd ["self", "some"] (Tw T.ab λ_ B=>B):=by
 refine T.ae.F.o1 n8 λJ A t s H V Q E n h=>?_
 .obtain⟨x,c,y,A,B,L,m,rfl,g,q⟩:=h;have N:=Y7 n;obtain⟨u,a,b,d,O,v,_⟩:=g.ex;have W:=g.len;refine⟨_,(B4 (C1 (C7 T.bl (Hb T) (Rm n) (A8 (U1 (N':=["bit", "self"]) (cap:=[none,some 0]) (cl:=[("self",_)]) (Q1 ⟨⟨rfl,rfl,rfl,rfl⟩,trivial⟩ ⟨rfl,trivial⟩) rfl (OU K (C4 (pv 0) T.ac T.ad.m (E4 T) (Rm n) T.ad.b .nil E7 (A8 (pv 1) B2))) (λ_ _ _ _=>by exact⟨(NR 0),J9,(O0 N (NS K (pv 1)) (pv 0) (λ_ _=>rfl))⟩)) B2)))),?_⟩;refine A6 rfl ⟨x,u,A6 rfl ⟨v,rfl,A6 rfl ⟨x,c,y,A,B,L,m,rfl,g,λl X Y R z C=>?_⟩⟩⟩;obtain⟨u,a,b,d,O,v,Z,e3,e4,e5,S,n1,n2⟩:=z.ex;refine⟨l,rfl,⟨_,IQ.of C⟩,λD U=>?_⟩;refine Um (λk=>O1 (B.getD k 0)) (OW (IQ.of C)) (λ_=>true) (Nat.le_trans (M0 ..) (by lia)) U (λk I G i M g=>g G λb o e=>e) (λk I G i M g=>?_) λσ' G i p=>?_
  .exact A6 rfl ⟨x,T.ab,u,_,A6 rfl ⟨i _ _ v,T.ac,T.bj,rfl,A6 rfl ⟨d,_,rfl,.inl ⟨_,.inl ((2^k:Nat):Int),.inl (i _ _ S),rfl,(Ma B (JM.mp I).1).symm⟩,g⟩⟩⟩
  rw[EV.mpr λ_ _=>rfl]at p;have p:G D=some (.lst (((D8 m y.length).map λk=>B.getD k 0).map O1)):=by rw[p,BV];rfl
  refine⟨D,_,rfl,p,λr n=>q r G (R.trans i.sm) (z.same i) (Tc (λk j e=>(g.net.lt k j e).1) n)⟩
theorem Y4:II ["self", "some"] ["self", "some"] (B7 KU):=KO
theorem E3(T:Tx K mg):IK P w K mg base IY 2 T.af.f T.af.fd ["self", "some"] (Tw T.ab λA _=>A):=by
 refine T.af.F.o1 Y4 λJ A t s H V Q E n h=>?_
 .obtain⟨x,c,y,A,B,L,m,rfl,g,q⟩:=h;have N:=Y7 n;obtain⟨u,a,b,d,O,v,_⟩:=g.ex;have W:=g.len;refine⟨_,(B4 (C1 (C7 T.bl (Hb T) (Rm n) (A8 (U1 (N':=["bit", "self"]) (cap:=[none,some 0]) (cl:=[("self",_)]) (Q1 ⟨⟨rfl,rfl,rfl,rfl⟩,trivial⟩ ⟨rfl,trivial⟩) rfl (OU K (C4 (pv 0) T.ac T.ad.m (E4 T) (Rm n) T.ad.b .nil E7 (A8 (pv 1) B2))) (λ_ _ _ _=>by exact⟨(NR 0),J9,(O0 N (NS K (pv 1)) (pv 0) (λ_ _=>rfl))⟩)) B2)))),?_⟩;refine A6 rfl ⟨x,u,A6 rfl ⟨v,rfl,A6 rfl ⟨x,c,y,A,B,L,m,rfl,g,λl X Y R z C=>?_⟩⟩⟩;obtain⟨u,a,b,d,O,v,Z,e3,e4,S,e6,n1,n2⟩:=z.ex;refine⟨l,rfl,⟨_,IQ.of C⟩,λD U=>?_⟩;refine Um (λk=>O1 (A.getD k 0)) (OW (IQ.of C)) (λ_=>true) (Nat.le_trans (M0 ..) (by lia)) U (λk I G i M g=>g G λb o e=>e) (λk I G i M g=>?_) λσ' G i p=>?_
  .exact A6 rfl ⟨x,T.ab,u,_,A6 rfl ⟨i _ _ v,T.ac,T.aL,rfl,A6 rfl ⟨c,_,rfl,.inl ⟨_,.inl ((2^k:Nat):Int),S.imp (i _ _) λ⟨o,e⟩=>⟨o,i _ _ e⟩,rfl,(Ma A (JM.mp I).1).symm⟩,g⟩⟩⟩
  rw[EV.mpr λ_ _=>rfl]at p;have p:G D=some (.lst (((D8 m y.length).map λk=>A.getD k 0).map O1)):=by rw[p,BV];rfl
  refine⟨D,_,rfl,p,λr n=>q r G (R.trans i.sm) (z.same i) (Tc (λk j e=>(g.net.lt j k ((g.net.tr k j).mp e)).2) n)⟩
theorem Y2:II ["self", "some"] ["self", "some"] (B7 KS):=KO
def Ld(C:A2):Sp:=λd H Q _=>∃(x c:A2) (a:A1 Str) (A B:A1 Nat) (L m:Nat),d = [.ref x,.int (m:Int)]/\F1 C H x c a A B L/\∀(r:Nat) b,Sm [c] H b->F1 C b x c a A B L->(∀j,r.testBit j=true↔j<a.length/\¬W0 B m j)->Q (.int (r:Int)) b
theorem G7(T:Tx K mg):IK P w K mg base IY 3 T.ah.f T.ah.fd ["self", "some"] (Ld T.ab):=by
 refine T.ah.F.o1 Y2 λt A i s H I Q E g h=>?_
 .obtain⟨x,c,n,A,B,L,m,rfl,l,q⟩:=h;obtain⟨o,a,b,d,J,p,_⟩:=l.ex;refine⟨_,(B4 (C1 (D3 y9 (NS K (pv 0)) (C4 (pv 0) T.ac T.ae.m (E1 T) (Rm g) T.ae.b .nil E7 (A8 (pv 1) B2))))),?_⟩;refine A6 rfl ⟨x,T.ab,o,_,A6 rfl ⟨p,T.ac,T.au,rfl,A6 rfl ⟨x,o,A6 rfl ⟨p,rfl,A6 rfl ⟨x,c,n,A,B,L,m,rfl,l,λr u v y g=>?_⟩⟩⟩⟩⟩;obtain⟨z,C,D⟩:=Yo (2^n.length-1) r λj G=>by
   obtain⟨k,_,e⟩:=(g j).mp G;exact(I0 _ _).mpr (l.net.lt k j e).2
  refine⟨_,_,rfl,rfl,?_⟩;dsimp only;rw[C];exact q z u v y λj=>by rw[D,I0,g]
theorem Gh:II ["some"] ["some"] (B7 OQ):=KO
def Fs:Sp:=λa H Q _=>∃s:Nat,a = [.int (s:Int)]/\0<s/\∀k:Nat,s.testBit k=true->(∀i,i<k->¬s.testBit i=true)->Q (.int ((2^k:Nat):Int)) H
theorem W3(T:Tx K mg):IK P w K mg base IY 1 T.az.f T.az.fd ["some"] Fs:=by
 refine T.az.F.o1 Gh λb A a s H j Q E l h=>?_
 .obtain⟨s,rfl,c,q⟩:=h;refine⟨_,(B4 (C1 (D3 Q0 (pv 0) (zCb Tj (pv 0))))),?_⟩;refine A6 rfl (A6 rfl ⟨_,rfl,C0 rfl rfl ?_⟩);obtain⟨k,d,m,g⟩:=zAi s c;have e:-(s:Int)=Builtin.bitNot (((s-1:Nat)):Int):=by unfold Builtin.bitNot;lia
  have:=q k d g;dsimp only;rw[e,PyProof.Rows.bitAnd_not,Tn];have i:(s:Int)-((s &&&(s-1):Nat):Int) =((2^k:Nat):Int):=by
   have:s &&&(s-1)<=s:=Nat.and_le_left;lia
  rw[i];exact this
end
def Kr(U:Nat->IZ)(v:Nat->V){N:Nat}(b:∀i j,i<N->j<N->U i=U j->i=j):∀n,n<=N->∀i,i<N->V3 ((List.range n).map λk=>(U k,v k)) (U i)=if i<n then some (v i)else none
 | 0,_,i,_=>rfl
 | n+1,h,i,f=>by
  have a:=Kr U v b n (by lia) i f;unfold V3 at a⊢;rw[EW,AK,List.find?_append];by_cases c:i<n
  .rw[AO c]at a;rw[AO (by lia)];cases e:(List.find? (λd:IZ×V=>decide (d.1=U i)) ((List.range n).map λk=>(U k,v k)))with
   | none=>rw[e]at a;cases a
   | some q=>rw[e]at a;rw[Option.some_or];exact a
  .rw[AN c]at a;cases e:(List.find? (λd:IZ×V=>decide (d.1=U i)) ((List.range n).map λk=>(U k,v k)))with
   | some q=>rw[e]at a;cases a
   | none =>
    rw[Option.none_or,BB,FF];by_cases g:i=n
    .subst g;rw[AX rfl,AO (by lia)];rfl
    .rw[BC λz=>g (b n i (by lia) f z).symm,AN (by lia)];rfl
def Rb(U:Nat->IZ)(v:Nat->V){N:Nat}(a:∀i j,i<N->j<N->U i=U j->i=j){n:Nat}(h:n<N):Cy ((List.range n).map λk=>(U k,v k)) (U n) (v n) =(List.range (n+1)).map λk=>(U k,v k):=by
 rw[Wj _ (by rw[Kr U v a n (by lia) n h,AN (by lia)]),EW,AK];rfl
def Nu:∀n,(((List.range n).map λk=>((2^k:Nat):Int)).sum) =((2^n-1:Nat):Int)
 | 0=>rfl
 | n+1=>by
  rw[EW,AK,List.sum_append,Nu n];have:0<2^n:=Nat.pow_pos (by decide);simp only[BB,List.map_nil,HG,List.sum_nil,Nat.pow_succ];lia
def Mv(l:A1 Nat):((l.map λk=>((2^k:Nat):Int)).sum) =(((l.map λk=>2^k).sum:Nat):Int):=by
 induction l with
 | nil=>rfl
 | cons a r b=>rw[BB,HG,b,BB,HG];lia
def Hu{ns:A1 Str}{y:Str}(h:y∈ns):ns[ns.idxOf y]?=some y:=by
 rw[AC (List.idxOf_lt_length_of_mem h),List.getElem_idxOf]
def ML(ns:A1 Str)(g:Str->A1 Str):A1 Nat:=ns.map λn=>((g n).map λy=>2^ns.idxOf y).sum
def Zi{ns:A1 Str}{g:Str->A1 Str}{i:Nat}{n:Str}(h:ns[i]?=some n):(ML ns g).getD i 0 =(((g n).map λy=>ns.idxOf y).map λk=>2^k).sum:=by
 unfold ML;rw[AV,AH,h,BV];rfl
def zDt{ns:A1 Str}{g:Str->A1 Str}{ks:A1 (Str×Str)}(p:ns.Nodup)(q:∀n∈ns,(g n).Nodup)(h:∀n∈ns,∀y,y∈g n↔(n,y)∈ks)(c:∀k∈ks,k.1∈ns/\k.2∈ns):MB ns ks (ML ns g):=by
 refine⟨by unfold ML;rw[AA],λi j=>?_⟩;cases l:ns[i]? with
 | none =>
  have e:(ML ns g).getD i 0=0:=by unfold ML;rw[AV,AH,l];rfl
  rw[e,DG];exact⟨λz=>(by cases z),λ⟨k,_,z,_⟩=>(by cases z)⟩
 | some n =>
  have d:=AM l;have r:((g n).map λy=>ns.idxOf y).Nodup:=by
   refine CC.mpr (HH (fun{a b} s t u e=>u ?_) (q n d));have o:=Hu (c _ ((h n d a).mp s)).2;have v:=Hu (c _ ((h n d b).mp t)).2;rw[e,v]at o;exact(BN o).symm
  rw[Zi l,Bk r,AJ];constructor
  .rintro⟨y,w,rfl⟩;have f:=(h n d y).mp w;exact⟨_,f,rfl,Hu (c _ f).2⟩
  .rintro⟨k,f,m,x⟩;have m:=BN m;refine⟨k.2,(h n d k.2).mpr (by rw[m];exact f),?_⟩;exact l7 p (Hu (c _ f).2) x
def Mq{J:It}{a D:A2}{ns:A1 Str}{H:Hp}{Q:St->Hp->Prop}(as:LY J (ns.map V.str) a H){j l:TE}{r:St}{m:A5 V}(M:A1 Nat)(t:ns.length<=1000)(o:H D=none)
  (u:∀i n G (R:VK),ns[i]?=some n->Cs H G->R (O1 (2^i)) G->j (some (.str n)::r) G R)
  (w:∀i n G (R:VK),ns[i]?=some n->Cs H G->(∀f,Cs G f->R (O1 (M.getD i 0)) f)->l (some (.str n)::r) G R)
  (q:∀σ G,Cs H G->G D=some (.dK (bK M ns.length))->Q σ G):Ji (W8 0) By (Wp D j l) J (m::r) (IH H D (.dK [])) Q:=by
 refine V1 as (λi σ G=>(∃v,σ=v::r)/\Cs H G/\G D=some (.dK (bK M i))) ⟨⟨_,rfl⟩,Cs.new o,B1⟩ (λi σ G _ h=>h.2.1.at a) ?_ ?_
 .rintro i σ G v N p ⟨⟨m,rfl⟩,c,d⟩ x;rw[AH]at p;obtain⟨n,g,rfl⟩:=BF.mp p;have y:=(AF.mp g).1;refine Ef (u i n G _ g c (w i n G _ g c λf s=>?_));refine⟨bK M i,.inl ((2^i:Nat):Int),s _ _ d,rfl,by unfold bK;rw[AA,CD,sizeLine_eq];lia,x _ _ ⟨⟨_,rfl⟩,(c.trans s).upd o,?_⟩⟩;rw[B1];unfold bK;rw[Rb (λk=>(Sum.inl ((2^k:Nat):Int):IZ)) (λk=>O1 (M.getD k 0)) (N:=i+1) (λa b _ _ e=>Qc (Sum.inl.inj e)) (FJ i)]
 .rintro σ G ⟨_,c,d⟩;rw[AA]at d;exact q σ G c d
def JP.smx{C M:A2}{H H':Hp}{x w g:A2}{ns:A1 Str}{i:A1 JS}(h:JP C H w ns i)(j:H x=some (.ins M g []))(s:Sm [x] H H'):JP C H' w ns i:=by
 obtain⟨m,p,a,b,c,d,r,t,u,y,A,B,D,E,F,G⟩:=h;have k:∀{b:A2} {o:HO},H b=some o->o≠ .ins M g []->H' b=some o:=λe n=>s _ _ e λz=>n (by rw[AD.mp z,j]at e;exact(BN e).symm);exact⟨m,p,a,b,c,d,r,t,k u (by unfold wf;intro z;cases z),k y (by intro z;cases z),k A (by intro z;cases z),λq I=>k (B q I) (by intro z;cases z),k D (by intro z;cases z),k E (by intro z;cases z),λn f=>let⟨l,v,e⟩:=F n f;⟨l,v,k e (by intro z;cases z)⟩,λn f=>let⟨l,v,e⟩:=G n f;⟨l,v,k e (by intro z;cases z)⟩⟩
def Ir{a:A1 JS}{n y:Str}:y∈C5 a n↔(n,y)∈(a.map λq=>q.2).map λk=>(k.2,k.1):=by
 unfold C5;rw[BV,AJ,AJ];constructor
 .rintro⟨q,h,rfl⟩;obtain⟨b,c⟩:=BH.mp h;exact⟨q,b,Prod.ext (BJ c) rfl⟩
 .rintro⟨q,h,e⟩;exact⟨q,BH.mpr ⟨h,AX (congrArg Prod.fst e)⟩,congrArg Prod.snd e⟩
def Jy{a:A1 JS}{n y:Str}:y∈E6 a n↔(n,y)∈a.map λq=>q.2:=by
 unfold E6;rw[AJ,AJ];constructor
 .rintro⟨q,h,rfl⟩;obtain⟨b,c⟩:=BH.mp h;exact⟨q,b,Prod.ext (BJ c) rfl⟩
 .rintro⟨q,h,e⟩;exact⟨q,BH.mpr ⟨h,AX (congrArg Prod.fst e)⟩,congrArg Prod.snd e⟩
def Kk{c:A1 JS}(h:(c.map λq=>q.2).Nodup)(n:Str):(C5 c n).Nodup:=by
 unfold C5;refine CC.mpr (HH (fun{a b} d f g e=>g ?_) ((CC.mp h).sublist DP));exact Prod.ext e ((BJ (BH.mp d).2).trans (BJ (BH.mp f).2).symm)
def Rq{c:A1 JS}(h:(c.map λq=>q.2).Nodup)(n:Str):(E6 c n).Nodup:=by
 unfold E6;refine CC.mpr (HH (fun{a b} d f g e=>g ?_) ((CC.mp h).sublist DP));exact Prod.ext ((BJ (BH.mp d).2).trans (BJ (BH.mp f).2).symm) e
def QT(ns:A1 Str)(i:Nat):A1 (IZ×V):=(List.range i).map λk=>((Sum.inr (ns.getD k ""):IZ),O1 (2^k))
def Fh{ns:A1 Str}{i:Nat}{n:Str}(h:ns[i]?=some n):ns.getD i "" = n:=by rw[AV,h];rfl
def Ze{ns:A1 Str}(c:ns.Nodup):∀i j,i<ns.length->j<ns.length->(Sum.inr (ns.getD i ""):IZ)=Sum.inr (ns.getD j "")->i=j:=λi j a b e=>by
 have e:=Sum.inr.inj e;rw[Fh (AC a),Fh (AC b)]at e;exact l7 c (AC a) (by rw[AC b,e])
def Ob{ns:A1 Str}(b:ns.Nodup){i:Nat}{n:Str}(h:ns[i]?=some n):V3 (QT ns ns.length) (.inr n)=some (O1 (2^i)):=by
 have a:=(AF.mp h).1;have:=Kr (λk=>(Sum.inr (ns.getD k ""):IZ)) (λk=>O1 (2^k)) (Ze b) ns.length (Nat.le_refl _) i a;rw[AO a]at this;rw[Fh h]at this;exact this
section
variable{P:A7}{w:F8}{K:PySem.W.Frag}{mg:Str->A5 A3}{base:IJ}
theorem Lv{G:Hp}{b l:A2}{ns a:A1 Str}{R:VK}(m:ns.Nodup)(n:G b=some (.dK (QT ns ns.length)))(q:G l=some (.lst (a.map V.str)))(r:∀y∈a,y∈ns)(s:a.length<=1000)(t:∀g,Cs G g->R (.int ((((a.map λy=>ns.idxOf y).map λk=>2^k).sum:Nat):Int)) g) :
  ∀D,G D=none->Ji (W8 0) By (Cp D (Vd (Pg 1) (Pg 0))) (UE K l) [none,some (.ref b)] (IH G D (.lst [])) λ_ h=>∃(p:A2) (zs:A1 Int),[V.ref D] = [.ref p]/\IQ K h p (zs.map V.int)/\R (.int zs.sum) h:=λD u=>by
 refine Um (λy=>O1 (2^ns.idxOf y)) (OW (IQ.of q)) (λ_=>true) (by lia) u (λy i c d M f=>f c λb o e=>e) (λy i c d M f=>?_) λσ c d j=>?_
 .exact A6 rfl (A6 rfl ⟨b,_,rfl,.inl ⟨_,.inr y,.inl (d _ _ n),rfl,(Ob m (Hu (r y i))).symm⟩,f⟩)
 .rw[EV.mpr λ_ _=>rfl]at j;refine⟨D,(a.map λy=>ns.idxOf y).map λk=>((2^k:Nat):Int),rfl,IQ.of (by rw[j,BV,BV];rfl),?_⟩;rw[Mv];exact t c d
theorem LF:II ["self", "web", "bits"] ["self", "web"] (B7 LV):=KO
def U9(e g:A2):Sp:=λh H Q _=>∃(x i f:A2) (a:A1 Str) (b:A1 JS),h = [.ref x,.ref f]/\H x=some (.ins e i [])/\JP g H f a b /\
 ∀(c:A2) (A B:A1 Nat) (L:Nat) d,H c=none->Sm [x] H d->F1 e d x c a A B L->MB a ((b.map λq=>q.2).map λk=>(k.2,k.1)) A->MB a (b.map λq=>q.2) B->Q .non d
set_option maxHeartbeats 4000000 in
theorem Q7(T:Tx K mg):IK P w K mg base IY 3 T.a5 T.a4 ["self", "web"] (U9 T.ab T.ag):=by
 refine T.bv.o1 LF λcdv A outer s H vs Q E hr h=>?_
 .obtain⟨x,e,wb,ns,r,rfl,hx,hW,q⟩:=h;have hu:=Y7 hr;have u:=hW.ok;have ln:=u.len;have U:=u.nd;refine⟨_,(B3 (SA K (pv 0) (Xm (pv 1) T.aC T.aN.m (Am T) (Rm hr) T.aN.b .nil E7))
   (B3 (C2 (i:=2) LF.nd rfl (.inr rfl) (Uk (N':=["place", "name"]) (cap:=[none,none]) (cl:=[]) (Q1 trivial trivial) rfl (piE K T.a7 (A8 (NS K (pv 0)) B2)) (λ_ _ _ _=>by exact⟨(RB K (n:=2) (C9 (NR 0) (C9 (NR 1) O7))),J9,(pv 1),(D3 zDk B8 (pv 0))⟩)))
   (B3 (SA K (pv 0) (I9 zBw T.br Ha (A8 (Sg (pv 2)) B2)))
   (B3 (SA K (pv 0) (pv 2))
   (B3 (SA K (pv 0) (Uk (N':=["name", "bits", "web"]) (cap:=[none,some 2,some 1]) (cl:=[("web",_),("bits",_)]) (Q1 ⟨⟨rfl,rfl,rfl,rfl⟩,⟨⟨rfl,rfl,rfl,rfl⟩,trivial⟩⟩ ⟨rfl,⟨rfl,trivial⟩⟩) rfl (OU K (NS K (pv 0))) (λ_ _ _ _=>by exact⟨(NR 0),J9,(O0 hu (pv 1) (pv 0) (λ_ _=>rfl)),(I9 (Mp K) T.br Ha (A8 (U1 (N':=["one", "bits"]) (cap:=[none,some 1]) (cl:=[("bits",_)]) (Q1 ⟨⟨rfl,rfl,rfl,rfl⟩,trivial⟩ ⟨rfl,trivial⟩) rfl (OU K (C4 (pv 2) T.aC T.aO.m (Bl T) (Rm hr) T.aO.b .nil E7 (A8 (pv 0) B2))) (λ_ _ _ _=>by exact⟨(NR 0),J9,(O0 hu (pv 1) (pv 0) (λ_ _=>rfl))⟩)) B2))⟩)))
   (B3 (SA K (pv 0) (Uk (N':=["name", "bits", "web"]) (cap:=[none,some 2,some 1]) (cl:=[("web",_),("bits",_)]) (Q1 ⟨⟨rfl,rfl,rfl,rfl⟩,⟨⟨rfl,rfl,rfl,rfl⟩,trivial⟩⟩ ⟨rfl,⟨rfl,trivial⟩⟩) rfl (OU K (NS K (pv 0))) (λ_ _ _ _=>by exact⟨(NR 0),J9,(O0 hu (pv 1) (pv 0) (λ_ _=>rfl)),(I9 (Mp K) T.br Ha (A8 (U1 (N':=["one", "bits"]) (cap:=[none,some 1]) (cl:=[("bits",_)]) (Q1 ⟨⟨rfl,rfl,rfl,rfl⟩,trivial⟩ ⟨rfl,trivial⟩) rfl (OU K (C4 (pv 2) T.aC T.aX.m (Ej T) (Rm hr) T.aX.b .nil E7 (A8 (pv 0) B2))) (λ_ _ _ _=>by exact⟨(NR 0),J9,(O0 hu (pv 1) (pv 0) (λ_ _=>rfl))⟩)) B2))⟩)))
   (B4 (SA K (pv 0) (I9 (Mp K) T.br Ha (A8 (U1 (N':=["bit", "self"]) (cap:=[none,some 0]) (cl:=[("self",_)]) (Q1 ⟨⟨rfl,rfl,rfl,rfl⟩,trivial⟩ ⟨rfl,trivial⟩) rfl (zDu (Sg (pv 2))) (λ_ _ _ _=>by exact⟨(NR 0),(Ca (RR K (D3 Q0 (pv 0) (O0 hu (NS K (pv 1)) (pv 0) (λ_ _=>rfl))))),(pv 0)⟩)) B2)))))))))),?_⟩
  have f:∀{b:A2},b≠x->b∉[x]:=λh z=>h (AD.mp z);refine B6 λZ1 hZ1=>?_;obtain⟨_,dw,_,_,_,_,_,_,ew,_⟩:=id hW;refine A6 rfl ⟨wb,dw,A6 rfl ⟨ew,rfl,wb,ns,r,rfl,hW,λa hl1=>?_⟩⟩;have C:x≠a:=A9 hx hl1;refine A6 rfl ⟨x,T.ab,e,[],rfl,(B5 C).trans hx,T.ac,T.aS,by decide,?_⟩;have k1:Sm [x] H (IH (IH H a (.lst (ns.map V.str))) x (.ins T.ab e (Q6 "names" (.ref a) []))):=(Sm.new (Sm.refl _ _) hl1).upd (by simp);have a1:(IH (IH H a (.lst (ns.map V.str))) x (.ins T.ab e (Q6 "names" (.ref a) []))) a=some (.lst (ns.map V.str)):=(B5 C.symm).trans B1;have x1:(IH (IH H a (.lst (ns.map V.str))) x (.ins T.ab e (Q6 "names" (.ref a) []))) x=some (.ins T.ab e [("names",.ref a)]):=by rw[B1];rfl
  generalize IH (IH H a (.lst (ns.map V.str))) x (.ins T.ab e (Q6 "names" (.ref a) []))=H1 at k1 a1 x1⊢;refine hZ1 _ _ (B6 λZ2 hZ2=>?_);refine A6 rfl ⟨x,T.ab,e,_,A6 rfl ⟨x1,T.ac,T.aS,rfl,a,A6 rfl ⟨IQ.of a1,λb hb=>?_⟩⟩⟩;refine Ce (n:=ns.length) (λi σ G=>(∃v0 v1,σ = [v0,v1])/\Cs H1 G/\G b=some (.dK (QT ns i))) ⟨⟨_,_,rfl⟩,Cs.new hb,B1⟩ ?_ ?_ ?_ ?_
  .rintro i σ G W ⟨_,p,_⟩;exact⟨_,_,(p.at a).seqL (IQ.of a1),by rw[AH,AC W];rfl⟩
  .rintro σ G ⟨_,p,_⟩;exact⟨_,(p.at a).seqL (IQ.of a1),by rw[AA]⟩
  .rintro i σ G y H' N W ⟨⟨v0,v1,rfl⟩,p,eG⟩ ⟨t,y,rfl,ht,rfl,O⟩ hN;have O:=O _ ((p.at a).seqL (IQ.of a1));have hi':ns[i]?=some ns[i]:=AC W;rw[AH,hi']at O;cases O;refine⟨t,A6 rfl ⟨JH.of B1,rfl,_,A6 rfl (C0 rfl rfl (zAo ?_))⟩⟩;refine A6 rfl (A6 rfl (C0 rfl rfl ⟨⟨by lia,by lia,by decide⟩,?_⟩));dsimp only;rw[zJm];have st:=p.trans (Cs.new (o:=.tup [.int i,.str ns[i]]) ht);refine⟨QT ns i,.inr ns[i],(B5 (A9 eG ht)).trans eG,rfl,by unfold QT;rw[AA,CD,sizeLine_eq];lia,hN _ _ ⟨⟨_,_,rfl⟩,st.upd hb,?_⟩⟩;rw[B1];have:=Rb (λk=>(Sum.inr (ns.getD k ""):IZ)) (λk=>O1 (2^k)) (Ze U) W;rw[Fh hi']at this;exact congrArg (λz=>some (HO.dK z)) this
  rintro σ2 H2 ⟨_,s2,b2⟩;have F:x≠b:=A9 x1 hb;have x2:=s2 _ _ x1;have a2:=s2 _ _ a1;have k2:=k1.trans s2.sm;refine hZ2 _ _ (B6 λZ3 hZ3=>?_);refine A6 rfl ⟨b,_,rfl,b2,λv hv=>?_⟩;have I:=Cs.new (o:=Lz v b) hv;have fv:(IH H2 v (Lz v b)) v=some (Lz v b):=B1;generalize IH H2 v (Lz v b)=X at I fv⊢;refine⟨v,b,QT ns ns.length,(List.range ns.length).map λk=>((2^k:Nat):Int),rfl,fv,I _ _ b2,by unfold QT;rw[BV,BV];rfl,?_⟩;rw[Nu];have x2:=I _ _ x2;have a2:=I _ _ a2;have b2:=I _ _ b2;have k2:=k2.trans I.sm;refine A6 rfl ⟨x,T.ab,e,_,rfl,x2,T.ac,T.au,by simp,?_⟩;have k3:Sm [x] X (IH X x (.ins T.ab e (Q6 "full" (.int ((2^ns.length-1:Nat):Int)) [("names",.ref a)]))):=(Sm.refl _ _).upd (by simp);have x3:(IH X x (.ins T.ab e (Q6 "full" (.int ((2^ns.length-1:Nat):Int)) [("names",.ref a)]))) x=some (.ins T.ab e [("names",.ref a),("full",O1 (2^ns.length-1))]):=by rw[B1];rfl
  generalize IH X x (.ins T.ab e (Q6 "full" (.int ((2^ns.length-1:Nat):Int)) [("names",.ref a)]))=H3 at k3 x3⊢;have a3:=k3 _ _ a2 (f C.symm);have b3:=k3 _ _ b2 (f F.symm);have k3:=k2.trans k3;refine hZ3 _ _ (B6 λZ4 hZ4=>?_);refine A6 rfl (A6 rfl ⟨x,T.ab,e,_,rfl,x3,T.ac,T.bb,by simp,?_⟩);have k4:Sm [x] H3 (IH H3 x (.ins T.ab e (Q6 "bit_of" (.ref b) [("names",.ref a),("full",O1 (2^ns.length-1))]))):=(Sm.refl _ _).upd (by simp);have x4:(IH H3 x (.ins T.ab e (Q6 "bit_of" (.ref b) [("names",.ref a),("full",O1 (2^ns.length-1))]))) x=some (.ins T.ab e [("names",.ref a),("full",O1 (2^ns.length-1)),("bit_of",.ref b)]):=by rw[B1];rfl
  generalize IH H3 x (.ins T.ab e (Q6 "bit_of" (.ref b) [("names",.ref a),("full",O1 (2^ns.length-1))]))=H4 at k4 x4⊢;have a4:=k4 _ _ a3 (f C.symm);have b4:=k4 _ _ b3 (f F.symm);have k4:=k3.trans k4;refine hZ4 _ _ (B6 λZ5 hZ5=>?_);have mA:=zDt (ns:=ns) (g:=C5 r) (ks:=(r.map λq=>q.2).map λk=>(k.2,k.1)) U (λn _=>Kk u.ndq n) (λn _ y=>Ir) λk hk=>by
   rw[BV]at hk;obtain⟨q,hq,rfl⟩:=AJ.mp hk;exact⟨(u.mem q hq).2,(u.mem q hq).1⟩
  have mB:=zDt (ns:=ns) (g:=E6 r) (ks:=r.map λq=>q.2) U (λn _=>Rq u.ndq n) (λn _ y=>Jy) λk hk=>by
   obtain⟨q,hq,rfl⟩:=AJ.mp hk;exact u.mem q hq
  have S:RM ns.length (ML ns (C5 r)) (ML ns (E6 r)):=MB.net mA mB;have W4:=hW.smx hx k4;have ins1:∀{n:Str} (y:Str),y∈C5 r n->y∈ns:=λy O=>by
   obtain⟨q,hq,rfl⟩:=AJ.mp O;exact(u.mem q (BH.mp hq).1).1
  have ins2:∀{n:Str} (y:Str),y∈E6 r n->y∈ns:=λy O=>by
   obtain⟨q,hq,rfl⟩:=AJ.mp O;exact(u.mem q (BH.mp hq).1).2
  have lq:=u.lenq;have RT:∀n,(C5 r n).length<=1000:=λn=>by unfold C5;rw[AA];have:=CH (λq:JS=>decide (q.2.2=n)) r;lia
  have RF:∀n,(E6 r n).length<=1000:=λn=>by unfold E6;rw[AA];have:=CH (λq:JS=>decide (q.2.1=n)) r;lia
  refine A6 rfl ⟨x,T.ab,e,_,A6 rfl ⟨x4,T.ac,T.aS,rfl,a,rfl,⟨_,IQ.of a4⟩,λc hc=>?_⟩⟩;refine Mq (OW (IQ.of a4)) (ML ns (C5 r)) (by lia) hc (λi n G R Y p hR=>?_) (λi n G R Y p hR=>?_) λσ5 H5 s5 c5=>?_
  .exact A6 rfl (A6 rfl ⟨b,_,rfl,.inl ⟨_,.inr n,.inl (p _ _ b4),rfl,(Ob U Y).symm⟩,hR⟩)
  .have WG:=W4.same p;obtain⟨_,dw,_,_,_,_,_,_,ew,_⟩:=id WG;refine A6 rfl ⟨wb,dw,A6 rfl ⟨ew,rfl,A6 rfl ⟨wb,n,ns,r,rfl,WG,AM Y,λl hl=>?_⟩⟩⟩;have ul:=Cs.new (o:=.lst ((C5 r n).map V.str)) hl;refine⟨l,rfl,⟨_,IQ.of B1⟩,Lv U (ul _ _ (p _ _ b4)) B1 (λy O=>ins1 y O) (RT n) λG' s'=>?_⟩;have:=hR G' (ul.trans s');rw[Zi Y]at this;exact this
  generalize ML ns (C5 r)=A at mA S c5;have hc0:H c=none:=k4.none (f (A9 x4 hc).symm) hc;have nxc:x≠c:=A9 x4 hc;have x5:=s5 _ _ x4;have a5:=s5 _ _ a4;have b5:=s5 _ _ b4;have bc:b≠c:=A9 b4 hc;have k5:=k4.trans s5.sm;refine A6 rfl ⟨x,T.ab,e,_,rfl,x5,T.ac,T.aL,by simp,?_⟩;have k6:Sm [x] H5 (IH H5 x (.ins T.ab e (Q6 "strikers_of" (.ref c) [("names",.ref a),("full",O1 (2^ns.length-1)),("bit_of",.ref b)]))):=(Sm.refl _ _).upd (by simp);have x6:(IH H5 x (.ins T.ab e (Q6 "strikers_of" (.ref c) [("names",.ref a),("full",O1 (2^ns.length-1)),("bit_of",.ref b)]))) x=some (.ins T.ab e [("names",.ref a),("full",O1 (2^ns.length-1)),("bit_of",.ref b),("strikers_of",.ref c)]):=by rw[B1];rfl
  generalize IH H5 x (.ins T.ab e (Q6 "strikers_of" (.ref c) [("names",.ref a),("full",O1 (2^ns.length-1)),("bit_of",.ref b)]))=H6 at k6 x6⊢;have a6:=k6 _ _ a5 (f C.symm);have b6:=k6 _ _ b5 (f F.symm);have c6:=k6 _ _ c5 (f nxc.symm);have k6:=k5.trans k6;have W6:=hW.smx hx k6;refine hZ5 _ _ (B6 λZ6 hZ6=>?_);refine A6 rfl ⟨x,T.ab,e,_,A6 rfl ⟨x6,T.ac,T.aS,rfl,a,rfl,⟨_,IQ.of a6⟩,λd hd=>?_⟩⟩;refine Mq (OW (IQ.of a6)) (ML ns (E6 r)) (by lia) hd (λi n G R Y p hR=>?_) (λi n G R Y p hR=>?_) λσ7 H7 s7 d7=>?_
  .exact A6 rfl (A6 rfl ⟨b,_,rfl,.inl ⟨_,.inr n,.inl (p _ _ b6),rfl,(Ob U Y).symm⟩,hR⟩)
  .have WG:=W6.same p;obtain⟨_,dw,_,_,_,_,_,_,ew,_⟩:=id WG;refine A6 rfl ⟨wb,dw,A6 rfl ⟨ew,rfl,A6 rfl ⟨wb,n,ns,r,rfl,WG,AM Y,λl hl=>?_⟩⟩⟩;have ul:=Cs.new (o:=.lst ((E6 r n).map V.str)) hl;refine⟨l,rfl,⟨_,IQ.of B1⟩,Lv U (ul _ _ (p _ _ b6)) B1 (λy O=>ins2 y O) (RF n) λG' s'=>?_⟩;have:=hR G' (ul.trans s');rw[Zi Y]at this;exact this
  generalize ML ns (E6 r)=B at mB S d7;have nxd:x≠d:=A9 x6 hd;have x7:=s7 _ _ x6;have a7:=s7 _ _ a6;have b7:=s7 _ _ b6;have c7:=s7 _ _ c6;have dc:d≠c:=(A9 c6 hd).symm;have k7:=k6.trans s7.sm;refine A6 rfl ⟨x,T.ab,e,_,rfl,x7,T.ac,T.bj,by simp,?_⟩;have k8:Sm [x] H7 (IH H7 x (.ins T.ab e (Q6 "struck_of" (.ref d) [("names",.ref a),("full",O1 (2^ns.length-1)),("bit_of",.ref b),("strikers_of",.ref c)]))):=(Sm.refl _ _).upd (by simp);have x8:(IH H7 x (.ins T.ab e (Q6 "struck_of" (.ref d) [("names",.ref a),("full",O1 (2^ns.length-1)),("bit_of",.ref b),("strikers_of",.ref c)]))) x=some (.ins T.ab e [("names",.ref a),("full",O1 (2^ns.length-1)),("bit_of",.ref b),("strikers_of",.ref c),("struck_of",.ref d)]):=by rw[B1];rfl
  generalize IH H7 x (.ins T.ab e (Q6 "struck_of" (.ref d) [("names",.ref a),("full",O1 (2^ns.length-1)),("bit_of",.ref b),("strikers_of",.ref c)]))=H8 at k8 x8⊢;have a8:=k8 _ _ a7 (f C.symm);have b8:=k8 _ _ b7 (f F.symm);have c8:=k8 _ _ c7 (f nxc.symm);have d8:=k8 _ _ d7 (f nxd.symm);have k8:=k7.trans k8;refine hZ6 _ _ ?_;refine A6 rfl ⟨b,_,rfl,b8,λv hv=>?_⟩;have I:=Cs.new (o:=Lz v b) hv;have fv:(IH H8 v (Lz v b)) v=some (Lz v b):=B1;generalize IH H8 v (Lz v b)=H9 at I fv⊢;refine⟨v,b,_,rfl,fv,I _ _ b8,λo D hD=>?_⟩;have nDb:D≠b:=λz=>by rw[z,B1]at hD;cases hD
  have kz:Sm [b] H9 (IH H9 b (.frz o (.dK (QT ns ns.length)))):=(Sm.refl _ _).upd (by simp);have fz:(IH H9 b (.frz o (.dK (QT ns ns.length)))) b=some (.frz o (.dK (QT ns ns.length))):=B1;have hb0:H b=none:=k1.none (f F.symm) hb;have kx:Sm [x] H (IH H9 b (.frz o (.dK (QT ns ns.length)))):=(k8.trans I.sm).updN hb0;have nb:∀{b':A2},b'≠b->b'∉[b]:=λh z=>h (AD.mp z);have nab:a≠b:=A9 a1 hb;have x9:=kz _ _ (I _ _ x8) (nb F);have a9:=kz _ _ (I _ _ a8) (nb nab);have c9:=kz _ _ (I _ _ c8) (nb bc.symm);have nbd:d≠b:=(A9 b6 hd).symm;have d9:=kz _ _ (I _ _ d8) (nb nbd);generalize IH H9 b (.frz o (.dK (QT ns ns.length)))=H10 at kz fz kx hD x9 a9 c9 d9⊢;have lb:(QT ns ns.length).length=ns.length:=by unfold QT;rw[AA,CD]
  refine Ce (n:=ns.length) (λi σ G=>(∃v0,σ = [v0,some (.ref x)])/\Cs H10 G/\G D=some (.lst (((List.range i).filter λk=>(A.getD k 0).testBit k).map λk=>O1 (2^k)))) ⟨⟨_,rfl⟩,Cs.new hD,B1⟩ ?_ ?_ ?_ ?_
  .rintro i σ G W ⟨_,p,_⟩;exact⟨p _ _ fz,by rw[lb];exact W⟩
  .rintro σ G ⟨_,p,_⟩;exact⟨p _ _ fz,by rw[lb];exact Nat.le_refl _⟩
  .rintro i σ G y H' N W ⟨⟨v0,rfl⟩,p,eG⟩ ⟨rfl,k,hk⟩ hN;unfold QT at hk;rw[AH,List.getElem?_range W]at hk;obtain⟨_,rfl⟩:=Prod.mk.inj (BN hk);refine A6 rfl (A6 rfl ⟨x,T.ab,e,_,A6 rfl ⟨p _ _ x9,T.ac,T.aL,rfl,A6 rfl ⟨c,_,rfl,.inl ⟨_,.inl ((2^i:Nat):Int),.inl (p _ _ c9),rfl,(Ma A W).symm⟩,C0 rfl rfl ⟨_,rfl,?_⟩⟩⟩⟩);dsimp only;rw[Ko];have hl:=CH (λk=>(A.getD k 0).testBit k) (List.range i);rw[CD]at hl;refine Q3 (λz=>A6 rfl ⟨_,eG,by rw[AA,sizeLine_eq];lia,hN _ _ ⟨⟨_,rfl⟩,p.upd hD,?_⟩⟩) (λz=>hN _ _ ⟨⟨_,rfl⟩,p,?_⟩)
   .rw[B1,EW,EI,DL,AO z,AK];rfl
   .rw[EW,EI,DL,AN z,List.filter_nil,CA];exact eG
  rintro σ11 Z ⟨_,J,e11⟩;generalize hLl:(List.range ns.length).filter (λk=>(A.getD k 0).testBit k)=Ll at e11;refine⟨D,Ll.map λk=>((2^k:Nat):Int),rfl,IQ.of (by rw[e11,BV];rfl),?_⟩;rw[Mv];have hL:∀j,((Ll.map λk=>2^k).sum).testBit j=true↔(A.getD j 0).testBit j=true:=λj=>by
   rw[Bk (by rw[<-hLl];exact DP.nodup GD),<-hLl,BH,BW];exact⟨(·.2),λh=>⟨(S.lt j j ((S.tr j j).mp h)).1,h⟩⟩
  generalize (Ll.map λk=>2^k).sum=L at hL;have x11:=J _ _ x9;refine A6 rfl ⟨x,T.ab,e,_,rfl,x11,T.ac,T.a3,by simp,?_⟩;have M:Sm [x] Z (IH Z x (.ins T.ab e (Q6 "loops" (.int (L:Int)) [("names",.ref a),("full",O1 (2^ns.length-1)),("bit_of",.ref b),("strikers_of",.ref c),("struck_of",.ref d)]))):=(Sm.refl _ _).upd (by simp);have x12:(IH Z x (.ins T.ab e (Q6 "loops" (.int (L:Int)) [("names",.ref a),("full",O1 (2^ns.length-1)),("bit_of",.ref b),("strikers_of",.ref c),("struck_of",.ref d)]))) x=some (.ins T.ab e (mf a b c d ns.length L)):=by rw[B1];rfl
  generalize IH Z x (.ins T.ab e (Q6 "loops" (.int (L:Int)) [("names",.ref a),("full",O1 (2^ns.length-1)),("bit_of",.ref b),("strikers_of",.ref c),("struck_of",.ref d)]))=H12 at M x12⊢;refine q c A B L H12 hc0 ((kx.trans J.sm).trans M) ⟨⟨e,a,b,d,QT ns ns.length,x12,M _ _ (J _ _ a9) (f C.symm),.inr ⟨o,M _ _ (J _ _ fz) (f F.symm)⟩,λi n h=>Ob U h,.inl (M _ _ (J _ _ c9) (f nxc.symm)),M _ _ (J _ _ d9) (f nxd.symm),dc,bc⟩,S,U,ln,hL⟩ mA mB
def Kl(C:A2):Sp:=λg H Q _=>∃(x c:A2) (b:A1 Str) (A B:A1 Nat) (L d e:Nat),g = [.ref x,.int (d:Int),.int (e:Int)]/\F1 C H x c b A B L/\JW b.length d/\JW b.length e /\
 ∀t (a:Nat) f,Sm [c] H f->F1 C f x c b A B L->f t=some (.tup [.int (d:Int),.int (a:Int)])->JW b.length a->Sub e a->(∀m,KI b.length A B m->JD d e m->JD d a m)->Rr b.length A B d a->Q (.ref t) f
theorem JK:II ["marks", "chosen", "barred", "safe", "more"] ["marks", "chosen", "barred"] (B7 LH):=KO
set_option maxHeartbeats 2000000 in
theorem S5(T:Tx K mg):IK P w K mg base IY 4 T.aJ.f T.aJ.fd ["marks", "chosen", "barred"] (Kl T.ab):=by
 refine T.aJ.F.o1 JK λcdv A outer s H vs Q E Z h=>?_
 .obtain⟨x,c,l,A,B,L,n,M,rfl,hM,loc,lob,q⟩:=h;have p:=hM.net;refine⟨_,(B4 (Fk PassesOwn.never (Q2 Cm) (B3 (C2 (i:=3) JK.nd rfl (.inl rfl) (C4 (pv 0) T.ac T.ah.m (G7 T) (Rm Z) T.ah.b .nil E7 (A8 (D3 y9 (NS K (pv 0)) (pv 2)) B2)))
   (B3 (C2 (i:=4) JK.nd rfl (.inl rfl) (D3 V8 (D3 V8 (D3 V8 (pv 2) (C4 (pv 0) T.ac T.ae.m (E1 T) (Rm Z) T.ae.b .nil E7 (A8 (pv 1) B2))) (C4 (pv 0) T.ac T.af.m (E3 T) (Rm Z) T.af.b .nil E7 (A8 (pv 1) B2))) (C4 (pv 0) T.ac T.ae.m (E1 T) (Rm Z) T.ae.b .nil E7 (A8 (pv 3) B2))))
   (B3 (J7 (C8 T0 (pv 4) (pv 2) (E5 _)) (B4 (C1 (E8 (A8 (pv 1) (A8 (pv 2) B2))))) C3)
   (B4 (C2 (i:=2) JK.nd rfl (.inl rfl) (pv 4)))))))),?_⟩
  refine⟨λk σ G=>∃(g:Nat) (N O:A5 V),σ = [some (.ref x),some (.int (n:Int)),some (.int (g:Int)),N,O]/\k=2^l.length-g/\JW l.length g/\Sub M g/\Sm [c] H G/\F1 T.ab G x c l A B L/\∀m,KI l.length A B m->JD n M m->JD n g m,⟨_,M,_,_,rfl,rfl,lob,λj h=>h,Sm.refl _ _,hM,λm _ h=>h⟩,?_⟩;rintro k σ G ⟨g,N,O,rfl,rfl,lo1,r,kG,MG,u⟩;refine⟨_,rfl,Fw ⟨λσ' G'=>∃(v:Nat) (N O:A5 V),σ' = [some (.ref x),some (.int (n:Int)),some (.int (v:Int)),N,O]/\g<v/\JW l.length v/\Sub M v/\Sm [c] H G'/\F1 T.ab G' x c l A B L/\∀m,KI l.length A B m->JD n M m->JD n v m,?_,?_⟩⟩
  .rintro σ' G' ⟨v,N,O,rfl,lt,R,h⟩;have:=R.lt;exact⟨2^l.length-v,by lia,v,_,_,rfl,rfl,R,h⟩
  refine B6 λN1 hN1=>?_;obtain⟨y,a,b,d,kb,C,_⟩:=MG.ex;obtain⟨z,ez,hz⟩:=Yo (2^l.length-1) g λj I=>(I0 _ _).mpr (lo1 j I);refine A6 rfl ⟨x,y,A6 rfl ⟨C,rfl,A6 rfl ⟨x,T.ab,y,_,A6 rfl ⟨C,T.ac,T.au,rfl,A6 rfl (C0 rfl rfl ?_)⟩⟩⟩⟩;dsimp only;rw[ez];refine⟨x,c,l,A,B,L,z,rfl,MG,λsf G1 k1 M1 S=>?_⟩;refine hN1 _ _ (B6 λN2 hN2=>?_);obtain⟨y,a,b,d,kb,C,_⟩:=M1.ex;refine A6 rfl (A6 rfl ⟨x,y,A6 rfl ⟨C,rfl,A6 rfl ⟨x,c,l,A,B,L,n,rfl,M1,λr1 G2 k2 M2 h1=>?_⟩⟩⟩);refine C0 rfl rfl ?_;dsimp only;rw[QC];obtain⟨y,a,b,d,kb,C,_⟩:=M2.ex;refine A6 rfl ⟨x,y,A6 rfl ⟨C,rfl,A6 rfl ⟨x,c,l,A,B,L,n,rfl,M2,λr2 G3 k3 M3 h2=>?_⟩⟩⟩;refine C0 rfl rfl ?_;dsimp only;rw[QC];obtain⟨y,a,b,d,kb,C,_⟩:=M3.ex;refine A6 rfl ⟨x,y,A6 rfl ⟨C,rfl,A6 rfl ⟨x,c,l,A,B,L,sf,rfl,M3,λr3 G4 k4 M4 h3=>?_⟩⟩⟩;refine C0 rfl rfl ?_;dsimp only;rw[QC];have k4:=kG.trans (k1.trans (k2.trans (k3.trans k4)));generalize hmo:(g ||| r1 ||| r2 ||| r3)=U;have J:∀j,U.testBit j=true↔((g.testBit j=true\/W0 B n j)\/W0 A n j)\/W0 B sf j:=λj=>by
   rw[<-hmo,BR,BR,BR,CG,CG,CG,h1,h2,h3]
  have W:∀j,W0 B sf j↔∃i,i<l.length/\(¬∃k,k<l.length/\¬g.testBit k=true/\(B.getD k 0).testBit i=true)/\(B.getD i 0).testBit j=true:=λj=>by
   constructor
   .rintro⟨i,D,e⟩;obtain⟨hn,nh⟩:=(S i).mp D;exact⟨i,hn,λ⟨k,hk,nb,e'⟩=>nh ⟨k,(hz k).mpr ⟨(I0 _ _).mpr hk,nb⟩,e'⟩,e⟩
   .rintro⟨i,D,X,e⟩;exact⟨i,(S i).mpr ⟨D,λ⟨k,hk,e'⟩=>X ⟨k,(I0 _ _).mp ((hz k).mp hk).1,((hz k).mp hk).2,e'⟩⟩,e⟩
  refine hN2 _ _ (B6 λN3 hN3=>?_);refine A6 rfl (A6 rfl ⟨rfl,_,rfl,Q3 (λY=>?_) (λne=>?_)⟩)
  .have Y:U=g:=by have:=V.int.inj (BJ Y);lia
   refine A6 rfl (A6 rfl ⟨by show 2<=sizeLine;decide,λt ht=>?_⟩);have ut:=Cs.new (o:=.tup [.int (n:Int),.int (g:Int)]) ht;refine q t g _ (k4.trans ut.sm) (M4.same ut) B1 lo1 r u ⟨λj h=>?_,λj h=>?_,λi j D X e=>?_⟩
   .rw[<-Y];exact(J j).mpr (.inl (.inl (.inr h)))
   .rw[<-Y];exact(J j).mpr (.inl (.inr h))
   .rw[<-Y];exact(J j).mpr (.inr ((W j).mpr ⟨i,D,X,e⟩))
  .have ne:U≠g:=λz=>ne (AX (by rw[z]));refine hN3 _ _ ?_;have sb:Sub g U:=λj h=>(J j).mpr (.inl (.inl (.inl h)));refine A6 rfl ⟨U,_,_,rfl,DV (Nat.le_of_testBit sb) (Ne.symm ne),λj h=>?_,λj h=>sb j (r j h),k4,M4,λm hs hf=>?_⟩
   .rcases(J j).mp h with((h | ⟨k,_,e⟩) | ⟨k,_,e⟩) | ⟨k,_,e⟩
    .exact lo1 j h
    .exact(p.lt k j e).2
    .exact(p.lt j k ((p.tr k j).mp e)).1
    .exact(p.lt k j e).2
   .have f1:=u m hs hf;obtain⟨x1,x2,x3⟩:=Qn p hs f1;refine⟨f1.1,λj I z=>?_⟩;rcases(J j).mp z with((h | h) | h) | h
    .exact f1.2 j I h
    .exact x1 j h I
    .exact x2 j h I
    .obtain⟨i,D,X,e⟩:=(W j).mp h;exact x3 i j D X e I
end
def er(H:Hp)(l:A2):Hp:=λb=>if b=l then none else H b
def u6{H:Hp}{l b:A2}(n:b≠l):er H l b=H b:=AN n
def P4(H:Hp)(l:A2):Cs (er H l) H:=λb o e=>by
 unfold er at e;by_cases c:b=l
 .rw[AO c]at e;cases e
 .rw[AN c]at e;exact e
def Ae(H:Hp)(l:A2)(o:HO):er (IH H l o) l=er H l:=funext λb=>by
 unfold er;by_cases c:b=l
 .rw[AO c,AO c]
 .rw[AN c,AN c,B5 c]
def F1.er{C:A2}{H H':Hp}{x c l:A2}{ns:A1 Str}{A B:A1 Nat}{L:Nat}(h:F1 C (er H l) x c ns A B L)(k:Sm [c] H H')(h':F1 C H' x c ns A B L)(n:l≠c):F1 C (Sw.er H' l) x c ns A B L:=by
 refine h.fz (λb o e a=>?_) ?_
 .have:b≠l:=λz=>by subst z;unfold Sw.er at e;rw[AO rfl]at e;cases e
  rw[u6 this];exact k b o (P4 H l b o e) a
 .obtain⟨_,_,_,_,_,_,_,_,_,d,_⟩:=h'.ex;unfold Rd;rw[u6 n.symm];exact d
def Bn{n:Nat}(p:Nat->Prop)(h:∀m,p m->JW n m):∃Ls:A1 Nat,Ls.Nodup/\∀m,m∈Ls↔p m:=by
 classical
 refine⟨(List.range (2^n)).filter λm=>decide (p m),DP.nodup GD,λm=>?_⟩;rw[BH,BW,BX];exact⟨λz=>z.2,λz=>⟨(h m z).lt,z⟩⟩
def X5(x y:Nat):((Builtin.bitAnd (x:Int) (y:Int)) != 0)=true↔∃j,x.testBit j=true/\y.testBit j=true:=by
 rw[Tn,bne_iff_ne];constructor
 .intro h;have h:x &&& y≠0:=λz=>h (by rw[z];rfl);obtain⟨j,a⟩:=Nat.exists_testBit_of_ne_zero h;rw[CV,BT]at a;exact⟨j,a⟩
 .rintro⟨j,b,c⟩ z;have e:x &&& y=0:=by lia
  have:=DG j;rw[<-e,CV,b,c]at this;cases this
section
variable{P:A7}{w:F8}{K:PySem.W.Frag}{mg:Str->A5 A3}{base:IJ}
abbrev QO:=Nat->A1 Nat->A1 Nat->Nat->Prop
def U5(C:A2)(h:QO):Sp:=λi H Q _=>∃(x c:A2) (d:A1 Str) (A B:A1 Nat) (L e f:Nat),i = [.ref x,.int (e:Int),.int (f:Int)]/\F1 C H x c d A B L/\JW d.length e/\JW d.length f /\
 ∀t (a b:Nat) g,Sm [c] H g->F1 C g x c d A B L->g t=some (.tup [.int (a:Int),.int (b:Int)])->JW d.length a->JW d.length b->Sub e a->Sub f b->(∀m,h d.length A B m->JD e f m->JD a b m)->((∀j,a.testBit j=true->¬b.testBit j=true)->(∀j,j<d.length->a.testBit j=true\/b.testBit j=true)->h d.length A B a)->Q (.ref t) g
def m9(C f:A2)(i:QO)(k:Nat):Sp:=λj H Q E=>∃(x c l:A2) (a:A1 Str) (A B:A1 Nat) (L e g:Nat) (b:A1 Nat),j = [.ref x,.ref f,.bl false,.int (e:Int),.int (g:Int),.ref l]/\F1 C (er H l) x c a A B L/\JW a.length e/\JW a.length g/\TF a.length e g<=k/\H l=some (.lst (b.map O1))/\b.length<=300 /\
 ∀d:A1 Nat,d.Nodup->(∀m,m∈d↔i a.length A B m/\JD e g m)->(∀h,b.length+d.length<=300->Sm [c,l] H h->F1 C (er h l) x c a A B L->h l=some (.lst ((b++d).map O1))->Q .non h)/\(300<b.length+d.length->False)
theorem JF:II ["marks", "settle", "greatest", "chosen", "barred", "found", "undecided", "most", "first"] ["marks", "settle", "greatest", "chosen", "barred", "found"] (B7 QG):=KO
set_option maxHeartbeats 4000000 in
theorem Dj(T:Tx K mg){f:A2}{fd:IS}{I:QO}{n k:Nat}{S:Sp}(tl:∀n A B m,I n A B m->JW n m)(G:IK P w K mg base IY n f fd ["marks", "chosen", "barred"] (U5 T.ab I))(C:PySem.W.keepIn K (.ref f)=true)(D:Binds K fd ["marks", "chosen", "barred"] [])
  (h1:1<=n) (p:IK P w K mg base IY n T.an.f T.an.fd ["marks", "settle", "greatest", "chosen", "barred", "found"] S) (hS:∀k',k=k'+1->S=m9 T.ab f I k') :
  IK P w K mg base IY (n+1) T.an.f T.an.fd ["marks", "settle", "greatest", "chosen", "barred", "found"] (m9 T.ab f I k):=by
 have r:IK P w K mg base IY n T.az.f T.az.fd ["some"] Fs:=(W3 T).mono h1;refine T.an.F.o1 JF λcdv A outer s H vs Q E hr h=>?_
 .obtain⟨x,c,l,v,A,B,L,ch,ba,X,rfl,hR,loc,lob,hu,el,lf,q⟩:=h;have hM:=hR.same (P4 H l);refine⟨_,(B3 (l4 (Ei (i:=1) G (hr.mono (Nat.le_refl _)) C D E7 (A8 (pv 0) (A8 (pv 3) (A8 (pv 4) B2)))) (RB K (n:=2) (C9 (D6 (i:=3) JF.nd rfl (.inl rfl)) (C9 (D6 (i:=4) JF.nd rfl (.inl rfl)) O7))))
   (B3 (J7 (RR K (D3 Q0 (pv 3) (pv 4))) (B4 y6) C3)
   (B3 (C2 (i:=6) JF.nd rfl (.inl rfl) (D3 y9 (NS K (pv 0)) (D3 V8 (pv 3) (pv 4))))
   (B3 (C2 (i:=7) JF.nd rfl (.inr rfl) (D3 V8 (pv 3) (pv 6)))
   (B3 (J7 (PW.pt (Cn (Q2 (pv 2)) (u4 (Q2 (I9 (Ye K) T.bL Xr (A8 (U1 (N':=["one", "most"]) (cap:=[none,some 7]) (cl:=[("most",_)]) (Q1 ⟨⟨rfl,rfl,rfl,rfl⟩,trivial⟩ ⟨rfl,trivial⟩) rfl (OU K (pv 5)) (λ_ _ _ _=>by exact⟨(NR 0),J9,(R0 T0 (D3 Q0 (pv 1) (pv 0)) (pv 1) (E5 _))⟩)) B2)))))) (B4 y6) C3)
   (B3 (J7 (W7 (RR K (pv 6))) (B3 (J7 (C8 T0 (I9 (V5 K) T.aP U3 (A8 (pv 5) B2)) (zBr T.bF) (E5 _)) (B4 q0) C3)
   (B3 (E2 (Fu K PySem.F.plainAttrs_list PySem.F.slot_list_append PySem.F.type_list_append G8 (pv 5) (A8 (pv 3) B2)))
   (B4 y6))) C3)
   (B3 (C2 (i:=8) JF.nd rfl (.inl rfl) (C7 T.az r (hr.mono (Nat.le_refl _)) (A8 (pv 6) B2)))
   (B3 (E2 (C7 T.an p (hr.mono (Nat.le_refl _)) (@A8 _ _ _ _ _ (pv 0) (@A8 _ _ _ _ _ (pv 1) (@A8 _ _ _ _ _ (pv 2) (@A8 _ _ _ _ _ (D3 V8 (pv 3) (pv 8)) (@A8 _ _ _ _ _ (pv 4) (@A8 _ _ _ _ _ (pv 5) B2 (by rfl)) (by rfl)) (by rfl)) (by rfl)) (by rfl)) (by rfl))))
   (B4 (E2 (C7 T.an p (hr.mono (Nat.le_refl _)) (@A8 _ _ _ _ _ (pv 0) (@A8 _ _ _ _ _ (pv 1) (@A8 _ _ _ _ _ (pv 2) (@A8 _ _ _ _ _ (pv 3) (@A8 _ _ _ _ _ (D3 V8 (pv 4) (pv 8)) (@A8 _ _ _ _ _ (pv 5) B2 (by rfl)) (by rfl)) (by rfl)) (by rfl)) (by rfl)) (by rfl))))))))))))),?_⟩
  refine B6 λN1 hN1=>?_;refine⟨rfl,A6 rfl (A6 rfl (A6 rfl ⟨x,c,v,A,B,L,ch,ba,rfl,hM,loc,lob,λt g b1 H1 Y M1 et lo1 Z R U snd cpl=>?_⟩))⟩;refine⟨t,_,rfl,JH.of et,rfl,_,_,rfl,_,_,rfl,rfl,?_⟩;have nlc:l≠c:=let⟨_,_,_,_,_,_,_,_,_,e5,_⟩:=hM.ex;Vp e5 el (λ_ z=>by cases z) λ_ _ z=>by cases z
  have J:=KW Y el nlc;have R1:=hR.er Y M1 nlc;have Y:Sm [c,l] H H1:=λb o e nb=>Y b o e λz=>nb (AL.mpr (.inl (AD.mp z)));refine hN1 _ _ (B6 λN2 hN2=>?_);refine A6 rfl (A6 rfl (C0 rfl rfl ⟨_,rfl,Q3 (λcm=>?_) (λcm=>?_)⟩))
  .obtain⟨j,j1,j2⟩:=(X5 g b1).mp cm;have:=(q [] ER λm=>⟨λz=>absurd z AY,λ⟨z,y⟩=>absurd j2 ((snd m z y).2 j ((snd m z y).1 j j1))⟩).1 H1 (by rw[FE];lia) Y R1 (by rw[CA];exact J);exact this
  have dis:∀j,g.testBit j=true->¬b1.testBit j=true:=λj z y=>cm ((X5 g b1).mpr ⟨j,z,y⟩);have fit:∀m,I v.length A B m/\JD ch ba m↔I v.length A B m/\JD g b1 m:=λm=>⟨λ⟨z,y⟩=>⟨z,snd m z y⟩,λ⟨z,y⟩=>⟨z,y.mono R U⟩⟩;refine hN2 _ _ (B6 λN3 hN3=>?_);obtain⟨dx,a,b,d,kb,e1,_⟩:=M1.ex;obtain⟨u,eu,N⟩:=Yo (2^v.length-1) (g ||| b1) λj hj=>by
   rw[BR,CG]at hj;exact(I0 _ _).mpr (hj.elim (lo1 j) (Z j))
  have N:∀j,u.testBit j=true↔j<v.length/\¬g.testBit j=true/\¬b1.testBit j=true:=λj=>by
   rw[N,I0,BR,CG,not_or]
  refine A6 rfl ⟨x,T.ab,dx,_,A6 rfl ⟨e1,T.ac,T.au,rfl,A6 rfl (A6 rfl (C0 rfl rfl ?_))⟩⟩;dsimp only;rw[QC];refine C0 rfl rfl ?_;dsimp only;rw[eu];refine hN3 _ _ (B6 λN4 hN4=>?_);refine A6 rfl (A6 rfl (C0 rfl rfl ?_));refine hN4 _ _ (B6 λN5 hN5=>?_);refine A6 rfl ⟨_,rfl,i7 (i7 ?_)⟩;refine hN5 _ _ (B6 λN6 hN6=>?_);refine A6 rfl ⟨_,rfl,Q3 (λz0=>?_) (λz0=>?_)⟩
  .have u0:u=0:=by
    rw[EO,bne_eq_false_iff_eq]at z0;lia
   have all:∀j,j<v.length->g.testBit j=true\/b1.testBit j=true:=λj hj=>by
    by_cases h:g.testBit j=true
    .exact .inl h
    .by_cases h':b1.testBit j=true
     .exact .inr h'
     .have:=(N j).mpr ⟨hj,h,h'⟩;rw[u0,DG]at this;cases this
   have tg:=cpl dis all;have qq:=q [g] (DE _ _) λm=>by
    rw[fit,AD];exact⟨λz=>by rw[z];exact⟨tg,λj h=>h,dis⟩,λ⟨z,y⟩=>Il (tl _ _ _ _ z) all y⟩
   have lm:(X.map O1).length=X.length:=AA ..;refine B6 λN7 hN7=>?_;refine A6 rfl (C0 (a:=l) rfl (.inl (IQ.of J)) ⟨rfl,_,rfl,Q3 (λe3=>?_) (λe3=>?_)⟩)
   .have l300:X.length=300:=by
     have:=V.int.inj (BJ e3);rw[lm]at this;lia
    exact qq.2 (by rw[GO];lia)
   .have l300:X.length<300:=DV lf λz=>e3 (AX (by rw[lm,z];rfl));refine hN7 _ _ (B6 λN8 hN8=>?_);refine A6 rfl ⟨.inl ⟨rfl,_,IQ.of J⟩,A6 rfl ⟨l,_,_,rfl,rfl,J,by rw[lm,sizeLine_eq];lia,hN8 _ _ ?_⟩⟩;have:=qq.1 (IH H1 l (.lst (X.map O1 ++ [.int (g:Int)]))) (by rw[GO];lia) (Y.upd (by simp)) (by rw[Ae];exact R1) (by rw[B1,AK];rfl);exact this
  .have upos:0<u:=by
    rcases Nat.eq_zero_or_pos u with h | h
    .exact absurd (by rw[h];rfl) z0
    .exact h
   refine hN6 _ _ (B6 λN7 hN7=>?_);refine A6 rfl ⟨u,rfl,upos,λkk hkk _=>?_⟩;obtain⟨k0,nc,nb⟩:=(N kk).mp hkk;have ss:∀a:Nat,Sub a (a ||| 2^kk):=λa j h=>by rw[BR,h];rfl
   have sb:∀a:Nat,(a ||| 2^kk).testBit kk=true:=λa=>by rw[BR,DM,Bool.or_true]
   have un1:=Np (n:=v.length) R U;have un2:=Oh (n:=v.length) (ss g) (λj h=>h:Sub b1 b1) k0 ⟨nc,nb⟩ (.inl (sb g));have un3:=Oh (n:=v.length) (λj h=>h:Sub g g) (ss b1) k0 ⟨nc,nb⟩ (.inr (sb b1));obtain⟨k',rfl⟩:∃k',k=k'+1:=⟨k-1,by lia⟩;have hSS:=hS k' rfl;subst hSS;have mem:∀{M L2:A1 Nat},(∀m,m∈M↔I v.length A B m/\JD (g ||| 2^kk) b1 m)->(∀m,m∈L2↔I v.length A B m/\JD g (b1 ||| 2^kk) m)->∀m,m∈M++L2↔I v.length A B m/\JD ch ba m:=λh1 h2 m=>by
    rw[fit,AR,h1,h2,NC,LX];constructor
    .rintro(⟨a,b,_⟩ | ⟨a,b,_⟩)
     .exact⟨a,b⟩
     .exact⟨a,b⟩
    .rintro⟨a,b⟩;by_cases h:m.testBit kk=true
     .exact .inl ⟨a,b,h⟩
     .exact .inr ⟨a,b,h⟩
   have nod:∀{M L2:A1 Nat},M.Nodup->L2.Nodup->(∀m,m∈M↔I v.length A B m/\JD (g ||| 2^kk) b1 m)->(∀m,m∈L2↔I v.length A B m/\JD g (b1 ||| 2^kk) m)->(M++L2).Nodup:=λn1 n2 h1 h2=>EB.mpr ⟨n1,n2,λa ha b hb e=>by
    subst e;exact(LX.mp ((h2 a).mp hb).2).2 (NC.mp ((h1 a).mp ha).2).2⟩
   refine hN7 _ _ (B6 λN8 hN8=>?_);refine A6 rfl (A6 rfl (A6 rfl (A6 rfl (A6 rfl (C0 rfl rfl ?_)))));refine A6 rfl (A6 rfl ⟨x,c,l,v,A,B,L,g ||| 2^kk,b1,X,by dsimp only;rw[QC];rfl,R1,lo1.or k0,Z,by lia,J,lf,λM nd1 m1=>⟨λH2 le2 k2 M2 el2=>?_,λgt=>?_⟩⟩)
   .refine hN8 _ _ ?_;refine A6 rfl (A6 rfl (A6 rfl (A6 rfl (A6 rfl (A6 rfl (C0 rfl rfl ?_))))));refine A6 rfl ⟨x,c,l,v,A,B,L,g,b1 ||| 2^kk,X++M,by dsimp only;rw[QC];rfl,M2,lo1,Z.or k0,by lia,el2,by rw[AU];exact le2,λL2 O m2=>⟨λH3 le3 k3 M3 el3=>?_,λgt=>?_⟩⟩
    .rw[AU]at le3;rw[BM]at el3;exact(q (M++L2) (nod nd1 O m1 m2) (mem m1 m2)).1 H3 (by rw[AU];lia) (Y.trans (k2.trans k3)) M3 el3
    .rw[AU]at gt;exact((q (M++L2) (nod nd1 O m1 m2) (mem m1 m2)).2 (by rw[AU];lia))
   .obtain⟨L2,O,m2⟩:=Bn (n:=v.length) (λm=>I v.length A B m/\JD g (b1 ||| 2^kk) m) λm h=>tl _ _ _ _ h.1;exact((q (M++L2) (nod nd1 O m1 m2) (mem m1 m2)).2 (by rw[AU];lia))
def Ka:Sp:=λ_ _ _ _=>False
theorem Ln{f:A2}{a:IS}{b:A1 Str}{c:R_}{n:Nat}:IK P w K mg base c n f a b Ka:=⟨λ_ _ _ _ h=>h.elim,λ_ _ _ _ _ _ _ _ _ _ _ _ _ h=>h.elim⟩
theorem Ig(T:Tx K mg){f:A2}{g:IS}{a:QO}{n:Nat}(b:∀n A B m,a n A B m->JW n m)(G:IK P w K mg base IY n f g ["marks", "chosen", "barred"] (U5 T.ab a))(c:PySem.W.keepIn K (.ref f)=true)(d:Binds K g ["marks", "chosen", "barred"] [])(h1:1<=n) :
  ∀k,IK P w K mg base IY (n+1+k) T.an.f T.an.fd ["marks", "settle", "greatest", "chosen", "barred", "found"] (m9 T.ab f a k)
 | 0=>Dj T b G c d h1 Ln λh e=>by lia
 | k+1=>Dj (n:=n+1+k) T b (G.mono (by lia)) c d (by lia) (Ig T b G c d h1 k) λh e=>by cases e;rfl
end
def V4(n:Nat)(A B:A1 Nat)(m:Nat):Prop:=KI n A B m/\∀j,Kd n A B m j->m.testBit j=true
def Cd{n:Nat}{A B:A1 Nat}{m a j:Nat}(s:Sub m a)(h:Kd n A B m j):Kd n A B a j:=⟨h.1,λb c=>let⟨k,d,e⟩:=h.2 b c;⟨k,s k d,e⟩⟩
section
variable{P:A7}{w:F8}{K:PySem.W.Frag}{mg:Str->A5 A3}{base:IJ}
theorem Fz:II ["self", "some"] ["self", "some"] (B7 NZ):=KO
def Wu(C:A2):Sp:=λd H Q _=>∃(x c:A2) (a:A1 Str) (A B:A1 Nat) (L m:Nat),d = [.ref x,.int (m:Int)]/\F1 C H x c a A B L/\∀(r:Nat) b,Sm [c] H b->F1 C b x c a A B L->(∀j,r.testBit j=true↔Kd a.length A B m j)->Q (.int (r:Int)) b
theorem Fl(T:Tx K mg):IK P w K mg base IY 4 T.aW.f T.aW.fd ["self", "some"] (Wu T.ab):=by
 refine T.aW.F.o1 Fz λv A n s H U Q E i h=>?_
 .obtain⟨x,c,o,A,B,L,m,rfl,g,q⟩:=h;obtain⟨p,a,b,d,V,t,_⟩:=g.ex;refine⟨_,(B4 (C1 (D3 y9 (NS K (pv 0)) (C4 (pv 0) T.ac T.ae.m (E1 T) (Rm i) T.ae.b .nil E7 (A8 (C4 (pv 0) T.ac T.ah.m (G7 T) (Rm i) T.ah.b .nil E7 (A8 (pv 1) B2)) B2))))),?_⟩;refine A6 rfl ⟨x,T.ab,p,_,A6 rfl ⟨t,T.ac,T.au,rfl,A6 rfl ⟨x,p,A6 rfl ⟨t,rfl,A6 rfl ⟨x,p,A6 rfl ⟨t,rfl,A6 rfl ⟨x,c,o,A,B,L,m,rfl,g,λy W C D u=>?_⟩⟩⟩⟩⟩⟩⟩;refine⟨x,c,o,A,B,L,y,rfl,D,λr G I J i=>?_⟩;obtain⟨z,M,N⟩:=Yo (2^o.length-1) r λj l=>by
   obtain⟨k,_,e⟩:=(i j).mp l;exact(I0 _ _).mpr (g.net.lt k j e).2
  refine⟨_,_,rfl,rfl,?_⟩;dsimp only;rw[M];refine q z G (C.trans I) J λj=>?_;rw[N,I0,i];constructor
  .rintro⟨l,O⟩;refine⟨l,λb R=>?_⟩;have e:=(g.net.tr j b).mp R;by_cases c:W0 B m b
   .exact c
   .exact absurd ⟨b,(u b).mpr ⟨(g.net.lt b j e).1,c⟩,e⟩ O
  .rintro⟨l,h⟩;exact⟨l,λ⟨k,S,e⟩=>((u k).mp S).2 (h k ((g.net.tr j k).mpr e))⟩
theorem JO:II ["marks", "chosen", "barred", "more"] ["marks", "chosen", "barred"] (B7 MV):=KO
set_option maxHeartbeats 2000000 in
theorem Bp(T:Tx K mg):IK P w K mg base IY 5 T.aD.f T.aD.fd ["marks", "chosen", "barred"] (U5 T.ab V4):=by
 refine T.aD.F.o1 JO λcdv A outer s H vs Q E hr h=>?_
 .obtain⟨x,c,o,A,B,L,M,N,rfl,hM,loc,lob,q⟩:=h;have net:=hM.net;refine⟨_,(B4 (Fk PassesOwn.never (Q2 Cm) (B3 (l4 (C7 T.aJ (S5 T) (Rm hr) (A8 (pv 0) (A8 (pv 1) (A8 (pv 2) B2)))) (RB K (n:=2) (C9 (D6 (i:=1) JO.nd rfl (.inl rfl)) (C9 (D6 (i:=2) JO.nd rfl (.inl rfl)) O7))))
   (B3 (C2 (i:=3) JO.nd rfl (.inl rfl) (D3 V8 (pv 1) (C4 (pv 0) T.ac T.aW.m (Fl T) (Rm hr) T.aW.b .nil E7 (A8 (pv 1) B2))))
   (B3 (J7 (PW.pt (Ij (C8 T0 (pv 3) (pv 1) (E5 _)) (Af (RR K (D3 Q0 (pv 1) (pv 2)))))) (B4 (C1 (E8 (A8 (pv 1) (A8 (pv 2) B2))))) C3)
   (B4 (C2 (i:=1) JO.nd rfl (.inl rfl) (pv 3)))))))),?_⟩
  refine⟨λk σ G=>∃(g O:Nat) (S:A5 V),σ = [some (.ref x),some (.int (g:Int)),some (.int (O:Int)),S]/\k=2^o.length-g/\JW o.length g/\JW o.length O/\Sub M g/\Sub N O/\Sm [c] H G/\F1 T.ab G x c o A B L/\∀m,V4 o.length A B m->JD M N m->JD g O m,⟨_,M,N,_,rfl,rfl,loc,lob,λj h=>h,λj h=>h,Sm.refl _ _,hM,λm _ h=>h⟩,?_⟩;rintro k σ G ⟨g,O,S,rfl,rfl,lo1,lo2,u,v,kG,MG,U⟩;refine⟨_,rfl,Fw ⟨λσ' G'=>∃(C l:Nat) (S:A5 V),σ' = [some (.ref x),some (.int (C:Int)),some (.int (l:Int)),S]/\g<C/\JW o.length C/\JW o.length l/\Sub M C/\Sub N l/\Sm [c] H G'/\F1 T.ab G' x c o A B L/\∀m,V4 o.length A B m->JD M N m->JD C l m,?_,?_⟩⟩
  .rintro σ' G' ⟨C,l,S,rfl,lt,p,h⟩;have:=p.lt;exact⟨2^o.length-C,by lia,C,l,_,rfl,rfl,p,h⟩
  refine B6 λN1 hN1=>?_;refine A6 rfl (A6 rfl (A6 rfl ⟨x,c,o,A,B,L,g,O,rfl,MG,lo1,lo2,λt l G1 k1 M1 et p D W st=>?_⟩));refine⟨t,_,rfl,JH.of et,rfl,_,_,rfl,_,_,rfl,rfl,?_⟩;have I:∀m,V4 o.length A B m->JD M N m->JD g l m:=λm X hf=>W m X.1 (U m X hf);refine hN1 _ _ (B6 λN2 hN2=>?_);obtain⟨dx,a,b,d,kb,e1,_⟩:=M1.ex;refine A6 rfl (A6 rfl ⟨x,dx,A6 rfl ⟨e1,rfl,A6 rfl ⟨x,c,o,A,B,L,g,rfl,M1,λr G2 k2 M2 hr=>?_⟩⟩⟩);refine C0 rfl rfl ?_;dsimp only;rw[QC];have k2:=kG.trans (k1.trans k2);generalize hmo:(g ||| r)=J;have hm:∀j,J.testBit j=true↔g.testBit j=true\/Kd o.length A B g j:=λj=>by rw[<-hmo,BR,CG,hr]
  have ret:(J=g\/∃j,g.testBit j=true/\l.testBit j=true)->∀R Y,Cs G2 Y->Y R=some (.tup [.int (g:Int),.int (l:Int)])->Q (.ref R) Y:=λhc R Y s3 et'=>by
   refine q R g l Y (k2.trans s3.sm) (M2.same s3) et' lo1 p u (λj h=>D j (v j h)) I λZ all=>⟨Du net lo1 st Z all,λj hj=>?_⟩;rcases hc with e | ⟨i,h1,h2⟩
   .rw[<-e];exact(hm j).mpr (.inr hj)
   .exact absurd h2 (Z i h1)
  have tup:(J=g\/∃j,g.testBit j=true/\l.testBit j=true)->zGi (zHw (Oj (Pg 1) (Oj (Pg 2) TD))) { nx:=λ_ H'=>Q .non H',rt:=Q } [some (.ref x),some (.int (g:Int)),some (.int (l:Int)),some (.int (J:Int))] G2:=λhc =>
   A6 rfl (A6 rfl ⟨by show 2<=sizeLine;decide,λR ht'=>ret hc R _ (Cs.new ht') B1⟩)
  refine hN2 _ _ (B6 λN3 hN3=>?_);refine A6 rfl (A6 rfl ⟨rfl,_,rfl,Q3 (λeq=>?_) (λne=>?_)⟩)
  .exact Fw (tup (.inl (by have:=V.int.inj (BJ eq);lia)))
  .refine A6 rfl (A6 rfl (C0 rfl rfl ⟨_,rfl,Q3 (λcm=>?_) (λcm=>?_)⟩))
   .exact tup (.inr ((X5 g l).mp cm))
   .have ne:J≠g:=λz=>ne (AX (by rw[z]));have sb:Sub g J:=λj h=>(hm j).mpr (.inl h);refine hN3 _ _ ?_;refine A6 rfl ⟨J,l,_,rfl,DV (Nat.le_of_testBit sb) (Ne.symm ne),λj h=>((hm j).mp h).elim (lo1 j) (·.1),p,λj h=>sb j (u j h),λj h=>D j (v j h),k2,M2,λm X hf=>?_⟩;have f1:=I m X hf;exact⟨λj h=>((hm j).mp h).elim (f1.1 j) λy=>X.2 j (Cd f1.1 y),f1.2⟩
end
def MC(n:Nat)(A B:A1 Nat)(m:Nat):Prop:=JW n m/\Nw B m/\∀j,j<n->m.testBit j=true\/W0 B m j
def MC.stand{n:Nat}{A B:A1 Nat}(N:RM n A B){m:Nat}(h:MC n A B m):KI n A B m:=⟨h.1,h.2.1,λj a=>⟨h.1 j a,λb c=>by
 have e:=(N.tr j b).mp c;exact(h.2.2 b (N.lt b j e).1).resolve_left λz=>h.2.1 b j z a e⟩⟩
def MC.anti{n:Nat}{A B:A1 Nat}{a b:Nat}(d:MC n A B a)(c:MC n A B b)(s:Sub a b):a=b:=BL λj=>BP.mpr ⟨s j,λh=>by
 rcases d.2.2 j (c.1 j h)with z | ⟨k,f,e⟩
 .exact z
 .exact absurd e (c.2.1 k j (s k f) h)⟩
section
variable{P:A7}{w:F8}{K:PySem.W.Frag}{mg:Str->A5 A3}{base:IJ}
theorem JB:II ["marks", "chosen", "barred", "more"] ["marks", "chosen", "barred"] (B7 LJ):=KO
set_option maxHeartbeats 2000000 in
theorem j8(T:Tx K mg):IK P w K mg base IY 5 T.aq.f T.aq.fd ["marks", "chosen", "barred"] (U5 T.ab MC):=by
 refine T.aq.F.o1 JB λcdv A outer s H vs Q E hr h=>?_
 .obtain⟨x,c,o,A,B,L,J,M,rfl,hM,loc,lob,q⟩:=h;have S:=hM.net;refine⟨_,(B4 (Fk PassesOwn.never (Q2 Cm) (B3 (l4 (C7 T.aJ (S5 T) (Rm hr) (A8 (pv 0) (A8 (pv 1) (A8 (pv 2) B2)))) (RB K (n:=2) (C9 (D6 (i:=1) JB.nd rfl (.inl rfl)) (C9 (D6 (i:=2) JB.nd rfl (.inl rfl)) O7))))
   (B3 (C2 (i:=3) JB.nd rfl (.inl rfl) (D3 V8 (pv 1) (C4 (pv 0) T.ac T.ah.m (G7 T) (Rm hr) T.ah.b .nil E7 (A8 (D3 y9 (NS K (pv 0)) (pv 2)) B2))))
   (B3 (J7 (PW.pt (Ij (C8 T0 (pv 3) (pv 1) (E5 _)) (Af (RR K (D3 Q0 (pv 1) (pv 2)))))) (B4 (C1 (E8 (A8 (pv 1) (A8 (pv 2) B2))))) C3)
   (B4 (C2 (i:=1) JB.nd rfl (.inl rfl) (pv 3)))))))),?_⟩
  refine⟨λk σ G=>∃(g N:Nat) (U:A5 V),σ = [some (.ref x),some (.int (g:Int)),some (.int (N:Int)),U]/\k=2^o.length-g/\JW o.length g/\JW o.length N/\Sub J g/\Sub M N/\Sm [c] H G/\F1 T.ab G x c o A B L/\∀m,MC o.length A B m->JD J M m->JD g N m,⟨_,J,M,_,rfl,rfl,loc,lob,λj h=>h,λj h=>h,Sm.refl _ _,hM,λm _ h=>h⟩,?_⟩;rintro k σ G ⟨g,N,U,rfl,rfl,lo1,lo2,u,v,kG,MG,W⟩;refine⟨_,rfl,Fw ⟨λσ' G'=>∃(y l:Nat) (U:A5 V),σ' = [some (.ref x),some (.int (y:Int)),some (.int (l:Int)),U]/\g<y/\JW o.length y/\JW o.length l/\Sub J y/\Sub M l/\Sm [c] H G'/\F1 T.ab G' x c o A B L/\∀m,MC o.length A B m->JD J M m->JD y l m,?_,?_⟩⟩
  .rintro σ' G' ⟨y,l,U,rfl,lt,p,h⟩;have:=p.lt;exact⟨2^o.length-y,by lia,y,l,_,rfl,rfl,p,h⟩
  refine B6 λN1 hN1=>?_;refine A6 rfl (A6 rfl (A6 rfl ⟨x,c,o,A,B,L,g,N,rfl,MG,lo1,lo2,λt l G1 k1 M1 et p C X st=>?_⟩));refine⟨t,_,rfl,JH.of et,rfl,_,_,rfl,_,_,rfl,rfl,?_⟩;have D:∀m,MC o.length A B m->JD J M m->JD g l m:=λm O hf=>X m (O.stand S) (W m O hf);refine hN1 _ _ (B6 λN2 hN2=>?_);obtain⟨dx,a,b,d,kb,e1,_⟩:=M1.ex;obtain⟨z,ez,hz⟩:=Yo (2^o.length-1) l λj Y=>(I0 _ _).mpr (p j Y);refine A6 rfl (A6 rfl ⟨x,dx,A6 rfl ⟨e1,rfl,A6 rfl ⟨x,T.ab,dx,_,A6 rfl ⟨e1,T.ac,T.au,rfl,A6 rfl (C0 rfl rfl ?_)⟩⟩⟩⟩);dsimp only;rw[ez];refine⟨x,c,o,A,B,L,z,rfl,M1,λr G2 k2 M2 hr=>?_⟩;refine C0 rfl rfl ?_;dsimp only;rw[QC];have k2:=kG.trans (k1.trans k2);generalize hmo:(g ||| r)=I;have hm:∀j,I.testBit j=true↔g.testBit j=true\/(j<o.length/\¬W0 B z j):=λj=>by rw[<-hmo,BR,CG,hr]
  have ret:(I=g\/∃j,g.testBit j=true/\l.testBit j=true)->∀R Z,Cs G2 Z->Z R=some (.tup [.int (g:Int),.int (l:Int)])->Q (.ref R) Z:=λhc R Z s3 et'=>by
   refine q R g l Z (k2.trans s3.sm) (M2.same s3) et' lo1 p u (λj h=>C j (v j h)) D λdis all=>⟨lo1,(Du S lo1 st dis all).2.1,λj Y=>?_⟩;rcases hc with e | ⟨i,h1,h2⟩
   .by_cases hh:W0 B g j
    .exact .inr hh
    .refine .inl ?_;rw[<-e];refine(hm j).mpr (.inr ⟨Y,λ⟨k,hk,e'⟩=>hh ⟨k,?_,e'⟩⟩);obtain⟨h1,h2⟩:=(hz k).mp hk;exact(all k ((I0 _ _).mp h1)).resolve_right h2
   .exact absurd h2 (dis i h1)
  have tup:(I=g\/∃j,g.testBit j=true/\l.testBit j=true)->zGi (zHw (Oj (Pg 1) (Oj (Pg 2) TD))) { nx:=λ_ H'=>Q .non H',rt:=Q } [some (.ref x),some (.int (g:Int)),some (.int (l:Int)),some (.int (I:Int))] G2:=λhc =>
   A6 rfl (A6 rfl ⟨by show 2<=sizeLine;decide,λR ht'=>ret hc R _ (Cs.new ht') B1⟩)
  refine hN2 _ _ (B6 λN3 hN3=>?_);refine A6 rfl (A6 rfl ⟨rfl,_,rfl,Q3 (λeq=>?_) (λne=>?_)⟩)
  .exact Fw (tup (.inl (by have:=V.int.inj (BJ eq);lia)))
  .refine A6 rfl (A6 rfl (C0 rfl rfl ⟨_,rfl,Q3 (λcm=>?_) (λcm=>?_)⟩))
   .exact tup (.inr ((X5 g l).mp cm))
   .have ne:I≠g:=λz=>ne (AX (by rw[z]));have sb:Sub g I:=λj h=>(hm j).mpr (.inl h);refine hN3 _ _ ?_;refine A6 rfl ⟨I,l,_,rfl,DV (Nat.le_of_testBit sb) (Ne.symm ne),λj h=>((hm j).mp h).elim (lo1 j) (·.1),p,λj h=>sb j (u j h),λj h=>C j (v j h),k2,M2,λm O hf=>?_⟩;have f1:=D m O hf;refine⟨λj h=>((hm j).mp h).elim (f1.1 j) λ⟨Y,nh⟩=>?_,f1.2⟩;refine(O.2.2 j Y).resolve_right λ⟨k,hk,e⟩=>nh ⟨k,(hz k).mpr ⟨(I0 _ _).mpr (O.1 k hk),f1.2 k hk⟩,e⟩
end
structure RD(H0 H:Hp)(ts:A1 (A2×A1 Str)):Prop where
 at_:∀t∈ts,H t.1=some (.lst (t.2.map V.str))
 nd:(ts.map λt=>t.1).Nodup
 new:∀t∈ts,H0 t.1=none
def RD.same{a H H':Hp}{ts:A1 (A2×A1 Str)}(h:RD a H ts)(s:Cs H H'):RD a H' ts:=⟨λt b=>s _ _ (h.at_ t b),h.nd,h.new⟩
def Nm{J:It}{l D:A2}{H:Hp}{ns:A1 Str}{Ms:A1 Nat}{r:St}{s:A5 V}{u:TE}{Q:St->Hp->Prop}(as:LY J (Ms.map O1) l H)(E:Ms.length<=5000)(w:H D=none)
  (step:∀m G (R:VK),Cs H G->(∀z j,G z=none->Cs G j->j z=some (.lst ((JG ns m).map V.str))->R (.ref z) j)->u (some (O1 m)::r) G R)
  (q:∀σ G (ts:A1 (A2×A1 Str)),Cs H G->G D=some (.lst (ts.map λt=>V.ref t.1))->RD H G ts->(∀t∈ts,t.1≠D)->(ts.map λt=>t.2)=Ms.map (JG ns)->Q σ G):Ji (W8 0) By (Cp D u) J (s::r) (IH H D (.lst [])) Q:=by
 refine V1 as (λi σ G=>(∃v,σ=v::r)/\Cs H G/\∃ts:A1 (A2×A1 Str),G D=some (.lst (ts.map λt=>V.ref t.1))/\RD H G ts/\(∀t∈ts,t.1≠D)/\(ts.map λt=>t.2) =(Ms.take i).map (JG ns)) ⟨⟨_,rfl⟩,Cs.new w,[],B1,⟨λt h=>absurd h AY,ER,λt h=>absurd h AY⟩,λt h=>absurd h AY,rfl⟩ (λi σ G _ h=>h.2.1.at l) ?_ ?_
 .rintro i σ G y N x ⟨⟨s,rfl⟩,f,ts,k,d,n,g⟩ F;rw[AH]at x;obtain⟨m,A,rfl⟩:=BF.mp x;have L:=(AF.mp A).1;have M:ts.length=i:=by
   have:=congrArg List.length g;rw[AA,AA,AW]at this;lia
  refine Ef (step m G _ f λz j o p I=>?_);have B:z≠D:=(A9 k o).symm;refine⟨_,p _ _ k,by rw[AA,sizeLine_eq];lia,F _ _ ⟨⟨_,rfl⟩,(f.trans p).upd w,ts ++ [(z,JG ns m)],?_,⟨λt c=>?_,?_,λt c=>?_⟩,λt c=>?_,?_⟩⟩
  .rw[B1,AK];rfl
  .rcases AR.mp c with h | h
   .rw[B5 (n t h)];exact p _ _ (d.at_ t h)
   .rw[AD.mp h,B5 B];exact I
  .rw[AK];refine EB.mpr ⟨d.nd,DE _ _,λa K b C e=>?_⟩;obtain⟨t,c,rfl⟩:=AJ.mp K;rw[List.map_singleton,AD]at C;rw[C]at e;have:=d.at_ t c;rw[e,o]at this;cases this
  .rcases AR.mp c with h | h
   .exact d.new t h
   .rw[AD.mp h];exact f.free o
  .rcases AR.mp c with h | h
   .exact n t h
   .rw[AD.mp h];exact B
  .rw[AK,g,I7 A,AK];rfl
 .rintro σ G ⟨_,f,ts,k,d,n,g⟩;rw[AA,CK]at g;exact q σ G ts f k d n g
section
variable{P:A7}{w:F8}{K:PySem.W.Frag}{mg:Str->A5 A3}{base:IJ}
def Nc(j f:A2)(l:QO):Sp:=λn H Q E=>∃(i:A2) (c:A1 Str) (h:A1 JS),n = [.ref i,.ref f,.bl false]/\JP j H i c h/\c.length<=10 /\
 ∀(A B d:A1 Nat),MB c ((h.map λq=>q.2).map λk=>(k.2,k.1)) A->MB c (h.map λq=>q.2) B->d.Nodup->(∀m,m∈d↔l c.length A B m) ->
  (∀r (e:A1 (A2×A1 Str)) g,d.length<=300->Cs H g->H r=none->g r=some (.lst (e.map λt=>V.ref t.1))->RD H g e->(∀t∈e,t.1≠r)->(e.map λt=>t.2).Perm (d.map (JG c))->e.Pairwise (λa b=>TS.KB (TS.MS b.2) (TS.MS a.2)=false)->Q (.ref r) g)/\(300<d.length->False)
theorem KA:II ["web", "settle", "greatest", "marks", "found"] ["web", "settle", "greatest"] (B7 OT):=KO
set_option maxHeartbeats 4000000 in
theorem Hm(T:Tx K mg){f:A2}{C:QO}(tl:∀n A B m,C n A B m->JW n m)(tq:∀n A B m,C n A B m->Nw B m){g:Nat}(hg:3<=g)(u:IK P w K mg base IY (g+1) T.an.f T.an.fd ["marks", "settle", "greatest", "chosen", "barred", "found"] (m9 T.ab f C 10)) :
  IK P w K mg base IY (g+2) T.ap.f T.ap.fd ["web", "settle", "greatest"] (Nc T.ag f C):=by
 have k:IK P w K mg base IY g T.a5 T.a4 ["self", "web"] (U9 T.ab T.ag):=(Q7 T).mono hg;have p:IK P w K mg base IY (g+1) T.ai.f T.ai.fd ["self", "some"] (b9 T.ab):=(M8 T).mono (by lia);refine T.ap.F.o1 KA λcdv A outer s H vs Q E hr h=>?_
 .obtain⟨wb,ns,qs,rfl,hW,ln,q⟩:=h;refine⟨_,(B3 (C2 (i:=3) KA.nd rfl (.inr rfl) (Z9 T.bo k (hr.mono (Nat.le_refl _)) rfl T.bn T.aT .nil E7 (A8 (pv 0) B2)))
   (B3 (C2 (i:=4) KA.nd rfl (.inl rfl) (O8 B2))
   (B3 (E2 (C7 T.an u (hr.mono (Nat.le_refl _)) (@A8 _ _ _ _ _ (pv 3) (@A8 _ _ _ _ _ (pv 1) (@A8 _ _ _ _ _ (pv 2) (@A8 _ _ _ _ _ B8 (@A8 _ _ _ _ _ (NS K (pv 3)) (@A8 _ _ _ _ _ (pv 4) B2 (by rfl)) (by rfl)) (by rfl)) (by rfl)) (by rfl)) (by rfl))))
   (B4 (C1 (I9 (Mf K hr.units) T.bk n9 (A8 (U1 (N':=["some", "marks"]) (cap:=[none,some 3]) (cl:=[("marks",_)]) (Q1 ⟨⟨rfl,rfl,rfl,rfl⟩,trivial⟩ ⟨rfl,trivial⟩) rfl (OU K (pv 4)) (λ_ _ _ _=>by exact⟨(NR 0),J9,(C4 (pv 1) T.ac T.ai.m p (hr.mono (Nat.le_refl _)) T.ai.b .nil E7 (A8 (pv 0) B2))⟩)) B2))))))),?_⟩
  refine B6 λN1 hN1=>?_;refine A6 rfl ?_;intro x dx nx ndx nex;have s0:Cs H (IH (IH H dx (.own x)) x (.ins T.ab dx [])):=λb o e=>by
   rw[B5 (A9 e nx),B5 (A9 e ndx)];exact e
  refine⟨x,dx,wb,ns,qs,rfl,B1,hW.same s0,λc A B L H1 hc k1 M1 mA mB=>⟨rfl,?_⟩⟩;have s1:Cs H H1:=λb o e=>k1 b o (s0 b o e) (by simpa using A9 e nx);have hcn:H c=none:=s0.free hc;refine hN1 _ _ (B6 λN2 hN2=>?_);refine⟨CB _,λl hl=>?_⟩;have ul:=Cs.new (o:=.lst []) hl;have fl:(IH H1 l (.lst [])) l=some (.lst (([]:A1 Nat).map O1)):=B1;have hln:H l=none:=s1.free hl;have R2:F1 T.ab (er (IH H1 l (.lst [])) l) x c ns A B L:=M1.same λb o e=>by
   have:b≠l:=A9 e hl;rw[u6 this,B5 this];exact e
  generalize IH H1 l (.lst [])=H2 at ul fl R2⊢;have s2:=s1.trans ul;have O:=R2.same (P4 H2 l);obtain⟨Ms,I,mM⟩:=Bn (n:=ns.length) (λm=>C ns.length A B m) λm h=>tl _ _ _ _ h;obtain⟨q1,q2⟩:=q A B Ms mA mB I mM;have v:∀m,C ns.length A B m/\JD 0 L m↔C ns.length A B m:=λm=>⟨(·.1),λh=>⟨h,λj z=>(by rw[DG]at z;cases z),λj z y=>tq _ _ _ _ h j j z z ((O.net.tr j j).mp ((O.loops j).mp y))⟩⟩;refine hN2 _ _ (B6 λN3 hN3=>?_);obtain⟨J,a,b,d,kb,e1,_⟩:=O.ex;refine A6 rfl (A6 rfl (A6 rfl (A6 rfl ⟨x,T.ab,J,_,A6 rfl ⟨e1,T.ac,T.a3,rfl,A6 rfl ⟨x,c,l,ns,A,B,L,0,L,[],rfl,R2,JW.zero _,λj hj=>(O.net.lt j j ((O.net.tr j j).mp ((O.loops j).mp hj))).1,Nat.le_trans List.countP_le_length (by rw[CD];exact ln),fl,by decide,λLs S mL=>⟨λH3 U k3 R3 M=>?_,λgt=>?_⟩⟩⟩⟩)))
  .have pm:Ls.Perm Ms:=(ES S I).mpr λm=>by rw[mL,mM,v]
   rw[HK]at M;rw[FE,EF]at U;have M3:=R3.same (P4 H3 l);have s3:Cs H H3:=λb o e=>k3 b o (s2 b o e) (by
    intro z;rcases AL.mp z with rfl | z
    .rw[hcn]at e;cases e
    .rw[AD.mp z,hln]at e;cases e)
   refine hN3 _ _ ?_;refine A6 rfl ⟨l,rfl,⟨_,IQ.of M⟩,λD hD=>?_⟩;refine Nm (ns:=ns) (OW (IQ.of M)) (by lia) hD (λm G R sG hR=>?_) λσ' G ts sG eG W nG mG=>?_
   .have MG:=M3.same sG;obtain⟨J,a,b,d,kb,e1,_⟩:=MG.ex;exact A6 rfl ⟨x,J,A6 rfl ⟨e1,rfl,A6 rfl ⟨x,c,ns,A,B,L,m,rfl,MG,λz G' hz s' ez=>hR z G' hz s' ez⟩⟩⟩
   .refine⟨D,ts,rfl,IQ.of eG,W.at_,λr X N Y srt=>?_⟩;have ur:=Cs.new (o:=.lst (X.map λt=>V.ref t.1)) N;have hrn:H r=none:=(s3.trans sG).free N;refine q1 r X _ (by rw[<-pm.length_eq];exact U) ((s3.trans sG).trans ur) hrn B1 ⟨λt Z=>ur _ _ (W.at_ t (Y.mem_iff.mp Z)),(Y.map _).nodup_iff.mpr W.nd,λt Z=>s3.free (W.new t (Y.mem_iff.mp Z))⟩ (λt Z=>A9 (W.at_ t (Y.mem_iff.mp Z)) N) ?_ srt;refine(Y.map λt=>t.2).trans ?_;rw[mG];exact pm.map _
  .rw[FE,EF]at gt;have pm:Ls.Perm Ms:=(ES S I).mpr λm=>by rw[mL,mM,v]
   exact q2 (by rw[<-pm.length_eq];exact gt)
end
def TN:Nat->A1 (A1 Nat)
 | 0=>[[0]]
 | n+1=>((TN n).flatMap λc=>[c ++(c.getLast?.map λm=>m ||| 2^n).toList,c.dropLast.map λm=>m ||| 2^n]).filter λc=>!c.isEmpty
def Cf:∀n m,JW n m->∃c∈TN n,m∈c
 | 0,m,h=>⟨[0],AD.mpr rfl,by
  have:m=0:=BL λj=>by rw[DG];exact BQ.mpr λz=>absurd (h j z) (Nat.not_lt_zero _)
  rw[this];exact AD.mpr rfl⟩
 | n+1,m,h=>by
  have a:∀c d,c∈TN n->d∈[c ++(c.getLast?.map λm=>m ||| 2^n).toList,c.dropLast.map λm=>m ||| 2^n]->m∈d->∃c∈TN (n+1),m∈c:=λc d b i hm=>by
   refine⟨d,BH.mpr ⟨List.mem_flatMap.mpr ⟨c,b,i⟩,?_⟩,hm⟩;cases d with
   | nil=>exact absurd hm AY
   | cons _ _=>rfl
  by_cases f:m.testBit n=true
  .have lo:JW n (m % 2^n):=λj z=>by
    rw[Nat.testBit_mod_two_pow,BT,BX]at z;exact z.1
   have e:m % 2^n ||| 2^n=m:=BL λj=>by
    rw[BR,Nat.testBit_mod_two_pow,D_,BP,CG,BT,BX,BX];constructor
    .rintro(⟨_,z⟩ | rfl)
     .exact z
     .exact f
    .intro z;by_cases k:j<n
     .exact .inl ⟨k,z⟩
     .have:=h j z;exact .inr (by lia)
   obtain⟨c,b,hm⟩:=Cf n _ lo;have g:c≠[]:=λz=>by rw[z]at hm;exact absurd hm AY
   rw[<-List.dropLast_concat_getLast g]at hm;rcases AR.mp hm with hm | hm
   .exact a c _ b (BA _ (AD.mpr rfl)) (AJ.mpr ⟨_,hm,e⟩)
   .refine a c _ b (BE ..) (BI _ ?_);rw[List.getLast?_eq_getLast g];rw[AD]at hm;rw[hm]at e;simp only[GK,Option.toList_some,AD];exact e.symm
  .have lo:JW n m:=λj z=>by
    have:=h j z;rcases Nat.lt_or_ge j n with y | y
    .exact y
    .exact absurd (show m.testBit n=true by rw[show n=j by lia];exact z) f
   obtain⟨c,b,hm⟩:=Cf n m lo;exact a c _ b (BE ..) (EL _ hm)
def zEt{a b n:Nat}(h:Sub a b):Sub (a ||| 2^n) (b ||| 2^n):=λj z=>by
 rw[BR,CG]at z⊢;exact z.imp (h j) id
def Ny:∀n,∀c∈TN n,c.Pairwise Sub
 | 0,c,h=>by rw[AD.mp h];exact DE _ _
 | n+1,d,h=>by
  obtain⟨c,k,hd⟩:=List.mem_flatMap.mp (BH.mp h).1;have f:=Ny n c k;rcases AL.mp hd with rfl | hd
  .refine CF.mpr ⟨f,?_,λa ha b e=>?_⟩
   .cases c.getLast?<;>simp
   .cases g:c.getLast? with
    | none=>rw[g]at e;simp at e
    | some l =>
     rw[g]at e;simp only[GK,Option.toList_some,AD]at e;subst e;have i:c≠[]:=λz=>by rw[z]at ha;exact absurd ha AY
     have m:c.getLast i=l:=by rw[List.getLast?_eq_getLast i]at g;exact BN g
     have o:Sub a l:=by
      rw[<-List.dropLast_concat_getLast i,m]at ha f;rcases AR.mp ha with ha | ha
      .exact(CF.mp f).2.2 a ha l (AD.mpr rfl)
      .rw[AD.mp ha];exact λj z=>z
     exact λj z=>by rw[BR,o j z];rfl
  .rw[AD.mp hd];exact CC.mpr ((f.sublist (List.dropLast_sublist c)).imp zEt)
def Gw(p:Nat->Bool):∀L:A1 Nat,L.length =(L.filter p).length +(L.filter λm=>!p m).length
 | []=>rfl
 | a::L=>by
  have:=Gw p L;rw[DL,DL];cases h:p a<;>simp<;>lia
def Zf:∀(g:A1 (A1 Nat)) (L:A1 Nat),L.Nodup->(∀m∈L,∃c∈g,m∈c)->(∀c∈g,∀a∈L,∀b∈L,a∈c->b∈c->a=b)->L.length<=g.length
 | [],L,_,h,_=>by
  cases L with
  | nil=>exact Nat.le_refl _
  | cons a _=>obtain⟨_,z,_⟩:=h a (BE ..);exact absurd z AY
 | c::g,L,n,h,i=>by
  have u:=Zf g (L.filter λm=>!decide (m∈c)) (n.sublist DP) (λm q=>by
   obtain⟨s,o⟩:=BH.mp q;obtain⟨d,hd,j⟩:=h m s;rcases AL.mp hd with rfl | hd
   .rw[AX j]at o;cases o
   .exact⟨d,hd,j⟩) λd hd a k b l=>i d (BA _ hd) a (BH.mp k).1 b (BH.mp l).1
  have t:(L.filter λm=>decide (m∈c)).length<=1:=by
   have f:=n.sublist (DP (p:=λm=>decide (m∈c)))
   match e:L.filter (λm=>decide (m∈c)),f with
   | [],_=>exact CB _
   | [_],_=>exact Nat.le_refl _
   | a::b::r,f =>
    have k:a∈L.filter (λm=>decide (m∈c)):=by rw[e];exact BE ..
    have l:b∈L.filter (λm=>decide (m∈c)):=by rw[e];exact BA _ (BE ..)
    have:=i c (BE ..) a (BH.mp k).1 b (BH.mp l).1 (BJ (BH.mp k).2) (BJ (BH.mp l).2);exact absurd (this▸BE ..) (CL.mp f).1
  have:=Gw (λm=>decide (m∈c)) L;rw[BO];lia
def Zv:∀n,n<=10->(TN n).length<=300:=by decide +kernel
def Ay{n:Nat}(p:n<=10){L:A1 Nat}(q:L.Nodup)(lo:∀m∈L,JW n m)(d:∀a∈L,∀b∈L,Sub a b->a=b):L.length<=300:=by
 refine Nat.le_trans (Zf (TN n) L q (λm r=>Cf n m (lo m r)) λc s a g b h t u=>?_) (Zv n p);obtain⟨i,k,e⟩:=DN t;obtain⟨j,l,f⟩:=DN u;have o:=DY.mp (Ny n c s);rcases Nat.lt_trichotomy i j with z | z | z
 .have:=o i j k l z;rw[e,f]at this;exact d a g b h this
 .subst z;rw[<-e,<-f]
 .have:=o j i l k z;rw[e,f]at this;exact(d b h a g this).symm
def RA(l:A1 Nat):Prop:=l.Pairwise λa b=>¬Sub a b/\¬Sub b a
def RA.nodup{l:A1 Nat}(h:RA l):l.Nodup:=h.imp λz e=>z.1 (by rw[e];exact λj y=>y)
def RA.few{n:Nat}(k:n<=10){l:A1 Nat}(h:RA l)(lo:∀m∈l,JW n m):l.length<=300:=Ay k h.nodup lo λa o b p s=>by
 obtain⟨i,e,c⟩:=DN o;obtain⟨j,f,d⟩:=DN p;have g:=DY.mp h;rcases Nat.lt_trichotomy i j with z | z | z
 .have:=(g i j e f z).1;rw[c,d]at this;exact absurd s this
 .subst z;rw[<-c,<-d]
 .have:=(g j i f e z).2;rw[c,d]at this;exact absurd s this
def Pz(x y:Nat):decide (V.int (Builtin.bitAnd (x:Int) (y:Int))=V.int (x:Int))=true↔Sub x y:=by
 rw[BX,Tn];constructor
 .intro e j a;have e:x &&& y=x:=by have:=V.int.inj e;lia
  rw[<-e,CV,BT]at a;exact a.2
 .intro h;have e:x &&& y=x:=BL λj=>by
   rw[CV,BP,BT];exact⟨(·.1),λz=>⟨z,h j z⟩⟩
  rw[e]
def Zz{H G:Hp}{l:A2}(s:Cs H G):Cs (er H l) (er G l):=λb o e=>by
 have:b≠l:=λz=>by subst z;unfold er at e;rw[AO rfl]at e;cases e
 rw[u6 this]at e⊢;exact s b o e
section
variable{P:A7}{w:F8}{K:PySem.W.Frag}{mg:Str->A5 A3}{base:IJ}
def Y1(C f:A2)(j:QO)(k:Nat):Sp:=λn H Q _=>∃(x c l:A2) (a:A1 Str) (A B:A1 Nat) (L d e:Nat) (b:A1 Nat),n = [.ref x,.ref f,.bl true,.int (d:Int),.int (e:Int),.ref l]/\F1 C (er H l) x c a A B L/\a.length<=10/\JW a.length d/\JW a.length e/\TF a.length d e<=k/\H l=some (.lst (b.map O1)) /\
 RA b/\(∀g∈b,JW a.length g)/\(∀g∈b,∀m,JD d e m->¬Sub g m) /\
 ∀(h:A1 Nat) i,Sm [c,l] H i->F1 C (er i l) x c a A B L->i l=some (.lst ((b++h).map O1))->RA (b++h)->(∀m∈h,j a.length A B m/\JD d e m)->(∀m,j a.length A B m->JD d e m->∃g∈b++h,Sub m g)->Q .non i
set_option maxHeartbeats 4000000 in
theorem Bz(T:Tx K mg){f:A2}{fd:IS}{Tg:QO}{n k:Nat}{S:Sp}(tl:∀n A B m,Tg n A B m->JW n m)(R:IK P w K mg base IY n f fd ["marks", "chosen", "barred"] (U5 T.ab Tg))(N:PySem.W.keepIn K (.ref f)=true)(O:Binds K fd ["marks", "chosen", "barred"] [])
  (h1:1<=n) (r:IK P w K mg base IY n T.an.f T.an.fd ["marks", "settle", "greatest", "chosen", "barred", "found"] S) (hS:∀k',k=k'+1->S=Y1 T.ab f Tg k') :
  IK P w K mg base IY (n+1) T.an.f T.an.fd ["marks", "settle", "greatest", "chosen", "barred", "found"] (Y1 T.ab f Tg k):=by
 have J:IK P w K mg base IY n T.az.f T.az.fd ["some"] Fs:=(W3 T).mono h1;refine T.an.F.o1 JF λcdv A outer s H vs Q E hr h=>?_
 .obtain⟨x,c,l,U,A,B,L,ch,ba,fs,rfl,hR,ln,loc,lob,hu,el,an,lof,nof,q⟩:=h;have hM:=hR.same (P4 H l);have lf:=an.few ln lof;refine⟨_,(B3 (l4 (Ei (i:=1) R (hr.mono (Nat.le_refl _)) N O E7 (A8 (pv 0) (A8 (pv 3) (A8 (pv 4) B2)))) (RB K (n:=2) (C9 (D6 (i:=3) JF.nd rfl (.inl rfl)) (C9 (D6 (i:=4) JF.nd rfl (.inl rfl)) O7))))
   (B3 (J7 (RR K (D3 Q0 (pv 3) (pv 4))) (B4 y6) C3)
   (B3 (C2 (i:=6) JF.nd rfl (.inl rfl) (D3 y9 (NS K (pv 0)) (D3 V8 (pv 3) (pv 4))))
   (B3 (C2 (i:=7) JF.nd rfl (.inr rfl) (D3 V8 (pv 3) (pv 6)))
   (B3 (J7 (PW.pt (Cn (Q2 (pv 2)) (u4 (Q2 (I9 (Ye K) T.bL Xr (A8 (U1 (N':=["one", "most"]) (cap:=[none,some 7]) (cl:=[("most",_)]) (Q1 ⟨⟨rfl,rfl,rfl,rfl⟩,trivial⟩ ⟨rfl,trivial⟩) rfl (OU K (pv 5)) (λ_ _ _ _=>by exact⟨(NR 0),J9,(R0 T0 (D3 Q0 (pv 1) (pv 0)) (pv 1) (E5 _))⟩)) B2)))))) (B4 y6) C3)
   (B3 (J7 (W7 (RR K (pv 6))) (B3 (J7 (C8 T0 (I9 (V5 K) T.aP U3 (A8 (pv 5) B2)) (zBr T.bF) (E5 _)) (B4 q0) C3)
   (B3 (E2 (Fu K PySem.F.plainAttrs_list PySem.F.slot_list_append PySem.F.type_list_append G8 (pv 5) (A8 (pv 3) B2)))
   (B4 y6))) C3)
   (B3 (C2 (i:=8) JF.nd rfl (.inl rfl) (C7 T.az J (hr.mono (Nat.le_refl _)) (A8 (pv 6) B2)))
   (B3 (E2 (C7 T.an r (hr.mono (Nat.le_refl _)) (@A8 _ _ _ _ _ (pv 0) (@A8 _ _ _ _ _ (pv 1) (@A8 _ _ _ _ _ (pv 2) (@A8 _ _ _ _ _ (D3 V8 (pv 3) (pv 8)) (@A8 _ _ _ _ _ (pv 4) (@A8 _ _ _ _ _ (pv 5) B2 (by rfl)) (by rfl)) (by rfl)) (by rfl)) (by rfl)) (by rfl))))
   (B4 (E2 (C7 T.an r (hr.mono (Nat.le_refl _)) (@A8 _ _ _ _ _ (pv 0) (@A8 _ _ _ _ _ (pv 1) (@A8 _ _ _ _ _ (pv 2) (@A8 _ _ _ _ _ (pv 3) (@A8 _ _ _ _ _ (D3 V8 (pv 4) (pv 8)) (@A8 _ _ _ _ _ (pv 5) B2 (by rfl)) (by rfl)) (by rfl)) (by rfl)) (by rfl)) (by rfl))))))))))))),?_⟩
  refine B6 λN1 hN1=>?_;refine⟨rfl,A6 rfl (A6 rfl (A6 rfl ⟨x,c,U,A,B,L,ch,ba,rfl,hM,loc,lob,λt p b1 H1 k1 M1 et lo1 lo2 v C X cpl=>?_⟩))⟩;refine⟨t,_,rfl,JH.of et,rfl,_,_,rfl,_,_,rfl,rfl,?_⟩;have nlc:l≠c:=let⟨_,_,_,_,_,_,_,_,_,e5,_⟩:=hM.ex;Vp e5 el (λ_ z=>by cases z) λ_ _ z=>by cases z
  have el1:=KW k1 el nlc;have R1:=hR.er k1 M1 nlc;have k1:Sm [c,l] H H1:=λb o e nb=>k1 b o e λz=>nb (AL.mpr (.inl (AD.mp z)));have none:∀G,Sm [c,l] H G->F1 T.ab (er G l) x c U A B L->G l=some (.lst (fs.map O1))->(∀m,Tg U.length A B m->JD ch ba m->∃g∈fs,Sub m g)->Q .non G:=λG kG RG eG h=>q [] G kG RG (by rw[CA];exact eG) (by rw[CA];exact an) (λm z=>absurd z AY) (by rw[CA];exact h);refine hN1 _ _ (B6 λN2 hN2=>?_);refine A6 rfl (A6 rfl (C0 rfl rfl ⟨_,rfl,Q3 (λcm=>?_) (λcm=>?_)⟩))
  .obtain⟨j,j1,j2⟩:=(X5 p b1).mp cm;exact none H1 k1 R1 el1 λm z y=>absurd j2 ((X m z y).2 j ((X m z y).1 j j1))
  have dis:∀j,p.testBit j=true->¬b1.testBit j=true:=λj z y=>cm ((X5 p b1).mpr ⟨j,z,y⟩);refine hN2 _ _ (B6 λN3 hN3=>?_);obtain⟨dx,a,b,d,kb,e1,_⟩:=M1.ex;obtain⟨u,eu,Y⟩:=Yo (2^U.length-1) (p ||| b1) λj hj=>by
   rw[BR,CG]at hj;exact(I0 _ _).mpr (hj.elim (lo1 j) (lo2 j))
  have Y:∀j,u.testBit j=true↔j<U.length/\¬p.testBit j=true/\¬b1.testBit j=true:=λj=>by
   rw[Y,I0,BR,CG,not_or]
  refine A6 rfl ⟨x,T.ab,dx,_,A6 rfl ⟨e1,T.ac,T.au,rfl,A6 rfl (A6 rfl (C0 rfl rfl ?_))⟩⟩;dsimp only;rw[QC];refine C0 rfl rfl ?_;dsimp only;rw[eu];refine hN3 _ _ (B6 λN4 hN4=>?_);refine A6 rfl (A6 rfl (C0 rfl rfl ?_));dsimp only;rw[QC];generalize Z:(p ||| u)=I;have hm:∀m,Tg U.length A B m->JD ch ba m->Sub m I:=λm z y j hj=>by
   have f1:=X m z y;rw[<-Z,BR,CG];by_cases h:p.testBit j=true
   .exact .inl h
   .exact .inr ((Y j).mpr ⟨tl _ _ _ _ z j hj,h,f1.2 j hj⟩)
  refine hN4 _ _ (B6 λN5 hN5=>?_);refine A6 rfl ⟨_,rfl,Fw ?_⟩;refine A6 rfl ⟨l,rfl,⟨_,IQ.of el1⟩,λD hD=>?_⟩;refine Um (λg=>V.bl (pB (Sub I g))) (OW (IQ.of el1)) (λ_=>true) (by lia) hD (λg hg G sG M hM=>hM G λb o e=>e) (λg hg G sG M hM=>?_) λσ' G2 s2 e2=>?_
  .refine A6 rfl (A6 rfl (C0 rfl rfl (A6 rfl ⟨rfl,?_⟩)));rw[<-zCn (Pz I g)]at hM;exact hM
  rw[EV.mpr λ_ _=>rfl]at e2;have e2:G2 D=some (.lst ((fs.map λg=>pB (Sub I g)).map V.bl)):=by rw[e2,BV];rfl
  refine⟨D,_,rfl,IQ.of e2,_,rfl,?_⟩;have k2:=k1.trans s2.sm;have R2:=R1.same (Zz s2);have el2:=s2 _ _ el1;have M2:=M1.same s2;refine Q3 (λya=>?_) (λna=>?_)
  .obtain⟨_,hb,e⟩:=GW.mp ya;obtain⟨g,hg,rfl⟩:=AJ.mp hb;exact none G2 k2 R2 el2 λm z y=>⟨g,hg,λj hj=>LB.mp e j (hm m z y j hj)⟩
  have nsub:∀g∈fs,¬Sub I g:=λg hg h=>na (GW.mpr ⟨_,AJ.mpr ⟨g,hg,rfl⟩,LB.mpr h⟩);refine hN5 _ _ (B6 λN6 hN6=>?_);refine A6 rfl ⟨_,rfl,Q3 (λz0=>?_) (λz0=>?_)⟩
  .have u0:u=0:=by
    rw[EO,bne_eq_false_iff_eq]at z0;lia
   have em:I=p:=by rw[<-Z,u0,Nat.or_zero]
   have all:∀j,j<U.length->p.testBit j=true\/b1.testBit j=true:=λj hj=>by
    by_cases h:p.testBit j=true
    .exact .inl h
    .by_cases h':b1.testBit j=true
     .exact .inr h'
     .have:=(Y j).mpr ⟨hj,h,h'⟩;rw[u0,DG]at this;cases this
   have tg:=cpl dis all;have fc:JD ch ba p:=(show JD p b1 p from⟨λj h=>h,dis⟩).mono v C;have an2:RA (fs ++ [p]):=CF.mpr ⟨an,DE _ _,λg hg b hb=>by
    rw[AD.mp hb];exact⟨nof g hg p fc,λh=>nsub g hg (em▸h)⟩⟩
   have l300:=an2.few ln λm hm=>(AR.mp hm).elim (lof m) λh=>by rw[AD.mp h];exact lo1
   rw[AU,GO]at l300;have lm:(fs.map O1).length=fs.length:=AA ..;refine B6 λN7 hN7=>?_;refine A6 rfl (C0 (a:=l) rfl (.inl (IQ.of el2)) ⟨rfl,_,rfl,Q3 (λe3=>?_) (λe3=>?_)⟩)
   .have:=V.int.inj (BJ e3);rw[lm]at this;lia
   .refine hN7 _ _ (B6 λN8 hN8=>?_);refine A6 rfl ⟨.inl ⟨rfl,_,IQ.of el2⟩,A6 rfl ⟨l,_,_,rfl,rfl,el2,by rw[lm,sizeLine_eq];lia,hN8 _ _ ?_⟩⟩;have:=q [p] (IH G2 l (.lst (fs.map O1 ++ [.int (p:Int)]))) (k2.upd (by simp)) (by rw[Ae];exact R2) (by rw[B1,AK];rfl) an2 (λm hm=>by rw[AD.mp hm];exact⟨tg,fc⟩) λm z y=>⟨p,BI _ (AD.mpr rfl),by rw[Il (tl _ _ _ _ z) all (X m z y)];exact λj h=>h⟩;exact this
  .have upos:0<u:=by
    rcases Nat.eq_zero_or_pos u with h | h
    .exact absurd (by rw[h];rfl) z0
    .exact h
   refine hN6 _ _ (B6 λN7 hN7=>?_);refine A6 rfl ⟨u,rfl,upos,λkk hkk _=>?_⟩;obtain⟨k0,nc,nb⟩:=(Y kk).mp hkk;have ss:∀a:Nat,Sub a (a ||| 2^kk):=λa j h=>by rw[BR,h];rfl
   have sb:∀a:Nat,(a ||| 2^kk).testBit kk=true:=λa=>by rw[BR,DM,Bool.or_true]
   have un1:=Np (n:=U.length) v C;have un2:=Oh (n:=U.length) (ss p) (λj h=>h:Sub b1 b1) k0 ⟨nc,nb⟩ (.inl (sb p));have un3:=Oh (n:=U.length) (λj h=>h:Sub p p) (ss b1) k0 ⟨nc,nb⟩ (.inr (sb b1));obtain⟨k',rfl⟩:∃k',k=k'+1:=⟨k-1,by lia⟩;have hSS:=hS k' rfl;subst hSS;refine hN7 _ _ (B6 λN8 hN8=>?_);refine A6 rfl (A6 rfl (A6 rfl (A6 rfl (A6 rfl (C0 rfl rfl ?_)))));refine A6 rfl (A6 rfl ⟨x,c,l,U,A,B,L,p ||| 2^kk,b1,fs,by dsimp only;rw[QC];rfl,R2,ln,lo1.or k0,lo2,by lia,el2,an,lof,λg hg m h=>nof g hg m ((NC.mp h).1.mono v C),λL1 H3 k3 R3 el3 an3 m3 cv3=>?_⟩);refine hN8 _ _ ?_;refine A6 rfl (A6 rfl (A6 rfl (A6 rfl (A6 rfl (A6 rfl (C0 rfl rfl ?_))))));refine A6 rfl ⟨x,c,l,U,A,B,L,p,b1 ||| 2^kk,fs++L1,by dsimp only;rw[QC];rfl,R3,ln,lo1,lo2.or k0,by lia,el3,an3,λm hm=>(AR.mp hm).elim (lof m) λh=>tl _ _ _ _ (m3 m h).1,λg hg m h=>?_,λL2 H4 k4 R4 el4 an4 m4 cv4=>?_⟩
   .rcases AR.mp hg with hg | hg
    .exact nof g hg m ((LX.mp h).1.mono v C)
    .exact λz=>(LX.mp h).2 (z kk (NC.mp (m3 g hg).2).2)
   .rw[BM]at el4 an4 cv4;refine q (L1++L2) H4 (k2.trans (k3.trans k4)) R4 el4 an4 (λm hm=>?_) λm z y=>?_
    .rcases AR.mp hm with h | h
     .exact⟨(m3 m h).1,(NC.mp (m3 m h).2).1.mono v C⟩
     .exact⟨(m4 m h).1,(LX.mp (m4 m h).2).1.mono v C⟩
    .have f1:=X m z y;by_cases h:m.testBit kk=true
     .obtain⟨g,hg,sg⟩:=cv3 m z (NC.mpr ⟨f1,h⟩);refine⟨g,?_,sg⟩;rw[<-BM];exact EL _ hg
     .exact cv4 m z (LX.mpr ⟨f1,h⟩)
theorem Dt(T:Tx K mg){f:A2}{g:IS}{a:QO}{n:Nat}(b:∀n A B m,a n A B m->JW n m)(G:IK P w K mg base IY n f g ["marks", "chosen", "barred"] (U5 T.ab a))(c:PySem.W.keepIn K (.ref f)=true)(d:Binds K g ["marks", "chosen", "barred"] [])(h1:1<=n) :
  ∀k,IK P w K mg base IY (n+1+k) T.an.f T.an.fd ["marks", "settle", "greatest", "chosen", "barred", "found"] (Y1 T.ab f a k)
 | 0=>Bz T b G c d h1 Ln λh e=>by lia
 | k+1=>Bz (n:=n+1+k) T b (G.mono (by lia)) c d (by lia) (Dt T b G c d h1 k) λh e=>by cases e;rfl
def OF(b:QO):QO:=λn A B m=>b n A B m/\∀a,b n A B a->Sub m a->a=m
theorem Xa{a b:Nat}(h:Sub a b)(h':Sub b a):a=b:=BL λj=>BP.mpr ⟨h j,h' j⟩
theorem OF.anti{c:QO}{n:Nat}{A B:A1 Nat}{a b:Nat}(d:OF c n A B a)(e:OF c n A B b)(s:Sub a b):a=b:=(d.2 b e.1 s).symm
def Gq(j f:A2)(l:QO):Sp:=λn H Q _=>∃(i:A2) (c:A1 Str) (g:A1 JS),n = [.ref i,.ref f,.bl true]/\JP j H i c g/\c.length<=10 /\
 ∀(A B h:A1 Nat),MB c ((g.map λq=>q.2).map λk=>(k.2,k.1)) A->MB c (g.map λq=>q.2) B->h.Nodup->(∀m,m∈h↔OF l c.length A B m) ->
  ∀r (d:A1 (A2×A1 Str)) e,Cs H e->H r=none->e r=some (.lst (d.map λt=>V.ref t.1))->RD H e d->(∀t∈d,t.1≠r)->(d.map λt=>t.2).Perm (h.map (JG c))->d.Pairwise (λa b=>TS.KB (TS.MS b.2) (TS.MS a.2)=false)->Q (.ref r) e
set_option maxHeartbeats 4000000 in
theorem Ff(T:Tx K mg){f:A2}{I:QO}(tl:∀n A B m,I n A B m->JW n m)(tq:∀n A B m,I n A B m->Nw B m){g:Nat}(v:3<=g)(u:IK P w K mg base IY (g+1) T.an.f T.an.fd ["marks", "settle", "greatest", "chosen", "barred", "found"] (Y1 T.ab f I 10)) :
  IK P w K mg base IY (g+2) T.ap.f T.ap.fd ["web", "settle", "greatest"] (Gq T.ag f I):=by
 have k:IK P w K mg base IY g T.a5 T.a4 ["self", "web"] (U9 T.ab T.ag):=(Q7 T).mono v;have p:IK P w K mg base IY (g+1) T.ai.f T.ai.fd ["self", "some"] (b9 T.ab):=(M8 T).mono (by lia);refine T.ap.F.o1 KA λcdv A outer s H vs Q E hr h=>?_
 .obtain⟨wb,ns,qs,rfl,hW,ln,q⟩:=h;refine⟨_,(B3 (C2 (i:=3) KA.nd rfl (.inr rfl) (Z9 T.bo k (hr.mono (Nat.le_refl _)) rfl T.bn T.aT .nil E7 (A8 (pv 0) B2)))
   (B3 (C2 (i:=4) KA.nd rfl (.inl rfl) (O8 B2))
   (B3 (E2 (C7 T.an u (hr.mono (Nat.le_refl _)) (@A8 _ _ _ _ _ (pv 3) (@A8 _ _ _ _ _ (pv 1) (@A8 _ _ _ _ _ (pv 2) (@A8 _ _ _ _ _ B8 (@A8 _ _ _ _ _ (NS K (pv 3)) (@A8 _ _ _ _ _ (pv 4) B2 (by rfl)) (by rfl)) (by rfl)) (by rfl)) (by rfl)) (by rfl))))
   (B4 (C1 (I9 (Mf K hr.units) T.bk n9 (A8 (U1 (N':=["some", "marks"]) (cap:=[none,some 3]) (cl:=[("marks",_)]) (Q1 ⟨⟨rfl,rfl,rfl,rfl⟩,trivial⟩ ⟨rfl,trivial⟩) rfl (OU K (pv 4)) (λ_ _ _ _=>by exact⟨(NR 0),J9,(C4 (pv 1) T.ac T.ai.m p (hr.mono (Nat.le_refl _)) T.ai.b .nil E7 (A8 (pv 0) B2))⟩)) B2))))))),?_⟩
  refine B6 λN1 hN1=>?_;refine A6 rfl ?_;intro x dx nx ndx nex;have s0:Cs H (IH (IH H dx (.own x)) x (.ins T.ab dx [])):=λb o e=>by
   rw[B5 (A9 e nx),B5 (A9 e ndx)];exact e
  refine⟨x,dx,wb,ns,qs,rfl,B1,hW.same s0,λc A B L H1 hc k1 M1 mA mB=>⟨rfl,?_⟩⟩;have s1:Cs H H1:=λb o e=>k1 b o (s0 b o e) (by simpa using A9 e nx);have hcn:H c=none:=s0.free hc;refine hN1 _ _ (B6 λN2 hN2=>?_);refine⟨CB _,λl hl=>?_⟩;have ul:=Cs.new (o:=.lst []) hl;have fl:(IH H1 l (.lst [])) l=some (.lst (([]:A1 Nat).map O1)):=B1;have hln:H l=none:=s1.free hl;have R2:F1 T.ab (er (IH H1 l (.lst [])) l) x c ns A B L:=M1.same λb o e=>by
   have:b≠l:=A9 e hl;rw[u6 this,B5 this];exact e
  generalize IH H1 l (.lst [])=H2 at ul fl R2⊢;have s2:=s1.trans ul;have O:=R2.same (P4 H2 l);obtain⟨Ms,U,mM⟩:=Bn (n:=ns.length) (λm=>OF I ns.length A B m) λm h=>tl _ _ _ _ h.1;have q1:=q A B Ms mA mB U mM;have W:∀m,I ns.length A B m/\JD 0 L m↔I ns.length A B m:=λm=>⟨(·.1),λh=>⟨h,λj z=>(by rw[DG]at z;cases z),λj z y=>tq _ _ _ _ h j j z z ((O.net.tr j j).mp ((O.loops j).mp y))⟩⟩;refine hN2 _ _ (B6 λN3 hN3=>?_);obtain⟨J,a,b,d,kb,e1,_⟩:=O.ex;refine A6 rfl (A6 rfl (A6 rfl (A6 rfl ⟨x,T.ab,J,_,A6 rfl ⟨e1,T.ac,T.a3,rfl,A6 rfl ⟨x,c,l,ns,A,B,L,0,L,[],rfl,R2,ln,JW.zero _,λj hj=>(O.net.lt j j ((O.net.tr j j).mp ((O.loops j).mp hj))).1,Nat.le_trans List.countP_le_length (by rw[CD];exact ln),fl,List.Pairwise.nil,(λg z=>absurd z AY),(λg z=>absurd z AY),λLs H3 k3 R3 M C mL cv=>?_⟩⟩⟩)))
  .rw[HK]at M C;have pm:Ls.Perm Ms:=(ES C.nodup U).mpr λm=>by
    rw[mM];have X:∀m,I ns.length A B m->∃g∈Ls,Sub m g:=λm h=>by
     obtain⟨g,v,S⟩:=cv m h ((W m).mpr h).2;exact⟨g,by rw[HK]at v;exact v,S⟩
    constructor
    .intro h;refine⟨(mL m h).1,λm' t' s'=>?_⟩;obtain⟨g,v,S⟩:=X m' t';have e:m=g:=by
      obtain⟨i,hi,ei⟩:=DN h;obtain⟨j,hj,ej⟩:=DN v;have pw:=DY.mp C;have Y:Sub m g:=λj z=>S j (s' j z);rcases Nat.lt_trichotomy i j with z | z | z
      .have:=(pw i j hi hj z).1;rw[ei,ej]at this;exact absurd Y this
      .subst z;rw[<-ei,<-ej]
      .have:=(pw j i hj hi z).2;rw[ei,ej]at this;exact absurd Y this
     subst e;exact Xa S s'
    .rintro⟨h1,h2⟩;obtain⟨g,v,S⟩:=X m h1;rw[<-h2 g (mL g v).1 S];exact v
   have le3:Ls.length<=300:=C.few ln λm hm=>tl _ _ _ _ (mL m hm).1;have M3:=R3.same (P4 H3 l);have s3:Cs H H3:=λb o e=>k3 b o (s2 b o e) (by
    intro z;rcases AL.mp z with rfl | z
    .rw[hcn]at e;cases e
    .rw[AD.mp z,hln]at e;cases e)
   refine hN3 _ _ ?_;refine A6 rfl ⟨l,rfl,⟨_,IQ.of M⟩,λD hD=>?_⟩;refine Nm (ns:=ns) (OW (IQ.of M)) (by lia) hD (λm G R sG hR=>?_) λσ' G ts sG eG Z nG mG=>?_
   .have MG:=M3.same sG;obtain⟨J,a,b,d,kb,e1,_⟩:=MG.ex;exact A6 rfl ⟨x,J,A6 rfl ⟨e1,rfl,A6 rfl ⟨x,c,ns,A,B,L,m,rfl,MG,λz G' hz s' ez=>hR z G' hz s' ez⟩⟩⟩
   .refine⟨D,ts,rfl,IQ.of eG,Z.at_,λr ts' N pt srt=>?_⟩;have ur:=Cs.new (o:=.lst (ts'.map λt=>V.ref t.1)) N;have hrn:H r=none:=(s3.trans sG).free N;refine q1 r ts' _ ((s3.trans sG).trans ur) hrn B1 ⟨λt ht=>ur _ _ (Z.at_ t (pt.mem_iff.mp ht)),(pt.map _).nodup_iff.mpr Z.nd,λt ht=>s3.free (Z.new t (pt.mem_iff.mp ht))⟩ (λt ht=>A9 (Z.at_ t (pt.mem_iff.mp ht)) N) ?_ srt;refine(pt.map λt=>t.2).trans ?_;rw[mG];exact pm.map _
def Xl(i:A2)(j:QO):Sp:=λl H Q _=>∃(h:A2) (c:A1 Str) (f:A1 JS),l = [.ref h]/\JP i H h c f/\c.length<=10 /\
 ∀(A B g:A1 Nat),MB c ((f.map λq=>q.2).map λk=>(k.2,k.1)) A->MB c (f.map λq=>q.2) B->g.Nodup->(∀m,m∈g↔OF j c.length A B m) ->
  ∀r (d:A1 (A2×A1 Str)) e,Cs H e->H r=none->e r=some (.lst (d.map λt=>V.ref t.1))->RD H e d->(∀t∈d,t.1≠r)->(d.map λt=>t.2).Perm (g.map (JG c))->d.Pairwise (λa b=>TS.KB (TS.MS b.2) (TS.MS a.2)=false)->Q (.ref r) e
theorem Al:II ["web"] ["web"] (B7 MM):=KO
theorem As(T:Tx K mg):IK P w K mg base IY 18 T.aY.f T.aY.fd ["web"] (Xl T.ag V4):=by
 have a:IK P w K mg base IY 17 T.ap.f T.ap.fd ["web", "settle", "greatest"] (Gq T.ag T.aD.f V4) :=
  Ff T (λ_ _ _ _ h=>h.1.1) (λ_ _ _ _ h=>h.1.2.1) (g:=15) (by decide) (Dt T (λ_ _ _ _ h=>h.1.1) (Bp T) T.aD.F.kp T.aD.b (by decide) 10)
 refine T.aY.F.o1 Al λd A c s H o Q E e h=>?_
 .obtain⟨i,j,k,rfl,l,n,q⟩:=h;refine⟨_,(B4 (C1 (C7 T.ap a (Rm e) (A8 (pv 0) (A8 (Rt T.aD.m) (A8 Cm B2)))))),?_⟩;exact A6 rfl ⟨i,j,k,rfl,l,n,q⟩
def zBe(i:A2)(j:QO):Sp:=λl H Q E=>∃(h:A2) (c:A1 Str) (g:A1 JS),l = [.ref h]/\JP i H h c g/\c.length<=10 /\
 ∀(A B d:A1 Nat),MB c ((g.map λq=>q.2).map λk=>(k.2,k.1)) A->MB c (g.map λq=>q.2) B->d.Nodup->(∀m,m∈d↔j c.length A B m) ->
  (∀r (e:A1 (A2×A1 Str)) f,d.length<=300->Cs H f->H r=none->f r=some (.lst (e.map λt=>V.ref t.1))->RD H f e->(∀t∈e,t.1≠r)->(e.map λt=>t.2).Perm (d.map (JG c))->e.Pairwise (λa b=>TS.KB (TS.MS b.2) (TS.MS a.2)=false)->Q (.ref r) f)/\(300<d.length->False)
theorem Aq:II ["web"] ["web"] (B7 MI):=KO
theorem At(T:Tx K mg):IK P w K mg base IY 18 T.aZ.f T.aZ.fd ["web"] (zBe T.ag MC):=by
 have a:IK P w K mg base IY 17 T.ap.f T.ap.fd ["web", "settle", "greatest"] (Nc T.ag T.aq.f MC) :=
  Hm T (λ_ _ _ _ h=>h.1) (λ_ _ _ _ h=>h.2.1) (g:=15) (by decide) (Ig T (λ_ _ _ _ h=>h.1) (j8 T) T.aq.F.kp T.aq.b (by decide) 10)
 refine T.aZ.F.o1 Aq λd A c s H o Q E e h=>?_
 .obtain⟨i,j,k,rfl,l,n,q⟩:=h;refine⟨_,(B4 (C1 (C7 T.ap a (Rm e) (A8 (pv 0) (A8 (Rt T.aq.m) (A8 Cm B2)))))),?_⟩;exact A6 rfl ⟨i,j,k,rfl,l,n,q⟩
end
def P3(ns:A1 Str)(m:Nat):Str:=(JG ns m).headD ""
def u9(n:Nat)(p:Nat->Prop):Nat:=(((List.range n).filter λj=>pB (p j)).map λk=>2^k).sum
def R8{n:Nat}{p:Nat->Prop}(j:Nat):(u9 n p).testBit j=true↔j<n/\p j:=by
 unfold u9;rw[Bk (GD.sublist DP),BH,BW,LB]
def Nl{z n:Nat}{p:Nat->Prop}(h:∀j,z.testBit j=true↔p j)(lo:JW n z):z=u9 n p:=BL λj=>BP.mpr (by
 rw[R8];exact⟨λy=>⟨lo j y,(h j).mp y⟩,λy=>(h j).mpr y.2⟩)
def zHg(m:Nat):Nat:=((List.range (m+1)).find? λj=>m.testBit j).getD 0
def zBc{m k:Nat}(h:m.testBit k=true)(a:∀i,i<k->¬m.testBit i=true):zHg m=k:=by
 have b:k<m+1:=Nat.lt_succ_of_le (Nat.le_trans (DT Nat.lt_two_pow_self) (Nat.ge_two_pow_of_testBit h));unfold zHg;have e:(List.range (m+1)).find? (λj=>m.testBit j)=some k:=by
  rw[List.find?_range_eq_some];exact⟨h,BW.mpr b,λi c=>by simpa using a i c⟩
 rw[e];rfl
def Ws{ns:A1 Str}{m j:Nat}(a:j<ns.length)(h:m.testBit j=true):JG ns m≠[]:=λz=>by
 have:ns[j]∈JG ns m:=P6.mpr ⟨j,h,AC a⟩;rw[z]at this;cases this
def U8{C:A2}{H:Hp}{x c:A2}{ns:A1 Str}{A B:A1 Nat}{L:Nat}(h:F1 C H x c ns A B L):H c≠none:=λz=>by
 obtain⟨_,_,_,_,_,_,_,_,_,a,_⟩:=h.ex;rcases a with e | ⟨o,e⟩<;>rw[z]at e<;>cases e
section
variable{P:A7}{w:F8}{K:PySem.W.Frag}{mg:Str->A5 A3}{base:IJ}
theorem g7:II ["self", "some"] ["self", "some"] (B7 LA):=KO
def Ex(C:A2):Sp:=λd H Q _=>∃(x c:A2) (a:A1 Str) (A B:A1 Nat) (L m j:Nat),d = [.ref x,.int (m:Int)]/\F1 C H x c a A B L/\j<a.length/\m.testBit j=true/\∀b,Cs H b->Q (.str (P3 a m)) b
theorem G9(T:Tx K mg):IK P w K mg base IY 2 T.aj.f T.aj.fd ["self", "some"] (Ex T.ab):=by
 refine T.aj.F.o1 g7 λp A e s H G Q E t h=>?_
 .obtain⟨x,c,i,A,B,L,m,j,rfl,k,u,v,q⟩:=h;obtain⟨y,a,b,d,I,z,_⟩:=k.ex;refine⟨_,(B4 (C1 (M9 (P7 K) (C4 (pv 0) T.ac T.ai.m (M8 T) (Rm t) T.ai.b .nil E7 (A8 (pv 1) B2)) B8 (λ_ _=>rfl)))),?_⟩;refine A6 rfl ⟨x,y,A6 rfl ⟨z,rfl,A6 rfl ⟨x,c,i,A,B,L,m,rfl,k,λl C J D o=>?_⟩⟩⟩;cases g:JG i m with
  | nil=>exact absurd g (Ws u v)
  | cons n r =>
   rw[g]at o;have q:=q C D;unfold P3 at q;rw[g]at q;exact⟨l,_,C0 rfl rfl ⟨IQ.of o,(show QU (V.str n::r.map V.str) ((0:Nat):Int)=_ from E9 rfl),q⟩⟩
end
def Nr(A B:A1 Nat)(n L m ad:Nat):A1 Nat:=(List.range n).filter λj=>ad.testBit j && @decide (L.testBit j=true\/W0 B m j\/W0 A m j) (Classical.propDecidable _)
def Tp{A B:A1 Nat}{n L m ad z:Nat}(h:∀j,z.testBit j=true↔L.testBit j=true\/W0 B m j\/W0 A m j):D8 (ad &&& z) n=Nr A B n L m ad:=by
 unfold D8 Nr;refine List.filter_congr λj _=>?_;rw[CV];congr 1;rw[BP,h];exact⟨λy=>@AX _ (Classical.propDecidable _) y,λy=>@BJ _ (Classical.propDecidable _) y⟩
def Vx(A B:A1 Nat)(n L m ad:Nat):A1 Int :=
 [((D8 ad n).length:Int)-((Nr A B n L m ad).length:Int),((D8 ad n).length:Int)]
section
variable{P:A7}{w:F8}{K:PySem.W.Frag}{mg:Str->A5 A3}{base:IJ}
theorem LP:II ["marks", "held", "added", "clashing", "many"] ["marks", "held", "added"] (B7 NU):=KO
def Ro(C:A2):Sp:=λe H Q _=>∃(x c:A2) (d:A1 Str) (A B:A1 Nat) (L m ad:Nat),e = [.ref x,.int (m:Int),.int (ad:Int)]/\F1 C H x c d A B L/\∀a b,H a=none->Sm [c] H b->F1 C b x c d A B L ->
 b a=some (.tup ((Vx A B d.length L m ad).map V.int))->Q (.ref a) b
theorem Ez(T:Tx K mg):IK P w K mg base IY 3 T.a9.f T.a9.fd ["marks", "held", "added"] (Ro T.ab):=by
 refine T.a9.F.o1 LP λS A t s H vs Q E r h=>?_
 .obtain⟨x,c,n,A,B,L,m,ad,rfl,I,q⟩:=h;obtain⟨g,a,b,d,u,k,_⟩:=I.ex;refine⟨_,(B3 (C2 (i:=3) LP.nd rfl (.inl rfl) (D3 V8 (D3 V8 (NS K (pv 0)) (C4 (pv 0) T.ac T.ae.m (E1 T) (Rm r) T.ae.b .nil E7 (A8 (pv 1) B2))) (C4 (pv 0) T.ac T.af.m (E3 T) (Rm r) T.af.b .nil E7 (A8 (pv 1) B2))))
   (B3 (C2 (i:=4) LP.nd rfl (.inl rfl) (I9 (V5 K) T.aP U3 (A8 (C4 (pv 0) T.ac T.ad.m (E4 T) (Rm r) T.ad.b .nil E7 (A8 (pv 2) B2)) B2)))
   (B4 (C1 (E8 (A8 (D3 zDa (pv 4) (I9 (V5 K) T.aP U3 (A8 (C4 (pv 0) T.ac T.ad.m (E4 T) (Rm r) T.ad.b .nil E7 (A8 (D3 Q0 (pv 2) (pv 3)) B2)) B2))) (A8 (pv 4) B2))))))),?_⟩
  refine B6 λN1 v=>?_;refine A6 rfl ⟨x,T.ab,g,_,A6 rfl ⟨k,T.ac,T.a3,rfl,A6 rfl ⟨x,g,A6 rfl ⟨k,rfl,A6 rfl ⟨x,c,n,A,B,L,m,rfl,I,λr1 H1 U J z=>?_⟩⟩⟩⟩⟩;refine C0 rfl rfl ?_;obtain⟨g,a,b,d,u,k,_⟩:=J.ex;refine A6 rfl ⟨x,g,A6 rfl ⟨k,rfl,A6 rfl ⟨x,c,n,A,B,L,m,rfl,J,λr2 H2 V M C=>?_⟩⟩⟩;refine C0 rfl rfl ?_;dsimp only;rw[QC,QC];refine v _ _ (B6 λN2 D=>?_);obtain⟨g,a,b,d,u,k,_⟩:=M.ex;refine A6 rfl ⟨x,g,A6 rfl ⟨k,rfl,A6 rfl ⟨x,c,n,A,B,L,ad,rfl,M,λl H3 hl W N X=>?_⟩⟩⟩;refine⟨l,_,rfl,.inl (IQ.of X),?_⟩;rw[AA];refine D _ _ ?_;obtain⟨g,a,b,d,u,k,_⟩:=N.ex;refine A6 rfl (A6 rfl ⟨x,g,A6 rfl ⟨k,rfl,A6 rfl (A6 rfl (C0 rfl rfl ?_))⟩⟩);dsimp only;rw[Tn];refine⟨x,c,n,A,B,L,ad &&&(L ||| r1 ||| r2),rfl,N,λY Z hl2 k4 O G=>?_⟩;refine⟨Y,_,rfl,.inl (IQ.of G),?_⟩;rw[AA];refine C0 rfl rfl (A6 rfl ?_);refine⟨by show 2<=sizeLine;decide,λp o=>?_⟩;have R:Sm [c] H Z:=((U.trans V).trans W).trans k4;refine q p _ (R.none (λy=>by rw[AD.mp y]at o;exact U8 O o) o) (R.new o) (O.same (Cs.new o)) ?_;rw[B1];have e:D8 (ad &&&(L ||| r1 ||| r2)) n.length=Nr A B n.length L m ad:=Tp λj=>by rw[BR,BR,CG,CG,z,C,or_assoc]
  rw[e];rfl
end
def O6(A B:A1 Nat)(n m:Nat):A1 Nat:=(List.range n).filter λj=>@decide (W0 A m j/\¬W0 B m j) (Classical.propDecidable _)
def Le{A B:A1 Nat}{n m j:Nat}:j∈O6 A B n m↔j<n/\W0 A m j/\¬W0 B m j:=by
 unfold O6;rw[BH,BW];exact⟨λh=>⟨h.1,@BJ _ (Classical.propDecidable _) h.2⟩,λh=>⟨h.1,@AX _ (Classical.propDecidable _) h.2⟩⟩
def Uu{A B:A1 Nat}{n m z:Nat}(h:∀j,z.testBit j=true↔W0 A m j/\j<n/\¬W0 B m j):D8 z n=O6 A B n m:=by
 unfold D8 O6;refine List.filter_congr λj a=>?_;rw[BP,h];exact⟨λy=>@AX _ (Classical.propDecidable _) ⟨y.1,y.2.2⟩,λy=>let h:=@BJ _ (Classical.propDecidable _) y;⟨h.1,BW.mp a,h.2⟩⟩
def Em(A B:A1 Nat)(n m:Nat):A1 Nat:=(O6 A B n m).map λj=>A.getD j 0
def Y8(A B:A1 Nat)(n L m:Nat)(ads:A1 Nat):Nat:=Jj (λj=>Vx A B n L m (ads.getD j 0)) (ads.length-1)
def S9(A B:A1 Nat)(n L m:Nat):Nat:=(Em A B n m).getD (Y8 A B n L m (Em A B n m)) 0
def Z7(B:A1 Nat)(m:Nat):Prop:=∃j,m.testBit j=true/\W0 B m j
def V9(A B:A1 Nat)(n L:Nat):Nat->Nat->A5 Nat
 | 0,_=>none
 | k+1,m=>@ite _ (Z7 B m) (Classical.propDecidable _) none (if O6 A B n m = []then some m else(D8 (S9 A B n L m) n).findSome? λj=>V9 A B n L k (m ||| 2^j))
def j7{A B:A1 Nat}{n L m:Nat}{ads:A1 Nat}(h:ads≠[]):Y8 A B n L m ads<ads.length:=by
 have:=To (λj=>Vx A B n L m (ads.getD j 0)) (ads.length-1);have a:=List.length_pos_iff.mpr h;unfold Y8;lia
def Lh{A B:A1 Nat}{n L m:Nat}(h:O6 A B n m≠[]):∃d∈O6 A B n m,S9 A B n L m=A.getD d 0:=by
 have b:Em A B n m≠[]:=λz=>h (C_.mp z);have a:=j7 (A:=A) (B:=B) (n:=n) (L:=L) (m:=m) b;have c:S9 A B n L m∈Em A B n m:=by
  unfold S9;rw[AV,AC a];exact FM a
 obtain⟨d,f,e⟩:=AJ.mp c;exact⟨d,f,e.symm⟩
def Gs{m j:Nat}(h:¬m.testBit j=true):∀n,(D8 (m ||| 2^j) n).length =(D8 m n).length+if j<n then 1 else 0
 | 0=>rfl
 | n+1=>by
  rw[U6,U6,AU,AU,Gs h n];by_cases e:n=j
  .subst e;rw[AO ((P9 m n n).mpr (.inr rfl)),AN h,AN (EY _),AO (FJ _)];rfl
  .have a:(m ||| 2^j).testBit n=m.testBit n:=by
    rw[BP,P9];exact⟨λz=>z.resolve_right e,.inl⟩
   rw[a];by_cases l:j<n
   .rw[AO l,AO (EA l)];lia
   .rw[AN l,AN (show ¬j<n+1 by lia)];rfl
def Gr{A B:A1 Nat}{n L m j:Nat}(a:RM n A B)(h:O6 A B n m≠[])(b:(S9 A B n L m).testBit j=true):j<n/\¬m.testBit j=true:=by
 obtain⟨d,f,e⟩:=Lh (L:=L) h;rw[e]at b;have c:=(a.tr d j).mp b;exact⟨(a.lt j d c).1,λz=>(Le.mp f).2.2 ⟨j,z,c⟩⟩
section
variable(ns:A1 Str)(A B:A1 Nat)(L m:Nat)
def zHq:Nat:=u9 ns.length λj=>m.testBit j=true/\W0 B m j
def clA:Str:=P3 ns (A.getD (zHg (zHq ns B m)) 0 &&& m)
def clB:Str:=P3 ns (zHq ns B m)
def anA(j:Nat):Str:=P3 ns (B.getD j 0 &&& m)
def anB(j:Nat):Str:=P3 ns (2^j)
end
def kV:IZ->V
 | .inl i=>.int i
 | .inr s=>.str s
def kD:IZ->PyData
 | .inl i=>.int i
 | .inr s=>.str s
abbrev Hd:=A1 IZ×Nat
abbrev RY:=A1 Str->A1 Nat->A1 Nat->A1 Nat->Nat->A1 Hd
def Y6(A B:A1 Nat)(n L:Nat)(F:Nat->A1 Hd)(m:Nat):Hd:=(F m).getD (Y8 A B n L m ((F m).map λs=>s.2)) ([],0)
def o0{A B:A1 Nat}{n L:Nat}{F:Nat->A1 Hd}{m:Nat}(h:F m≠[]):Y6 A B n L F m∈F m:=by
 have b:((F m).map λs=>s.2)≠[]:=λz=>h (C_.mp z);have a:=j7 (A:=A) (B:=B) (n:=n) (L:=L) (m:=m) b;rw[AA]at a;unfold Y6;rw[AV,AC a];exact FM a
def KL(ns:A1 Str)(A B:A1 Nat)(L:Nat)(F:Nat->A1 Hd)(H:Hp):Nat->Nat->A2->Prop
 | 0,_,_=>False
 | k+1,m,r=>(Z7 B m/\H r=some (.tup [.str "clash",.str (clA ns A B m),.str (clB ns B m)]))\/(¬Z7 B m/\∃(l:A2) (a:A1 A2),H r=some (.tup ((Y6 A B ns.length L F m).1.map kV ++ [.ref l]))/\H l=some (.tup (a.map V.ref)) /\
   a.length =(D8 (Y6 A B ns.length L F m).2 ns.length).length/\∀(i j:Nat) b,(D8 (Y6 A B ns.length L F m).2 ns.length)[i]?=some j->a[i]?=some b->KL ns A B L F H k (m ||| 2^j) b)
def KL.keep{ns:A1 Str}{A B:A1 Nat}{L:Nat}{F:Nat->A1 Hd}{H H':Hp}(kk:∀b xs,H b=some (.tup xs)->H' b=some (.tup xs)):∀{k m:Nat} {r:A2},KL ns A B L F H k m r->KL ns A B L F H' k m r
 | 0,_,_,h=>h
 | k+1,m,r,h=>h.imp (λ⟨c,e⟩=>⟨c,kk _ _ e⟩) λ⟨c,l,a,d,f,g,h⟩=>⟨c,l,a,kk _ _ d,kk _ _ f,g,λi j n o p=>(h i j n o p).keep kk⟩
def w6(n m:Nat):Nat:=n+1-(D8 m n).length
def UH(n:Nat)(A B:A1 Nat)(L:Nat)(F:Nat->A1 Hd)(R:Nat->Prop):Prop:=∀m,R m->JW n m->¬Z7 B m->F m≠[]/\∀j,j<n->(Y6 A B n L F m).2.testBit j=true->¬m.testBit j=true/\R (m ||| 2^j)
def Vu{n m j:Nat}(h1:j<n)(h2:¬m.testBit j=true):w6 n m=w6 n (m ||| 2^j)+1:=by
 have a:=Gs h2 n;rw[AO h1]at a;have b:=M0 (m ||| 2^j) n;unfold w6;lia
def Xv(ns:A1 Str)(A B:A1 Nat)(m j:Nat):Hd:=([.inr "answer",.inr (anA ns B m j),.inr (anB ns j)],A.getD j 0)
def Ux(ns:A1 Str)(A B:A1 Nat)(m:Nat):A1 Hd:=(O6 A B ns.length m).map (Xv ns A B m)
def Ep{ns:A1 Str}{A B:A1 Nat}{m:Nat}:((Ux ns A B m).map λs=>s.2)=Em A B ns.length m:=by
 unfold Ux Em;rw[BV];rfl
def Hi(n:Nat)(Ms:A1 Nat)(m:Nat):A1 Hd:=(Ms.zipIdx.filter λp=>pB (Sub m p.1)).map λp=>([.inr "beyond",.inl (p.2:Int)],u9 n λj=>¬p.1.testBit j=true)
def Uy(ns:A1 Str)(A B:A1 Nat)(m:Nat):A1 Hd:=((List.range ns.length).filter λj=>pB (¬W0 B m j/\¬m.testBit j=true)).map λj=>([.inr "cover",.inr (P3 ns (2^j))],2^j ||| A.getD j 0)
def Kx:RY:=λa A B b m=>Ux a A B m++Hi a.length b m
def Pw:RY:=λa A B b m=>if Uy a A B m = []then Hi a.length b m else Uy a A B m
def Xg{n m:Nat}:Hi n [] m = []:=rfl
def Qz{ns:A1 Str}{A B:A1 Nat}{L:Nat}(b:RM ns.length A B):UH ns.length A B L (Kx ns A B []) λm=>∃k,ns.length<k +(D8 m ns.length).length/\V9 A B ns.length L k m=none:=by
 rintro m ⟨k,lk,a⟩ lo i;have f:Kx ns A B [] m=Ux ns A B m:=by unfold Kx;rw[Xg,CA]
 obtain⟨c,rfl⟩:∃c,k=c+1:=⟨k-1,by have:=M0 m ns.length;lia⟩;unfold V9 at a;rw[AN i]at a;by_cases d:O6 A B ns.length m = []
 .rw[AO d]at a;cases a
 rw[AN d]at a;refine⟨by rw[f];exact λz=>d (C_.mp z),λj g e=>?_⟩;have l:(Y6 A B ns.length L (Kx ns A B []) m).2=S9 A B ns.length L m:=by
  unfold Y6 S9;rw[f,Ep,AV,AV,<-Ep (ns:=ns),AH];cases(Ux ns A B m)[Y8 A B ns.length L m ((Ux ns A B m).map λs=>s.2)]? with
  | none=>rfl
  | some s=>rfl
 rw[l]at e;obtain⟨_,h⟩:=Gr (L:=L) b d e;refine⟨h,c,?_,GU.mp a j (JM.mpr ⟨g,e⟩)⟩;rw[Gs h,AO g];lia
def PN{n m:Nat}{Ms:A1 Nat}{s:Hd}:s∈Hi n Ms m↔∃(i M:Nat),Ms[i]?=some M/\Sub m M/\s =([.inr "beyond",.inl (i:Int)],u9 n λj=>¬M.testBit j=true):=by
 unfold Hi;rw[AJ];constructor
 .rintro⟨⟨M,i⟩,c,rfl⟩;obtain⟨a,b⟩:=BH.mp c;exact⟨i,M,List.mem_zipIdx_iff_getElem?.mp a,LB.mp b,rfl⟩
 .rintro⟨i,M,a,b,rfl⟩;exact⟨(M,i),BH.mpr ⟨List.mem_zipIdx_iff_getElem?.mpr a,LB.mpr b⟩,rfl⟩
def Qu{n m j:Nat}{Ms:A1 Nat}{s:Hd}(h:s∈Hi n Ms m)(a:s.2.testBit j=true):¬m.testBit j=true:=by
 obtain⟨i,M,_,b,rfl⟩:=PN.mp h;exact λz=>((R8 j).mp a).2 (b j z)
def Xu{n m M:Nat}{Ms:A1 Nat}(h:M∈Ms)(s:Sub m M):Hi n Ms m≠[]:=λz=>by
 obtain⟨i,a,e⟩:=DN h;have:_∈Hi n Ms m:=PN.mpr ⟨i,M,by rw[AC a,e],s,rfl⟩;rw[z]at this;cases this
def Va{ns:A1 Str}{A B Ms:A1 Nat}{L:Nat}(a:RM ns.length A B)(h:∀m,KI ns.length A B m->∃M∈Ms,Sub m M):UH ns.length A B L (Kx ns A B Ms) λ_=>True:=by
 intro m _ lo k;have g:Kx ns A B Ms m≠[]:=λz=>by
  obtain⟨l,o⟩:=List.append_eq_nil_iff.mp z;have d:O6 A B ns.length m = []:=C_.mp l;obtain⟨M,p,s⟩:=h m ⟨lo,λi j q f z=>k ⟨j,f,i,q,z⟩,λj f=>⟨lo j f,λb c=>by
   by_cases y:W0 B m b
   .exact y
   .have:b∈O6 A B ns.length m:=Le.mpr ⟨(a.lt b j ((a.tr j b).mp c)).1,⟨j,f,c⟩,y⟩;rw[d]at this;cases this⟩⟩
  exact Xu p s o
 refine⟨g,λj f c=>⟨?_,trivial⟩⟩;rcases AR.mp (o0 (A:=A) (B:=B) (n:=ns.length) (L:=L) g)with y | y
 .obtain⟨d,r,e⟩:=AJ.mp y;rw[<-e]at c;exact λz=>(Le.mp r).2.2 ⟨j,z,(a.tr d j).mp c⟩
 .exact Qu y c
def Vn{ns:A1 Str}{A B Ms:A1 Nat}{L:Nat}(f:RM ns.length A B)(h:∀m,MC ns.length A B m->m∈Ms):UH ns.length A B L (Pw ns A B Ms) λ_=>True:=by
 intro m _ lo g;by_cases c:Uy ns A B m = []
 .have e:Pw ns A B Ms m=Hi ns.length Ms m:=AO c;have a:Pw ns A B Ms m≠[]:=by
   rw[e];refine Xu (h m ⟨lo,λi j k b z=>g ⟨j,b,i,k,z⟩,λj b=>?_⟩) λj z=>z;by_cases y:m.testBit j=true
   .exact .inl y
   .refine .inr (GY λz=>?_);have:j∈(List.range ns.length).filter λj=>pB (¬W0 B m j/\¬m.testBit j=true):=BH.mpr ⟨BW.mpr b,LB.mpr ⟨z,y⟩⟩;rw[C_.mp c]at this;cases this
  refine⟨a,λj b hb=>⟨?_,trivial⟩⟩;exact Qu (e▸o0 (A:=A) (B:=B) (n:=ns.length) (L:=L) a) hb
 .have e:Pw ns A B Ms m=Uy ns A B m:=AN c;have a:Pw ns A B Ms m≠[]:=by rw[e];exact c
  refine⟨a,λj b hb=>⟨?_,trivial⟩⟩;obtain⟨d,l,o⟩:=AJ.mp (e▸o0 (A:=A) (B:=B) (n:=ns.length) (L:=L) a:_∈Uy ns A B m);obtain⟨p,q⟩:=LB.mp (BH.mp l).2;rw[<-o,BR,CG,D_,BX]at hb;intro z;rcases hb with rfl | hb
  .exact q z
  .exact p ⟨j,z,(f.tr d j).mp hb⟩
def Ft{M:A1 Nat}{k j:Nat}:W0 M (2^k) j↔(M.getD k 0).testBit j=true:=by
 constructor
 .rintro⟨i,a,e⟩;rw[D_,BX]at a;rw[a];exact e
 .exact λh=>⟨k,DM,h⟩
section
variable{P:A7}{w:F8}{K:PySem.W.Frag}{mg:Str->A5 A3}{base:IJ}
theorem OL:II ["marks", "held", "hit"] ["marks", "held"] (B7 PM):=KO
def Fo(C:A2):Sp:=λe H Q _=>∃(x c:A2) (b:A1 Str) (A B:A1 Nat) (L m:Nat),e = [.ref x,.int (m:Int)]/\F1 C H x c b A B L/\(∀j,m.testBit j=true->j<b.length)/\∀d,Sm [c] H d->F1 C d x c b A B L ->
 ((∀j,m.testBit j=true->¬W0 B m j)->Q .non d)/\∀a,Z7 B m->H a=none->d a=some (.tup [.str "clash",.str (clA b A B m),.str (clB b B m)])->Q (.ref a) d
theorem Bh(T:Tx K mg):IK P w K mg base IY 3 T.aK.f T.aK.fd ["marks", "held"] (Fo T.ab):=by
 refine T.aK.F.o1 OL λcdv A G s H vs Q E e h=>?_
 .obtain⟨x,c,n,A,B,L,m,rfl,I,J,q⟩:=h;obtain⟨g,a,b,d,W,l,_⟩:=I.ex;refine⟨_,(B3 (C2 (i:=2) OL.nd rfl (.inl rfl) (D3 Q0 (pv 1) (C4 (pv 0) T.ac T.ae.m (E1 T) (Rm e) T.ae.b .nil E7 (A8 (pv 1) B2))))
   (B3 (J7 (W7 (RR K (pv 2))) (B4 (C1 Ad)) C3)
   (B4 (C1 (E8 (A8 R9 (A8 (C4 (pv 0) T.ac T.aj.m (G9 T) (Rm e) T.aj.b .nil E7 (A8 (D3 Q0 (C4 (pv 0) T.ac T.af.m (E3 T) (Rm e) T.af.b .nil E7 (A8 (C7 T.az (W3 T) (Rm e) (A8 (pv 2) B2)) B2)) (pv 1)) B2)) (A8 (C4 (pv 0) T.ac T.aj.m (G9 T) (Rm e) T.aj.b .nil E7 (A8 (pv 2) B2)) B2)))))))),?_⟩
  refine B6 λN1 M=>?_;refine A6 rfl (A6 rfl ⟨x,g,A6 rfl ⟨l,rfl,A6 rfl ⟨x,c,n,A,B,L,m,rfl,I,λr H1 X N e=>?_⟩⟩⟩);refine C0 rfl rfl ?_;dsimp only;rw[Tn];refine M _ _ ?_;have o:∀j,(m &&& r).testBit j=true↔m.testBit j=true/\W0 B m j:=λj=>by rw[CV,BT,e]
  refine B6 λN2 O=>?_;refine A6 rfl ⟨_,rfl,?_⟩;dsimp only;refine Q3 (λz=>?_) (λz=>?_)
  .have u:m &&& r=0:=by
    by_cases y:m &&& r=0
    .exact y
    .exact absurd z (by simp;lia)
   exact(q H1 X N).1 λj v C=>by
    have:=(o j).mpr ⟨v,C⟩;rw[u,DG]at this;cases this
  .have u:m &&& r≠0:=λy=>by
    rw[y]at z;exact z rfl
   obtain⟨j,D⟩:=Nat.exists_testBit_of_ne_zero u;obtain⟨v,C⟩:=(o j).mp D;refine O _ _ ?_;obtain⟨g,a,b,d,W,l,_⟩:=N.ex;obtain⟨i,R,Y⟩:=id C;have eh:m &&& r=zHq n B m:=Nl o λj D=>J j ((o j).mp D).1;refine A6 rfl ⟨x,g,A6 rfl ⟨l,rfl,A6 rfl ⟨x,g,A6 rfl ⟨l,rfl,A6 rfl ⟨_,rfl,Nat.pos_of_ne_zero u,λk Z kl=>?_⟩⟩⟩⟩⟩;obtain⟨h3,i,R,Y⟩:=(o k).mp Z;have ek:=zBc Z kl;refine⟨x,c,n,A,B,L,2^k,rfl,N,λr2 H2 k2 M2 S=>?_⟩;have U:r2=A.getD k 0:=BL λi=>BP.mpr ((S i).trans Ft);subst U;refine A6 rfl (C0 rfl rfl ?_);dsimp only;rw[Tn];refine⟨x,c,n,A,B,L,A.getD k 0 &&& m,i,rfl,M2,J i R,by rw[CV,BT];exact⟨(I.net.tr k i).mpr Y,R⟩,λH3 s3=>?_⟩;have V:=M2.same s3;obtain⟨g,a,b,d,W,l,_⟩:=V.ex;refine A6 rfl ⟨x,g,A6 rfl ⟨l,rfl,A6 rfl ⟨x,c,n,A,B,L,m &&& r,j,rfl,V,J j v,D,λH4 s4=>?_⟩⟩⟩;refine⟨by show 3<=sizeLine;decide,λp t=>?_⟩;have M4:=V.same s4;have k4:Sm [c] H H4:=(X.trans k2).trans (s3.sm.trans s4.sm);refine(q _ (k4.new t) (M4.same (Cs.new t))).2 p ⟨j,v,C⟩ (k4.none (λy=>by rw[AD.mp y]at t;exact U8 M4 t) t) ?_;rw[B1];unfold clA clB;rw[<-eh,ek]
end
abbrev RK:=A2×A2×A1 IZ×Nat
def JJ(H:Hp)(t:RK):Prop:=H t.1=some (.tup [.ref t.2.1,.int (t.2.2.2:Int)])/\H t.2.1=some (.tup (t.2.2.1.map kV))/\t.2.2.1≠[]/\t.2.2.1.length<=5
def JJ.same{H H':Hp}{t:RK}(h:JJ H t)(s:Cs H H'):JJ H' t:=⟨s _ _ h.1,s _ _ h.2.1,h.2.2⟩
def X9{C:A2}{H:Hp}{x c a:A2}{o:HO}{ns:A1 Str}{A B:A1 Nat}{L:Nat}(h:F1 C H x c ns A B L)(e:H a=some o)(d:∀k,o≠ .dK k)(f:∀u v,o≠ .frz u v):a≠c:=λz=>by
 obtain⟨_,_,_,_,_,_,_,_,_,g,_⟩:=h.ex;rw[z]at e;rcases g with b | ⟨u,b⟩<;>rw[e]at b<;>cases b
 .exact d _ rfl
 .exact f _ _ rfl
def K4{C:A2}{H:Hp}{x c a:A2}{xs:A1 V}{ns:A1 Str}{A B:A1 Nat}{L:Nat}(h:F1 C H x c ns A B L)(e:H a=some (.lst xs)):a≠c:=X9 h e (λ_ y=>by cases y) λ_ _ y=>by cases y
def U7{C:A2}{H:Hp}{x c a:A2}{xs:A1 V}{ns:A1 Str}{A B:A1 Nat}{L:Nat}(h:F1 C H x c ns A B L)(e:H a=some (.tup xs)):a≠c:=X9 h e (λ_ y=>by cases y) λ_ _ y=>by cases y
def JJ.sm{C:A2}{H H':Hp}{x c:A2}{ns:A1 Str}{A B:A1 Nat}{L:Nat}{t:RK}(h:JJ H t)(M:F1 C H x c ns A B L)(k:Sm [c] H H'):JJ H' t:=⟨KW k h.1 (U7 M h.1),KW k h.2.1 (U7 M h.2.1),h.2.2⟩
def JJ.upd{H:Hp}{l:A2}{o:HO}{xs:A1 V}{t:RK}(h:JJ H t)(e:H l=some (.lst xs)):JJ (IH H l o) t:=⟨(B5 (S0 h.1 e (by intro y;cases y))).trans h.1,(B5 (S0 h.2.1 e (by intro y;cases y))).trans h.2.1,h.2.2⟩
def Uc{ns:A1 Str}{A B:A1 Nat}{m:Nat}{ts:A1 RK}(h:(ts.map λt=>t.2.2)=Ux ns A B m):(ts.map λt=>t.2.2.2)=Em A B ns.length m:=by
 rw[<-Ep,<-h,BV];rfl
section
variable{P:A7}{w:F8}{K:PySem.W.Frag}{mg:Str->A5 A3}{base:IJ}
theorem KN:II ["marks", "held", "splits", "doubt", "doubted"] ["marks", "held"] (B7 NW):=KO
def Dv(C:A2):Sp:=λe H Q _=>∃(x c:A2) (b:A1 Str) (A B:A1 Nat) (L m:Nat),e = [.ref x,.int (m:Int)]/\F1 C H x c b A B L/\(∀j,m.testBit j=true->j<b.length) /\
 ∀l (d:A1 RK) a,H l=none->Sm [c] H a->F1 C a x c b A B L->a l=some (.lst (d.map λt=>V.ref t.1))->(∀t∈d,JJ a t)->(d.map λt=>t.2.2)=Ux b A B m->Q (.ref l) a
set_option maxHeartbeats 2000000 in
theorem j9(T:Tx K mg):IK P w K mg base IY 4 T.aM.f T.aM.fd ["marks", "held"] (Dv T.ab):=by
 refine T.aM.F.o1 KN λcdv A outer s H vs Q E N h=>?_
 .obtain⟨x,c,g,A,B,L,m,rfl,hM,hm,q⟩:=h;refine⟨_,(B3 (C2 (i:=2) KN.nd rfl (.inl rfl) (O8 B2))
   (B3 (U2 PassesOwn.never rfl (OU K (C4 (pv 0) T.ac T.ad.m (E4 T) (Rm N) T.ad.b .nil E7 (A8 (D3 Q0 (C4 (pv 0) T.ac T.af.m (E3 T) (Rm N) T.af.b .nil E7 (A8 (pv 1) B2)) (C4 (pv 0) T.ac T.ah.m (G7 T) (Rm N) T.ah.b .nil E7 (A8 (pv 1) B2))) B2))) (D6 (i:=3) KN.nd rfl (.inl rfl))
   (B3 (C2 (i:=4) KN.nd rfl (.inl rfl) (C4 (pv 0) T.ac T.aj.m (G9 T) (Rm N) T.aj.b .nil E7 (A8 (D3 Q0 (C4 (pv 0) T.ac T.ae.m (E1 T) (Rm N) T.ae.b .nil E7 (A8 (pv 3) B2)) (pv 1)) B2)))
   (B4 (E2 (Fu K PySem.F.plainAttrs_list PySem.F.slot_list_append PySem.F.type_list_append G8 (pv 2) (A8 (E8 (A8 (E8 (A8 R9 (A8 (pv 4) (A8 (C4 (pv 0) T.ac T.aj.m (G9 T) (Rm N) T.aj.b .nil E7 (A8 (pv 3) B2)) B2)))) (A8 (C4 (pv 0) T.ac T.af.m (E3 T) (Rm N) T.af.b .nil E7 (A8 (pv 3) B2)) B2))) B2))))))
   (B4 (C1 (pv 2))))),?_⟩
  refine B6 λN1 hN1=>?_;refine⟨CB _,λl hl=>?_⟩;have ul:=Cs.new (o:=.lst []) hl;have hMe:F1 T.ab (Sw.er (IH H l (.lst [])) l) x c g A B L:=by
   rw[Ae];exact hM.same λb o e=>by rw[u6 (A9 e hl)];exact e
  have Z:=hM.same ul;have el:(IH H l (.lst [])) l=some (.lst []):=B1;have k1:Sm [c] H (IH H l (.lst [])):=ul.sm;generalize IH H l (.lst [])=H1 at Z el k1 hMe⊢;refine hN1 _ _ (B6 λN2 hN2=>?_);obtain⟨u,a,b,d,kb,v,_⟩:=Z.ex;refine A6 rfl ⟨x,u,A6 rfl ⟨v,rfl,A6 rfl ⟨x,u,A6 rfl ⟨v,rfl,A6 rfl ⟨x,c,g,A,B,L,m,rfl,Z,λr1 H2 k2 M2 hr1=>?_⟩⟩⟩⟩⟩;obtain⟨u,a,b,d,kb,v,_⟩:=M2.ex;refine A6 rfl ⟨x,u,A6 rfl ⟨v,rfl,A6 rfl ⟨x,c,g,A,B,L,m,rfl,M2,λr2 H3 k3 M3 hr2=>?_⟩⟩⟩;refine C0 rfl rfl ?_;dsimp only;rw[Tn];refine⟨x,c,g,A,B,L,r1 &&& r2,rfl,M3,λD H4 hD k4 M4 eD=>?_⟩;have eds:D8 (r1 &&& r2) g.length=O6 A B g.length m:=Uu λj=>by rw[CV,BT,hr1,hr2]
  rw[eds]at eD;have O:Sm [c] H1 H4:=(k2.trans k3).trans k4;have el4:=KW O el (K4 Z el);have Me4:=hMe.er O M4 (K4 Z el);have nDl:D≠l:=λz=>by
   have:=KW (k2.trans k3) el (K4 Z el);rw[<-z,hD]at this;cases this
  have k04:Sm [c] H H4:=k1.trans O;have nDc:=K4 M4 eD;have R:=K4 M4 el4;refine⟨D,rfl,⟨_,IQ.of eD⟩,w9 (D:={ nx:=N2,rt:=Q }) (OW (IQ.of eD)) (λi σ G=>(∃v3 v4,σ = [some (.ref x),some (.int (m:Int)),some (.ref l),v3,v4])/\Sm [c] H G/\Sm [c,l] H4 G/\F1 T.ab (Sw.er G l) x c g A B L/\F1 T.ab G x c g A B L/\∃I:A1 RK,G l=some (.lst (I.map λt=>V.ref t.1))/\(∀t∈I,JJ G t)/\(I.map λt=>t.2.2) =((O6 A B g.length m).take i).map (Xv g A B m)) ⟨⟨_,_,rfl⟩,k04,Sm.refl _ _,Me4,M4,[],el4,λt ht=>absurd ht AY,rfl⟩ (λi σ G _ h o e=>by rw[eD]at e;cases e;exact h.2.2.1 _ _ eD (by simp[nDl,nDc])) ?_ ?_⟩
  .rintro i σ G y hy ⟨⟨v3,v4,rfl⟩,kG,kG4,MeG,MG,I,eG,aG,mG⟩ D1 hD1 _;rw[AH]at hy;obtain⟨j,hj,rfl⟩:=BF.mp hy;obtain⟨hjn,⟨p,hp,hpj⟩,nh⟩:=Le.mp (AM hj);refine We λN3 hN3=>?_;obtain⟨u,a,b,d,kb,v,_⟩:=MG.ex;refine A6 rfl ⟨x,u,A6 rfl ⟨v,rfl,A6 rfl ⟨x,u,A6 rfl ⟨v,rfl,A6 rfl ⟨x,c,g,A,B,L,2^j,rfl,MG,λr3 G1 J S hr3=>?_⟩⟩⟩⟩⟩;have er3:r3=B.getD j 0:=BL λi=>BP.mpr ((hr3 i).trans Ft);subst er3;refine A6 rfl (C0 rfl rfl ?_);dsimp only;rw[Tn];refine⟨x,c,g,A,B,L,B.getD j 0 &&& m,p,rfl,S,hm p hp,by rw[CV,BT];exact⟨(hM.net.tr p j).mp hpj,hp⟩,λG2 C=>?_⟩;have k:=S.same C;refine hN3 _ _ ?_;have U:=C _ _ (KW J eG (K4 MG eG));have MeG2:=(MeG.er J S R).er (C.sm (D:=[c])) k R;have aG2:∀t∈I,JJ G2 t:=λt ht=>((aG t ht).sm MG J).same C;have kG2:Sm [c] G G2:=J.trans C.sm;have lts:I.length<=100:=by
    have h1:=congrArg List.length mG;rw[AA,AA,AW]at h1;have h2:(O6 A B g.length m).length<=g.length:=by
     unfold O6;exact Nat.le_trans (CH ..) (by rw[CD];exact Nat.le_refl _)
    have:=hM.len;lia
   obtain⟨u,a,b,d,kb,v,_⟩:=k.ex;refine A6 rfl ⟨.inl ⟨rfl,_,IQ.of U⟩,?_⟩;refine A6 rfl (A6 rfl ⟨x,u,A6 rfl ⟨v,rfl,A6 rfl ⟨x,c,g,A,B,L,2^j,j,rfl,k,hjn,DM,λG3 sg3=>?_⟩⟩⟩);refine⟨by show 3<=sizeLine;decide,λh hh=>?_⟩;have uh:=Cs.new (o:=.tup [.str "answer",.str (P3 g (B.getD j 0 &&& m)),.str (P3 g (2^j))]) hh;have eh:(IH G3 h (.tup [.str "answer",.str (P3 g (B.getD j 0 &&& m)),.str (P3 g (2^j))])) h=some (.tup (([.inr "answer",.inr (P3 g (B.getD j 0 &&& m)),.inr (P3 g (2^j))]:A1 IZ).map kV)):=B1;have W:=sg3.trans uh;generalize IH G3 h (.tup [.str "answer",.str (P3 g (B.getD j 0 &&& m)),.str (P3 g (2^j))])=G4 at W eh⊢;have X:=k.same W;obtain⟨u,a,b,d,kb,v,_⟩:=X.ex;refine A6 rfl ⟨x,u,A6 rfl ⟨v,rfl,A6 rfl ⟨x,c,g,A,B,L,2^j,rfl,X,λr4 G5 kg5 MG5 hr4=>?_⟩⟩⟩;have er4:r4=A.getD j 0:=BL λi=>BP.mpr ((hr4 i).trans Ft);subst er4;refine⟨by show 2<=sizeLine;decide,λt ht=>?_⟩;have ut:=Cs.new (o:=.tup [.ref h,.int ((A.getD j 0:Nat):Int)]) ht;have st:JJ (IH G5 t (.tup [.ref h,.int ((A.getD j 0:Nat):Int)])) (t,h,[.inr "answer",.inr (P3 g (B.getD j 0 &&& m)),.inr (P3 g (2^j))],A.getD j 0):=⟨B1,ut _ _ (KW kg5 eh (U7 X eh)),GX _ _,by show 3<=5;decide⟩;have r:Sm [c] G2 (IH G5 t (.tup [.ref h,.int ((A.getD j 0:Nat):Int)])):=(W.sm.trans kg5).trans ut.sm;have MG6:=MG5.same ut;generalize IH G5 t (.tup [.ref h,.int ((A.getD j 0:Nat):Int)])=G6 at ut st r MG6⊢;have Y:=KW r U (K4 k U);have MeG6:=MeG2.er r MG6 R;refine⟨l,_,_,rfl,rfl,Y,by rw[AA,sizeLine_eq];lia,?_⟩;have M:F1 T.ab (Sw.er (L2.IH G6 l (.lst ((I.map λt=>V.ref t.1) ++ [.ref t]))) l) x c g A B L:=by rw[Ae];exact MeG6
   refine hD1 _ _ ⟨⟨_,_,rfl⟩,λb o e n=>?_,λb o e n=>?_,M,M.same (P4 _ _),I ++ [(t,h,[.inr "answer",.inr (P3 g (B.getD j 0 &&& m)),.inr (P3 g (2^j))],A.getD j 0)],?_,λt' ht'=>?_,?_⟩
   .rw[B5 (A9 e hl)];exact(kG.trans (kG2.trans r)) b o e n
   .have n1:b≠c:=λz=>n (by rw[z];exact .head _);have n2:b≠l:=λz=>n (by rw[z];exact .tail _ (.head _));rw[B5 n2];exact(kG2.trans r) b o (kG4 b o e n) (by simpa using n1)
   .rw[B1,AK];rfl
   .rcases AR.mp ht' with z | z
    .exact((aG2 t' z).sm k r).upd Y
    .rw[AD.mp z];exact st.upd Y
   .rw[AK,mG,I7 hj,AK];rfl
  .rintro σ G ⟨⟨v3,v4,rfl⟩,kG,kG4,MeG,MG,I,eG,aG,mG⟩;rw[AA,CK]at mG;exact hN2 _ _ (A6 rfl (q l I G hl kG MG eG aG mG))
end
def o7{C:A2}{H H':Hp}{x c p:A2}{ns:A1 Str}{A B:A1 Nat}{L:Nat}{ls:A1 (Pos×Str)}(h:K0 H p ls)(M:F1 C H x c ns A B L)(k:Sm [c] H H'):K0 H' p ls:=by
 obtain⟨b,e,t,q⟩:=h;exact⟨b,KW k e (X9 M e (λ_ y=>by cases y) λ_ _ y=>by cases y),t,λl f=>(q l f).imp id λ⟨d,e,a⟩=>⟨d,e,KW k a (X9 M a (λ_ y=>by cases y) λ_ _ y=>by cases y)⟩⟩
section
variable{P:A7}{w:F8}{K:PySem.W.Frag}{mg:Str->A5 A3}{base:IJ}
def zAu(f c:A2)(q:Str)(b:Arguments)(d:IL)(a:JN)(cl:A1 (Str×A2))(g:V->Hp->VK->Prop):Sp:=λe H Q _=>∃u,e = [u]/\H f=some (OG f c q b d a cl)/\H c=some (LO c q)/\g u H Q
theorem Tl{f c:A2}{q:Str}{i:Arguments}{e:IL}{b:JN}{cl:A1 (Str×A2)}{fr:A1 Str}{gs:A1 V}{k:Nat}{g:V->Hp->VK->Prop}(S:OA ("split" :: fr) ["split"] fr b)(C:QS base cl fr gs)
  (d:∀(A:IM) (a:A1 QW) (s:A4) (H:Hp) (u:V) (Q:VK),JQ k (A.deeper (PySem.W.envX q b s.heap.objs.size f (.ref c) cl))->g u H Q ->
   ∃t,PE (Ps P w K mg base ("split" :: fr) q b f (.ref c) cl A a s H) e t/\t (some u::gs.map some) H Q) :
  IK P w K mg base IY (k+1) f (PySem.W.kla_fn "<lambda>" q i e b cl .none (.ref c) .none) ["split"] (zAu f c q i e b cl g):=by
 refine zCp S C (λj H Q E h=>?_) (λj H Q E h=>?_) λA a s H j Q E l h=>?_
 .obtain⟨u,rfl,_⟩:=h;rfl
 .obtain⟨u,rfl,m,n,_⟩:=h;exact⟨m,n⟩
 .obtain⟨u,rfl,_,_,h⟩:=h;exact d A a s H u Q l h
theorem Zj{e:Hp}{f c:A2}{q:Str}{j:Arguments}{i:IL}{a:JN}{cl:A1 (Str×A2)}{fr:A1 Str}{gs:A1 V}{k:Nat}{g:V->Hp->VK->Prop}(n:e f=some (OG f c q j i a cl))(o:e c=some (LO c q))(S:OA ("split" :: fr) ["split"] fr a)(C:QS base cl fr gs)
  (p:Binds K (PySem.W.kla_fn "<lambda>" q j i a cl .none (.ref c) .none) ["split"] [])
  (b:∀(A:IM) (d:A1 QW) (s:A4) (H:Hp) (u:V) (Q:VK),JQ k (A.deeper (PySem.W.envX q a s.heap.objs.size f (.ref c) cl))->g u H Q ->
   ∃t,PE (Ps P w K mg base ("split" :: fr) q a f (.ref c) cl A d s H) i t/\t (some u::gs.map some) H Q) :
  ∃(l:IS) (m:A1 Str) (sp:Sp),IK P w K mg base IY (k+1) f l m sp/\Binds K l m []/\∀u H Q,H f=e f->H c=e c->g u H Q->sp [u] H Q E0 :=
 ⟨_,_,_,Tl S C b,p,λu H Q r v h=>⟨u,rfl,r.trans n,v.trans o,h⟩⟩
theorem Fd:II ["marks", "held", "splits"] ["marks", "held", "splits"] (B7 KZ):=KO
def Ke(C d:A2):Sp:=λf H Q _=>∃(x c l:A2) (e:A1 Str) (A B:A1 Nat) (L m:Nat) (a:A1 RK),f = [.ref x,.int (m:Int),.ref l]/\F1 C H x c e A B L/\H l=some (.lst (a.map λt=>V.ref t.1))/\a≠[]/\(∀t∈a,JJ H t)/\K0 H d B9 /\
 ∀b,Sm [c,d] H b->F1 C b x c e A B L->K0 b d B9->(∀t∈a,JJ b t)->Q ((a.map λt=>V.ref t.1).getD (Y8 A B e.length L m (a.map λt=>t.2.2.2)) .non) b
set_option maxHeartbeats 2000000 in
theorem i8(T:Tx K mg)(hB:base.BuiltinsAt mg T.aa):IK P w K mg base IY 7 T.aA.f T.aA.fd ["marks", "held", "splits"] (Ke T.ab T.aa):=by
 refine T.aA.F.oC Fd λcdv A N s H vs Q E hcd hr h=>?_
 .obtain⟨x,c,l,ns,A,B,L,m,Y,rfl,hM,hl,hne,hS,hT,q⟩:=h;have hu:=Y7 hr;refine⟨_,(B4 (C1 (zAe (k:=5) (λ_=>rfl) (Rm hr) T.bG (A8 (pv 2) B2) (zEv (ls:=B9) T.bq hB (hcd.symm.trans T.bE) rfl rfl (by show ∀x:Str×KE,x∈_->x.2=NameKind.free->(B7 KZ).names.lookup x.1=some NameKind.cell;decide +kernel) (by first | exact .head _ | exact .tail _ (.head _) | exact .tail _ (.tail _ (.head _))) (by decide +kernel))))),?_⟩;refine A6 rfl ⟨hT,λf cc Z hf T2 D G nfp I=>?_⟩;have p:∀{z:A2} {o:HO},H z=some o->(∀u,o≠ .tbl u)->z≠T.aa:=fun{z o} e n y=>by
   obtain⟨ps,e',_⟩:=hT;rw[y,e']at e;cases e;exact n _ rfl
  have M2:F1 T.ab Z x c ns A B L:=by
   obtain⟨⟨dx,a,b,d,kb,e1,e2,e3,e4,e5,e6,n1,n2⟩,J,h3,h4,h5⟩:=hM;have kR:∀{z:A2} {o:HO},(∀u,o≠ .tbl u)->Rd H z o->Rd Z z o:=fun{z o} n r=>r.imp (λe=>I _ _ e (p e n)) λ⟨u,e⟩=>⟨u,I _ _ e (p e λ_ y=>by cases y)⟩;exact⟨⟨dx,a,b,d,kb,I _ _ e1 (p e1 λ_ y=>by cases y),I _ _ e2 (p e2 λ_ y=>by cases y),kR (λ_ y=>by cases y) e3,e4,kR (λ_ y=>by cases y) e5,I _ _ e6 (p e6 λ_ y=>by cases y),n1,n2⟩,J,h3,h4,h5⟩
  have hl2:=I _ _ hl (p hl λ_ y=>by cases y);have S2:∀t∈Y,JJ Z t:=λt W=>by
   obtain⟨a1,a2,a3⟩:=hS t W;exact⟨I _ _ a1 (p a1 λ_ y=>by cases y),I _ _ a2 (p a2 λ_ y=>by cases y),a3⟩
  refine⟨l,f,[c],_,λj=>Vx A B ns.length L m ((Y.map λt=>t.2.2.2).getD j 0),λC=>F1 T.ab C x c ns A B L/\C l=some (.lst (Y.map λt=>V.ref t.1))/\(∀t∈Y,JJ C t)/\K0 C T.aa B9/\C f=Z f/\C cc=Z cc,rfl,rfl,by simpa using hne,⟨M2,hl2,S2,T2,rfl,rfl⟩,λC g=>IQ.of g.2.1,?K,λC k' g=>?R⟩
  case R =>
   have:=q C (λb o e n=>k' b o (I b o e λz=>n (by rw[z];exact .tail _ (.head _))) λz=>n (by rw[AD.mp z];exact .head _)) g.1 g.2.2.2.1 g.2.2.1;unfold Y8 at this;rw[AA]at this⊢;exact this
  case K =>
   intro O S kin;obtain⟨fd,ps,sp,M,J,h3⟩:=Zj (P:=P) (w:=w) (K:=K) (mg:=mg) (base:=O) (k:=4) (fr:=["marks", "held"]) (gs:=[.ref x,.int (m:Int)]) (g:=λv C Q'=>∃ad:Nat,(∃t:A2,v = .ref t/\∃hd:A2,C t=some (.tup [.ref hd,.int (ad:Int)]))/\Ro T.ab [.ref x,.int (m:Int),.int (ad:Int)] C Q' E0) G D ⟨rfl,rfl,rfl,rfl,by decide +kernel,by decide +kernel,by decide +kernel,by decide +kernel,by decide +kernel⟩ (S.clos (by decide +kernel) (by decide +kernel) (by show ∀x∈_,(B7 KZ).names.lookup x=some NameKind.cell;decide +kernel) rfl λi x v M J=>by
    match i,M,J with
    | 0,M,J=>cases M;cases J;exact⟨0,rfl,rfl⟩
    | 1,M,J=>cases M;cases J;exact⟨1,rfl,rfl⟩
    | n+2,M,_=>cases M) (Binds.all λus hl=>by match us,hl with | [_],_=>rfl) (λA N s H u Q hr h=>by
    obtain⟨ad,⟨t,rfl,hd,et⟩,h⟩:=h;refine⟨_,C7 T.a9 (Ez T) (Rm hr) (A8 (pv 1) (A8 (pv 2) (A8 (M9 (RC K) (pv 0) B8 (λ_ _=>rfl)) B2))),?_⟩;exact A6 rfl (A6 rfl (A6 rfl ⟨t,_,C0 rfl rfl ⟨JH.of et,rfl,h⟩⟩)))
   .refine⟨fd,ps,sp,M,J,λj v C ev g=>h3 v C _ g.2.2.2.2.1 g.2.2.2.2.2 ?_⟩;rw[AH]at ev;obtain⟨t,W,rfl⟩:=BF.mp ev;obtain⟨U,gl,gS,gT,gf,gc⟩:=g;refine⟨t.2.2.2,⟨t.1,rfl,t.2.1,(gS t (AM W)).1⟩,x,c,ns,A,B,L,m,t.2.2.2,rfl,U,λa H3 ha X M3 e3=>⟨a,rfl,λz=>?_,X,⟨M3,KW X gl (K4 U gl),λt W=>(gS t W).sm U X,o7 gT U X,?_,?_⟩,JH.of ?_⟩⟩
    .rw[AD.mp z]at ha;exact U8 U ha
    .exact(KW X (gf.trans G) (X9 U (gf.trans G) (λ_ y=>by cases y) λ_ _ y=>by cases y)).trans G.symm
    .exact(KW X (gc.trans D) (X9 U (gc.trans D) (λ_ y=>by cases y) λ_ _ y=>by cases y)).trans D.symm
    .have:(Y.map λt=>t.2.2.2).getD j 0=t.2.2.2:=by rw[AV,AH,W];rfl
     rw[e3];dsimp only;rw[this]
end
def UF:A5 Nat->V
 | some r=>.int (r:Int)
 | none=>.non
def zBa{α:Type}{f:Nat->A5 α}{l:A1 Nat}{i j:Nat}{r:α}(h:l[i]?=some j)(h1:∀x∈l.take i,f x=none)(h2:f j=some r):l.findSome? f=some r:=by
 have a:=(AF.mp h).1;have e:l=l.take i++j::l.drop (i+1):=by
  conv=>lhs;rw[<-B_ i l]
  rw[DI a];congr 2;exact BN ((AC a).symm.trans h)
 rw[e,List.findSome?_append,GU.mpr h1,List.findSome?_cons,h2];rfl
def Bf{H:Hp}{p a:A2}{o:HO}{ls:A1 (Pos×Str)}(h:K0 H p ls)(e:H a=some o)(n:∀u,o≠ .tbl u):a≠p:=λy=>by
 obtain⟨c,b,_⟩:=h;rw[y,b]at e;cases e;exact n _ rfl
section
variable{P:A7}{w:F8}{K:PySem.W.Frag}{mg:Str->A5 A3}{base:IJ}
theorem JZ:II ["marks", "held", "splits", "bit", "found"] ["marks", "held"] (B7 ME):=KO
def Bc(C d:A2)(k:Nat):Sp:=λe H Q _=>∃(x c:A2) (a:A1 Str) (A B:A1 Nat) (L m:Nat),e = [.ref x,.int (m:Int)]/\F1 C H x c a A B L/\JW a.length m/\K0 H d B9/\a.length<k +(D8 m a.length).length /\
 ∀b,Sm [c,d] H b->F1 C b x c a A B L->K0 b d B9->Q (UF (V9 A B a.length L k m)) b
set_option maxHeartbeats 4000000 in
theorem Ac(T:Tx K mg)(hB:base.BuiltinsAt mg T.aa){n k:Nat}{S:Sp}(h1:7<=n)(g:IK P w K mg base IY n T.ao.f T.ao.fd ["marks", "held"] S)(hS:∀J,k=J+1->S=Bc T.ab T.aa J) :
  IK P w K mg base IY (n+1) T.ao.f T.ao.fd ["marks", "held"] (Bc T.ab T.aa k):=by
 have I:IK P w K mg base IY n T.aK.f T.aK.fd ["marks", "held"] (Fo T.ab):=(Bh T).mono (by lia);have v:IK P w K mg base IY n T.aM.f T.aM.fd ["marks", "held"] (Dv T.ab):=(j9 T).mono (by lia);have C:IK P w K mg base IY n T.aA.f T.aA.fd ["marks", "held", "splits"] (Ke T.ab T.aa):=(i8 T hB).mono h1;have p:IK P w K mg base IY n T.ad.f T.ad.fd ["self", "some"] (u8 T.ab):=(E4 T).mono (by lia);refine T.ao.F.o1 JZ λcdv A outer s H vs Q E Y h=>?_
 .obtain⟨x,c,u,A,B,L,m,rfl,hM,lo,hT,hk,q⟩:=h;refine⟨_,(B3 (J7 (C8 Jz (C7 T.aK I (Y.mono (Nat.le_refl _)) (A8 (pv 0) (A8 (pv 1) B2))) Ad (E5 _)) (B4 (C1 Ad)) C3)
   (B3 (C2 (i:=2) JZ.nd rfl (.inl rfl) (C7 T.aM v (Y.mono (Nat.le_refl _)) (A8 (pv 0) (A8 (pv 1) B2))))
   (B3 (J7 (W7 (RR K (pv 2))) (B4 (C1 (pv 1))) C3)
   (B3 (U2 PassesOwn.never rfl (OU K (C4 (pv 0) T.ac T.ad.m p (Y.mono (Nat.le_refl _)) T.ad.b .nil E7 (A8 (M9 (RC K) (C7 T.aA C (Y.mono (Nat.le_refl _)) (A8 (pv 0) (A8 (pv 1) (A8 (pv 2) B2)))) B8 (λ_ _=>rfl)) B2))) (D6 (i:=3) JZ.nd rfl (.inl rfl))
   (B3 (C2 (i:=4) JZ.nd rfl (.inl rfl) (C7 T.ao g (Y.mono (Nat.le_refl _)) (A8 (pv 0) (A8 (D3 V8 (pv 1) (pv 3)) B2))))
   (B4 (J7 (C8 Jz (pv 4) Ad (E5 _)) (B4 (C1 (pv 4))) C3))))
   (B4 (C1 Ad)))))),?_⟩
  obtain⟨J,rfl⟩:∃J,k=J+1:=⟨k-1,by have:=M0 m u.length;lia⟩;have eS:=hS J rfl;subst eS;have up:∀{G G':Hp},Sm [c] G G'->Sm [c,T.aa] G G':=λk b o e n=>k b o e λz=>n (by rw[AD.mp z];exact .head _);refine B6 λN1 hN1=>?_;refine A6 rfl (A6 rfl ⟨x,c,u,A,B,L,m,rfl,hM,lo,λH1 k1 M1=>⟨λnc=>?_,λa cl ha et=>?_⟩⟩);rotate_left
  .refine⟨rfl,_,rfl,Q3 (λ_=>?_) λz=>absurd (by simp) z⟩;have e:V9 A B u.length L (J+1) m=none:=by
    unfold V9;rw[AO cl]
   have:=q H1 (up k1) M1 (o7 hT hM k1);rw[e]at this;exact this
  have Z:¬Z7 B m:=λ⟨j,O,hh⟩=>nc j O hh;have T1:=o7 hT hM k1;refine⟨rfl,_,rfl,Q3 (λz=>absurd z (by simp)) λ_=>hN1 _ _ (B6 λN2 hN2=>?_)⟩;refine A6 rfl (A6 rfl ⟨x,c,u,A,B,L,m,rfl,M1,lo,λl R H2 hl k2 M2 el aS mS=>?_⟩);have mS:=Uc mS;have T2:=o7 T1 M1 k2;refine hN2 _ _ (B6 λN3 hN3=>?_);refine A6 rfl ⟨_,.inl ⟨_,IQ.of el,rfl⟩,?_⟩;have k02:=up (k1.trans k2);cases N:R with
  | nil =>
   subst N;refine Q3 (λ_=>A6 rfl ?_) λz=>absurd rfl z;have e:V9 A B u.length L (J+1) m=some m:=by
    unfold V9;rw[AN Z,AO (C_.mp (show Em A B u.length m = []from mS.symm))]
   have:=q H2 k02 M2 T2;rw[e]at this;exact this
  | cons t0 ts0 =>
   rw[<-N];have U:R≠[]:=by rw[N];exact GX _ _
   have dne:O6 A B u.length m≠[]:=λz=>U (C_.mp (mS.trans (by unfold Em;rw[z];rfl)));have W:V9 A B u.length L (J+1) m =(D8 (S9 A B u.length L m) u.length).findSome? λj=>V9 A B u.length L J (m ||| 2^j):=by
    conv=>lhs;unfold V9
    rw[AN Z,AN dne]
   refine Q3 (λz=>absurd z (by rw[N];exact λy=>by cases y)) λ_=>hN3 _ _ (B6 λN4 hN4=>?_);obtain⟨dx,a,b,d,kb,e1,_⟩:=M2.ex;refine A6 rfl ⟨x,dx,A6 rfl ⟨e1,rfl,A6 rfl (A6 rfl (A6 rfl ⟨x,c,l,u,A,B,L,m,R,rfl,M2,el,U,aS,T2,λH3 k3 M3 T3 S3=>?_⟩))⟩⟩;have hb:=j7 (A:=A) (B:=B) (n:=u.length) (L:=L) (m:=m) (ads:=R.map λt=>t.2.2.2) (λz=>U (C_.mp z));rw[AA]at hb;have M:=AC hb;generalize hbi:Y8 A B u.length L m (R.map λt=>t.2.2.2)=bi at hb M⊢;generalize hti:R[bi]=t at M;have ead:S9 A B u.length L m=t.2.2.2:=by
    unfold S9;rw[<-mS,hbi,AV,AH,M];rfl
   have ev:(R.map λt=>V.ref t.1).getD bi .non = .ref t.1:=by rw[AV,AH,M];rfl
   rw[ev];refine⟨t.1,_,C0 rfl rfl ⟨JH.of (S3 t (AM M)).1,rfl,?_⟩⟩;refine⟨x,c,u,A,B,L,t.2.2.2,rfl,M3,λD H4 hD k4 M4 X=>?_⟩;have T4:=o7 T3 M3 k4;have k04:Sm [c,T.aa] H H4:=(k02.trans k3).trans (up k4);have nDc:=K4 M4 X;have nDp:=Bf T4 X λ_ y=>by cases y
   rw[ead]at W;refine⟨D,rfl,⟨_,IQ.of X⟩,w9 (D:={ nx:=N4,rt:=Q }) (OW (IQ.of X)) (λi σ G=>(∃v3 v4,σ = [some (.ref x),some (.int (m:Int)),some (.ref l),v3,v4])/\Sm [c,T.aa] H4 G/\F1 T.ab G x c u A B L/\K0 G T.aa B9/\∀j∈(D8 t.2.2.2 u.length).take i,V9 A B u.length L J (m ||| 2^j)=none) ⟨⟨_,_,rfl⟩,Sm.refl _ _,M4,T4,λj O=>absurd O AY⟩ (λi σ G _ h o e=>by rw[X]at e;cases e;exact h.2.1 _ _ X (by simp[nDc,nDp])) ?_ ?_⟩
   .rintro i σ G y hy ⟨⟨v3,v4,rfl⟩,kG,MG,TG,nG⟩ D1 hD1 hrt;rw[AH]at hy;obtain⟨j,O,rfl⟩:=BF.mp hy;obtain⟨hjn,hjb⟩:=JM.mp (AM O);have hjm:=(Gr (L:=L) hM.net dne (by rw[ead];exact hjb)).2;refine We λN5 hN5=>?_;refine A6 rfl (A6 rfl (A6 rfl (C0 rfl rfl ?_)));dsimp only;rw[QC];refine⟨x,c,u,A,B,L,m ||| 2^j,rfl,MG,lo.or hjn,TG,by rw[Gs hjm,AO hjn];lia,λG1 k1' M1' T1'=>?_⟩;refine hN5 _ _ ?_;cases ho:V9 A B u.length L J (m ||| 2^j)with
    | some r =>
     refine A6 rfl ⟨rfl,_,rfl,Q3 (λ_=>A6 rfl ?_) λz=>absurd (by simp[UF]) z⟩;have:=q G1 (k04.trans (kG.trans k1')) M1' T1';rw[W,zBa (f:=λj=>V9 A B u.length L J (m ||| 2^j)) O nG ho]at this;rw[hrt];exact this
    | none =>
     refine A6 rfl ⟨rfl,_,rfl,Q3 (λz=>absurd z (by simp[UF])) λ_=>hD1 _ _ ⟨⟨_,_,rfl⟩,kG.trans k1',M1',T1',λj' hj'=>?_⟩⟩;rw[I7 O]at hj';rcases AR.mp hj' with z | z
     .exact nG j' z
     .rw[AD.mp z];exact ho
   .rintro σ G ⟨_,kG,MG,TG,nG⟩;rw[AA,CK]at nG;have:=q G (k04.trans kG) MG TG;rw[W,GU.mpr nG]at this;exact hN4 _ _ this
theorem V7(T:Tx K mg)(a:base.BuiltinsAt mg T.aa):∀k,IK P w K mg base IY (8+k) T.ao.f T.ao.fd ["marks", "held"] (Bc T.ab T.aa k)
 | 0=>Ac (n:=7) T a (by decide) (S:=λ_ _ _ _=>False) ⟨λ_ _ _ _ h=>h.elim,λ_ _ _ _ _ _ _ _ _ _ _ _ _ h=>h.elim⟩ λb e=>by lia
 | k+1=>Ac (n:=8+k) T a (by lia) (V7 T a k) λb e=>by cases e;rfl
end
def Vf(l:A1 Nat):((l.map λk=>((2^k:Nat):Int)).sum) =(((l.map λk=>2^k).sum:Nat):Int):=by
 induction l with
 | nil=>rfl
 | cons k l a=>rw[BB,HG,BB,HG,a];lia
def Bi{ns:A1 Str}{y:Str}(h:y∈ns):ns[ns.idxOf y]?=some y:=by
 have l:=HI.mpr h;rw[AC l,List.getElem_idxOf l]
section
variable{P:A7}{w:F8}{K:PySem.W.Frag}{mg:Str->A5 A3}{base:IJ}
theorem Cu:II ["self", "some"] ["self", "some"] (B7 MY):=KO
def Op(K:PySem.W.Frag)(C:A2):Sp:=λf H Q _=>∃(x c a:A2) (d:A1 Str) (A B:A1 Nat) (L:Nat) (b:A1 Str),f = [.ref x,.ref a]/\F1 C H x c d A B L/\RX K H a (b.map V.str)/\(∀y∈b,y∈d)/\b.Nodup/\b.length<=100/\∀(m:Nat) e,Cs H e->JW d.length m->(∀(j:Nat) y,d[j]?=some y->(m.testBit j=true↔y∈b))->Q (.int (m:Int)) e
theorem W1(T:Tx K mg):IK P w K mg base IY 1 T.ay.f T.ay.fd ["self", "some"] (Op K T.ab):=by
 refine T.ay.F.o1 Cu λcdv A U s H vs Q E hr h=>?_
 .obtain⟨x,c,a,v,A,B,L,C,rfl,t,ha,sub,nd,W,q⟩:=h;have hu:=Y7 hr;refine⟨_,(B4 (C1 (I9 (Mp K) T.br Ha (A8 (U1 (N':=["name", "self"]) (cap:=[none,some 0]) (cl:=[("self",_)]) (Q1 ⟨⟨rfl,rfl,rfl,rfl⟩,trivial⟩ ⟨rfl,trivial⟩) rfl (piS K (pv 1)) (λ_ _ _ _=>by exact⟨(NR 0),J9,(O0 hu (NS K (pv 1)) (pv 0) (λ_ _=>rfl))⟩)) B2)))),?_⟩;obtain⟨dx,a',b,d,kb,e1,e2,e3,e4,e5,e6,n1,n2⟩:=t.ex;have I:∀{J:It} (X:St->Hp->Prop),LY J (C.map V.str) a H->∀D,H D=none->(∀σ' G (m:Nat) (i:A1 Int),Cs H G->G D=some (.lst (i.map V.int))->i.sum =(m:Int)->JW v.length m->(∀(j:Nat) y,v[j]?=some y->(m.testBit j=true↔y∈C))->X σ' G) ->
    Ji (W8 0) By (Cp D (Vd (zFy K (Pg 1) ("bit_of":Str)) (Pg 0))) J [none,some (.ref x)] (IH H D (.lst [])) X:=by
   intro J X Y D l hQ;refine Um (r:=V.str) (λy=>O1 (2^v.idxOf y)) Y (λ_=>true) (Nat.le_trans W (by decide)) l (λy g G u M t=>t G λb o e=>e) (λy g G u M t=>?_) λσ' G u O=>?_
   .have rb:Rd G b (.dK kb):=e3.imp (u _ _) λ⟨o,e⟩=>⟨o,u _ _ e⟩;exact A6 rfl ⟨x,T.ab,dx,_,A6 rfl ⟨u _ _ e1,T.ac,T.bb,rfl,A6 rfl ⟨b,_,rfl,.inl ⟨kb,.inr y,rb,rfl,(e4 _ y (Bi (sub y g))).symm⟩,t⟩⟩⟩
   rw[EV.mpr λ_ _=>rfl]at O;have O:G D=some (.lst (((C.map λy=>v.idxOf y).map λk=>((2^k:Nat):Int)).map V.int)):=by rw[O,BV,BV];rfl
   have Z:(C.map λy=>v.idxOf y).Nodup:=by
    refine CC.mpr (nd.imp_of_mem fun{y z} g R n e=>n ?_);have h1:=Bi (sub y g);rw[e,Bi (sub z R)]at h1;exact(BN h1).symm
   have hb:=Bk Z;refine hQ σ' G _ _ u O (Vf _) (λj S=>?_) λj y S=>?_
   .obtain⟨y,g,e⟩:=AJ.mp ((hb j).mp S);rw[<-e];exact HI.mpr (sub y g)
   .rw[hb,AJ];constructor
    .rintro⟨z,R,e⟩;have:=Bi (sub z R);rw[e,S]at this;rw[BN this];exact R
    .intro g;exact⟨y,g,(List.getElem?_inj (HI.mpr (sub y g)) t.nd).mp ((Bi (sub y g)).trans S.symm)⟩
  have N:∀{J:It},LY J (C.map V.str) a H->∀D,H D=none->Ji (W8 0) By (Cp D (Vd (zFy K (Pg 1) ("bit_of":Str)) (Pg 0))) J [none,some (.ref x)] (IH H D (.lst [])) λ_ G=>∃(p:A2) (i:A1 Int),[V.ref D] = [.ref p]/\IQ K G p (i.map V.int)/\Q (.int i.sum) G:=λY D l=>I _ Y D l λσ' G m i s e es lo b=>⟨D,i,rfl,IQ.of e,by rw[es];exact q m G s lo b⟩;exact A6 rfl ⟨a,rfl,ha.elim (λh=>.inl ⟨⟨_,h⟩,λD l=>N (OW h) D l⟩) λh=>.inr ⟨⟨_,h⟩,λD l=>N (asT h) D l⟩⟩
end
def Wz{n M u:Nat}(h:∀j,u.testBit j=true↔(2^n-1).testBit j=true/\¬M.testBit j=true):u=u9 n λj=>¬M.testBit j=true :=
 BL λj=>BP.mpr (by rw[h,I0,R8])
def Xi{n m i M:Nat}{Ms:A1 Nat}(h:Ms[i]?=some M):Hi n (Ms.take (i+1)) m=Hi n (Ms.take i) m++if pB (Sub m M)=true then [([.inr "beyond",.inl (i:Int)],u9 n λj=>¬M.testBit j=true)]else []:=by
 have a:=(AF.mp h).1;unfold Hi;rw[I7 h,List.zipIdx_append,EI,AK];congr 1;have e:(Ms.take i).length=i:=by rw[AW];lia
 rw[e,EF];show(List.filter _ [(M,i)]).map _=_;by_cases c:pB (Sub m M)=true
 .rw[AO c,List.filter_cons_of_pos (by exact c)];rfl
 .rw[AN c,List.filter_cons_of_neg (by exact c)];rfl
section
variable{P:A7}{w:F8}{K:PySem.W.Frag}{mg:Str->A5 A3}{base:IJ}
theorem Qg{n m:Nat}{Ms:A1 Nat}:(Hi n Ms m).length<=Ms.length:=by
 unfold Hi;rw[AA];exact Nat.le_trans (CH ..) (by rw[List.length_zipIdx];exact Nat.le_refl _)
theorem Fj:II ["marks", "sets", "held"] ["marks", "sets", "held"] (B7 NV):=KO
def u5(C:A2):Sp:=λg H Q _=>∃(x c a:A2) (e:A1 Str) (A B b:A1 Nat) (L m:Nat),g = [.ref x,.ref a,.int (m:Int)]/\F1 C H x c e A B L/\H a=some (.lst (b.map O1))/\(∀M∈b,JW e.length M)/\b.length<=300 /\
 ∀l (f:A1 RK) d,H l=none->Cs H d->d l=some (.lst (f.map λt=>V.ref t.1))->(∀t∈f,JJ d t)->(f.map λt=>t.2.2)=Hi e.length b m->Q (.ref l) d
theorem j0(T:Tx K mg):IK P w K mg base IY 1 T.aB.f T.aB.fd ["marks", "sets", "held"] (u5 T.ab):=by
 refine T.aB.F.o1 Fj λcdv A outer s H vs Q E hr h=>?_
 .obtain⟨x,c,a,S,A,B,Ms,L,m,rfl,hM,J,hMs,len,q⟩:=h;have hu:=Y7 hr;refine⟨_,(B4 (C1 (U1 (N':=["at", "some", "marks", "held"]) (cap:=[none,none,some 0,some 2]) (cl:=[("marks",_),("held",_)]) (Q1 ⟨⟨rfl,rfl,rfl,rfl⟩,⟨⟨rfl,rfl,rfl,rfl⟩,trivial⟩⟩ ⟨rfl,⟨rfl,trivial⟩⟩) rfl (piE K T.a7 (A8 (pv 1) B2)) (λ_ _ _ _=>by exact⟨(RB K (n:=2) (C9 (NR 0) (C9 (NR 1) O7))),(Ca (C8 T0 (D3 Q0 (pv 3) (pv 1)) (pv 3) (E5 _))),(E8 (A8 (E8 (A8 R9 (A8 (pv 0) B2))) (A8 (D3 y9 (NS K (pv 2)) (pv 1)) B2)))⟩)))),?_⟩;refine A6 rfl ⟨a,_,rfl,IQ.of J,λD U=>?_⟩;have eD:(IH H D (.lst [])) a=some (.lst (Ms.map O1)):=Cs.new U _ _ J;refine Ce (n:=Ms.length) (λi σ G=>(∃v0 v1,σ = [v0,v1,some (.ref x),some (.int (m:Int))])/\Cs H G/\∃g:A1 RK,G D=some (.lst (g.map λt=>V.ref t.1))/\(∀t∈g,t.1≠D/\t.2.1≠D/\JJ G t)/\(g.map λt=>t.2.2)=Hi S.length (Ms.take i) m) ⟨⟨_,_,rfl⟩,Cs.new U,[],B1,λt h=>absurd h AY,rfl⟩ ?_ ?_ ?_ ?_
  .rintro i σ C W ⟨_,l,_⟩;exact⟨_,_,IQ.of (l _ _ J),by rw[AH,AC W];rfl⟩
  .rintro σ C ⟨_,l,_⟩;exact⟨_,IQ.of (l _ _ J),by rw[AA]⟩
  .rintro i σ C x' H' N W ⟨⟨v0,v1,rfl⟩,l,g,r,M,I⟩ ⟨t,y,rfl,k,rfl,X⟩ hN;have X:=X _ (IQ.of (l _ _ J));have O:Ms[i]?=some Ms[i]:=AC W;rw[AH,O]at X;cases X;refine⟨t,A6 rfl ⟨JH.of B1,rfl,_,A6 rfl (C0 rfl rfl ?_)⟩⟩;have ut:=Cs.new (o:=.tup [.int (i:Int),O1 Ms[i]]) k;have Y:=l.trans ut;have e:=ut _ _ r;have v:∀t∈g,t.1≠D/\t.2.1≠D/\JJ (IH C _ _) t:=λt k=>⟨(M t k).1,(M t k).2.1,(M t k).2.2.same ut⟩;generalize IH C t (.tup [.int (i:Int),O1 Ms[i]])=H2 at Y e v⊢;have Z:=Xi (n:=S.length) (m:=m) O;refine A6 rfl (A6 rfl (C0 rfl rfl (A6 rfl ⟨rfl,_,rfl,?_⟩)));rw[show decide (V.int (Builtin.bitAnd (m:Int) (Ms[i]:Int))=V.int (m:Int))=pB (Sub m Ms[i])from zCn (Pz m Ms[i])];refine Q3 (λc=>?_) λc=>?_;rotate_left
   .rw[AN c,CA]at Z;exact hN _ _ ⟨⟨_,_,rfl⟩,Y,g,e,v,by rw[Z];exact I⟩
   rw[AO c]at Z;have M2:=hM.same Y;obtain⟨dx,a',b,d,kb,e1,_⟩:=M2.ex;obtain⟨u,eu,hu2⟩:=Yo (2^S.length-1) Ms[i] λj hj=>(I0 _ _).mpr (hMs _ (FM W) j hj);have eu2:=Wz hu2;refine A6 rfl ⟨by show 2<=sizeLine;decide,λh hh=>?_⟩;have uh:=Cs.new (o:=.tup [.str "beyond",.int (i:Int)]) hh;refine A6 rfl ⟨x,T.ab,dx,_,A6 rfl ⟨uh _ _ e1,T.ac,T.au,rfl,A6 rfl (C0 rfl rfl ?_)⟩⟩;dsimp only;rw[eu];refine⟨by show 2<=sizeLine;decide,λp hp=>?_⟩;have up:=Cs.new (o:=.tup [.ref h,.int (u:Int)]) hp;have R:=uh.trans up;have nh:h≠D:=(A9 e hh).symm;have np:p≠D:=(A9 (uh _ _ e) hp).symm;have lts:g.length<=300:=by
    have h1:=congrArg List.length I;rw[AA]at h1;have h2:=Qg (n:=S.length) (Ms:=Ms.take i) (m:=m);rw[AW]at h2;lia
   refine⟨_,R _ _ e,by rw[AA,sizeLine_eq];lia,hN _ _ ⟨⟨_,_,rfl⟩,(Y.trans R).upd U,g ++ [(p,h,[.inr "beyond",.inl (i:Int)],u)],by rw[B1,AK];rfl,λt k=>?_,?_⟩⟩
   .rcases AR.mp k with z | z
    .obtain⟨n1,n2,sp⟩:=v t z;exact⟨n1,n2,(sp.same R).upd (R _ _ e)⟩
    .rw[AD.mp z];exact⟨np,nh,JJ.upd ⟨B1,up _ _ B1,GX _ _,by show 2<=5;decide⟩ (R _ _ e)⟩
   .rw[AK,Z,I,eu2];rfl
  .rintro σ C ⟨_,l,g,r,M,I⟩;rw[CK]at I;exact q D g C U l r (λt k=>(M t k).2.2) I
end
def zFe{ns:A1 Str}{A B:A1 Nat}{m z:Nat}(h:∀j,z.testBit j=true↔(j<ns.length/\¬W0 B m j)/\j<ns.length/\¬m.testBit j=true):Uy ns A B m =(D8 z ns.length).map λj=>(([.inr "cover",.inr (P3 ns (2^j))],2^j ||| A.getD j 0):Hd):=by
 unfold Uy D8;congr 1;refine List.filter_congr λj a=>?_;rw[BP,LB,h];have:=BW.mp a;exact⟨λy=>⟨⟨this,y.1⟩,this,y.2⟩,λy=>⟨y.1.2,y.2.2⟩⟩
section
variable{P:A7}{w:F8}{K:PySem.W.Frag}{mg:Str->A5 A3}{base:IJ}
theorem NT:II ["marks", "held", "uncovered"] ["marks", "held"] (B7 OS):=KO
def Qx(C:A2):Sp:=λe H Q _=>∃(x c:A2) (b:A1 Str) (A B:A1 Nat) (L m:Nat),e = [.ref x,.int (m:Int)]/\F1 C H x c b A B L/\JW b.length m /\
 ∀l (d:A1 RK) a,H l=none->Sm [c] H a->F1 C a x c b A B L->a l=some (.lst (d.map λt=>V.ref t.1))->(∀t∈d,JJ a t)->(d.map λt=>t.2.2)=Uy b A B m->Q (.ref l) a
set_option maxHeartbeats 2000000 in
theorem Hv(T:Tx K mg):IK P w K mg base IY 4 T.bd.f T.bd.fd ["marks", "held"] (Qx T.ab):=by
 refine T.bd.F.o1 NT λcdv A outer s H vs Q E hr h=>?_
 .obtain⟨x,c,g,A,B,L,m,rfl,hM,hm,q⟩:=h;refine⟨_,(B3 (C2 (i:=2) NT.nd rfl (.inl rfl) (D3 Q0 (C4 (pv 0) T.ac T.ah.m (G7 T) (Rm hr) T.ah.b .nil E7 (A8 (pv 1) B2)) (D3 y9 (NS K (pv 0)) (pv 1))))
   (B4 (C1 (U1 (N':=["bit", "marks"]) (cap:=[none,some 0]) (cl:=[("marks",_)]) (Q1 ⟨⟨rfl,rfl,rfl,rfl⟩,trivial⟩ ⟨rfl,trivial⟩) rfl (OU K (C4 (pv 0) T.ac T.ad.m (E4 T) (Rm hr) T.ad.b .nil E7 (A8 (pv 2) B2))) (λ_ _ _ _=>by exact⟨(NR 0),J9,(E8 (A8 (E8 (A8 R9 (A8 (C4 (pv 1) T.ac T.aj.m (G9 T) (Rm hr) T.aj.b .nil E7 (A8 (pv 0) B2)) B2))) (A8 (D3 V8 (pv 0) (C4 (pv 1) T.ac T.af.m (E3 T) (Rm hr) T.af.b .nil E7 (A8 (pv 0) B2))) B2)))⟩))))),?_⟩
  refine B6 λN1 hN1=>?_;obtain⟨I,a,b,d,kb,J,_⟩:=hM.ex;refine A6 rfl ⟨x,I,A6 rfl ⟨J,rfl,A6 rfl ⟨x,c,g,A,B,L,m,rfl,hM,λr1 H1 k1 M1 hr1=>?_⟩⟩⟩;obtain⟨I,a,b,d,kb,J,_⟩:=M1.ex;obtain⟨u,eu,hu2⟩:=Yo (2^g.length-1) m λj hj=>(I0 _ _).mpr (hm j hj);refine A6 rfl ⟨x,T.ab,I,_,A6 rfl ⟨J,T.ac,T.au,rfl,A6 rfl (C0 rfl rfl (C0 rfl rfl ?_))⟩⟩;dsimp only;rw[eu,Tn];refine hN1 _ _ (A6 rfl ?_);have ec:Uy g A B m=_:=zFe (z:=r1 &&& u) λj=>by rw[CV,BT,hr1,hu2,I0]
  generalize r1 &&& u=z at ec⊢;refine⟨x,I,A6 rfl ⟨J,rfl,A6 rfl ⟨x,c,g,A,B,L,z,rfl,M1,λD H4 hD k4 W U=>?_⟩⟩⟩;have X:Sm [c] H H4:=k1.trans k4;have nDc:=K4 W U;refine⟨D,rfl,⟨_,IQ.of U⟩,λl M=>?_⟩;have R:l≠c:=λy=>U8 W (y▸M);have nDl:D≠l:=A9 U M;have ul:=Cs.new (o:=.lst []) M;have Me:F1 T.ab (Sw.er (IH H4 l (.lst [])) l) x c g A B L:=by
   rw[Ae];exact W.same λb o e=>by rw[u6 (A9 e M)];exact e
  refine V1 (OW (IQ.of U)) (λi σ G=>(∃v,σ = [v,some (.ref x)])/\Sm [c] H4 G/\F1 T.ab (Sw.er G l) x c g A B L/\F1 T.ab G x c g A B L/\∃C:A1 RK,G l=some (.lst (C.map λt=>V.ref t.1))/\(∀t∈C,JJ G t)/\(C.map λt=>t.2.2) =((D8 z g.length).take i).map λj=>(([.inr "cover",.inr (P3 g (2^j))],2^j ||| A.getD j 0):Hd)) ⟨⟨_,rfl⟩,ul.sm,Me,W.same ul,[],B1,λt Y=>absurd Y AY,rfl⟩ (λi σ G _ h o e=>by rw[U]at e;cases e;exact h.2.1 _ _ U (by simp[nDc])) ?_ ?_
  .rintro i σ G y N hy ⟨⟨v,rfl⟩,kG,Z,MG,C,eG,aG,mG⟩ hN;rw[AH]at hy;obtain⟨j,hj,rfl⟩:=BF.mp hy;have hjn:=(JM.mp (AM hj)).1;have lts:C.length<=100:=by
    have h1:=congrArg List.length mG;rw[AA,AA,AW]at h1;have h2:=M0 z g.length;have:=hM.len;lia
   refine Ef ?_;obtain⟨I,a,b,d,kb,J,_⟩:=MG.ex;refine A6 rfl ⟨x,I,A6 rfl ⟨J,rfl,A6 rfl ⟨x,c,g,A,B,L,2^j,j,rfl,MG,hjn,DM,λG3 sg3=>?_⟩⟩⟩;refine⟨by show 2<=sizeLine;decide,λh hh=>?_⟩;have uh:=Cs.new (o:=.tup [.str "cover",.str (P3 g (2^j))]) hh;have eh:(IH G3 h (.tup [.str "cover",.str (P3 g (2^j))])) h=some (.tup (([.inr "cover",.inr (P3 g (2^j))]:A1 IZ).map kV)):=B1;have k:=sg3.trans uh;generalize IH G3 h (.tup [.str "cover",.str (P3 g (2^j))])=G4 at k eh⊢;have p:=MG.same k;have MeG4:=Z.er (k.sm (D:=[c])) p R;have aG4:∀t∈C,JJ G4 t:=λt Y=>(aG t Y).same k;have eG4:=k _ _ eG;obtain⟨I,a,b,d,kb,J,_⟩:=p.ex;refine A6 rfl (A6 rfl ⟨x,I,A6 rfl ⟨J,rfl,A6 rfl ⟨x,c,g,A,B,L,2^j,rfl,p,λr4 G5 kg5 MG5 hr4=>?_⟩⟩⟩);have er4:r4=A.getD j 0:=BL λi=>BP.mpr ((hr4 i).trans Ft);subst er4;refine C0 rfl rfl ?_;dsimp only;rw[QC];refine⟨by show 2<=sizeLine;decide,λt Y=>?_⟩;have ut:=Cs.new (o:=.tup [.ref h,.int ((2^j ||| A.getD j 0:Nat):Int)]) Y;have st:JJ (IH G5 t (.tup [.ref h,.int ((2^j ||| A.getD j 0:Nat):Int)])) (t,h,[.inr "cover",.inr (P3 g (2^j))],2^j ||| A.getD j 0):=⟨B1,ut _ _ (KW kg5 eh (U7 p eh)),GX _ _,by show 2<=5;decide⟩;have r:Sm [c] G4 (IH G5 t (.tup [.ref h,.int ((2^j ||| A.getD j 0:Nat):Int)])):=kg5.trans ut.sm;have MG6:=MG5.same ut;generalize IH G5 t (.tup [.ref h,.int ((2^j ||| A.getD j 0:Nat):Int)])=G6 at ut st r MG6⊢;have S:=KW r eG4 R;have MeG6:=MeG4.er r MG6 R;have O:F1 T.ab (Sw.er (L2.IH G6 l (.lst ((C.map λt=>V.ref t.1) ++ [.ref t]))) l) x c g A B L:=by rw[Ae];exact MeG6
   refine⟨_,S,by rw[AA,sizeLine_eq];lia,hN _ _ ⟨⟨_,rfl⟩,λb o e n=>?_,O,O.same (P4 _ _),C ++ [(t,h,[.inr "cover",.inr (P3 g (2^j))],2^j ||| A.getD j 0)],by rw[B1,AK];rfl,λt' ht'=>?_,?_⟩⟩
   .rw[B5 (A9 e M)];exact(kG.trans (k.sm.trans r)) b o e n
   .rcases AR.mp ht' with z | z
    .exact((aG4 t' z).sm p r).upd S
    .rw[AD.mp z];exact st.upd S
   .rw[AK,mG,I7 hj,AK];rfl
  .rintro σ G ⟨_,kG,Z,MG,C,eG,aG,mG⟩;rw[AA,CK]at mG;exact q l C G (X.none (λy=>by rw[AD.mp y]at M;exact U8 W M) M) (X.trans kG) MG eG aG (mG.trans ec.symm)
theorem p8:II ["marks", "sets", "held"] ["marks", "sets", "held"] (B7 LG):=KO
def X1(C:A2)(F:RY):Sp:=λg H Q _=>∃(x c a:A2) (b:A1 Str) (A B e:A1 Nat) (L m:Nat),g = [.ref x,.ref a,.int (m:Int)]/\F1 C H x c b A B L/\H a=some (.lst (e.map O1))/\(∀M∈e,JW b.length M)/\e.length<=300/\JW b.length m /\
 ∀l (f:A1 RK) d,H l=none->Sm [c] H d->F1 C d x c b A B L->d l=some (.lst (f.map λt=>V.ref t.1))->(∀t∈f,JJ d t)->(f.map λt=>t.2.2)=F b A B e m->Q (.ref l) d
theorem zBb{ns:A1 Str}{A B:A1 Nat}{m:Nat}:(Ux ns A B m).length<=ns.length:=by
 unfold Ux O6;rw[AA];exact Nat.le_trans (CH ..) (by rw[CD];exact Nat.le_refl _)
theorem S6(T:Tx K mg):IK P w K mg base IY 5 T.al.f T.al.fd ["marks", "sets", "held"] (X1 T.ab Kx):=by
 have b:IK P w K mg base IY 4 T.aB.f T.aB.fd ["marks", "sets", "held"] (u5 T.ab):=(j0 T).mono (by decide);refine T.al.F.o1 p8 λS A r s H vs Q E u h=>?_
 .obtain⟨x,c,a,ns,A,B,Ms,L,m,rfl,v,O,z,C,U,q⟩:=h;have hu:=Y7 u;refine⟨_,(B4 (C1 (D3 Ly (C7 T.aM (j9 T) (Rm u) (A8 (pv 0) (A8 (pv 2) B2))) (C7 T.aB b (Rm u) (A8 (pv 0) (A8 (pv 1) (A8 (pv 2) B2))))))),?_⟩;refine A6 rfl (A6 rfl ⟨x,c,ns,A,B,L,m,rfl,v,U,λl i H1 hl G I W X R=>?_⟩);have J:=KW G O (K4 v O);refine A6 rfl (A6 rfl (A6 rfl ⟨x,c,a,ns,A,B,Ms,L,m,rfl,I,J,z,C,λY d Z hl2 e e2 M g=>?_⟩));have l1:i.length<=100:=by
   have N:=congrArg List.length R;rw[AA]at N;have:=v.len;have:=zBb (ns:=ns) (A:=A) (B:=B) (m:=m);lia
  have l2':d.length<=300:=by
   have N:=congrArg List.length g;rw[AA]at N;have:=Qg (n:=ns.length) (Ms:=Ms) (m:=m);lia
  refine⟨l,Y,_,_,rfl,rfl,e _ _ W,e2,by rw[AA,AA,sizeLine_eq];lia,λp j=>?_⟩;rw[<-AK];have k:=Cs.new (o:=.lst ((i++d).map λt=>V.ref t.1)) j;have k3:Sm [c] H (IH Z p (.lst ((i++d).map λt=>V.ref t.1))):=G.trans (e.trans k).sm;have M3:=I.same (e.trans k);refine q p (i++d) _ ((G.trans (e.sm (D:=[c]))).none (λy=>by rw[AD.mp y]at j;exact U8 (I.same e) j) j) k3 M3 B1 (λt ht=>?_) (by rw[AK,R,g];rfl);exact(AR.mp ht).elim (λh=>(X t h).same (e.trans k)) λh=>(M t h).same k
theorem p9:II ["marks", "sets", "held"] ["marks", "sets", "held"] (B7 LK):=KO
theorem l9(T:Tx K mg):IK P w K mg base IY 5 T.ar.f T.ar.fd ["marks", "sets", "held"] (X1 T.ab Pw):=by
 have b:IK P w K mg base IY 4 T.aB.f T.aB.fd ["marks", "sets", "held"] (u5 T.ab):=(j0 T).mono (by decide);refine T.ar.F.o1 p9 λM A j s H vs Q E k h=>?_
 .obtain⟨x,c,a,C,A,B,N,L,m,rfl,D,G,n,o,O,q⟩:=h;have hu:=Y7 k;refine⟨_,(B4 (C1 (zDl (C7 T.bd (Hv T) (Rm k) (A8 (pv 0) (A8 (pv 2) B2))) (Dq (C7 T.aB b (Rm k) (A8 (pv 0) (A8 (pv 1) (A8 (pv 2) B2)))))))),?_⟩;refine A6 rfl (A6 rfl ⟨x,c,C,A,B,L,m,rfl,D,O,λl R S U e g I V i=>?_⟩);refine⟨_,.inl ⟨_,IQ.of I,rfl⟩,?_⟩;cases R with
  | cons W p =>
   refine Q3 (λ_=>?_) λz=>absurd rfl z;refine q l (W::p) S U e g I V ?_;rw[i];exact(AN λz=>by rw[z]at i;cases i).symm
  | nil =>
   refine Q3 (λz=>absurd z (by simp)) λ_=>?_;have r:=KW e G (K4 D G);refine A6 rfl (A6 rfl (A6 rfl ⟨x,c,a,C,A,B,N,L,m,rfl,g,r,n,o,λX t Y d J Z u v=>?_⟩));refine q X t Y (e.none (λy=>by rw[AD.mp y]at d;exact U8 g d) d) (e.trans J.sm) (g.same J) Z u ?_;rw[v];exact(AO i.symm).symm
end
def zJc{n:Nat}{Ms:A1 Nat}(a:Ms.Nodup)(h:∀m∈Ms,JW n m):Ms.length<=2^n:=by
 classical
 have b:Ms.Perm ((List.range (2^n)).filter λm=>decide (m∈Ms)):=(ES a (DP.nodup GD)).mpr λm=>by
  rw[BH,BW,BX];exact⟨λz=>⟨(h m z).lt,z⟩,(·.2)⟩
 rw[b.length_eq];exact Nat.le_trans (CH _ _) (by rw[CD];exact Nat.le_refl _)
structure Kn(kvs:A1 (IZ×V))(n:Nat)(b:Nat->Prop)(W:Nat->A2->Prop):Prop where
 ks:∃ms:A1 Nat,(kvs.map λq=>q.1)=ms.map (λk:Nat=>(.inl (k:Int):IZ))/\ms.Nodup/\∀k∈ms,JW n k
 vs:∀(k:Nat) v,V3 kvs (.inl (k:Int))=some v->(v = .non/\b k)\/∃r,v = .ref r/\W k r
def Kn.imp{a:A1 (IZ×V)}{n:Nat}{b:Nat->Prop}{W c:Nat->A2->Prop}(h:Kn a n b W)(k:∀j r,W j r->c j r):Kn a n b c:=⟨h.ks,λj v e=>(h.vs j v e).imp id λ⟨r,e,w⟩=>⟨r,e,k _ _ w⟩⟩
def Kn.len{a:A1 (IZ×V)}{n:Nat}{b:Nat->Prop}{W:Nat->A2->Prop}(h:Kn a n b W):a.length<=2^n:=by
 obtain⟨d,e,c,lo⟩:=h.ks;have:=congrArg List.length e;rw[AA,AA]at this;rw[this];exact zJc c lo
def Kn.put{d:A1 (IZ×V)}{n k:Nat}{b g:Nat->Prop}{W:Nat->A2->Prop}{v:V}(h:Kn d n b W)(lo:JW n k)(w:(v = .non/\g k)\/∃r,v = .ref r/\W k r)(p:∀j,j≠k->b j->g j):Kn (Cy d (.inl (k:Int)) v) n g W:=by
 refine⟨?_,λj u f=>?_⟩
 .obtain⟨i,e,m,o⟩:=h.ks;unfold Cy;by_cases a:(d.any λs=>decide (s.1 =(.inl (k:Int):IZ)))=true
  .rw[AO a];refine⟨i,?_,m,o⟩;rw[BV,<-e];refine HA λq _=>?_;show(if q.1 =(.inl (k:Int):IZ)then(q.1,v)else q).1=q.1;split<;>rfl
  .rw[AN a];refine⟨i ++ [k],by rw[AK,e,AK];rfl,EB.mpr ⟨m,DE _ _,λx t y A z=>a ?_⟩,λj f=>?_⟩
   .rw[AD.mp A]at z;subst z;have:(.inl (x:Int):IZ)∈d.map λq=>q.1:=e▸AJ.mpr ⟨x,t,rfl⟩;obtain⟨q,B,C⟩:=AJ.mp this;exact GW.mpr ⟨q,B,AX C⟩
   .rcases AR.mp f with z | z
    .exact o j z
    .rw[AD.mp z];exact lo
 .rw[Ba]at f;by_cases c:(.inl (j:Int):IZ) = .inl (k:Int)
  .rw[AO c]at f;cases f;have:j=k:=by
    have:=Sum.inl.inj c;lia
   rw[this];exact w
  .rw[AN c]at f;exact(h.vs j u f).imp (λ⟨z,l⟩=>⟨z,p j (λz=>c (by rw[z])) l⟩) id
def Po{C:A2}{H H':Hp}{x c:A2}{ns:A1 Str}{A B:A1 Nat}{L:Nat}(h:F1 C H x c ns A B L)(k:∀b o,H b=some o->b≠c->(∀u,o≠ .tbl u)->H' b=some o)(r:Rd H' c (.dK (bK A ns.length))):F1 C H' x c ns A B L:=by
 obtain⟨⟨m,a,b,d,n,f,g,p,q,j,s,l,i⟩,t,v,w,D⟩:=h;have E:x≠c:=λz=>by
  rw[z]at f;rcases j with e | ⟨o,e⟩<;>rw[f]at e<;>cases e
 have F:a≠c:=λz=>by
  rw[z]at g;rcases j with e | ⟨o,e⟩<;>rw[g]at e<;>cases e
 exact⟨⟨m,a,b,d,n,k _ _ f E (λ_ y=>by cases y),k _ _ g F (λ_ y=>by cases y),p.imp (λe=>k _ _ e i (λ_ y=>by cases y)) (λ⟨o,e⟩=>⟨o,k _ _ e i (λ_ y=>by cases y)⟩),q,r,k _ _ s l (λ_ y=>by cases y),l,i⟩,t,v,w,D⟩
def Ew{C:A2}{H:Hp}{x c:A2}{ns:A1 Str}{A B:A1 Nat}{L:Nat}(h:F1 C H x c ns A B L):Rd H c (.dK (bK A ns.length)):=by
 obtain⟨⟨f,a,b,d,g,i,j,k,l,e,_⟩,_⟩:=h;exact e
def Nz{C:A2}{H G:Hp}{x c d p:A2}{ns:A1 Str}{A B:A1 Nat}{L:Nat}{ls:A1 (Pos×Str)}(h:F1 C (Sw.er H d) x c ns A B L)(i:K0 H p ls)(k:Sm [c,p,d] H G)(r:Rd G c (.dK (bK A ns.length))):F1 C (Sw.er G d) x c ns A B L:=by
 have a:d≠c:=λz=>U8 h (by unfold Sw.er;rw[AO z.symm]);refine Po h (λb o e j l=>?_) (by unfold Rd;rw[u6 a.symm];exact r);have f:b≠d:=λz=>by subst z;unfold Sw.er at e;rw[AO rfl]at e;cases e
 rw[u6 f];have g:=P4 H d b o e;refine k b o g λz=>?_;rcases AL.mp z with z | z
 .exact j z
 rcases AL.mp z with z | z
 .exact Bf i g l z
 .exact f (AD.mp z)
def Nf{G a:Hp}{c p d:A2}{M:A1 (IZ×V)}{ls:A1 (Pos×Str)}{f:A1 (IZ×V)}(r:Rd G c (.dK M))(t:K0 G p ls)(e:G d=some (.dK f))(k:Sm [c,p,d] G a)(b:A2)(xs:A1 V)(h:G b=some (.tup xs)):a b=some (.tup xs):=k _ _ h λz=>by
 rcases AL.mp z with z | z
 .rw[z]at h;rcases r with e | ⟨o,e⟩<;>rw[h]at e<;>cases e
 rcases AL.mp z with z | z
 .exact Bf t h (λ_ y=>by cases y) z
 .rw[AD.mp z,e]at h;cases h
def S4(ns:A1 Str)(A B:A1 Nat)(L:Nat)(F:Nat->A1 Hd)(H:Hp)(m:Nat)(r:A2):Prop:=KL ns A B L F H (w6 ns.length m) m r
def Md(n m:Nat):∃f,w6 n m=f+1:=⟨n-(D8 m n).length,by have:=M0 m n;unfold w6;lia⟩
section
variable{P:A7}{w:F8}{K:PySem.W.Frag}{mg:Str->A5 A3}{base:IJ}
theorem LZ:II ["marks", "splits_at", "sets", "held", "known", "head", "added", "trees"] ["marks", "splits_at", "sets", "held", "known"] (B7 PX):=KO
def Bx(C l f:A2)(F:RY)(k:Nat):Sp:=λo H Q _=>∃(x c a d:A2) (b:A1 Str) (A B g:A1 Nat) (L m:Nat) (i:A1 (IZ×V)) (n R:Nat->Prop),o = [.ref x,.ref f,.ref a,.int (m:Int),.ref d]/\F1 C (Sw.er H d) x c b A B L/\JW b.length m/\b.length<=12/\K0 H l B9/\H a=some (.lst (g.map O1))/\(∀M∈g,JW b.length M)/\g.length<=300/\H d=some (.dK i)/\(∀j,n j->j<m)/\Kn i b.length n (S4 b A B L (F b A B g) H)/\b.length<k +(D8 m b.length).length/\R m/\UH b.length A B L (F b A B g) R /\
 ∀(r:A2) (e:A1 (IZ×V)) h,Sm [c,l,d] H h->Rd h c (.dK (bK A b.length))->K0 h l B9->h d=some (.dK e)->Kn e b.length n (S4 b A B L (F b A B g) h)->S4 b A B L (F b A B g) h m r->Q (.ref r) h
set_option maxHeartbeats 4000000 in
theorem Nb(T:Tx K mg)(hB:base.BuiltinsAt mg T.aa){n k:Nat}{f:A2}{fd:IS}{S:Sp}{F:RY}(h1:7<=n)(X:IK P w K mg base IY n f fd ["marks", "sets", "held"] (X1 T.ab F))(J:PySem.W.keepIn K (.ref f)=true)(M:Binds K fd ["marks", "sets", "held"] [])
  (G_tree_at:IK P w K mg base IY n T.av.f T.av.fd ["marks", "splits_at", "sets", "held", "known"] S) (hS:∀k',k=k'+1->S=Bx T.ab T.aa f F k') :
  IK P w K mg base IY (n+1) T.av.f T.av.fd ["marks", "splits_at", "sets", "held", "known"] (Bx T.ab T.aa f F k):=by
 have G_clash_at:IK P w K mg base IY n T.aK.f T.aK.fd ["marks", "held"] (Fo T.ab):=(Bh T).mono (by lia);have O:IK P w K mg base IY n T.aA.f T.aA.fd ["marks", "held", "splits"] (Ke T.ab T.aa):=(i8 T hB).mono h1;have C:IK P w K mg base IY n T.ad.f T.ad.fd ["self", "some"] (u8 T.ab):=(E4 T).mono (by lia);refine T.av.F.o1 LZ λcdv A outer s H vs Q E hr h=>?_
 .obtain⟨x,c,a,d,g,A,B,Ms,L,m,kvs,bp,R,rfl,hR,lo,l12,hT,ha,hMs,lenM,hd,hbp,hK,hk,hRm,gr,q⟩:=h;have hu:=Y7 hr;refine⟨_,(B3 (J7 (zEu (Sa hu (pv 3) (pv 4))) (B4 (Ri hu (pv 4) (pv 3) (C7 T.aK G_clash_at (hr.mono (Nat.le_refl _)) (A8 (pv 0) (A8 (pv 3) B2))) rfl)) C3)
   (B3 (J7 (C8 Xx (O0 hu (pv 4) (pv 3) (λ_ _=>rfl)) Ad (E5 _)) (B3 (l4 (C7 T.aA O (hr.mono (Nat.le_refl _)) (A8 (pv 0) (A8 (pv 3) (A8 (Ei (i:=1) X (hr.mono (Nat.le_refl _)) J M E7 (A8 (pv 0) (A8 (pv 2) (A8 (pv 3) B2)))) B2)))) (RB K (n:=2) (C9 (D6 (i:=5) LZ.nd rfl (.inl rfl)) (C9 (D6 (i:=6) LZ.nd rfl (.inl rfl)) O7))))
   (B3 (Vm (i:=7) (N':=["bit", "marks", "splits_at", "sets", "known", "held"]) (cap:=[none,some 0,some 1,some 2,some 4,some 3]) (cl:=[("splits_at",_),("sets",_),("marks",_),("known",_),("held",_)]) LZ.nd rfl (.inl rfl) (Q1 ⟨⟨rfl,rfl,rfl,rfl⟩,⟨⟨rfl,rfl,rfl,rfl⟩,⟨⟨rfl,rfl,rfl,rfl⟩,⟨⟨rfl,rfl,rfl,rfl⟩,⟨⟨rfl,rfl,rfl,rfl⟩,trivial⟩⟩⟩⟩⟩ ⟨rfl,⟨rfl,⟨rfl,⟨rfl,⟨rfl,trivial⟩⟩⟩⟩⟩) rfl (OU K (C4 (pv 0) T.ac T.ad.m C (hr.mono (Nat.le_refl _)) T.ad.b .nil E7 (A8 (pv 6) B2))) (λ_ _ _ _=>by exact⟨(NR 0),J9,(C7 T.av G_tree_at (hr.mono (Nat.le_refl _)) (@A8 _ _ _ _ _ (pv 1) (@A8 _ _ _ _ _ (pv 2) (@A8 _ _ _ _ _ (pv 3) (@A8 _ _ _ _ _ (D3 V8 (pv 5) (pv 0)) (@A8 _ _ _ _ _ (pv 4) B2 (by rfl)) (by rfl)) (by rfl)) (by rfl)) (by rfl)))⟩))
   (B4 (Ri hu (pv 4) (pv 3) (D3 (Zu K) (pv 5) (E8 (A8 (Dd (Nd K) T.a8 X8 (A8 (pv 7) B2)) B2))) rfl)))) C3)
   (B4 (C1 (O0 hu (pv 4) (pv 3) (λ_ _=>rfl)))))),?_⟩
  obtain⟨k',rfl⟩:∃k',k=k'+1:=⟨k-1,by have:=M0 m g.length;lia⟩;have eS:=hS k' rfl;subst eS;have p12:2^g.length<=2^12:=Nat.pow_le_pow_right (by decide) l12;have hM:=hR.same (P4 H d);have ndc:d≠c:=λz=>U8 hR (by unfold Sw.er;rw[AO z.symm]);have up:∀{G Y:Hp},Sm [c] G Y->Sm [c,T.aa,d] G Y:=λk b o e n=>k b o e λz=>n (by rw[AD.mp z];exact .head _);have upd_:∀{G:Hp} {o:HO},Sm [c,T.aa,d] G (IH G d o):=fun{G o} b u e n=>by
   rw[B5 λz=>n (by rw[z];exact .tail _ (.tail _ (.head _)))];exact e
  have tabU:∀{G:Hp} {o:HO} {U:A1 (IZ×V)},G d=some (.dK U)->K0 G T.aa B9->K0 (IH G d o) T.aa B9:=fun{G o U} e h=>by
   obtain⟨ps,e1,t,h2⟩:=h;exact⟨ps,(B5 (S0 e1 e (by intro y;cases y))).trans e1,t,λl hl=>(h2 l hl).imp id λ⟨cc,e,hc⟩=>⟨cc,e,(B5 (S0 hc (by assumption) (by intro y;cases y))).trans hc⟩⟩
  have rdU:∀{G:Hp} {o:HO},Rd G c (.dK (bK A g.length))->Rd (IH G d o) c (.dK (bK A g.length)):=fun{G o} r=>by unfold Rd;rw[B5 ndc.symm];exact r
  refine B6 λN1 hN1=>?_;have key:∀(G:Hp) (U:A1 (IZ×V)) (v:V),Sm [c,T.aa,d] H G->Rd G c (.dK (bK A g.length))->K0 G T.aa B9->G d=some (.dK U)->Kn U g.length (λj=>bp j\/j=m) (S4 g A B L (F g A B Ms) G)->V3 U (.inl (m:Int))=some v->((v = .non/\¬Z7 B m)\/∃r,v = .ref r/\S4 g A B L (F g A B Ms) G m r)->N1 [some (.ref x),some (.ref f),some (.ref a),some (.int (m:Int)),some (.ref d),none,none,none] G:=by
   intro G U v kG rG TG ed KG ev hv;refine hN1 _ _ (B6 λN2 hN2=>?_);have get:∀{G:Hp} {U:A1 (IZ×V)} {v:V},G d=some (.dK U)->V3 U (.inl (m:Int))=some v->OY G d (.int (m:Int)) (some v):=fun{G U v} e h=>.inl ⟨U,.inl (m:Int),.inl e,rfl,h.symm⟩;have fin:∀(G:Hp) (U:A1 (IZ×V)) (r:A2) (v5 v6 v7:A5 V),Sm [c,T.aa,d] H G->Rd G c (.dK (bK A g.length))->K0 G T.aa B9->G d=some (.dK U)->Kn U g.length bp (S4 g A B L (F g A B Ms) G)->V3 U (.inl (m:Int))=some (.ref r)->S4 g A B L (F g A B Ms) G m r->N2 [some (.ref x),some (.ref f),some (.ref a),some (.int (m:Int)),some (.ref d),v5,v6,v7] G:=λG U r v5 v6 v7 kG rG TG ed KG ev tr=>hN2 _ _ (A6 rfl (A6 rfl ⟨d,_,rfl,get ed ev,q r U G kG rG TG ed KG tr⟩));refine A6 rfl (A6 rfl ⟨d,v,rfl,get ed ev,?_⟩);rcases hv with⟨rfl,nc⟩ | ⟨r,rfl,tr⟩;rotate_left
   .refine⟨rfl,_,rfl,Q3 (λz=>absurd z (by simp)) λ_=>fin G U r _ _ _ kG rG TG ed ⟨KG.ks,λj u hj=>?_⟩ ev tr⟩;rcases KG.vs j u hj with⟨e,l | rfl⟩ | h
    .exact .inl ⟨e,l⟩
    .rw[ev,e]at hj;cases hj
    .exact .inr h
   refine⟨rfl,_,rfl,Q3 (λ_=>?_) λz=>absurd (by simp) z⟩;have MeG:=Nz hR hT kG rG;have MG:=MeG.same (P4 G d);have ne3:∀{b:A2} {I:A1 V},H b=some (.lst I)->b∉[c,T.aa,d]:=fun{b I} e z=>by
    rcases AL.mp z with z | z
    .exact K4 hM e z
    rcases AL.mp z with z | z
    .exact Bf hT e (λ_ y=>by cases y) z
    .rw[AD.mp z,hd]at e;cases e
   have haG:=kG _ _ ha (ne3 ha);obtain⟨fne,gk⟩:=gr m hRm lo nc;refine B6 λN3 hN3=>?_;refine A6 rfl (A6 rfl ⟨rfl,A6 rfl (A6 rfl (A6 rfl ⟨x,c,a,g,A,B,Ms,L,m,rfl,MG,haG,hMs,lenM,lo,λl ts H2 hl k2 M2 el aS mS=>?_⟩))⟩);have T2:=o7 TG MG k2;have hne:ts≠[]:=λz=>fne (by rw[<-mS,z];rfl);refine⟨x,c,l,g,A,B,L,m,ts,rfl,M2,el,hne,aS,T2,λH3 k3 M3 T3 S3=>?_⟩;have hb:=j7 (A:=A) (B:=B) (n:=g.length) (L:=L) (m:=m) (ads:=ts.map λt=>t.2.2.2) (λz=>hne (C_.mp z));rw[AA]at hb;have hb2:=AC hb;generalize hbi:Y8 A B g.length L m (ts.map λt=>t.2.2.2)=bi at hb hb2⊢;generalize hti:ts[bi]=t at hb2;have ej:Y6 A B g.length L (F g A B Ms) m=t.2.2:=by
    unfold Y6;rw[<-mS,BV];show(ts.map λt=>t.2.2).getD (Y8 A B g.length L m (ts.map λt=>t.2.2.2)) _=_;rw[hbi,AV,AH,hb2];rfl
   have ev2:(ts.map λt=>V.ref t.1).getD bi .non = .ref t.1:=by rw[AV,AH,hb2];rfl
   rw[ev2];obtain⟨et,eh,lne,lh⟩:=S3 t (AM hb2);refine⟨t.1,_,rfl,JH.of et,rfl,_,_,rfl,_,_,rfl,rfl,?_⟩;refine hN3 _ _ (B6 λN4 hN4=>?_);obtain⟨dx,a',b,d',kb,e1,_⟩:=M3.ex;refine A6 rfl ⟨x,dx,A6 rfl ⟨e1,rfl,A6 rfl ⟨x,c,g,A,B,L,t.2.2.2,rfl,M3,λD H4 hD k4 M4 eD=>?_⟩⟩⟩;have T4:=o7 T3 M3 k4;have up2:∀{G Y:Hp},Sm [c,T.aa] G Y->Sm [c,T.aa,d] G Y:=λk b o e n=>k b o e λz=>n (by
    rcases AL.mp z with z | z
    .rw[z];exact .head _
    .rw[AD.mp z];exact .tail _ (.head _))
   have kG4:Sm [c,T.aa,d] G H4:=((up k2).trans (up2 k3)).trans (up k4);have ed4:H4 d=some (.dK U):=by
    have nd2:d∉[c]:=λz=>ndc (AD.mp z);have ndp:d≠T.aa:=Bf TG ed λ_ y=>by cases y
    exact k4 _ _ (k3 _ _ (k2 _ _ ed nd2) (by simp[ndc,ndp])) nd2
   have rd4:=Ew M4;have nDc:=K4 M4 eD;have nDp:=Bf T4 eD λ_ y=>by cases y
   have nDd:D≠d:=S0 eD ed4 (by intro y;cases y);have eh4:=KW k4 eh (U7 M3 eh);have nhc:=U7 M4 eh4;have nhp:=Bf T4 eh4 λ_ y=>by cases y
   have nhd:t.2.1≠d:=S0 eh4 ed4 (by intro y;cases y);refine⟨D,rfl,⟨_,IQ.of eD⟩,λZ hZ=>?_⟩;have nZc:c≠Z:=λz=>by
    rcases rd4 with e | ⟨o,e⟩<;>rw[z,hZ]at e<;>cases e
   have nZd:d≠Z:=A9 ed4 hZ;have kH4:Sm [c,T.aa,d] H H4:=kG.trans kG4;have sZ:=Cs.new (o:=.lst []) hZ;have lb:(D8 t.2.2.2 g.length).length<=12:=Nat.le_trans (M0 ..) l12;refine V1 (OW (IQ.of eD)) (λi σ Y=>(∃v0,σ = [v0,some (.ref x),some (.ref f),some (.ref a),some (.ref d),some (.int (m:Int))])/\Sm [c,T.aa,d] H4 Y/\Rd Y c (.dK (bK A g.length))/\K0 Y T.aa B9/\(∃rs:A1 A2,rs.length=i/\Y Z=some (.lst (rs.map V.ref))/\∀(i' j:Nat) r,(D8 t.2.2.2 g.length)[i']?=some j->rs[i']?=some r->S4 g A B L (F g A B Ms) Y (m ||| 2^j) r)/\∃kv',Y d=some (.dK kv')/\Kn kv' g.length (λj=>bp j\/j=m) (S4 g A B L (F g A B Ms) Y)) ⟨⟨_,rfl⟩,sZ.sm,rd4.imp (sZ _ _) (λ⟨o,e⟩=>⟨o,sZ _ _ e⟩),o7 T4 M4 (sZ.sm (D:=[c])),⟨[],rfl,B1,λi' j r _ h=>by cases h⟩,U,sZ _ _ ed4,KG.imp λj r h=>KL.keep (λb I e=>sZ _ _ (Nf rG TG ed kG4 b I e)) h⟩ (λi σ Y _ h o e=>by rw[eD]at e;cases e;exact h.2.1 _ _ eD (by simp[nDc,nDp,nDd])) ?_ ?_
   .rintro i σ Y y N hx ⟨⟨v0,rfl⟩,kG',rG',TG',⟨rs,lrs,eZ,tZ⟩,kv',ed',K'⟩ hN;have li:=(AF.mp hx).1;rw[AA]at li;rw[AH]at hx;obtain⟨j,hj,rfl⟩:=BF.mp hx;have mj:=AM hj;obtain⟨hjn,hjb⟩:=JM.mp mj;obtain⟨hjm,hRj⟩:=gk j hjn (by rw[ej];exact hjb);have gt:m<m ||| 2^j:=DV Nat.left_le_or λz=>hjm (by
     have:=(P9 m j j).mpr (.inr rfl);rw[<-z]at this;exact this)
    refine Ef ?_;refine A6 rfl (A6 rfl (A6 rfl (A6 rfl (A6 rfl (C0 rfl rfl ?_)))));dsimp only;rw[QC];have kHG':=kH4.trans kG';refine A6 rfl ⟨x,c,a,d,g,A,B,Ms,L,m ||| 2^j,kv',_,R,rfl,Nz hR hT kHG' rG',lo.or hjn,l12,TG',kHG' _ _ ha (ne3 ha),hMs,lenM,ed',λi hi=>?_,K',by rw[Gs hjm,AO hjn];lia,hRj,gr,λr kv2 G2 k2' r2 T2' ed2 K2 tr2=>?_⟩
    .rcases hi with h | rfl
     .exact Nat.lt_trans (hbp i h) gt
     .exact gt
    have nZ3:Z∉[c,T.aa,d]:=λz=>by
     rcases AL.mp z with z | z
     .exact nZc z.symm
     rcases AL.mp z with z | z
     .obtain⟨ps,e,_⟩:=T4;rw[<-z,hZ]at e;cases e
     .exact nZd (AD.mp z).symm
    have eZ2:=k2' _ _ eZ nZ3;have kZ:∀b I,G2 b=some (.tup I)->(L2.IH G2 Z (.lst (rs.map V.ref ++ [V.ref r]))) b=some (.tup I):=λb I e=>(B5 (S0 e eZ2 (by intro y;cases y))).trans e;refine⟨_,eZ2,by rw[AA,sizeLine_eq];lia,hN _ _ ⟨⟨_,rfl⟩,λb o e n=>?_,?_,?_,⟨rs ++ [r],by rw[AU,lrs];rfl,by rw[B1,AK];rfl,λi' j' r' h1 h2=>?_⟩,kv2,by rw[B5 nZd];exact ed2,K2.imp λj r h=>KL.keep kZ h⟩⟩
    .rw[B5 (A9 e hZ)];exact(kG'.trans k2') b o e n
    .unfold Rd;rw[B5 nZc];exact r2
    .obtain⟨ps,e1,tr,h2⟩:=T2';exact⟨ps,(B5 (S0 e1 eZ2 (by intro y;cases y))).trans e1,tr,λl hl=>(h2 l hl).imp id λ⟨cc,e,hc⟩=>⟨cc,e,(B5 (S0 hc eZ2 (by intro y;cases y))).trans hc⟩⟩
    .rcases Nat.lt_or_ge i' rs.length with c1 | c1
     .rw[DA c1]at h2;exact KL.keep (λb I e=>kZ b I (Nf rG' TG' ed' k2' b I e)) (tZ i' j' r' h1 h2)
     .rw[CY c1]at h2;have e0:i' - rs.length=0:=by
       have:=(AF.mp h2).1;simp at this;lia
      rw[e0]at h2;cases h2;have ei:i'=i:=by lia
      rw[ei,hj]at h1;cases h1;exact KL.keep kZ tr2
   .rintro σ Y ⟨_,kG',rG',TG',⟨rs,lrs,eZ,tZ⟩,kv',ed',K'⟩;rw[AA]at lrs;refine hN4 _ _ ?_;have eh5:=kG' _ _ eh4 (by simp[nhc,nhp,nhd]);refine A6 rfl (A6 rfl ⟨Z,_,rfl,.inl ⟨IQ.of eZ,λl2 hl2=>?_⟩⟩);refine⟨by show 1<=sizeLine;decide,λp hp=>?_⟩;have u1:=Cs.new (o:=.tup (rs.map V.ref)) hl2;have u2:=Cs.new (o:=.tup [.ref l2]) hp;have s12:=u1.trans u2;have eh6:=s12 _ _ eh5;have el2:=u2 _ _ (show(IH Y l2 (.tup (rs.map V.ref))) l2=some (.tup (rs.map V.ref))from B1);have last:∀(G2:Hp) (r:A2),Cs (IH (IH Y l2 (.tup (rs.map V.ref))) p (.tup [.ref l2])) G2->G2 r=some (.tup (t.2.2.1.map kV ++ [.ref l2]))->∃H5,zGa G2 d (.int (m:Int)) (.ref r) H5/\∀v5 v6 v7,N2 [some (.ref x),some (.ref f),some (.ref a),some (.int (m:Int)),some (.ref d),v5,v6,v7] H5:=λG2 r sG2 er=>by
     have sG:=s12.trans sG2;have ed2:=sG _ _ ed';have kd:∀{o:HO} b I,G2 b=some (.tup I)->(L2.IH G2 d o) b=some (.tup I):=fun{o} b I e=>(B5 (S0 e ed2 (by intro y;cases y))).trans e;have trm:∀{o:HO},S4 g A B L (F g A B Ms) (L2.IH G2 d o) m r:=fun{o}=>by
      obtain⟨f,ef⟩:=Md g.length m;unfold S4;rw[ef];refine .inr ⟨nc,l2,rs,kd _ _ (by rw[er,ej]),kd _ _ (sG2 _ _ el2),by rw[lrs,ej],λi j r' h1 h2=>?_⟩;have h1':=JM.mp (AM h1);have hf:=Vu h1'.1 (gk j h1'.1 h1'.2).1;have h3:=tZ i j r' (by rw[<-ej];exact h1) h2;unfold S4 at h3;rw[show w6 g.length (m ||| 2^j)=f by lia]at h3;exact h3.keep λb I e=>kd b I (sG _ _ e)
     refine⟨_,.inl ⟨kv',.inl (m:Int),ed2,rfl,by have:=K'.len;rw[sizeLine_eq];lia,rfl⟩,λv5 v6 v7=>?_⟩;refine fin _ _ r v5 v6 v7 ((kH4.trans kG').trans (sG.sm.trans upd_)) (rdU (rG'.imp (sG _ _) λ⟨o,e⟩=>⟨o,sG _ _ e⟩)) (tabU ed2 ?_) B1 ((K'.imp λj r h=>KL.keep (λb I e=>kd b I (sG _ _ e)) h).put lo (.inr ⟨r,rfl,trm⟩) λj nj hj=>hj.resolve_right nj) (by rw[Ba,AO rfl]) trm;obtain⟨ps,e1,tr,h2⟩:=TG';exact⟨ps,sG _ _ e1,tr,λl hl=>(h2 l hl).imp id λ⟨cc,e,hc⟩=>⟨cc,e,sG _ _ hc⟩⟩
    refine⟨t.2.1,p,_,_,rfl,rfl,JH.of eh6,JH.of B1,GX _ _,by rw[AA,sizeLine_eq];show t.2.2.1.length+1<=_;lia,λz=>absurd (C_.mp z) lne,λ_ z hz=>?_⟩
    .obtain⟨H5,hp5,hn⟩:=last _ z (Cs.new hz) B1;exact A6 rfl (A6 rfl ⟨d,H5,rfl,hp5,hn _ _ _⟩)
  have kn1:Kn kvs g.length (λj=>bp j\/j=m) (S4 g A B L (F g A B Ms) H):=⟨hK.ks,λj u hj=>(hK.vs j u hj).imp (λh=>⟨h.1,.inl h.2⟩) id⟩;refine A6 rfl (A6 rfl ⟨d,_,rfl,.inl ⟨kvs,.inl (m:Int),.inl hd,rfl,rfl⟩,?_⟩);refine⟨_,rfl,Q3 (λz=>?_) λz=>?_⟩
  .have putd:∀(H1:Hp) (v:V),Sm [c] H H1->F1 T.ab H1 x c g A B L->((v = .non/\¬Z7 B m)\/∃r,v = .ref r/\S4 g A B L (F g A B Ms) H1 m r)->∃H5,zGa H1 d (.int (m:Int)) v H5/\N1 [some (.ref x),some (.ref f),some (.ref a),some (.int (m:Int)),some (.ref d),none,none,none] H5:=λH1 v k1 M1 hv=>by
    have ed1:=KW k1 hd ndc;have kd:∀{o:HO} b I,H1 b=some (.tup I)->(L2.IH H1 d o) b=some (.tup I):=fun{o} b I e=>(B5 (S0 e ed1 (by intro y;cases y))).trans e;have hv2:∀{o:HO},(v = .non/\¬Z7 B m)\/∃r,v = .ref r/\S4 g A B L (F g A B Ms) (L2.IH H1 d o) m r:=fun{o}=>hv.imp id λ⟨r,e,h⟩=>⟨r,e,KL.keep kd h⟩;refine⟨_,.inl ⟨kvs,.inl (m:Int),ed1,rfl,by have:=hK.len;rw[sizeLine_eq];lia,rfl⟩,?_⟩;exact key _ _ v ((up k1).trans upd_) (rdU (Ew M1)) (tabU ed1 (o7 hT hM k1)) B1 ((kn1.imp λj r h=>KL.keep (λb I e=>kd b I (KW k1 e (U7 hM e))) h).put lo (hv2.imp (λh=>⟨h.1,.inr rfl⟩) id) λj _ h=>h) (by rw[Ba,AO rfl]) hv2
   refine A6 rfl (A6 rfl ⟨x,c,g,A,B,L,m,rfl,hM,lo,λH1 k1 M1=>⟨λnc=>?_,λa' cl _ et=>?_⟩⟩)
   .obtain⟨H5,hp,hn⟩:=putd H1 .non k1 M1 (.inl ⟨rfl,λ⟨j,h1,h2⟩=>nc j h1 h2⟩);exact A6 rfl (A6 rfl ⟨d,H5,rfl,hp,hn⟩)
   .obtain⟨H5,hp,hn⟩:=putd H1 (.ref a') k1 M1 (.inr ⟨a',rfl,by obtain⟨f,ef⟩:=Md g.length m;unfold S4;rw[ef];exact .inl ⟨cl,et⟩⟩);exact A6 rfl (A6 rfl ⟨d,H5,rfl,hp,hn⟩)
  .cases hv:V3 kvs (.inl (m:Int))with
   | none =>
    rw[hv]at z;exact absurd rfl z
   | some v =>
    refine key H kvs v (Sm.refl _ _) (Ew hM) hT hd kn1 hv ?_;rcases hK.vs m v hv with⟨_,l⟩ | h
    .exact absurd (hbp m l) (EY _)
    .exact .inr h
theorem u7(T:Tx K mg)(a:base.BuiltinsAt mg T.aa){f:A2}{d:IS}{F:RY}(G:IK P w K mg base IY 7 f d ["marks", "sets", "held"] (X1 T.ab F))(b:PySem.W.keepIn K (.ref f)=true)(c:Binds K d ["marks", "sets", "held"] []):∀k,IK P w K mg base IY (8+k) T.av.f T.av.fd ["marks", "splits_at", "sets", "held", "known"] (Bx T.ab T.aa f F k)
 | 0=>Nb (n:=7) T a (by decide) G b c (S:=λ_ _ _ _=>False) ⟨λ_ _ _ _ h=>h.elim,λ_ _ _ _ _ _ _ _ _ _ _ _ _ h=>h.elim⟩ λg e=>by lia
 | k+1=>Nb (n:=8+k) T a (by lia) (G.mono (by lia)) b c (u7 T a G b c k) λg e=>by cases e;rfl
end
def MB.eq{ns:A1 Str}{ks:A1 (Str×Str)}{A a:A1 Nat}(h:MB ns ks A)(h':MB ns ks a):A=a:=F_ λi=>by
 have e:A.getD i 0=a.getD i 0:=BL λj=>BP.mpr ((h.bit i j).trans (h'.bit i j).symm);rw[AV,AV]at e;have b:=h.len;have d:=h'.len;by_cases c:i<ns.length
 .rw[AC (by lia),AC (by lia)]at e⊢;exact congrArg some e
 .rw[DR (by lia),DR (by lia)]
section
variable{P:A7}{w:F8}{K:PySem.W.Frag}{mg:Str->A5 A3}{base:IJ}
theorem JY:II ["web", "some", "marks", "held", "found"] ["web", "some"] (B7 MD):=KO
def Ur(K:PySem.W.Frag)(h d:A2):Sp:=λi H Q _=>∃(g a:A2) (b:A1 Str) (f:A1 JS) (e:A1 Str) (A B:A1 Nat) (L m:Nat),i = [.ref g,.ref a]/\JP h H g b f/\b.length<=12/\RX K H a (e.map V.str)/\(∀y∈e,y∈b)/\e.Nodup/\e.length<=100/\K0 H d B9 /\
 MB b ((f.map λq=>q.2).map λk=>(k.2,k.1)) A/\MB b (f.map λq=>q.2) B/\(∀j,L.testBit j=true↔(A.getD j 0).testBit j=true)/\JW b.length m/\(∀(j:Nat) y,b[j]?=some y->(m.testBit j=true↔y∈e)) /\
  (∀r,V9 A B b.length L 13 m=some r->∀t l c,Sm [d] H c->K0 c d B9->H t=none->H l=none->c t=some (.tup [.str "told",.ref l])->c l=some (.lst ((JG b r).map V.str))->Q (.ref t) c) /\
  (V9 A B b.length L 13 m=none->∀t l c,Sm [d] H c->K0 c d B9->H t=none->c t=some (.tup [.str "none",.ref l])->S4 b A B L (Kx b A B []) c m l->Q (.ref t) c)
set_option maxHeartbeats 4000000 in
theorem Ao(T:Tx K mg)(hB:base.BuiltinsAt mg T.aa):IK P w K mg base IY 22 T.aF.f T.aF.fd ["web", "some"] (Ur K T.ag T.aa):=by
 have g:IK P w K mg base IY 21 T.ao.f T.ao.fd ["marks", "held"] (Bc T.ab T.aa 13):=V7 T hB 13;have q:IK P w K mg base IY 21 T.av.f T.av.fd ["marks", "splits_at", "sets", "held", "known"] (Bx T.ab T.aa T.al.f Kx 13):=u7 T hB ((S6 T).mono (by decide)) T.al.F.kp T.al.b 13;refine T.aF.F.o1 JY λcdv A Z s H vs Q E M h=>?_
 .obtain⟨wb,a,D,qs,ss,A0,B0,L0,m0,rfl,hW,l12,ha,sub,nd,len,hT,mA0,mB0,hL0,lo0,hm0,q1,q2⟩:=h;refine⟨_,(B3 (C2 (i:=2) JY.nd rfl (.inl rfl) (Z9 T.bo (Q7 T) (Rm M) rfl T.bn T.aT .nil E7 (A8 (pv 0) B2)))
   (B3 (C2 (i:=3) JY.nd rfl (.inl rfl) (C4 (pv 2) T.ac T.ay.m (W1 T) (Rm M) T.ay.b .nil E7 (A8 (pv 1) B2)))
   (B3 (C2 (i:=4) JY.nd rfl (.inl rfl) (C7 T.ao g (Rm M) (A8 (pv 2) (A8 (pv 3) B2))))
   (B3 (J7 (C8 Jz (pv 4) Ad (E5 _)) (B4 (C1 (E8 (A8 R9 (A8 (C4 (pv 2) T.ac T.ai.m (M8 T) (Rm M) T.ai.b .nil E7 (A8 (pv 4) B2)) B2))))) C3)
   (B4 (C1 (E8 (A8 R9 (A8 (C7 T.av q (Rm M) (@A8 _ _ _ _ _ (pv 2) (@A8 _ _ _ _ _ (Rt T.al.m) (@A8 _ _ _ _ _ (O8 B2) (@A8 _ _ _ _ _ (pv 3) (@A8 _ _ _ _ _ Nq B2 (by rfl)) (by rfl)) (by rfl)) (by rfl)) (by rfl))) B2))))))))),?_⟩
  have p:∀{G G':Hp},Cs G G'->K0 G T.aa B9->K0 G' T.aa B9:=fun{G G'} k ⟨ps,e,t,h⟩=>⟨ps,k _ _ e,t,λl hl=>(h l hl).imp id λ⟨c,e,hc⟩=>⟨c,e,k _ _ hc⟩⟩;refine B6 λN1 hN1=>?_;refine A6 rfl ?_;intro x dx nx ndx nex;have s0:Cs H (IH (IH H dx (.own x)) x (.ins T.ab dx [])):=λb o e=>by
   rw[B5 (A9 e nx),B5 (A9 e ndx)];exact e
  refine⟨x,dx,wb,D,qs,rfl,B1,hW.same s0,λc A B L H1 hc k1 V mA mB=>⟨rfl,?_⟩⟩;have s1:Cs H H1:=λb o e=>k1 b o (s0 b o e) (by simpa using A9 e nx);have N:H c=none:=s0.free hc;refine hN1 _ _ (B6 λN2 hN2=>?_);obtain⟨dx1,a1,b1,d1,kb1,e1,_⟩:=V.ex;refine A6 rfl ⟨x,dx1,A6 rfl ⟨e1,rfl,A6 rfl ⟨x,c,a,D,A,B,L,ss,rfl,V,(s1.at a).seq ha,sub,nd,len,λm H2 s2 lo hm=>?_⟩⟩⟩;have M2:=V.same s2;have T2:=p (s1.trans s2) hT;refine hN2 _ _ (B6 λN3 hN3=>?_);refine A6 rfl (A6 rfl ⟨x,c,D,A,B,L,m,rfl,M2,lo,T2,by lia,λH3 k3 M3 W=>?_⟩);have eA:A=A0:=mA.eq mA0;have eB:B=B0:=mB.eq mB0;subst eA eB;have eL:L=L0:=(BL λj=>BP.mpr ((hL0 j).trans (V.loops j).symm):L0=L).symm;have em:m=m0:=Eq.symm <| BL λj=>by
   by_cases X:j<D.length
   .exact BP.mpr ((hm0 j _ (AC X)).trans (hm j _ (AC X)).symm)
   .rw[BQ.mpr λz=>X (lo0 j z),BQ.mpr λz=>X (lo j z)]
  subst eL em;have C:Sm [T.aa] H H3:=λb o e n=>k3 b o (s2 _ _ (s1 _ _ e)) λz=>by
   rcases AL.mp z with z | z
   .rw[z,N]at e;cases e
   .exact n z
  have u:∀{G:Hp} {z:A2},Sm [T.aa] H G->K0 G T.aa B9->G z=none->H z=none:=fun{G z} k t O=>k.none (λy=>by
   obtain⟨ps,e,_⟩:=t;rw[AD.mp y,e]at O;cases O) O
  refine hN3 _ _ (B6 λN4 hN4=>?_);cases ho:V9 A B D.length L 13 m with
  | some r =>
   refine A6 rfl ⟨rfl,_,rfl,Q3 (λ_=>?_) λz=>absurd (by simp[UF]) z⟩;obtain⟨dx3,a3,b3,d3,kb3,e3,_⟩:=M3.ex;refine A6 rfl ⟨x,dx3,A6 rfl ⟨e3,rfl,A6 rfl ⟨x,c,D,A,B,L,r,rfl,M3,λl H4 hl s4 el=>?_⟩⟩⟩;refine⟨by show 2<=sizeLine;decide,λt R=>?_⟩;have I:=Cs.new (o:=.tup [.str "told",.ref l]) R;have s5:=s4.trans I;have T4:=p s4 W;exact q1 r ho t l _ (C.trans s5.sm) (p I T4) (u (C.trans s4.sm) T4 R) (u C W hl) B1 (I _ _ el)
  | none =>
   refine A6 rfl ⟨rfl,_,rfl,Q3 (λz=>absurd z (by simp[UF])) λ_=>hN4 _ _ ?_⟩;refine A6 rfl ⟨CB _,λz O=>A6 rfl λd Y=>?_⟩;have J:=Cs.new (o:=.lst []) O;have ez:(IH H3 z (.lst [])) z=some (.lst []):=B1;generalize IH H3 z (.lst [])=H4 at J ez Y⊢;have ud:=Cs.new (o:=.dK []) Y;have M4:=M3.same J;have Me:F1 T.ab (Sw.er (IH H4 d (.dK [])) d) x c D A B L:=by
    rw[Ae];exact M4.same λb o e=>by rw[u6 (A9 e Y)];exact e
   have T5:=p (J.trans ud) W;refine⟨x,c,z,d,D,A,B,[],L,m,[],λ_=>False,_,rfl,Me,lo,l12,T5,ud _ _ ez,λ_ h=>absurd h AY,CB _,B1,λ_ h=>h.elim,⟨⟨[],rfl,ER,λk h=>absurd h AY⟩,λk v h=>by cases h⟩,by lia,⟨13,by lia,ho⟩,Qz M4.net,λr kvs' H6 k6 r6 T6 ed6 K6 S=>?_⟩;refine⟨by show 2<=sizeLine;decide,λt R=>?_⟩;have I:=Cs.new (o:=.tup [.str "none",.ref r]) R;have hdH:H d=none:=u (C.trans J.sm) (p J W) Y;have U:Sm [T.aa] H H6:=λb o e n=>k6 b o (ud _ _ (J _ _ (C b o e n))) λz=>by
    rcases AL.mp z with z | z
    .rw[z,N]at e;cases e
    rcases AL.mp z with z | z
    .exact n (by rw[z];exact .head _)
    .rw[AD.mp z,hdH]at e;cases e
   refine q2 ho t r _ (U.trans I.sm) (p I T6) (u U T6 R) B1 ?_;unfold S4 at S⊢;exact S.keep λb xs e=>I _ _ e
end
def KP(H H':Hp):Prop:=∀b o,H b=some o->(∀a,o≠ .tbl a)->H' b=some o
def KP.of{H H':Hp}{a:A2}{ls:A1 (Pos×Str)}(t:K0 H a ls)(k:Sm [a] H H'):KP H H':=λb o e n=>k b o e λz=>by
 obtain⟨c,d,_⟩:=t;rw[AD.mp z,d]at e;cases e;exact n c rfl
def KP.trans{H H' c:Hp}(a:KP H H')(b:KP H' c):KP H c:=λx o e n=>b x o (a x o e n) n
def KP.same{H H':Hp}(a:Cs H H'):KP H H':=λx o e _=>a x o e
def KP.web{C:A2}{H H':Hp}{x:A2}{ns:A1 Str}{g:A1 JS}(k:KP H H')(h:JP C H x ns g):JP C H' x ns g:=by
 obtain⟨i,j,a,b,c,d,m,o,p,r,s,t,u,w,y,A⟩:=h;exact⟨i,j,a,b,c,d,m,o,k _ _ p (λ_ z=>by cases z),k _ _ r (λ_ z=>by cases z),k _ _ s (λ_ z=>by cases z),λq B=>k _ _ (t q B) (λ_ z=>by cases z),k _ _ u (λ_ z=>by cases z),k _ _ w (λ_ z=>by cases z),λn f=>let⟨l,v,e⟩:=y n f;⟨l,v,k _ _ e (λ_ z=>by cases z)⟩,λn f=>let⟨l,v,e⟩:=A n f;⟨l,v,k _ _ e (λ_ z=>by cases z)⟩⟩
def KP.sqs{K:PySem.W.Frag}{H H':Hp}{a:A2}{xs:A1 V}(k:KP H H')(h:RX K H a xs):RX K H' a xs:=by
 rcases h with((h | ⟨o,h⟩) | h) | ((h | ⟨o,h⟩) | h)
 .exact .inl (.inl (.inl (k _ _ h (λ_ z=>by cases z))))
 .exact .inl (.inl (.inr ⟨o,k _ _ h (λ_ z=>by cases z)⟩))
 .exact .inl (.inr h)
 .exact .inr (.inl (.inl (k _ _ h (λ_ z=>by cases z))))
 .exact .inr (.inl (.inr ⟨o,k _ _ h (λ_ z=>by cases z)⟩))
 .exact .inr (.inr h)
def S7{H H':Hp}{a:A2}{ls:A1 (Pos×Str)}(k:Cs H H')(t:K0 H a ls):K0 H' a ls:=by
 obtain⟨b,e,t,h⟩:=t;exact⟨b,k _ _ e,t,λl d=>(h l d).imp id λ⟨c,e,f⟩=>⟨c,e,k _ _ f⟩⟩
def Kz{H:Hp}{p d:A2}{c:Int}{ls:A1 (Pos×Str)}(L:IT H p c)(t:K0 H d ls):p≠d:=λz=>by
 obtain⟨a,b,e,_⟩:=L;obtain⟨g,f,_⟩:=t;rw[z,f]at e;cases e
def zBx{H H':Hp}{p f:A2}{c:Int}{ls:A1 (Pos×Str)}(L:IT H p c)(s:Sm [p] H H')(t:K0 H f ls):K0 H' f ls:=by
 have n:=Kz L t;obtain⟨a,b,e,_⟩:=L;obtain⟨g,i,t,h⟩:=t;exact⟨g,KW s i n.symm,t,λx j=>(h x j).imp id λ⟨c,k,d⟩=>⟨c,k,KW s d (λz=>by rw[z,e]at d;cases d)⟩⟩
def zEa{a b:Nat}(h:Sub a b):a<=b:=by
 have e:a ||| b=b:=BL λj=>by
  rw[BR];cases c:a.testBit j with
  | true=>rw[h j c];rfl
  | false=>rw[IE]
 rw[<-e];exact Nat.left_le_or
def KI.more{n:Nat}{A B:A1 Nat}(N:RM n A B){m j:Nat}(h:KI n A B m)(k:Kd n A B m j):KI n A B (m ||| 2^j):=by
 obtain⟨lo,q,b⟩:=h;have a:∀i,m.testBit i=true->¬(B.getD i 0).testBit j=true:=λi d c=>by
  obtain⟨l,o,e⟩:=k.2 i ((N.tr j i).mpr c);exact q l i o d e
 have f:∀i,m.testBit i=true->¬(B.getD j 0).testBit i=true:=λi d c=>by
  obtain⟨l,o,e⟩:=(b i d).2 j ((N.tr i j).mpr c);exact a l o e
 have g:¬(B.getD j 0).testBit j=true:=λc=>by
  obtain⟨l,o,e⟩:=k.2 j ((N.tr j j).mpr c);exact a l o e
 have s:Sub m (m ||| 2^j):=λi d=>(P9 m j i).mpr (.inl d);refine⟨lo.or k.1,λi l d o c=>?_,λi d=>?_⟩
 .rcases(P9 m j i).mp d with z | z
  .rcases(P9 m j l).mp o with y | y
   .exact q i l z y c
   .subst y;exact a i z c
  .subst z;rcases(P9 m i l).mp o with y | y
   .exact f l y c
   .subst y;exact g c
 .rcases(P9 m j i).mp d with z | z
  .exact Cd s (b i z)
  .subst z;exact Cd s k
def Ik{n:Nat}{A B:A1 Nat}(N:RM n A B):∀k m,KI n A B m->2^n-m<=k->∃g,OF V4 n A B g/\Sub m g
 | 0,m,h,l=>absurd h.1.lt (by lia)
 | k+1,m,h,l=>by
  by_cases c:∃a,KI n A B a/\Sub m a/\a≠m
  .obtain⟨a,d,b,t⟩:=c;have:=zEa b;have:=d.1.lt;obtain⟨g,o,p⟩:=Ik N k a d (by lia);exact⟨g,o,λj z=>p j (b j z)⟩
  .have f:∀a,KI n A B a->Sub m a->a=m:=λa d b=>GY λz=>c ⟨a,d,b,z⟩;refine⟨m,⟨⟨h,λj q=>?_⟩,λa r b=>f a r.1 b⟩,λj z=>z⟩;have e:=f _ (h.more N q) λi s=>(P9 m j i).mpr (.inl s);rw[<-e];exact(P9 m j j).mpr (.inr rfl)
def y3{β:Type}{f:Nat->β}:∀{c:A1 β} {l:A1 Nat},c.Perm (l.map f)->∃l2:A1 Nat,l2.Perm l/\c=l2.map f
 | [],l,h=>⟨[],by rw[C_.mp h.symm.eq_nil],rfl⟩
 | b::r,l,h=>by
  obtain⟨a,g,e⟩:=AJ.mp (h.mem_iff.mp (.head _));have p:=List.perm_cons_erase g;have d:=p.map f;rw[BB,e]at d;obtain⟨l2,i,j⟩:=y3 (h.trans d).cons_inv;exact⟨a::l2,(i.cons a).trans p.symm,by rw[BB,e,j]⟩
def RS(ns:A1 Str)(s:A1 Str):Nat:=u9 ns.length λj=>∃y,ns[j]?=some y/\y∈s
def Yg{ns s:A1 Str}{m:Nat}(lo:JW ns.length m)(h:∀(j:Nat) y,ns[j]?=some y->(m.testBit j=true↔y∈s)):m=RS ns s :=
 Nl (λj=>⟨λz=>⟨_,AC (lo j z),(h j _ (AC (lo j z))).mp z⟩,λ⟨y,e,a⟩=>(h j y e).mpr a⟩) lo
def Ru{ns:A1 Str}{M:Nat}(b:ns.Nodup)(lo:JW ns.length M):RS ns (JG ns M)=M :=
 (Yg lo λj y a=>by
  rw[P6];exact⟨λz=>⟨j,z,a⟩,λ⟨k,c,e⟩=>(List.getElem?_inj (AF.mp a).1 b).mp (a.trans e.symm)▸c⟩).symm
section
variable{P:A7}{w:F8}{K:PySem.W.Frag}{mg:Str->A5 A3}{base:IJ}
theorem MU:II ["web", "splits_at", "sets", "marks"] ["web", "splits_at", "sets"] (B7 NH):=KO
def Cg(i d f:A2)(F:RY):Sp:=λm H Q _=>∃(h r:A2) (a:A1 Str) (e:A1 JS) (g:A1 (A2×A1 Str)) (A B b:A1 Nat) (L:Nat) (R:Nat->Prop),m = [.ref h,.ref f,.ref r]/\JP i H h a e/\a.length<=12/\H r=some (.lst (g.map λt=>V.ref t.1))/\(∀t∈g,H t.1=some (.lst (t.2.map V.str)))/\(g.map λt=>t.2)=b.map (JG a)/\(∀M∈b,JW a.length M)/\b.length<=300/\K0 H d B9 /\
 MB a ((e.map λq=>q.2).map λk=>(k.2,k.1)) A/\MB a (e.map λq=>q.2) B/\(∀j,L.testBit j=true↔(A.getD j 0).testBit j=true)/\R 0/\UH a.length A B L (F a A B b) R /\
 ∀l c,Sm [d] H c->K0 c d B9->S4 a A B L (F a A B b) c 0 l->Q (.ref l) c
set_option maxHeartbeats 4000000 in
theorem Y9(T:Tx K mg)(hB:base.BuiltinsAt mg T.aa){f:A2}{fd:IS}{F:RY}(G:IK P w K mg base IY 7 f fd ["marks", "sets", "held"] (X1 T.ab F))(hk:PySem.W.keepIn K (.ref f)=true)(hb:Binds K fd ["marks", "sets", "held"] []):IK P w K mg base IY 22 T.as.f T.as.fd ["web", "splits_at", "sets"] (Cg T.ag T.aa f F):=by
 have a:IK P w K mg base IY 21 T.av.f T.av.fd ["marks", "splits_at", "sets", "held", "known"] (Bx T.ab T.aa f F 13):=u7 T hB G hk hb 13;refine T.as.F.o1 MU λcdv A X s H vs Q E Y h=>?_
 .obtain⟨wb,r,g,qs,ts,A0,B0,l,L0,R,rfl,hW,Z,er,at_,eM,p,u,hT,mA0,mB0,hL0,r0,gr,q⟩:=h;refine⟨_,(B3 (C2 (i:=3) MU.nd rfl (.inr rfl) (Z9 T.bo (Q7 T) (Rm Y) rfl T.bn T.aT .nil E7 (A8 (pv 0) B2)))
   (B4 (C1 (C7 T.av a (Rm Y) (@A8 _ _ _ _ _ (pv 3) (@A8 _ _ _ _ _ (pv 1) (@A8 _ _ _ _ _ (U1 (N':=["some", "marks"]) (cap:=[none,some 3]) (cl:=[("marks",_)]) (Q1 ⟨⟨rfl,rfl,rfl,rfl⟩,trivial⟩ ⟨rfl,trivial⟩) rfl (OU K (pv 2)) (λ_ _ _ _=>by exact⟨(NR 0),J9,(C4 (pv 1) T.ac T.ay.m (W1 T) (Rm Y) T.ay.b .nil E7 (A8 (pv 0) B2))⟩)) (@A8 _ _ _ _ _ B8 (@A8 _ _ _ _ _ Nq B2 (by rfl)) (by rfl)) (by rfl)) (by rfl)) (by rfl)))))),?_⟩
  refine B6 λN1 hN1=>?_;refine A6 rfl ?_;intro x dx nx ndx nex;have s0:Cs H (IH (IH H dx (.own x)) x (.ins T.ab dx [])):=λb o e=>by
   rw[B5 (A9 e nx),B5 (A9 e ndx)];exact e
  refine⟨x,dx,wb,g,qs,rfl,B1,hW.same s0,λc A B L H1 hc k1 N mA mB=>⟨rfl,?_⟩⟩;have C:Cs H H1:=λb o e=>k1 b o (s0 b o e) (by simpa using A9 e nx);have hcn:H c=none:=s0.free hc;have eA:A=A0:=mA.eq mA0;have eB:B=B0:=mB.eq mB0;subst eA eB;have eL:L=L0:=(BL λj=>BP.mpr ((hL0 j).trans (N.loops j).symm):L0=L).symm;subst eL;have T1:=S7 C hT;have nd:=N.nd;have I:=C _ _ er;refine hN1 _ _ ?_;refine A6 rfl (A6 rfl ?_);refine A6 rfl ⟨r,rfl,⟨_,IQ.of I⟩,λD hD=>?_⟩;have lt:ts.length<=300:=by
   have:=congrArg List.length eM;rw[AA,AA]at this;lia
  refine zEr (r:=λt:A2×A1 Str=>V.ref t.1) (λt=>O1 (RS g t.2)) (OW (IQ.of I)) (λ_=>true) (by lia) hD (λt ht G sG M J=>J G λb o e=>e) (λt ht G sG M J=>?_) λσ' H2 O S=>?_
  .obtain⟨Mm,hMm,e⟩:=AJ.mp (eM▸AJ.mpr ⟨t,ht,rfl⟩:t.2∈l.map (JG g));have MG:=N.same sG;obtain⟨dx1,a1,b1,d1,kb1,e1,_⟩:=MG.ex;have sub:=o9 g Mm;rw[e]at sub;have U:=sub.length_le;refine A6 rfl ⟨x,dx1,A6 rfl ⟨e1,rfl,A6 rfl ⟨x,c,t.1,g,A,B,L,t.2,rfl,MG,.inl (IQ.of (sG _ _ (C _ _ (at_ t ht)))),λy hy=>sub.subset hy,sub.nodup nd,by lia,λm G' s' lo hm=>?_⟩⟩⟩;rw[Yg lo hm];exact J G' s'
  rw[EV.mpr λ_ _=>rfl]at S;have S:H2 D=some (.lst (l.map O1)):=by
   rw[S];have U:=congrArg (List.map (RS g)) eM;rw[BV,BV]at U;have h2:l.map (RS g∘JG g)=l:=by
    conv=>rhs;rw[<-List.map_id l]
    exact HA λM J=>Ru nd (p M J)
   rw[h2]at U;rw[<-U,BV];rfl
  have T2:=S7 O T1;have M2:=N.same O;intro d hd;have ud:=Cs.new (o:=.dK []) hd;have Me:F1 T.ab (Sw.er (IH H2 d (.dK [])) d) x c g A B L:=by
   rw[Ae];exact M2.same λb o e=>by rw[u6 (A9 e hd)];exact e
  have b0:(D8 0 g.length).length=0:=by
   unfold D8;rw[List.filter_eq_nil_iff.mpr λj _=>by rw[DG];decide];rfl
  refine⟨x,c,D,d,g,A,B,l,L,0,[],λ_=>False,R,rfl,Me,JW.zero _,Z,S7 ud T2,ud _ _ S,p,u,B1,λ_ h=>h.elim,⟨⟨[],rfl,ER,λk h=>absurd h AY⟩,λk v h=>by cases h⟩,by lia,r0,gr,λr kvs' H6 k6 r6 T6 ed6 K6 tr6=>?_⟩;have hdH:H d=none:=(C.trans O).free hd;refine q r H6 (λb o e n=>k6 b o (ud _ _ (O _ _ (C _ _ e))) λz=>?_) T6 tr6;rcases AL.mp z with z | z
  .rw[z,hcn]at e;cases e
  rcases AL.mp z with z | z
  .exact n (by rw[z];exact .head _)
  .rw[AD.mp z,hdH]at e;cases e
end
def RD.kp{a H H':Hp}{ts:A1 (A2×A1 Str)}(h:RD a H ts)(k:KP H H'):RD a H' ts:=⟨λt b=>k _ _ (h.at_ t b) (λ_ z=>by cases z),h.nd,h.new⟩
section
variable{P:A7}{w:F8}{K:PySem.W.Frag}{mg:Str->A5 A3}{base:IJ}
theorem LS:II ["web", "sets"] ["web"] (B7 MK):=KO
def Vh(n g:A2)(o:QO)(F:RY):Sp:=λp H Q _=>∃(i:A2) (c:A1 Str) (h:A1 JS) (A B:A1 Nat) (L:Nat),p = [.ref i]/\JP n H i c h/\c.length<=10/\K0 H g B9 /\
 MB c ((h.map λq=>q.2).map λk=>(k.2,k.1)) A/\MB c (h.map λq=>q.2) B/\(∀j,L.testBit j=true↔(A.getD j 0).testBit j=true) /\
 ∀(t r l:A2) (e:A1 (A2×A1 Str)) (f:A1 Nat) d,Sm [g] H d->K0 d g B9->H t=none->H r=none->d t=some (.tup [.ref r,.ref l])->d r=some (.lst (e.map λt=>V.ref t.1))->RD H d e->(∀t∈e,t.1≠r) ->
  (e.map λt=>t.2)=f.map (JG c)->f.Nodup->(∀m,m∈f↔o c.length A B m)->f.length<=300->e.Pairwise (λa b=>TS.KB (TS.MS b.2) (TS.MS a.2)=false)->S4 c A B L (F c A B f) d 0 l->Q (.ref t) d
set_option maxHeartbeats 2000000 in
theorem Ak(T:Tx K mg)(hB:base.BuiltinsAt mg T.aa):IK P w K mg base IY 23 T.aG.f T.aG.fd ["web"] (Vh T.ag T.aa (OF V4) Kx):=by
 have c:IK P w K mg base IY 22 T.as.f T.as.fd ["web", "splits_at", "sets"] (Cg T.ag T.aa T.al.f Kx):=Y9 T hB ((S6 T).mono (by decide)) T.al.F.kp T.al.b;refine T.aG.F.o1 LS λcdv A G s H vs Q E Z h=>?_
 .obtain⟨wb,j,qs,A,B,L,rfl,hW,ln,hT,I,J,hL,q⟩:=h;refine⟨_,(B3 (C2 (i:=1) LS.nd rfl (.inl rfl) (C7 T.aY (As T) (Rm Z) (A8 (pv 0) B2)))
   (B4 (C1 (E8 (A8 (pv 1) (A8 (C7 T.as c (Rm Z) (A8 (pv 0) (A8 (Rt T.al.m) (A8 (pv 1) B2)))) B2)))))),?_⟩
  have k:=I.net J;refine B6 λN1 N=>?_;obtain⟨Ms0,nd0,mm0⟩:=Bn (n:=j.length) (λm=>OF V4 j.length A B m) λm h=>h.1.1.1;refine A6 rfl ⟨wb,j,qs,rfl,hW,ln,λA' B' Ms1 O R S U r ts H1 V W p LL nr pm X=>?_⟩;have eA:=I.eq O;have eB:=J.eq R;subst eA eB;obtain⟨u,pM,eM⟩:=y3 pm;have nd:u.Nodup:=pM.nodup_iff.mpr S;have d:∀m,m∈u↔OF V4 j.length A B m:=λm=>pM.mem_iff.trans (U m);have le:u.length<=300:=Ay ln nd (λm Y=>((d m).mp Y).1.1.1) λa ha b hb s=>OF.anti ((d a).mp ha) ((d b).mp hb) s;have T1:=S7 V hT;refine N _ _ ?_;refine A6 rfl (A6 rfl (A6 rfl ⟨wb,r,j,qs,ts,A,B,u,L,λ_=>True,rfl,hW.same V,by lia,p,LL.at_,eM,λM hM=>((d M).mp hM).1.1.1,le,T1,I,J,hL,trivial,Va k λm Y=>?_,λl H2 k2 T2 v=>?_⟩))
  .obtain⟨g,hg,sg⟩:=Ik k _ m Y (Nat.le_refl _);exact⟨g,(d g).mpr hg,sg⟩
  refine⟨by show 2<=sizeLine;decide,λt D=>?_⟩;have x:=Cs.new (o:=.tup [.ref r,.ref l]) D;have K2:=KP.of T1 k2;have C:Sm [T.aa] H H2:=V.sm.trans k2;refine q t r l ts u _ (C.trans x.sm) (S7 x T2) (C.none (λy=>?_) D) W B1 (x _ _ (K2 _ _ p (λ_ z=>by cases z))) ((LL.kp K2).same x) nr eM nd d le X ?_
  .obtain⟨ps,e,_⟩:=T2;rw[AD.mp y,e]at D;cases D
  .unfold S4 at v⊢;exact v.keep λb xs e=>x _ _ e
theorem LR:II ["web", "sets"] ["web"] (B7 MF):=KO
set_option maxHeartbeats 2000000 in
theorem Ai(T:Tx K mg)(hB:base.BuiltinsAt mg T.aa):IK P w K mg base IY 23 T.aH.f T.aH.fd ["web"] (Vh T.ag T.aa MC Pw):=by
 have c:IK P w K mg base IY 22 T.as.f T.as.fd ["web", "splits_at", "sets"] (Cg T.ag T.aa T.ar.f Pw):=Y9 T hB ((l9 T).mono (by decide)) T.ar.F.kp T.ar.b;refine T.aH.F.o1 LR λcdv A I s H vs Q E hr h=>?_
 .obtain⟨wb,j,qs,A,B,L,rfl,hW,J,hT,N,O,hL,q⟩:=h;refine⟨_,(B3 (C2 (i:=1) LR.nd rfl (.inl rfl) (C7 T.aZ (At T) (Rm hr) (A8 (pv 0) B2)))
   (B4 (C1 (E8 (A8 (pv 1) (A8 (C7 T.as c (Rm hr) (A8 (pv 0) (A8 (Rt T.ar.m) (A8 (pv 1) B2)))) B2)))))),?_⟩
  have R:=N.net O;refine B6 λN1 S=>?_;obtain⟨Ms0,nd0,mm0⟩:=Bn (n:=j.length) (λm=>MC j.length A B m) λm h=>h.1;refine A6 rfl ⟨wb,j,qs,rfl,hW,J,λA' B' Ms1 U V k d=>⟨λr ts H1 _ W X p LL nr pm Y=>?_,λgt=>?_⟩⟩;rotate_left
  .have:=Ay J k (λm u=>((d m).mp u).1) λa Z b hb s=>MC.anti ((d a).mp Z) ((d b).mp hb) s;lia
  have eA:=N.eq U;have eB:=O.eq V;subst eA eB;obtain⟨v,pM,eM⟩:=y3 pm;have nd:v.Nodup:=pM.nodup_iff.mpr k;have g:∀m,m∈v↔MC j.length A B m:=λm=>pM.mem_iff.trans (d m);have le:v.length<=300:=Ay J nd (λm u=>((g m).mp u).1) λa Z b hb s=>MC.anti ((g a).mp Z) ((g b).mp hb) s;have T1:=S7 W hT;refine S _ _ ?_;refine A6 rfl (A6 rfl (A6 rfl ⟨wb,r,j,qs,ts,A,B,v,L,λ_=>True,rfl,hW.same W,by lia,p,LL.at_,eM,λM hM=>((g M).mp hM).1,le,T1,N,O,hL,trivial,Vn R λm u=>(g m).mpr u,λl H2 k2 T2 x=>?_⟩));refine⟨by show 2<=sizeLine;decide,λt G=>?_⟩;have C:=Cs.new (o:=.tup [.ref r,.ref l]) G;have K2:=KP.of T1 k2;have D:Sm [T.aa] H H2:=W.sm.trans k2;refine q t r l ts v _ (D.trans C.sm) (S7 C T2) (D.none (λy=>?_) G) X B1 (C _ _ (K2 _ _ p (λ_ z=>by cases z))) ((LL.kp K2).same C) nr eM nd g le Y ?_
  .obtain⟨ps,e,_⟩:=T2;rw[AD.mp y,e]at G;cases G
  .unfold S4 at x⊢;exact x.keep λb xs e=>C _ _ e
end
def Vo{K:PySem.W.Frag}{x:Str}{H:Hp}{Q:VK}(o:PySem.PyData.strOk x=true)(q:Q (.bl true) H):zFz K (.str x) (.str x) H Q:=by
 have e:Rp K H (.str x) (.str x):=by simp only[Rp]
 have p:Pl (.str x):=⟨by rw[PyData.canLay0];exact o,by rw[PyData.depth];decide⟩;exact⟨_,_,e,e,p,p,by rw[PySem.SeqAt.eqv_refl _ p.1];exact q⟩
def tyB(b:Bool):A3:=.type (bif b then "list" else "tuple")
def zDf{K:PySem.W.Frag}:∀b,PySem.W.kitOne K (tyB b) (.type "list")=some b
 | true=>rfl
 | false=>rfl
def zDo{K:PySem.W.Frag}:∀b,PySem.W.kitOne K (tyB b) (.type "tuple")=some !b
 | true=>rfl
 | false=>rfl
def zGm{K:PySem.W.Frag}:∀b,PySem.W.kitAny K (tyB b) (["list", "tuple"].map Value.type)=some true
 | true=>rfl
 | false=>rfl
def zCz(b:Bool):(!decide (V.bl b=V.bl b))=false:=congrArg _ (AX rfl)
def LT(b:Bool)(xs:A1 V):HO:=bif b then .lst xs else .tup xs
def Tb{K:PySem.W.Frag}{H:Hp}{l:A2}{xs:A1 V}:∀{b:Bool},H l=some (LT b xs)->MZ K H (.ref l) (tyB b)
 | true,h=>.lst h
 | false,h=>.tup h
def zEp{H:Hp}{l:A2}{xs:A1 V}:∀{b:Bool},H l=some (LT b xs)->H l=some (.lst xs)\/H l=some (.tup xs)
 | true,h=>.inl h
 | false,h=>.inr h
def sqB(K:PySem.W.Frag)(b:Bool):Hp->A2->A1 V->Prop:=bif b then IQ K else JH K
def Om{K:PySem.W.Frag}{H:Hp}{l:A2}{xs:A1 V}:∀{b:Bool},H l=some (LT b xs)->sqB K b H l xs
 | true,h=>IQ.of h
 | false,h=>JH.of h
def Yn{K:PySem.W.Frag}{H:Hp}{l:A2}{xs:A1 V}{b:Bool}(h:H l=some (LT b xs)):RX K H l xs:=(zEp h).imp IQ.of JH.of
def zFq{K:PySem.W.Frag}{H:Hp}{l m:A2}{xs c:A1 V}{R:It->Hp->Prop}:∀{b:Bool},H l=some (LT b xs)->H m=some (LT b c)->R (TY (sqB K b) l m) H->zIf K R l m xs c H
 | true,h,a,q=>.inl ⟨IQ.of h,IQ.of a,q⟩
 | false,h,a,q=>.inr ⟨JH.of h,JH.of a,q⟩
def zHy(K:PySem.W.Frag):A1 V->Hp->VK->Prop:=λa H Q=>zAw K a H Q\/∃(x:V) (p:A2) (c:A1 String) (b:Bool) (T:String),a = [x,.ref p]/\H p=some (.tup (c.map V.ty))/\((x = .non/\T = "NoneType")\/∃i,x = .int i/\T = "int")/\PySem.W.kitAny K (.type T) (c.map Value.type)=some b/\Q (.bl b) H
def Vw{X:Cx}(K:PySem.W.Frag)(j:X.K=K:=by rfl):K1 X (.builtin "isinstance") (zHy K):=by
 subst j;intro a s σ H k l Q I r h;rcases h with h | ⟨x,p,D,b,T,rfl,m,o,d,q⟩
 .exact Vl X.K rfl a s σ H k l Q I r h
 obtain⟨u,v,rfl,e,c⟩:=r.two;cases c;obtain⟨w,c,⟨⟨E,F,y,A⟩,f,B,n,g⟩,G⟩:=I.tuple (JH.of m);rw[Jp c]at g;cases B;cases g;rcases o with⟨rfl,rfl⟩ | ⟨i,rfl,rfl⟩
 .cases e;exact PySem.W.kia_tup PySem.W.kitx_none I.kIn True.intro f d (λz=>nomatch z) λC=>⟨.bl b,H,I.tok _,rfl,q⟩
 .obtain⟨t,rfl⟩:=(show ∃t,u=Value.int i t from e);exact PySem.W.kia_tup PySem.W.kitx_int I.kIn True.intro f d (λz=>nomatch z) λC=>⟨.bl b,H,I.tok _,rfl,q⟩
def Mr{K:PySem.W.Frag}{d:PyData}{v:V}{H:Hp}{Q:VK}(e:Rp K H d v)(o:PyData.canLay0 d=true)(z:d.depth<=1)(q:Q (.bl true) H):zFz K v v H Q:=by
 have p:Pl d:=⟨o,Nat.le_trans z (by decide)⟩;exact⟨_,_,e,e,p,p,by rw[PySem.SeqAt.eqv_refl _ p.1];exact q⟩
section
variable{P:A7}{w:F8}{K:PySem.W.Frag}{mg:Str->A5 A3}{base:IJ}
theorem Kg:II ["_law_found", "_law_due"] ["_law_found", "_law_due"] (B7 PJ):=KO
theorem Zs{f:A2}{a:IS}{b:A1 Str}:IK P w K mg base IY 0 f a b Ka:=⟨λ_ _ _ _ h=>h.elim,λ_ _ _ _ _ _ _ _ _ _ _ _ _ h=>h.elim⟩
def Sf(S:Sp):Sp:=λf H Q _=>(∃a:Str,f = [.str a,.str a]/\PySem.PyData.strOk a=true/\∀c,Cs H c->Q (.bl true) c)\/(∃v:V,f = [v,v]/\(v = .non\/∃i,v = .int i)/\∀c,Cs H c->Q (.bl true) c) \/
 ∃(l m:A2) (b:Bool) (e g:A1 V),f = [.ref l,.ref m]/\H l=some (LT b e)/\H m=some (LT b g)/\e.length=g.length/\e.length<=1000 /\
  (∀(i:Nat) (x y:V) (c:Hp) (h:VK) (E:XK),e[i]?=some x->g[i]?=some y->Cs H c->(∀d,Cs c d->h (.bl true) d)->S [x,y] c h E)/\∀c,Cs H c->Q (.bl true) c
theorem Gk(T:Tx K mg){n:Nat}{S:Sp}(c:IK P w K mg base IY n T.ax.f T.ax.fd ["_law_found", "_law_due"] S):IK P w K mg base IY (n+1) T.ax.f T.ax.fd ["_law_found", "_law_due"] (Sf S):=by
 refine T.ax.F.ok Kg (λvs H Q E h=>?_) (λcdv A J s H vs Q E G h=>?_)
 .rcases h with⟨a,rfl,_⟩ | ⟨v,rfl,_⟩ | ⟨l,m,b,B,X,rfl,_⟩
  .rfl
  .rfl
  .rfl
 .refine⟨_,(B3 (J7 (Q2 (I9 (Vw K) T.ak C6 (A8 (pv 1) (A8 (E8 (A8 (Y5 T.aI Q5) (A8 (Y5 T.a8 X8) B2))) B2)))) (B3 (J7 (PW.pt (Ij (C8 Wg (I9 (P1 K) T.ak C6 (A8 (pv 0) (A8 (Y5 T.aI Q5) B2))) (I9 (P1 K) T.ak C6 (A8 (pv 1) (A8 (Y5 T.aI Q5) B2))) (E5 _)) (Af (C8 Wg (I9 (P1 K) T.ak C6 (A8 (pv 0) (A8 (Y5 T.a8 X8) B2))) (I9 (P1 K) T.ak C6 (A8 (pv 1) (A8 (Y5 T.a8 X8) B2))) (E5 _))))) (B4 (C1 Cm)) C3)
   (B4 (C1 (Dl (R0 T0 (I9 (V5 K) T.aP U3 (A8 (pv 0) B2)) (I9 (V5 K) T.aP U3 (A8 (pv 1) B2)) (E5 _)) (Dq (I9 (Ym K) T.bK Xw (A8 (U1 (N':=["_law_one", "_law_other"]) (cap:=[none,none]) (cl:=[]) (Q1 trivial trivial) rfl (zJs K T.bz (A8 (pv 0) (A8 (pv 1) B2))) (λ_ _ _ _=>by exact⟨(RB K (n:=2) (C9 (NR 0) (C9 (NR 1) O7))),J9,(C7 T.ax c (G.mono (Nat.le_refl _)) (A8 (pv 0) (A8 (pv 1) B2)))⟩)) B2))))))) C3)
   (B3 (J7 (PW.pt (Ij (C8 Xx (pv 1) Ad (E5 _)) (Af (Q2 (I9 (P1 K) T.ak C6 (A8 (pv 1) (A8 (Y5 T.bt Lr) B2))))))) (B4 (C1 (Dl (R0 (Wk K G.units) (pv 0) (pv 1) (E5 _)) (Dq (R0 T0 (I9 (P1 K) T.ak C6 (A8 (pv 0) (A8 (Y5 T.bt Lr) B2))) (I9 (P1 K) T.ak C6 (A8 (pv 1) (A8 (Y5 T.bt Lr) B2))) (E5 _)))))) C3)
   (B3 (J7 (Q2 (I9 (P1 K) T.ak C6 (A8 (pv 1) (A8 (Y5 T.bu Lb) B2)))) (B4 (C1 (Dl (I9 (P1 K) T.ak C6 (A8 (pv 0) (A8 (Y5 T.bu Lb) B2))) (Dq (R0 (Wk K G.units) (pv 0) (pv 1) (E5 _)))))) C3)
   (B4 (C1 (Dl (I9 (P1 K) T.ak C6 (A8 (pv 0) (A8 (Y5 T.bI Yf) B2))) (Dl (zDg (I9 (P1 K) T.ak C6 (A8 (pv 0) (A8 (Y5 T.bu Lb) B2)))) (Dq (R0 (Wk K G.units) (pv 0) (pv 1) (E5 _)))))))))),?_⟩
  rcases h with⟨b,rfl,ob,q⟩ | ⟨v,rfl,hv,q⟩ | ⟨l,m,b,B,X,rfl,hl,hm,I,len,hS,q⟩
  .refine A6 rfl ⟨by show 2<=sizeLine;decide,λt C=>?_⟩;have g:=Cs.new (o:=.tup [.ty "list",.ty "tuple"]) C;refine .inl ⟨.str b,t,["list", "tuple"],_,false,rfl,B1,.str b,.inl ⟨b,rfl⟩,rfl,?_⟩;generalize IH H t (.tup [.ty "list",.ty "tuple"])=L at g⊢;refine A6 rfl (i7 ?_);refine A6 rfl ⟨rfl,A6 rfl (i7 ?_)⟩;refine A6 rfl ⟨.str b, "str",_,true,rfl,.str b,rfl,A6 rfl (Fw ?_)⟩;refine A6 rfl (A6 rfl (Vo ob ⟨_,rfl,Fw ?_⟩));refine A6 rfl ⟨.str b, "str",_,true,rfl,.str b,rfl,A6 rfl ⟨.str b, "str",_,true,rfl,.str b,rfl,?_⟩⟩;exact⟨rfl,q _ g⟩
  .refine A6 rfl ⟨by show 2<=sizeLine;decide,λt C=>?_⟩;have g:=Cs.new (o:=.tup [.ty "list",.ty "tuple"]) C;have M:(IH H t (.tup [.ty "list",.ty "tuple"])) t=some (.tup (["list", "tuple"].map V.ty)):=B1;generalize IH H t (.tup [.ty "list",.ty "tuple"])=L at g M⊢;rcases hv with rfl | ⟨i,rfl⟩
   .refine .inr ⟨.non,t,["list", "tuple"],false,_,rfl,M,.inl ⟨rfl,rfl⟩,rfl,?_⟩;refine A6 rfl (i7 ?_);refine A6 rfl ⟨rfl,A6 rfl (Fw ?_)⟩;refine A6 rfl (A6 rfl (Mr (d:=.none) (by simp only[Rp]) rfl (by rw[PyData.depth];decide) ⟨_,rfl,Fw ?_⟩));refine A6 rfl ⟨.non, "str",_,false,rfl,.non,rfl,A6 rfl ⟨.non, "str",_,false,rfl,.non,rfl,?_⟩⟩;exact⟨rfl,q _ g⟩
   .refine .inr ⟨.int i,t,["list", "tuple"],false,_,rfl,M,.inr ⟨i,rfl,rfl⟩,rfl,?_⟩;refine A6 rfl (i7 ?_);refine A6 rfl ⟨rfl,A6 rfl (i7 ?_)⟩;refine A6 rfl ⟨.int i, "str",_,false,rfl,.int i,rfl,A6 rfl (i7 ?_)⟩;refine A6 rfl ⟨.int i, "bool",_,false,rfl,.int i,rfl,A6 rfl (i7 ?_)⟩;refine A6 rfl ⟨.int i, "int",_,true,rfl,.int i,rfl,A6 rfl (Fw ?_)⟩;refine A6 rfl ⟨.int i, "bool",_,false,rfl,.int i,rfl,A6 rfl (A6 rfl (Fw ?_))⟩;exact A6 rfl (A6 rfl (Mr (d:=.int i) (by simp only[Rp]) rfl (by rw[PyData.depth];decide) (q _ g)))
  .refine A6 rfl ⟨by show 2<=sizeLine;decide,λt C=>?_⟩;have g:=Cs.new (o:=.tup [.ty "list",.ty "tuple"]) C;have r:=g _ _ hl;have p:=g _ _ hm;refine .inl ⟨.ref m,t,["list", "tuple"],_,true,rfl,B1,Tb p,.inr ⟨m,_,rfl,zEp p⟩,zGm b,?_⟩;generalize IH H t (.tup [.ty "list",.ty "tuple"])=L at g r p⊢;refine A6 rfl (Fw ?_);refine A6 rfl ⟨.ref l, "list",_,b,rfl,Tb r,zDf b,A6 rfl ⟨.ref m, "list",_,b,rfl,Tb p,zDf b,rfl,?_⟩⟩;refine⟨false,congrArg V.bl (zCz b),i7 ?_⟩;refine A6 rfl ⟨.ref l, "tuple",_,_,rfl,Tb r,zDo b,A6 rfl ⟨.ref m, "tuple",_,_,rfl,Tb p,zDo b,rfl,?_⟩⟩;refine⟨false,congrArg V.bl (zCz !b),i7 ?_⟩;refine A6 rfl (C0 (a:=l) rfl (Yn r) (A6 rfl (C0 (a:=m) rfl (Yn p) ⟨rfl,A6 rfl ?_⟩)));refine Q3 (λ_=>?_) (λh=>absurd (AX (congrArg (λk:Nat=>V.int k) I)) h);refine A6 rfl (A6 rfl ⟨l,m,B,X,?_⟩);refine⟨rfl,zFq r p λD Y=>?_⟩;refine Ce (n:=B.length) (λi σ z=>(∃Z v1,σ = [Z,v1])/\Cs L z/\z D=some (.lst ((List.replicate i true).map V.bl))) ⟨⟨_,_,rfl⟩,Cs.new Y,B1⟩ ?_ ?_ ?_ ?_
   .rintro i σ z O ⟨_,j,_⟩;exact⟨_,_,_,_,Om (j _ _ r),Om (j _ _ p),HV I,AC O,AC (I▸O)⟩
   .rintro σ z ⟨_,j,_⟩;exact⟨_,_,Om (j _ _ r),Om (j _ _ p),HV I,rfl⟩
   .rintro i σ z x H3 N O ⟨⟨Z,v1,rfl⟩,j,R⟩ ⟨u,x,y,rfl,hu,rfl,U,hy⟩ hN;have W:=Cs.new (o:=.tup [x,y]) hu;refine⟨u,A6 rfl ⟨JH.of B1,rfl,_,A6 rfl (C0 rfl rfl ?_)⟩⟩;refine A6 rfl (A6 rfl (hS i x y _ _ _ (U _ (Om (j _ _ r))) (hy _ (Om (j _ _ p))) ((g.trans j).trans W) λH4 s4=>?_));refine⟨_,s4 _ _ (W _ _ R),by rw[AA,List.length_replicate,sizeLine_eq];lia,hN _ _ ⟨⟨_,_,rfl⟩,((j.trans W).trans s4).upd Y,?_⟩⟩;rw[B1,List.replicate_succ',AK];rfl
   .rintro σ z ⟨_,j,R⟩;have e:(List.replicate B.length true).all id=true:=FK.mpr λx U=>(List.mem_replicate.mp U).2;have q':Q (.bl ((List.replicate B.length true).all id)) z:=e.symm▸q _ (g.trans j);exact⟨D,_,rfl,IQ.of R,q'⟩
end
def S_(b:Bool)(ds:A1 PyData):PyData:=bif b then .list ds else .tuple ds
def ad(b:Bool)(l:A2):A1 A2:=bif b then [l]else []
def SR:IZ->Prop
 | .inl _=>True
 | .inr s=>PySem.PyData.strOk s=true
def Ow(H:Hp):Nat->PyData->V->A1 A2->Prop
 | 0,_,_,_=>False
 | n+1,d,v,L=>(∃s:IZ,d=kD s/\v=kV s/\SR s/\L = []) \/
  ∃(b:Bool) (l:A2) (a:A1 V) (c:A1 PyData) (e:A1 (A1 A2)),d=S_ b c/\v = .ref l/\H l=some (LT b a)/\a.length=c.length/\a.length=e.length/\a.length<=300/\L=ad b l++e.flatten /\
   ∀(i:Nat) f x M,c[i]?=some f->a[i]?=some x->e[i]?=some M->Ow H n f x M
def Ow.keep{H H':Hp}{X:A1 A2}(k:∀a o,H a=some o->a∉X->H' a=some o)(c:∀x∈X,∀xs,H x≠some (.tup xs)):∀{n:Nat} {d:PyData} {v:V} {L:A1 A2},(∀l∈L,l∉X)->Ow H n d v L->Ow H' n d v L
 | 0,_,_,_,_,h=>h.elim
 | _+1,_,_,_,_,.inl h=>.inl h
 | n+1,_,_,_,e,.inr ⟨b,l,xs,j,m,p,q,f,r,s,t,u,h⟩=>by
  subst u;refine .inr ⟨b,l,xs,j,m,p,q,k _ _ f ?_,r,s,t,rfl,λi w x M A B g=>(h i w x M A B g).keep k c λy C=>e y (BI _ (List.mem_flatten.mpr ⟨M,AM g,C⟩))⟩;cases b with
  | true=>exact e l (.head _)
  | false=>exact λz=>c l z xs f
def Ow.same{H H':Hp}(s:Cs H H'){n:Nat}{d:PyData}{v:V}{L:A1 A2}(h:Ow H n d v L):Ow H' n d v L:=h.keep (X:=[]) (λa o e _=>s a o e) (λx z=>by cases z) λl _ z=>by cases z
def Ow.here{H:Hp}:∀{n:Nat} {d:PyData} {v:V} {L:A1 A2},Ow H n d v L->∀l∈L,∃xs,H l=some (.lst xs)
 | 0,_,_,_,h,_,_=>h.elim
 | _+1,_,_,_,.inl ⟨s,_,_,_,e⟩,l,c=>by rw[e]at c;cases c
 | n+1,_,_,_,.inr ⟨b,l,xs,f,g,o,p,j,r,t,u,k,h⟩,y,a=>by
  rw[k]at a;rcases AR.mp a with z | z
  .cases b with
   | true=>rw[AD.mp z];exact⟨xs,j⟩
   | false=>cases z
  .obtain⟨M,m,a⟩:=List.mem_flatten.mp z;obtain⟨i,w,rfl⟩:=DN m;have q:i<xs.length:=by lia
   exact(h i f[i] xs[i] g[i] (AC _) (AC _) (AC _)).here y a
def Ow.up{H:Hp}:∀{n m:Nat} {d:PyData} {v:V} {L:A1 A2},n<=m->Ow H n d v L->Ow H m d v L
 | 0,_,_,_,_,_,h=>h.elim
 | n+1,0,_,_,_,c,_=>absurd c (Nat.not_succ_le_zero _)
 | _+1,_+1,_,_,_,_,.inl h=>.inl h
 | n+1,m+1,_,_,_,c,.inr ⟨b,l,a,e,f,g,j,k,o,p,q,r,h⟩=>.inr ⟨b,l,a,e,f,g,j,k,o,p,q,r,λi s x M t u w=>(h i s x M t u w).up (Nat.le_of_succ_le_succ c)⟩
def Ow.str{H:Hp}{n:Nat}{s:Str}(h:PySem.PyData.strOk s=true):Ow H (n+1) (.str s) (.str s) []:=.inl ⟨.inr s,rfl,rfl,h,rfl⟩
def Ow.key{H:Hp}{n:Nat}{s:IZ}(h:SR s):Ow H (n+1) (kD s) (kV s) []:=.inl ⟨s,rfl,rfl,h,rfl⟩
def Ow.LT{H:Hp}{n:Nat}{b:Bool}{l:A2}{xs:A1 V}{ds:A1 PyData}{Ls:A1 (A1 A2)}(e:H l=some (Sw.LT b xs))(a:xs.length=ds.length)(l2:xs.length=Ls.length)(c:xs.length<=300)(h:∀(i:Nat) d' x M,ds[i]?=some d'->xs[i]?=some x->Ls[i]?=some M->Ow H n d' x M):Ow H (n+1) (S_ b ds) (.ref l) (ad b l++Ls.flatten):=.inr ⟨b,l,xs,ds,Ls,rfl,rfl,e,a,l2,c,rfl,h⟩
def Mz{α:Type}:∀n:Nat,(List.replicate n ([]:A1 α)).flatten = []
 | 0=>rfl
 | n+1=>by rw[List.replicate_succ,List.flatten_cons,Mz n];rfl
def Ow.flat{H:Hp}{n:Nat}{b:Bool}{l:A2}{xs:A1 V}{ds:A1 PyData}(e:H l=some (Sw.LT b xs))(a:xs.length=ds.length)(c:xs.length<=300)(h:∀(i:Nat) d' x,ds[i]?=some d'->xs[i]?=some x->Ow H n d' x []):Ow H (n+1) (S_ b ds) (.ref l) (ad b l):=by
 have:=Ow.LT (n:=n) (Ls:=List.replicate xs.length []) e a (by rw[List.length_replicate]) c λi d' x M d f g=>by
  rw[(List.mem_replicate.mp (AM g)).2];exact h i d' x d f
 rwa [Mz,CA]at this
def Ow.rows{H:Hp}{n:Nat}{b:Bool}{l:A2}{xs:A1 (V×PyData×A1 A2)}(e:H l=some (Sw.LT b (xs.map λx=>x.1)))(c:xs.length<=300)(h:∀x∈xs,Ow H n x.2.1 x.1 x.2.2):Ow H (n+1) (S_ b (xs.map λx=>x.2.1)) (.ref l) (ad b l ++(xs.map λx=>x.2.2).flatten) :=
 Ow.LT e (by rw[AA,AA]) (by rw[AA,AA]) (by rw[AA];exact c) λi k x M g d f=>by
  rw[AH]at g d f;obtain⟨a,j,rfl⟩:=BF.mp g;rw[j]at d f;cases d;cases f;exact h a (AM j)
def Ow.strs{H:Hp}{n:Nat}{b:Bool}{l:A2}{a:A1 Str}(e:H l=some (Sw.LT b (a.map V.str)))(g:∀s∈a,PySem.PyData.strOk s=true)(h:a.length<=300):Ow H (n+2) (S_ b (a.map PyData.str)) (.ref l) (ad b l) :=
 Ow.flat e (by rw[AA,AA]) (by rw[AA];exact h) λi j x d c=>by
  rw[AH]at d c;obtain⟨s,f,rfl⟩:=BF.mp d;rw[f]at c;cases c;exact .str (g s (AM f))
def Ow.two{H:Hp}{n:Nat}{l:A2}{x y:V}{d e:PyData}{L M:A1 A2}(h:H l=some (.tup [x,y]))(a:Ow H n d x L)(b:Ow H n e y M):Ow H (n+1) (.tuple [d,e]) (.ref l) (L++M):=by
 have:=Ow.LT (n:=n) (b:=false) (xs:=[x,y]) (ds:=[d,e]) (Ls:=[L,M]) h rfl rfl (by show 2<=300;decide) λi j k m c f g=>by
  match i,c,f,g with
  | 0,c,f,g=>cases c;cases f;cases g;exact a
  | 1,c,f,g=>cases c;cases f;cases g;exact b
 rwa [show ad false l ++ [L,M].flatten=L++M by show [] ++(L ++(M ++ []))=_;rw[CA];rfl]at this
def Ow.three{H:Hp}{n:Nat}{l:A2}{xs:A1 V}{ds:A1 PyData}(h:H l=some (.tup xs))(e:xs.length=ds.length)(c:xs.length<=300)(a:∀(i:Nat) d' x,ds[i]?=some d'->xs[i]?=some x->Ow H n d' x []):Ow H (n+1) (.tuple ds) (.ref l) []:=Ow.flat (b:=false) h e c a
def l0{ns:A1 Str}(h:∀y∈ns,P5 y=true)(m:Nat):PySem.PyData.strOk (P3 ns m)=true:=by
 unfold P3;cases e:JG ns m with
 | nil=>decide +kernel
 | cons x r=>exact X3 (h x ((o9 ns m).subset (by rw[e];exact .head _)))
def T_(ns:A1 Str)(A B:A1 Nat)(L:Nat)(F:Nat->A1 Hd):Nat->Nat->PyData
 | 0,_=>.none
 | k+1,m=>if pB (Z7 B m)=true then .tuple [.str "clash",.str (clA ns A B m),.str (clB ns B m)]else
  .tuple ((Y6 A B ns.length L F m).1.map kD ++ [.tuple ((D8 (Y6 A B ns.length L F m).2 ns.length).map λj=>T_ ns A B L F k (m ||| 2^j))])
def Wt{ks:A1 IZ}{x:V}{d:PyData}{H:Hp}{n:Nat}(h:∀a∈ks,SR a)(f:Ow H (n+1) d x [])(i:Nat)(d':PyData)(b:V)(h1:(ks.map kD ++ [d])[i]?=some d')(h2:(ks.map kV ++ [x])[i]?=some b):Ow H (n+1) d' b []:=by
 by_cases c:i<ks.length
 .rw[DA (by rw[AA];exact c),AH]at h1 h2;obtain⟨a,e,rfl⟩:=BF.mp h1;rw[e]at h2;cases h2;exact .key (h a (AM e))
 .rw[CY (by rw[AA];lia),AA]at h1 h2
  match i-ks.length,h1,h2 with
  | 0,h1,h2=>cases h1;cases h2;exact f
def Lg{ns:A1 Str}{A B:A1 Nat}{L:Nat}{F:Nat->A1 Hd}{H:Hp}(f:∀y∈ns,P5 y=true)(g:ns.length<=100)(o:∀m,∀s∈F m,s.1.length<=10/\∀a∈s.1,SR a):∀{k m:Nat} {r:A2},KL ns A B L F H k m r->Ow H (2*k+1) (T_ ns A B L F k m) (.ref r) []
 | 0,_,_,h=>h.elim
 | k+1,m,r,.inl ⟨c,e⟩=>by
  unfold T_;rw[AO (LB.mpr c)];refine Ow.three e rfl (by show 3<=300;decide) λi I x b d=>?_
  match i,b,d with
  | 0,b,d=>cases b;cases d;exact Ow.str (n:=2*k+1) (by decide +kernel)
  | 1,b,d=>cases b;cases d;exact Ow.str (n:=2*k+1) (l0 f _)
  | 2,b,d=>cases b;cases d;exact Ow.str (n:=2*k+1) (l0 f _)
 | k+1,m,r,.inr ⟨c,l,J,u,v,p,h⟩=>by
  unfold T_;rw[AN λz=>c (LB.mp z)];have w:(Y6 A B ns.length L F m).1.length<=10/\∀a∈(Y6 A B ns.length L F m).1,SR a:=by
   by_cases z:F m = []
   .unfold Y6;rw[z];exact⟨CB _,λa h=>absurd h AY⟩
   .exact o m _ (o0 z)
  have lk:(D8 (Y6 A B ns.length L F m).2 ns.length).length<=300:=Nat.le_trans (M0 _ _) (by lia);refine Ow.three u (by rw[AU,AU,AA,AA];rfl) (by rw[AU,AA];show _+1<=300;lia) (Wt (n:=2*k+1) w.2 ?_);refine Ow.three (n:=2*k+1) v (by rw[AA,AA,p]) (by rw[AA,p];exact lk) λj K M q t=>?_;rw[AH]at q t;obtain⟨C,D,rfl⟩:=BF.mp q;obtain⟨E,G,rfl⟩:=BF.mp t;exact Lg f g o (h j C E D G)
def Xy{n m:Nat}{Ms:A1 Nat}:∀s∈Hi n Ms m,s.1.length<=10/\∀a∈s.1,SR a:=λs b=>by
 obtain⟨i,M,_,_,rfl⟩:=PN.mp b;refine⟨by show 2<=10;decide,λa ha=>?_⟩;rcases AL.mp ha with rfl | ha
 .exact(by decide +kernel:PySem.PyData.strOk "beyond" = true)
 .rw[AD.mp ha];trivial
def Yw{ns:A1 Str}{A B Ms:A1 Nat}(b:∀y∈ns,P5 y=true)(m:Nat):∀s∈Kx ns A B Ms m,s.1.length<=10/\∀a∈s.1,SR a:=λs c=>by
 rcases AR.mp c with h | h
 .obtain⟨j,_,rfl⟩:=AJ.mp h;refine⟨by show 3<=10;decide,λa ha=>?_⟩;rcases AL.mp ha with rfl | ha
  .exact(by decide +kernel:PySem.PyData.strOk "answer" = true)
  rcases AL.mp ha with rfl | ha
  .exact l0 b _
  .rw[AD.mp ha];exact l0 b _
 .exact Xy s h
def zFw{ns:A1 Str}{A B Ms:A1 Nat}(d:∀y∈ns,P5 y=true)(m:Nat):∀s∈Pw ns A B Ms m,s.1.length<=10/\∀a∈s.1,SR a:=λs b=>by
 unfold Pw at b;by_cases c:Uy ns A B m = []
 .rw[AO c]at b;exact Xy s b
 .rw[AN c]at b;obtain⟨j,_,rfl⟩:=AJ.mp b;refine⟨by show 2<=10;decide,λa ha=>?_⟩;rcases AL.mp ha with rfl | ha
  .exact(by decide +kernel:PySem.PyData.strOk "cover" = true)
  .rw[AD.mp ha];exact l0 d _
def Av:Nat->Sp
 | 0=>Ka
 | n+1=>Sf (Av n)
def zBv{ds a:A1 PyData}:∀{b c:Bool},S_ b ds=S_ c a->b=c/\ds=a
 | true,true,h=>⟨rfl,PyData.list.inj h⟩
 | false,false,h=>⟨rfl,PyData.tuple.inj h⟩
 | true,false,h=>by cases h
 | false,true,h=>by cases h
def Ty{ds:A1 PyData}{s:IZ}:∀{b:Bool},kD s≠S_ b ds
 | true,h=>by cases s<;>cases h
 | false,h=>by cases s<;>cases h
def zDd:∀{a b:IZ},kD a=kD b->a=b
 | .inl _,.inl _,h=>by cases h;rfl
 | .inr _,.inr _,h=>by cases h;rfl
 | .inl _,.inr _,h=>by cases h
 | .inr _,.inl _,h=>by cases h
def Ow.alike{H:Hp}:∀{n:Nat} {d:PyData} {x y:V} {L M:A1 A2} {Q:VK} {E:XK},Ow H n d x L->Ow H n d y M->(∀H',Cs H H'->Q (.bl true) H')->Av n [x,y] H Q E
 | 0,_,_,_,_,_,_,_,h,_,_=>h.elim
 | n+1,d,x,y,_,_,Q,E,.inl ⟨s,f,j,o,_⟩,g,q=>by
  subst f j;rcases g with⟨v,a,c,_⟩ | ⟨b,l,r,k,m,a,_⟩
  .cases zDd a;subst c;cases s with
   | inl i=>exact .inr (.inl ⟨_,rfl,.inr ⟨i,rfl⟩,q⟩)
   | inr s=>exact .inl ⟨s,rfl,o,q⟩
  .exact absurd a Ty
 | n+1,d,x,y,_,_,Q,E,.inr ⟨b,l,r,k,m,f,j,a,w,N,O,_,h⟩,g,q=>by
  subst f j;rcases g with⟨v,c,_⟩ | ⟨P,z,p,A,e,c,B,C,D,R,S,_,F⟩
  .exact absurd c.symm Ty
  .obtain⟨rfl,rfl⟩:=zBv c;subst B;refine .inr (.inr ⟨l,z,b,r,p,rfl,a,C,w.trans D.symm,by lia,λi x y H' T E t G s I=>?_,q⟩);have U:=(AF.mp t).1;have u:k[i]?=some (k[i]'(by lia)):=AC _;have J:m[i]?=some (m[i]'(by lia)):=AC _;have K:e[i]?=some (e[i]'(by lia)):=AC _;exact((h i _ x _ u t J).same s).alike ((F i _ y _ u G K).same s) I
section
variable{P:A7}{w:F8}{K:PySem.W.Frag}{mg:Str->A5 A3}{base:IJ}
theorem Ag(T:Tx K mg):∀n,IK P w K mg base IY n T.ax.f T.ax.fd ["_law_found", "_law_due"] (Av n)
 | 0=>Zs
 | n+1=>Gk T (Ag T n)
end
def Si:∀{a b:A1 Str},TS.MS a=TS.MS b->a=b
 | [],[],_=>rfl
 | [],_::_,h=>by cases h
 | _::_,[],h=>by cases h
 | x::a,y::b,h=>by
  obtain⟨c,d⟩:=HC h;rw[Lm c,Si d]
def zAa{a b:A1 (A1 Str)}(h1:a.Pairwise λx y=>TS.KB (TS.MS y) (TS.MS x)=false)(h2:b.Pairwise λx y=>TS.KB (TS.MS y) (TS.MS x)=false)(h:a.Perm b):a=b :=
 HF (λx y _ _ h1 h2=>Si (TS.NM _ _ h2 h1)) h1 h2 h
def SW(ls:A1 (A1 Str)):PyData:=.list (ls.map sd)
def zDw{K:PySem.W.Frag}{H:Hp}{r:A2}{ts:A1 (A2×A1 Str)}(a:H r=some (.lst (ts.map λt=>V.ref t.1)))(b:∀t∈ts,H t.1=some (.lst (t.2.map V.str))):Rp K H (SW (ts.map λt=>t.2)) (.ref r):=by
 unfold SW;simp only[Rp];refine⟨r,_,rfl,IQ.of a,?_⟩;clear a
 induction ts with
 | nil=>simp[PU]
 | cons t ts c =>
  show PU K H (sd t.2 ::(ts.map λt=>t.2).map sd) (V.ref t.1::ts.map λt=>V.ref t.1);simp only[PU];exact⟨_,_,rfl,Ti (IQ.of (b t (BE ..))),c λu d=>b u (BA _ d)⟩
def zEj{ls:A1 (A1 Str)}(h:∀l∈ls,∀y∈l,P5 y=true):Pl (SW ls):=by
 have c:∀ls:A1 (A1 Str),(∀l∈ls,∀y∈l,P5 y=true)->PyData.canLayAll0 (ls.map sd)=true/\PyData.depthAll (ls.map sd)<=10:=λls=>by
  induction ls with
  | nil=>exact λ_=>⟨rfl,by simp[PyData.depthAll]⟩
  | cons l ls e =>
   intro h;obtain⟨f,i⟩:=e λu g=>h u (BA _ g);have p:=Sc (h l (BE ..));have d:(sd l).depth<=10:=by
    unfold sd;rw[PyData.depth];have:=y4 l;lia
   rw[BB,PyData.canLayAll0,PyData.depthAll,p.1,f];exact⟨rfl,by lia⟩
 obtain⟨a,b⟩:=c ls h;refine⟨by unfold SW;rw[PyData.canLay0];exact a,?_⟩;unfold SW;rw[PyData.depth];lia
def zDx(ns:A1 Str)(ks:A1 (Str×Str)):∃A,MB ns ks A :=
 ⟨(List.range ns.length).map λi=>u9 ns.length λj=>∃k∈ks,ns[i]?=some k.1/\ns[j]?=some k.2,by rw[AA,CD],λi j=>by
  rw[AV,AH];by_cases c:i<ns.length
  .rw[List.getElem?_range c];show(u9 _ _).testBit j=true↔_;rw[R8];exact⟨λh=>h.2,λ⟨k,d,a,b⟩=>⟨(AF.mp b).1,k,d,a,b⟩⟩
  .rw[DR (by rw[CD];lia)];refine⟨λh=>?_,λ⟨k,d,a,b⟩=>absurd (AF.mp a).1 c⟩;rw[Option.map_none,Option.getD_none,DG]at h;cases h⟩
def zHj(ns:A1 Str)(a:Nat->Prop)(Ms:A1 Nat):Prop:=Ms.Nodup/\(∀m,m∈Ms↔a m)/\(Ms.map (JG ns)).Pairwise λx y=>TS.KB (TS.MS y) (TS.MS x)=false
def TB(ns:A1 Str)(a:Nat->Prop):A1 Nat:=Classical.epsilon (zHj ns a)
def zBy{ns:A1 Str}{b:Nat->Prop}{Ms:A1 Nat}(g:ns.Nodup)(lo:∀m,b m->JW ns.length m)(h:zHj ns b Ms):Ms=TB ns b:=by
 have i:zHj ns b (TB ns b):=Classical.epsilon_spec ⟨Ms,h⟩;obtain⟨j,d,k⟩:=h;obtain⟨n,f,o⟩:=i;have p:Ms.Perm (TB ns b):=(ES j n).mpr λm=>(d m).trans (f m).symm;have e:=congrArg (List.map (RS ns)) (zAa k o (p.map _));rw[BV,BV]at e;have a:∀l:A1 Nat,(∀m∈l,JW ns.length m)->l.map (RS ns∘JG ns)=l:=λl q=>by
  conv=>rhs;rw[<-List.map_id l]
  exact HA λM r=>Ru g (q M r)
 rwa [a Ms λm c=>lo m ((d m).mp c),a _ λm c=>lo m ((f m).mp c)]at e
def llD(ls:A1 (A1 Str)):PyData:=.list (ls.map λs=>.list (s.map PyData.str))
def Zl{H:Hp}{r:A2}{ts:A1 (A2×A1 Str)}{n:Nat}(er:H r=some (.lst (ts.map λt=>V.ref t.1)))(a:∀t∈ts,H t.1=some (.lst (t.2.map V.str)))(c:ts.length<=300)(d:∀t∈ts,t.2.length<=300/\∀y∈t.2,PySem.PyData.strOk y=true):Ow H (n+3) (llD (ts.map λt=>t.2)) (.ref r) (r::ts.map λt=>t.1):=by
 have h:=Ow.rows (H:=H) (n:=n+2) (b:=true) (l:=r) (xs:=ts.map λt=>(V.ref t.1,PyData.list (t.2.map PyData.str),[t.1])) (by rw[BV];exact er) (by rw[AA];exact c) λx f=>by
  obtain⟨t,e,rfl⟩:=AJ.mp f;exact Ow.strs (n:=n) (b:=true) (a t e) (d t e).2 (d t e).1
 rw[BV,BV]at h;have g:(ts.map ((λx:V×PyData×A1 A2=>x.2.2)∘λt=>(V.ref t.1,PyData.list (t.2.map PyData.str),[t.1]))).flatten=ts.map λt=>t.1:=by
  clear h er a c d
  induction ts with
  | nil=>rfl
  | cons t ts i=>rw[BB,List.flatten_cons,i];rfl
 rw[g]at h;unfold llD;rw[BV];exact h
def zGe(ns:A1 Str)(A B:A1 Nat)(L:Nat)(F:RY)(Ms:A1 Nat):PyData:=.tuple [llD (Ms.map (JG ns)),T_ ns A B L (F ns A B Ms) (w6 ns.length 0) 0]
def TC(ns:A1 Str)(A B:A1 Nat)(L m a:Nat):PyData :=
 if a=0 then(match V9 A B ns.length L 13 m with
  | some r=>.tuple [.str "told",.list ((JG ns r).map PyData.str)]
  | none=>.tuple [.str "none",T_ ns A B L (Kx ns A B []) (w6 ns.length m) m])
 else if a=1 then zGe ns A B L Kx (TB ns (OF V4 ns.length A B))else zGe ns A B L Pw (TB ns (MC ns.length A B))
def UC(H:Hp)(t:A2)(Ls:A1 A2):Prop:=(∃(l:A2) (b:A1 Str),H t=some (.tup [.str "told",.ref l])/\H l=some (.lst (b.map V.str))/\b.length<=100/\Ls = [l])\/(∃x:V,H t=some (.tup [.str "none",x])/\Ls = []) \/
 ∃(r c:A2) (a:A1 (A2×A1 Str)),H t=some (.tup [.ref r,.ref c])/\H r=some (.lst (a.map λt=>V.ref t.1))/\(∀t∈a,H t.1=some (.lst (t.2.map V.str)))/\a.length<=300/\(∀t∈a,t.2.length<=300/\∀y∈t.2,P5 y=true)/\Ls=r::a.map λt=>t.1
def UC.kp{H H':Hp}{t:A2}{Ls:A1 A2}(s:KP H H')(h:UC H t Ls):UC H' t Ls:=by
 rcases h with⟨l,e,a,c,d,b⟩ | ⟨x,a,b⟩ | ⟨r,f,g,a,c,d,b,i,j⟩
 .exact .inl ⟨l,e,s _ _ a (λ_ z=>by cases z),s _ _ c (λ_ z=>by cases z),d,b⟩
 .exact .inr (.inl ⟨x,s _ _ a (λ_ z=>by cases z),b⟩)
 .exact .inr (.inr ⟨r,f,g,s _ _ a (λ_ z=>by cases z),s _ _ c (λ_ z=>by cases z),λt k=>s _ _ (d t k) (λ_ z=>by cases z),b,i,j⟩)
def zDb{k H:Hp}{ns:A1 Str}{A B Ms:A1 Nat}{L:Nat}{F:RY}{f:Nat->Prop}{t r o:A2}{ts:A1 (A2×A1 Str)}(x:∀y∈ns,P5 y=true)(G:ns.Nodup)(I:ns.length<=10)(J:∀m,∀s∈F ns A B Ms m,s.1.length<=10/\∀a∈s.1,SR a)(lo:∀m,f m->JW ns.length m)
  (K:k r=none) (z:H t=some (.tup [.ref r,.ref o])) (er:H r=some (.lst (ts.map λt=>V.ref t.1))) (g:RD k H ts) (N:∀t∈ts,t.1≠r) (i:(ts.map λt=>t.2)=Ms.map (JG ns)) (p:Ms.Nodup) (O:∀m,m∈Ms↔f m) (le:Ms.length<=300) (q:ts.Pairwise (λa b=>TS.KB (TS.MS b.2) (TS.MS a.2)=false)) (d:S4 ns A B L (F ns A B Ms) H 0 o) :
  Ow H 40 (zGe ns A B L F (TB ns f)) (.ref t) (r::ts.map λt=>t.1)/\(r::ts.map λt=>t.1).Nodup/\(∀l∈r::ts.map λt=>t.1,k l=none)/\UC H t (r::ts.map λt=>t.1):=by
 have P:Ms=TB ns f:=zBy G lo ⟨p,O,by rw[<-i];exact CC.mpr q⟩;have C:ts.length<=300:=by
  have:=congrArg List.length i;rw[AA,AA]at this;lia
 have u:∀t∈ts,t.2.length<=300/\∀y∈t.2,P5 y=true:=λt j=>by
  obtain⟨M,_,e⟩:=AJ.mp (i▸AJ.mpr ⟨t,j,rfl⟩:t.2∈Ms.map (JG ns));have D:=o9 ns M;rw[<-e];exact⟨Nat.le_trans D.length_le (by lia),λy v=>x y (D.subset v)⟩
 refine⟨?_,CL.mpr ⟨λh=>?_,g.nd⟩,λl hl=>?_,.inr (.inr ⟨r,o,ts,z,er,g.at_,C,u,rfl⟩)⟩
 .rw[<-P];unfold zGe;have E:=Zl (n:=36) er g.at_ C λt j=>⟨(u t j).1,λy v=>X3 ((u t j).2 y v)⟩;rw[i]at E;have S:w6 ns.length 0<=13:=by unfold w6;lia
  have Q:=(Lg x (by lia) J d).up (m:=39) (by lia);have R:=Ow.two (n:=39) z E Q
  rwa [CA]at R
 .obtain⟨w,c,e⟩:=AJ.mp h;exact N w c e
 .rcases AL.mp hl with rfl | hl
  .exact K
  .obtain⟨w,c,rfl⟩:=AJ.mp hl;exact g.new w c
section
variable{P:A7}{w:F8}{K:PySem.W.Frag}{mg:Str->A5 A3}{base:IJ}
theorem Jg:II ["_law_web", "_law_way", "_law_some_here"] ["_law_web", "_law_way", "_law_some_here"] (B7 ON):=KO
def Mn(K:PySem.W.Frag)(n g:A2):Sp:=λo H Q _=>∃(i b:A2) (a:A1 Str) (h:A1 JS) (e:A1 Str) (A B:A1 Nat) (L m c:Nat),o = [.ref i,.int (c:Int),.ref b]/\JP n H i a h/\a.length<=10/\(∀y∈a,P5 y=true)/\a.Nodup/\RX K H b (e.map V.str)/\(∀y∈e,y∈a)/\e.Nodup/\K0 H g B9 /\
 MB a ((h.map λq=>q.2).map λk=>(k.2,k.1)) A/\MB a (h.map λq=>q.2) B/\(∀j,L.testBit j=true↔(A.getD j 0).testBit j=true)/\JW a.length m/\(∀(j:Nat) y,a[j]?=some y->(m.testBit j=true↔y∈e)) /\
  ∀t f d,Sm [g] H d->K0 d g B9->Ow d 40 (TC a A B L m c) (.ref t) f->f.Nodup->(∀l∈f,H l=none)->UC d t f->Q (.ref t) d
theorem Ix(T:Tx K mg)(N:base.BuiltinsAt mg T.aa):IK P w K mg base IY 24 T.aE.f T.aE.fd ["_law_web", "_law_way", "_law_some_here"] (Mn K T.ag T.aa):=by
 have a:IK P w K mg base IY 22 T.aF.f T.aF.fd ["web", "some"] (Ur K T.ag T.aa):=Ao T N;have c:IK P w K mg base IY 23 T.aG.f T.aG.fd ["web"] (Vh T.ag T.aa (OF V4) Kx):=Ak T N;have d:IK P w K mg base IY 23 T.aH.f T.aH.fd ["web"] (Vh T.ag T.aa MC Pw):=Ai T N;refine T.aE.F.o1 Jg λcdv A O s H vs Q E i h=>?_
 .obtain⟨R,b,u,S,ss,A,B,L,m,j,rfl,U,e,v,nd,ha,sub,I,W,X,Y,Z,lo,hm,q⟩:=h;refine⟨_,(B3 (J7 (C8 T0 (pv 1) B8 (E5 _)) (B4 (C1 (C7 T.aF a (Rm i) (A8 (pv 0) (A8 (pv 2) B2))))) C3)
   (B3 (J7 (C8 T0 (pv 1) B8 (E5 _)) (B4 (C1 (C7 T.aG c (Rm i) (A8 (pv 0) B2)))) C3)
   (B4 (C1 (C7 T.aH d (Rm i) (A8 (pv 0) B2)))))),?_⟩
  have lss:ss.length<=10:=Nat.le_trans (I.length_le_of_subset sub) e;refine B6 λN1 hN1=>?_;refine A6 rfl ⟨rfl,_,rfl,Q3 (λc1=>?_) λc1=>?_⟩
  .have J:j=0:=by
    have:=V.int.inj (BJ c1);lia
   subst J;refine A6 rfl (A6 rfl ⟨R,b,u,S,ss,A,B,L,m,rfl,U,by lia,ha,sub,I,by lia,W,X,Y,Z,lo,hm,λr i t l o k C ht hl p el=>?_,λhn t l o k C ht p tr=>?_⟩)
   .have sb:=o9 u r;have h1:Ow o 40 (TC u A B L m 0) (.ref t) [l]:=by
     unfold TC;rw[AO rfl,i];exact Ow.two (n:=39) (L:=[]) (M:=[l]) p (Ow.str (n:=38) (by decide +kernel)) (Ow.strs (n:=37) (b:=true) el (λy hy=>X3 (v y (sb.subset hy))) (Nat.le_trans sb.length_le (by lia)))
    exact q t [l] o k C h1 (DE _ _) (λx hx=>by rw[AD.mp hx];exact hl) (.inl ⟨l,_,p,el,Nat.le_trans sb.length_le (by lia),rfl⟩)
   .have fl:w6 u.length m<=13:=by unfold w6;lia
    have h1:Ow o 40 (TC u A B L m 0) (.ref t) []:=by
     unfold TC;rw[AO rfl,hn];exact Ow.two (n:=39) (L:=[]) (M:=[]) p (Ow.str (n:=38) (by decide +kernel)) ((Lg v (by lia) (Yw v) tr).up (by lia))
    exact q t [] o k C h1 ER (λx hx=>absurd hx AY) (.inr (.inl ⟨_,p,rfl⟩))
  have J:j≠0:=λz=>c1 (by rw[z];exact AX rfl);refine hN1 _ _ (B6 λN2 hN2=>?_);refine A6 rfl ⟨rfl,_,rfl,Q3 (λc2=>?_) λc2=>?_⟩
  .have c3:j=1:=by
    have:=V.int.inj (BJ c2);lia
   subst c3;refine A6 rfl ⟨R,u,S,A,B,L,rfl,U,e,W,X,Y,Z,λt r tr ts Ms o k C ht i p er LL nr eM D mm le G g=>?_⟩;obtain⟨o1,o2,o3,o4⟩:=zDb v nd e (Yw v) (λm h=>h.1.1.1) i p er LL nr eM D mm le G g;refine q t _ o k C ?_ o2 o3 o4;unfold TC;rw[AN J,AO rfl];exact o1
  have c3:j≠1:=λz=>c2 (by rw[z];exact AX rfl);refine hN2 _ _ ?_;refine A6 rfl ⟨R,u,S,A,B,L,rfl,U,e,W,X,Y,Z,λt r tr ts Ms o k C ht i p er LL nr eM D mm le G g=>?_⟩;obtain⟨o1,o2,o3,o4⟩:=zDb v nd e (zFw v) (λm h=>h.1) i p er LL nr eM D mm le G g;refine q t _ o k C ?_ o2 o3 o4;unfold TC;rw[AN J,AN c3];exact o1
end
def Fv{z:Str}(o:PySem.PyData.strOk z=true):Pl (.str z):=⟨by rw[PyData.canLay0];exact o,by rw[PyData.depth];decide⟩
def Rg(x y:Str):PyData.eqv (.str x) (.str y)=decide (x=y):=by rw[PyData.eqv];exact BP.mpr (by simp)
section
variable{P:A7}{w:F8}{K:PySem.W.Frag}{mg:Str->A5 A3}{base:IJ}
theorem KR:II ["_law_found", "_law_one"] ["_law_found"] (B7 K_):=KO
def Vb:Sp:=λd H Q _=>∃(t:A2) (b:A1 A2),d = [.ref t]/\UC H t b/\b.Nodup/\∀c,(∀a o,H a=some o->a∉b->c a=some o)->Q .non c
theorem g9(T:Tx K mg):IK P w K mg base IY 1 T.aQ.f T.aQ.fd ["_law_found"] Vb:=by
 refine T.aQ.F.o1 KR λZ A D s H vs Q E hr h=>?_
 .obtain⟨t,Ls,rfl,sh,nd,q⟩:=h;refine⟨_,(B3 (J7 (C8 (Wk K hr.units) (M9 (RC K) (pv 0) B8 (λ_ _=>rfl)) R9 (E5 _)) (B4 (E2 (Fu K PySem.F.plainAttrs_list PySem.F.slot_list_append PySem.F.type_list_append G8 (M9 (RC K) (pv 0) B8 (λ_ _=>rfl)) (A8 R9 B2)))) C3)
   (B4 (J7 (Q2 (I9 (P1 K) T.ak C6 (A8 (M9 (RC K) (pv 0) B8 (λ_ _=>rfl)) (A8 (Y5 T.aI Q5) B2)))) (B3 (U2 PassesOwn.never rfl (OU K (M9 (RC K) (pv 0) B8 (λ_ _=>rfl))) (D6 (i:=1) KR.nd rfl (.inl rfl))
   (B4 (E2 (Fu K PySem.F.plainAttrs_list PySem.F.slot_list_append PySem.F.type_list_append G8 (pv 1) (A8 R9 B2)))))
   (B4 (E2 (Fu K PySem.F.plainAttrs_list PySem.F.slot_list_append PySem.F.type_list_append G8 (M9 (RC K) (pv 0) B8 (λ_ _=>rfl)) (A8 (O8 (A8 R9 B2)) B2))))) C3))),?_⟩
  refine B6 λN1 g=>?_;rcases sh with⟨l,ss,d,I,lss,rfl⟩ | ⟨x,d,rfl⟩ | ⟨r,tr,m,d,er,p,lts,S,rfl⟩
  .refine A6 rfl ⟨t,_,C0 rfl rfl ⟨JH.of d,E9 (j:=0) rfl,⟨.str "told",.str "told",by simp only[Rp],by simp only[Rp],Fv (by decide +kernel),Fv (by decide +kernel),?_⟩⟩⟩;rw[Rg,AX rfl];refine⟨_,rfl,Fw ?_⟩;refine A6 rfl ⟨t,_,C0 rfl rfl ⟨JH.of d,E9 (j:=1) rfl,?_⟩⟩;refine⟨.inl ⟨rfl,_,IQ.of I⟩,⟨l,_,_,rfl,rfl,I,by rw[AA,sizeLine_eq];lia,g _ _ ?_⟩⟩;have nt:t≠l:=λz=>by rw[z,I]at d;cases d
   refine A6 rfl ⟨t,_,C0 rfl rfl ⟨JH.of ((B5 nt).trans d),E9 (j:=0) rfl,?_⟩⟩;refine⟨.str "told", "list",_,false,rfl,.str _,rfl,_,rfl,i7 ?_⟩;exact q _ λa o e n=>(B5 λz=>n (by rw[z];exact .head _)).trans e
  .refine A6 rfl ⟨t,_,C0 rfl rfl ⟨JH.of d,E9 (j:=0) rfl,⟨.str "none",.str "told",by simp only[Rp],by simp only[Rp],Fv (by decide +kernel),Fv (by decide +kernel),?_⟩⟩⟩;rw[Rg,BC (by decide +kernel)];refine⟨_,rfl,i7 (g _ _ ?_)⟩;refine A6 rfl ⟨t,_,C0 rfl rfl ⟨JH.of d,E9 (j:=0) rfl,?_⟩⟩;refine⟨.str "none", "list",_,false,rfl,.str _,rfl,_,rfl,i7 ?_⟩;exact q _ λa o e _=>e
  .refine A6 rfl ⟨t,_,C0 rfl rfl ⟨JH.of d,E9 (j:=0) rfl,⟨SW (m.map λt=>t.2),.str "told",zDw er p,by simp only[Rp],zEj (λl hl=>?_),⟨by rw[PyData.canLay0];decide +kernel,by rw[PyData.depth];decide⟩,?_⟩⟩⟩
   .obtain⟨v,c,rfl⟩:=AJ.mp hl;exact(S v c).2
   rw[show PyData.eqv (SW (m.map λt=>t.2)) (.str "told")=false by unfold SW;rw[PyData.eqv]];refine⟨_,rfl,i7 (g _ _ ?_)⟩;refine A6 rfl ⟨t,_,C0 rfl rfl ⟨JH.of d,E9 (j:=0) rfl,?_⟩⟩;refine⟨.ref r, "list",_,true,rfl,.lst er,rfl,_,rfl,Fw ?_⟩;obtain⟨U,J⟩:=CL.mp nd;have L:∀(i:Nat) y,y∈(m.take i).map (λt=>t.1)->y∈m.map λt=>t.1:=λi y h=>by
    obtain⟨v,c,e⟩:=AJ.mp h;exact AJ.mpr ⟨v,CJ c,e⟩
   refine B6 λN2 M=>?_;refine A6 rfl ⟨t,_,C0 rfl rfl ⟨JH.of d,E9 (j:=0) rfl,r,rfl,⟨_,IQ.of er⟩,?_⟩⟩;refine Yk (OW (K:=K) (IQ.of er)) (λi σ G=>(∃N,σ = [some (.ref t),N])/\∀a o,H a=some o->a∉(m.take i).map (λt=>t.1)->G a=some o) ⟨⟨_,rfl⟩,λa o e _=>e⟩ (λi σ G hi h o e=>h.2 _ _ e λz=>?_) (λi σ G x V h=>?_) λσ G h=>M _ _ ?_
   .exact U (L i _ z)
   .obtain⟨⟨N,rfl⟩,k⟩:=h;rw[AH]at V;obtain⟨u,C,rfl⟩:=BF.mp V;have W:=k _ _ (p u (AM C)) λz=>by
     obtain⟨v,c,e⟩:=AJ.mp z;obtain⟨j,O⟩:=ED.mp c;have lj:j<i:=by have:=(AF.mp O).1;rw[AW]at this;lia
     rw[List.getElem?_take,AO lj]at O;have:=l7 J (show(m.map λt=>t.1)[j]?=some u.1 by rw[AH,O,<-e];rfl) (show(m.map λt=>t.1)[i]?=some u.1 by rw[AH,C];rfl);lia
    have lu:=(S u (AM C)).1;refine A6 rfl ⟨.inl ⟨rfl,_,IQ.of W⟩,⟨u.1,_,_,rfl,rfl,W,by rw[AA,sizeLine_eq];lia,⟨_,rfl⟩,λa o e n=>?_⟩⟩;rw[I7 C,AK]at n;exact(B5 λz=>n (BI _ (by rw[z];exact .head _))).trans (k a o e λz=>n (EL _ z))
   .obtain⟨⟨N,rfl⟩,k⟩:=h;have B:=k _ _ er λz=>U (L _ _ z);have R:=k _ _ d λz=>by
     obtain⟨v,c,e⟩:=AJ.mp z;have e:=p v (CJ c);rw[‹v.1=t›,d]at e;cases e
    refine A6 rfl ⟨t,_,C0 rfl rfl ⟨JH.of R,E9 (j:=0) rfl,⟨.inl ⟨rfl,_,IQ.of B⟩,by show 1<=sizeLine;decide,λb X=>⟨r,_,_,rfl,rfl,Cs.new X _ _ B,by rw[AA,sizeLine_eq];lia,q _ λa o e n=>?_⟩⟩⟩⟩;have Y:=k a o e λz=>n (.tail _ (L _ _ z));exact(B5 λz=>n (by rw[z];exact .head _)).trans ((B5 (A9 Y X)).trans Y)
end
def Hn{α β:Type}(f:α->β)(a:A1 Nat)(xs:A1 α):U0 a (xs.map f) =(U0 a xs).map f:=by
 unfold U0;rw[List.map_filterMap];congr 1;funext k;rw[AH]
def Bg{H:Hp}:∀{c:A1 (A2×V×V)} {as bs:A1 Str},(c.map λp=>p.2) =(as.map V.str).zip (bs.map V.str)->(∀p∈c,H p.1=some (.tup [p.2.1,p.2.2]))->∃d:A1 JS,(c.map λp=>V.ref p.1)=K3 d/\(d.map λq=>q.2)=as.zip bs/\∀q∈d,F0 H q
 | [],[],bs,e,_=>⟨[],rfl,rfl,λq h=>absurd h AY⟩
 | [],a::as,[],e,_=>⟨[],rfl,rfl,λq h=>absurd h AY⟩
 | [],a::as,b::bs,e,_=>by cases e
 | p::c,[],bs,e,_=>by cases e
 | p::c,a::as,[],e,_=>by cases e
 | p::c,a::as,b::bs,e,h=>by
  obtain⟨g,i⟩:=HC e;obtain⟨d,j,k,l⟩:=Bg i λp f=>h p (.tail _ f);have f:=h p (.head _);have g:p.2 =(V.str a,V.str b):=g;rw[g]at f;refine⟨(p.1,a,b)::d,?_,?_,λq hq=>?_⟩
  .show V.ref p.1 ::(c.map λp=>V.ref p.1)=V.ref p.1::K3 d;rw[j]
  .show(a,b) ::(d.map λq=>q.2) =(a,b)::as.zip bs;rw[k]
  .rcases AL.mp hq with e | hq
   .rw[e];exact f
   .exact l q hq
def zDz{α:Type}{J:It}{d:A1 α}{r:α->V}{a D:A2}{H:Hp}(as:LY J (d.map r) a H){u:TT}{w:TE}{c:St}{x:A5 V}{Q:St->Hp->Prop}(p:α->Bool)(g:α->Str×Str)(P:d.length<=1000)(A:H D=none)
  (R:∀y∈d,∀G,Cs H G->∀M:Bool->Hp->Prop,(∀j,Cs G j->M (p y) j)->u (some (r y)::c) G M)
  (S:∀y∈d,∀G,Cs H G->∀M:VK,(∀t,G t=none->M (.ref t) (IH G t (.tup [.str (g y).1,.str (g y).2])))->w (some (r y)::c) G M)
  (q:∀σ G (b:A1 JS),Cs H G->G D=some (.lst (K3 b))->(∀z∈b,F0 G z)->(b.map λz=>z.2) =(d.filter p).map g->Q σ G):Ji (W8 0) u (Cp D w) J (x::c) (IH H D (.lst [])) Q:=by
 refine V1 as (λi σ G=>(∃v,σ=v::c)/\Cs H G/\∃b:A1 JS,G D=some (.lst (K3 b))/\(∀z∈b,z.1≠D/\F0 G z)/\(b.map λz=>z.2) =((d.take i).filter p).map g) ⟨⟨_,rfl⟩,Cs.new A,[],B1,λz h=>absurd h AY,rfl⟩ (λi σ G _ h=>h.2.1.at a) ?_ ?_
 .rintro i σ G v N B ⟨⟨x,rfl⟩,f,b,k,e,l⟩ C;rw[AH]at B;obtain⟨y,E,rfl⟩:=BF.mp B;have F:=AM E;refine R y F G f _ λj n=>?_;have k:=n _ _ k;have f:=f.trans n;have e:∀z∈b,z.1≠D/\F0 j z:=λz m=>⟨(e z m).1,n _ _ (e z m).2⟩;have I:(d.take (i+1)).filter p =(d.take i).filter p++if p y=true then [y]else []:=by
   rw[I7 E,EI,DL,List.filter_nil]
  have T:b.length<=d.length:=by
   have:=congrArg List.length l;rw[AA,AA]at this;rw[this];exact Nat.le_trans (CH ..) (by rw[AW];exact Nat.min_le_right ..)
  refine Q3 (λs=>S y F j f _ λt K=>?_) (λs=>C _ _ ⟨⟨_,rfl⟩,f,b,k,e,?_⟩)
  .have st:=Cs.new (o:=.tup [.str (g y).1,.str (g y).2]) K;have L:t≠D:=(A9 k K).symm;have O:(IH j t (.tup [.str (g y).1,.str (g y).2])) t=some (.tup [.str (g y).1,.str (g y).2]):=B1;generalize IH j t (.tup [.str (g y).1,.str (g y).2])=U at st O⊢;refine⟨_,st _ _ k,by unfold K3;rw[AA,sizeLine_eq];lia,C _ _ ⟨⟨_,rfl⟩,(f.trans st).upd A,b ++ [(t,g y)],by rw[B1];unfold K3;rw[AK];rfl,λz m=>?_,by rw[AK,l,I,AO s,AK];rfl⟩⟩;rcases AR.mp m with h | h
   .exact⟨(e z h).1,(B5 (e z h).1).trans (st _ _ (e z h).2)⟩
   .rw[AD.mp h];exact⟨L,(B5 L).trans O⟩
  .rw[I,AN s,CA];exact l
 .rintro σ G ⟨_,f,b,k,e,l⟩;rw[AA,CK]at l;exact q σ G b f k (λz m=>(e z m).2) l
def zFc{K:PySem.W.Frag}{b D:A2}{d:A1 JS}{H:Hp}{c:St}{k l:A5 V}{s:TE}{Q:St->Hp->Prop}(g:JS->Str×Str)(E:H b=some (.lst (K3 d)))(F:∀q∈d,F0 H q)(I:d.length<=1000)(u:H D=none)
  (J:∀y∈d,∀G,Cs H G->∀M:VK,(∀t,G t=none->M (.ref t) (IH G t (.tup [.str (g y).1,.str (g y).2])))->s (some (.str y.2.1)::some (.str y.2.2)::c) G M)
  (q:∀σ G (a:A1 JS),Cs H G->G D=some (.lst (K3 a))->(∀z∈a,F0 G z)->(a.map λz=>z.2)=d.map g->Q σ G) :
  Ji (zGf K 2 (zBo (W8 0) (zBo (W8 1) zIn))) By (Cp D s) (UE K b) (k::l::c) (IH H D (.lst [])) Q:=by
 refine V1 (OW (IQ.of E)) (λi σ G=>(∃k l,σ=k::l::c)/\Cs H G/\∃a:A1 JS,G D=some (.lst (K3 a))/\(∀z∈a,z.1≠D/\F0 G z)/\(a.map λz=>z.2) =(d.take i).map g) ⟨⟨_,_,rfl⟩,Cs.new u,[],B1,λz h=>absurd h AY,rfl⟩ (λi σ G _ h=>h.2.1.at b) ?_ ?_
 .rintro i σ G v N n ⟨⟨k,l,rfl⟩,f,a,m,j,e⟩ L;unfold K3 at n;rw[AH]at n;obtain⟨r,w,rfl⟩:=BF.mp n;have x:=AM w;refine⟨r.1,_,rfl,JH.of (f _ _ (F r x)),rfl,⟨_,_,rfl,⟨_,_,rfl,⟨rfl,?_⟩⟩⟩⟩;have O:a.length<=d.length:=by
   have:=congrArg List.length e;rw[AA,AA,AW]at this;lia
  dsimp only[By];refine Fw (J r x G f _ λt A=>?_);have st:=Cs.new (o:=.tup [.str (g r).1,.str (g r).2]) A;have B:t≠D:=(A9 m A).symm;have C:(IH G t (.tup [.str (g r).1,.str (g r).2])) t=some (.tup [.str (g r).1,.str (g r).2]):=B1;generalize IH G t (.tup [.str (g r).1,.str (g r).2])=P at st C⊢;refine⟨_,st _ _ m,by unfold K3;rw[AA,sizeLine_eq];lia,L _ _ ⟨⟨_,_,rfl⟩,(f.trans st).upd u,a ++ [(t,g r)],by rw[B1];unfold K3;rw[AK];rfl,λz p=>?_,by rw[AK,e,I7 w,AK];rfl⟩⟩;rcases AR.mp p with h | h
  .exact⟨(j z h).1,(B5 (j z h).1).trans (st _ _ (j z h).2)⟩
  .rw[AD.mp h];exact⟨B,(B5 B).trans C⟩
 .rintro σ G ⟨_,f,a,m,j,e⟩;unfold K3 at e;rw[AA,CK]at e;exact q σ G a f m (λz p=>(j z p).2) e
def Kc:∀n:Nat,n<=12->(r8 n none none (some 2)).length<=12/\(r8 n (some 1) none (some 2)).length<=12/\(∀r∈r8 n none none (some 2),r<n)/\(∀r∈r8 n (some 1) none (some 2),r<n)/\(∀j:Fin 12,(r8 n none none (some 2))[j.1]?=none\/(r8 n none none (some 2))[j.1]?=some (2*j.1))/\∀j:Fin 12,(r8 n (some 1) none (some 2))[j.1]?=none\/(r8 n (some 1) none (some 2))[j.1]?=some (2*j.1+1):=by
 suffices h:∀n:Fin 13,(r8 n none none (some 2)).length<=12/\(r8 n (some 1) none (some 2)).length<=12/\(∀r∈r8 n none none (some 2),r<n.1)/\(∀r∈r8 n (some 1) none (some 2),r<n.1)/\(∀j:Fin 12,(r8 n none none (some 2))[j.1]?=none\/(r8 n none none (some 2))[j.1]?=some (2*j.1))/\∀j:Fin 12,(r8 n (some 1) none (some 2))[j.1]?=none\/(r8 n (some 1) none (some 2))[j.1]?=some (2*j.1+1)from
  λn a=>h ⟨n,Nat.lt_succ_of_le a⟩
 decide +kernel
def zDr{c:A1 Str}(d:c.length<=12){j:Nat}{a b:Str}(h:((U0 (r8 c.length none none (some 2)) c).zip (U0 (r8 c.length (some 1) none (some 2)) c))[j]?=some (a,b)):c[2*j]?=some a/\c[2*j+1]?=some b:=by
 obtain⟨m,u,n,o,p,q⟩:=Kc _ d;rw[GZ,Er n,Er o]at h;obtain⟨r,s⟩:=h;obtain⟨v,g,i⟩:=HN.mp r;obtain⟨w,t,k⟩:=HN.mp s;have l:j<12:=BK (AF.mp g).1 m;have e:=p ⟨j,l⟩;have f:=q ⟨j,l⟩;simp only[g,t]at e f;simp at e f;rw[e]at i;rw[f]at k;exact⟨i,k⟩
def zEn{c:A1 Str}(p:c.Nodup)(k:c.length<=12){zs:A1 (Str×Str)}(e:zs =(U0 (r8 c.length none none (some 2)) c).zip (U0 (r8 c.length (some 1) none (some 2)) c)) :
  (zs++zs.map λz=>(z.2,z.1)).Nodup/\zs.length<=12/\∀z∈zs,z.1∈c/\z.2∈c:=by
 have d:∀(j:Nat) z,zs[j]?=some z->c[2*j]?=some z.1/\c[2*j+1]?=some z.2:=λj z h=>zDr k (by rw[<-e];exact h);have q:zs.Nodup:=DY.mpr λi j l m w n=>by
  have f:=d i _ (AC l);have g:=d j _ (AC m);rw[<-n]at g;have:=l7 p f.1 g.1;lia
 refine⟨EB.mpr ⟨q,?_,λz o y r n=>?_⟩,?_,λz o=>?_⟩
 .refine CC.mpr (q.imp fun{a b} h e=>h ?_);injection e with s t;exact Prod.ext t s
 .obtain⟨x,u,rfl⟩:=AJ.mp r;obtain⟨i,l⟩:=ED.mp o;obtain⟨j,m⟩:=ED.mp u;have f:=(d i _ l).1;have g:=(d j _ m).2;rw[n]at f;have:=l7 p f g;lia
 .obtain⟨v,_⟩:=Kc _ k;have A:(U0 (r8 c.length none none (some 2)) c).length<=12:=Nat.le_trans (List.length_filterMap_le ..) v;rw[e,List.length_zip];lia
 .obtain⟨i,l⟩:=ED.mp o;obtain⟨f,g⟩:=d i _ l;exact⟨AM f,AM g⟩
def zDm{as:A1 Str}:as.Nodup->∀bs:A1 Str,(as.zip bs).Nodup/\∀z∈as.zip bs,z.1∈as/\z.2∈bs:=λc bs=>by
 refine⟨?_,λz d=>FT d⟩
 induction as generalizing bs with
 | nil=>rw[List.zip_nil_left];exact ER
 | cons a as e =>
  cases bs with
  | nil=>rw[List.zip_nil_right];exact ER
  | cons b bs =>
   rw[GJ];exact CL.mpr ⟨λh=>(CL.mp c).1 (FT h).1,e (CL.mp c).2 bs⟩
def Qk(a:A1 Str)(lo hi:A5 Int):∃bs:A1 Str,Je (a.map V.str) lo hi=bs.map V.str/\(∀y∈bs,y∈a)/\bs.length<=a.length:=by
 unfold Je;rw[<-List.map_drop,<-List.map_take];exact⟨_,rfl,λy h=>EJ (CJ h),by rw[AW,DD];lia⟩
def Uh(ns:A1 Str)(k:Nat):Je (ns.map V.str) none (some (k:Int)) =(ns.take k).map V.str:=by
 unfold Je;rw[HT.RP,HT.SH,FA,Nat.sub_zero,AA,<-List.map_take];congr 1;rw[<-HR,CK]
def KC.take{a:A1 Str}(h:KC a)(k:Nat):KC (a.take k):=⟨λx b=>h.1 x (CJ b),h.2.1.sublist (EN _ _),by rw[AW];have:=h.2.2;lia⟩
def Wx(b:A1 Str):∃a:Str,∀y∈b,QU (b.map V.str) 0=some (.str a)/\a∈b:=by
 cases b with
 | nil=>exact⟨"",λy h=>absurd h AY⟩
 | cons a c=>exact⟨a,λy h=>⟨E9 (j:=0) rfl,.head _⟩⟩
def zCc(b:A1 Str):∃a:Str,∀y∈b,QU (b.map V.str) (-1)=some (.str a)/\a∈b:=by
 rcases List.eq_nil_or_concat b with e | ⟨c,a,e⟩
 .exact⟨"",λy h=>by rw[e]at h;exact absurd h AY⟩
 .refine⟨a,λy h=>⟨?_,by rw[e,List.concat_eq_append];exact BI _ (.head _)⟩⟩;rw[e,List.concat_eq_append,AK];exact Wd _ _
def X0{H H':Hp}{p b:A2}{c:Int}(k:Sm [p] H H')(L:IT H' p c)(h:H' b=none):H b=none:=by
 cases e:H b with
 | none=>rfl
 | some o =>
  have:=KW k e λz=>by
   obtain⟨_,_,a,_⟩:=L;rw[z,a]at h;cases h
  rw[h]at this;cases this
section
variable{P:A7}{w:F8}{K:PySem.W.Frag}{mg:Str->A5 A3}{base:IJ}
theorem JI:II ["_law_left_here", "_law_most", "_law_names_here", "_law_way", "_law_twos", "_law_strikes_here"] ["_law_left_here", "_law_most"] (B7 MJ):=KO
def Xf:Sp:=λh H Q _=>∃(p:A2) (c:Int) (e:Nat),h = [.ref p,.int (e:Int)]/\e<=8/\IT H p c/\c<=700000 /\
 ∀t n a (d:A1 Str) (f:A1 JS) g b,H t=none->H n=none->H a=none->Sm [p] H b->b t=some (.tup [.ref n,.ref a])->b n=some (.lst (d.map V.str))->KC d->d.length<=e->b a=some (.lst (K3 f))->(∀q∈f,F0 b q)->M_ d f->g<=c+1100->IT b p g->Q (.ref t) b
theorem Ap(T:Tx K mg):IK P w K mg base IY 4 T.a1.f T.a1.fd ["_law_left_here", "_law_most"] Xf:=by
 refine T.a1.F.o1 JI λcdv A outer s H vs Q E hr h=>?_
 .obtain⟨p,c,mo,rfl,hmo,L1,c1,q⟩:=h;refine⟨_,(B3 (C2 (i:=2) JI.nd rfl (.inr rfl) (Bb (slL K) (C7 T.bf (Hj T) (Rm hr) (A8 (pv 0) (A8 (C7 T.bh (Jq T) (Rm hr) (A8 (pv 0) B2)) B2))) Z8 (d6 (pv 1))))
   (B3 (C2 (i:=3) JI.nd rfl (.inl rfl) (C7 T.am (D4 T) (Rm hr) (A8 (pv 0) (A8 B8 B2))))
   (B3 (J7 (C8 T0 (pv 3) B8 (E5 _)) (B4 (C1 (E8 (A8 (pv 2) (A8 (O8 B2) B2))))) C3)
   (B3 (J7 (C8 T0 (pv 3) B8 (E5 _)) (B3 (C2 (i:=4) JI.nd rfl (.inl rfl) (Yv K T.aI T.bz (A8 (Ja K (pv 2) Z8 Z8 (d6 B8)) (A8 (Ja K (pv 2) (d6 B8) Z8 (d6 B8)) B2))))
   (B4 (C1 (E8 (A8 (pv 2) (A8 (D3 Ly (pv 4) (U1 (N':=["_law_one", "_law_other"]) (cap:=[none,none]) (cl:=[]) (Q1 trivial trivial) rfl (OU K (pv 4)) (λ_ _ _ _=>by exact⟨(RB K (n:=2) (C9 (NR 0) (C9 (NR 1) O7))),J9,(E8 (A8 (pv 1) (A8 (pv 0) B2)))⟩))) B2)))))) C3)
   (B3 (J7 (C8 T0 (pv 3) B8 (E5 _)) (B4 (C1 (E8 (A8 (pv 2) (A8 (Yv K T.aI T.bz (A8 (pv 2) (A8 (D3 Ly (Bb (slL K) (pv 2) (d6 B8) Z8) (Bb (slL K) (pv 2) Z8 (d6 B8))) B2))) B2))))) C3)
   (B3 (J7 (C8 T0 (pv 3) B8 (E5 _)) (B3 (C2 (i:=5) JI.nd rfl (.inr rfl) (U1 (N':=["_law_one", "_law_names_here"]) (cap:=[none,some 2]) (cl:=[("_law_names_here",_)]) (Q1 ⟨⟨rfl,rfl,rfl,rfl⟩,trivial⟩ ⟨rfl,trivial⟩) rfl (OU K (pv 2)) (λ_ _ _ _=>by exact⟨(NR 0),J9,(E8 (A8 (pv 0) (A8 (M9 (P7 K) (pv 1) B8 (λ_ _=>rfl)) B2)))⟩)))
   (B4 (C1 (E8 (A8 (pv 2) (A8 (D3 Ly (pv 5) (U1 (N':=["_law_one", "_law_names_here", "_law_strikes_here"]) (cap:=[none,some 2,some 5]) (cl:=[("_law_strikes_here",_),("_law_names_here",_)]) (Q1 ⟨⟨rfl,rfl,rfl,rfl⟩,⟨⟨rfl,rfl,rfl,rfl⟩,trivial⟩⟩ ⟨rfl,⟨rfl,trivial⟩⟩) rfl (OU K (pv 2)) (λ_ _ _ _=>by exact⟨(NR 0),(Ca (C8 (Az K hr.units) (E8 (A8 (M9 (P7 K) (pv 1) (zCb Tj B8) (λ_ _=>rfl)) (A8 (pv 0) B2))) (pv 2) rfl)),(E8 (A8 (M9 (P7 K) (pv 1) (zCb Tj B8) (λ_ _=>rfl)) (A8 (pv 0) B2)))⟩))) B2)))))) C3)
   (B4 (C1 (E8 (A8 (pv 2) (A8 (C7 T.aV (Z0 T) (Rm hr) (A8 (pv 0) (A8 (pv 2) B2))) B2))))))))))),?_⟩
  refine B6 λN1 hN1=>?_;refine A6 rfl (A6 rfl ⟨p,_,rfl,L1,by lia,λsz H2 hsz k2 L2=>?_⟩);refine⟨p,_,sz,rfl,L2,by lia,by lia,λn0 s0 H3 hn0 k3 e3 l3 N3 L3=>?_⟩;refine A6 rfl (A6 rfl ⟨n0,_,rfl,IQ.of e3,λn hn=>?_⟩);have hnH:H n=none:=X0 k2 L2 (X0 k3 L3 hn);have un:=Cs.new (o:=.lst (Je (s0.map V.str) none (some (mo:Int)))) hn;have e3:(IH H3 n (.lst (Je (s0.map V.str) none (some (mo:Int))))) n=some (.lst ((s0.take mo).map V.str)):=by rw[B1,Uh]
  generalize IH H3 n (.lst (Je (s0.map V.str) none (some (mo:Int))))=H3' at un e3⊢;have N3:=N3.take mo;have lmo:(s0.take mo).length<=mo:=by rw[AW];lia
  generalize s0.take mo=g at e3 N3 lmo;have l12:g.length<=12:=by lia
  have L3:=L3.same un;have k3:=k3.trans un.sm;refine hN1 _ _ (B6 λN2 hN2=>?_);refine A6 rfl (q9 (a:=p) rfl L3 (by lia) (by decide) (by decide) λd H4 hd R X=>?_);have C:=KW R e3 (L3.ne e3);have R:=k2.trans (k3.trans R);clear e3 L3 L2 L1 hN1 un hn hn0;have Y:∀(a:A2) (S:A1 JS) (U:Hp) (c5:Int),H a=none->Sm [p] H U->U n=some (.lst (g.map V.str))->IT U p c5->c5<=c+1100->U a=some (.lst (K3 S))->(∀q∈S,F0 U q)->M_ g S->2<=sizeLine/\∀t,U t=none->Q (.ref t) (IH U t (.tup [.ref n,.ref a])):=λa S U c5 Z k e L hc ea pin O=>⟨by decide,λt ht=>by
   have ut:=Cs.new (o:=.tup [.ref n,.ref a]) ht;exact q t n a g S c5 _ (X0 k L ht) hnH Z (k.trans ut.sm) B1 (ut _ _ e) N3 lmo (ut _ _ ea) (Q8 ut pin) O hc (L.same ut)⟩
  have nmO:∀{zs:A1 (Str×Str)} {S:A1 JS},(S.map λq=>q.2)=zs->zs.Nodup->(∀z∈zs,z.1∈g/\z.2∈g)->zs.length<=200->M_ g S:=fun{zs S} e nd m l=>⟨λz N=>m z.2 (by rw[<-e];exact AJ.mpr ⟨z,N,rfl⟩),by rw[e];exact nd,by rw[<-e,AA]at l;exact l⟩;refine hN2 _ _ (B6 λN3' hN3=>?_);refine A6 rfl ⟨rfl,_,rfl,Q3 (λc1=>?_) λc1=>?_⟩
  .exact A6 rfl ⟨CB _,λa Z=>Y a [] _ _ (X0 R X Z) (R.new Z) (Cs.new Z _ _ C) (X.same (Cs.new Z)) (by lia) B1 (λq h=>absurd h AY) (nmO rfl ER (λq h=>absurd h AY) (CB _))⟩
  refine hN3 _ _ (B6 λN4 hN4=>?_);refine A6 rfl ⟨rfl,_,rfl,Q3 (λc2=>?_) λc2=>?_⟩
  .obtain⟨b1,b2,_⟩:=Kc _ l12;have lm:(g.map V.str).length=g.length:=AA ..;have pk:∀rs:A1 Nat,rs.length<=12->(U0 rs (g.map V.str)).length<=sizeLine:=λrs h=>Nat.le_trans (List.length_filterMap_le ..) (Nat.le_trans h (by decide));refine B6 λM1 hM1=>?_;refine A6 rfl (A6 rfl ⟨by decide,n,_,rfl,IQ.of C,pk _ (by rw[lm];exact b1),λu hu=>?_⟩);have su:=Cs.new (o:=.lst (U0 (r8 (g.map V.str).length none none (some 2)) (g.map V.str))) hu;refine A6 rfl (A6 rfl (A6 rfl ⟨by decide,n,_,rfl,IQ.of (su _ _ C),pk _ (by rw[lm];exact b2),λv hv=>?_⟩));have sv:=Cs.new (o:=.lst (U0 (r8 (g.map V.str).length (some 1) none (some 2)) (g.map V.str))) hv;refine⟨u,v,_,_,rfl,IQ.of (sv _ _ B1),IQ.of B1,λS l U W hl el mp at_=>?_⟩;have W:=(su.trans sv).trans W;rw[lm,Hn,Hn]at mp;obtain⟨I,q1,q2,q3⟩:=Bg mp λp hp=>(at_ p hp).2;rw[q1]at el;obtain⟨nd,lz,mz⟩:=zEn N3.2.1 l12 q2;have lq:I.length<=12:=by rw[AA]at lz;exact lz
   refine hM1 _ _ (A6 rfl (A6 rfl (A6 rfl ⟨l,rfl,⟨_,IQ.of el⟩,λD hD=>zFc (λq=>(q.2.2,q.2.1)) el q3 (by lia) hD (λy my G J M hM=>A6 rfl (A6 rfl ⟨by show 2<=sizeLine;decide,hM⟩)) λσ G j J eG pG mG=>?_⟩)));have lr:(K3 I).length=I.length:=AA ..;have lr2:(K3 j).length=I.length:=by have:=congrArg List.length mG;rw[AA,AA]at this;unfold K3;rw[AA,this]
   refine⟨l,D,_,_,rfl,rfl,J _ _ el,eG,by rw[lr,lr2,sizeLine_eq];lia,λx hx=>?_⟩;have sx:=Cs.new (o:=.lst (K3 I++K3 j)) hx;have s6:=(W.trans J).trans sx;refine Y x (I++j) _ _ (X0 R X ((W.trans J).free hx)) (R.trans s6.sm) (s6 _ _ C) (X.same s6) (by lia) (by rw[B1];unfold K3;rw[AK]) (λz N=>?_) (nmO (zs:=(I.map λq=>q.2) ++(I.map λq=>q.2).map λz=>(z.2,z.1)) (by rw[AK,mG,BV];rfl) nd (λz N=>?_) (by rw[AU,AA,AA];lia))
   .rcases AR.mp N with h | h
    .exact sx _ _ (J _ _ (q3 z h))
    .exact sx _ _ (pG z h)
   .rcases AR.mp N with h | h
    .exact mz z h
    .obtain⟨y,hy,rfl⟩:=AJ.mp h;exact(mz y hy).symm
  refine hN4 _ _ (B6 λN5 hN5=>?_);refine A6 rfl ⟨rfl,_,rfl,Q3 (λc3=>?_) λc3=>?_⟩
  .obtain⟨as,ea,ma,la⟩:=Qk g (some 1) none;obtain⟨bs,eb,mb,lb⟩:=Qk g none (some 1);refine A6 rfl (A6 rfl (A6 rfl (A6 rfl ⟨n,_,rfl,IQ.of C,λu hu=>?_⟩)));have su:=Cs.new (o:=.lst (Je (g.map V.str) (some 1) none)) hu;refine A6 rfl (A6 rfl ⟨n,_,rfl,IQ.of (su _ _ C),λv hv=>?_⟩);have sv:=Cs.new (o:=.lst (Je (g.map V.str) none (some 1))) hv;refine⟨u,v,_,_,rfl,rfl,sv _ _ B1,B1,by rw[ea,eb,AA,AA,sizeLine_eq];lia,λx hx=>?_⟩;have sx:=Cs.new (o:=.lst (Je (g.map V.str) (some 1) none++Je (g.map V.str) none (some 1))) hx;have W:=(su.trans sv).trans sx;refine⟨n,x,_,_,rfl,IQ.of (W _ _ C),IQ.of B1,λS l U s6 hl el mp at_=>?_⟩;have hl0:=W.free hl;have W:=W.trans s6;rw[ea,eb,<-AK]at mp;obtain⟨I,q1,q2,q3⟩:=Bg mp λp hp=>(at_ p hp).2;rw[q1]at el;obtain⟨nd,mz⟩:=zDm N3.2.1 (as++bs);refine Y l I _ _ (X0 R X hl0) (R.trans W.sm) (W _ _ C) (X.same W) (by lia) el q3 (nmO q2 nd (λz N=>⟨(mz z N).1,(AR.mp (mz z N).2).elim (ma _) (mb _)⟩) (by rw[List.length_zip];lia))
  refine hN5 _ _ (B6 λN6 hN6=>?_);refine A6 rfl ⟨rfl,_,rfl,Q3 (λc4=>?_) λc4=>?_⟩
  .obtain⟨a,Z⟩:=Wx g;obtain⟨b,hb⟩:=zCc g;have ok:∀y∈g,PySem.PyData.strOk y=true:=λy hy=>X3 (N3.1 y hy);refine B6 λM1 hM1=>?_;refine A6 rfl ⟨n,rfl,⟨_,IQ.of C⟩,λD hD=>zDz (r:=V.str) (OW (IQ.of C)) (λ_=>true) (λy=>(y,a)) (by lia) hD (λy my G J M hM=>hM G λb o e=>e) (λy my G J M hM=>A6 rfl (A6 rfl ⟨n,_,C0 rfl rfl ⟨IQ.of (J _ _ C),(Z y my).1,⟨by show 2<=sizeLine;decide,hM⟩⟩⟩)) λσ G I J eG pG mG=>?_⟩;rw[EV.mpr λ_ _=>rfl]at mG;have lq:I.length=g.length:=by have:=congrArg List.length mG;rw[AA,AA]at this;exact this
   have mq:∀q∈I,q.2.1∈g/\q.2.2∈g:=λq hq=>by
    have:q.2∈g.map λy=>(y,a):=by rw[<-mG];exact AJ.mpr ⟨q,hq,rfl⟩
    obtain⟨y,hy,e⟩:=AJ.mp this;rw[<-e];exact⟨hy,(Z y hy).2⟩
   refine hM1 _ _ (A6 rfl (A6 rfl (A6 rfl ⟨n,rfl,⟨_,IQ.of (J _ _ C)⟩,λD2 hD2=>zDz (r:=V.str) (OW (IQ.of (J _ _ C))) (λy=>!decide ((b,y)∈I.map λq=>q.2)) (λy=>(b,y)) (by lia) hD2 (λy my G2 B M hM=>?_) (λy my G2 B M hM=>?_) λσ2 G2 j B eG2 pG2 mG2=>?_⟩)))
   .refine A6 rfl (A6 rfl ⟨n,_,C0 rfl rfl ⟨IQ.of (B _ _ (J _ _ C)),(hb y my).1,A6 rfl ⟨by show 2<=sizeLine;decide,λt ht=>?_⟩⟩⟩);have st:=Cs.new (o:=.tup [.str b,.str y]) ht;exact A6 rfl (Y0 (k:=(b,y)) B1 (st _ _ (B _ _ eG)) (λq hq=>st _ _ (B _ _ (pG q hq))) ⟨ok b (hb y my).2,ok y my⟩ (λq hq=>⟨ok _ (mq q hq).1,ok _ (mq q hq).2⟩) ⟨_,rfl,hM _ st⟩)
   .exact A6 rfl (A6 rfl ⟨n,_,C0 rfl rfl ⟨IQ.of (B _ _ (J _ _ C)),(hb y my).1,A6 rfl ⟨by show 2<=sizeLine;decide,hM⟩⟩⟩)
   have lp2:j.length<=g.length:=by have:=congrArg List.length mG2;rw[AA,AA]at this;rw[this];exact CH ..
   have lr:(K3 I).length=I.length:=AA ..;have lr2:(K3 j).length=j.length:=AA ..;refine⟨D,D2,_,_,rfl,rfl,B _ _ eG,eG2,by rw[lr,lr2,sizeLine_eq];lia,λx hx=>?_⟩;have sx:=Cs.new (o:=.lst (K3 I++K3 j)) hx;have s6:=(J.trans B).trans sx;refine Y x (I++j) _ _ (X0 R X ((J.trans B).free hx)) (R.trans s6.sm) (s6 _ _ C) (X.same s6) (by lia) (by rw[B1];unfold K3;rw[AK]) (λz N=>?_) (nmO (zs:=(I.map λq=>q.2)++j.map λq=>q.2) (by rw[AK]) (EB.mpr ⟨?_,?_,λz N y hy e=>?_⟩) (λz N=>?_) (by rw[AU,AA,AA];lia))
   .rcases AR.mp N with h | h
    .exact sx _ _ (B _ _ (pG z h))
    .exact sx _ _ (pG2 z h)
   .rw[mG];exact CC.mpr (N3.2.1.imp fun{x y} h e=>h (congrArg Prod.fst e))
   .rw[mG2];exact CC.mpr ((N3.2.1.sublist DP).imp fun{x y} h e=>h (congrArg Prod.snd e))
   .rw[mG2]at hy;obtain⟨w,hw,rfl⟩:=AJ.mp hy;have:=(BH.mp hw).2;rw[EO,decide_eq_false_iff_not]at this;exact this (by rw[<-e];exact N)
   .rcases AR.mp N with h | h
    .obtain⟨q,hq,rfl⟩:=AJ.mp h;exact mq q hq
    .rw[mG2]at h;obtain⟨w,hw,rfl⟩:=AJ.mp h;have:=(BH.mp hw).1;exact⟨(hb w this).2,this⟩
  refine hN6 _ _ ?_;refine A6 rfl (A6 rfl (A6 rfl ?_));exact⟨p,n,_,g,rfl,X,by lia,C,N3,by lia,λa S c5 U Z k5 e5 pin5 O5 hc5 L5=>Y a S U c5 (X0 R X Z) (R.trans k5) (KW k5 C (X.ne C)) L5 (by lia) e5 pin5 ⟨O5.nm,O5.nd,O5.len⟩⟩
end
def Xq:∀a:A1 Str,PyData.eqv (sd a) (.list [])=decide (a = [])
 | []=>by unfold sd;simp[PyData.eqv,PyData.eqvAll]
 | x::a=>by unfold sd;rw[BB];simp[PyData.eqv,PyData.eqvAll]
section
variable{P:A7}{w:F8}{K:PySem.W.Frag}{mg:Str->A5 A3}{base:IJ}
theorem zFp(d:Nat)(h:d<6):∃n:Nat,n<=4/\QU [V.int 0,V.int 1,V.int 1,V.int 2,V.int 3,V.int 4] (d:Int)=some (.int (n:Int)):=by
 suffices ∃n:Nat,n<=4/\[V.int 0,V.int 1,V.int 1,V.int 2,V.int 3,V.int 4][d]?=some (.int (n:Int)) by
  obtain⟨n,a,e⟩:=this;exact⟨n,a,E9 e⟩
 match d,h with
 | 0,_=>exact⟨0,by lia,rfl⟩
 | 1,_=>exact⟨1,by lia,rfl⟩
 | 2,_=>exact⟨1,by lia,rfl⟩
 | 3,_=>exact⟨2,by lia,rfl⟩
 | 4,_=>exact⟨3,by lia,rfl⟩
 | 5,_=>exact⟨4,by lia,rfl⟩
theorem LE:II ["_law_left_here", "_law_names_here", "_law_rest", "_law_some_here", "_law_k"] ["_law_left_here", "_law_names_here"] (B7 PF):=KO
def zBi(K:PySem.W.Frag):Sp:=λg H Q _=>∃(p n:A2) (c:Int) (d:A1 Str),g = [.ref p,.ref n]/\IT H p c/\c<=800000/\H n=some (.lst (d.map V.str))/\KC d/\d.length<=12 /\
 ∀a (e:A1 Str) f b,H a=none->Sm [p] H b->RX K b a (e.map V.str)->b a≠none->(∀y∈e,y∈d)->e.Nodup->f<=c+6->IT b p f->Q (.ref a) b
theorem Kj(T:Tx K mg):IK P w K mg base IY 3 T.bi.f T.bi.fd ["_law_left_here", "_law_names_here"] (zBi K):=by
 refine T.bi.F.o1 LE λcdv A outer s H vs Q E B h=>?_
 .obtain⟨p,n,c,C,rfl,hL,hc,en,hN,l12,q⟩:=h;refine⟨_,(B3 (C2 (i:=2) LE.nd rfl (.inl rfl) (Dd (i5 K) T.aI Q5 (A8 (pv 1) B2)))
   (B3 (C2 (i:=3) LE.nd rfl (.inl rfl) (O8 B2))
   (@B3 _ _ _ _ _ (@U2 _ _ _ _ _ _ _ _ PassesOwn.never rfl (zHm T.bp (@A8 _ _ _ _ _ (@M9 _ _ _ _ _ _ _ (P7 K) (@O8 _ _ _ _ (@A8 _ _ _ _ _ B8 (@A8 _ _ _ _ _ B8 (@A8 _ _ _ _ _ B8 (@A8 _ _ _ _ _ B8 (@A8 _ _ _ _ _ B8 (@A8 _ _ _ _ _ B8 B2 (by rfl)) (by rfl)) (by rfl)) (by rfl)) (by rfl)) (by rfl))) (C7 T.am (D4 T) (Rm B) (A8 (pv 0) (A8 B8 B2))) (λ_ _=>rfl)) B2 (by rfl))) (D6 (i:=4) LE.nd rfl (.inl rfl))
   (B4 (J7 (C8 (zHb K B.units) (pv 2) (O8 B2) (E5 _)) (B4 (E2 (Fu K PySem.F.plainAttrs_list PySem.F.slot_list_append PySem.F.type_list_append G8 (pv 3) (A8 (Fu K PySem.F.plainAttrs_list PySem.F.slot_list_pop PySem.F.type_list_pop Nt (pv 2) (A8 (C7 T.am (D4 T) (Rm B) (A8 (pv 0) (A8 (I9 (V5 K) T.aP U3 (A8 (pv 2) B2)) B2))) B2)) B2)))) C3)) (λ_=>rfl))
   (B4 (C1 (M9 (P7 K) (O8 (A8 (pv 3) (A8 (Dd (Nd K) T.a8 X8 (A8 (pv 3) B2)) B2))) (C7 T.am (D4 T) (Rm B) (A8 (pv 0) (A8 B8 B2))) (λ_ _=>rfl))))))),?_⟩
  refine B6 λN1 hN1=>?_;refine A6 rfl ⟨n,_,rfl,.inl (IQ.of en),λr B=>?_⟩;have L:p≠r:=A9 hL.get B;have s1:=Cs.new (o:=.lst (C.map V.str)) B;refine hN1 _ _ (B6 λN2 hN2=>?_);refine⟨CB _,λb hb=>?_⟩;have M:H b=none:=s1.free hb;have m:p≠b:=A9 hL.get M;have N:r≠b:=A9 B1 hb;have R:=s1.trans (Cs.new (o:=.lst []) hb);have er:(IH (IH H r (.lst (C.map V.str))) b (.lst [])) r=some (.lst (C.map V.str)):=by rw[B5 N,B1]
  have k:(IH (IH H r (.lst (C.map V.str))) b (.lst [])) b=some (.lst []):=B1;generalize IH (IH H r (.lst (C.map V.str))) b (.lst [])=H2 at R er k⊢;refine hN2 _ _ (B6 λN3 hN3=>?_);refine⟨by show 6<=sizeLine;decide,λt ht=>?_⟩;have S:=Cs.new (o:=.lst [.int 0,.int 1,.int 1,.int 2,.int 3,.int 4]) ht;have u:p≠t:=A9 (hL.same R).get ht;refine A6 rfl (q9 (a:=p) (b:=c) rfl (hL.same (R.trans S)) (by lia) (by decide) (by decide) λd H3 hd O L3=>?_);obtain⟨U,o1,eo⟩:=zFp d (by lia);refine⟨t,_,C0 rfl rfl ⟨IQ.of (KW O B1 u.symm),eo,?_⟩⟩;refine A6 (a:=(U:Int)) rfl ⟨by lia,by lia,?_⟩;rw[HW];have er:=KW O (S _ _ er) L.symm;have k:=KW O (S _ _ k) m.symm;have O:=(R.trans S).sm.trans O;clear S ht u R s1;refine X7 (λi σ G=>(∃v4,σ = [some (.ref p),some (.ref n),some (.ref r),some (.ref b),v4])/\Sm [p] H G/\(∃D,D<=c+1+i/\IT G p D)/\∃e g:A1 Str,G r=some (.lst (e.map V.str))/\G b=some (.lst (g.map V.str))/\(e++g).Perm C) ?_ ?_ ?_
  .exact⟨⟨_,rfl⟩,O,⟨_,by lia,L3⟩,C,[],er,k,by rw[CA]⟩
  .rintro i σ G hi ⟨⟨v4,rfl⟩,I,⟨D,hc',l⟩,e,g,er,k,J⟩ D1 W _;have lp:=J.length_eq;rw[AU]at lp;have lr:(e.map V.str).length=e.length:=AA ..;have nm:∀y∈e,P5 y=true:=λy hy=>hN.1 y (J.mem_iff.mp (EL _ hy));refine A6 rfl ⟨CB _,λz hz=>⟨sd e,.list [],Ti (IQ.of ((Cs.new hz) _ _ er)),by simp only[Rp,PU];exact⟨z,_,rfl,IQ.of B1,rfl⟩,Sc nm,⟨rfl,by simp[PyData.depth,PyData.depthAll]⟩,?_⟩⟩;rw[Xq];have uz:=Cs.new (o:=.lst []) hz;have er:=uz _ _ er;have k:=uz _ _ k;have l:=l.same uz;have I:=I.trans uz.sm;generalize IH G z (.lst [])=G1 at er k l I⊢;refine⟨_,rfl,Q3 (λc1=>?_) λc1=>W _ _ ⟨⟨_,rfl⟩,I,⟨D,by lia,l⟩,e,g,er,k,J⟩⟩;have hne:0<e.length:=by
    cases e with
    | nil=>exact absurd c1 (by decide)
    | cons a b=>exact Nat.succ_pos _
   refine A6 rfl ⟨.inl ⟨rfl,_,IQ.of k⟩,A6 rfl ⟨.inl ⟨rfl,_,IQ.of er⟩,A6 rfl (A6 rfl (C0 (a:=r) rfl (.inl (IQ.of er)) (q9 (a:=p) (b:=D) rfl l (by lia) (by lia) (by lia) λd H2 hd k2 L2=>?_)))⟩⟩;rw[lr]at hd;have X:d<e.length:=by lia
   have hx:=AC X;generalize e[d]=x at hx;have er2:=KW k2 er L.symm;have eb2:=KW k2 k m.symm;refine⟨r,_,_,d,.str x,rfl,rfl,er2,by lia,by lia,six (by rw[lr];exact X),by rw[AH,hx];rfl,b,C0 rfl rfl ⟨by rw[B5 N.symm];exact eb2,by rw[AA,sizeLine_eq];lia,?_⟩⟩;refine W _ _ ⟨⟨_,rfl⟩,?_,⟨D+1,by lia,?_⟩,e.eraseIdx d,g ++ [x],?_,?_,Mc J hx⟩
   .exact((I.trans k2).updN B).updN M
   .exact(L2.upd L).upd m
   .rw[B5 N,B1,Ch]
   .rw[B1,AK];rfl
  .rintro σ G ⟨⟨v4,rfl⟩,I,⟨D,hc',l⟩,e,g,er,k,J⟩;refine hN3 _ _ ?_;have lp:=J.length_eq;rw[AU]at lp;have sub:∀y∈g,y∈C:=λy hy=>J.mem_iff.mp (BI _ hy);have nd:g.Nodup:=(EB.mp (J.nodup_iff.mpr hN.2.1)).2.1;refine A6 rfl (A6 rfl ⟨b,_,rfl,.inl ⟨IQ.of k,λtu v=>?_⟩⟩);have u1:=Cs.new (o:=.tup (g.map V.str)) v;have Y:H tu=none:=I.none (λy=>A9 l.get v (AD.mp y).symm) v;refine⟨by show 2<=sizeLine;decide,λls Z=>?_⟩;have u2:=Cs.new (o:=.lst [.ref b,.ref tu]) Z;have npl:p≠ls:=A9 ((l.same u1).get) Z;have u:p≠tu:=A9 l.get v;refine A6 rfl (q9 (a:=p) (b:=D) rfl (l.same (u1.trans u2)) (by lia) (by decide) (by decide) λd H5 hd k5 L5=>?_);have eb5:=KW k5 (u2 _ _ (u1 _ _ k)) m.symm;have et5:=KW k5 (u2 _ _ B1) u.symm;have k6:=(I.trans (u1.trans u2).sm).trans k5;rcases(show d=0\/d=1 by lia)with rfl | rfl
   .exact⟨ls,_,C0 rfl rfl ⟨IQ.of (KW k5 B1 npl.symm),E9 (j:=0) rfl,q b g _ H5 M k6 (.inl (IQ.of eb5)) (by rw[eb5];intro z;cases z) sub nd (by lia) L5⟩⟩
   .exact⟨ls,_,C0 rfl rfl ⟨IQ.of (KW k5 B1 npl.symm),E9 (j:=1) rfl,q tu g _ H5 Y k6 (.inr (JH.of et5)) (by rw[et5];intro z;cases z) sub nd (by lia) L5⟩⟩
def zBh(K:PySem.W.Frag)(C:A2):Sp:=λh H Q _=>∃(x i n:A2) (d:A1 Str) (a:A2) (e:A1 JS),h = [.ref x,.ref n,.ref a]/\H x=some (.ins C i [])/\H n=some (.lst (d.map V.str))/\KC d /\
 H a=some (.lst (K3 e))/\(∀q∈e,F0 H q)/\M_ d e/\∀f c g,f.Perm d->f.Pairwise SB->c.Perm e->c.Pairwise SL->Sm [x] H g->JP C g x f c->(∀G:Hp,(∀b o,g b=some o->(H b=none\/b=x\/∃q∈c,b=q.1)->G b=some o)->JP C G x f c)->Q .non g
theorem Jo(T:Tx K mg):IK P w K mg base IY 3 T.bB T.bA ["self", "names", "strikes"] (zBh K T.ag):=by
 refine T.bC.o1 KQ λcdv A outer s H vs Q E hr h=>?_
 .obtain⟨x,r,n,ss,a,ps,rfl,hx,hS,hN,hP,hI,hO,k⟩:=h;have hu:=Y7 hr;refine⟨_,(B3 (E2 (C7 T.a6 (Df T) (Rm hr) (A8 (pv 1) B2)))
   (B3 (E2 (C7 T.a0 (An T) (Rm hr) (A8 (pv 1) (A8 (pv 2) B2))))
   (B3 (SA K (pv 0) (I9 (Xc K) T.bk n9 (A8 (pv 1) B2)))
   (B3 (SA K (pv 0) (I9 (Wc K) T.bk n9 (A8 (pv 2) B2)))
   (B3 (SA K (pv 0) (Uk (N':=["name"]) (cap:=[none]) (cl:=[]) (Q1 trivial trivial) rfl (OU K (NS K (pv 0))) (λ_ _ _ _=>by exact⟨(NR 0),J9,(pv 0),(O8 B2)⟩)))
   (B3 (SA K (pv 0) (Uk (N':=["name"]) (cap:=[none]) (cl:=[]) (Q1 trivial trivial) rfl (OU K (NS K (pv 0))) (λ_ _ _ _=>by exact⟨(NR 0),J9,(pv 0),(O8 B2)⟩)))
   (B4 (U2 PassesOwn.never rfl (OU K (NS K (pv 0))) (RB K (n:=2) (C9 (D6 (i:=3) KQ.nd rfl (.inl rfl)) (C9 (D6 (i:=4) KQ.nd rfl (.inl rfl)) O7)))
   (B3 (E2 (Fu K PySem.F.plainAttrs_list PySem.F.slot_list_append PySem.F.type_list_append G8 (O0 hu (NS K (pv 0)) (pv 4) (λ_ _=>rfl)) (A8 (pv 3) B2)))
   (B4 (E2 (Fu K PySem.F.plainAttrs_list PySem.F.slot_list_append PySem.F.type_list_append G8 (O0 hu (NS K (pv 0)) (pv 3) (λ_ _=>rfl)) (A8 (pv 4) B2))))))))))))),?_⟩
  obtain⟨hN1,hN2,hN3⟩:=id hN;obtain⟨hO1,hO2,hO3⟩:=id hO;refine B6 λZ1 hZ1=>?_;refine A6 rfl ⟨n,ss,rfl,IQ.of hS,hN,λH1 s1=>?_⟩;refine hZ1 _ _ (B6 λZ2 hZ2=>?_);refine A6 rfl (A6 rfl ⟨n,ss,a,ps,rfl,IQ.of (s1 _ _ hS),IQ.of (s1 _ _ hP),Q8 s1 hI,hO,λH2 s2=>?_⟩);refine hZ2 _ _ (B6 λZ3 hZ3=>?_);have X:=s1.trans s2;refine A6 rfl ⟨n,ss,rfl,IQ.of (X _ _ hS),λp j hl1 p1 w1=>?_⟩;have S:x≠p:=A9 (X _ _ hx) hl1;refine A6 rfl ⟨x,T.ag,r,[],rfl,by rw[B5 S];exact X _ _ hx,T.aC,T.a2,by decide,?_⟩;have hxa:a≠x:=S0 hP hx (by intro z;cases z);have k3:Sm [x] H (IH (IH H2 p (.lst (j.map V.str))) x (.ins T.ag r (Q6 "names" (.ref p) []))):=(Sm.new X.sm hl1).upd (by simp);have e3:(IH (IH H2 p (.lst (j.map V.str))) x (.ins T.ag r (Q6 "names" (.ref p) []))) p=some (.lst (j.map V.str)):=by rw[B5 S.symm,B1]
  generalize hH3:IH (IH H2 p (.lst (j.map V.str))) x (.ins T.ag r (Q6 "names" (.ref p) []))=H3 at k3 e3⊢;refine hZ3 _ _ (B6 λZ4 hZ4=>?_);have x3:H3 x=some (.ins T.ag r [("names",.ref p)]):=by rw[<-hH3,B1];rfl
  have t:∀{b:A2},b≠x->b∉[x]:=λh z=>h (AD.mp z);have Y:∀q∈ps,F0 H3 q:=λq hq=>k3 _ _ (hI q hq) (t (S0 (hI q hq) hx (by intro z;cases z)));refine A6 rfl ⟨a,ps,rfl,IQ.of (k3 _ _ hP (t hxa)),Y,λu B hl2 p2 w2=>?_⟩;have L:x≠u:=A9 x3 hl2;refine A6 rfl ⟨x,T.ag,r,[("names",.ref p)],rfl,by rw[B5 L];exact x3,T.aC,T.bs,by simp,?_⟩;have k4:Sm [x] H3 (IH (IH H3 u (.lst (K3 B))) x (.ins T.ag r (Q6 "strikes" (.ref u) [("names",.ref p)]))):=(Sm.new (Sm.refl _ _) hl2).upd (by simp);have e4:(IH (IH H3 u (.lst (K3 B))) x (.ins T.ag r (Q6 "strikes" (.ref u) [("names",.ref p)]))) u=some (.lst (K3 B)):=by rw[B5 L.symm,B1]
  have O:(IH (IH H3 u (.lst (K3 B))) x (.ins T.ag r (Q6 "strikes" (.ref u) [("names",.ref p)]))) x=some (.ins T.ag r [("names",.ref p),("strikes",.ref u)]):=by rw[B1];rfl
  refine hZ4 _ _ ?_;show zFx _ _ _ _ (IH (IH H3 u (.lst (K3 B))) x (.ins T.ag r (Q6 "strikes" (.ref u) [("names",.ref p)])));generalize IH (IH H3 u (.lst (K3 B))) x (.ins T.ag r (Q6 "strikes" (.ref u) [("names",.ref p)]))=H4 at k4 e4 O⊢;have f4:H4 p=some (.lst (j.map V.str)):=k4 _ _ e3 (t S.symm);have y:∀q∈B,F0 H4 q:=λq hq=>k4 _ _ (Y q (p2.mem_iff.mp hq)) (t (S0 (Y q (p2.mem_iff.mp hq)) x3 (by intro z;cases z)));have ndn:j.Nodup:=p1.nodup_iff.mpr hN2;have lnn:j.length<=1000:=by rw[p1.length_eq];lia
  refine B6 λZ5 hZ5=>?_;refine A6 rfl ⟨x,T.ag,r,_,A6 rfl ⟨O,T.aC,T.a2,rfl,p,rfl,⟨_,IQ.of f4⟩,λc hc=>Yi (K:=K) (OW (IQ.of f4)) ⟨_,rfl⟩ ndn lnn hc λ_ J H5 s5 e5 D5 c5 n5=>?_⟩⟩;have x5:=s5 _ _ O;refine A6 rfl ⟨x,T.ag,r,A6 rfl ⟨x5,T.aC,T.aR,by simp,?_⟩⟩;have k6:Sm [x] H5 (IH H5 x (.ins T.ag r (Q6 "strikers_by_name" (.ref c) [("names",.ref p),("strikes",.ref u)]))):=(Sm.refl _ _).upd (by simp);have x6:(IH H5 x (.ins T.ag r (Q6 "strikers_by_name" (.ref c) [("names",.ref p),("strikes",.ref u)]))) x=some (.ins T.ag r [("names",.ref p),("strikes",.ref u),("strikers_by_name",.ref c)]):=by rw[B1];rfl
  generalize IH H5 x (.ins T.ag r (Q6 "strikers_by_name" (.ref c) [("names",.ref p),("strikes",.ref u)]))=H6 at k6 x6⊢;refine hZ5 _ _ (B6 λZ6 hZ6=>?_);have U:∀{b:A2} {o:HO},H4 b=some o->b≠x->H6 b=some o:=λe C=>k6 _ _ (s5 _ _ e) (t C);have f6:=U f4 S.symm;have g6:=U e4 L.symm;have c6:H6 c=some (.dK J):=k6 _ _ e5 (t (A9 O hc).symm);have cl6:∀n∈j,H6 (la J n)=some (.lst []):=λn f=>k6 _ _ (c5 n f) (t (A9 O (D5.fr n f)).symm);refine A6 rfl ⟨x,T.ag,r,_,A6 rfl ⟨x6,T.aC,T.a2,rfl,p,rfl,⟨_,IQ.of f6⟩,λd hd=>Yi (K:=K) (OW (IQ.of f6)) ⟨_,rfl⟩ ndn lnn hd λ_ M H7 s7 e7 D7 c7 n7=>?_⟩⟩;have x7:=s7 _ _ x6;refine A6 rfl ⟨x,T.ag,r,A6 rfl ⟨x7,T.aC,T.aU,by simp,?_⟩⟩;have k8:Sm [x] H7 (IH H7 x (.ins T.ag r (Q6 "struck_by_name" (.ref d) [("names",.ref p),("strikes",.ref u),("strikers_by_name",.ref c)]))):=(Sm.refl _ _).upd (by simp);have x8:(IH H7 x (.ins T.ag r (Q6 "struck_by_name" (.ref d) [("names",.ref p),("strikes",.ref u),("strikers_by_name",.ref c)]))) x=some (.ins T.ag r (wf p u c d)):=by rw[B1];rfl
  generalize IH H7 x (.ins T.ag r (Q6 "struck_by_name" (.ref d) [("names",.ref p),("strikes",.ref u),("strikers_by_name",.ref c)]))=H8 at k8 x8⊢;refine hZ6 _ _ ?_;have W:∀{b:A2} {o:HO},H6 b=some o->b≠x->H8 b=some o:=λe C=>k8 _ _ (s7 _ _ e) (t C);have f8:=W f6 S.symm;have g8:=W g6 L.symm;have c8:=W c6 (A9 O hc).symm;have d8:H8 d=some (.dK M):=k8 _ _ e7 (t (A9 x6 hd).symm);have cl8:∀n∈j,H8 (la J n)=some (.lst []):=λn f=>W (cl6 n f) (A9 O (D5.fr n f)).symm;have dl8:∀n∈j,H8 (la M n)=some (.lst []):=λn f=>k8 _ _ (c7 n f) (t (A9 x6 (D7.fr n f)).symm);have pin8:∀q∈B,F0 H8 q:=λq hq=>W (U (y q hq) (S0 (y q hq) O (by intro z;cases z))) (S0 (y q hq) O (by intro z;cases z));have dif:∀n∈j,∀m∈j,la J n≠la M m:=λn f m I=>A9 (cl6 n f) (D7.fr m I);have D:∀{b:A2} {o:HO},H4 b=some o->b≠x->(∀n∈j,b≠la J n)/\∀n∈j,b≠la M n:=λe C=>⟨λn f=>A9 e (D5.fr n f),λn f=>A9 (U e C) (D7.fr n f)⟩;have kall:Sm [x] H H8:=λb o e C=>by
   have hb':b≠x:=λz=>C (by simp[z]);exact W (U (k4 _ _ (k3 _ _ e C) C) hb') hb'
  have odif:∀{b:A2} {o:HO},H b=some o->b≠x->(∀n∈j,b≠la J n)/\∀n∈j,b≠la M n:=λe C=>D (k4 _ _ (k3 _ _ e (t C)) (t C)) C;have Z:(∀n∈j,x≠la J n)/\∀n∈j,x≠la M n:=⟨λn f=>A9 O (D5.fr n f),λn f=>A9 x6 (D7.fr n f)⟩;have cdif:(∀n∈j,c≠la J n)/\∀n∈j,c≠la M n:=⟨λn f=>(n5 n f).symm,λn f=>A9 c6 (D7.fr n f)⟩;have ddif:(∀n∈j,d≠la J n)/\∀n∈j,d≠la M n:=⟨λn f=>(A9 (cl6 n f) hd).symm,λn f=>(n7 n f).symm⟩;refine⟨_,rfl,x,T.ag,r,_,_,rfl,x8,T.aC,T.bs,rfl,u,rfl,⟨_,IQ.of g8⟩,w9 (OW (IQ.of g8)) (λi σ R=>(∃v3 v4,σ = [some (.ref x),some (.ref n),some (.ref a),v3,v4]) /\
   (∀b o,H8 b=some o->((∀n∈j,b≠la J n)/\∀n∈j,b≠la M n)->R b=some o)/\(∀n∈j,R (la J n)=some (.lst ((C5 (B.take i) n).map V.str)))/\∀n∈j,R (la M n)=some (.lst ((E6 (B.take i) n).map V.str)))
   ⟨⟨_,_,rfl⟩,λb o e _=>e,cl8,dl8⟩ ?_ ?_ ?_⟩
  .rintro i σ R _ ⟨_,N,_⟩ o e;exact N _ _ e (D e4 L.symm)
  .rintro i σ R v hv ⟨⟨v3,v4,rfl⟩,N,h2,h3⟩ D1 hD1 _;unfold K3 at hv;rw[AH]at hv;cases hq:B[i]? with
   | none=>rw[hq]at hv;cases hv
   | some q =>
    rw[hq]at hv;cases hv;have I:q∈B:=AM hq;have hq9:F0 R q:=N _ _ (pin8 q I) (D (y q I) (S0 (y q I) O (by intro z;cases z)));obtain⟨m1,m2⟩:=hO1 q (p2.mem_iff.mp I);have m1:q.2.1∈j:=p1.mem_iff.mpr m1;have m2:q.2.2∈j:=p1.mem_iff.mpr m2;have hlen:∀l:A1 JS,l.length<=200->∀n,(C5 l n).length<=200/\(E6 l n).length<=200:=λl hl n=>by
     unfold C5 E6;rw[AA,AA];exact⟨Nat.le_trans (CH ..) hl,Nat.le_trans (CH ..) hl⟩
    have hl200:(B.take i).length<=200:=by
     rw[AW];have:=p2.length_eq;lia
    have x9:R x=some (.ins T.ag r (wf p u c d)):=N _ _ x8 Z;refine⟨q.1,A6 rfl ⟨JH.of hq9,rfl,_,A6 rfl (C0 rfl rfl ?_)⟩⟩;refine A6 rfl ⟨x,T.ag,r,_,A6 rfl ⟨x9,T.aC,T.aR,rfl,A6 rfl ⟨c,.ref (la J q.2.2),rfl,by rw[<-D5.val _ m2];exact OY.k (k:=Sum.inr q.2.2) (N _ _ c8 cdif),.inl ⟨rfl,_,IQ.of (h2 _ m2)⟩,A6 rfl ⟨_,C0 rfl rfl ⟨h2 _ m2,?_,?_⟩⟩⟩⟩⟩
    .rw[AA,sizeLine_eq];have:=(hlen _ hl200 q.2.2).1;lia
    have x10:(IH R (la J q.2.2) (.lst ((C5 (B.take i) q.2.2).map V.str ++ [.str q.2.1]))) x=some (.ins T.ag r (wf p u c d)):=by rw[B5 (Z.1 _ m2)];exact x9
    have d10:(IH R (la J q.2.2) (.lst ((C5 (B.take i) q.2.2).map V.str ++ [.str q.2.1]))) d=some (.dK M):=by rw[B5 (ddif.1 _ m2)];exact N _ _ d8 ddif
    have l10:(IH R (la J q.2.2) (.lst ((C5 (B.take i) q.2.2).map V.str ++ [.str q.2.1]))) (la M q.2.1)=some (.lst ((E6 (B.take i) q.2.1).map V.str)):=by rw[B5 (dif _ m2 _ m1).symm];exact h3 _ m1
    refine A6 rfl ⟨x,T.ag,r,_,A6 rfl ⟨x10,T.aC,T.aU,rfl,A6 rfl ⟨d,.ref (la M q.2.1),rfl,by rw[<-D7.val _ m1];exact OY.k (k:=Sum.inr q.2.1) d10,.inl ⟨rfl,_,IQ.of l10⟩,A6 rfl ⟨_,C0 rfl rfl ⟨l10,?_,?_⟩⟩⟩⟩⟩
    .rw[AA,sizeLine_eq];have:=(hlen _ hl200 q.2.1).2;lia
    refine hD1 _ _ ⟨⟨_,_,rfl⟩,λb o e C=>?_,λm I=>?_,λm I=>?_⟩
    .rw[B5 (C.2 _ m1),B5 (C.1 _ m2)];exact N b o e C
    .rw[B5 (dif m I _ m1),I7 hq,Cl];by_cases e:q.2.2=m
     .rw[<-e,B1,AO rfl,AK];rfl
     .rw[AN e,CA,B5 (λz=>e (D5.inj _ I _ m2 z).symm)];exact h2 m I
    .rw[I7 hq,Fb];by_cases e:q.2.1=m
     .rw[<-e,B1,AO rfl,AK];rfl
     .rw[AN e,CA,B5 (λz=>e (D7.inj _ I _ m1 z).symm),B5 (dif _ m2 _ I).symm];exact h3 m I
  .rintro σ R ⟨_,N,h2,h3⟩;have hlq:(K3 B).length=B.length:=by unfold K3;rw[AA]
   rw[hlq,CK]at h2 h3;have mk:∀G:Hp,(∀b o,R b=some o->(b=x\/b=p\/b=u\/b=c\/b=d\/(∃q∈B,b=q.1)\/(∃n∈j,b=la J n)\/∃n∈j,b=la M n)->G b=some o)->JP T.ag G x j B:=λG g =>
    ⟨⟨ndn,by rw[p1.length_eq];exact hN3,w1,λq hq=>⟨p1.mem_iff.mpr (hO1 q (p2.mem_iff.mp hq)).1,p1.mem_iff.mpr (hO1 q (p2.mem_iff.mp hq)).2⟩,(p2.map _).nodup_iff.mpr hO2,by rw[p2.length_eq];exact hO3,w2⟩,r,p,u,c,d,J,M,g _ _ (N _ _ x8 Z) (.inl rfl),g _ _ (N _ _ f8 (D f4 S.symm)) (.inr (.inl rfl)),g _ _ (N _ _ g8 (D e4 L.symm)) (.inr (.inr (.inl rfl))),
     λq I=>g _ _ (N _ _ (pin8 q I) (D (y q I) (S0 (y q I) O (by intro z;cases z)))) (.inr (.inr (.inr (.inr (.inr (.inl ⟨q,I,rfl⟩)))))),g _ _ (N _ _ c8 cdif) (.inr (.inr (.inr (.inl rfl)))),g _ _ (N _ _ d8 ddif) (.inr (.inr (.inr (.inr (.inl rfl))))),
     λn f=>⟨_,D5.val n f,g _ _ (h2 n f) (.inr (.inr (.inr (.inr (.inr (.inr (.inl ⟨n,f,rfl⟩)))))))⟩,λn f=>⟨_,D7.val n f,g _ _ (h3 n f) (.inr (.inr (.inr (.inr (.inr (.inr (.inr ⟨n,f,rfl⟩)))))))⟩⟩
   refine k j B R p1 w1 p2 w2 (λb o e C=>?_) (mk R λb o e _=>e) λG g=>mk G λb o e C=>?_
   .have hb':b≠x:=λz=>C (by simp[z]);exact N _ _ (kall b o e C) (odif e hb')
   .have fr3:∀{b:A2},H3 b=none->b≠x->H b=none:=fun{b} h n=>by
     cases e:H b with
     | none=>rfl
     | some o=>have:=k3 _ _ e (t n);rw[h]at this;cases this
    have fr4:∀{b:A2},H4 b=none->b≠x->H b=none:=fun{b} h n=>fr3 (by
     cases e:H3 b with
     | none=>rfl
     | some o=>have:=k4 _ _ e (t n);rw[h]at this;cases this) n
    have fr6:∀{b:A2},H6 b=none->b≠x->H b=none:=fun{b} h n=>fr4 (by
     cases e:H4 b with
     | none=>rfl
     | some o=>have:=U e n;rw[h]at this;cases this) n
    refine g b o e ?_;rcases C with rfl | rfl | rfl | rfl | rfl | hq | ⟨n,f,rfl⟩ | ⟨n,f,rfl⟩
    .exact .inr (.inl rfl)
    .exact .inl (X.free hl1)
    .exact .inl (fr3 hl2 L.symm)
    .exact .inl (fr4 hc (A9 O hc).symm)
    .exact .inl (fr6 hd (A9 x6 hd).symm)
    .exact .inr (.inr hq)
    .exact .inl (fr4 (D5.fr n f) (A9 O (D5.fr n f)).symm)
    .exact .inl (fr6 (D7.fr n f) (A9 x6 (D7.fr n f)).symm)
end
def Ow.kp{H H':Hp}(k:KP H H'):∀{n:Nat} {d:PyData} {v:V} {L:A1 A2},Ow H n d v L->Ow H' n d v L
 | 0,_,_,_,h=>h.elim
 | _+1,_,_,_,.inl h=>.inl h
 | n+1,_,_,_,.inr ⟨b,l,a,c,e,f,g,j,m,o,p,q,h⟩=>.inr ⟨b,l,a,c,e,f,g,k _ _ j (λw z=>by cases b<;>cases z),m,o,p,q,λi r x M s t u=>(h i r x M s t u).kp k⟩
def Xo{G H':Hp}{f:A2}{ls:A1 (Pos×Str)}{L:A1 A2}(k:∀a o,G a=some o->a∉L->H' a=some o)(g:∀l∈L,∃xs,G l=some (.lst xs))(t:K0 G f ls):K0 H' f ls:=by
 obtain⟨i,b,t,h⟩:=t;exact⟨i,k _ _ b (λz=>by obtain⟨xs,e⟩:=g _ z;rw[e]at b;cases b),t,λx j=>(h x j).imp id λ⟨c,m,d⟩=>⟨c,m,k _ _ d (λz=>by obtain⟨xs,e⟩:=g _ z;rw[e]at d;cases d)⟩⟩
def Oc{H G H':Hp}{L:A1 A2}(b:∀m∈L,H m=none)(k:∀a o,G a=some o->a∉L->H' a=some o){a:A2}{o:HO}(e:H a=some o)(c:G a=some o):H' a=some o:=k _ _ c λz=>by rw[b a z]at e;cases e
def Wb(f:A2)(G:Hp)(t:A2):Prop:=∃(x n a:A2) (b d:A1 Str) (c e:A1 JS),G t=some (.tup [.ref x,.ref n,.ref a])/\JP f G x d e/\G n=some (.lst (b.map V.str))/\KC b/\b.length<=8/\G a=some (.lst (K3 c))/\(∀q∈c,F0 G q)/\M_ b c/\d.Perm b/\d.Pairwise SB/\e.Perm c/\e.Pairwise SL
def Wb.kp{b:A2}{G c:Hp}{t:A2}(k:KP G c)(h:Wb b G t):Wb b c t:=by
 obtain⟨x,n,a,d,e,f,g,i,j,l,m,o,p,s,r⟩:=h;exact⟨x,n,a,d,e,f,g,k _ _ i (λ_ z=>by cases z),k.web j,k _ _ l (λ_ z=>by cases z),m,o,k _ _ p (λ_ z=>by cases z),λq u=>k _ _ (s q u) (λ_ z=>by cases z),r⟩
section
variable{P:A7}{w:F8}{K:PySem.W.Frag}{mg:Str->A5 A3}{base:IJ}
theorem JU:II ["_law_script", "_law_webs", "_law_k", "_law_left_here", "_law_names_here", "_law_strikes_here", "_law_handed", "_law_web", "_law_way", "_law_some_here", "_law_found"] ["_law_script"] (B7 OO):=KO
def Ng(K:PySem.W.Frag)(b:A2):Sp:=λc H Q _=>∃(u:A2) (a:A1 Int),c = [.ref u]/\IQ K H u (a.map V.int)/\a.length<=63/\K0 H b B9/\∀d,Q (.bl true) d
set_option maxHeartbeats 8000000 in
theorem zFr(T:Tx K mg)(hB:base.BuiltinsAt mg T.aa){f:A2}{fd:IS}(F:QD K "law" "law" OO f fd):IK P w K mg base IY 41 f fd ["_law_script"] (Ng K T.aa):=by
 have g:IK P w K mg base IY 24 T.aE.f T.aE.fd ["_law_web", "_law_way", "_law_some_here"] (Mn K T.ag T.aa):=Ix T hB;have l:IK P w K mg base IY 40 T.ax.f T.ax.fd ["_law_found", "_law_due"] (Av 40):=Ag T 40;refine F.o1 JU λcdv A outer s H vs Q E C h=>?_
 .obtain⟨u,xs,rfl,hS,hlen,hT,q⟩:=h;have hu:=Y7 C;refine⟨_,(B3 (C2 (i:=1) JU.nd rfl (.inl rfl) (O8 B2))
   (B3 (U2 PassesOwn.never rfl (zHm T.bp (A8 B8 B2)) (D6 (i:=2) JU.nd rfl (.inl rfl))
   (B3 (C2 (i:=3) JU.nd rfl (.inl rfl) (C7 T.ba (Cq T) (Rm C) (A8 (pv 0) (A8 (pv 2) B2))))
   (B3 (l4 (C7 T.a1 (Ap T) (Rm C) (A8 (pv 3) (A8 (M9 (P7 K) (O8 (A8 B8 (A8 B8 B2))) (pv 2) (λ_ _=>rfl)) B2))) (RB K (n:=2) (C9 (D6 (i:=4) JU.nd rfl (.inl rfl)) (C9 (D6 (i:=5) JU.nd rfl (.inl rfl)) O7))))
   (B3 (J7 (PW.pt (Cn (C8 T0 (pv 2) B8 (E5 _)) (u4 (C8 T0 (C7 T.am (D4 T) (Rm C) (A8 (pv 3) (A8 B8 B2))) B8 (E5 _))))) (B3 (C2 (i:=4) JU.nd rfl (.inl rfl) (Dd (i5 K) T.aI Q5 (A8 (M9 (RC K) (M9 (P7 K) (pv 1) B8 (λ_ _=>rfl)) B8 (λ_ _=>rfl)) B2)))
   (B4 (C2 (i:=5) JU.nd rfl (.inl rfl) (C7 T.aV (Z0 T) (Rm C) (A8 (pv 3) (A8 (Bb (slL K) (pv 4) Z8 (d6 B8)) B2)))))) C3)
   (B3 (C2 (i:=6) JU.nd rfl (.inl rfl) (E8 (A8 (Dd (i5 K) T.aI Q5 (A8 (pv 4) B2)) (A8 (Dd (i5 K) T.aI Q5 (A8 (pv 5) B2)) B2))))
   (B3 (E2 (Fu K PySem.F.plainAttrs_list PySem.F.slot_list_append PySem.F.type_list_append G8 (pv 1) (A8 (E8 (A8 (Z9 T.bx (Jo T) (Rm C) rfl T.bw T.bc .nil E7 (A8 (M9 (RC K) (pv 6) B8 (λ_ _=>rfl)) (A8 (M9 (RC K) (pv 6) B8 (λ_ _=>rfl)) B2))) (A8 (pv 4) (A8 (pv 5) B2)))) B2)))
   (B3 (E2 (Fu K PySem.F.plainAttrs_list PySem.F.slot_list_append PySem.F.type_list_append G8 (M9 (RC K) (pv 6) B8 (λ_ _=>rfl)) (A8 R9 B2)))
   (B4 (E2 (Fu K PySem.F.plainAttrs_list PySem.F.slot_list_append PySem.F.type_list_append G8 (M9 (RC K) (pv 6) B8 (λ_ _=>rfl)) (A8 (E8 (A8 R9 (A8 R9 B2))) B2)))))))))))
   (B3 (U2 PassesOwn.never rfl (Qr (by rfl) T.bp (A8 B8 (A8 (I9 (Uo rfl) T.bN zDi (A8 B8 (A8 (I9 (Rk rfl) T.bG Xz (A8 (I9 (V5 K) T.aP U3 (A8 (pv 0) B2)) (A8 B8 B2))) B2))) B2))) (D6 (i:=2) JU.nd rfl (.inl rfl))
   (B3 (C2 (i:=3) JU.nd rfl (.inl rfl) (C7 T.ba (Cq T) (Rm C) (A8 (pv 0) (A8 (pv 2) B2))))
   (B3 (l4 (M9 (P7 K) (pv 1) (C7 T.am (D4 T) (Rm C) (A8 (pv 3) (A8 B8 B2))) (λ_ _=>rfl)) (RB K (n:=3) (C9 (D6 (i:=7) JU.nd rfl (.inl rfl)) (C9 (D6 (i:=4) JU.nd rfl (.inl rfl)) (C9 (D6 (i:=5) JU.nd rfl (.inl rfl)) O7)))))
   (B3 (C2 (i:=8) JU.nd rfl (.inl rfl) (C7 T.am (D4 T) (Rm C) (A8 (pv 3) (A8 B8 B2))))
   (B3 (C2 (i:=9) JU.nd rfl (.inl rfl) (C7 T.bi (Kj T) (Rm C) (A8 (pv 3) (A8 (pv 4) B2))))
   (B3 (C2 (i:=10) JU.nd rfl (.inl rfl) (C7 T.aE g (Rm C) (A8 (pv 7) (A8 (pv 8) (A8 (pv 9) B2)))))
   (B3 (J7 (W7 (Q2 (C7 T.ax l (Rm C) (A8 (pv 10) (A8 (C7 T.aE g (Rm C) (A8 (Z9 T.bx (Jo T) (Rm C) rfl T.bw T.bc .nil E7 (A8 (pv 4) (A8 (pv 5) B2))) (A8 (pv 8) (A8 (pv 9) B2)))) B2))))) (B4 (C1 Cm)) C3)
   (B3 (E2 (C7 T.aQ (g9 T) (Rm C) (A8 (pv 10) B2)))
   (B4 (J7 (W7 (Q2 (C7 T.ax l (Rm C) (A8 (C7 T.aE g (Rm C) (A8 (pv 7) (A8 (pv 8) (A8 (pv 9) B2)))) (A8 (C7 T.aE g (Rm C) (A8 (Z9 T.bx (Jo T) (Rm C) rfl T.bw T.bc .nil E7 (A8 (pv 4) (A8 (pv 5) B2))) (A8 (pv 8) (A8 (pv 9) B2)))) B2))))) (B4 (C1 Cm)) C3))))))))))
   (B4 (C1 Cm))))),?_⟩
  refine B6 λN0 hN0=>?_;refine⟨CB _,λm hwl=>hN0 _ _ (B6 λN1 hN1=>?_)⟩;have uS:=Cs.new (o:=.lst []) hwl;have f1:(IH H m (.lst [])) m=some (.lst (([]:A1 A2).map V.ref)):=B1;generalize IH H m (.lst [])=Hs at f1 uS⊢;refine⟨_,rfl,by decide,by decide,?_⟩;refine X7 (λi σ G=>(∃v2 v3 v4 v5 v6 v7 v8 v9 J,σ = [some (.ref u),some (.ref m),v2,v3,v4,v5,v6,v7,v8,v9,J])/\Cs H G/\∃S:A1 A2,G m=some (.lst (S.map V.ref))/\S.length=i/\∀t∈S,Wb T.ag (Sw.er G m) t) ⟨⟨_,_,_,_,_,_,_,_,_,rfl⟩,uS,[],f1,rfl,λt h=>absurd h AY⟩ ?_ ?_
  .rintro i σ G hi ⟨⟨v2,v3,v4,v5,v6,v7,v8,v9,J,rfl⟩,sG,S,eS,lts,wbs⟩ D1 hD1 _;rw[Int.zero_add];have hi2:i<2:=hi;refine We λM1 hM1=>?_;refine A6 rfl (A6 rfl ⟨u,xs,i,rfl,(sG.at u).seqL hS,by lia,λp H1 hp s1 L1=>?_⟩);refine hM1 _ _ (B6 λM2 hM2=>?_);refine A6 rfl ⟨by show 2<=sizeLine;decide,λt0 ht0=>?_⟩;have ut0:=Cs.new (o:=.lst [.int 8,.int 6]) ht0;obtain⟨mo,hmo,emo⟩:∃mo:Nat,mo<=8/\QU [V.int 8,V.int 6] (i:Int)=some (.int (mo:Int)):=by
    have:i=0\/i=1:=by lia
    rcases this with rfl | rfl
    .exact⟨8,by decide,E9 (j:=0) rfl⟩
    .exact⟨6,by decide,E9 (j:=1) rfl⟩
   refine A6 rfl ⟨t0,_,C0 rfl rfl ⟨IQ.of B1,emo,?_⟩⟩;refine⟨p,0,mo,rfl,hmo,L1.same ut0,by decide,λt n a r v c' H2 htn hn ha k2 et e2 NO lmo a2 pin2 O2 hc2 L2=>?_⟩;have s2:Cs G H2:=λb o e=>k2 b o (ut0 _ _ (s1 b o e)) (by simpa using A9 e hp);have hnG:G n=none:=(s1.trans ut0).free hn;have haG:G a=none:=(s1.trans ut0).free ha;refine⟨t,_,rfl,JH.of et,rfl,_,_,rfl,_,_,rfl,rfl,?_⟩;refine hM2 _ _ (B6 λM3 hM3=>?_);have join:∀(n a:A2) (r:A1 Str) (v:A1 JS) (G3:Hp),Cs G G3->G n=none->G a=none->G3 n=some (.lst (r.map V.str))->KC r->r.length<=8->G3 a=some (.lst (K3 v))->(∀q∈v,F0 G3 q)->M_ r v->M3 [some (.ref u),some (.ref m),some (.int (i:Int)),some (.ref p),some (.ref n),some (.ref a),v6,v7,v8,v9,J] G3:=by
    intro n a r v G3 s3 hnG haG e3 NO l8 a3 pin3 O3;refine hM3 _ _ (B6 λM4 hM4=>?_);refine A6 rfl ⟨n,_,rfl,.inl (IQ.of e3),λL hh0=>?_⟩;have Y:=Cs.new (o:=.lst (r.map V.str)) hh0;have f0:(IH G3 L (.lst (r.map V.str))) L=some (.lst (r.map V.str)):=B1;generalize IH G3 L (.lst (r.map V.str))=Ga at Y f0⊢;refine A6 rfl ⟨a,_,rfl,.inl (IQ.of (Y _ _ a3)),λN W=>?_⟩;have u2:=Cs.new (o:=.lst (K3 v)) W;have f1:(IH Ga N (.lst (K3 v))) N=some (.lst (K3 v)):=B1;generalize IH Ga N (.lst (K3 v))=Gb at u2 f1⊢;refine⟨by show 2<=sizeLine;decide,λth hth=>?_⟩;have u3:=Cs.new (o:=.tup [.ref L,.ref N]) hth;have f2:(IH Gb th (.tup [.ref L,.ref N])) th=some (.tup [.ref L,.ref N]):=B1;generalize IH Gb th (.tup [.ref L,.ref N])=Gc at u3 f2⊢;have u13:=Y.trans (u2.trans u3);have sc3:=s3.trans u13;have eSc:=sc3 _ _ eS;refine hM4 _ _ (B6 λM5 hM5=>?_);refine A6 rfl ⟨.inl ⟨rfl,_,IQ.of eSc⟩,?_⟩;refine A6 rfl ⟨th,_,C0 rfl rfl ⟨JH.of f2,E9 (j:=0) rfl,A6 rfl ⟨th,_,C0 rfl rfl ⟨JH.of f2,E9 (j:=1) rfl,?_⟩⟩⟩⟩;intro x dx nx ndx nex;have U:Cs Gc (IH (IH Gc dx (.own x)) x (.ins T.ag dx [])):=λb o e=>by
     rw[B5 (A9 e nx),B5 (A9 e ndx)];exact e
    have c0:=(u2.trans u3) _ _ f0;have c1:=u3 _ _ f1;have Z:=Q8 u13 pin3;refine zCe (a:=x) (b:=dx) (c:=L) (d:=r) (e:=N) (f:=v) rfl B1 (U _ _ c0) NO (U _ _ c1) (Q8 U Z) O3 λR qs H5 pn srn pq srq k5 W5 WC=>⟨rfl,?_⟩;have s5:Cs Gc H5:=λb o e=>k5 b o (U b o e) (by simpa using A9 e nx);refine A6 rfl (A6 rfl ⟨by show 3<=sizeLine;decide,λtt htt=>?_⟩);have ut:=Cs.new (o:=.tup [.ref x,.ref n,.ref a]) htt;have ett:(IH H5 tt (.tup [.ref x,.ref n,.ref a])) tt=some (.tup [.ref x,.ref n,.ref a]):=B1;generalize IH H5 tt (.tup [.ref x,.ref n,.ref a])=Hd at ut ett⊢;have D:=s5.trans ut;have eSd:=D _ _ eSc;refine⟨m,_,_,rfl,rfl,eSd,by rw[AA,sizeLine_eq];lia,hM5 _ _ (B6 λM6 hM6=>?_)⟩;have n0w:L≠m:=(A9 (s3 _ _ eS) hh0).symm;have n1w:N≠m:=(A9 (Y _ _ (s3 _ _ eS)) W).symm;have n01:L≠N:=A9 f0 W;have dist:∀b,(Gc b=none\/∃ys,Gc b=some (.tup ys))->b≠m/\b≠L/\b≠N:=λb c=>by
     refine⟨λz=>?_,λz=>?_,λz=>?_⟩
     .rw[z,eSc]at c;rcases c with c | ⟨ys,c⟩<;>cases c
     .rw[z,c0]at c;rcases c with c | ⟨ys,c⟩<;>cases c
     .rw[z,c1]at c;rcases c with c | ⟨ys,c⟩<;>cases c
    obtain⟨tw,t0',t1'⟩:=dist th (.inr ⟨_,f2⟩);have e6t:=(B5 (H:=Hd) (o:=.lst (S.map V.ref ++ [V.ref tt])) tw).trans (D _ _ f2);have e60:=(B5 (H:=Hd) (o:=.lst (S.map V.ref ++ [V.ref tt])) n0w).trans (D _ _ c0);have e61:=(B5 (H:=Hd) (o:=.lst (S.map V.ref ++ [V.ref tt])) n1w).trans (D _ _ c1);have e6w:(IH Hd m (.lst (S.map V.ref ++ [V.ref tt]))) m=some (.lst ((S ++ [tt]).map V.ref)):=by rw[B1,AK];rfl
    have k6:∀b o,Hd b=some o->b≠m->(IH Hd m (.lst (S.map V.ref ++ [V.ref tt]))) b=some o:=λb o e n=>(B5 n).trans e;generalize IH Hd m (.lst (S.map V.ref ++ [V.ref tt]))=He at e6t e60 e61 e6w k6⊢;have lp:=O3.len;refine A6 rfl ⟨th,_,C0 rfl rfl ⟨JH.of e6t,E9 (j:=0) rfl,⟨.inl ⟨rfl,_,IQ.of e60⟩,⟨L,_,_,rfl,rfl,e60,by rw[AA,sizeLine_eq];lia,hM6 _ _ ?_⟩⟩⟩⟩;have k7:∀b o,He b=some o->b≠L->(IH He L (.lst (r.map V.str ++ [V.str "handed"]))) b=some o:=λb o e n=>(B5 n).trans e;generalize IH He L (.lst (r.map V.str ++ [V.str "handed"]))=Hf at k7⊢;have e7t:=k7 _ _ e6t t0';have e71:=k7 _ _ e61 n01.symm;refine A6 rfl ⟨th,_,C0 rfl rfl ⟨JH.of e7t,E9 (j:=1) rfl,⟨.inl ⟨rfl,_,IQ.of e71⟩,by show 2<=sizeLine;decide,λtp htp=>?_⟩⟩⟩;have up:=Cs.new (o:=.tup [.str "handed",.str "handed"]) htp;refine⟨N,_,_,rfl,rfl,up _ _ e71,by unfold K3;rw[AA,sizeLine_eq];lia,?_⟩;have kg:∀b o,Hd b=some o->b≠m->b≠L->b≠N->(IH (IH Hf tp (.tup [.str "handed",.str "handed"])) N (.lst (K3 v ++ [V.ref tp]))) b=some o:=λb o e n1 n2 n3=>(B5 n3).trans (up _ _ (k7 _ _ (k6 _ _ e n1) n2));have egw:(IH (IH Hf tp (.tup [.str "handed",.str "handed"])) N (.lst (K3 v ++ [V.ref tp]))) m=some (.lst ((S ++ [tt]).map V.ref)):=(B5 n1w.symm).trans (up _ _ (k7 _ _ e6w n0w.symm));generalize IH (IH Hf tp (.tup [.str "handed",.str "handed"])) N (.lst (K3 v ++ [V.ref tp]))=Hg at kg egw⊢;have K5:∀b o,Hd b=some o->b≠m->b≠L->b≠N->Sw.er Hg m b=some o:=λb o e n1 n2 n3=>(u6 n1).trans (kg b o e n1 n2 n3);refine hD1 _ _ ⟨⟨_,_,_,_,_,_,_,_,_,rfl⟩,λb o e=>?_,S ++ [tt],egw,by rw[AU,lts];rfl,λt' ht'=>?_⟩
    .have X:=s3 _ _ (sG _ _ e);exact kg b o (D _ _ (u13 _ _ X)) (A9 e hwl) (A9 X hh0) (A9 (Y _ _ X) W)
    rcases AR.mp ht' with h | h
    .refine(wbs t' h).kp (KP.same λb o e=>?_);have nb:b≠m:=λz=>by
      rw[z]at e;unfold Sw.er at e;rw[AO rfl]at e;cases e
     have X:=s3 _ _ ((u6 nb).symm.trans e);exact K5 b o (D _ _ (u13 _ _ X)) nb (A9 X hh0) (A9 (Y _ _ X) W)
    .rw[AD.mp h];obtain⟨d1,d2,d3⟩:=dist tt (.inl (s5.free htt));refine⟨x,n,a,r,R,v,qs,K5 _ _ ett d1 d2 d3,WC _ λb o e c=>?_,K5 _ _ (D _ _ (u13 _ _ e3)) (A9 eS hnG).symm (A9 e3 hh0) (A9 (Y _ _ e3) W),NO,l8,K5 _ _ (D _ _ (u13 _ _ a3)) (A9 eS haG).symm (A9 a3 hh0) (A9 (Y _ _ a3) W),λq hq=>?_,O3,pn,srn,pq,srq⟩
     .obtain⟨d1,d2,d3⟩:=dist b (by
       rcases c with c | rfl | ⟨q,hq,rfl⟩
       .exact .inl (U.free c)
       .exact .inl nx
       .exact .inr ⟨_,Z q (pq.mem_iff.mp hq)⟩)
      exact K5 _ _ (ut _ _ e) d1 d2 d3
     .obtain⟨d1,d2,d3⟩:=dist q.1 (.inr ⟨_,Z q hq⟩);exact K5 _ _ (D _ _ (Z q hq)) d1 d2 d3
   refine A6 rfl ⟨rfl,_,rfl,Q3 (λc1=>?_) λc1=>?_⟩;rotate_left
   .exact join n a r v H2 s2 hnG haG e2 NO (by lia) a2 pin2 O2
   refine A6 rfl (q9 (a:=p) (b:=c') rfl L2 (by lia) (by decide) (by decide) λd H3 hd k3 L3=>⟨rfl,_,rfl,Q3 (λc2=>?_) λc2=>?_⟩);rotate_left
   .have s3:Cs G H3:=λb o e=>k3 b o (s2 b o e) (by simpa using A9 e hp);have n1:=L2.ne e2;exact join n a r v H3 s3 hnG haG (KW k3 e2 n1) NO (by lia) (KW k3 a2 (L2.neP a2)) (λq hq=>zBn (pin2 q hq) L2 k3) O2
   have s3:Cs G H3:=λb o e=>k3 b o (s2 b o e) (by simpa using A9 e hp);have i1:i=1:=by
    have:=V.int.inj (BJ c1);lia
   obtain⟨tq,htq⟩:∃tq,S[0]?=some tq:=⟨_,AC (by lia)⟩;obtain⟨x1,n1,a1,I,ns1,ps1,qs1,et1,_,en1,NO1,l81,_⟩:=(wbs tq (AM htq)).kp (KP.same ((P4 G m).trans s3));refine B6 λM4 hM4=>?_;refine A6 rfl ⟨m,_,C0 rfl rfl ⟨IQ.of (s3 _ _ eS),E9 (j:=0) (by rw[AH,htq];rfl),⟨tq,_,C0 rfl rfl ⟨JH.of et1,E9 (j:=1) rfl,⟨n1,_,rfl,.inl (IQ.of en1),λn' hn'=>?_⟩⟩⟩⟩⟩;have Y:=Cs.new (o:=.lst (I.map V.str)) hn';have f1:(IH H3 n' (.lst (I.map V.str))) n'=some (.lst (I.map V.str)):=B1;generalize IH H3 n' (.lst (I.map V.str))=H4 at Y f1⊢;refine hM4 _ _ ?_;refine A6 rfl (A6 rfl (A6 rfl ⟨n',_,rfl,IQ.of f1,λm' hm'=>?_⟩));have u2:=Cs.new (o:=.lst (Je (I.map V.str) none (some ((8:Nat):Int)))) hm';have f2:(IH H4 m' (.lst (Je (I.map V.str) none (some ((8:Nat):Int))))) m'=some (.lst (I.map V.str)):=by rw[B1,Uh,CQ l81]
   have L4:=L3.same (Y.trans u2);refine⟨p,m',_,I,rfl,L4,by lia,f2,NO1,by lia,λa' ps' c5 H5 ha' k5 e5 pin5 O5 hc5 L5=>?_⟩;have s5:Cs G H5:=λb o e=>k5 b o (u2 _ _ (Y _ _ (s3 b o e))) (by simpa using A9 e hp);exact join n' a' I ps' H5 s5 (s3.free hn') ((s3.trans (Y.trans u2)).free ha') (KW k5 (u2 _ _ f1) ((L3.same Y).ne f1)) NO1 l81 e5 pin5 O5
  .rintro σ Gm ⟨⟨v2,v3,v4,v5,v6,v7,v8,v9,J,rfl⟩,sG,S,eS,lts,wbs⟩;refine hN1 _ _ (B6 λN2 hN2=>?_);have Tm:=S7 sG hT;have u0:IQ K Gm u (xs.map V.int):=(sG.at u).seqL hS;clear hN1 f1 uS;refine A6 rfl ⟨u,_,rfl,.inl u0,_,_,rfl,_,_,rfl,_,_,rfl,?_,?_⟩
   .refine⟨by decide,by decide,?_,?_⟩<;>rw[AA]<;>split<;>split<;>lia
   have hM:(((if(if(9:Int) <((xs.map V.int).length:Int)then(9:Int)else((xs.map V.int).length:Int))>5 then(if(9:Int) <((xs.map V.int).length:Int)then(9:Int)else((xs.map V.int).length:Int))else 5):Int)-2).toNat<=7:=by
    split<;>split<;>lia
   generalize (((if(if(9:Int) <((xs.map V.int).length:Int)then(9:Int)else((xs.map V.int).length:Int))>5 then(if(9:Int) <((xs.map V.int).length:Int)then(9:Int)else((xs.map V.int).length:Int))else 5):Int)-2).toNat=M at hM⊢;refine X7 (λi σ G=>(∃v2 v3 v4 v5 v6 v7 v8 v9 J,σ = [some (.ref u),some (.ref m),v2,v3,v4,v5,v6,v7,v8,v9,J])/\Sm [T.aa] Gm G/\K0 G T.aa B9) ⟨⟨_,_,_,_,_,_,_,_,_,rfl⟩,(λb o e _=>e),Tm⟩ ?_ ?_
   .rintro i σ G hi ⟨⟨v2,v3,v4,v5,v6,v7,v8,v9,J,rfl⟩,kG,TG⟩ D1 hD1 _;have e2:(2:Int) +(i:Int) =((i+2:Nat):Int):=by lia
    rw[e2];have kpG:=KP.of Tm kG;have uG:IQ K G u (xs.map V.int):=by
     rcases u0 with(h | ⟨o,h⟩) | h
     .exact .inl (.inl (kpG _ _ h (λ_ z=>by cases z)))
     .exact .inl (.inr ⟨o,kpG _ _ h (λ_ z=>by cases z)⟩)
     .exact .inr h
    refine We λM1 hM1=>?_;refine A6 rfl (A6 rfl ⟨u,xs,i+2,rfl,uG,by lia,λp H1 hp s1 L1=>?_⟩);have hpm:Gm p=none:=kG.none (λy=>by
     obtain⟨pp,e,_⟩:=TG;rw[AD.mp y,e]at hp;cases hp) hp
    have k1:Sm [T.aa] Gm H1:=kG.trans s1.sm;have T1:=S7 s1 TG;have kk:∀{H'},Sm [p] H1 H'->Sm [T.aa] Gm H':=fun{H'} k b o e n=>k b o (k1 b o e n) (by simpa using A9 e hpm);refine hM1 _ _ (B6 λM2 hM2=>?_);refine A6 rfl (A6 rfl ⟨p,0,2,rfl,L1,by decide,by decide,by decide,λk H2 hk k2 L2=>?_⟩);have hk:k<2:=by lia
    obtain⟨t,ht⟩:∃t,S[k]?=some t:=⟨_,AC (by lia)⟩;have wbm:=(wbs t (AM ht)).kp (KP.same (P4 Gm m));have kp2:=KP.of Tm (kk k2);obtain⟨x,n,a,r,R,v,qs,et,Wm,en,NO,l8,ea,pin,O,pn,srn,pq,srq⟩:=wbm;refine⟨m,_,C0 rfl rfl ⟨IQ.of (kp2 _ _ eS (λ_ z=>by cases z)),E9 (by rw[AH,ht];rfl),?_⟩⟩;refine⟨t,_,rfl,JH.of (kp2 _ _ et (λ_ z=>by cases z)),rfl,_,_,rfl,_,_,rfl,_,_,rfl,rfl,?_⟩;refine hM2 _ _ (B6 λM3 hM3=>?_);refine A6 rfl ⟨p,0+1,3,rfl,L2,by decide,by decide,by decide,λway H3 _ k3 L3=>?_⟩;have kp3:=KP.of Tm (kk (k2.trans k3));refine hM3 _ _ (B6 λM4 hM4=>?_);refine A6 rfl (A6 rfl ⟨p,n,_,r,rfl,L3,by decide,kp3 _ _ en (λ_ z=>by cases z),NO,by lia,λb rs c4 H4 hb k4 hs hne sb nds hc4 L4=>?_⟩);have kH4:=kk (k2.trans (k3.trans k4));have T4:=zBx L1 (k2.trans (k3.trans k4)) T1;have kp4:=KP.of Tm kH4;clear kp2 kp3 k2 k3 k4 L1 L2 L3 L4;have W4:=kp4.web Wm;have en4:=kp4 _ _ en (λ_ z=>by cases z);have ea4:=kp4 _ _ ea (λ_ z=>by cases z);have pin4:∀q∈v,F0 H4 q:=λq hq=>kp4 _ _ (pin q hq) (λ_ z=>by cases z);have lnn:R.length<=10:=by rw[pn.length_eq];lia
    have nm:∀y∈R,P5 y=true:=λy hy=>NO.1 y (pn.mem_iff.mp hy);have nd:R.Nodup:=pn.nodup_iff.mpr NO.2.1;have sub:∀y∈rs,y∈R:=λy hy=>pn.mem_iff.mpr (sb y hy);obtain⟨A,mA⟩:=zDx R ((qs.map λq=>q.2).map λk=>(k.2,k.1));obtain⟨B,mB⟩:=zDx R (qs.map λq=>q.2);have net:=mA.net mB;have hLM:∀j,(u9 R.length λj=>(A.getD j 0).testBit j=true).testBit j=true↔(A.getD j 0).testBit j=true:=λj=>by
     rw[R8];exact⟨(·.2),λh=>⟨(net.lt j j ((net.tr j j).mp h)).1,h⟩⟩
    generalize (u9 R.length λj=>(A.getD j 0).testBit j=true)=LM at hLM;have lo:JW R.length (RS R rs):=λj h=>((R8 j).mp h).1;have hm:∀(j:Nat) y,R[j]?=some y->((RS R rs).testBit j=true↔y∈rs):=λj y hj=>by
     unfold RS;rw[R8];exact⟨λ⟨_,y',e,h⟩=>by rw[hj]at e;cases e;exact h,λh=>⟨(AF.mp hj).1,y,hj,h⟩⟩
    generalize RS R rs=mk at lo hm;refine hM4 _ _ (B6 λM5 hM5=>?_);refine A6 rfl (A6 rfl (A6 rfl ⟨x,b,R,qs,rs,A,B,LM,mk,way,rfl,W4,lnn,nm,nd,hs,sub,nds,T4,mA,mB,hLM,lo,hm,λt1 Ls1 H5 k5 T5 o1 nd1 nw1 sh1=>?_⟩));refine hM5 _ _ (B6 λM6 hM6=>?_);have K5:=KP.of T4 k5;refine A6 rfl (A6 rfl (A6 rfl ?_));intro x2 dx nx ndx nex;have U:Cs H5 (IH (IH H5 dx (.own x2)) x2 (.ins T.ag dx [])):=λb o e=>by
     rw[B5 (A9 e nx),B5 (A9 e ndx)];exact e
    refine zCe (a:=x2) (b:=dx) (c:=n) (d:=r) (e:=a) (f:=v) rfl B1 (U _ _ (K5 _ _ en4 (λ_ z=>by cases z))) NO (U _ _ (K5 _ _ ea4 (λ_ z=>by cases z))) (λq hq=>U _ _ (K5 _ _ (pin4 q hq) (λ_ z=>by cases z))) O λns2 qs2 H6 pn2 srn2 pq2 srq2 k6 W6 _=>⟨rfl,?_⟩;have en2:ns2=R:=Do srn2 srn (pn2.trans pn.symm);subst en2;have eq2:(qs2.map λq=>q.2)=qs.map λq=>q.2:=Bj srq2 srq (pq2.trans pq.symm);have s6:Cs H5 H6:=λb o e=>k6 b o (U b o e) (by simpa using A9 e nx);refine A6 rfl (A6 rfl ⟨x2,b,ns2,qs2,rs,A,B,LM,mk,way,rfl,W6,lnn,nm,nd,(s6.at b).seq (K5.sqs hs),sub,nds,S7 s6 T5,by rw[eq2];exact mA,by rw[eq2];exact mB,hLM,lo,hm,λt2 Ls2 H7 k7 T7 o2 _ _ _=>?_⟩);have K7:=(KP.same s6).trans (KP.of (S7 s6 T5) k7);refine Ow.alike (n:=40) (o1.kp K7) o2 λH8 s8=>⟨_,rfl,i7 (hM6 _ _ (B6 λM7 hM7=>?_))⟩;have K8:=K7.trans (KP.same s8);have k58:=s6.sm.trans (k7.trans s8.sm);have T8:=S7 s8 T7;have o18:=o1.kp K8;refine A6 rfl ⟨t1,Ls1,rfl,sh1.kp K8,nd1,λH9 k9=>hM7 _ _ ?_⟩;have T9:=Xo k9 o18.here T8;have K9:KP H4 H9:=λb o e n=>Oc nw1 k9 e (K8 _ _ (K5 _ _ e n) n);have kH9:Sm [T.aa] Gm H9:=λb o e n=>Oc nw1 k9 (kH4 b o e n) (k58 _ _ (k5 _ _ (kH4 b o e n) n) n);clear K8 k58 T8 o18 k9 K7 o2 T7 k7 eq2 s6 W6 U sh1 o1 K5 k5 T5 nw1 nd1;have W9:=K9.web W4;refine A6 rfl (A6 rfl (A6 rfl ⟨x,b,ns2,qs,rs,A,B,LM,mk,way,rfl,W9,lnn,nm,nd,K9.sqs hs,sub,nds,T9,mA,mB,hLM,lo,hm,λt3 Ls3 H10 k10 T10 o3 _ _ _=>?_⟩));have K10:=K9.trans (KP.of T9 k10);refine A6 rfl (A6 rfl ?_);intro x4 dx4 nx4 ndx4 nex4;have U:Cs H10 (IH (IH H10 dx4 (.own x4)) x4 (.ins T.ag dx4 [])):=λb o e=>by
     rw[B5 (A9 e nx4),B5 (A9 e ndx4)];exact e
    refine zCe (a:=x4) (b:=dx4) (c:=n) (d:=r) (e:=a) (f:=v) rfl B1 (U _ _ (K10 _ _ en4 (λ_ z=>by cases z))) NO (U _ _ (K10 _ _ ea4 (λ_ z=>by cases z))) (λq hq=>U _ _ (K10 _ _ (pin4 q hq) (λ_ z=>by cases z))) O λns4 qs4 H11 pn4 srn4 pq4 srq4 k11 W11 _=>⟨rfl,?_⟩;have en4:ns4=ns2:=Do srn4 srn (pn4.trans pn.symm);subst en4;have eq4:(qs4.map λq=>q.2)=qs.map λq=>q.2:=Bj srq4 srq (pq4.trans pq.symm);have s11:Cs H10 H11:=λb o e=>k11 b o (U b o e) (by simpa using A9 e nx4);have T11:=S7 s11 T10;refine A6 rfl (A6 rfl ⟨x4,b,ns4,qs4,rs,A,B,LM,mk,way,rfl,W11,lnn,nm,nd,(s11.at b).seq (K10.sqs hs),sub,nds,T11,by rw[eq4];exact mA,by rw[eq4];exact mB,hLM,lo,hm,λt4 Ls4 H12 k12 T12 o4 _ _ _=>?_⟩);have K12:=(KP.same s11).trans (KP.of T11 k12);refine Ow.alike (n:=40) (o3.kp K12) o4 λH13 s13=>⟨_,rfl,i7 (hD1 _ _ ⟨⟨_,_,_,_,_,_,_,_,_,rfl⟩,?_,S7 s13 T12⟩)⟩;exact kH9.trans (k10.trans (s11.sm.trans (k12.trans s13.sm)))
   .rintro σ G ⟨⟨v2,v3,v4,v5,v6,v7,v8,v9,J,rfl⟩,_⟩;exact hN2 _ _ (q _)
end
section
variable{K:PySem.W.Frag}{h:IJ}{mg:Str->A5 A3}
theorem RT{us:A1 A3}(h:us.length=1):∃a,us = [a]:=List.length_eq_one_iff.mp h
theorem RF{us:A1 A3}(h:us.length=2):∃a b,us = [a,b]:=by
 cases us with
 | nil=>cases h
 | cons a r=>obtain⟨b,rfl⟩:=RT (Nat.succ.inj h);exact⟨a,b,rfl⟩
theorem SJ{us:A1 A3}(h:us.length=3):∃a b c,us = [a,b,c]:=by
 cases us with
 | nil=>cases h
 | cons a r=>obtain⟨b,c,rfl⟩:=RF (Nat.succ.inj h);exact⟨a,b,c,rfl⟩
theorem TM{us:A1 A3}(h:us.length=4):∃a b c d,us = [a,b,c,d]:=by
 cases us with
 | nil=>cases h
 | cons a r=>obtain⟨b,c,d,rfl⟩:=SJ (Nat.succ.inj h);exact⟨a,b,c,d,rfl⟩
theorem TL{us:A1 A3}(h:us.length=5):∃a b c d e,us = [a,b,c,d,e]:=by
 cases us with
 | nil=>cases h
 | cons a r=>obtain⟨b,c,d,e,rfl⟩:=TM (Nat.succ.inj h);exact⟨a,b,c,d,e,rfl⟩
theorem UL{us:A1 A3}(h:us.length=6):∃a b c d e f,us = [a,b,c,d,e,f]:=by
 cases us with
 | nil=>cases h
 | cons a r=>obtain⟨b,c,d,e,f,rfl⟩:=TL (Nat.succ.inj h);exact⟨a,b,c,d,e,f,rfl⟩
def I_{x:Str}{st:IV}{m:A1 Str}{f:A2}{q:A3}{r n:A5 A2}{o:CM (A5 A3)}{kV i p g ct:A3}(X:K.In h)(G:h.Ns mainGlobals mg)(a:PySem.W.nsIn K mainGlobals x=some (some (.ref f)))
  (l:K.lookup f=some ⟨q,r,.func (PySem.W.fnOf x x (S8 st) (P2 st) (B7 st) .none kV i p n g ct),o⟩) (c:PySem.W.codeIn K g x=true) (k:PySem.W.keepIn K (.ref f)=true)
  (s:∀(kV i p:A3) (n:A5 A2) (g ct:A3) (us:A1 A3),us.length=m.length->bindArgs (PySem.W.fnOf x x (S8 st) (P2 st) (B7 st) .none kV i p n g ct) ⟨us,[]⟩=pure (m.zip us):=by intro _ _ _ _ _ _ us j;first | (obtain rfl:=List.length_eq_zero_iff.mp j;rfl) | (obtain⟨a,rfl⟩:=Sw.RT j;rfl) | (obtain⟨a,b,rfl⟩:=Sw.RF j;rfl) | (obtain⟨a,b,c,rfl⟩:=Sw.SJ j;rfl) | (obtain⟨a,b,c,d,rfl⟩:=Sw.TM j;rfl) | (obtain⟨a,b,c,d,e,rfl⟩:=Sw.TL j;rfl) | (obtain⟨a,b,c,d,e,f,rfl⟩:=Sw.UL j;rfl)):Fn K mg x st m :=
 ⟨f,_,L_ l c k,(L_ l c k).binds s,PySem.W.mg_of X G a⟩
def LW{C:A2}{x q:Str}{st:IV}{m:A1 Str}{f:A2}{r:A3}{s n:A5 A2}{o:CM (A5 A3)}{kV h p g ct:A3}(a:PySem.W.findIn K (.ref C) x=some (some (.ref f)))(i:PySem.W.isFn K (.ref f)=true)
  (l:K.lookup f=some ⟨r,s,.func (PySem.W.fnOf x q (S8 st) (P2 st) (B7 st) .none kV h p n g ct),o⟩) (c:PySem.W.codeIn K g q=true) (k:PySem.W.keepIn K (.ref f)=true)
  (t:∀(kV h p:A3) (n:A5 A2) (g ct:A3) (us:A1 A3),us.length=m.length->bindArgs (PySem.W.fnOf x q (S8 st) (P2 st) (B7 st) .none kV h p n g ct) ⟨us,[]⟩=pure (m.zip us):=by intro _ _ _ _ _ _ us j;first | (obtain rfl:=List.length_eq_zero_iff.mp j;rfl) | (obtain⟨a,rfl⟩:=Sw.RT j;rfl) | (obtain⟨a,b,rfl⟩:=Sw.RF j;rfl) | (obtain⟨a,b,c,rfl⟩:=Sw.SJ j;rfl) | (obtain⟨a,b,c,d,rfl⟩:=Sw.TM j;rfl) | (obtain⟨a,b,c,d,e,rfl⟩:=Sw.TL j;rfl) | (obtain⟨a,b,c,d,e,f,rfl⟩:=Sw.UL j;rfl)):Mt K C x q st m :=
 ⟨f,_,L_ l c k,(L_ l c k).binds t,⟨a,i,k⟩⟩
theorem TK{x z:Str}{v:A3}(X:K.In h)(G:h.Ns mainGlobals mg)(a:PySem.W.nsIn K mainGlobals x=some (some v))(e:∃t,v = .str z t):∃t,mg x=some (.str z t):=by
 obtain⟨t,rfl⟩:=e;exact⟨t,PySem.W.mg_of X G a⟩
theorem RU{x:Str}{z:Int}{v:A3}(X:K.In h)(G:h.Ns mainGlobals mg)(a:PySem.W.nsIn K mainGlobals x=some (some v))(e:∃t,v = .int z t):∃t,mg x=some (.int z t):=by
 obtain⟨t,rfl⟩:=e;exact⟨t,PySem.W.mg_of X G a⟩
def zEx(vs:CM A3)(c p:A2):Bool:=decide (vs[11]?=some (.ref p)) &&(match vs.getD 18 .none with | .str _ _=>true | _=>false) &&(match vs.getD 7 .none with | .int _ _=>true | _=>false) &&(match vs.getD 9 .none with | .bool _=>true | _=>false) &&(match vs.getD 10 .none with | .int _ _=>true | _=>false)&&decide (c≠p)&&decide (mainGlobals≠p)
theorem TJ{c p:A2}{y:A5 A2}{vs:CM A3}{z:CM (A5 A3)}(l:K.lookup c=some ⟨.type "code",y,.fields vs,z⟩)(A:vs.getD 11 .none = .ref p)(e:zEx vs c p=true):TabAt K mg c p:=by
 unfold zEx at e;simp only[BT,decide_eq_true_eq]at e;obtain⟨⟨⟨⟨⟨⟨i,f⟩,w⟩,x⟩,h⟩,j⟩,m⟩:=e;have b:∃a t,vs.getD 18 .none = .str a t:=by cases q:vs.getD 18 .none<;>rw[q]at f<;>first | exact⟨_,_,rfl⟩ | cases f
 have n:∃a t,vs.getD 7 .none = .int a t:=by cases q:vs.getD 7 .none<;>rw[q]at w<;>first | exact⟨_,_,rfl⟩ | cases w
 have o:∃a,vs.getD 9 .none = .bool a:=by cases q:vs.getD 9 .none<;>rw[q]at x<;>first | exact⟨_,rfl⟩ | cases x
 have d:∃a t,vs.getD 10 .none = .int a t:=by cases q:vs.getD 10 .none<;>rw[q]at h<;>first | exact⟨_,_,rfl⟩ | cases h
 obtain⟨r,s,b⟩:=b;obtain⟨B,C,n⟩:=n;obtain⟨D,o⟩:=o;obtain⟨u,v,d⟩:=d;exact⟨λg k=>⟨_,vs,r,s,B,C,D,u,v,k _ _ l,rfl,rfl,i,A,b,n,o,d,j⟩,m⟩
theorem JR{C:A2}{f:Str}(h:PySem.W.findIn K (.ref C) f=some none):JV K C f:=h
end
def TR{l:PySem.W.OpenLaw}{w:F8}{K:PySem.W.Frag}{h:IJ}{mg:Str->A5 A3}{n f d:A2}{u:A3}{x q:A5 A2}{i:CM (A5 A3)}{kV g r b ct:A3}(X:K.In h)(G:h.Ns mainGlobals mg)(j:mg "law" = some (.ref n))
  (T:Tx K mg) (a:PySem.W.nsIn K mainGlobals "law" = some (some (.ref f))) (lk:K.lookup f=some ⟨u,x,.func (PySem.W.fnOf "law" "law" (S8 OO) (P2 OO) (B7 OO) .none kV g r q b ct),i⟩) (c:PySem.W.codeIn K b "law" = true) (k:PySem.W.keepIn K (.ref f)=true) (ep:T.aa=d) (y:K.lookup d=none) :
  (∀p∈[d],isCodeTable h p)/\(∀p∈[d],K.lookup p=none)/\∃t:IS,(∀(s:A4) (v:A3),BindsTo s t ⟨[v],[]⟩ [("_law_script",v)])/\∀base:IJ,K.In base->base.Ns mainGlobals mg->(∀p∈[d],base.BuiltinsAt mg p)->IK l.prog w K mg base IY 41 n t ["_law_script"] (Ng K d):=by
 subst ep;have e:=j.symm.trans (PySem.W.mg_of X G a);cases e;refine⟨λp m=>?_,λp m=>by rw[AD.mp m];exact y,PySem.W.fnOf "law" "law" (S8 OO) (P2 OO) (B7 OO) .none kV g r q b ct,λs v=>.of_eq rfl,λbase _ _ z=>zFr T (z _ (AD.mpr rfl)) (L_ lk c k)⟩;obtain⟨o,A,_,_,_,_,_,_,_,B,C,D,E,_⟩:=T.bq.hd h X;rw[AD.mp m];exact⟨_,o,A,B,C,D,E⟩
def walk{l:PySem.W.OpenLaw}{q:A7}{c:A1 Str}{o:(Str->A5 A3)->IJ->Prop}{e:F8->IJ->Prop}{d:DefRec}{K:Params->PySem.W.Frag}{b:A2}(r:l.most=some 63)(g:d.params.defaults = [])
  (t:∀(w:F8) (h:IJ),e w h->(K w.params).In h) (i:∀(w:F8) (h:IJ),e w h->∀p∈[b],h.get? p=some (PySem.W.tabObj #[]))
  (F:∀(w:F8) (mg:Str->A5 A3) (j:A2) (h:IJ),(K w.params).In h->h.Ns mainGlobals mg->mg d.name=some (.ref j) ->
   (∀p∈[b],isCodeTable h p)/\(∀p∈[b],(K w.params).lookup p=none)/\∃m:IS,(∀(s:A4) (u:A3),BindsTo s m ⟨[u],[]⟩ [("_law_script",u)])/\∀base:IJ,(K w.params).In base->base.Ns mainGlobals mg->(∀p∈[b],base.BuiltinsAt mg p)->IK l.prog w (K w.params) mg base IY 41 j m ["_law_script"] (Ng (K w.params) b)) :
  PySem.W.WalkO q c o e l.row.toRowW d [] (λf vs=>PySem.call f vs) :=
 L2.RO (n:=63) (k:=41) (x := "_law_script") (ts:=[b]) (sp:=λw=>Ng (K w.params) b) r (by decide) g ⟨rfl,by decide,by decide⟩ t i F (λ_ _ a v y z A=>⟨a,v,rfl,A,y,⟨#[],z b (AD.mpr rfl),trivial,λ_ _=>.inl rfl⟩,λ_=>rfl⟩)
end Sw
open PySem PySem.W PyProof.Rows
set_option maxRecDepth 100000 in
set_option maxHeartbeats 0 in
theorem PySem.Challenge.cw_strikeweave_k34_asked_by_turns_holds : PySem.Challenge.rw_strikeweave_k34_asked_by_turns.Holds := by
 w_on;o_law;k_head;(case hw=>w_witness2)
 k_fill
 refine Sw.walk (l:=PySem.Challenge.rw_strikeweave_k34_asked_by_turns) rfl rfl (λw h Y=>PySem.W.km_in_of Y) (λw h Y=>PySem.W.km_tabs_of Y) ?F
 case F =>
  intro w mg fa h KX G hmg;refine' Sw.TR KX G hmg (Sw.Tx.mk (Sw.I_ KX G ?a1 ?l2 ?c3 ?k4)
   (Sw.I_ KX G ?a5 ?l6 ?c7 ?k8)
   (Sw.I_ KX G ?a9 ?l10 ?c11 ?k12)
   (Sw.I_ KX G ?a13 ?l14 ?c15 ?k16)
   (Sw.I_ KX G ?a17 ?l18 ?c19 ?k20)
   (Sw.I_ KX G ?a21 ?l22 ?c23 ?k24)
   (Sw.I_ KX G ?a25 ?l26 ?c27 ?k28)
   (Sw.I_ KX G ?a29 ?l30 ?c31 ?k32)
   (Sw.I_ KX G ?a33 ?l34 ?c35 ?k36)
   (Sw.I_ KX G ?a37 ?l38 ?c39 ?k40)
   (Sw.I_ KX G ?a41 ?l42 ?c43 ?k44)
   (Sw.I_ KX G ?a45 ?l46 ?c47 ?k48)
   (Sw.I_ KX G ?a49 ?l50 ?c51 ?k52)
   (Sw.I_ KX G ?a53 ?l54 ?c55 ?k56)
   (Sw.I_ KX G ?a57 ?l58 ?c59 ?k60)
   (Sw.I_ KX G ?a61 ?l62 ?c63 ?k64)
   (Sw.I_ KX G ?a65 ?l66 ?c67 ?k68)
   (Sw.I_ KX G ?a69 ?l70 ?c71 ?k72)
   (Sw.I_ KX G ?a73 ?l74 ?c75 ?k76)
   _
   _
   (Sw.TJ ?l78 ?r79 ?r80)
   ?r77
   (Sw.I_ KX G ?a81 ?l82 ?c83 ?k84)
   (Sw.I_ KX G ?a85 ?l86 ?c87 ?k88)
   (Sw.I_ KX G ?a89 ?l90 ?c91 ?k92)
   (Sw.I_ KX G ?a93 ?l94 ?c95 ?k96)
   (Sw.I_ KX G ?a97 ?l98 ?c99 ?k100)
   (Sw.I_ KX G ?a101 ?l102 ?c103 ?k104)
   (Sw.I_ KX G ?a105 ?l106 ?c107 ?k108)
   (Sw.I_ KX G ?a109 ?l110 ?c111 ?k112)
   (Sw.I_ KX G ?a113 ?l114 ?c115 ?k116)
   (Sw.I_ KX G ?a117 ?l118 ?c119 ?k120)
   (Sw.I_ KX G ?a121 ?l122 ?c123 ?k124)
   (Sw.I_ KX G ?a125 ?l126 ?c127 ?k128)
   (Sw.I_ KX G ?a129 ?l130 ?c131 ?k132)
   (Sw.I_ KX G ?a133 ?l134 ?c135 ?k136)
   (Sw.I_ KX G ?a137 ?l138 ?c139 ?k140)
   (Sw.I_ KX G ?a141 ?l142 ?c143 ?k144)
   (Sw.I_ KX G ?a145 ?l146 ?c147 ?k148)
   (Sw.I_ KX G ?a149 ?l150 ?c151 ?k152)
   (Sw.I_ KX G ?a153 ?l154 ?c155 ?k156)
   _
   ⟨?g158,?g159,?g160,?g161⟩
   (PySem.W.mg_of KX G ?q157)
   (Sw.JR ?n162)
   (Sw.JR ?n163)
   (Sw.JR ?n164)
   (Sw.JR ?n165)
   (Sw.JR ?n166)
   (Sw.JR ?n167)
   _
   _
   (L2.L_ ?l170 ?c171 ?k172)
   (L2.QD.binds (L2.L_ ?l170 ?c171 ?k172) (λ_ _ _ _ _ _ us hl=>by obtain⟨a,b,rfl⟩:=Sw.RF hl;rfl))
   ⟨?g173,?a168,?i169,?k174⟩
   (Sw.LW ?a175 ?i176 ?l177 ?c178 ?k179)
   (Sw.LW ?a180 ?i181 ?l182 ?c183 ?k184)
   (Sw.LW ?a185 ?i186 ?l187 ?c188 ?k189)
   (Sw.LW ?a190 ?i191 ?l192 ?c193 ?k194)
   (Sw.LW ?a195 ?i196 ?l197 ?c198 ?k199)
   (Sw.LW ?a200 ?i201 ?l202 ?c203 ?k204)
   (Sw.LW ?a205 ?i206 ?l207 ?c208 ?k209)
   (Sw.LW ?a210 ?i211 ?l212 ?c213 ?k214)
   _
   ⟨?g216,?g217,?g218,?g219⟩
   (PySem.W.mg_of KX G ?q215)
   (Sw.JR ?n220)
   (Sw.JR ?n221)
   (Sw.JR ?n222)
   (Sw.JR ?n223)
   _
   _
   (L2.L_ ?l226 ?c227 ?k228)
   (L2.QD.binds (L2.L_ ?l226 ?c227 ?k228) (λ_ _ _ _ _ _ us hl=>by obtain⟨a,b,c,rfl⟩:=Sw.SJ hl;rfl))
   ⟨?g229,?a224,?i225,?k230⟩
   (Sw.LW ?a231 ?i232 ?l233 ?c234 ?k235)
   (Sw.LW ?a236 ?i237 ?l238 ?c239 ?k240)
   (Sw.LW ?a241 ?i242 ?l243 ?c244 ?k245)
   (Sw.LW ?a246 ?i247 ?l248 ?c249 ?k250)
   (Sw.LW ?a251 ?i252 ?l253 ?c254 ?k255)
   (Sw.RU KX G ?v256 ?e257)
   (Sw.TK KX G ?v258 ?e259)
   (Sw.RU KX G ?v260 ?e261)
   (PySem.W.mg_none_of KX G ?z262)
   (PySem.W.mg_none_of KX G ?z263)
   (PySem.W.mg_none_of KX G ?z264)
   (PySem.W.mg_none_of KX G ?z265)
   (PySem.W.mg_none_of KX G ?z266)
   (PySem.W.mg_none_of KX G ?z267)
   (PySem.W.mg_none_of KX G ?z268)
   (PySem.W.mg_none_of KX G ?z269)
   (PySem.W.mg_none_of KX G ?z270)
   (PySem.W.mg_none_of KX G ?z271)
   (PySem.W.mg_none_of KX G ?z272)
   (PySem.W.mg_none_of KX G ?z273)
   (PySem.W.mg_none_of KX G ?z274)
   (PySem.W.mg_none_of KX G ?z275)
   (PySem.W.mg_none_of KX G ?z276)
   (PySem.W.mg_none_of KX G ?z277)
   (PySem.W.mg_none_of KX G ?z278)
   (PySem.W.mg_none_of KX G ?z279)
   (PySem.W.mg_none_of KX G ?z280)) ?aL ?lL ?cL ?kL ?rP ?tP
  case a1|l2|c3|k4|a5|l6|c7|k8|a9|l10|c11|k12|a13|l14|c15|k16|a17|l18|c19|k20|a21|l22|c23|k24|a25|l26|c27|k28|a29|l30|c31|k32|a33|l34|c35|k36|a37|l38|c39|k40|a41|l42|c43|k44|a45|l46|c47|k48|a49|l50|c51|k52|a53|l54|c55|k56|a57|l58|c59|k60|a61|l62|c63|k64|a65|l66|c67|k68|a69|l70|c71|k72|a73|l74|c75|k76=>k_is
  case r77=>rfl
  case l78=>k_is
  case r79=>rfl
  case r80=>rfl
  case a81|l82|c83|k84|a85|l86|c87|k88|a89|l90|c91|k92|a93|l94|c95|k96|a97|l98|c99|k100|a101|l102|c103|k104|a105|l106|c107|k108|a109|l110|c111|k112|a113|l114|c115|k116|a117|l118|c119|k120|a121|l122|c123|k124|a125|l126|c127|k128|a129|l130|c131|k132|a133|l134|c135|k136|a137|l138|c139|k140|a141|l142|c143|k144|a145|l146|c147|k148|a149|l150|c151|k152|a153|l154|c155|k156|q157|g158|g159|g160|g161|n162|n163|n164|n165|n166|n167|a168|i169|l170|c171|k172|g173|k174|a175|i176|l177|c178|k179|a180|i181|l182|c183|k184|a185|i186|l187|c188|k189|a190|i191|l192|c193|k194|a195|i196|l197|c198|k199|a200|i201|l202|c203|k204|a205|i206|l207|c208|k209|a210|i211|l212|c213|k214|q215|g216|g217|g218|g219|n220|n221|n222|n223|a224|i225|l226|c227|k228|g229|k230|a231|i232|l233|c234|k235|a236|i237|l238|c239|k240|a241|i242|l243|c244|k245|a246|i247|l248|c249|k250|a251|i252|l253|c254|k255|v256=>k_is
  case e257=>exact⟨_,rfl⟩
  case v258=>k_is
  case e259=>exact⟨_,rfl⟩
  case v260=>k_is
  case e261=>exact⟨_,rfl⟩
  case z262|z263|z264|z265|z266|z267|z268|z269|z270|z271|z272|z273|z274|z275|z276|z277|z278|z279|z280|aL|lL|cL|kL=>k_is
  case rP=>rfl
  case tP=>kernel_rfl
